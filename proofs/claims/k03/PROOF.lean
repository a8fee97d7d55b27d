import PyProof.Rows.All
import Wide.All
import OpenK.AllK
import Wide.FinOn
import HandS.ForMost
import HandS.ForExc
import HandS.Wide
import HandS.Gcd
import HandS.FStr
import HandS.StrMore
import HandS.IsInst
import HandS.Small
import HandS.CallSlots
import HandS.Flow
import HandS.Codes
import PyProof.ReprRoads
import HandS.RaiseMore
import HandS.Defaults
import HandS.Style
import PySem.Challenge.RW_hadnot_k03_ratios
set_option Elab.async false
set_option linter.all false
set_option maxRecDepth 100000
set_option maxHeartbeats 4000000
namespace L3
open PySem PySem.Spec PyProof.Rows L2

/-! ### numbers -/
def CDivNW (_ j : Int) : Prop := j ≠ 0 ∧ j.natAbs.log2 < 9000
theorem op_fdivNW {X : Cx} : OpR X (binaryOp .FloorDiv) (rI CDivNW fun i j => .int (i.fdiv j)) :=
  opI fun _ _ _ _ _ _ _ hc q => floordiv_int hc.1 q (.inl (PyProof.noPylong_of_log2 hc.2))

/-! ### operators of an own class -/
section
variable {X : Cx} {CX : CXT} {C f : Addr} {fd : FuncData} {ps : List Str} {sp : Sp} {E : XK} {n : Nat} {pins : List (Addr × Obj)} {σ : L2.St}
theorem back_of {Q : VK} {v : Value} {s' : Shared} (h : EP X pins σ Q v s') : PySem.W.CmpBack (EP X pins σ Q) v s' := by
  obtain ⟨x, H', I, r, q⟩ := id h
  cases x with
  | non => cases r; exact h
  | bl b => cases r; exact h
  | int i => obtain ⟨t, rfl⟩ := r; exact h
  | str i => obtain ⟨t, rfl⟩ := r; exact h
  | byt i => obtain ⟨t, rfl⟩ := r; exact h
  | flt i => obtain ⟨t, rfl⟩ := r; exact h
  | ref a => cases r; exact h
  | ty n => cases r; exact h
/-- one op other, both instances of the class at C -/
def rOwn2 (C : Addr) (sp : Sp) (E : XK) : R2 := fun x y H Q => ∃ a b dx dy fs gs, x = .ref a ∧ y = .ref b ∧ H a = some (.ins C dx fs) ∧ H b = some (.ins C dy gs) ∧ sp [x, y] H Q E
theorem op_own2 {op : Operator} (F : FnOk X.prog X.w X.K X.mg X.base CX n f fd ps sp) (hr : Room n X.A) (hb : Binds X.K fd ps []) (hx : Passes CX X E)
    (hc : PySem.W.selfFirst X.K C = true) (hs : PySem.W.findIn X.K (.ref C) (PySem.dunder op.info.2) = some (some (.ref f))) (hf : PySem.W.isFn X.K (.ref f) = true) :
    OpR X (binaryOp op) (rOwn2 C sp E) := by
  intro pins s σ H x y v u Q I rx ry h
  obtain ⟨a, b, dx, dy, fs, gs, rfl, rfl, ha, hb', hq⟩ := h
  cases rx
  cases ry
  obtain ⟨mA, J, _⟩ := ins_get I.hok ha
  obtain ⟨mB, J', _⟩ := ins_get I.hok hb'
  obtain ⟨od, J, _⟩ := J.look
  obtain ⟨od', J', _⟩ := J'.look
  obtain ⟨m, hF⟩ := I.fr
  refine PySem.W.binop_K hF I.ok.mod.kin J J'.type hc hs hf ?_
  exact wpAny_mono (run_fn (us := [.ref a, .ref b]) (vs := [.ref a, .ref b]) F hr hb .nil hx I (.cons rfl (.cons rfl .nil)) (by simpa using hq)) (fun v s' hv => back_of hv) fun _ _ e => e
/-- -one -/
def rOwn1 (C : Addr) (sp : Sp) (E : XK) : V → Hp → VK → Prop := fun x H Q => ∃ a dx fs, x = .ref a ∧ H a = some (.ins C dx fs) ∧ sp [x] H Q E
theorem un_ownNeg (F : FnOk X.prog X.w X.K X.mg X.base CX n f fd ps sp) (hr : Room n X.A) (hb : Binds X.K fd ps []) (hx : Passes CX X E)
    (hs : PySem.W.findIn X.K (.ref C) "__neg__" = some (some (.ref f))) (hf : PySem.W.isFn X.K (.ref f) = true) : UnR X (unaryOp .USub) (rOwn1 C sp E) := by
  intro pins s σ H x v Q I rx h
  obtain ⟨a, dx, fs, rfl, ha, hq⟩ := h
  cases rx
  obtain ⟨mA, J, _⟩ := ins_get I.hok ha
  obtain ⟨od, J, _⟩ := J.look
  obtain ⟨m, hF⟩ := I.fr
  exact PySem.W.ksp_neg hF I.ok.mod.kin J hs hf (run_fn (us := [.ref a]) (vs := [.ref a]) F hr hb .nil hx I (.cons rfl .nil) (by simpa using hq))
/-- one == other by the own __eq__, whatever the other is -/
def rOwnEq (K : PySem.W.Frag) (C : Addr) (sp : Sp) (E : XK) : R2 := fun x y H Q => ∃ a dx fs t, x = .ref a ∧ H a = some (.ins C dx fs) ∧ TyX K H y t ∧ PySem.W.notFirst K C t = true ∧ sp [x, y] H Q E
theorem op_ownEq (F : FnOk X.prog X.w X.K X.mg X.base CX n f fd ps sp) (hr : Room n X.A) (hb : Binds X.K fd ps []) (hx : Passes CX X E)
    (hs : PySem.W.findIn X.K (.ref C) "__eq__" = some (some (.ref f))) (hf : PySem.W.isFn X.K (.ref f) = true) : OpR X (compareOp .Eq) (rOwnEq X.K C sp E) := by
  intro pins s σ H x y v u Q I rx ry h
  obtain ⟨a, dx, fs, t, rfl, ha, ty, hn, hq⟩ := h
  cases rx
  obtain ⟨mA, J, _⟩ := ins_get I.hok ha
  obtain ⟨od, J, _⟩ := J.look
  obtain ⟨m, hF⟩ := I.fr
  obtain ⟨P, Z, p, _⟩ := kit_of I ry ty
  show wpAny (model X.prog X.w) X.A (richCompare .Eq (.ref a) u) (EP X pins σ Q) X.xe s
  refine PySem.W.cmp_K (op := .Eq) hr.units0 hF I.ok.mod.kin J (Z.ty _ _ I.kIn p) hn hs hf ?_
  exact wpAny_mono (run_fn (us := [.ref a, u]) (vs := [.ref a, y]) F hr hb .nil hx I (.cons rfl (.cons ry .nil)) (by simpa using hq)) (fun v s' hv => back_of hv) fun _ _ e => e
/-- the callee runs, a few levels below the body -/
theorem run_fnA {A : Around} {s : Shared} {H : Hp} {Q : VK} {us : List Value} {vs : List V} (F : FnOk X.prog X.w X.K X.mg X.base CX n f fd ps sp) (hr : Room n A) (hfr : A.frames = X.A.frames) (hb : Binds X.K fd ps []) (hx : Passes CX X E)
    (I : Inv X pins σ H s) (r : Vals vs us) (h : sp vs H Q E) : wpAny (model X.prog X.w) A (call (.ref f) us) (EP X pins σ Q) X.xe s := by
  have e0 : Env0 X.prog X.w X.K X.mg X.base A X.stack s H := by
    have e := I.env0
    exact ⟨hfr.trans e.frames, e.mod, e.bs, e.bsz, e.funs, e.frf, e.hok, e.bare⟩
  have hl : us.length = ps.length := r.length.symm.trans (F.len _ _ _ _ h)
  have bb := hb s us I.kIn (by simpa using hl)
  rw [List.append_nil] at bb
  refine wpAny_call (codeAny_mono (F.run A X.stack s H ⟨us, []⟩ us vs Q E hr e0 bb r h) fun res s' hq => ?_)
  match res, hq with
  | .error e, hq => exact hx pins σ H s e s' I hq
  | .ok (.ret w), hq => exact I.after hq
  | .ok .next, hq => exact False.elim hq
  | .ok .brk, hq => exact False.elim hq
  | .ok .cont, hq => exact False.elim hq
end
end L3

namespace L3
open PySem PySem.Spec PyProof.Rows L2
theorem iteB {b : Bool} {A B : Prop} (h1 : b = true → A) (h2 : b = false → B) : if b = true then A else B := by
  cases b with
  | true => exact h1 rfl
  | false => exact iteF (h2 rfl)
theorem iteD {c A B : Prop} [Decidable c] (h1 : c → A) (h2 : ¬ c → B) : if decide c = true then A else B :=
  iteB (fun h => h1 (of_decide_eq_true h)) fun h => h2 (of_decide_eq_false h)
theorem iteN {b : Bool} {A B : Prop} (h1 : b = false → A) (h2 : b = true → B) : if (!b) = true then A else B := by
  cases b with
  | true => exact iteF (h2 rfl)
  | false => exact h1 rfl
theorem bool_call {prog : Program} {w : World} {A : Around} {E : Value → Shared → Prop} {s : Shared} {x : Value} {Q : Value → Shared → Prop}
    (h : wpAny (model prog w) A.in1.in1 (truthy x) (fun b s' => Q (.bool b) s') E s) : wpAny (model prog w) A (call (.type "bool") [x]) Q E s := by
  refine callType_codes (T := "bool") (Bi := Builtin.«object.__init__») (Q₁ := fun r s₁ => ∃ y, r = .bool y ∧ Q r s₁) PySem.F.called_bool (PySem.F.typeCall_bool_1 _) PySem.F.entry_object_init ?_ ?_
  · refine codeAny_of_tree ?_
    show wpAny _ A.in1.in1 (do checkBuiltinCall "bool.__new__" ⟨[.type "bool", x], []⟩; again (.builtin "bool.__new__" ⟨[.type "bool", x], []⟩)) _ _ s
    refine wpAny_bind (wpAny_of_eq (PySem.F.newCall_bool_1 _) (wpAny_pure ⟨plainId_quiet (by decide +kernel) _, codeAny_builtin PySem.F.entry_bool_new ?_⟩))
    rw [Around.under_plainId (by decide +kernel) _]
    unfold Builtin.«bool.__new__»
    have f1 := F.conv_sub_bool
    have h2 : wpAny (model prog w) A.in1.in1 (truthy x) (fun b s' => ∃ y, Value.bool b = .bool y ∧ Q (.bool b) s') E s := wpAny_mono h (fun b s' q => ⟨b, rfl, q⟩) fun _ _ e => e
    obtain ⟨hp, g, d, tk, os⟩ := s
    repeat (any_goals (first | (with_reducible refine wpAny_mono h2 (fun b s' q => ?_) fun _ _ e => e) | wp_step))
    all_goals exact q
  · rintro obj s₁ ⟨y, rfl, hq⟩
    exact ⟨PySem.typeIs_bool _ _, PySem.F.args_object_init_2 _ _, object_init_meets PySem.F.called_bool.init.lookup PySem.F.called_bool.made (by decide) prog w A.in1 _ s₁ ⟨PySem.typeIs_bool _ _, rfl, hq⟩⟩
section
variable {X : Cx} {CX : CXT} {C f : Addr} {fd : FuncData} {ps : List Str} {sp : Sp} {E : XK} {n : Nat}
theorem room2 {A : Around} (h : Room (n + 1) A) : Room n A.in1.in1 :=
  ⟨h.hd, by have := h.dp; show A.depth + 3 * n + 5 < _; omega, by have := h.un; show A.units + 1 + 1 + 16 * n + 200 < _; omega⟩
/-- bool(x), str(x) by the own special method -/
theorem call_boolOwn (F : FnOk X.prog X.w X.K X.mg X.base CX n f fd ps sp) (hr : Room (n + 1) X.A) (hb : Binds X.K fd ps []) (hx : Passes CX X E)
    (hs : PySem.W.findIn X.K (.ref C) "__bool__" = some (some (.ref f))) (hf : PySem.W.isFn X.K (.ref f) = true) :
    CallR X (.type "bool") (fun xs H Q => ∃ a dx fs, xs = [.ref a] ∧ H a = some (.ins C dx fs) ∧ sp [.ref a] H (fun v H' => ∃ b, v = .bl b ∧ Q (.bl b) H') E) := by
  intro pins s σ H xs us Q I r h
  obtain ⟨a, dx, fs, rfl, ha, hq⟩ := h
  obtain ⟨u, rfl, rx⟩ := vals1 r
  cases rx
  obtain ⟨mA, J, _⟩ := ins_get I.hok ha
  obtain ⟨od, J, _⟩ := J.look
  obtain ⟨m, hF⟩ := I.fr
  refine bool_call (PySem.W.truthy_K hF I.ok.mod.kin J hs hf ?_)
  refine wpAny_mono (run_fnA (us := [.ref a]) (vs := [.ref a]) F (room2 hr) rfl hb hx I (.cons rfl .nil) hq) (fun v s' hv => ?_) fun _ _ e => e
  obtain ⟨x, H', I', rx, b, rfl, q⟩ := hv
  cases rx
  exact ⟨.bl b, H', I', rfl, q⟩
theorem call_strOwn (F : FnOk X.prog X.w X.K X.mg X.base CX n f fd ps sp) (hr : Room (n + 1) X.A) (hb : Binds X.K fd ps []) (hx : Passes CX X E)
    (hs : PySem.W.findIn X.K (.ref C) "__str__" = some (some (.ref f))) (hf : PySem.W.isFn X.K (.ref f) = true) :
    CallR X (.type "str") (fun xs H Q => ∃ a dx fs, xs = [.ref a] ∧ H a = some (.ins C dx fs) ∧ sp [.ref a] H (fun v H' => ∃ b, v = .str b ∧ Q (.str b) H') E) := by
  intro pins s σ H xs us Q I r h
  obtain ⟨a, dx, fs, rfl, ha, hq⟩ := h
  obtain ⟨u, rfl, rx⟩ := vals1 r
  cases rx
  obtain ⟨mA, J, _⟩ := ins_get I.hok ha
  obtain ⟨od, J, _⟩ := J.look
  refine PySem.W.kso_call (by have := hr.un; show X.A.units + 1 + 1 < cLine; omega) I.kIn J hs hf ?_
  refine wpAny_mono (run_fnA (us := [.ref a]) (vs := [.ref a]) F (room2 hr) rfl hb hx I (.cons rfl .nil) hq) (fun v s' hv => ?_) fun _ _ e => e
  obtain ⟨x, H', I', rx, b, rfl, q⟩ := hv
  obtain ⟨t, rfl⟩ := rx
  exact ⟨.str b, H', I', ⟨t, rfl⟩, q⟩
/-- repr of a bool -/
def boolText (b : Bool) : Str := if b = true then Str.ofString "True" else Str.ofString "False"
theorem call_reprB : CallR X (.builtin "repr") (fun xs H Q => ∃ b, xs = [.bl b] ∧ Q (.str (boolText b)) H) := by
  intro pins s σ H xs us Q I r h
  obtain ⟨b, rfl, q⟩ := h
  obtain ⟨u, rfl, rx⟩ := vals1 r
  cases rx
  exact PySem.P.repr_of_bool ⟨.str (boolText b), H, I.tok _, ⟨_, rfl⟩, q⟩
theorem foldRep (c : Array Nat) : ∀ (n : Nat) (acc : Array Nat), (List.foldl (· ++ ·) acc (List.replicate n c)).toList = acc.toList ++ (List.replicate n c.toList).flatten
  | 0, acc => by simp
  | n + 1, acc => by
    rw [List.replicate_succ, List.foldl_cons, foldRep c n, Array.toList_append, List.replicate_succ, List.flatten_cons, List.append_assoc]
theorem foldRep_len (c : Array Nat) (n : Nat) : (List.foldl (· ++ ·) #[] (List.replicate n c)).size = n * c.size := by
  have e := congrArg List.length (foldRep c n #[])
  simpa using e
/-- a text a few times -/
def timesS (x : Str) (n : Int) : Str := if n < 1 then Str.empty else ⟨(List.replicate n.toNat x.cps).foldl (· ++ ·) #[]⟩
theorem op_mulS : OpR X (binaryOp .Mult) (fun x y H Q => ∃ a k, x = .str a ∧ y = .int k ∧ -(2 ^ 62) < k ∧ (k ≤ 1 ∨ k < 2 ^ 20 ∧ a.length < 16) ∧ Q (.str (timesS a k)) H) := by
  intro pins s σ H x y v u Q I rx ry h
  obtain ⟨a, k, rfl, rfl, h0, h12, q⟩ := h
  obtain ⟨t, rfl⟩ := rx
  obtain ⟨t', rfl⟩ := ry
  have hl : sizeLine = 16777216 := sizeLine_eq
  refine PySem.P.mul_str (by rw [decide_eq_false (by omega), decide_eq_false (by omega)]; rfl) (fun hk hk1 z => ?_) (fun hk hk1 => ?_) ?_
  · have hk1' : k ≠ 1 := fun e => by rw [e] at hk1; simp at hk1
    obtain ⟨h1, h2⟩ := h12.resolve_left (by omega)
    have z1 : (2 ^ 63 - 1 : Int) / k ≥ 16 := by
      rw [ge_iff_le, Int.le_ediv_iff_mul_le (by omega)]
      omega
    omega
  · have hk1' : k ≠ 1 := fun e => by rw [e] at hk1; simp at hk1
    obtain ⟨h1, h2⟩ := h12.resolve_left (by omega)
    unfold Builtin.Str.tooLong
    have : a.length * k.toNat ≤ 16 * 1048576 := Nat.mul_le_mul (by omega) (by omega)
    rw [decide_eq_false]
    rw [hl]
    omega
  · unfold timesS at q
    by_cases hk : k < 1
    · rw [if_pos hk] at q ⊢
      exact ⟨by decide, .str _, H, I.tok _, ⟨_, rfl⟩, q⟩
    · rw [if_neg hk] at q ⊢
      by_cases h3 : (k == 1 || a.length == 0) = true
      · rw [if_pos h3]
        have e : (⟨(List.replicate k.toNat a.cps).foldl (· ++ ·) #[]⟩ : Str) = a := by
          rcases Bool.or_eq_true_iff.mp h3 with e | e
          · have e' : k = 1 := by simpa using e
            subst e'
            simp
          · have e' : a.length = 0 := by simpa using e
            have e2 : a.cps = #[] := by
              have : a.cps.size = 0 := e'
              exact Array.eq_empty_of_size_eq_zero this
            have g : ∀ n : Nat, (List.replicate n a.cps).foldl (· ++ ·) #[] = #[] := by
              intro n
              rw [e2]
              induction n with
              | zero => rfl
              | succ n ih => simpa [List.replicate_succ] using ih
            rw [g]
            cases a
            simp at e2
            rw [e2]
        rw [e] at q
        exact ⟨.str _, H, I, ⟨_, rfl⟩, q⟩
      · rw [if_neg h3]
        refine ⟨?_, .str _, H, I.tok _, ⟨_, rfl⟩, q⟩
        show (List.foldl (· ++ ·) #[] (List.replicate k.toNat a.cps)).size ≤ sizeLine
        rw [foldRep_len, hl]
        have hk1' : k ≠ 1 := fun e => h3 (by rw [e]; rfl)
        obtain ⟨h1, h2⟩ := h12.resolve_left (by omega)
        have h4 : a.cps.size < 16 := h2
        have : k.toNat * a.cps.size ≤ 1048576 * 16 := Nat.mul_le_mul (by omega) (by omega)
        omega
/-- X(), X an own exception class without own __init__ -/
theorem pmk_own0 {bmB : List Value} {B newId initId : String} {x : Str} {p pos : Pos} (F : ExcBaseFacts B newId initId bmB) (q : PySem.W.excIn X.K C bmB newId = true) (gC : X.mg x = some (.ref C))
    (kC : PySem.W.keepIn X.K (.ref C) = true) (r : Raises X (.ref C)) (hg : Gl X x) (hdb : (x == ("__debug__" : Str)) = false := by decide) :
    PMk X (.Call (.Name x p) [] [] pos) (fun _ H Q => Q (.ref C) none H) := by
  intro pins s σ H Q I h
  refine wpAny_Call_Name_kw (ld_glob I hg gC ?_ hdb)
  refine PySem.W.callWith_K0 I.kIn kC ?_
  obtain ⟨bm, N, nm, qn, bs, hdct, sn, sub, ab, col, dd, k0, k1, k2, k3, k5, mN, hC, hN, hni, T⟩ := exc_obj I.kIn q
  exact wpAny_call_exc_subT F T hC hN hni (fun h' e hm => mk_of I hm r h (I.hok.gone hm.new)) (Nat.zero_le _)
/-- C(..) where what __init__ raises is wished for at the caller's slots -/
def tMakeS (C : Addr) (sp : Sp) (dvs : List V) (E : L2.St → XK) (t : TA) : TE := fun σ H Q => t σ H fun vs H1 => ∀ x dx, H1 x = none → H1 dx = none → dx ≠ x →
  sp (.ref x :: (vs ++ dvs)) (upd (upd H1 dx (.own x)) x (.ins C dx [])) (fun v H2 => v = .non ∧ Q (.ref x) H2) (E σ)
theorem pe_makeS {E : L2.St → XK} {dvs : List V} {ds : List Value} {k : Nat} {x : Str} {p pos : Pos} {e : Expr} {es : List Expr} {t : TA} (M : Mk X.K C f) (F : FnOk X.prog X.w X.K X.mg X.base CX k f fd ps sp) (hr : Room (k + 1) X.A) (hg : Gl X x)
    (hm : X.mg x = some (.ref C)) (hb : Binds X.K fd ps ds) (hd : Vals dvs ds) (hx : ∀ σ, PassesAt CX X σ (E σ))
    (ha : PA X (e :: es) t) (hdb : (x == ("__debug__" : Str)) = false := by decide) (he : starEach (e :: es) X.env = (false, eval e X.env) :: starEach es X.env := by rfl) (hpl : (backTo pos (starEach es X.env)).any (·.1) = false := by rfl) :
    PE X (.Call (.Name x p) (e :: es) [] pos) (tMakeS C sp dvs E t) := by
  refine ⟨fun pins s0 σ H0 Q I0 h0 => ?_⟩
  refine wpAny_Call_Name_kw (ld_glob I0 hg hm ?_ hdb)
  refine PySem.W.callWith_K (h₀ := X.base) I0.ok.mod.kin M.kp (thn (ha.run pos pins s0 σ H0 _ I0 h0) fun us s ⟨vs, H, I, r, h⟩ => ⟨I.kIn, ?_⟩) he hpl
  have q0 := h (s.heap.objs.size + 1) s.heap.objs.size (I.hok.fresh (Nat.le_succ _)) (I.hok.fresh (Nat.le_refl _)) (Nat.ne_of_lt (Nat.lt_succ_self _))
  have J := Inv.made (C := C) I
  have rr : Vals (V.ref (s.heap.objs.size + 1) :: (vs ++ dvs)) (Value.ref (s.heap.objs.size + 1) :: (us ++ ds)) := .cons rfl (r.append hd)
  have hl : (Value.ref (s.heap.objs.size + 1) :: us ++ ds).length = ps.length := rr.length.symm.trans (F.len _ _ _ _ q0)
  refine wpAny_call (make_map (f := f) I.kIn M.makes M.init (beq_iff_eq.mp M.fn) (codeAny_mono
    (F.run _ X.stack _ _ ⟨Value.ref (s.heap.objs.size + 1) :: us, []⟩ (Value.ref (s.heap.objs.size + 1) :: (us ++ ds)) _ _ (E σ) (hr.make C us []) (J.env0.make C us []) (hb _ (Value.ref (s.heap.objs.size + 1) :: us) J.kIn hl) rr q0) fun res s' hq => ?_))
  match res, hq with
  | .error e, hq => exact hx σ pins _ _ e s' J hq
  | .ok (.ret u), hq =>
    obtain ⟨v, H', I3, rv, ev, q3⟩ := J.after hq
    subst ev
    exact ⟨rv, ⟨V.ref (s.heap.objs.size + 1), H', I3, rfl, q3⟩⟩
  | .ok .next, hq => exact False.elim hq
  | .ok .brk, hq => exact False.elim hq
  | .ok .cont, hq => exact False.elim hq
end
end L3

namespace R3
def lowC (t b : Int) : Int := if b < 0 then -((Nat.gcd t.natAbs b.natAbs : Nat) : Int) else ((Nat.gcd t.natAbs b.natAbs : Nat) : Int)
def lowT (t b : Int) : Int := t.fdiv (lowC t b)
def lowB (t b : Int) : Int := b.fdiv (lowC t b)
structure Canon (t b : Int) : Prop where
  pos : 0 < b
  cop : Nat.gcd t.natAbs b.natAbs = 1
theorem lowC_abs (t b : Int) : (lowC t b).natAbs = Nat.gcd t.natAbs b.natAbs := by
  unfold lowC
  split <;> simp
theorem lowC_ne {t b : Int} (h : b ≠ 0) : lowC t b ≠ 0 := by
  intro e
  have e1 := lowC_abs t b
  rw [e] at e1
  have e2 : Nat.gcd t.natAbs b.natAbs = 0 := e1.symm
  rw [Nat.gcd_eq_zero_iff] at e2
  omega
theorem low_parts {t b : Int} (h : b ≠ 0) : t = lowT t b * lowC t b ∧ b = lowB t b * lowC t b := by
  have hc := lowC_ne (t := t) h
  have d1 : lowC t b ∣ t := by
    rw [← Int.natAbs_dvd_natAbs, lowC_abs]
    exact Nat.gcd_dvd_left _ _
  have d2 : lowC t b ∣ b := by
    rw [← Int.natAbs_dvd_natAbs, lowC_abs]
    exact Nat.gcd_dvd_right _ _
  constructor
  · obtain ⟨k, e⟩ := d1
    unfold lowT
    have e1 : t.fdiv (lowC t b) = k := by
      conv => lhs; arg 1; rw [e]
      rw [Int.mul_comm]
      exact Int.mul_fdiv_cancel _ hc
    rw [e1, Int.mul_comm]
    exact e
  · obtain ⟨k, e⟩ := d2
    unfold lowB
    have e1 : b.fdiv (lowC t b) = k := by
      conv => lhs; arg 1; rw [e]
      rw [Int.mul_comm]
      exact Int.mul_fdiv_cancel _ hc
    rw [e1, Int.mul_comm]
    exact e
theorem low_size {t b : Int} (h : b ≠ 0) : (lowT t b).natAbs ≤ t.natAbs ∧ (lowB t b).natAbs ≤ b.natAbs := by
  obtain ⟨e1, e2⟩ := low_parts (t := t) h
  have hc : 0 < (lowC t b).natAbs := Int.natAbs_pos.mpr (lowC_ne h)
  constructor
  · conv => rhs; rw [e1, Int.natAbs_mul]
    exact Nat.le_mul_of_pos_right _ hc
  · conv => rhs; rw [e2, Int.natAbs_mul]
    exact Nat.le_mul_of_pos_right _ hc
theorem canon_low {t b : Int} (h : b ≠ 0) : Canon (lowT t b) (lowB t b) := by
  obtain ⟨e1, e2⟩ := low_parts (t := t) h
  have hc : 0 < (lowC t b).natAbs := Int.natAbs_pos.mpr (lowC_ne h)
  refine ⟨?_, ?_⟩
  · rcases Int.lt_trichotomy (lowB t b) 0 with n | n | n
    · exfalso
      by_cases hb : b < 0
      · have : lowC t b < 0 := by
          have := lowC_ne (t := t) h
          unfold lowC at this ⊢
          rw [if_pos hb] at this ⊢
          omega
        have := Int.mul_pos_of_neg_of_neg n this
        omega
      · have : 0 < lowC t b := by
          have := lowC_ne (t := t) h
          unfold lowC at this ⊢
          rw [if_neg hb] at this ⊢
          omega
        have := Int.mul_neg_of_neg_of_pos n this
        omega
    · exfalso
      rw [n] at e2
      omega
    · exact n
  · have g : Nat.gcd (lowT t b * lowC t b).natAbs (lowB t b * lowC t b).natAbs = (lowC t b).natAbs := by
      rw [← e1, ← e2, lowC_abs]
    rw [Int.natAbs_mul, Int.natAbs_mul, Nat.gcd_mul_right] at g
    exact Nat.eq_of_mul_eq_mul_right hc (by rw [g, Nat.one_mul])
theorem low_canon {t b : Int} (h : Canon t b) : lowT t b = t ∧ lowB t b = b := by
  have e : lowC t b = 1 := by
    unfold lowC
    rw [if_neg (by have := h.pos; omega), h.cop]
    rfl
  unfold lowT lowB
  rw [e]
  exact ⟨Int.fdiv_one _, Int.fdiv_one _⟩
theorem low_scale {t b p : Int} (hp : 0 < p) : lowT (t * p) (b * p) = lowT t b ∧ lowB (t * p) (b * p) = lowB t b := by
  have e : lowC (t * p) (b * p) = p * lowC t b := by
    unfold lowC
    rw [Int.natAbs_mul, Int.natAbs_mul, Nat.gcd_mul_right]
    have ep : ((p.natAbs : Nat) : Int) = p := Int.natAbs_of_nonneg (Int.le_of_lt hp)
    by_cases hb : b < 0
    · rw [if_pos hb, if_pos (Int.mul_neg_of_neg_of_pos hb hp), Int.natCast_mul, ep, Int.mul_comm, Int.mul_neg]
    · rw [if_neg hb, if_neg (by have := Int.mul_nonneg (show 0 ≤ b by omega) (Int.le_of_lt hp); omega), Int.natCast_mul, ep, Int.mul_comm]
  unfold lowT lowB
  rw [e, Int.mul_comm t p, Int.mul_comm b p]
  exact ⟨Int.mul_fdiv_mul_of_pos _ _ hp, Int.mul_fdiv_mul_of_pos _ _ hp⟩
theorem lowC_pos {t b : Int} (h : 0 < b) : 0 < lowC t b := by
  have h1 := lowC_ne (t := t) (show b ≠ 0 by omega)
  unfold lowC at h1 ⊢
  rw [if_neg (by omega)] at h1 ⊢
  omega
theorem Canon.neg {t b : Int} (h : Canon t b) : Canon (-t) b := ⟨h.pos, by rw [Int.natAbs_neg]; exact h.cop⟩
theorem canon_one (t : Int) : Canon t 1 := ⟨by decide, by simp⟩
theorem canon_eq {a b c d : Int} (h : Canon a b) (k : Canon c d) (e : a * d = c * b) : a = c ∧ b = d := by
  have e' : a.natAbs * d.natAbs = c.natAbs * b.natAbs := by rw [← Int.natAbs_mul, ← Int.natAbs_mul, e]
  have h1 : Nat.Coprime b.natAbs a.natAbs := Nat.Coprime.symm h.cop
  have k1 : Nat.Coprime d.natAbs c.natAbs := Nat.Coprime.symm k.cop
  have d1 : b.natAbs ∣ d.natAbs := h1.dvd_of_dvd_mul_left (by rw [e']; exact Nat.dvd_mul_left _ _)
  have d2 : d.natAbs ∣ b.natAbs := k1.dvd_of_dvd_mul_left (by rw [← e']; exact Nat.dvd_mul_left _ _)
  have eb := Nat.dvd_antisymm d1 d2
  have hb := h.pos
  have kb := k.pos
  have ebd : b = d := by omega
  subst ebd
  exact ⟨Int.eq_of_mul_eq_mul_right (by omega) e, rfl⟩
theorem canon_iff {a b c d : Int} (h : Canon a b) (k : Canon c d) : (decide (a = c) && decide (b = d)) = decide (a * d = c * b) := by
  by_cases e : a * d = c * b
  · obtain ⟨rfl, rfl⟩ := canon_eq h k e
    simp
  · have : ¬ (a = c ∧ b = d) := by
      rintro ⟨rfl, rfl⟩
      exact e rfl
    rw [decide_eq_false e]
    by_cases h1 : a = c
    · have h2 : ¬ b = d := fun q => this ⟨h1, q⟩
      rw [decide_eq_false h2, Bool.and_false]
    · rw [decide_eq_false h1, Bool.false_and]
/-- the product of a reduced sum and another fraction is that of the sum itself -/
theorem low_prod {S B x y : Int} (hB : 0 < B) : lowT (lowT S B * x) (lowB S B * y) = lowT (S * x) (B * y) ∧ lowB (lowT S B * x) (lowB S B * y) = lowB (S * x) (B * y) := by
  obtain ⟨e1, e2⟩ := low_parts (t := S) (b := B) (by omega)
  have hc := lowC_pos (t := S) hB
  have q1 : S * x = lowT S B * x * lowC S B := by
    conv => lhs; arg 1; rw [e1]
    rw [Int.mul_assoc, Int.mul_comm (lowC S B) x, ← Int.mul_assoc]
  have q2 : B * y = lowB S B * y * lowC S B := by
    conv => lhs; arg 1; rw [e2]
    rw [Int.mul_assoc, Int.mul_comm (lowC S B) y, ← Int.mul_assoc]
  have := low_scale (t := lowT S B * x) (b := lowB S B * y) hc
  rw [q1, q2]
  exact ⟨this.1.symm, this.2.symm⟩
end R3

namespace R3
open PySem L2 L3
def top (i : Nat) : Stmt := PySem.Challenge.pw_hadnot_k03_ratios.main.body.getD i (.Pass ⟨0, 0, 0, 0⟩)
abbrev sInit : Stmt := inClass (top 5) 0
abbrev sEq : Stmt := inClass (top 5) 1
abbrev sBool : Stmt := inClass (top 5) 2
abbrev sStr : Stmt := inClass (top 5) 3
abbrev sAdd : Stmt := inClass (top 5) 4
abbrev sSub : Stmt := inClass (top 5) 5
abbrev sMul : Stmt := inClass (top 5) 6
abbrev sNeg : Stmt := inClass (top 5) 7
abbrev sBelow : Stmt := inClass (top 5) 8
abbrev sPad : Stmt := inClass (top 5) 9
abbrev sFeed : Stmt := top 7
abbrev sTake : Stmt := top 8
abbrev sSame : Stmt := top 9
abbrev sLow : Stmt := top 10
abbrev sParts : Stmt := top 11
abbrev sMade : Stmt := top 12
abbrev sPair : Stmt := top 13
abbrev sLaw : Stmt := top 14

/-! ### the ratio in the heap -/
theorem kTB : ¬ (("top" : Str) = "bottom") := by decide +kernel
theorem kBT : ¬ (("bottom" : Str) = "top") := by decide +kernel
def rf (t b : Int) : List (Str × V) := putF "bottom" (.int b) (putF "top" (.int t) [])
theorem rf_top (t b : Int) : (rf t b).lookup ("top" : Str) = some (.int t) := by
  unfold rf
  rw [lookup_putF, if_neg kTB, lookup_putF, if_pos rfl]
theorem rf_bot (t b : Int) : (rf t b).lookup ("bottom" : Str) = some (.int b) := by
  unfold rf
  rw [lookup_putF, if_pos rfl]
theorem rf_no (t b : Int) {m : Str} (h1 : ¬ m = "top") (h2 : ¬ m = "bottom") : (rf t b).lookup m = none := by
  unfold rf
  rw [lookup_putF, if_neg h2, lookup_putF, if_neg h1]
  all_goals rfl
def RatAt (C : Addr) (H : Hp) (p : Addr) (t b : Int) : Prop := ∃ dx, H p = some (.ins C dx (rf t b))
theorem RatAt.same {C : Addr} {H H' : Hp} {p : Addr} {t b : Int} (s : Same H H') (h : RatAt C H p t b) : RatAt C H' p t b := let ⟨dx, e⟩ := h; ⟨dx, s _ _ e⟩
abbrev Sm (n : Nat) (x : Int) : Prop := x.natAbs < 2 ^ n
theorem Sm.mono {n m : Nat} {x : Int} (h : Sm n x) (l : n ≤ m) : Sm m x := Nat.lt_of_lt_of_le h (Nat.pow_le_pow_right (by decide) l)
theorem Sm.le {n : Nat} {x y : Int} (h : Sm n y) (l : x.natAbs ≤ y.natAbs) : Sm n x := Nat.lt_of_le_of_lt l h
theorem Sm.mul {n m : Nat} {x y : Int} (h : Sm n x) (k : Sm m y) : Sm (n + m) (x * y) := wide_lt h k
theorem Sm.add {n : Nat} {x y : Int} (h : Sm n x) (k : Sm n y) : Sm (n + 1) (x + y) := by
  have e : (2 : Nat) ^ (n + 1) = 2 ^ n + 2 ^ n := by rw [Nat.pow_succ]; omega
  show (x + y).natAbs < 2 ^ (n + 1)
  rw [e]
  have h1 : x.natAbs < 2 ^ n := h
  have h2 : y.natAbs < 2 ^ n := k
  omega
theorem Sm.neg {n : Nat} {x : Int} (h : Sm n x) : Sm n (-x) := by
  show (-x).natAbs < 2 ^ n
  rw [Int.natAbs_neg]
  exact h
theorem Sm.sub {n : Nat} {x y : Int} (h : Sm n x) (k : Sm n y) : Sm (n + 1) (x - y) := by
  rw [Int.sub_eq_add_neg]
  exact h.add k.neg
theorem Sm.log {n k : Nat} {x : Int} (h : Sm n x) (h0 : 0 < n) (hk : n ≤ k) : x.natAbs.log2 < k := Nat.lt_of_lt_of_le (PySem.Flt.log2_lt_of h0 h) hk
theorem Sm.mulW {n m : Nat} {x y : Int} (h : Sm n x) (k : Sm m y) (h0 : 0 < n) (h1 : 0 < m) (hl : n + m ≤ 1000000) : CMulW x y := wide_mul h k h0 h1 hl

/-! ### promises -/
def spInit (C CN : Addr) : Sp := fun vs H Q E => ∃ (p dx : Addr) (t b : Int), vs = [.ref p, .int t, .int b] ∧ H p = some (.ins C dx []) ∧ Sm 900 t ∧ Sm 900 b ∧
  (b = 0 → E (.ref CN) none H) ∧ (b ≠ 0 → ∀ H' : Hp, RatAt C H' p (lowT t b) (lowB t b) → (∀ q o, H q = some o → q ≠ p → H' q = some o) → Q .non H')
/-- the two fields of the receiver: what most methods read -/
def spUn (C : Addr) (R : Int → Int → Hp → VK → Prop) : Sp := fun vs H Q _ => ∃ (p : Addr) (t b : Int), vs = [.ref p] ∧ RatAt C H p t b ∧ Sm 200 t ∧ Sm 200 b ∧ R t b H Q
/-- a new ratio comes out, all else stands -/
def NewRat (C : Addr) (t b : Int) : Hp → VK → Prop := fun H Q => ∀ (q : Addr) (H' : Hp), H q = none → Same H H' → RatAt C H' q t b → Q (.ref q) H'
def spNeg (C : Addr) : Sp := spUn C fun t b H Q => b ≠ 0 ∧ NewRat C (lowT (-t) b) (lowB (-t) b) H Q
def spBool (C : Addr) : Sp := spUn C fun t b H Q => Q (.bl (t != 0)) H
def iT (i : Int) : Str := Str.ofString (toString i)
def ratText (t b : Int) : Str := if b = 1 then iT t else ((Str.empty ++ iT t) ++ Str.ofString "/") ++ iT b
def spStr (C : Addr) : Sp := spUn C fun t b H Q => Q (.str (ratText t b)) H
def sp2 (C : Addr) (f g : Int → Int → Int → Int → Int) : Sp := fun vs H Q _ => ∃ (p q : Addr) (a b c d : Int), vs = [.ref p, .ref q] ∧ RatAt C H p a b ∧ RatAt C H q c d ∧ Sm 200 a ∧ Sm 200 b ∧ Sm 200 c ∧ Sm 200 d ∧ b * d ≠ 0 ∧
  NewRat C (lowT (f a b c d) (g a b c d)) (lowB (f a b c d) (g a b c d)) H Q
def spAdd (C : Addr) : Sp := sp2 C (fun a b c d => a * d + c * b) fun _ b _ d => b * d
def spSub (C : Addr) : Sp := sp2 C (fun a b c d => a * d - c * b) fun _ b _ d => b * d
def spMul (C : Addr) : Sp := sp2 C (fun a _ c _ => a * c) fun _ b _ d => b * d
def spBelow (C : Addr) : Sp := fun vs H Q _ => ∃ (p q : Addr) (a b c d : Int), vs = [.ref p, .ref q] ∧ RatAt C H p a b ∧ RatAt C H q c d ∧ Sm 200 a ∧ Sm 200 b ∧ Sm 200 c ∧ Sm 200 d ∧ Q (.bl (decide (a * d < c * b))) H
def spPad (C : Addr) : Sp := fun vs H Q _ => ∃ (p : Addr) (t b w : Int), vs = [.ref p, .int w] ∧ RatAt C H p t b ∧ Sm 200 t ∧ Sm 200 b ∧ 0 ≤ w ∧ w ≤ 1000 ∧ Q (.str (Txt.rjust (ratText t b) w)) H
/-- == of a ratio and a ratio, or a value that is none: an int, a text, a tuple -/
def spEq (C : Addr) : Sp := fun vs H Q _ => ∃ (p : Addr) (a b : Int) (y : V), vs = [.ref p, y] ∧ RatAt C H p a b ∧
  ((∃ (q : Addr) (c d : Int), y = .ref q ∧ RatAt C H q c d ∧ Q (.bl (decide (a = c) && decide (b = d))) H) ∨
   (((∃ i, y = .int i) ∨ (∃ x, y = .str x) ∨ ∃ q xs, y = .ref q ∧ H q = some (.tup xs)) ∧ Q (.bl false) H))

/-- what the top has written -/
structure Txt (K : PySem.W.Frag) (mg : Str → Option Value) (C CN : Addr) : Prop where
  cl : Cls K C
  nT : NoAttr K C "top"
  nB : NoAttr K C "bottom"
  gC : mg "Ratio" = some (.ref C)
  gN : mg "NoRatio" = some (.ref CN)
  gcd : mg "gcd" = some (.builtin "math.gcd")
  xN : PySem.W.excIn K CN [.type "ValueError", .type "Exception", .type "BaseException", .type "object"] "ValueError.__new__" = true
  kN : PySem.W.keepIn K (.ref CN) = true
  bN : PySem.W.subIn K (.ref CN) (.type "BaseException") = some true
  tN : PySem.W.typeIn K (.ref CN) = some (.type "type")
  eN : PySem.W.exmOne K (.ref CN) (.ref CN) = some true
  sf : PySem.W.selfFirst K C = true
  cA : PySem.W.findIn K (.ref C) "__class__" = some (some (.builtin "object.__class__"))
  cG : PySem.W.specialIn K (.builtin "object.__class__") "__get__" = some (some (.builtin "getset_descriptor.__get__"))
  cT : PySem.W.takesIn K (.builtin "object.__class__") = some true
  cM : PySem.W.mroIn K C (.type "object") = some true
  kCC : PySem.W.kitOne K (.ref C) (.ref C) = some true
  kI : PySem.W.kitOne K (.type "int") (.ref C) = some false
  kS : PySem.W.kitOne K (.type "str") (.ref C) = some false
  kT : PySem.W.kitOne K (.type "tuple") (.ref C) = some false
  fI : PySem.W.notFirst K C (.type "int") = true
  fS : PySem.W.notFirst K C (.type "str") = true
  fT : PySem.W.notFirst K C (.type "tuple") = true
  fC : PySem.W.notFirst K C (.ref C) = true
  zIsi : mg "isinstance" = none
  zStr : mg "str" = none
  zBool : mg "bool" = none
  zRepr : mg "repr" = none
  zAbs : mg "abs" = none
  zLen : mg "len" = none
  zMax : mg "max" = none
  zMin : mg "min" = none
  zRng : mg "range" = none
  zInt : mg "int" = none
section
variable {P : Program} {w : World} {K : PySem.W.Frag} {mg : Str → Option Value} {base : Heap} {C CN : Addr}
/-- the def with its default -/
abbrev FInit (K : PySem.W.Frag) (f : Addr) (fd : FuncData) : Prop := FunD K "__init__" "Ratio.__init__" (defArgs sInit) (defBody sInit) (defScope sInit) [V.int 1] [] f fd
theorem scI : FnScope ["self", "top", "bottom", "common"] ["self", "top", "bottom"] (defScope sInit) := ⟨rfl, rfl, rfl, by decide +kernel, rfl, by decide +kernel, by decide +kernel⟩
theorem ok_init {f : Addr} {fd : FuncData} (F : FInit K f fd) (T : Txt K mg C CN) : FnOk P w K mg base (L2.CX P w) 1 f fd ["self", "top", "bottom"] (spInit C CN) := by
  refine F.ok scI (fun vs H Q E h => ?_) (fun cdv A outer s H vs Q E hr h => ?_)
  · obtain ⟨p, dx, t, b, rfl, _⟩ := h
    rfl
  · obtain ⟨p, dx, t, b, rfl, hp, st, sb, kN, kS⟩ := h
    refine ⟨_, pss_cons (ps_if (pt_cmpR op_eq (pv 2) pe_int (nomark _)) (pss_one (ps_raise rfl (takes_of rfl rfl rfl rfl) (pmk_own0 PySem.F.excBase_ValueError T.xN T.gN T.kN (raises_own T.bN T.tN) (by exact rfl)))) pss_nil)
      (PSs.nox (pss_cons (ps_set (i := 3) scI.nd rfl (Or.inl rfl) (pe_callBfun cr_gcd rfl T.gcd (pa_cons (pv 1) (pa_cons (pv 2) pa_nil))))
      (pss_cons (ps_if (pt_cmpR op_lt (pv 2) pe_int (nomark _)) (pss_one (ps_set (i := 3) scI.nd rfl (Or.inl rfl) (pe_un un_neg (pv 3)))) pss_nil)
      (pss_cons (ps_fld (pv 0) (pe_op op_fdivNW (pv 1) (pv 3)) rfl)
      (pss_one (ps_fld (pv 0) (pe_op op_fdivNW (pv 2) (pv 3)) rfl)))))), ?_⟩
    refine ⟨_, rfl, rfl, _, rfl, ?_⟩
    refine iteD (fun hb => kN (V.int.inj hb)) (fun hb => ?_)
    · have hb : b ≠ 0 := fun z => hb (congrArg V.int z)
      refine ⟨_, rfl, _, rfl, t, b, rfl, ?_⟩
      -- both ways of the sign end in the same slot
      have fin : ∀ c : Int, c = lowC t b → tSeq (sFld K (tVar 0) (tOp (rI CDivNW fun i j => .int (i.fdiv j)) (tVar 1) (tVar 3)) "top") (sFld K (tVar 0) (tOp (rI CDivNW fun i j => .int (i.fdiv j)) (tVar 2) (tVar 3)) "bottom")
          { nx := fun _ H' => Q .non H', rt := Q } [some (.ref p), some (.int t), some (.int b), some (.int c)] H := by
        intro c hc
        have h0 : c ≠ 0 := by rw [hc]; exact lowC_ne hb
        have hs : c.natAbs.log2 < 9000 := by
          refine Sm.log (n := 900) ?_ (by decide) (by decide)
          show c.natAbs < 2 ^ 900
          rw [hc, lowC_abs]
          exact Nat.lt_of_le_of_lt (Nat.le_of_dvd (Int.natAbs_pos.mpr hb) (Nat.gcd_dvd_right _ _)) sb
        refine ⟨_, rfl, _, rfl, t, c, rfl, rfl, ⟨h0, hs⟩, _, rfl, p, C, dx, [], rfl, hp, T.cl, T.nT, (by show 0 < 1000; decide), ?_⟩
        refine ⟨_, rfl, _, rfl, b, c, rfl, rfl, ⟨h0, hs⟩, _, rfl, p, C, dx, _, rfl, upd_same, T.cl, T.nB, (by show 1 < 1000; decide), ?_⟩
        refine kS hb _ ⟨dx, ?_⟩ fun q o e hq => by rw [upd_ne hq, upd_ne hq]; exact e
        rw [upd_same, hc]
        rfl
      refine ⟨_, rfl, b, 0, rfl, rfl, _, rfl, ?_⟩
      refine iteD (fun hn => ?_) (fun hn => ?_)
      · refine ⟨_, rfl, _, rfl, ?_⟩
        exact fin _ (by unfold lowC; rw [if_pos hn])
      · exact fin _ (by unfold lowC; rw [if_neg hn])
end
end R3

namespace R3
open PySem L2 L3
section
variable {P : Program} {w : World} {K : PySem.W.Frag} {mg : Str → Option Value} {base : Heap} {C CN : Addr}
theorem len_app (x y : Str) : (x ++ y).length = x.length + y.length := by
  obtain ⟨a⟩ := x
  obtain ⟨b⟩ := y
  show (a ++ b).size = _
  simp [Str.length]
theorem iT_len {i : Int} (h : Sm 200 i) : (iT i).length ≤ 1921 := PyProof.Rows.int_text_len_1921 (Sm.log h (by decide) (by decide))
theorem size_ok {n : Nat} (h : n ≤ 100000) : n ≤ sizeLine := by rw [sizeLine_eq]; omega
theorem scB : FnScope ["self"] ["self"] (defScope sBool) := ⟨rfl, rfl, rfl, by decide +kernel, rfl, by decide +kernel, by decide +kernel⟩
theorem ok_bool {f : Addr} {fd : FuncData} (F : Fun K "__bool__" "Ratio.__bool__" sBool f fd) (T : Txt K mg C CN) : FnOk P w K mg base CX0 1 f fd ["self"] (spBool C) := by
  refine F.ok scB (fun vs H Q E h => ?_) (fun cdv A outer s H vs Q E hr h => ?_)
  · obtain ⟨p, t, b, rfl, _⟩ := h
    rfl
  · obtain ⟨p, t, b, rfl, ⟨dx, hp⟩, st, sb, k⟩ := h
    refine ⟨_, pss_one (ps_ret (pe_callTy call_bool1 (by rfl) T.zBool PyProof.Rows.boot_bool (pa_cons (pe_fld (pv 0) rfl) pa_nil))), ?_⟩
    refine ⟨_, rfl, p, C, dx, _, _, rfl, hp, T.cl, T.nT, rf_top _ _, .inl ⟨t, rfl, k⟩⟩
theorem scS : FnScope ["self"] ["self"] (defScope sStr) := ⟨rfl, rfl, rfl, by decide +kernel, rfl, by decide +kernel, by decide +kernel⟩
theorem ok_str {f : Addr} {fd : FuncData} (F : Fun K "__str__" "Ratio.__str__" sStr f fd) (T : Txt K mg C CN) : FnOk P w K mg base CX0 1 f fd ["self"] (spStr C) := by
  refine F.ok scS (fun vs H Q E h => ?_) (fun cdv A outer s H vs Q E hr h => ?_)
  · obtain ⟨p, t, b, rfl, _⟩ := h
    rfl
  · obtain ⟨p, t, b, rfl, ⟨dx, hp⟩, st, sb, k⟩ := h
    refine ⟨_, pss_cons (ps_if (pt_cmpR op_eq (pe_fld (pv 0) rfl) pe_int (nomark _)) (pss_one (ps_ret (pe_callTy call_str_int (by rfl) T.zStr PyProof.Rows.boot_str (pa_cons (pe_fld (pv 0) rfl) pa_nil)))) pss_nil)
      (pss_one (ps_ret (pe_joined (.cons (pe_fmt (pe_fld (pv 0) rfl)) (.cons pe_str (.cons (pe_fmt (pe_fld (pv 0) rfl)) .nil)))))), ?_⟩
    refine ⟨_, rfl, p, C, dx, _, _, rfl, hp, T.cl, T.nB, rf_bot _ _, rfl, _, rfl, ?_⟩
    refine iteD (fun hb => ?_) (fun hb => ?_)
    · refine ⟨_, rfl, p, C, dx, _, _, rfl, hp, T.cl, T.nT, rf_top _ _, t, rfl, Sm.log st (by decide) (by decide), ?_⟩
      unfold ratText at k
      rw [if_pos (V.int.inj hb)] at k
      exact k
    · unfold ratText at k
      rw [if_neg (fun z => hb (congrArg V.int z))] at k
      have l1 := iT_len st
      have l2 := iT_len sb
      have l0 : (Str.ofString "/").length = 1 := by decide
      have le : Str.empty.length = 0 := by decide
      refine ⟨_, rfl, p, C, dx, _, _, rfl, hp, T.cl, T.nT, rf_top _ _, .inr ⟨t, rfl, Sm.log st (by decide) (by decide), iT t, rfl, ?_, ?_⟩⟩
      · rw [len_app, le]; exact size_ok (by omega)
      · refine ⟨_, rfl, ?_, ?_⟩
        · rw [len_app, len_app, le, l0]; exact size_ok (by omega)
        · refine ⟨_, rfl, p, C, dx, _, _, rfl, hp, T.cl, T.nB, rf_bot _ _, .inr ⟨b, rfl, Sm.log sb (by decide) (by decide), iT b, rfl, ?_, k⟩⟩
          rw [len_app, len_app, len_app, le, l0]; exact size_ok (by omega)
theorem scBe : FnScope ["self", "other"] ["self", "other"] (defScope sBelow) := ⟨rfl, rfl, rfl, by decide +kernel, rfl, by decide +kernel, by decide +kernel⟩
theorem ok_below {f : Addr} {fd : FuncData} (F : Fun K "below" "Ratio.below" sBelow f fd) (T : Txt K mg C CN) : FnOk P w K mg base CX0 1 f fd ["self", "other"] (spBelow C) := by
  refine F.ok scBe (fun vs H Q E h => ?_) (fun cdv A outer s H vs Q E hr h => ?_)
  · obtain ⟨p, q, a, b, c, d, rfl, _⟩ := h
    rfl
  · obtain ⟨p, q, a, b, c, d, rfl, ⟨dx, hp⟩, ⟨dy, hq⟩, sa, sb, sc, sd, k⟩ := h
    refine ⟨_, pss_one (ps_ret (pe_cmpR op_lt (pe_op op_mulW (pe_fld (pv 0) rfl) (pe_fld (pv 1) rfl)) (pe_op op_mulW (pe_fld (pv 1) rfl) (pe_fld (pv 0) rfl)) (nomark _))), ?_⟩
    refine ⟨_, rfl, p, C, dx, _, _, rfl, hp, T.cl, T.nT, rf_top _ _, _, rfl, q, C, dy, _, _, rfl, hq, T.cl, T.nB, rf_bot _ _, _, _, rfl, rfl, sa.mulW sd (by decide) (by decide) (by decide), ?_⟩
    refine ⟨_, rfl, q, C, dy, _, _, rfl, hq, T.cl, T.nT, rf_top _ _, _, rfl, p, C, dx, _, _, rfl, hp, T.cl, T.nB, rf_bot _ _, _, _, rfl, rfl, sc.mulW sb (by decide) (by decide) (by decide), _, _, rfl, rfl, k⟩
theorem scPd : FnScope ["self", "width"] ["self", "width"] (defScope sPad) := ⟨rfl, rfl, rfl, by decide +kernel, rfl, by decide +kernel, by decide +kernel⟩
theorem ok_pad {f fS : Addr} {fd fdS : FuncData} (F : Fun K "padded" "Ratio.padded" sPad f fd) (T : Txt K mg C CN) (FS : Fun K "__str__" "Ratio.__str__" sStr fS fdS) (bS : Binds K fdS ["self"] []) (mS : Meth K C "__str__" fS) :
    FnOk P w K mg base CX0 3 f fd ["self", "width"] (spPad C) := by
  have GS : FnOk P w K mg base CX0 1 fS fdS ["self"] (spStr C) := ok_str FS T
  refine F.ok scPd (fun vs H Q E h => ?_) (fun cdv A outer s H vs Q E hr h => ?_)
  · obtain ⟨p, t, b, w, rfl, _⟩ := h
    rfl
  · obtain ⟨p, t, b, w, rfl, ⟨dx, hp⟩, st, sb, w0, w1, k⟩ := h
    refine ⟨_, pss_one (ps_ret (pe_bm PySem.F.plainAttrs_str PySem.F.slot_str_rjust PySem.F.type_str_rjust mt_rjust (pe_callTy (call_strOwn GS hr bS pass0 mS.at_ mS.fn) (by rfl) T.zStr PyProof.Rows.boot_str (pa_cons (pv 0) pa_nil)) (pa_cons (pv 1) pa_nil))), ?_⟩
    refine ⟨_, rfl, p, dx, _, rfl, hp, p, t, b, rfl, ⟨dx, hp⟩, st, sb, _, rfl, ?_⟩
    refine ⟨?_, _, rfl, _, _, rfl, rfl, ?_, k⟩
    · show ("str" : String) = "str"
      rfl
    · unfold PadOk PySem.fitsSsize PySem.Builtin.Str.tooLong
      rw [decide_eq_false (show ¬ w < -(2 ^ 63 : Int) by omega), decide_eq_false (show ¬ w ≥ 2 ^ 63 by omega), decide_eq_false (show ¬ w.toNat > sizeLine by rw [sizeLine_eq]; omega)]
      rfl
theorem scN : FnScope ["self"] ["self"] (defScope sNeg) := ⟨rfl, rfl, rfl, by decide +kernel, rfl, by decide +kernel, by decide +kernel⟩
theorem ok_neg {f fI : Addr} {fd fdI : FuncData} (F : Fun K "__neg__" "Ratio.__neg__" sNeg f fd) (T : Txt K mg C CN) (M : Mk K C fI) (FI : FInit K fI fdI) (bI : Binds K fdI ["self", "top", "bottom"] []) :
    FnOk P w K mg base CX0 3 f fd ["self"] (spNeg C) := by
  have GI : FnOk P w K mg base (L2.CX P w) 1 fI fdI ["self", "top", "bottom"] (spInit C CN) := ok_init FI T
  refine F.ok scN (fun vs H Q E h => ?_) (fun cdv A outer s H vs Q E hr h => ?_)
  · obtain ⟨p, t, b, rfl, _⟩ := h
    rfl
  · obtain ⟨p, t, b, rfl, ⟨dx, hp⟩, st, sb, hb, k⟩ := h
    refine ⟨_, pss_one (ps_ret (pe_make M GI hr rfl T.gC bI .nil passL (pa_cons (pe_un un_neg (pe_fld (pv 0) rfl)) (pa_cons (pe_fld (pv 0) rfl) pa_nil)))), ?_⟩
    refine ⟨_, rfl, p, C, dx, _, _, rfl, hp, T.cl, T.nT, rf_top _ _, _, rfl, _, rfl, p, C, dx, _, _, rfl, hp, T.cl, T.nB, rf_bot _ _, ?_⟩
    intro x dy nx nd ne
    refine ⟨x, dy, -t, b, rfl, upd_same, st.neg.mono (by decide), sb.mono (by decide), fun z => hb z, fun _ H' R kp => ⟨rfl, ?_⟩⟩
    exact k x H' nx (Same.made nx nd kp) R
theorem scA : FnScope ["self", "other"] ["self", "other"] (defScope sAdd) := ⟨rfl, rfl, rfl, by decide +kernel, rfl, by decide +kernel, by decide +kernel⟩
theorem ok_add {f fI : Addr} {fd fdI : FuncData} (F : Fun K "__add__" "Ratio.__add__" sAdd f fd) (T : Txt K mg C CN) (M : Mk K C fI) (FI : FInit K fI fdI) (bI : Binds K fdI ["self", "top", "bottom"] []) :
    FnOk P w K mg base CX0 3 f fd ["self", "other"] (spAdd C) := by
  have GI : FnOk P w K mg base (L2.CX P w) 1 fI fdI ["self", "top", "bottom"] (spInit C CN) := ok_init FI T
  refine F.ok scA (fun vs H Q E h => ?_) (fun cdv A outer s H vs Q E hr h => ?_)
  · obtain ⟨p, q, a, b, c, d, rfl, _⟩ := h
    rfl
  · obtain ⟨p, q, a, b, c, d, rfl, ⟨dx, hp⟩, ⟨dy, hq⟩, sa, sb, sc, sd, hz, k⟩ := h
    refine ⟨_, pss_one (ps_ret (pe_make M GI hr rfl T.gC bI .nil passL (pa_cons (pe_op op_add (pe_op op_mulW (pe_fld (pv 0) rfl) (pe_fld (pv 1) rfl)) (pe_op op_mulW (pe_fld (pv 1) rfl) (pe_fld (pv 0) rfl))) (pa_cons (pe_op op_mulW (pe_fld (pv 0) rfl) (pe_fld (pv 1) rfl)) pa_nil)))), ?_⟩
    refine ⟨_, rfl, p, C, dx, _, _, rfl, hp, T.cl, T.nT, rf_top _ _, _, rfl, q, C, dy, _, _, rfl, hq, T.cl, T.nB, rf_bot _ _, _, _, rfl, rfl, sa.mulW sd (by decide) (by decide) (by decide), _, rfl, q, C, dy, _, _, rfl, hq, T.cl, T.nT, rf_top _ _, _, rfl, p, C, dx, _, _, rfl, hp, T.cl, T.nB, rf_bot _ _, _, _, rfl, rfl, sc.mulW sb (by decide) (by decide) (by decide), _, _, rfl, rfl, _, rfl, p, C, dx, _, _, rfl, hp, T.cl, T.nB, rf_bot _ _, _, rfl, q, C, dy, _, _, rfl, hq, T.cl, T.nB, rf_bot _ _, _, _, rfl, rfl, sb.mulW sd (by decide) (by decide) (by decide), ?_⟩
    intro x dz nx nd ne
    refine ⟨x, dz, _, _, rfl, upd_same, ((sa.mul sd).add (sc.mul sb)).mono (by decide), (sb.mul sd).mono (by decide), fun z => hz z, fun _ H' R kp => ⟨rfl, ?_⟩⟩
    exact k x H' nx (Same.made nx nd kp) R
theorem scSb : FnScope ["self", "other"] ["self", "other"] (defScope sSub) := ⟨rfl, rfl, rfl, by decide +kernel, rfl, by decide +kernel, by decide +kernel⟩
theorem ok_sub {f fI : Addr} {fd fdI : FuncData} (F : Fun K "__sub__" "Ratio.__sub__" sSub f fd) (T : Txt K mg C CN) (M : Mk K C fI) (FI : FInit K fI fdI) (bI : Binds K fdI ["self", "top", "bottom"] []) :
    FnOk P w K mg base CX0 3 f fd ["self", "other"] (spSub C) := by
  have GI : FnOk P w K mg base (L2.CX P w) 1 fI fdI ["self", "top", "bottom"] (spInit C CN) := ok_init FI T
  refine F.ok scSb (fun vs H Q E h => ?_) (fun cdv A outer s H vs Q E hr h => ?_)
  · obtain ⟨p, q, a, b, c, d, rfl, _⟩ := h
    rfl
  · obtain ⟨p, q, a, b, c, d, rfl, ⟨dx, hp⟩, ⟨dy, hq⟩, sa, sb, sc, sd, hz, k⟩ := h
    refine ⟨_, pss_one (ps_ret (pe_make M GI hr rfl T.gC bI .nil passL (pa_cons (pe_op op_sub (pe_op op_mulW (pe_fld (pv 0) rfl) (pe_fld (pv 1) rfl)) (pe_op op_mulW (pe_fld (pv 1) rfl) (pe_fld (pv 0) rfl))) (pa_cons (pe_op op_mulW (pe_fld (pv 0) rfl) (pe_fld (pv 1) rfl)) pa_nil)))), ?_⟩
    refine ⟨_, rfl, p, C, dx, _, _, rfl, hp, T.cl, T.nT, rf_top _ _, _, rfl, q, C, dy, _, _, rfl, hq, T.cl, T.nB, rf_bot _ _, _, _, rfl, rfl, sa.mulW sd (by decide) (by decide) (by decide), _, rfl, q, C, dy, _, _, rfl, hq, T.cl, T.nT, rf_top _ _, _, rfl, p, C, dx, _, _, rfl, hp, T.cl, T.nB, rf_bot _ _, _, _, rfl, rfl, sc.mulW sb (by decide) (by decide) (by decide), _, _, rfl, rfl, _, rfl, p, C, dx, _, _, rfl, hp, T.cl, T.nB, rf_bot _ _, _, rfl, q, C, dy, _, _, rfl, hq, T.cl, T.nB, rf_bot _ _, _, _, rfl, rfl, sb.mulW sd (by decide) (by decide) (by decide), ?_⟩
    intro x dz nx nd ne
    refine ⟨x, dz, _, _, rfl, upd_same, ((sa.mul sd).sub (sc.mul sb)).mono (by decide), (sb.mul sd).mono (by decide), fun z => hz z, fun _ H' R kp => ⟨rfl, ?_⟩⟩
    exact k x H' nx (Same.made nx nd kp) R
theorem scM : FnScope ["self", "other"] ["self", "other"] (defScope sMul) := ⟨rfl, rfl, rfl, by decide +kernel, rfl, by decide +kernel, by decide +kernel⟩
theorem ok_mul {f fI : Addr} {fd fdI : FuncData} (F : Fun K "__mul__" "Ratio.__mul__" sMul f fd) (T : Txt K mg C CN) (M : Mk K C fI) (FI : FInit K fI fdI) (bI : Binds K fdI ["self", "top", "bottom"] []) :
    FnOk P w K mg base CX0 3 f fd ["self", "other"] (spMul C) := by
  have GI : FnOk P w K mg base (L2.CX P w) 1 fI fdI ["self", "top", "bottom"] (spInit C CN) := ok_init FI T
  refine F.ok scM (fun vs H Q E h => ?_) (fun cdv A outer s H vs Q E hr h => ?_)
  · obtain ⟨p, q, a, b, c, d, rfl, _⟩ := h
    rfl
  · obtain ⟨p, q, a, b, c, d, rfl, ⟨dx, hp⟩, ⟨dy, hq⟩, sa, sb, sc, sd, hz, k⟩ := h
    refine ⟨_, pss_one (ps_ret (pe_make M GI hr rfl T.gC bI .nil passL (pa_cons (pe_op op_mulW (pe_fld (pv 0) rfl) (pe_fld (pv 1) rfl)) (pa_cons (pe_op op_mulW (pe_fld (pv 0) rfl) (pe_fld (pv 1) rfl)) pa_nil)))), ?_⟩
    refine ⟨_, rfl, p, C, dx, _, _, rfl, hp, T.cl, T.nT, rf_top _ _, _, rfl, q, C, dy, _, _, rfl, hq, T.cl, T.nT, rf_top _ _, _, _, rfl, rfl, sa.mulW sc (by decide) (by decide) (by decide), _, rfl, p, C, dx, _, _, rfl, hp, T.cl, T.nB, rf_bot _ _, _, rfl, q, C, dy, _, _, rfl, hq, T.cl, T.nB, rf_bot _ _, _, _, rfl, rfl, sb.mulW sd (by decide) (by decide) (by decide), ?_⟩
    intro x dz nx nd ne
    refine ⟨x, dz, _, _, rfl, upd_same, (sa.mul sc).mono (by decide), (sb.mul sd).mono (by decide), fun z => hz z, fun _ H' R kp => ⟨rfl, ?_⟩⟩
    exact k x H' nx (Same.made nx nd kp) R
end
end R3

namespace R3
open PySem L2 L3
open C8 (pss_cut tCut)
def FeedAt (H : Hp) (a : Addr) : Prop := ∃ x y : Int, H a = some (.lst [.int x, .int y]) ∧ 0 ≤ y ∧ y ≤ 2147483648
/-- behind a draw: all but the feed stands -/
structure Dr (a : Addr) (H H' : Hp) : Prop where
  fd : FeedAt H' a
  sm : ∀ b o, b ≠ a → H b = some o → H' b = some o
theorem Dr.trans {a : Addr} {H H1 H2 : Hp} (x : Dr a H H1) (y : Dr a H1 H2) : Dr a H H2 := ⟨y.fd, fun b o n e => y.sm b o n (x.sm b o n e)⟩
def spFeed (K : PySem.W.Frag) : Sp := fun vs H Q _ => ∃ (a : Addr) (ns : List Int) (k : Nat), vs = [.ref a, .int k] ∧ SqL K H a (ns.map V.int) ∧ ns.length ≤ 63 ∧ k < 64 ∧
  ∀ (p : Addr) (H' : Hp), H p = none → Same H H' → FeedAt H' p → Q (.ref p) H'
def spTake : Sp := fun vs H Q _ => ∃ (a : Addr) (m : Int), vs = [.ref a, .int m] ∧ FeedAt H a ∧ 0 < m ∧ Sm 200 m ∧ ∀ (r : Int) (H' : Hp), 0 ≤ r → r < m → Dr a H H' → Q (.int r) H'
section
variable {P : Program} {w : World} {K : PySem.W.Frag} {mg : Str → Option Value} {base : Heap}
theorem scF : FnScope ["_law_script", "_law_k", "_law_cell", "_law_own"] ["_law_script", "_law_k"] (defScope sFeed) := ⟨rfl, rfl, rfl, by decide +kernel, rfl, by decide +kernel, by decide +kernel⟩
theorem same_new {H : Hp} {p : Addr} {o : HO} (h : H p = none) : Same H (upd H p o) := fun b u e => by
  rw [upd_ne (ne_of_none e h)]
  exact e
theorem ok_feed {f : Addr} {fd : FuncData} (F : Fun K "_law_feed" "_law_feed" sFeed f fd) (zLen : mg "len" = none) (zAbs : mg "abs" = none) : FnOk P w K mg base CX0 1 f fd ["_law_script", "_law_k"] (spFeed K) := by
  refine F.ok scF (fun vs H Q E h => ?_) (fun cdv A outer s H vs Q E hr h => ?_)
  · obtain ⟨a, ns, k, rfl, _⟩ := h
    rfl
  · obtain ⟨a, ns, k, rfl, hS, hn, hk, kk⟩ := h
    have sk : Sm 7 (k : Int) := by show (k : Int).natAbs < 128; omega
    have hl : (ns.map V.int).length = ns.length := List.length_map ..
    refine ⟨_, pss_cons (ps_set (i := 2) scF.nd rfl (Or.inl rfl) (pe_op op_add (pe_op op_mulW pe_int (pv 1)) pe_int))
      (pss_cut (ps_if (pt_cmpR op_lt (pv 1) (pe_callB call_len_seq (by rfl) zLen PySem.boot_len (pa_cons (pv 0) pa_nil)) (nomark _))
        (pss_one (ps_set (i := 2) scF.nd rfl (Or.inl rfl) (pe_callB call_abs (by rfl) zAbs PyProof.Rows.boot_abs (pa_cons (pe_ix ix_list (pv 0) (pv 1) (fun _ _ => rfl)) pa_nil))))
        (pss_one (ps_if (pt_cmpR op_gt (pe_callB call_len_seq (by rfl) zLen PySem.boot_len (pa_cons (pv 0) pa_nil)) pe_int (nomark _))
          (pss_one (ps_set (i := 2) scF.nd rfl (Or.inl rfl) (pe_op op_add (pe_op op_mulW (pe_op op_mod (pe_callB call_abs (by rfl) zAbs PyProof.Rows.boot_abs (pa_cons (pe_ix ix_list (pv 0) (pe_op op_mod (pv 1) (pe_callB call_len_seq (by rfl) zLen PySem.boot_len (pa_cons (pv 0) pa_nil))) (fun _ _ => rfl)) pa_nil)) pe_int) pe_int) (pe_op op_mulW pe_int (pv 1))))) pss_nil)))
      (pss_cons (ps_set (i := 3) scF.nd rfl (Or.inl rfl) pe_int)
      (pss_cut (ps_if (pt_cmpR op_ge (pv 2) (pe_op op_pow pe_int pe_int) (nomark _)) (pss_one (ps_set (i := 3) scF.nd rfl (Or.inl rfl) (pv 2))) pss_nil)
      (pss_one (ps_ret (pe_lst (pa_cons (pv 3) (pa_cons (pe_op op_add (pe_op op_mod (pe_op op_add (pe_op op_mulW (pe_op op_mod (pv 2) pe_int) pe_int) (pe_op op_mulW pe_int (pv 1))) pe_int) pe_int) pa_nil)))))))), ?_⟩
    refine ⟨_, rfl, _, _, rfl, rfl, (show Sm 13 7621 by decide).mulW sk (by decide) (by decide) (by decide), _, _, rfl, rfl, ?_⟩
    refine ⟨fun σ H' => ∃ c : Int, σ = [some (.ref a), some (.int k), some (.int c), none] ∧ H' = H, ?_, ?_⟩
    · refine ⟨_, rfl, _, rfl, a, _, rfl, .inl hS, _, _, rfl, rfl, _, rfl, ?_⟩
      rw [hl]
      refine iteD (fun h1 => ?_) (fun h1 => ?_)
      · have hk' : k < ns.length := by omega
        refine ⟨_, rfl, _, rfl, a, _, _, .int ns[k], rfl, rfl, hS, atI_nat (by rw [List.getElem?_map, List.getElem?_eq_getElem hk']; rfl), _, rfl, ?_⟩
        exact ⟨_, rfl, rfl⟩
      · refine ⟨_, rfl, a, _, rfl, .inl hS, _, _, rfl, rfl, _, rfl, ?_⟩
        rw [hl]
        refine iteD (fun h2 => ?_) (fun h2 => ?_)
        · have hlen : 0 < ns.length := by omega
          have hj : k % ns.length < ns.length := Nat.mod_lt _ hlen
          refine ⟨_, rfl, _, rfl, _, rfl, a, _, rfl, .inl hS, _, _, rfl, rfl, ?_, ?_⟩
          · show (0 : Int) < ((ns.map V.int).length : Int)
            rw [hl]
            omega
          · have e : (k : Int) % ((ns.map V.int).length : Int) = ((k % ns.length : Nat) : Int) := by rw [hl]; rfl
            refine ⟨a, _, _, .int ns[k % ns.length], rfl, rfl, hS, at_of e (by rw [List.getElem?_map, List.getElem?_eq_getElem hj]; rfl), _, rfl, _, _, rfl, rfl, (by show (0 : Int) < 2147483629; decide), ?_⟩
            refine ⟨_, _, rfl, rfl, Sm.mulW (n := 31) (m := 6) ?_ (by decide) (by decide) (by decide) (by decide), _, rfl, _, _, rfl, rfl, (show Sm 14 8513 by decide).mulW sk (by decide) (by decide) (by decide), _, _, rfl, rfl, ?_⟩
            · show (_ % (2147483629 : Int)).natAbs < 2147483648
              omega
            · exact ⟨_, rfl, rfl⟩
        · exact ⟨_, rfl, rfl⟩
    · rintro σ' H' ⟨c, rfl, rfl⟩
      refine ⟨fun σ H1 => ∃ o : Int, σ = [some (.ref a), some (.int k), some (.int c), some (.int o)] ∧ H1 = H', ?_, ?_⟩
      · refine ⟨_, rfl, _, _, rfl, rfl, ⟨by decide, by decide, by decide⟩, _, _, rfl, rfl, _, rfl, ?_⟩
        refine iteD (fun h1 => ?_) (fun h1 => ?_)
        · exact ⟨_, rfl, _, rfl, rfl⟩
        · exact ⟨_, rfl, rfl⟩
      · rintro σ' H1 ⟨o, rfl, rfl⟩
        refine ⟨_, rfl, _, rfl, _, _, rfl, rfl, (by show (0 : Int) < 2147483629; decide), _, _, rfl, rfl, Sm.mulW (n := 31) (m := 16) ?_ (by decide) (by decide) (by decide) (by decide), ?_⟩
        · show (_ % (2147483629 : Int)).natAbs < 2147483648
          omega
        · refine ⟨_, rfl, _, _, rfl, rfl, (show Sm 16 50021 by decide).mulW sk (by decide) (by decide) (by decide), _, _, rfl, rfl, _, _, rfl, rfl, (by show (0 : Int) < 2147483629; decide), _, _, rfl, rfl, (by show 2 ≤ sizeLine; decide), fun p hp => ?_⟩
          refine kk p _ hp (same_new hp) ⟨_, _, upd_same, ?_, ?_⟩ <;> omega
end
end R3

namespace R3
open PySem L2 L3
open C8 (pss_cut tCut)
def spSameB : Sp := fun vs H Q _ => ∃ b c : Bool, vs = [.bl b, .bl c] ∧ Q (.bl (decide (b = c))) H
def NewTup (t b : Int) : Hp → VK → Prop := fun H Q => ∀ (p : Addr) (H' : Hp), H p = none → Same H H' → H' p = some (.tup [.int t, .int b]) → Q (.ref p) H'
def spLow : Sp := fun vs H Q _ => ∃ t b : Int, vs = [.int t, .int b] ∧ Sm 900 t ∧ Sm 900 b ∧ b ≠ 0 ∧ NewTup (lowT t b) (lowB t b) H Q
def spParts (C : Addr) : Sp := fun vs H Q _ => ∃ (p : Addr) (t b : Int), vs = [.ref p] ∧ RatAt C H p t b ∧ NewTup t b H Q
section
variable {P : Program} {w : World} {K : PySem.W.Frag} {mg : Str → Option Value} {base : Heap} {C CN : Addr}
theorem scT : FnScope ["_law_feed_here", "_law_many", "_law_digit", "_law_one"] ["_law_feed_here", "_law_many"] (defScope sTake) := ⟨rfl, rfl, rfl, by decide +kernel, rfl, by decide +kernel, by decide +kernel⟩
theorem ok_take {f : Addr} {fd : FuncData} (F : Fun K "_law_take" "_law_take" sTake f fd) : FnOk P w K mg base CX0 1 f fd ["_law_feed_here", "_law_many"] spTake := by
  refine F.ok scT (fun vs H Q E h => ?_) (fun cdv A outer s H vs Q E hr h => ?_)
  · obtain ⟨a, m, rfl, _⟩ := h
    rfl
  · obtain ⟨a, m, rfl, ⟨x, y, hH, y0, y1⟩, m0, sm, k⟩ := h
    refine ⟨_, pss_cons (ps_if (pt_cmpR op_gt (pe_ix ix_list (pv 0) pe_int (fun _ _ => rfl)) pe_int (nomark _))
        (pss_cons (ps_set (i := 2) scT.nd rfl (Or.inl rfl) (pe_op op_mod (pe_ix ix_list (pv 0) pe_int (fun _ _ => rfl)) (pv 1)))
        (pss_cons (ps_asg (pe_op op_fdivW (pe_ix ix_list (pv 0) pe_int (fun _ _ => rfl)) (pv 1)) (pg_sub (pv 0) pe_int set_list))
        (pss_one (ps_ret (pv 2))))) pss_nil)
      (pss_cons (ps_set (i := 3) scT.nd rfl (Or.inl rfl) (pe_op op_mod (pe_op op_mulW (pe_ix ix_list (pv 0) pe_int (fun _ _ => rfl)) pe_int) pe_int))
      (pss_cons (ps_asg (pe_op op_add (pe_op op_mod (pe_op op_add (pe_op op_mulW (pv 3) pe_int) pe_int) pe_int) pe_int) (pg_sub (pv 0) pe_int set_list))
      (pss_one (ps_ret (pe_op op_mod (pe_op op_fdivW (pe_op op_add (pe_op op_mulW (pv 3) pe_int) (pe_ix ix_list (pv 0) pe_int (fun _ _ => rfl))) pe_int) (pv 1)))))), ?_⟩
    have q0 : ∀ {u v : V} {H' : Hp}, H' a = some (.lst [u, v]) → SqL K H' a [u, v] := fun h => SqL.of h
    have keep : ∀ o, ∀ b u, b ≠ a → H b = some u → upd H a o b = some u := fun o b u n e => by rw [upd_ne n]; exact e
    refine ⟨_, rfl, a, _, 0, .int x, rfl, rfl, SqL.of hH, rfl, _, _, rfl, rfl, _, rfl, ?_⟩
    refine iteD (fun hx => ?_) (fun hx => ?_)
    · refine ⟨_, rfl, a, _, 0, .int x, rfl, rfl, SqL.of hH, rfl, _, rfl, _, _, rfl, rfl, m0, ?_⟩
      refine ⟨_, rfl, a, _, 0, .int x, rfl, rfl, SqL.of hH, rfl, _, rfl, _, _, rfl, rfl, ⟨m0, Sm.log sm (by decide) (by decide)⟩, _, rfl, a, _, _, 0, rfl, rfl, hH, rfl, _, rfl, ?_⟩
      exact k _ _ (Int.emod_nonneg _ (by omega)) (Int.emod_lt_of_pos _ m0) ⟨⟨_, _, upd_same, y0, y1⟩, keep _⟩
    · refine ⟨_, rfl, a, _, 1, .int y, rfl, rfl, SqL.of hH, rfl, _, _, rfl, rfl, Sm.mulW (n := 32) (m := 16) (by show y.natAbs < 4294967296; omega) (by decide) (by decide) (by decide) (by decide), _, _, rfl, rfl, (by show (0 : Int) < 2147483647; decide), ?_⟩
      have s31 : ∀ z : Int, Sm 31 (z % 2147483647) := fun z => by show (z % 2147483647).natAbs < 2147483648; omega
      refine ⟨_, rfl, _, _, rfl, rfl, (s31 _).mulW (m := 16) (by decide) (by decide) (by decide) (by decide), _, _, rfl, rfl, _, _, rfl, rfl, (by show (0 : Int) < 2147483399; decide), _, _, rfl, rfl, _, rfl, a, _, _, 1, rfl, rfl, hH, rfl, ?_⟩
      refine ⟨_, rfl, _, _, rfl, rfl, (s31 _).mulW (m := 31) (by decide) (by decide) (by decide) (by decide), _, rfl, a, _, 1, _, rfl, rfl, SqL.of upd_same, rfl, _, _, rfl, rfl, _, _, rfl, rfl, ⟨by decide, by decide⟩, _, rfl, _, _, rfl, rfl, m0, ?_⟩
      refine k _ _ (Int.emod_nonneg _ (by omega)) (Int.emod_lt_of_pos _ m0) ⟨⟨_, _, upd_same, ?_, ?_⟩, keep _⟩ <;> omega
theorem scSm : FnScope ["_law_one", "_law_other"] ["_law_one", "_law_other"] (defScope sSame) := ⟨rfl, rfl, rfl, by decide +kernel, rfl, by decide +kernel, by decide +kernel⟩
theorem boolText_eq (b c : Bool) : decide (V.str (boolText b) = V.str (boolText c)) = decide (b = c) := by
  cases b <;> cases c <;> decide +kernel
theorem ok_same {f : Addr} {fd : FuncData} (F : Fun K "_law_same" "_law_same" sSame f fd) (zRepr : mg "repr" = none) : FnOk P w K mg base CX0 1 f fd ["_law_one", "_law_other"] spSameB := by
  refine F.ok scSm (fun vs H Q E h => ?_) (fun cdv A outer s H vs Q E hr h => ?_)
  · obtain ⟨b, c, rfl, _⟩ := h
    rfl
  · obtain ⟨b, c, rfl, k⟩ := h
    refine ⟨_, pss_one (ps_ret (pe_cmpR op_eq (pe_callB call_reprB (by rfl) zRepr PyProof.Rows.boot_repr (pa_cons (pv 0) pa_nil)) (pe_callB call_reprB (by rfl) zRepr PyProof.Rows.boot_repr (pa_cons (pv 1) pa_nil)) (nomark _))), ?_⟩
    refine ⟨_, rfl, b, rfl, _, rfl, c, rfl, rfl, ?_⟩
    rw [boolText_eq]
    exact k
theorem scL : FnScope ["_law_top", "_law_bottom", "_law_one", "_law_other", "_law_part"] ["_law_top", "_law_bottom"] (defScope sLow) := ⟨rfl, rfl, rfl, by decide +kernel, rfl, by decide +kernel, by decide +kernel⟩
theorem ok_low {f : Addr} {fd : FuncData} (F : Fun K "_law_lowest" "_law_lowest" sLow f fd) (zAbs : mg "abs" = none) : FnOk P w K mg base CX0 1 f fd ["_law_top", "_law_bottom"] spLow := by
  refine F.ok scL (fun vs H Q E h => ?_) (fun cdv A outer s H vs Q E hr h => ?_)
  · obtain ⟨t, b, rfl, _⟩ := h
    rfl
  · obtain ⟨t, b, rfl, st, sb, hb, k⟩ := h
    refine ⟨_, pss_cons (ps_par (i := 2) (j := 3) (by rfl) scL.nd rfl rfl (by decide) rfl rfl (pa_cons (pe_callB call_abs (by rfl) zAbs PyProof.Rows.boot_abs (pa_cons (pv 0) pa_nil)) (pa_cons (pe_callB call_abs (by rfl) zAbs PyProof.Rows.boot_abs (pa_cons (pv 1) pa_nil)) pa_nil)) (by rfl))
      (pss_cons (ps_while PassesOwn.never (pt_cmpR op_gt (pv 3) pe_int (nomark _)) (pss_one (ps_par (i := 2) (j := 3) (by rfl) scL.nd rfl rfl (by decide) rfl rfl (pa_cons (pv 3) (pa_cons (pe_op op_mod (pv 2) (pv 3)) pa_nil)) (by rfl))))
      (pss_cons (ps_set (i := 4) scL.nd rfl (Or.inl rfl) (pe_ifExp (pt_cmpR op_gt (pv 1) pe_int (nomark _)) (pv 2) (pe_op op_sub pe_int (pv 2))))
      (pss_one (ps_ret (pe_tup (pa_cons (pe_op op_fdivNW (pv 0) (pv 4)) (pa_cons (pe_op op_fdivNW (pv 1) (pv 4)) pa_nil))))))), ?_⟩
    have ab : ∀ z : Int, (if z < 0 then -z else z) = ((z.natAbs : Nat) : Int) := fun z => by split <;> omega
    refine ⟨_, rfl, t, rfl, _, rfl, b, rfl, _, _, rfl, ?_⟩
    rw [ab, ab]
    refine while_by (fun σ H' => ∃ m n : Nat, σ = [some (.int t), some (.int b), some (.int m), some (.int n), none] ∧ H' = H ∧ Nat.gcd m n = Nat.gcd t.natAbs b.natAbs) (fun (σ : L2.St) _ => match (σ[3]? : Option (Option V)) with | some (some (V.int n)) => n.toNat | _ => 0)
      ⟨_, _, rfl, rfl, rfl⟩ ?_ ?_
    · rintro σ H' ⟨m, n, rfl, rfl, hg⟩
      refine ⟨_, rfl, _, _, rfl, rfl, _, rfl, ?_⟩
      refine iteD (fun hn => ?_) (fun hn => ?_)
      · have hn' : 0 < n := by omega
        refine ⟨_, rfl, _, rfl, _, rfl, _, _, rfl, rfl, hn, _, _, rfl, ⟨n, m % n, rfl, rfl, ?_⟩, ?_⟩
        · rw [← hg, Nat.gcd_comm m n, Nat.gcd_rec n m, Nat.gcd_comm]
        · show ((m : Int) % (n : Int)).toNat < (n : Int).toNat
          have := Nat.mod_lt m hn'
          omega
      · have hn' : n = 0 := by omega
        subst hn'
        rw [Nat.gcd_zero_right] at hg
        subst hg
        have e : (if 0 < b then ((Nat.gcd t.natAbs b.natAbs : Nat) : Int) else 0 - ((Nat.gcd t.natAbs b.natAbs : Nat) : Int)) = lowC t b := by
          unfold lowC
          by_cases h1 : 0 < b
          · rw [if_pos h1, if_neg (by omega)]
          · rw [if_neg h1, if_pos (by omega)]
            omega
        have h0 : lowC t b ≠ 0 := lowC_ne hb
        have hs : (lowC t b).natAbs.log2 < 9000 := by
          refine Sm.log (n := 900) ?_ (by decide) (by decide)
          show (lowC t b).natAbs < 2 ^ 900
          rw [lowC_abs]
          exact Nat.lt_of_le_of_lt (Nat.le_of_dvd (Int.natAbs_pos.mpr hb) (Nat.gcd_dvd_right _ _)) sb
        have fin : ∀ c : Int, c = lowC t b → tRet (tTup (tCons (tOp (rI CDivNW fun i j => .int (i.fdiv j)) (tVar 0) (tVar 4)) (tCons (tOp (rI CDivNW fun i j => .int (i.fdiv j)) (tVar 1) (tVar 4)) tNil)))
            { nx := fun _ H' => Q .non H', rt := Q } [some (.int t), some (.int b), some (.int ((Nat.gcd t.natAbs b.natAbs : Nat) : Int)), some (.int 0), some (.int c)] H' := by
          rintro c rfl
          refine ⟨_, rfl, _, rfl, _, _, rfl, rfl, ⟨h0, hs⟩, _, rfl, _, rfl, _, _, rfl, rfl, ⟨h0, hs⟩, (by show 2 ≤ sizeLine; decide), fun p hp => ?_⟩
          exact k p _ hp (same_new hp) upd_same
        refine ⟨_, rfl, _, _, rfl, rfl, _, rfl, ?_⟩
        refine iteD (fun h1 => ?_) (fun h1 => ?_)
        · rw [if_pos h1] at e
          exact ⟨_, rfl, fin _ e⟩
        · rw [if_neg h1] at e
          exact ⟨_, rfl, _, _, rfl, rfl, fin _ e⟩
    · rintro σ H' R R' hR ⟨v, e, i, j, e1, e2, kk, e3, q⟩
      exact ⟨v, e, i, j, e1, e2, kk, e3, hR _ _ q⟩
theorem scPa : FnScope ["_law_ratio"] ["_law_ratio"] (defScope sParts) := ⟨rfl, rfl, rfl, by decide +kernel, rfl, by decide +kernel, by decide +kernel⟩
theorem ok_parts {f : Addr} {fd : FuncData} (F : Fun K "_law_parts" "_law_parts" sParts f fd) (T : Txt K mg C CN) : FnOk P w K mg base CX0 1 f fd ["_law_ratio"] (spParts C) := by
  refine F.ok scPa (fun vs H Q E h => ?_) (fun cdv A outer s H vs Q E hr h => ?_)
  · obtain ⟨p, t, b, rfl, _⟩ := h
    rfl
  · obtain ⟨p, t, b, rfl, ⟨dx, hp⟩, k⟩ := h
    refine ⟨_, pss_one (ps_ret (pe_tup (pa_cons (pe_fld (pv 0) rfl) (pa_cons (pe_fld (pv 0) rfl) pa_nil)))), ?_⟩
    refine ⟨_, rfl, p, C, dx, _, _, rfl, hp, T.cl, T.nT, rf_top _ _, _, rfl, p, C, dx, _, _, rfl, hp, T.cl, T.nB, rf_bot _ _, (by show 2 ≤ sizeLine; decide), fun q hq => ?_⟩
    exact k q _ hq (same_new hq) upd_same
end
end R3

namespace R3
open PySem L2 L3
open C8 (pss_cut tCut)
/-- an item: a ratio and its two numbers -/
structure ItAt (C : Addr) (H : Hp) (p : Addr) (a b : Int) : Prop where
  at_ : ∃ r t, H p = some (.tup [.ref r, .ref t]) ∧ H t = some (.tup [.int a, .int b]) ∧ RatAt C H r a b
  can : Canon a b
  sa : Sm 200 a
  sb : Sm 200 b
theorem ItAt.same {C : Addr} {H H' : Hp} {p : Addr} {a b : Int} (s : Same H H') (h : ItAt C H p a b) : ItAt C H' p a b :=
  let ⟨⟨r, t, h1, h2, h3⟩, c, x, y⟩ := h
  ⟨⟨r, t, s _ _ h1, s _ _ h2, h3.same s⟩, c, x, y⟩
def spPair (C : Addr) : Sp := fun vs H Q _ => ∃ (p q : Addr) (a b c d : Int), vs = [.ref p, .ref q] ∧ ItAt C H p a b ∧ ItAt C H q c d ∧ ∀ H', Same H H' → Q (.bl true) H'
def spMade : Sp := fun vs H Q _ => ∃ t b : Int, vs = [.int t, .int b] ∧ Sm 900 t ∧ Sm 900 b ∧ (b = 0 → ∀ H', Same H H' → Q (.str "refused") H') ∧ (b ≠ 0 → NewTup (lowT t b) (lowB t b) H Q)
section
variable {P : Program} {w : World} {K : PySem.W.Frag} {mg : Str → Option Value} {base : Heap} {C CN : Addr}
theorem dec_and {a b c d : Int} : (if decide (V.int a = V.int c) = true then decide (V.int b = V.int d) else false) = (decide (a = c) && decide (b = d)) := by
  by_cases h : a = c
  · subst h
    simp
  · simp [h]
theorem scE : FnScope ["self", "other"] ["self", "other"] (defScope sEq) := ⟨rfl, rfl, rfl, by decide +kernel, rfl, by decide +kernel, by decide +kernel⟩
theorem ok_eq {f : Addr} {fd : FuncData} (F : Fun K "__eq__" "Ratio.__eq__" sEq f fd) (T : Txt K mg C CN) : FnOk P w K mg base CX0 1 f fd ["self", "other"] (spEq C) := by
  refine F.ok scE (fun vs H Q E h => ?_) (fun cdv A outer s H vs Q E hr h => ?_)
  · obtain ⟨p, a, b, y, rfl, _⟩ := h
    rfl
  · obtain ⟨p, a, b, y, rfl, ⟨dx, hp⟩, k⟩ := h
    refine ⟨_, pss_one (ps_ret (pe_and (pe_callB call_isi (by rfl) T.zIsi PyProof.Rows.boot_isinstance (pa_cons (pv 1) (pa_cons (pe_glob (v := .ref C) rfl T.gC rfl) pa_nil)))
      (pe_and (pe_cmpR op_eq (pe_fld (pv 0) rfl) (pe_fld (pv 1) rfl) (nomark _)) (pe_one (pe_cmpR op_eq (pe_fld (pv 0) rfl) (pe_fld (pv 1) rfl) (nomark _)))))), ?_⟩
    rcases k with ⟨q, c, d, rfl, ⟨dy, hq⟩, k⟩ | ⟨hy, k⟩
    · refine ⟨_, rfl, _, _, _, _, true, rfl, .own C, .base (.ins hq T.cl T.cA T.cG T.cT T.cM), T.kCC, _, rfl, ?_⟩
      refine iteT ?_
      refine ⟨_, rfl, p, C, dx, _, _, rfl, hp, T.cl, T.nT, rf_top _ _, _, rfl, q, C, dy, _, _, rfl, hq, T.cl, T.nT, rf_top _ _, rfl, _, rfl, ?_⟩
      refine iteD (fun h => ?_) (fun h => ?_)
      · refine ⟨_, rfl, p, C, dx, _, _, rfl, hp, T.cl, T.nB, rf_bot _ _, _, rfl, q, C, dy, _, _, rfl, hq, T.cl, T.nB, rf_bot _ _, rfl, ?_⟩
        have e := dec_and (a := a) (b := b) (c := c) (d := d)
        rw [if_pos (decide_eq_true h)] at e
        rw [e]
        exact k
      · have e := dec_and (a := a) (b := b) (c := c) (d := d)
        rw [if_neg (fun z => h (of_decide_eq_true z))] at e
        rw [e]
        exact k
    · have fin : ∀ t : Value, TyX K H y t → PySem.W.kitOne K t (.ref C) = some false → tRet (tAndV (tCB (rIsi K) (tCons (tVar 1) (tCons (tC (.ref C)) tNil))) (tAndV (tOp rEq (tFld K (tVar 0) "top") (tFld K (tVar 1) "top")) (tOp rEq (tFld K (tVar 0) "bottom") (tFld K (tVar 1) "bottom"))))
          { nx := fun _ H' => Q .non H', rt := Q } (start ["self", "other"] [.ref p, y]) H := fun t ty kt =>
        ⟨_, rfl, _, _, _, _, false, rfl, .own C, ty, kt, _, rfl, iteF k⟩
      rcases hy with ⟨i, rfl⟩ | ⟨x, rfl⟩ | ⟨q, xs, rfl, hq⟩
      · exact fin _ (.base (.int i)) T.kI
      · exact fin _ (.base (.str x)) T.kS
      · exact fin _ (.base (.tup hq)) T.kT
theorem scMa : FnScope ["_law_top", "_law_bottom", "_law_found"] ["_law_top", "_law_bottom"] (defScope sMade) := ⟨rfl, rfl, rfl, by decide +kernel, rfl, by decide +kernel, by decide +kernel⟩
theorem ok_made {f fI fP : Addr} {fd fdI fdP : FuncData} (F : Fun K "_law_made" "_law_made" sMade f fd) (T : Txt K mg C CN) (M : Mk K C fI) (FI : FInit K fI fdI) (bI : Binds K fdI ["self", "top", "bottom"] [])
    (FP : Fun K "_law_parts" "_law_parts" sParts fP fdP) (bP : Binds K fdP ["_law_ratio"] []) (gP : mg "_law_parts" = some (.ref fP)) : FnOk P w K mg base CX0 3 f fd ["_law_top", "_law_bottom"] spMade := by
  have GI : FnOk P w K mg base (L2.CX P w) 1 fI fdI ["self", "top", "bottom"] (spInit C CN) := ok_init FI T
  have GP : FnOk P w K mg base CX0 1 fP fdP ["_law_ratio"] (spParts C) := ok_parts FP T
  refine F.ok scMa (fun vs H Q E h => ?_) (fun cdv A outer s H vs Q E hr h => ?_)
  · obtain ⟨t, b, rfl, _⟩ := h
    rfl
  · obtain ⟨t, b, rfl, st, sb, k0, k1⟩ := h
    have hr1 : Room 1 _ := hr.mono (by decide)
    refine ⟨_, pss_cons (ps_set (i := 2) scMa.nd rfl (Or.inl rfl) pe_str)
      (pss_cons (ps_try_only (tb := fun W => tAsg (tCall (spParts C) [] E0 (tCons (tMakeS C (spInit C CN) [] (WE W) (tCons (tVar 0) (tCons (tVar 1) tNil))) tNil)) (gName 2)) (ts := fun _ _ _ => tAsg (tC (.str "refused")) (gName 2)) (Wout := fun _ _ _ _ => False)
          rfl rfl ⟨rfl, by decide, Or.inl T.gN⟩ takes0
          (fun W pn xe tk _ => pss_one (ps_set (i := 2) scMa.nd rfl (Or.inl rfl) (pe_call GP hr1 (by rfl) gP FP.kp bP .nil pass0 (pa_cons (pe_makeS M GI hr (by rfl) T.gC bI .nil (fun σ => passAt tk σ) (pa_cons (pv 0) (pa_cons (pv 1) pa_nil))) pa_nil))))
          (fun _ _ _ _ _ _ _ => pss_one (ps_set (i := 2) scMa.nd rfl (Or.inl rfl) pe_str)))
      (pss_one (ps_ret (pv 2)))), ?_⟩
    refine ⟨_, rfl, _, rfl, ?_⟩
    intro x dx nx nd ne
    have s0 : Same H (upd (upd H dx (.own x)) x (.ins C dx [])) := fun b o e => by
      rw [upd_ne (ne_of_none e nx), upd_ne (ne_of_none e nd)]
      exact e
    refine ⟨x, dx, t, b, rfl, upd_same, st, sb, fun hb => ?_, fun hb H' R kp => ⟨rfl, ?_⟩⟩
    · refine ⟨true, T.eN, fun _ a0 _ => ?_, fun q => Bool.noConfusion q⟩
      exact ⟨_, rfl, k0 hb _ s0⟩
    · refine ⟨x, _, _, rfl, R, fun p H2 hp s2 e2 => ?_⟩
      have s1 : Same H H' := Same.made nx nd kp
      exact ⟨_, rfl, k1 hb p H2 (s1.free hp) (s1.trans s2) e2⟩
end
end R3

namespace R3
open PySem L2 L3
open C8 (pss_cut tCut)
section
variable {P : Program} {w : World} {K : PySem.W.Frag} {mg : Str → Option Value} {base : Heap} {C CN : Addr}
/-- the defs that the last two call -/
structure Defs (K : PySem.W.Frag) (mg : Str → Option Value) (C : Addr) where
  fI : Addr
  fE : Addr
  fBo : Addr
  fS : Addr
  fA : Addr
  fSu : Addr
  fM : Addr
  fN : Addr
  fBe : Addr
  fPd : Addr
  fFd : Addr
  fT : Addr
  fSm : Addr
  fL : Addr
  fPa : Addr
  fMa : Addr
  fPr : Addr
theorem SqT.sm {H H' : Hp} {a : Addr} {xs : List V} (s : Same H H') (h : H a = some (.tup xs)) : SqT K H' a xs := SqT.of (s _ _ h)
/-- two new tuples of the same numbers are not unlike -/
theorem dp2 {H : Hp} {p : Addr} {a b : Int} (h : H p = some (.tup [.int a, .int b])) : Dp K H (.ref p) (.tuple [.int a, .int b]) := .tup (SqT.of h) (.cons (.int _) (.cons (.int _) .nil))
theorem shaped2 (a b : Int) : SeqAt.shaped (.tuple [.int a, .int b]) = true := by rfl
theorem eqv2 (a b c d : Int) : PyData.eqv (.tuple [.int a, .int b]) (.tuple [.int c, .int d]) = (decide (a = c) && decide (b = d)) := by
  show ((a == c) && ((b == d) && true)) = _
  rw [Bool.and_true]
  rfl
theorem eqv2_self (a b : Int) : (!PyData.eqv (.tuple [.int a, .int b]) (.tuple [.int a, .int b])) = false := by
  rw [eqv2]
  simp
theorem scPr : FnScope ["_law_one", "_law_other", "_law_left", "_law_a", "_law_b", "_law_right", "_law_c", "_law_d"] ["_law_one", "_law_other"] (defScope sPair) := ⟨rfl, rfl, rfl, by decide +kernel, rfl, by decide +kernel, by decide +kernel⟩
theorem ok_pair {f fI fE fS fA fSu fM fBe fSm fL fPa : Addr} {fd fdI fdE fdS fdA fdSu fdM fdBe fdSm fdL fdPa : FuncData} (F : Fun K "_law_pair_right" "_law_pair_right" sPair f fd) (T : Txt K mg C CN)
    (M : Mk K C fI) (FI : FInit K fI fdI) (bI : Binds K fdI ["self", "top", "bottom"] [])
    (FE : Fun K "__eq__" "Ratio.__eq__" sEq fE fdE) (bE : Binds K fdE ["self", "other"] []) (mE : Meth K C "__eq__" fE)
    (FS : Fun K "__str__" "Ratio.__str__" sStr fS fdS) (bS : Binds K fdS ["self"] []) (mS : Meth K C "__str__" fS)
    (FA : Fun K "__add__" "Ratio.__add__" sAdd fA fdA) (bA : Binds K fdA ["self", "other"] []) (mA : Meth K C "__add__" fA)
    (FU : Fun K "__sub__" "Ratio.__sub__" sSub fSu fdSu) (bU : Binds K fdSu ["self", "other"] []) (mU : Meth K C "__sub__" fSu)
    (FM : Fun K "__mul__" "Ratio.__mul__" sMul fM fdM) (bM : Binds K fdM ["self", "other"] []) (mM : Meth K C "__mul__" fM)
    (FB : Fun K "below" "Ratio.below" sBelow fBe fdBe) (bB : Binds K fdBe ["self", "other"] []) (mB : Meth K C "below" fBe)
    (FSm : Fun K "_law_same" "_law_same" sSame fSm fdSm) (bSm : Binds K fdSm ["_law_one", "_law_other"] []) (gSm : mg "_law_same" = some (.ref fSm))
    (FL : Fun K "_law_lowest" "_law_lowest" sLow fL fdL) (bL : Binds K fdL ["_law_top", "_law_bottom"] []) (gL : mg "_law_lowest" = some (.ref fL))
    (FP : Fun K "_law_parts" "_law_parts" sParts fPa fdPa) (bP : Binds K fdPa ["_law_ratio"] []) (gP : mg "_law_parts" = some (.ref fPa)) :
    FnOk P w K mg base CX0 5 f fd ["_law_one", "_law_other"] (spPair C) := by
  have GE : FnOk P w K mg base CX0 1 fE fdE ["self", "other"] (spEq C) := ok_eq FE T
  have GS : FnOk P w K mg base CX0 1 fS fdS ["self"] (spStr C) := ok_str FS T
  have GA : FnOk P w K mg base CX0 3 fA fdA ["self", "other"] (spAdd C) := ok_add FA T M FI bI
  have GU : FnOk P w K mg base CX0 3 fSu fdSu ["self", "other"] (spSub C) := ok_sub FU T M FI bI
  have GM : FnOk P w K mg base CX0 3 fM fdM ["self", "other"] (spMul C) := ok_mul FM T M FI bI
  have GB : FnOk P w K mg base CX0 1 fBe fdBe ["self", "other"] (spBelow C) := ok_below FB T
  have GSm : FnOk P w K mg base CX0 1 fSm fdSm ["_law_one", "_law_other"] spSameB := ok_same FSm T.zRepr
  have GL : FnOk P w K mg base CX0 1 fL fdL ["_law_top", "_law_bottom"] spLow := ok_low FL T.zAbs
  have GP : FnOk P w K mg base CX0 1 fPa fdPa ["_law_ratio"] (spParts C) := ok_parts FP T
  refine F.ok scPr (fun vs H Q E h => ?_) (fun cdv A outer s H vs Q E hr h => ?_)
  · obtain ⟨p, q, a, b, c, d, rfl, _⟩ := h
    rfl
  · obtain ⟨p, q, a, b, c, d, rfl, ⟨⟨r1, t1, hp, ht1, hr1⟩, ca, sa, sb⟩, ⟨⟨r2, t2, hq, ht2, hr2⟩, cc, sc, sd⟩, k⟩ := h
    have R1 : Room 1 _ := hr.mono (by decide)
    have R2 : Room 2 _ := hr.mono (by decide)
    have R3 : Room 3 _ := hr.mono (by decide)
    have hu := hr.units
    refine ⟨_, pss_cons (ps_asg (pe_tup (pa_cons (pv 0) (pa_cons (pv 1) pa_nil))) (pg_tup (by rfl)
        (pgs_cons (pg_tup (by rfl) (pgs_cons (pg_name (i := 2) scPr.nd rfl (.inl rfl)) (pgs_cons (pg_tup (by rfl) (pgs_cons (pg_name (i := 3) scPr.nd rfl (.inl rfl)) (pgs_cons (pg_name (i := 4) scPr.nd rfl (.inl rfl)) pgs_nil))) pgs_nil)))
        (pgs_cons (pg_tup (by rfl) (pgs_cons (pg_name (i := 5) scPr.nd rfl (.inl rfl)) (pgs_cons (pg_tup (by rfl) (pgs_cons (pg_name (i := 6) scPr.nd rfl (.inl rfl)) (pgs_cons (pg_name (i := 7) scPr.nd rfl (.inl rfl)) pgs_nil))) pgs_nil))) pgs_nil))))
      (pss_cons (ps_if (pt_cmpR (op_neD hu) (pe_call GP R1 (by rfl) gP FP.kp bP .nil pass0 (pa_cons (pe_op (op_own2 GA R3 bA pass0 T.sf (by exact mA.at_) mA.fn) (pv 2) (pv 5)) pa_nil))
          (pe_call GL R1 (by rfl) gL FL.kp bL .nil pass0 (pa_cons (pe_op op_add (pe_op op_mulW (pv 3) (pv 7)) (pe_op op_mulW (pv 6) (pv 4))) (pa_cons (pe_op op_mulW (pv 4) (pv 7)) pa_nil))) (nomark _)) (pss_one (ps_ret pe_bl)) pss_nil)
      (pss_cons (ps_if (pt_cmpR (op_neD hu) (pe_call GP R1 (by rfl) gP FP.kp bP .nil pass0 (pa_cons (pe_op (op_own2 GU R3 bU pass0 T.sf (by exact mU.at_) mU.fn) (pv 2) (pv 5)) pa_nil))
          (pe_call GL R1 (by rfl) gL FL.kp bL .nil pass0 (pa_cons (pe_op op_sub (pe_op op_mulW (pv 3) (pv 7)) (pe_op op_mulW (pv 6) (pv 4))) (pa_cons (pe_op op_mulW (pv 4) (pv 7)) pa_nil))) (nomark _)) (pss_one (ps_ret pe_bl)) pss_nil)
      (pss_cons (ps_if (PW.pt (pw_or (pt_cmpR (op_neD hu) (pe_call GP R1 (by rfl) gP FP.kp bP .nil pass0 (pa_cons (pe_op (op_own2 GM R3 bM pass0 T.sf (by exact mM.at_) mM.fn) (pv 2) (pv 5)) pa_nil))
          (pe_call GL R1 (by rfl) gL FL.kp bL .nil pass0 (pa_cons (pe_op op_mulW (pv 3) (pv 6)) (pa_cons (pe_op op_mulW (pv 4) (pv 7)) pa_nil))) (nomark _))
          (pw_or1 (pt_cmpR op_ne (pe_cmpR (op_ownEq GE R1 bE pass0 mE.at_ mE.fn) (pv 2) (pv 5) (nomark _)) (pe_cmpR op_eq (pe_op op_mulW (pv 3) (pv 7)) (pe_op op_mulW (pv 6) (pv 4)) (nomark _)) (nomark _))))) (pss_one (ps_ret pe_bl)) pss_nil)
      (pss_cons (ps_if (PW.pt (pw_or (pt_cmpR (op_ownEq GE R1 bE pass0 mE.at_ mE.fn) (pv 2) (pv 3) (nomark _)) (pw_or (pt_cmpR (op_ownEq GE R1 bE pass0 mE.at_ mE.fn) (pv 2) (pe_tup (pa_cons (pv 3) (pa_cons (pv 4) pa_nil))) (nomark _))
          (pw_or1 (pt_cmpR (op_ownEq GE R1 bE pass0 mE.at_ mE.fn) (pv 2) (pe_callTy (call_strOwn GS R2 bS pass0 mS.at_ mS.fn) (by rfl) T.zStr PyProof.Rows.boot_str (pa_cons (pv 2) pa_nil)) (nomark _)))))) (pss_one (ps_ret pe_bl)) pss_nil)
      (pss_one (ps_ret (pe_call GSm R1 (by rfl) gSm FSm.kp bSm .nil pass0 (pa_cons (pe_meth (pv 2) T.cl mB GB R1 bB .nil pass0 (pa_cons (pv 5) pa_nil)) (pa_cons (pe_cmpR op_lt (pe_op op_mulW (pv 3) (pv 7)) (pe_op op_mulW (pv 6) (pv 4)) (nomark _)) pa_nil))))))))), ?_⟩
    refine ⟨_, rfl, _, rfl, (by show 2 ≤ sizeLine; decide), fun pp hpp => ?_⟩
    have s0 : Same H (upd H pp (.tup [.ref p, .ref q])) := same_new hpp
    generalize hG : upd H pp (.tup [.ref p, .ref q]) = H0 at s0 ⊢
    refine ⟨pp, _, rfl, SqT.of (by rw [← hG]; exact upd_same), rfl, _, _, rfl, ?_⟩
    clear hG
    refine ⟨p, _, rfl, SqT.of (s0 _ _ hp), rfl, _, _, rfl, _, _, rfl, ⟨t1, _, rfl, SqT.of (s0 _ _ ht1), rfl, _, _, rfl, _, _, rfl, rfl, rfl, _, _, rfl, ?_⟩⟩
    refine ⟨q, _, rfl, SqT.of (s0 _ _ hq), rfl, _, _, rfl, _, _, rfl, ⟨t2, _, rfl, SqT.of (s0 _ _ ht2), rfl, _, _, rfl, _, _, rfl, rfl, rfl, rfl, ?_⟩⟩
    obtain ⟨dx, hr1⟩ := hr1
    obtain ⟨dy, hr2⟩ := hr2
    have hbd : b * d ≠ 0 := by
      have := Int.mul_pos ca.pos cc.pos
      omega
    refine ⟨_, rfl, _, rfl, r1, r2, dx, dy, _, _, rfl, rfl, s0 _ _ hr1, s0 _ _ hr2, r1, r2, a, b, c, d, rfl, ⟨dx, s0 _ _ hr1⟩, ⟨dy, s0 _ _ hr2⟩, sa.mono (by decide), sb.mono (by decide), sc.mono (by decide), sd.mono (by decide), hbd, fun x1 H11 hx1 S11 Rx1 => ?_⟩
    refine ⟨x1, _, _, rfl, Rx1, fun u1 H21 hu1 S21 eu1 => ?_⟩
    refine ⟨_, rfl, _, rfl, _, _, rfl, rfl, sa.mulW sd (by decide) (by decide) (by decide), _, rfl, _, rfl, _, _, rfl, rfl, sc.mulW sb (by decide) (by decide) (by decide), _, _, rfl, rfl, _, rfl, _, rfl, _, _, rfl, rfl, sb.mulW sd (by decide) (by decide) (by decide), _, _, rfl, ((sa.mul sd).add (sc.mul sb)).mono (by decide), (sb.mul sd).mono (by decide), hbd, fun v1 H31 hv1 S31 ev1 => ?_⟩
    refine ⟨_, _, dp2 (S31 _ _ eu1), dp2 ev1, shaped2 _ _, shaped2 _ _, _, rfl, ?_⟩
    refine iteB (fun h => absurd h (by rw [eqv2_self]; exact Bool.false_ne_true)) (fun _ => ?_)
    have s1 : Same H H31 := ((s0.trans S11).trans S21).trans S31
    refine ⟨_, rfl, _, rfl, r1, r2, dx, dy, _, _, rfl, rfl, s1 _ _ hr1, s1 _ _ hr2, r1, r2, a, b, c, d, rfl, ⟨dx, s1 _ _ hr1⟩, ⟨dy, s1 _ _ hr2⟩, sa.mono (by decide), sb.mono (by decide), sc.mono (by decide), sd.mono (by decide), hbd, fun x2 H12 hx2 S12 Rx2 => ?_⟩
    refine ⟨x2, _, _, rfl, Rx2, fun u2 H22 hu2 S22 eu2 => ?_⟩
    refine ⟨_, rfl, _, rfl, _, _, rfl, rfl, sa.mulW sd (by decide) (by decide) (by decide), _, rfl, _, rfl, _, _, rfl, rfl, sc.mulW sb (by decide) (by decide) (by decide), _, _, rfl, rfl, _, rfl, _, rfl, _, _, rfl, rfl, sb.mulW sd (by decide) (by decide) (by decide), _, _, rfl, ((sa.mul sd).sub (sc.mul sb)).mono (by decide), (sb.mul sd).mono (by decide), hbd, fun v2 H32 hv2 S32 ev2 => ?_⟩
    refine ⟨_, _, dp2 (S32 _ _ eu2), dp2 ev2, shaped2 _ _, shaped2 _ _, _, rfl, ?_⟩
    refine iteB (fun h => absurd h (by rw [eqv2_self]; exact Bool.false_ne_true)) (fun _ => ?_)
    have s2 : Same H H32 := ((s1.trans S12).trans S22).trans S32
    refine ⟨_, rfl, _, rfl, r1, r2, dx, dy, _, _, rfl, rfl, s2 _ _ hr1, s2 _ _ hr2, r1, r2, a, b, c, d, rfl, ⟨dx, s2 _ _ hr1⟩, ⟨dy, s2 _ _ hr2⟩, sa.mono (by decide), sb.mono (by decide), sc.mono (by decide), sd.mono (by decide), hbd, fun x3 H13 hx3 S13 Rx3 => ?_⟩
    refine ⟨x3, _, _, rfl, Rx3, fun u3 H23 hu3 S23 eu3 => ?_⟩
    refine ⟨_, rfl, _, rfl, _, _, rfl, rfl, sa.mulW sc (by decide) (by decide) (by decide), _, rfl, _, rfl, _, _, rfl, rfl, sb.mulW sd (by decide) (by decide) (by decide), _, _, rfl, (sa.mul sc).mono (by decide), (sb.mul sd).mono (by decide), hbd, fun v3 H33 hv3 S33 ev3 => ?_⟩
    refine ⟨_, _, dp2 (S33 _ _ eu3), dp2 ev3, shaped2 _ _, shaped2 _ _, _, rfl, ?_⟩
    refine iteB (fun h => absurd h (by rw [eqv2_self]; exact Bool.false_ne_true)) (fun _ => ?_)
    have s3 : Same H H33 := ((s2.trans S13).trans S23).trans S33
    refine ⟨_, rfl, _, rfl, r1, dx, _, _, rfl, s3 _ _ hr1, .base (.ins (s3 _ _ hr2) T.cl T.cA T.cG T.cT T.cM), T.fC, r1, a, b, _, rfl, ⟨dx, s3 _ _ hr1⟩, .inl ⟨r2, c, d, rfl, ⟨dy, s3 _ _ hr2⟩, ?_⟩⟩
    refine ⟨_, rfl, _, rfl, _, _, rfl, rfl, sa.mulW sd (by decide) (by decide) (by decide), _, rfl, _, rfl, _, _, rfl, rfl, sc.mulW sb (by decide) (by decide) (by decide), rfl, rfl, _, rfl, ?_⟩
    have ed : (!decide (V.bl (decide (a = c) && decide (b = d)) = V.bl (decide (V.int (a * d) = V.int (c * b))))) = false := by
      rw [canon_iff ca cc]
      simp
    refine iteB (fun h => absurd (ed.symm.trans h) Bool.false_ne_true) (fun _ => ?_)
    refine ⟨_, rfl, _, rfl, r1, dx, _, _, rfl, s3 _ _ hr1, .base (.int a), T.fI, r1, a, b, _, rfl, ⟨dx, s3 _ _ hr1⟩, .inr ⟨.inl ⟨_, rfl⟩, _, rfl, ?_⟩⟩
    refine iteF ?_
    refine ⟨_, rfl, _, rfl, _, rfl, (by show 2 ≤ sizeLine; decide), fun tq htq => ?_⟩
    have s4 : Same H (upd H33 tq (.tup [.int a, .int b])) := s3.trans (same_new htq)
    refine ⟨r1, dx, _, _, rfl, s4 _ _ hr1, .base (.tup upd_same), T.fT, r1, a, b, _, rfl, ⟨dx, s4 _ _ hr1⟩, .inr ⟨.inr (.inr ⟨_, _, rfl, upd_same⟩), _, rfl, ?_⟩⟩
    refine iteF ?_
    refine ⟨_, rfl, _, rfl, r1, dx, _, rfl, s4 _ _ hr1, r1, a, b, rfl, ⟨dx, s4 _ _ hr1⟩, sa.mono (by decide), sb.mono (by decide), _, rfl, ?_⟩
    refine ⟨r1, dx, _, _, rfl, s4 _ _ hr1, .base (.str _), T.fS, r1, a, b, _, rfl, ⟨dx, s4 _ _ hr1⟩, .inr ⟨.inr (.inl ⟨_, rfl⟩), _, rfl, ?_⟩⟩
    refine iteF ?_
    refine ⟨_, rfl, r1, dx, _, rfl, s4 _ _ hr1, rf_no _ _ (by decide +kernel) (by decide +kernel), _, rfl, r1, r2, a, b, c, d, rfl, ⟨dx, s4 _ _ hr1⟩, ⟨dy, s4 _ _ hr2⟩, sa.mono (by decide), sb.mono (by decide), sc.mono (by decide), sd.mono (by decide), ?_⟩
    refine ⟨_, rfl, _, rfl, _, _, rfl, rfl, sa.mulW sd (by decide) (by decide) (by decide), _, rfl, _, rfl, _, _, rfl, rfl, sc.mulW sb (by decide) (by decide) (by decide), _, _, rfl, rfl, _, _, rfl, ?_⟩
    have et : decide (decide (a * d < c * b) = decide (a * d < c * b)) = true := decide_eq_true rfl
    rw [et]
    exact k _ s4
end
end R3

namespace R3
open PySem L2 L3
theorem s_ext {x y : Str} (h : x.cps.toList = y.cps.toList) : x = y := by
  obtain ⟨a⟩ := x
  obtain ⟨b⟩ := y
  have : a = b := Array.toList_inj.mp h
  rw [this]
theorem s_app (x y : Str) : (x ++ y).cps.toList = x.cps.toList ++ y.cps.toList := by
  obtain ⟨a⟩ := x
  obtain ⟨b⟩ := y
  show (a ++ b).toList = _
  simp
theorem s_empty : Str.empty.cps.toList = [] := rfl
theorem times1 (x : Str) : timesS x 1 = x := by
  refine s_ext ?_
  unfold timesS
  rw [if_neg (by decide)]
  show (List.foldl (· ++ ·) #[] (List.replicate 1 x.cps)).toList = _
  rw [foldRep]
  simp
theorem times0 (x : Str) : timesS x 0 = Str.empty := by
  unfold timesS
  rw [if_pos (by decide)]
theorem text_eq (t b : Int) : iT t ++ timesS (Str.ofString "/" ++ iT b) (if (!decide (V.int b = V.int 1)) = true then 1 else 0) = ratText t b := by
  unfold ratText
  by_cases h : b = 1
  · rw [if_pos h, h]
    have e : (!decide (V.int 1 = V.int 1)) = false := by simp
    rw [e, if_neg Bool.false_ne_true, times0]
    exact s_ext (by rw [s_app, s_empty, List.append_nil])
  · rw [if_neg h]
    have e : (!decide (V.int b = V.int 1)) = true := by simp [h]
    rw [e, if_pos rfl, times1]
    exact s_ext (by simp only [s_app, s_empty, List.nil_append, List.append_assoc])
theorem pad_eq (x : Str) (w : Int) (h0 : 0 ≤ w) : timesS (Str.ofString " ") (if w - (x.length : Int) > 0 then w - (x.length : Int) else 0) ++ x = Txt.rjust x w := by
  unfold Txt.rjust
  by_cases h : w ≤ x.length
  · rw [if_pos h, if_neg (by omega), times0]
    exact s_ext (by rw [s_app, s_empty, List.nil_append])
  · rw [if_neg h, if_pos (by omega)]
    refine s_ext ?_
    rw [s_app]
    unfold timesS
    rw [if_neg (by omega)]
    show (List.foldl (· ++ ·) #[] (List.replicate (w - (x.length : Int)).toNat (Str.ofString " ").cps)).toList ++ x.cps.toList = (Array.replicate (w.toNat - x.length) 32 ++ x.cps ++ Array.replicate 0 32).toList
    rw [foldRep]
    have e1 : (Str.ofString " ").cps.toList = [32] := by decide +kernel
    have e2 : (w - (x.length : Int)).toNat = w.toNat - x.length := by omega
    rw [e1, e2]
    have e3 : ∀ n : Nat, (List.replicate n [32]).flatten = List.replicate n 32 := by
      intro n
      induction n with
      | zero => rfl
      | succ n ih => rw [List.replicate_succ, List.flatten_cons, ih]; rfl
    rw [e3]
    simp
theorem ratText_len {t b : Int} (st : Sm 200 t) (sb : Sm 200 b) : (ratText t b).length ≤ 4000 := by
  have l1 := iT_len st
  have l2 := iT_len sb
  have l0 : (Str.ofString "/").length = 1 := by decide
  have le : Str.empty.length = 0 := by decide
  unfold ratText
  split
  · omega
  · rw [len_app, len_app, len_app, le, l0]
    omega
theorem rjust_len (x : Str) (w : Int) : (Txt.rjust x w).length ≤ x.length + w.toNat := by
  unfold Txt.rjust
  split
  · omega
  · show (Array.replicate (w.toNat - x.length) 32 ++ x.cps ++ Array.replicate 0 32).size ≤ x.cps.size + w.toNat
    simp
    omega
/-! ### the law's state -/
/-- what stands within a turn of the law: all of Hs, the feed at a, the items at l -/
structure SI (C : Addr) (Hs : Hp) (a l : Addr) (n : Nat) (ps : List Addr) (H : Hp) : Prop where
  same : Same Hs H
  fd : FeedAt H a
  ls : H l = some (.lst (ps.map V.ref))
  its : ∀ p ∈ ps, ∃ t b, ItAt C H p t b ∧ Sm n t ∧ Sm n b
theorem ItAt.bh {C a l : Addr} {H H' : Hp} {p : Addr} {t b : Int} (ha : ∃ xs, H a = some (.lst xs)) (hl : ∃ xs, H l = some (.lst xs)) (k : ∀ c o, c ≠ a → c ≠ l → H c = some o → H' c = some o) (h : ItAt C H p t b) : ItAt C H' p t b := by
  obtain ⟨xs, ha⟩ := ha
  obtain ⟨ys, hl⟩ := hl
  obtain ⟨⟨r, q, h1, h2, dx, h3⟩, c, x, y⟩ := h
  have n1 : ∀ {z : Addr} {vs us : List V}, H z = some (.tup vs) → ∀ {w : Addr}, H w = some (.lst us) → z ≠ w := by
    intro z vs us hz w hw
    exact ne_of hz hw (by intro q; cases q)
  exact ⟨⟨r, q, k _ _ (n1 h1 ha) (n1 h1 hl) h1, k _ _ (n1 h2 ha) (n1 h2 hl) h2, dx, k _ _ (ne_of h3 ha (by intro q; cases q)) (ne_of h3 hl (by intro q; cases q)) h3⟩, c, x, y⟩
theorem SI.ne {C : Addr} {Hs : Hp} {a l : Addr} {n : Nat} {ps : List Addr} {H : Hp} (s : SI C Hs a l n ps H) : a ≠ l := by
  intro e
  obtain ⟨x, y, h, _⟩ := s.fd
  have h2 := s.ls
  rw [← e, h] at h2
  cases ps with
  | nil => cases h2
  | cons p r => cases h2
section
variable {C : Addr} {Hs : Hp} {a l : Addr} {n : Nat} {ps : List Addr} {H H' : Hp}
theorem SI.draw (na : Hs a = none) (s : SI C Hs a l n ps H) (d : Dr a H H') : SI C Hs a l n ps H' := by
  obtain ⟨x, y, hx, _⟩ := s.fd
  refine ⟨fun b o e => d.sm b o (fun z => by rw [z, na] at e; cases e) (s.same b o e), d.fd, d.sm _ _ (fun z => s.ne z.symm) s.ls, fun p hp => ?_⟩
  obtain ⟨t, b, i, u, v⟩ := s.its p hp
  exact ⟨t, b, i.bh ⟨_, hx⟩ ⟨_, s.ls⟩ fun c o n1 _ e => d.sm c o n1 e, u, v⟩
theorem SI.pure (s : SI C Hs a l n ps H) (d : Same H H') : SI C Hs a l n ps H' := by
  obtain ⟨x, y, hx, hy⟩ := s.fd
  refine ⟨s.same.trans d, ⟨x, y, d _ _ hx, hy⟩, d _ _ s.ls, fun p hp => ?_⟩
  obtain ⟨t, b, i, u, v⟩ := s.its p hp
  exact ⟨t, b, i.same d, u, v⟩
theorem SI.app {m : Nat} {p : Addr} {t b : Int} (nl : Hs l = none) (s : SI C Hs a l n ps H) (hm : n ≤ m) (i : ItAt C H p t b) (st : Sm m t) (sb : Sm m b) : SI C Hs a l m (ps ++ [p]) (upd H l (.lst ((ps.map V.ref) ++ [.ref p]))) := by
  obtain ⟨x, y, hx, hy⟩ := s.fd
  have k : ∀ c o, c ≠ a → c ≠ l → H c = some o → upd H l (.lst ((ps.map V.ref) ++ [.ref p])) c = some o := fun c o _ nl e => by rw [upd_ne nl]; exact e
  refine ⟨fun b o e => ?_, ⟨x, y, ?_, hy⟩, ?_, fun q hq => ?_⟩
  · rw [upd_ne (ne_of_none e nl)]
    exact s.same b o e
  · rw [upd_ne s.ne]
    exact hx
  · rw [upd_same, List.map_append]
    rfl
  · rcases List.mem_append.mp hq with hq | hq
    · obtain ⟨t, b, i, u, v⟩ := s.its q hq
      exact ⟨t, b, i.bh ⟨_, hx⟩ ⟨_, s.ls⟩ k, u.mono hm, v.mono hm⟩
    · have e : q = p := by simpa using hq
      subst e
      exact ⟨t, b, i.bh ⟨_, hx⟩ ⟨_, s.ls⟩ k, st, sb⟩
theorem SI.script {K : PySem.W.Frag} {s : Addr} {xs : List V} (x : SI C Hs a l n ps H) (h : SqL K Hs s xs) : SqL K H s xs := x.same.seq h
end
end R3

namespace R3
open PySem L2 L3
open C8 (pss_cut tCut)
def spLaw (K : PySem.W.Frag) : Sp := fun vs H Q _ => ∃ (a : Addr) (ns : List Int), vs = [.ref a] ∧ SqL K H a (ns.map V.int) ∧ ns.length ≤ 63 ∧ ∀ H', Q (.bl true) H'
section
variable {P : Program} {w : World} {K : PySem.W.Frag} {mg : Str → Option Value} {base : Heap} {C CN : Addr}
abbrev NL : List Str := ["_law_script", "_law_k", "_law_feed_here", "_law_some", "_law_turn", "_law_part", "_law_top", "_law_bottom", "_law_great", "_law_one", "_law_a", "_law_b", "_law_other", "_law_c", "_law_d", "_law_ratio", "_law_text", "_law_width"]
theorem scLa : FnScope NL ["_law_script"] (defScope sLaw) := ⟨rfl, rfl, rfl, by decide +kernel, rfl, by decide +kernel, by decide +kernel⟩
theorem ok_law {f fI fS fA fM fN fBo fPd fFd fT fL fPa fMa fPr : Addr} {fd fdI fdS fdA fdM fdN fdBo fdPd fdFd fdT fdL fdPa fdMa fdPr : FuncData} (F : Fun K "law" "law" sLaw f fd) (T : Txt K mg C CN)
    (M : Mk K C fI) (FI : FInit K fI fdI) (bI : Binds K fdI ["self", "top", "bottom"] []) {dI : List Value} (rI : Vals [.int 1] dI) (bI1 : Binds K fdI ["self", "top", "bottom"] dI)
    (FS : Fun K "__str__" "Ratio.__str__" sStr fS fdS) (bS : Binds K fdS ["self"] []) (mS : Meth K C "__str__" fS)
    (FA : Fun K "__add__" "Ratio.__add__" sAdd fA fdA) (bA : Binds K fdA ["self", "other"] []) (mA : Meth K C "__add__" fA)
    (FM : Fun K "__mul__" "Ratio.__mul__" sMul fM fdM) (bM : Binds K fdM ["self", "other"] []) (mM : Meth K C "__mul__" fM)
    (FN : Fun K "__neg__" "Ratio.__neg__" sNeg fN fdN) (bN : Binds K fdN ["self"] []) (mN : Meth K C "__neg__" fN)
    (FB : Fun K "__bool__" "Ratio.__bool__" sBool fBo fdBo) (bB : Binds K fdBo ["self"] []) (mB : Meth K C "__bool__" fBo)
    (FPd : Fun K "padded" "Ratio.padded" sPad fPd fdPd) (bPd : Binds K fdPd ["self", "width"] []) (mPd : Meth K C "padded" fPd)
    (FF : Fun K "_law_feed" "_law_feed" sFeed fFd fdFd) (bF : Binds K fdFd ["_law_script", "_law_k"] []) (gF : mg "_law_feed" = some (.ref fFd))
    (FT : Fun K "_law_take" "_law_take" sTake fT fdT) (bT : Binds K fdT ["_law_feed_here", "_law_many"] []) (gT : mg "_law_take" = some (.ref fT))
    (FL : Fun K "_law_lowest" "_law_lowest" sLow fL fdL) (bL : Binds K fdL ["_law_top", "_law_bottom"] []) (gL : mg "_law_lowest" = some (.ref fL))
    (FP : Fun K "_law_parts" "_law_parts" sParts fPa fdPa) (bP : Binds K fdPa ["_law_ratio"] []) (gP : mg "_law_parts" = some (.ref fPa))
    (FMa : Fun K "_law_made" "_law_made" sMade fMa fdMa) (bMa : Binds K fdMa ["_law_top", "_law_bottom"] []) (gMa : mg "_law_made" = some (.ref fMa))
    (GPr : FnOk P w K mg base CX0 5 fPr fdPr ["_law_one", "_law_other"] (spPair C)) (kPr : PySem.W.keepIn K (.ref fPr) = true) (bPr : Binds K fdPr ["_law_one", "_law_other"] []) (gPr : mg "_law_pair_right" = some (.ref fPr)) :
    FnOk P w K mg base CX0 6 f fd ["_law_script"] (spLaw K) := by
  have GI : FnOk P w K mg base (L2.CX P w) 1 fI fdI ["self", "top", "bottom"] (spInit C CN) := ok_init FI T
  have GS : FnOk P w K mg base CX0 1 fS fdS ["self"] (spStr C) := ok_str FS T
  have GA : FnOk P w K mg base CX0 3 fA fdA ["self", "other"] (spAdd C) := ok_add FA T M FI bI
  have GM : FnOk P w K mg base CX0 3 fM fdM ["self", "other"] (spMul C) := ok_mul FM T M FI bI
  have GN : FnOk P w K mg base CX0 3 fN fdN ["self"] (spNeg C) := ok_neg FN T M FI bI
  have GB : FnOk P w K mg base CX0 1 fBo fdBo ["self"] (spBool C) := ok_bool FB T
  have GPd : FnOk P w K mg base CX0 3 fPd fdPd ["self", "width"] (spPad C) := ok_pad FPd T FS bS mS
  have GF : FnOk P w K mg base CX0 1 fFd fdFd ["_law_script", "_law_k"] (spFeed K) := ok_feed FF T.zLen T.zAbs
  have GT : FnOk P w K mg base CX0 1 fT fdT ["_law_feed_here", "_law_many"] spTake := ok_take FT
  have GL : FnOk P w K mg base CX0 1 fL fdL ["_law_top", "_law_bottom"] spLow := ok_low FL T.zAbs
  have GP : FnOk P w K mg base CX0 1 fPa fdPa ["_law_ratio"] (spParts C) := ok_parts FP T
  have GMa : FnOk P w K mg base CX0 3 fMa fdMa ["_law_top", "_law_bottom"] spMade := ok_made FMa T M FI bI FP bP gP
  refine F.ok scLa (fun vs H Q E h => ?_) (fun cdv A outer s H vs Q E hr h => ?_)
  · obtain ⟨a, ns, rfl, _⟩ := h
    rfl
  · obtain ⟨s0, ns, rfl, hS, hn, k⟩ := h
    have R1 : Room 1 _ := hr.mono (by decide)
    have R2 : Room 2 _ := hr.mono (by decide)
    have R3 : Room 3 _ := hr.mono (by decide)
    have hu := hr.units
    have nd := scLa.nd
    refine ⟨_, pss_cons (ps_for PassesOwn.never rfl (pi_range1 (by rfl) T.zRng (pa_cons (pe_callB (call_max2 rfl) (by rfl) T.zMax PyProof.Rows.boot_max (pa_cons pe_int (pa_cons (pe_callB (call_min2 rfl) (by rfl) T.zMin PyProof.Rows.boot_min (pa_cons pe_int (pa_cons (pe_callB call_len_seq (by rfl) T.zLen PySem.boot_len (pa_cons (pv 0) pa_nil)) pa_nil))) pa_nil))) pa_nil)) (pg_name (i := 1) nd rfl (.inl rfl))
      (pss_cons (ps_set (i := 2) nd rfl (.inl rfl) (pe_call GF R1 (by rfl) gF FF.kp bF .nil pass0 (pa_cons (pv 0) (pa_cons (pv 1) pa_nil))))
      (pss_cons (ps_set (i := 3) nd rfl (.inl rfl) (pe_lst pa_nil))
      (pss_cons (ps_for PassesOwn.never rfl (pi_range1 (by rfl) T.zRng (pa_cons pe_int pa_nil)) (pg_name (i := 4) nd rfl (.inl rfl))
        (pss_cons (ps_set (i := 5) nd rfl (.inl rfl) (pe_op op_add pe_int (pe_call GT R1 (by rfl) gT FT.kp bT .nil pass0 (pa_cons (pv 2) (pa_cons pe_int pa_nil)))))
        (pss_cons (ps_par (i := 6) (j := 7) (by rfl) nd rfl rfl (by decide) rfl rfl (pa_cons (pe_op op_mulW (pv 5) (pe_op op_sub (pe_call GT R1 (by rfl) gT FT.kp bT .nil pass0 (pa_cons (pv 2) (pa_cons
              (pe_ix ix_list (pe_lst (pa_cons pe_int (pa_cons pe_int (pa_cons (pe_op op_pow pe_int pe_int) pa_nil)))) (pe_op op_mod (pv 4) pe_int) (fun _ _ => rfl)) pa_nil))) pe_int))
            (pa_cons (pe_op op_mulW (pv 5) (pe_op op_sub (pe_call GT R1 (by rfl) gT FT.kp bT .nil pass0 (pa_cons (pv 2) (pa_cons pe_int pa_nil))) pe_int)) pa_nil)) (by rfl))
        (pss_cut (ps_if (pt_cmpR (op_neD hu) (pe_call GMa R3 (by rfl) gMa FMa.kp bMa .nil pass0 (pa_cons (pv 6) (pa_cons (pv 7) pa_nil)))
            (pe_ifExp (pt_cmpR op_eq (pv 7) pe_int (nomark _)) pe_str (pe_call GL R1 (by rfl) gL FL.kp bL .nil pass0 (pa_cons (pv 6) (pa_cons (pv 7) pa_nil)))) (nomark _)) (pss_one (ps_ret pe_bl)) pss_nil)
        (pss_cons (ps_set (i := 7) nd rfl (.inl rfl) (pe_op op_add (pv 7) (pe_callTy call_int1 (by rfl) T.zInt PyProof.Rows.boot_int (pa_cons (pe_cmpR op_eq (pv 7) pe_int (nomark _)) pa_nil))))
        (pss_one (ps_expr (pe_bm PySem.F.plainAttrs_list PySem.F.slot_list_append PySem.F.type_list_append mt_append (pv 3) (pa_cons (pe_tup (pa_cons (pe_make M GI R2 (by rfl) T.gC bI .nil passL (pa_cons (pv 6) (pa_cons (pv 7) pa_nil)))
            (pa_cons (pe_call GL R1 (by rfl) gL FL.kp bL .nil pass0 (pa_cons (pv 6) (pa_cons (pv 7) pa_nil))) pa_nil))) pa_nil)))))))))
      (pss_cut (ps_par3 (i := 8) (j := 7) (l := 5) (by rfl) nd rfl rfl rfl (by decide) (by decide) (by decide) rfl rfl rfl (pa_cons (pe_op op_add (pe_op op_pow pe_int pe_int) (pe_call GT R1 (by rfl) gT FT.kp bT .nil pass0 (pa_cons (pv 2) (pa_cons (pe_op op_pow pe_int pe_int) pa_nil))))
          (pa_cons (pe_op op_add pe_int (pe_call GT R1 (by rfl) gT FT.kp bT .nil pass0 (pa_cons (pv 2) (pa_cons pe_int pa_nil)))) (pa_cons (pe_op op_add pe_int (pe_call GT R1 (by rfl) gT FT.kp bT .nil pass0 (pa_cons (pv 2) (pa_cons pe_int pa_nil)))) pa_nil))) (by rfl))
      (pss_cons (ps_for PassesOwn.never rfl (pi_tup (pe_tup (pa_cons (pv 8) (pa_cons (pe_op op_add (pv 8) pe_int) pa_nil)))) (pg_name (i := 6) nd rfl (.inl rfl))
        (pss_one (ps_expr (pe_bm PySem.F.plainAttrs_list PySem.F.slot_list_append PySem.F.type_list_append mt_append (pv 3) (pa_cons (pe_tup (pa_cons (pe_make M GI R2 (by rfl) T.gC bI .nil passL (pa_cons (pe_op op_mulW (pv 6) (pv 5)) (pa_cons (pe_op op_mulW (pv 7) (pv 5)) pa_nil)))
            (pa_cons (pe_call GL R1 (by rfl) gL FL.kp bL .nil pass0 (pa_cons (pv 6) (pa_cons (pv 7) pa_nil))) pa_nil))) pa_nil)))))
      (pss_cut (ps_asg (pe_tup (pa_cons (pe_ix ix_list (pv 3) pe_int (fun _ _ => rfl)) (pa_cons (pe_ix ix_list (pv 3) pe_int (fun _ _ => rfl)) pa_nil))) (pg_tup (by rfl)
          (pgs_cons (pg_tup (by rfl) (pgs_cons (pg_name (i := 9) nd rfl (.inr rfl)) (pgs_cons (pg_tup (by rfl) (pgs_cons (pg_name (i := 10) nd rfl (.inl rfl)) (pgs_cons (pg_name (i := 11) nd rfl (.inl rfl)) pgs_nil))) pgs_nil)))
          (pgs_cons (pg_tup (by rfl) (pgs_cons (pg_name (i := 12) nd rfl (.inl rfl)) (pgs_cons (pg_tup (by rfl) (pgs_cons (pg_name (i := 13) nd rfl (.inl rfl)) (pgs_cons (pg_name (i := 14) nd rfl (.inl rfl)) pgs_nil))) pgs_nil))) pgs_nil))))
      (pss_cons (ps_expr (pe_bm PySem.F.plainAttrs_list PySem.F.slot_list_append PySem.F.type_list_append mt_append (pv 3) (pa_cons (pe_tup (pa_cons
          (pe_op (op_own2 GM R3 bM pass0 T.sf (by exact mM.at_) mM.fn) (pe_op (op_own2 GA R3 bA pass0 T.sf (by exact mA.at_) mA.fn) (pv 9) (pv 12)) (pe_un (un_ownNeg GN R3 bN pass0 mN.at_ mN.fn) (pv 9)))
          (pa_cons (pe_call GL R1 (by rfl) gL FL.kp bL .nil pass0 (pa_cons (pe_op op_mulW (pe_op op_add (pe_op op_mulW (pv 10) (pv 14)) (pe_op op_mulW (pv 13) (pv 11))) (pe_op op_sub pe_int (pv 10))) (pa_cons (pe_op op_mulW (pe_op op_mulW (pv 11) (pv 14)) (pv 11)) pa_nil))) pa_nil))) pa_nil)))
      (pss_one (ps_for PassesOwn.never rfl (pi_list (pv 3)) (pg_name (i := 9) nd rfl (.inr rfl))
        (pss_cons (ps_asg (pv 9) (pg_tup (by rfl) (pgs_cons (pg_name (i := 15) nd rfl (.inl rfl)) (pgs_cons (pg_tup (by rfl) (pgs_cons (pg_name (i := 6) nd rfl (.inl rfl)) (pgs_cons (pg_name (i := 7) nd rfl (.inl rfl)) pgs_nil))) pgs_nil))))
        (pss_cut (ps_set (i := 16) nd rfl (.inl rfl) (pe_op op_add_str (pe_callTy call_str_int (by rfl) T.zStr PyProof.Rows.boot_str (pa_cons (pv 6) pa_nil)) (pe_op op_mulS (pe_op op_add_str pe_str (pe_callTy call_str_int (by rfl) T.zStr PyProof.Rows.boot_str (pa_cons (pv 7) pa_nil)))
            (pe_callTy call_int1 (by rfl) T.zInt PyProof.Rows.boot_int (pa_cons (pe_cmpR op_ne (pv 7) pe_int (nomark _)) pa_nil)))))
        (pss_cons (ps_set (i := 17) nd rfl (.inl rfl) (pe_op op_add pe_int (pe_call GT R1 (by rfl) gT FT.kp bT .nil pass0 (pa_cons (pv 2) (pa_cons pe_int pa_nil)))))
        (pss_cons (ps_if (PW.pt (pw_or (pt_cmpR op_ne (pe_callTy (call_strOwn GS R2 bS pass0 mS.at_ mS.fn) (by rfl) T.zStr PyProof.Rows.boot_str (pa_cons (pv 15) pa_nil)) (pv 16) (nomark _))
            (pw_or1 (pt_cmpR op_ne (pe_meth (pv 15) T.cl mPd GPd R3 bPd .nil pass0 (pa_cons (pv 17) pa_nil)) (pe_op op_add_str (pe_op op_mulS pe_str (pe_callB (call_max2 rfl) (by rfl) T.zMax PyProof.Rows.boot_max (pa_cons pe_int (pa_cons (pe_op op_sub (pv 17) (pe_callB call_len (by rfl) T.zLen PySem.boot_len (pa_cons (pv 16) pa_nil))) pa_nil)))) (pv 16)) (nomark _))))) (pss_one (ps_ret pe_bl)) pss_nil)
        (pss_cons (ps_if (PW.pt (pw_or (pt_cmpR (op_neD hu) (pe_call GP R1 (by rfl) gP FP.kp bP .nil pass0 (pa_cons (pe_un (un_ownNeg GN R3 bN pass0 mN.at_ mN.fn) (pv 15)) pa_nil)) (pe_tup (pa_cons (pe_op op_sub pe_int (pv 6)) (pa_cons (pv 7) pa_nil))) (nomark _))
            (pw_or1 (pt_cmpR op_ne (pe_callTy (call_boolOwn GB R2 bB pass0 mB.at_ mB.fn) (by rfl) T.zBool PyProof.Rows.boot_bool (pa_cons (pv 15) pa_nil)) (pe_cmpR op_ne (pv 6) pe_int (nomark _)) (nomark _))))) (pss_one (ps_ret pe_bl)) pss_nil)
        (pss_one (ps_if (PW.pt (pw_or (pt_cmpR (op_neD hu) (pe_call GP R1 (by rfl) gP FP.kp bP .nil pass0 (pa_cons (pe_make M GI R2 (by rfl) T.gC bI1 rI passL (pa_cons (pv 6) pa_nil)) pa_nil)) (pe_tup (pa_cons (pv 6) (pa_cons pe_int pa_nil))) (nomark _))
            (pw_or1 (pt_cmpR (op_neD hu) (pe_lc (own := [("_law_other", 12)]) (g := gName 12) (te := tC (.int 1)) rfl nd (pi_list (pv 3)) (blkOk_by (N := NL) (sc := defScope sLaw) (by decide +kernel)) (fun _ _ _ _ _ => pg_name (i := 12) nd rfl (.inl rfl))
              (fun _ _ _ _ _ => pts_one (pt_not (pt_val (pe_call GPr hr (by rfl) gPr kPr bPr .nil pass0 (pa_cons (pv 9) (pa_cons (pv 12) pa_nil)))))) (fun _ _ _ _ _ => pe_int)) (pe_lst pa_nil) (nomark _))))) (pss_one (ps_ret pe_bl)) pss_nil))))))))))))))))) (pss_one (ps_ret pe_bl)), ?_⟩
    -- READING
    have hlen : (ns.map V.int).length = ns.length := List.length_map ..
    refine ⟨_, rfl, s0, _, rfl, .inl hS, _, _, rfl, _, _, rfl, _, rfl, ?_, ?_, for_range (fun i σ H' => ∃ v1 v2 v3 v4 v5 v6 v7 v8 v9 v10 v11 v12 v13 v14 v15 v16 v17 : Option V, σ = [some (.ref s0), v1, v2, v3, v4, v5, v6, v7, v8, v9, v10, v11, v12, v13, v14, v15, v16, v17] ∧ Same H H')
      ⟨none, none, none, none, none, none, none, none, none, none, none, none, none, none, none, none, none, rfl, Same.refl H⟩ ?_ ?_⟩
    · split <;> omega
    · split <;> (try split) <;> omega
    · rintro i σ Hs hi ⟨v1, v2, v3, v4, v5, v6, v7, v8, v9, v10, v11, v12, v13, v14, v15, v16, v17, rfl, sH⟩
      have sH' := sH
      have hi3 : i < 3 := by
        refine Nat.lt_of_lt_of_le hi ?_
        split <;> (try split) <;> omega
      refine ⟨_, rfl, _, rfl, s0, ns, i, (by rw [Int.zero_add]; rfl), sH.seq hS, hn, by omega, fun a H1 ha S1 fd1 => ?_⟩
      refine ⟨Nat.zero_le _, fun l hl => ?_⟩
      have na : Hs a = none := ha
      have nl : Hs l = none := S1.free hl
      have I0 : SI C Hs a l 64 [] (upd H1 l (.lst [])) := by
        obtain ⟨x, y, hx, hy⟩ := fd1
        refine ⟨S1.trans (same_new hl), ⟨x, y, by rw [upd_ne (ne_of_none hx hl)]; exact hx, hy⟩, upd_same, fun p hp => by cases hp⟩
      clear fd1
      -- for turn in range(5)
      refine ⟨5, rfl, by decide, by decide, for_range (n := 5) (fun j σ H' => ∃ (v4 v5 v6 v7 : Option V) (ps : List Addr), σ = [some (.ref s0), some (.int (0 + (i : Int))), some (.ref a), some (.ref l), v4, v5, v6, v7, v8, v9, v10, v11, v12, v13, v14, v15, v16, v17] ∧ SI C Hs a l 64 ps H' ∧ ps.length = j)
        ⟨v4, v5, v6, v7, [], rfl, I0, rfl⟩ ?_ ?_⟩
      · rintro j σ H2 hj ⟨v4, v5, v6, v7, ps, rfl, I2, hps⟩
        refine ⟨_, rfl, a, 30, rfl, I2.fd, by decide, (by show (30 : Int).natAbs < 2 ^ 200; decide), fun r1 H3 r10 r11 d3 => ?_⟩
        have I3 := I2.draw na d3
        refine ⟨_, _, rfl, rfl, ?_⟩
        refine ⟨_, rfl, _, rfl, _, _, rfl, rfl, ⟨by decide, by decide, by decide⟩, (by show 3 ≤ sizeLine; decide), fun lp hlp => ?_⟩
        have I4 := I3.pure (same_new (o := .lst [.int 9, .int 1000, .int ((10 : Int) ^ (16 : Int).toNat)]) hlp)
        obtain ⟨m, hm, m0, mle⟩ : ∃ m : Int, ([V.int 9, V.int 1000, V.int ((10 : Int) ^ (16 : Int).toNat)] : List V)[j % 3]? = some (V.int m) ∧ 0 < m ∧ m ≤ 10 ^ 16 := by
          have h3 : j % 3 = 0 ∨ j % 3 = 1 ∨ j % 3 = 2 := by omega
          rcases h3 with h | h | h <;> rw [h]
          · exact ⟨9, rfl, by decide, by decide⟩
          · exact ⟨1000, rfl, by decide, by decide⟩
          · exact ⟨(10 : Int) ^ (16 : Int).toNat, rfl, by decide, by decide⟩
        have e3 : ((0 : Int) + (j : Int)) % 3 = ((j % 3 : Nat) : Int) := by omega
        refine ⟨_, rfl, _, _, rfl, rfl, (by show (0 : Int) < 3; decide), lp, _, _, .int m, rfl, rfl, SqL.of upd_same, at_of e3 hm, ?_⟩
        refine ⟨a, m, rfl, I4.fd, m0, (by show m.natAbs < 2 ^ 200; omega), fun r2 H5 r20 r21 d5 => ?_⟩
        have I5 := I4.draw na d5
        have sp : Sm 5 (1 + r1) := by show (1 + r1).natAbs < 32; omega
        have st : Sm 59 ((1 + r1) * (r2 - 4)) := sp.mul (m := 54) (by show (r2 - 4).natAbs < 2 ^ 54; omega)
        refine ⟨_, _, rfl, rfl, _, _, rfl, rfl, sp.mulW (m := 54) (by show (r2 - 4).natAbs < 2 ^ 54; omega) (by decide) (by decide) (by decide), ?_⟩
        refine ⟨_, rfl, _, rfl, a, 40, rfl, I5.fd, by decide, (by show (40 : Int).natAbs < 2 ^ 200; decide), fun r3 H6 r30 r31 d6 => ?_⟩
        have I6 := I5.draw na d6
        have sb : Sm 10 ((1 + r1) * (r3 - 20)) := sp.mul (m := 5) (by show (r3 - 20).natAbs < 32; omega)
        refine ⟨_, _, rfl, rfl, _, _, rfl, rfl, sp.mulW (m := 5) (by show (r3 - 20).natAbs < 32; omega) (by decide) (by decide) (by decide), _, _, rfl, ?_⟩
        obtain ⟨tt, hT⟩ : ∃ tt, tt = (1 + r1) * (r2 - 4) := ⟨_, rfl⟩
        obtain ⟨bb, hB⟩ : ∃ bb, bb = (1 + r1) * (r3 - 20) := ⟨_, rfl⟩
        rw [← hT] at st
        rw [← hB] at sb
        have st9 : Sm 900 tt := st.mono (by decide)
        have sb9 : Sm 900 bb := sb.mono (by decide)
        -- the first test
        refine ⟨fun σ H' => σ = [some (.ref s0), some (.int (0 + (i : Int))), some (.ref a), some (.ref l), some (.int (0 + (j : Int))), some (.int (1 + r1)), some (.int tt), some (.int bb), v8, v9, v10, v11, v12, v13, v14, v15, v16, v17] ∧ SI C Hs a l 64 ps H', ?_, ?_⟩
        · refine ⟨_, rfl, _, rfl, tt, bb, (by rw [hT, hB]; rfl), st9, sb9, fun hb H7 s7 => ?_, fun hb p H7 hp s7 e7 => ?_⟩
          · refine ⟨_, rfl, rfl, _, rfl, ?_⟩
            refine iteD (fun h => ?_) (fun h => absurd (congrArg V.int (hB.symm.trans hb)) h)
            refine ⟨.str "refused", .str "refused", .str _, .str _, (by decide +kernel), (by decide +kernel), _, rfl, ?_⟩
            refine iteB (fun h => absurd h (by decide +kernel)) (fun _ => ⟨by rw [hT, hB]; rfl, I6.pure s7⟩)
          · refine ⟨_, rfl, rfl, _, rfl, ?_⟩
            refine iteD (fun h => absurd (hB.trans (V.int.inj h)) hb) (fun h => ?_)
            refine ⟨_, rfl, _, rfl, tt, bb, (by rw [hT, hB]; rfl), st9, sb9, hb, fun p2 H8 hp2 s8 e8 => ?_⟩
            refine ⟨_, _, dp2 (s8 _ _ e7), dp2 e8, shaped2 _ _, shaped2 _ _, _, rfl, ?_⟩
            exact iteB (fun h => absurd h (by rw [eqv2_self]; exact Bool.false_ne_true)) (fun _ => ⟨by rw [hT, hB]; rfl, (I6.pure s7).pure s8⟩)
        · rintro σ H7 ⟨rfl, I7⟩
          refine ⟨_, rfl, _, rfl, rfl, .inr ⟨_, rfl, _, _, rfl, rfl, ?_⟩⟩
          have hb' : bb + (if decide (V.int bb = V.int 0) = true then 1 else 0) ≠ 0 := by
            by_cases h : bb = 0
            · rw [h, if_pos (by decide)]; decide
            · rw [if_neg (by simp [h])]; omega
          have sb' : Sm 64 (bb + (if decide (V.int bb = V.int 0) = true then 1 else 0)) := by
            refine Sm.mono (n := 11) (sb.add ?_) (by decide)
            split <;> decide
          obtain ⟨bq, hq⟩ : ∃ bq, bq = bb + (if decide (V.int bb = V.int 0) = true then 1 else 0) := ⟨_, rfl⟩
          rw [← hq] at hb' sb'
          have st' : Sm 64 tt := st.mono (by decide)
          refine ⟨_, rfl, .inl ⟨rfl, _, SqL.of I7.ls⟩, ?_⟩
          refine ⟨_, rfl, _, rfl, ?_⟩
          intro x dx nx nd ne
          refine ⟨x, dx, tt, bq, (by rw [hq]; rfl), upd_same, st9, sb'.mono (by decide), fun z => hb' z, fun _ H8 R8 kp => ⟨rfl, ?_⟩⟩
          have I8 := I7.pure (Same.made nx nd kp)
          refine ⟨_, rfl, _, rfl, tt, bq, (by rw [hq]; rfl), st9, sb'.mono (by decide), hb', fun p2 H9 hp2 s9 e9 => ?_⟩
          have I9 := I8.pure s9
          refine ⟨(by show 2 ≤ sizeLine; decide), fun tp htp => ?_⟩
          have I10 := I9.pure (same_new (o := .tup [.ref x, .ref p2]) htp)
          have sz := low_size (t := tt) hb'
          have it : ItAt C (upd H9 tp (.tup [.ref x, .ref p2])) tp (lowT tt bq) (lowB tt bq) :=
            ⟨⟨x, p2, upd_same, (same_new htp) _ _ e9, (R8.same s9).same (same_new htp)⟩, canon_low hb', (st'.mono (by decide)).le sz.1, (sb'.mono (by decide)).le sz.2⟩
          refine ⟨l, _, _, rfl, rfl, I10.ls, ?_, ?_⟩
          · rw [List.length_map, hps]; exact Nat.lt_of_lt_of_le hj (by decide)
          · exact ⟨_, _, _, _, ps ++ [tp], rfl, I10.app nl (Nat.le_refl _) it (st'.le sz.1) (sb'.le sz.2), by rw [List.length_append, hps]; rfl⟩
      · rintro σ H2 ⟨v4, v5, v6, v7, ps, rfl, I2, hps⟩
        -- great, bottom, part
        refine ⟨fun σ H' => ∃ g bo pa : Int, σ = [some (.ref s0), some (.int (0 + (i : Int))), some (.ref a), some (.ref l), v4, some (.int pa), v6, some (.int bo), some (.int g), v9, v10, v11, v12, v13, v14, v15, v16, v17] ∧ 10 ^ 15 ≤ g ∧ g ≤ 2 * 10 ^ 15 ∧ 1 ≤ bo ∧ bo ≤ 9 ∧ 1 ≤ pa ∧ pa ≤ 30 ∧ SI C Hs a l 64 ps H', ?_, ?_⟩
        · refine ⟨_, _, rfl, rfl, ⟨by decide, by decide, by decide⟩, _, rfl, _, _, rfl, rfl, ⟨by decide, by decide, by decide⟩, a, _, rfl, I2.fd, by decide, (by decide), fun g H3 g0 g1 d3 => ?_⟩
          have I3 := I2.draw na d3
          have g1' : g < 10 ^ 15 := g1
          refine ⟨_, _, rfl, rfl, _, rfl, a, 9, rfl, I3.fd, by decide, (by decide), fun r4 H4 r40 r41 d4 => ?_⟩
          have I4 := I3.draw na d4
          refine ⟨_, _, rfl, rfl, _, rfl, a, 30, rfl, I4.fd, by decide, (by decide), fun r5 H5 r50 r51 d5 => ?_⟩
          have I5 := I4.draw na d5
          refine ⟨_, _, rfl, rfl, _, _, _, rfl, ?_⟩
          refine ⟨10 ^ 15 + g, 1 + r4, 1 + r5, rfl, ?_, ?_, ?_, ?_, ?_, ?_, I5⟩ <;> omega
        · rintro σ H3 ⟨g, bo, pa, rfl, g0, g1, bo0, bo1, pa0, pa1, I3⟩
          clear I2
          refine ⟨_, rfl, _, rfl, _, _, rfl, rfl, (by show 2 ≤ sizeLine; decide), fun tp htp => ⟨tp, rfl, ⟨_, SqT.of upd_same⟩, for_tup (K := K) (a := tp) (xs := [.int g, .int (g + 1)])
            (fun jj σ H' => ∃ (v6 : Option V) (ps : List Addr), σ = [some (.ref s0), some (.int (0 + (i : Int))), some (.ref a), some (.ref l), v4, some (.int pa), v6, some (.int bo), some (.int g), v9, v10, v11, v12, v13, v14, v15, v16, v17] ∧ SI C Hs a l 64 ps H' ∧ ps.length = 5 + jj ∧ H' tp = some (.tup [.int g, .int (g + 1)]))
            ⟨v6, ps, rfl, I3.pure (same_new htp), hps, upd_same⟩ (fun jj σ H' _ ⟨_, _, _, _, _, e⟩ => SqT.of e) ?_ ?_⟩⟩
          · rintro j x σ H4 hx ⟨v6, ps, rfl, I4, hps, e4⟩
            obtain ⟨y, rfl, sy⟩ : ∃ y, x = V.int y ∧ Sm 52 y := by
              match j, hx with
              | 0, hx => exact ⟨g, (Option.some.inj hx).symm, by show g.natAbs < 2 ^ 52; omega⟩
              | 1, hx => exact ⟨g + 1, (Option.some.inj hx).symm, by show (g + 1).natAbs < 2 ^ 52; omega⟩
              | j + 2, hx => cases hx
            have hj : j < 2 := (List.getElem?_eq_some_iff.mp hx).1
            have spa : Sm 5 pa := by show pa.natAbs < 32; omega
            have sbo : Sm 4 bo := by show bo.natAbs < 16; omega
            have hbo : bo ≠ 0 := by omega
            have hpp : 0 < pa := by omega
            have hbp : bo * pa ≠ 0 := by have := Int.mul_pos (show 0 < bo by omega) hpp; omega
            refine ⟨_, rfl, .inl ⟨rfl, _, SqL.of I4.ls⟩, ?_⟩
            refine ⟨_, rfl, _, rfl, _, _, rfl, rfl, sy.mulW spa (by decide) (by decide) (by decide), _, rfl, _, rfl, _, _, rfl, rfl, sbo.mulW spa (by decide) (by decide) (by decide), ?_⟩
            intro x dx nx nd ne
            refine ⟨x, dx, y * pa, bo * pa, rfl, upd_same, (sy.mul spa).mono (by decide), (sbo.mul spa).mono (by decide), fun z => hbp z, fun _ H8 R8 kp => ⟨rfl, ?_⟩⟩
            have S8 : Same H4 H8 := Same.made nx nd kp
            have I8 := I4.pure S8
            refine ⟨_, rfl, _, rfl, y, bo, rfl, sy.mono (by decide), sbo.mono (by decide), hbo, fun p2 H9 hp2 s9 e9 => ?_⟩
            have I9 := I8.pure s9
            refine ⟨(by show 2 ≤ sizeLine; decide), fun tq htq => ?_⟩
            have I10 := I9.pure (same_new (o := .tup [.ref x, .ref p2]) htq)
            have sz := low_size (t := y) hbo
            rw [(low_scale (t := y) (b := bo) hpp).1, (low_scale (t := y) (b := bo) hpp).2] at R8
            have it : ItAt C (upd H9 tq (.tup [.ref x, .ref p2])) tq (lowT y bo) (lowB y bo) :=
              ⟨⟨x, p2, upd_same, (same_new htq) _ _ e9, (R8.same s9).same (same_new htq)⟩, canon_low hbo, (sy.mono (by decide)).le sz.1, (sbo.mono (by decide)).le sz.2⟩
            have e10 : (upd H9 tq (.tup [.ref x, .ref p2])) tp = some (.tup [.int g, .int (g + 1)]) := (same_new htq) _ _ (s9 _ _ (S8 _ _ e4))
            refine ⟨l, _, _, rfl, rfl, I10.ls, ?_, ?_⟩
            · rw [List.length_map, hps]; exact Nat.lt_of_lt_of_le (show 5 + j < 8 by omega) (by decide)
            · refine ⟨_, ps ++ [tq], rfl, I10.app nl (Nat.le_refl _) it ((sy.mono (by decide)).le sz.1) ((sbo.mono (by decide)).le sz.2), by rw [List.length_append, hps]; rfl, ?_⟩
              rw [upd_ne (ne_of e10 I10.ls (by intro q; cases q))]
              exact e10
          · rintro σ H4 ⟨v6, ps, rfl, I4, hps, _⟩
            obtain ⟨p0, p1, rest, rfl⟩ : ∃ p0 p1 rest, ps = p0 :: p1 :: rest := by
              match ps, hps with
              | p0 :: p1 :: rest, _ => exact ⟨p0, p1, rest, rfl⟩
            obtain ⟨a0, b0, i0, sa0, sb0⟩ := I4.its p0 (by simp)
            obtain ⟨c0, d0, i1, sc0, sd0⟩ := I4.its p1 (by simp)
            obtain ⟨⟨r0, t0, h0, ht0, hr0⟩, ca, _, _⟩ := i0
            obtain ⟨⟨r1, t1, h1, ht1, hr1⟩, cc, _, _⟩ := i1
            generalize hps8 : p0 :: p1 :: rest = ps7 at I4
            refine ⟨fun σ H' => σ = [some (.ref s0), some (.int (0 + (i : Int))), some (.ref a), some (.ref l), v4, some (.int pa), v6, some (.int bo), some (.int g), some (.ref r0), some (.int a0), some (.int b0), some (.ref r1), some (.int c0), some (.int d0), v15, v16, v17] ∧ SI C Hs a l 64 ps7 H' ∧ RatAt C H' r0 a0 b0 ∧ RatAt C H' r1 c0 d0, ?_, ?_⟩
            · have e0 : (ps7.map V.ref)[0]? = some (V.ref p0) := by rw [← hps8]; rfl
              have e1 : (ps7.map V.ref)[1]? = some (V.ref p1) := by rw [← hps8]; rfl
              refine ⟨_, rfl, l, _, 0, .ref p0, rfl, rfl, SqL.of I4.ls, at_of (j := 0) rfl e0, _, rfl, l, _, 1, .ref p1, rfl, rfl, SqL.of I4.ls, at_of (j := 1) rfl e1, (by show 2 ≤ sizeLine; decide), fun pp hpp => ?_⟩
              have s5 := same_new (o := .tup [.ref p0, .ref p1]) hpp
              refine ⟨pp, _, rfl, SqT.of upd_same, rfl, _, _, rfl, ?_⟩
              refine ⟨p0, _, rfl, SqT.of (s5 _ _ h0), rfl, _, _, rfl, _, _, rfl, ⟨t0, _, rfl, SqT.of (s5 _ _ ht0), rfl, _, _, rfl, _, _, rfl, rfl, rfl, _, _, rfl, ?_⟩⟩
              refine ⟨p1, _, rfl, SqT.of (s5 _ _ h1), rfl, _, _, rfl, _, _, rfl, ⟨t1, _, rfl, SqT.of (s5 _ _ ht1), rfl, _, _, rfl, _, _, rfl, rfl, rfl, rfl, ?_⟩⟩
              exact ⟨rfl, I4.pure s5, hr0.same s5, hr1.same s5⟩
            · rintro σ H5 ⟨rfl, I5, ⟨dx, e0⟩, ⟨dy, e1⟩⟩
              have hbd : b0 * d0 ≠ 0 := by have := Int.mul_pos ca.pos cc.pos; omega
              have hB : 0 < b0 * d0 := Int.mul_pos ca.pos cc.pos
              have hb0 : b0 ≠ 0 := by have := ca.pos; omega
              have sS : Sm 129 (a0 * d0 + c0 * b0) := (sa0.mul sd0).add (sc0.mul sb0)
              have sB : Sm 128 (b0 * d0) := sb0.mul sd0
              have szS := low_size (t := a0 * d0 + c0 * b0) hbd
              have cS := canon_low (t := a0 * d0 + c0 * b0) hbd
              refine ⟨_, rfl, .inl ⟨rfl, _, SqL.of I5.ls⟩, ?_⟩
              refine ⟨_, rfl, _, rfl, r0, r1, dx, dy, _, _, rfl, rfl, e0, e1, r0, r1, a0, b0, c0, d0, rfl, ⟨dx, e0⟩, ⟨dy, e1⟩, sa0.mono (by decide), sb0.mono (by decide), sc0.mono (by decide), sd0.mono (by decide), hbd, fun x H6 nx S6 Rx => ?_⟩
              refine ⟨_, rfl, r0, dx, _, rfl, S6 _ _ e0, r0, a0, b0, rfl, ⟨dx, S6 _ _ e0⟩, sa0.mono (by decide), sb0.mono (by decide), hb0, fun y H7 ny S7 Ry => ?_⟩
              rw [(low_canon ca.neg).1, (low_canon ca.neg).2] at Ry
              obtain ⟨dxx, ex⟩ := Rx
              obtain ⟨dyy, ey⟩ := Ry
              have hnz : lowB (a0 * d0 + c0 * b0) (b0 * d0) * b0 ≠ 0 := by have := Int.mul_pos cS.pos ca.pos; omega
              refine ⟨x, y, dxx, dyy, _, _, rfl, rfl, S7 _ _ ex, ey, x, y, _, _, -a0, b0, rfl, ⟨dxx, S7 _ _ ex⟩, ⟨dyy, ey⟩, (sS.le szS.1).mono (by decide), (sB.le szS.2).mono (by decide), sa0.neg.mono (by decide), sb0.mono (by decide), hnz, fun z H8 nz S8 Rz => ?_⟩
              have s0a : Sm 64 (0 - a0) := by rw [Int.zero_sub]; exact sa0.neg
              have hnb : b0 * d0 * b0 ≠ 0 := by have := Int.mul_pos hB ca.pos; omega
              refine ⟨_, rfl, _, rfl, _, _, rfl, rfl, sa0.mulW sd0 (by decide) (by decide) (by decide), _, rfl, _, rfl, _, _, rfl, rfl, sc0.mulW sb0 (by decide) (by decide) (by decide), _, _, rfl, rfl, _, rfl, _, _, rfl, rfl, _, _, rfl, rfl, sS.mulW s0a (by decide) (by decide) (by decide), ?_⟩
              refine ⟨_, rfl, _, rfl, _, _, rfl, rfl, sb0.mulW sd0 (by decide) (by decide) (by decide), _, rfl, _, _, rfl, rfl, sB.mulW sb0 (by decide) (by decide) (by decide), ?_⟩
              refine ⟨(a0 * d0 + c0 * b0) * (0 - a0), b0 * d0 * b0, rfl, (sS.mul s0a).mono (by decide), (sB.mul sb0).mono (by decide), hnb, fun p2 H9 hp2 s9 e9 => ?_⟩
              refine ⟨(by show 2 ≤ sizeLine; decide), fun tq htq => ?_⟩
              have S59 : Same H5 H9 := ((S6.trans S7).trans S8).trans s9
              have I10 := (I5.pure S59).pure (same_new (o := .tup [.ref z, .ref p2]) htq)
              rw [(low_prod (S := a0 * d0 + c0 * b0) (B := b0 * d0) (x := -a0) (y := b0) hB).1, (low_prod (S := a0 * d0 + c0 * b0) (B := b0 * d0) (x := -a0) (y := b0) hB).2] at Rz
              rw [Int.zero_sub] at e9
              have szL := low_size (t := (a0 * d0 + c0 * b0) * -a0) hnb
              have sL1 : Sm 200 (lowT ((a0 * d0 + c0 * b0) * -a0) (b0 * d0 * b0)) := ((sS.mul sa0.neg).le szL.1).mono (by decide)
              have sL2 : Sm 200 (lowB ((a0 * d0 + c0 * b0) * -a0) (b0 * d0 * b0)) := ((sB.mul sb0).le szL.2).mono (by decide)
              have it : ItAt C (upd H9 tq (.tup [.ref z, .ref p2])) tq (lowT ((a0 * d0 + c0 * b0) * -a0) (b0 * d0 * b0)) (lowB ((a0 * d0 + c0 * b0) * -a0) (b0 * d0 * b0)) :=
                ⟨⟨z, p2, upd_same, (same_new htq) _ _ e9, (Rz.same s9).same (same_new htq)⟩, canon_low hnb, sL1, sL2⟩
              have l7 : ps7.length = 7 := by rw [← hps8]; exact hps
              refine ⟨l, _, _, rfl, rfl, I10.ls, ?_, ?_⟩
              · rw [List.length_map, l7]; decide
              · have I11 := I10.app (m := 200) nl (by decide) it sL1 sL2
                generalize ps7 ++ [tq] = ps8 at I11
                generalize upd (upd H9 tq (.tup [.ref z, .ref p2])) l (.lst (List.map V.ref ps7 ++ [V.ref tq])) = H11 at I11 ⊢
                clear it e9 Rz hps8 htq
                -- for one in some
                refine ⟨_, rfl, l, rfl, ⟨_, SqL.of I11.ls⟩, for_list (K := K) (a := l) (xs := ps8.map V.ref) (fun jj σ H' => ∃ v6 v7 v9 v15 v16 v17 : Option V, σ = [some (.ref s0), some (.int (0 + (i : Int))), some (.ref a), some (.ref l), v4, some (.int pa), v6, v7, some (.int g), v9, some (.int a0), some (.int b0), some (.ref r1), some (.int c0), some (.int d0), v15, v16, v17] ∧ SI C Hs a l 200 ps8 H')
                  ⟨v6, _, _, v15, v16, v17, rfl, I11⟩ (fun jj σ H' _ ⟨_, _, _, _, _, _, _, e⟩ => SqL.of e.ls) ?_ ?_⟩
                · rintro j x' σ H12 hx ⟨v6, v7, v9, v15, v16, v17, rfl, I12⟩
                  obtain ⟨p, hp, rfl⟩ : ∃ p, p ∈ ps8 ∧ x' = V.ref p := by
                    have hm := List.mem_of_getElem? hx
                    obtain ⟨p, hp, e⟩ := List.mem_map.mp hm
                    exact ⟨p, hp, e.symm⟩
                  obtain ⟨t, b, it, _, _⟩ := I12.its p hp
                  obtain ⟨⟨r, q, g1', g2, dz, q3⟩, cn, st, sb⟩ := id it
                  obtain ⟨fx, fy, q4, _⟩ := id I12.fd
                  have hb : b ≠ 0 := by have := cn.pos; omega
                  refine ⟨_, rfl, p, _, rfl, SqT.of g1', rfl, _, _, rfl, _, _, rfl, ⟨q, _, rfl, SqT.of g2, rfl, _, _, rfl, _, _, rfl, rfl, rfl, ?_⟩⟩
                  have lT := iT_len st
                  have lB := iT_len sb
                  have lR := ratText_len st sb
                  have l1 : (Str.ofString "/").length = 1 := by decide
                  refine ⟨fun σ H' => σ = [some (.ref s0), some (.int (0 + (i : Int))), some (.ref a), some (.ref l), v4, some (.int pa), some (.int t), some (.int b), some (.int g), some (.ref p), some (.int a0), some (.int b0), some (.ref r1), some (.int c0), some (.int d0), some (.ref r), some (.str (ratText t b)), v17] ∧ H' = H12, ?_, ?_⟩
                  · refine ⟨_, rfl, t, rfl, Sm.log st (by decide) (by decide), _, rfl, b, rfl, Sm.log sb (by decide) (by decide), Str.ofString "/", iT b, rfl, rfl, (by rw [l1]; exact size_ok (by omega)), _, rfl, rfl, .inr ⟨_, rfl, _, _, rfl, rfl, (by split <;> decide), .inl (by split <;> decide), iT t, _, rfl, rfl, ?_, ?_⟩⟩
                    · have e := congrArg Str.length (text_eq t b)
                      rw [len_app] at e
                      exact size_ok (by omega)
                    · exact ⟨congrArg (fun z : Str => ([some (.ref s0), some (.int (0 + (i : Int))), some (.ref a), some (.ref l), v4, some (.int pa), some (.int t), some (.int b), some (.int g), some (.ref p), some (.int a0), some (.int b0), some (.ref r1), some (.int c0), some (.int d0), some (.ref r), some (.str z), v17] : List (Option V))) (text_eq t b), rfl⟩
                  · rintro σ H12' ⟨rfl, rfl⟩
                    refine ⟨_, rfl, a, 30, rfl, I12.fd, by decide, (by decide), fun w' H13 w0 w1 d13 => ⟨_, _, rfl, rfl, ?_⟩⟩
                    have I13 := I12.draw na d13
                    have it13 : ItAt C H13 p t b := it.bh (l := l) ⟨_, q4⟩ ⟨_, I12.ls⟩ fun c o n1 _ e => d13.sm c o n1 e
                    have e13 : H13 r = some (.ins C dz (rf t b)) := d13.sm r _ (ne_of q3 q4 (by intro z; cases z)) q3
                    have w2 : 1 + w' ≤ 1000 := by omega
                    have hw : 0 ≤ 1 + w' := by omega
                    have ep := pad_eq (ratText t b) (1 + w') hw
                    have lp := rjust_len (ratText t b) (1 + w')
                    have esp : (Str.ofString " ").length = 1 := by decide
                    -- the texts
                    refine ⟨_, rfl, r, dz, _, rfl, e13, r, t, b, rfl, ⟨dz, e13⟩, st, sb, _, rfl, _, rfl, rfl, _, rfl, ?_⟩
                    refine iteB (fun h => absurd h (by simp)) (fun _ => ?_)
                    refine ⟨_, rfl, r, dz, _, rfl, e13, rf_no _ _ (by decide +kernel) (by decide +kernel), _, rfl, r, t, b, _, rfl, ⟨dz, e13⟩, st, sb, hw, w2, ?_⟩
                    refine ⟨_, rfl, _, rfl, _, _, rfl, ⟨size_ok (by omega), rfl⟩, _, _, rfl, rfl, _, _, rfl, _, _, rfl, rfl, (by split <;> omega), .inr ⟨by split <;> omega, by rw [esp]; decide⟩, _, rfl, _, _, rfl, rfl, ?_, rfl, _, rfl, ?_⟩
                    · rw [← len_app]
                      refine size_ok (Nat.le_trans (Nat.le_of_eq (congrArg Str.length ep)) ?_)
                      omega
                    refine iteB (fun h => absurd h ?_) (fun _ => ?_)
                    · have e : decide (V.str (Txt.rjust (ratText t b) (1 + w')) = V.str (timesS (Str.ofString " ") (if 1 + w' - ((ratText t b).length : Int) > 0 then 1 + w' - ((ratText t b).length : Int) else 0) ++ ratText t b)) = true := by rw [ep]; exact decide_eq_true rfl
                      exact fun h => absurd ((congrArg not e).symm.trans h) Bool.false_ne_true
                    -- the other sign, the truth
                    refine ⟨_, rfl, r, dz, _, rfl, e13, r, t, b, rfl, ⟨dz, e13⟩, st, sb, hb, fun y H14 ny S14 Ry => ?_⟩
                    refine ⟨y, _, _, rfl, Ry, fun u1 H15 hu1 S15 eu1 => ?_⟩
                    refine ⟨_, rfl, _, _, rfl, rfl, _, rfl, (by show 2 ≤ sizeLine; decide), fun u2 hu2 => ?_⟩
                    have S16 : Same H13 (upd H15 u2 (.tup [.int (0 - t), .int b])) := (S14.trans S15).trans (same_new hu2)
                    refine ⟨_, _, dp2 (a := lowT (-t) b) (b := lowB (-t) b) (same_new hu2 _ _ eu1), dp2 (a := 0 - t) (b := b) upd_same, shaped2 _ _, shaped2 _ _, _, rfl, ?_⟩
                    refine iteB (fun h => absurd h ?_) (fun _ => ?_)
                    · rw [(low_canon cn.neg).1, (low_canon cn.neg).2, Int.zero_sub, eqv2_self]
                      exact Bool.false_ne_true
                    have e16 := S16 _ _ e13
                    refine ⟨_, rfl, r, dz, _, rfl, e16, r, t, b, rfl, ⟨dz, e16⟩, st, sb, _, rfl, _, rfl, rfl, rfl, _, rfl, ?_⟩
                    refine iteB (fun h => absurd h ?_) (fun _ => ?_)
                    · have e : decide (V.bl (t != 0) = V.bl (!decide (V.int t = V.int 0))) = true := by
                        by_cases h0 : t = 0 <;> simp [h0]
                      exact fun h => absurd ((congrArg not e).symm.trans h) Bool.false_ne_true
                    -- a whole number; every other item
                    refine ⟨_, rfl, ?_⟩
                    intro x dx' nx' nd' ne'
                    refine ⟨x, dx', t, 1, rfl, upd_same, st.mono (by decide), (by decide), fun z => absurd z (by decide), fun _ H17 R17 kp => ⟨rfl, ?_⟩⟩
                    have S17 := Same.made nx' nd' kp
                    refine ⟨x, _, _, rfl, R17, fun u3 H18 hu3 S18 eu3 => ?_⟩
                    refine ⟨_, rfl, (by show 2 ≤ sizeLine; decide), fun u4 hu4 => ?_⟩
                    refine ⟨_, _, dp2 (a := lowT t 1) (b := lowB t 1) (same_new hu4 _ _ eu3), dp2 (a := t) (b := 1) upd_same, shaped2 _ _, shaped2 _ _, _, rfl, ?_⟩
                    refine iteB (fun h => absurd h ?_) (fun _ => ?_)
                    · rw [(low_canon (canon_one t)).1, (low_canon (canon_one t)).2, eqv2_self]
                      exact Bool.false_ne_true
                    have S19 := ((S16.trans S17).trans S18).trans (same_new (o := .tup [.int t, .int 1]) hu4)
                    have I19 := I13.pure S19
                    have it19 := it13.same S19
                    refine ⟨_, rfl, l, rfl, ⟨_, SqL.of I19.ls⟩, fun D hD => lc_list (K := K) (a := l) (xs := ps8.map V.ref) (fun jj H' => SI C Hs a l 200 ps8 H' ∧ ItAt C H' p t b ∧ H' D = some (.lst []))
                      ⟨I19.pure (same_new hD), it19.same (same_new hD), upd_same⟩ (fun _ _ _ h => SqL.of h.1.ls) ?_ ?_⟩
                    · rintro j' x'' H20 hx'' ⟨I20, it20, eD⟩
                      obtain ⟨p', hp', rfl⟩ : ∃ p', p' ∈ ps8 ∧ x'' = V.ref p' := by
                        have hm := List.mem_of_getElem? hx''
                        obtain ⟨p', hp', e⟩ := List.mem_map.mp hm
                        exact ⟨p', hp', e.symm⟩
                      obtain ⟨t', b', it', _, _⟩ := I20.its p' hp'
                      refine ⟨rfl, ?_⟩
                      refine ⟨_, rfl, _, rfl, p, p', t, b, t', b', rfl, it20, it', fun H21 S21 => ⟨_, rfl, ?_⟩⟩
                      exact iteF ⟨I20.pure S21, it20.same S21, S21 _ _ eD⟩
                    · rintro H20 ⟨I20, it20, eD⟩
                      refine ⟨Nat.zero_le _, fun e he => ?_⟩
                      refine ⟨.list [], .list [], .lst (SqL.of (same_new he _ _ eD)) .nil, .lst (SqL.of upd_same) .nil, (by decide +kernel), (by decide +kernel), _, rfl, ?_⟩
                      refine iteB (fun h => absurd h (by decide +kernel)) (fun _ => ?_)
                      exact ⟨_, _, _, _, _, _, rfl, I20.pure (same_new he)⟩
                · rintro σ H12 ⟨v6, v7, v9, v15, v16, v17, rfl, I12⟩
                  exact ⟨_, _, _, _, _, _, _, _, _, _, _, _, _, _, _, _, _, rfl, sH'.trans I12.same⟩
    · rintro σ H' ⟨v1, v2, v3, v4, v5, v6, v7, v8, v9, v10, v11, v12, v13, v14, v15, v16, v17, rfl, sH⟩
      exact k _
end
end R3

namespace R3
open PySem L2 L3
/-- an error of the class at S is what «except S» names -/
theorem exm_self {K : PySem.W.Frag} {S : Addr} (h1 : PySem.W.subIn K (.ref S) (.type "BaseException") = some true) (h2 : PySem.W.isClsIn K S = true) (h3 : PySem.W.typeIn K (.ref S) = some (.type "type")) (h4 : PySem.W.subIn K (.ref S) (.ref S) = some true) :
    PySem.W.exmOne K (.ref S) (.ref S) = some true := by
  have e1 : (PySem.W.subIn K (.ref S) (.type "BaseException") == some true) = true := by rw [h1] <;> rfl
  have e2 : ((PySem.W.clsIn K S).isSome && PySem.W.typeIn K (.ref S) == some (.type "type")) = true := by
    have h2' : (PySem.W.clsIn K S).isSome = true := h2
    rw [h2', h3] <;> rfl
  show (if (PySem.W.subIn K (.ref S) (.type "BaseException") == some true) = true then (if ((PySem.W.clsIn K S).isSome && PySem.W.typeIn K (.ref S) == some (.type "type")) = true then PySem.W.subIn K (.ref S) (.ref S) else none) else none) = some true
  rw [if_pos e1, if_pos e2]
  exact h4
theorem all_mk {l : PySem.W.OpenLaw} {w : World} {K : PySem.W.Frag} {h : Heap} {mg : Str → Option Value} {fa C CN fI fE fBo fS fAd fSu fMu fNe fBe fPd fFd fT fSm fL fPa fMa fPr fW TDI : Addr} (X : K.In h) (G : h.Ns mainGlobals mg) (hfa : mg "law" = some (.ref fa))
    {odI anI odE anE odBo anBo odS anS odAd anAd odSu anSu odMu anMu odNe anNe odBe anBe odPd anPd odFd anFd odT anT odSm anSm odL anL odPa anPa odMa anMa odPr anPr odW anW odDI : Option Addr} {slI slE slBo slS slAd slSu slMu slNe slBe slPd slFd slT slSm slL slPa slMa slPr slW slDI : Array (Option Value)} {ocI kVI dcI pmI cdI ctI ocE kVE dcE pmE cdE ctE ocBo kVBo dcBo pmBo cdBo ctBo ocS kVS dcS pmS cdS ctS ocAd kVAd dcAd pmAd cdAd ctAd ocSu kVSu dcSu pmSu cdSu ctSu ocMu kVMu dcMu pmMu cdMu ctMu ocNe kVNe dcNe pmNe cdNe ctNe ocBe kVBe dcBe pmBe cdBe ctBe ocPd kVPd dcPd pmPd cdPd ctPd ocFd kVFd dcFd pmFd cdFd ctFd ocT kVT dcT pmT cdT ctT ocSm kVSm dcSm pmSm cdSm ctSm ocL kVL dcL pmL cdL ctL ocPa kVPa dcPa pmPa cdPa ctPa ocMa kVMa dcMa pmMa cdMa ctMa ocPr kVPr dcPr pmPr cdPr ctPr ocW kVW dcW pmW cdW ctW ocDI : Value} {nDI : Nat} {tkDI : Tok}
    (aC : PySem.W.nsIn K mainGlobals "Ratio" = some (some (.ref C)))
    (aCN : PySem.W.nsIn K mainGlobals "NoRatio" = some (some (.ref CN)))
    (aI : PySem.W.findIn K (.ref C) "__init__" = some (some (.ref fI)))
    (iI : PySem.W.isFn K (.ref fI) = true)
    (lI : K.lookup fI = some ⟨ocI, odI, .func (PySem.W.fnOf "__init__" "Ratio.__init__" (defArgs sInit) (defBody sInit) (defScope sInit) (.ref TDI) kVI dcI pmI anI cdI ctI), slI⟩)
    (cI : PySem.W.codeIn K cdI "Ratio.__init__" = true)
    (kI : PySem.W.keepIn K (.ref fI) = true)
    (dI : K.lookup TDI = some ⟨ocDI, odDI, .seq #[.int 1 tkDI] nDI, slDI⟩)
    (aE : PySem.W.findIn K (.ref C) "__eq__" = some (some (.ref fE)))
    (iE : PySem.W.isFn K (.ref fE) = true)
    (lE : K.lookup fE = some ⟨ocE, odE, .func (PySem.W.fnOf "__eq__" "Ratio.__eq__" (defArgs sEq) (defBody sEq) (defScope sEq) .none kVE dcE pmE anE cdE ctE), slE⟩)
    (cE : PySem.W.codeIn K cdE "Ratio.__eq__" = true)
    (kE : PySem.W.keepIn K (.ref fE) = true)
    (aBo : PySem.W.findIn K (.ref C) "__bool__" = some (some (.ref fBo)))
    (iBo : PySem.W.isFn K (.ref fBo) = true)
    (lBo : K.lookup fBo = some ⟨ocBo, odBo, .func (PySem.W.fnOf "__bool__" "Ratio.__bool__" (defArgs sBool) (defBody sBool) (defScope sBool) .none kVBo dcBo pmBo anBo cdBo ctBo), slBo⟩)
    (cBo : PySem.W.codeIn K cdBo "Ratio.__bool__" = true)
    (kBo : PySem.W.keepIn K (.ref fBo) = true)
    (aS : PySem.W.findIn K (.ref C) "__str__" = some (some (.ref fS)))
    (iS : PySem.W.isFn K (.ref fS) = true)
    (lS : K.lookup fS = some ⟨ocS, odS, .func (PySem.W.fnOf "__str__" "Ratio.__str__" (defArgs sStr) (defBody sStr) (defScope sStr) .none kVS dcS pmS anS cdS ctS), slS⟩)
    (cS : PySem.W.codeIn K cdS "Ratio.__str__" = true)
    (kS : PySem.W.keepIn K (.ref fS) = true)
    (aAd : PySem.W.findIn K (.ref C) "__add__" = some (some (.ref fAd)))
    (iAd : PySem.W.isFn K (.ref fAd) = true)
    (lAd : K.lookup fAd = some ⟨ocAd, odAd, .func (PySem.W.fnOf "__add__" "Ratio.__add__" (defArgs sAdd) (defBody sAdd) (defScope sAdd) .none kVAd dcAd pmAd anAd cdAd ctAd), slAd⟩)
    (cAd : PySem.W.codeIn K cdAd "Ratio.__add__" = true)
    (kAd : PySem.W.keepIn K (.ref fAd) = true)
    (aSu : PySem.W.findIn K (.ref C) "__sub__" = some (some (.ref fSu)))
    (iSu : PySem.W.isFn K (.ref fSu) = true)
    (lSu : K.lookup fSu = some ⟨ocSu, odSu, .func (PySem.W.fnOf "__sub__" "Ratio.__sub__" (defArgs sSub) (defBody sSub) (defScope sSub) .none kVSu dcSu pmSu anSu cdSu ctSu), slSu⟩)
    (cSu : PySem.W.codeIn K cdSu "Ratio.__sub__" = true)
    (kSu : PySem.W.keepIn K (.ref fSu) = true)
    (aMu : PySem.W.findIn K (.ref C) "__mul__" = some (some (.ref fMu)))
    (iMu : PySem.W.isFn K (.ref fMu) = true)
    (lMu : K.lookup fMu = some ⟨ocMu, odMu, .func (PySem.W.fnOf "__mul__" "Ratio.__mul__" (defArgs sMul) (defBody sMul) (defScope sMul) .none kVMu dcMu pmMu anMu cdMu ctMu), slMu⟩)
    (cMu : PySem.W.codeIn K cdMu "Ratio.__mul__" = true)
    (kMu : PySem.W.keepIn K (.ref fMu) = true)
    (aNe : PySem.W.findIn K (.ref C) "__neg__" = some (some (.ref fNe)))
    (iNe : PySem.W.isFn K (.ref fNe) = true)
    (lNe : K.lookup fNe = some ⟨ocNe, odNe, .func (PySem.W.fnOf "__neg__" "Ratio.__neg__" (defArgs sNeg) (defBody sNeg) (defScope sNeg) .none kVNe dcNe pmNe anNe cdNe ctNe), slNe⟩)
    (cNe : PySem.W.codeIn K cdNe "Ratio.__neg__" = true)
    (kNe : PySem.W.keepIn K (.ref fNe) = true)
    (aBe : PySem.W.findIn K (.ref C) "below" = some (some (.ref fBe)))
    (iBe : PySem.W.isFn K (.ref fBe) = true)
    (lBe : K.lookup fBe = some ⟨ocBe, odBe, .func (PySem.W.fnOf "below" "Ratio.below" (defArgs sBelow) (defBody sBelow) (defScope sBelow) .none kVBe dcBe pmBe anBe cdBe ctBe), slBe⟩)
    (cBe : PySem.W.codeIn K cdBe "Ratio.below" = true)
    (kBe : PySem.W.keepIn K (.ref fBe) = true)
    (aPd : PySem.W.findIn K (.ref C) "padded" = some (some (.ref fPd)))
    (iPd : PySem.W.isFn K (.ref fPd) = true)
    (lPd : K.lookup fPd = some ⟨ocPd, odPd, .func (PySem.W.fnOf "padded" "Ratio.padded" (defArgs sPad) (defBody sPad) (defScope sPad) .none kVPd dcPd pmPd anPd cdPd ctPd), slPd⟩)
    (cPd : PySem.W.codeIn K cdPd "Ratio.padded" = true)
    (kPd : PySem.W.keepIn K (.ref fPd) = true)
    (aFd : PySem.W.nsIn K mainGlobals "_law_feed" = some (some (.ref fFd)))
    (lFd : K.lookup fFd = some ⟨ocFd, odFd, .func (PySem.W.fnOf "_law_feed" "_law_feed" (defArgs sFeed) (defBody sFeed) (defScope sFeed) .none kVFd dcFd pmFd anFd cdFd ctFd), slFd⟩)
    (cFd : PySem.W.codeIn K cdFd "_law_feed" = true)
    (kFd : PySem.W.keepIn K (.ref fFd) = true)
    (aT : PySem.W.nsIn K mainGlobals "_law_take" = some (some (.ref fT)))
    (lT : K.lookup fT = some ⟨ocT, odT, .func (PySem.W.fnOf "_law_take" "_law_take" (defArgs sTake) (defBody sTake) (defScope sTake) .none kVT dcT pmT anT cdT ctT), slT⟩)
    (cT : PySem.W.codeIn K cdT "_law_take" = true)
    (kT : PySem.W.keepIn K (.ref fT) = true)
    (aSm : PySem.W.nsIn K mainGlobals "_law_same" = some (some (.ref fSm)))
    (lSm : K.lookup fSm = some ⟨ocSm, odSm, .func (PySem.W.fnOf "_law_same" "_law_same" (defArgs sSame) (defBody sSame) (defScope sSame) .none kVSm dcSm pmSm anSm cdSm ctSm), slSm⟩)
    (cSm : PySem.W.codeIn K cdSm "_law_same" = true)
    (kSm : PySem.W.keepIn K (.ref fSm) = true)
    (aL : PySem.W.nsIn K mainGlobals "_law_lowest" = some (some (.ref fL)))
    (lL : K.lookup fL = some ⟨ocL, odL, .func (PySem.W.fnOf "_law_lowest" "_law_lowest" (defArgs sLow) (defBody sLow) (defScope sLow) .none kVL dcL pmL anL cdL ctL), slL⟩)
    (cL : PySem.W.codeIn K cdL "_law_lowest" = true)
    (kL : PySem.W.keepIn K (.ref fL) = true)
    (aPa : PySem.W.nsIn K mainGlobals "_law_parts" = some (some (.ref fPa)))
    (lPa : K.lookup fPa = some ⟨ocPa, odPa, .func (PySem.W.fnOf "_law_parts" "_law_parts" (defArgs sParts) (defBody sParts) (defScope sParts) .none kVPa dcPa pmPa anPa cdPa ctPa), slPa⟩)
    (cPa : PySem.W.codeIn K cdPa "_law_parts" = true)
    (kPa : PySem.W.keepIn K (.ref fPa) = true)
    (aMa : PySem.W.nsIn K mainGlobals "_law_made" = some (some (.ref fMa)))
    (lMa : K.lookup fMa = some ⟨ocMa, odMa, .func (PySem.W.fnOf "_law_made" "_law_made" (defArgs sMade) (defBody sMade) (defScope sMade) .none kVMa dcMa pmMa anMa cdMa ctMa), slMa⟩)
    (cMa : PySem.W.codeIn K cdMa "_law_made" = true)
    (kMa : PySem.W.keepIn K (.ref fMa) = true)
    (aPr : PySem.W.nsIn K mainGlobals "_law_pair_right" = some (some (.ref fPr)))
    (lPr : K.lookup fPr = some ⟨ocPr, odPr, .func (PySem.W.fnOf "_law_pair_right" "_law_pair_right" (defArgs sPair) (defBody sPair) (defScope sPair) .none kVPr dcPr pmPr anPr cdPr ctPr), slPr⟩)
    (cPr : PySem.W.codeIn K cdPr "_law_pair_right" = true)
    (kPr : PySem.W.keepIn K (.ref fPr) = true)
    (aW : PySem.W.nsIn K mainGlobals "law" = some (some (.ref fW)))
    (lW : K.lookup fW = some ⟨ocW, odW, .func (PySem.W.fnOf "law" "law" (defArgs sLaw) (defBody sLaw) (defScope sLaw) .none kVW dcW pmW anW cdW ctW), slW⟩)
    (cW : PySem.W.codeIn K cdW "law" = true)
    (kW : PySem.W.keepIn K (.ref fW) = true)
    (pgC : PySem.W.plainGet K C Str.empty = true)
    (hdC : PySem.W.hasDictIn K C = true)
    (poC : PySem.W.plainOver K C = true)
    (saC : PySem.W.findIn K (.ref C) "__setattr__" = some (some (.builtin "object.__setattr__")))
    (mkC : PySem.W.makesIn K C = true)
    (kcC : PySem.W.keepIn K (.ref C) = true)
    (nCtop : PySem.W.findIn K (.ref C) "top" = some none)
    (nCbottom : PySem.W.findIn K (.ref C) "bottom" = some none)
    (x_xN : PySem.W.excIn K CN [.type "ValueError", .type "Exception", .type "BaseException", .type "object"] "ValueError.__new__" = true)
    (x_kN : PySem.W.keepIn K (.ref CN) = true)
    (x_bN : PySem.W.subIn K (.ref CN) (.type "BaseException") = some true)
    (x_tN : PySem.W.typeIn K (.ref CN) = some (.type "type"))
    (x_iN : PySem.W.isClsIn K CN = true)
    (x_sN : PySem.W.subIn K (.ref CN) (.ref CN) = some true)
    (x_sf : PySem.W.selfFirst K C = true)
    (x_cA : PySem.W.findIn K (.ref C) "__class__" = some (some (.builtin "object.__class__")))
    (x_cG : PySem.W.specialIn K (.builtin "object.__class__") "__get__" = some (some (.builtin "getset_descriptor.__get__")))
    (x_cT : PySem.W.takesIn K (.builtin "object.__class__") = some true)
    (x_cM : PySem.W.mroIn K C (.type "object") = some true)
    (x_kCC : PySem.W.kitOne K (.ref C) (.ref C) = some true)
    (x_kI : PySem.W.kitOne K (.type "int") (.ref C) = some false)
    (x_kS : PySem.W.kitOne K (.type "str") (.ref C) = some false)
    (x_kT : PySem.W.kitOne K (.type "tuple") (.ref C) = some false)
    (x_fI : PySem.W.notFirst K C (.type "int") = true)
    (x_fS : PySem.W.notFirst K C (.type "str") = true)
    (x_fT : PySem.W.notFirst K C (.type "tuple") = true)
    (x_fC : PySem.W.notFirst K C (.ref C) = true)
    (x_gG : PySem.W.nsIn K mainGlobals "gcd" = some (some (.builtin "math.gcd")))
    (z_isinstance : PySem.W.nsIn K mainGlobals "isinstance" = some none)
    (z_str : PySem.W.nsIn K mainGlobals "str" = some none)
    (z_bool : PySem.W.nsIn K mainGlobals "bool" = some none)
    (z_repr : PySem.W.nsIn K mainGlobals "repr" = some none)
    (z_abs : PySem.W.nsIn K mainGlobals "abs" = some none)
    (z_len : PySem.W.nsIn K mainGlobals "len" = some none)
    (z_max : PySem.W.nsIn K mainGlobals "max" = some none)
    (z_min : PySem.W.nsIn K mainGlobals "min" = some none)
    (z_range : PySem.W.nsIn K mainGlobals "range" = some none)
    (z_int : PySem.W.nsIn K mainGlobals "int" = some none) :
    ∃ fd : FuncData, (∀ (s : Shared) (v : Value), BindsTo s fd ⟨[v], []⟩ [("_law_script", v)]) ∧ ∀ base : Heap, K.In base → base.Ns mainGlobals mg → FnOk l.prog w K mg base CX0 6 fa fd ["_law_script"] (spLaw K) := by
  have e := hfa.symm.trans (PySem.W.mg_of X G aW)
  cases e
  have FI : FunD K "__init__" "Ratio.__init__" (defArgs sInit) (defBody sInit) (defScope sInit) [V.int 1] [] fI _ := ⟨⟨ocI, odI, .ref TDI, kVI, dcI, pmI, anI, cdI, ctI, slI, rfl, lI, cI, .inr ⟨by simp, TDI, _, [.int 1 tkDI], nDI, rfl, dI, rfl, .cons ⟨tkDI, rfl⟩ .nil⟩, .inl rfl⟩, kI⟩
  have FE := fun_mk (st := sEq) lE cE kE
  have FBo := fun_mk (st := sBool) lBo cBo kBo
  have FS := fun_mk (st := sStr) lS cS kS
  have FAd := fun_mk (st := sAdd) lAd cAd kAd
  have FSu := fun_mk (st := sSub) lSu cSu kSu
  have FMu := fun_mk (st := sMul) lMu cMu kMu
  have FNe := fun_mk (st := sNeg) lNe cNe kNe
  have FBe := fun_mk (st := sBelow) lBe cBe kBe
  have FPd := fun_mk (st := sPad) lPd cPd kPd
  have FFd := fun_mk (st := sFeed) lFd cFd kFd
  have FT := fun_mk (st := sTake) lT cT kT
  have FSm := fun_mk (st := sSame) lSm cSm kSm
  have FL := fun_mk (st := sLow) lL cL kL
  have FPa := fun_mk (st := sParts) lPa cPa kPa
  have FMa := fun_mk (st := sMade) lMa cMa kMa
  have FPr := fun_mk (st := sPair) lPr cPr kPr
  have FW := fun_mk (st := sLaw) lW cW kW
  have T : Txt K mg C CN := ⟨⟨pgC, hdC, poC, saC⟩, nCtop, nCbottom, PySem.W.mg_of X G aC, PySem.W.mg_of X G aCN, PySem.W.mg_of X G x_gG, x_xN, x_kN, x_bN, x_tN, exm_self x_bN x_iN x_tN x_sN, x_sf, x_cA, x_cG, x_cT, x_cM, x_kCC, x_kI, x_kS, x_kT, x_fI, x_fS, x_fT, x_fC,
    PySem.W.mg_none_of X G z_isinstance, PySem.W.mg_none_of X G z_str, PySem.W.mg_none_of X G z_bool, PySem.W.mg_none_of X G z_repr, PySem.W.mg_none_of X G z_abs, PySem.W.mg_none_of X G z_len, PySem.W.mg_none_of X G z_max, PySem.W.mg_none_of X G z_min, PySem.W.mg_none_of X G z_range, PySem.W.mg_none_of X G z_int⟩
  have bE := FE.binds (ps := ["self", "other"]) fun _ _ _ _ _ _ us hl => match us, hl with | [_, _], _ => rfl
  have bBo := FBo.binds (ps := ["self"]) fun _ _ _ _ _ _ us hl => match us, hl with | [_], _ => rfl
  have bS := FS.binds (ps := ["self"]) fun _ _ _ _ _ _ us hl => match us, hl with | [_], _ => rfl
  have bAd := FAd.binds (ps := ["self", "other"]) fun _ _ _ _ _ _ us hl => match us, hl with | [_, _], _ => rfl
  have bSu := FSu.binds (ps := ["self", "other"]) fun _ _ _ _ _ _ us hl => match us, hl with | [_, _], _ => rfl
  have bMu := FMu.binds (ps := ["self", "other"]) fun _ _ _ _ _ _ us hl => match us, hl with | [_, _], _ => rfl
  have bNe := FNe.binds (ps := ["self"]) fun _ _ _ _ _ _ us hl => match us, hl with | [_], _ => rfl
  have bBe := FBe.binds (ps := ["self", "other"]) fun _ _ _ _ _ _ us hl => match us, hl with | [_, _], _ => rfl
  have bPd := FPd.binds (ps := ["self", "width"]) fun _ _ _ _ _ _ us hl => match us, hl with | [_, _], _ => rfl
  have bFd := FFd.binds (ps := ["_law_script", "_law_k"]) fun _ _ _ _ _ _ us hl => match us, hl with | [_, _], _ => rfl
  have bT := FT.binds (ps := ["_law_feed_here", "_law_many"]) fun _ _ _ _ _ _ us hl => match us, hl with | [_, _], _ => rfl
  have bSm := FSm.binds (ps := ["_law_one", "_law_other"]) fun _ _ _ _ _ _ us hl => match us, hl with | [_, _], _ => rfl
  have bL := FL.binds (ps := ["_law_top", "_law_bottom"]) fun _ _ _ _ _ _ us hl => match us, hl with | [_, _], _ => rfl
  have bPa := FPa.binds (ps := ["_law_ratio"]) fun _ _ _ _ _ _ us hl => match us, hl with | [_], _ => rfl
  have bMa := FMa.binds (ps := ["_law_top", "_law_bottom"]) fun _ _ _ _ _ _ us hl => match us, hl with | [_, _], _ => rfl
  have bPr := FPr.binds (ps := ["_law_one", "_law_other"]) fun _ _ _ _ _ _ us hl => match us, hl with | [_, _], _ => rfl
  obtain ⟨d3, r3, bI⟩ := FI.binds1 (ps := ["self", "top", "bottom"]) 3 1 (by simp) rfl fun _ _ _ _ _ _ _ us its hl hi => match us, hl, its, hi with | [_, _, _], _, [_], _ => ⟨_, rfl, rfl⟩
  cases r3
  obtain ⟨dI, rI, bI1⟩ := FI.binds1 (ps := ["self", "top", "bottom"]) 2 0 (by simp) rfl fun _ _ _ _ _ _ _ us its hl hi => match us, hl, its, hi with | [_, _], _, [_], _ => ⟨_, rfl, rfl⟩
  have M : Mk K C fI := ⟨mkC, aI, iI, kcC⟩
  have gSm := PySem.W.mg_of X G aSm
  have gL := PySem.W.mg_of X G aL
  have gPa := PySem.W.mg_of X G aPa
  refine ⟨PySem.W.fnOf "law" "law" (defArgs sLaw) (defBody sLaw) (defScope sLaw) .none kVW dcW pmW anW cdW ctW, fun s v => .of_eq rfl, fun base _ _ => ?_⟩
  have GPr := ok_pair (P := l.prog) (w := w) (base := base) FPr T M FI bI FE bE ⟨aE, iE, kE⟩ FS bS ⟨aS, iS, kS⟩ FAd bAd ⟨aAd, iAd, kAd⟩ FSu bSu ⟨aSu, iSu, kSu⟩ FMu bMu ⟨aMu, iMu, kMu⟩ FBe bBe ⟨aBe, iBe, kBe⟩ FSm bSm gSm FL bL gL FPa bPa gPa
  exact ok_law FW T M FI bI rI bI1 FS bS ⟨aS, iS, kS⟩ FAd bAd ⟨aAd, iAd, kAd⟩ FMu bMu ⟨aMu, iMu, kMu⟩ FNe bNe ⟨aNe, iNe, kNe⟩ FBo bBo ⟨aBo, iBo, kBo⟩ FPd bPd ⟨aPd, iPd, kPd⟩ FFd bFd (PySem.W.mg_of X G aFd) FT bT (PySem.W.mg_of X G aT) FL bL gL FPa bPa gPa FMa bMa (PySem.W.mg_of X G aMa) GPr kPr bPr (PySem.W.mg_of X G aPr)
theorem walk {l : PySem.W.OpenLaw} {q : Program} {loose : List Str} {XP : (Str → Option Value) → Heap → Prop} {YP : World → Heap → Prop} {d : DefRec} {K : Params → PySem.W.Frag} (hn : l.most = some 63) (hdf : d.params.defaults = [])
    (hY : ∀ (w : World) (h : Heap), YP w h → (K w.params).In h)
    (F : ∀ (w : World) (mg : Str → Option Value) (fa : Addr) (h : Heap), (K w.params).In h → h.Ns mainGlobals mg → mg d.name = some (.ref fa) →
      ∃ fd : FuncData, (∀ (s : Shared) (u : Value), BindsTo s fd ⟨[u], []⟩ [("_law_script", u)]) ∧ ∀ base : Heap, (K w.params).In base → base.Ns mainGlobals mg → FnOk l.prog w (K w.params) mg base CX0 6 fa fd ["_law_script"] (spLaw (K w.params))) :
    PySem.W.WalkO q loose XP YP l.row.toRowW d [] (fun f vs => PySem.call f vs) :=
  L2.walk_of (n := 63) (k := 6) (x := "_law_script") (CX := fun _ => CX0) (sp := fun w => spLaw (K w.params)) hn (by decide) hdf ⟨rfl, by decide, by decide⟩ hY F (fun _ _ a ns hl _ hS => ⟨a, ns, rfl, hS, hl, fun _ => rfl⟩) fun _ _ _ _ _ z => z
end R3
open PySem PySem.W PyProof.Rows
set_option maxRecDepth 100000 in
set_option maxHeartbeats 0 in
theorem PySem.Challenge.cw_hadnot_k03_ratios_holds : PySem.Challenge.rw_hadnot_k03_ratios.Holds := by
  w_on; o_law; k_head; (case hw => w_witness2)
  k_fill
  refine R3.walk (l := PySem.Challenge.rw_hadnot_k03_ratios) rfl rfl (fun w h Y => PySem.W.kIn_of Y) ?F
  case F =>
    intro w mg fa h KX G hmg
    refine' R3.all_mk KX G hmg ?aC ?aCN ?aI ?iI ?lI ?cI ?kI ?dI ?aE ?iE ?lE ?cE ?kE ?aBo ?iBo ?lBo ?cBo ?kBo ?aS ?iS ?lS ?cS ?kS ?aAd ?iAd ?lAd ?cAd ?kAd ?aSu ?iSu ?lSu ?cSu ?kSu ?aMu ?iMu ?lMu ?cMu ?kMu ?aNe ?iNe ?lNe ?cNe ?kNe ?aBe ?iBe ?lBe ?cBe ?kBe ?aPd ?iPd ?lPd ?cPd ?kPd ?aFd ?lFd ?cFd ?kFd ?aT ?lT ?cT ?kT ?aSm ?lSm ?cSm ?kSm ?aL ?lL ?cL ?kL ?aPa ?lPa ?cPa ?kPa ?aMa ?lMa ?cMa ?kMa ?aPr ?lPr ?cPr ?kPr ?aW ?lW ?cW ?kW ?pgC ?hdC ?poC ?saC ?mkC ?kcC ?nCtop ?nCbottom ?x_xN ?x_kN ?x_bN ?x_tN ?x_iN ?x_sN ?x_sf ?x_cA ?x_cG ?x_cT ?x_cM ?x_kCC ?x_kI ?x_kS ?x_kT ?x_fI ?x_fS ?x_fT ?x_fC ?x_gG ?z_isinstance ?z_str ?z_bool ?z_repr ?z_abs ?z_len ?z_max ?z_min ?z_range ?z_int
    (case aC => k_is)
    (case aCN => k_is)
    (case aI => k_is)
    (case iI => k_is)
    (case lI => k_is)
    (case cI => k_is)
    (case kI => k_is)
    (case dI => k_is)
    (case aE => k_is)
    (case iE => k_is)
    (case lE => k_is)
    (case cE => k_is)
    (case kE => k_is)
    (case aBo => k_is)
    (case iBo => k_is)
    (case lBo => k_is)
    (case cBo => k_is)
    (case kBo => k_is)
    (case aS => k_is)
    (case iS => k_is)
    (case lS => k_is)
    (case cS => k_is)
    (case kS => k_is)
    (case aAd => k_is)
    (case iAd => k_is)
    (case lAd => k_is)
    (case cAd => k_is)
    (case kAd => k_is)
    (case aSu => k_is)
    (case iSu => k_is)
    (case lSu => k_is)
    (case cSu => k_is)
    (case kSu => k_is)
    (case aMu => k_is)
    (case iMu => k_is)
    (case lMu => k_is)
    (case cMu => k_is)
    (case kMu => k_is)
    (case aNe => k_is)
    (case iNe => k_is)
    (case lNe => k_is)
    (case cNe => k_is)
    (case kNe => k_is)
    (case aBe => k_is)
    (case iBe => k_is)
    (case lBe => k_is)
    (case cBe => k_is)
    (case kBe => k_is)
    (case aPd => k_is)
    (case iPd => k_is)
    (case lPd => k_is)
    (case cPd => k_is)
    (case kPd => k_is)
    (case aFd => k_is)
    (case lFd => k_is)
    (case cFd => k_is)
    (case kFd => k_is)
    (case aT => k_is)
    (case lT => k_is)
    (case cT => k_is)
    (case kT => k_is)
    (case aSm => k_is)
    (case lSm => k_is)
    (case cSm => k_is)
    (case kSm => k_is)
    (case aL => k_is)
    (case lL => k_is)
    (case cL => k_is)
    (case kL => k_is)
    (case aPa => k_is)
    (case lPa => k_is)
    (case cPa => k_is)
    (case kPa => k_is)
    (case aMa => k_is)
    (case lMa => k_is)
    (case cMa => k_is)
    (case kMa => k_is)
    (case aPr => k_is)
    (case lPr => k_is)
    (case cPr => k_is)
    (case kPr => k_is)
    (case aW => k_is)
    (case lW => k_is)
    (case cW => k_is)
    (case kW => k_is)
    (case pgC => k_is)
    (case hdC => k_is)
    (case poC => k_is)
    (case saC => k_is)
    (case mkC => k_is)
    (case kcC => k_is)
    (case nCtop => k_is)
    (case nCbottom => k_is)
    (case x_xN => k_exc)
    (case x_kN => k_is)
    (case x_bN => k_is)
    (case x_tN => k_is)
    (case x_iN => k_is)
    (case x_sN => first | rfl | k_is)
    (case x_sf => k_is)
    (case x_cA => k_is)
    (case x_cG => k_is)
    (case x_cT => k_is)
    (case x_cM => k_is)
    (case x_kCC => kit_is)
    (case x_kI => kit_is)
    (case x_kS => kit_is)
    (case x_kT => kit_is)
    (case x_fI => k_is)
    (case x_fS => k_is)
    (case x_fT => k_is)
    (case x_fC => k_is)
    (case x_gG => k_is)
    (case z_isinstance => k_is)
    (case z_str => k_is)
    (case z_bool => k_is)
    (case z_repr => k_is)
    (case z_abs => k_is)
    (case z_len => k_is)
    (case z_max => k_is)
    (case z_min => k_is)
    (case z_range => k_is)
    (case z_int => k_is)
