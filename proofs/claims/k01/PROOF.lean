import PyProof.Rows.All
import Wide.All
import OpenK.AllK
import Wide.FinOn
import HandS.ForMost
import HandS.ForExc
import HandS.Wide
import HandS.Gcd
import HandS.FStr
import HandS.StrMore
import HandS.IsInst
import HandS.Small
import HandS.CallSlots
import HandS.Flow
import HandS.Codes
import PyProof.ReprRoads
import HandS.RaiseMore
import HandS.ExcInit
import HandS.ExcIs
import HandS.ExcSuper
import KE.KExcSuper
import KE.KSuper
import HandS.ExcValue
import HandS.ExcField
import HandS.Defaults
import HandS.Walk
import HandS.Style
import HandS.WordsExc
import PySem.Challenge.RW_hadnot_k01_errors
set_option Elab.async false
set_option linter.all false
set_option maxRecDepth 100000
set_option maxHeartbeats 4000000
namespace L3
open PySem PySem.Spec PyProof.Rows L2

/-! ### numbers -/
def CDivNW (_ j : Int) : Prop := j ≠ 0 ∧ j.natAbs.log2 < 9000
theorem op_fdivNW {X : Cx} : OpR X (binaryOp .FloorDiv) (rI CDivNW fun i j => .int (i.fdiv j)) :=
  opI fun _ _ _ _ _ _ _ hc q => floordiv_int hc.1 q (.inl (PyProof.noPylong_of_log2 hc.2))

/-! ### operators of an own class -/
section
variable {X : Cx} {CX : CXT} {C f : Addr} {fd : FuncData} {ps : List Str} {sp : Sp} {E : XK} {n : Nat} {pins : List (Addr × Obj)} {σ : L2.St}
theorem back_of {Q : VK} {v : Value} {s' : Shared} (h : EP X pins σ Q v s') : PySem.W.CmpBack (EP X pins σ Q) v s' := by
  obtain ⟨x, H', I, r, q⟩ := id h
  cases x with
  | non => cases r; exact h
  | bl b => cases r; exact h
  | int i => obtain ⟨t, rfl⟩ := r; exact h
  | str i => obtain ⟨t, rfl⟩ := r; exact h
  | byt i => obtain ⟨t, rfl⟩ := r; exact h
  | flt i => obtain ⟨t, rfl⟩ := r; exact h
  | ref a => cases r; exact h
  | ty n => cases r; exact h
/-- one op other, both instances of the class at C -/
def rOwn2 (C : Addr) (sp : Sp) (E : XK) : R2 := fun x y H Q => ∃ a b dx dy fs gs, x = .ref a ∧ y = .ref b ∧ H a = some (.ins C dx fs) ∧ H b = some (.ins C dy gs) ∧ sp [x, y] H Q E
theorem op_own2 {op : Operator} (F : FnOk X.prog X.w X.K X.mg X.base CX n f fd ps sp) (hr : Room n X.A) (hb : Binds X.K fd ps []) (hx : Passes CX X E)
    (hc : PySem.W.selfFirst X.K C = true) (hs : PySem.W.findIn X.K (.ref C) (PySem.dunder op.info.2) = some (some (.ref f))) (hf : PySem.W.isFn X.K (.ref f) = true) :
    OpR X (binaryOp op) (rOwn2 C sp E) := by
  intro pins s σ H x y v u Q I rx ry h
  obtain ⟨a, b, dx, dy, fs, gs, rfl, rfl, ha, hb', hq⟩ := h
  cases rx
  cases ry
  obtain ⟨mA, J, _⟩ := ins_get I.hok ha
  obtain ⟨mB, J', _⟩ := ins_get I.hok hb'
  obtain ⟨od, J, _⟩ := J.look
  obtain ⟨od', J', _⟩ := J'.look
  obtain ⟨m, hF⟩ := I.fr
  refine PySem.W.binop_K hF I.ok.mod.kin J J'.type hc hs hf ?_
  exact wpAny_mono (run_fn (us := [.ref a, .ref b]) (vs := [.ref a, .ref b]) F hr hb .nil hx I (.cons rfl (.cons rfl .nil)) (by simpa using hq)) (fun v s' hv => back_of hv) fun _ _ e => e
/-- -one -/
def rOwn1 (C : Addr) (sp : Sp) (E : XK) : V → Hp → VK → Prop := fun x H Q => ∃ a dx fs, x = .ref a ∧ H a = some (.ins C dx fs) ∧ sp [x] H Q E
theorem un_ownNeg (F : FnOk X.prog X.w X.K X.mg X.base CX n f fd ps sp) (hr : Room n X.A) (hb : Binds X.K fd ps []) (hx : Passes CX X E)
    (hs : PySem.W.findIn X.K (.ref C) "__neg__" = some (some (.ref f))) (hf : PySem.W.isFn X.K (.ref f) = true) : UnR X (unaryOp .USub) (rOwn1 C sp E) := by
  intro pins s σ H x v Q I rx h
  obtain ⟨a, dx, fs, rfl, ha, hq⟩ := h
  cases rx
  obtain ⟨mA, J, _⟩ := ins_get I.hok ha
  obtain ⟨od, J, _⟩ := J.look
  obtain ⟨m, hF⟩ := I.fr
  exact PySem.W.ksp_neg hF I.ok.mod.kin J hs hf (run_fn (us := [.ref a]) (vs := [.ref a]) F hr hb .nil hx I (.cons rfl .nil) (by simpa using hq))
/-- one == other by the own __eq__, whatever the other is -/
def rOwnEq (K : PySem.W.Frag) (C : Addr) (sp : Sp) (E : XK) : R2 := fun x y H Q => ∃ a dx fs t, x = .ref a ∧ H a = some (.ins C dx fs) ∧ TyX K H y t ∧ PySem.W.notFirst K C t = true ∧ sp [x, y] H Q E
theorem op_ownEq (F : FnOk X.prog X.w X.K X.mg X.base CX n f fd ps sp) (hr : Room n X.A) (hb : Binds X.K fd ps []) (hx : Passes CX X E)
    (hs : PySem.W.findIn X.K (.ref C) "__eq__" = some (some (.ref f))) (hf : PySem.W.isFn X.K (.ref f) = true) : OpR X (compareOp .Eq) (rOwnEq X.K C sp E) := by
  intro pins s σ H x y v u Q I rx ry h
  obtain ⟨a, dx, fs, t, rfl, ha, ty, hn, hq⟩ := h
  cases rx
  obtain ⟨mA, J, _⟩ := ins_get I.hok ha
  obtain ⟨od, J, _⟩ := J.look
  obtain ⟨m, hF⟩ := I.fr
  obtain ⟨P, Z, p, _⟩ := kit_of I ry ty
  show wpAny (model X.prog X.w) X.A (richCompare .Eq (.ref a) u) (EP X pins σ Q) X.xe s
  refine PySem.W.cmp_K (op := .Eq) hr.units0 hF I.ok.mod.kin J (Z.ty _ _ I.kIn p) hn hs hf ?_
  exact wpAny_mono (run_fn (us := [.ref a, u]) (vs := [.ref a, y]) F hr hb .nil hx I (.cons rfl (.cons ry .nil)) (by simpa using hq)) (fun v s' hv => back_of hv) fun _ _ e => e
/-- the callee runs, a few levels below the body -/
theorem run_fnA {A : Around} {s : Shared} {H : Hp} {Q : VK} {us : List Value} {vs : List V} (F : FnOk X.prog X.w X.K X.mg X.base CX n f fd ps sp) (hr : Room n A) (hfr : A.frames = X.A.frames) (hb : Binds X.K fd ps []) (hx : Passes CX X E)
    (I : Inv X pins σ H s) (r : Vals vs us) (h : sp vs H Q E) : wpAny (model X.prog X.w) A (call (.ref f) us) (EP X pins σ Q) X.xe s := by
  have e0 : Env0 X.prog X.w X.K X.mg X.base A X.stack s H := by
    have e := I.env0
    exact ⟨hfr.trans e.frames, e.mod, e.bs, e.bsz, e.funs, e.frf, e.hok, e.bare⟩
  have hl : us.length = ps.length := r.length.symm.trans (F.len _ _ _ _ h)
  have bb := hb s us I.kIn (by simpa using hl)
  rw [List.append_nil] at bb
  refine wpAny_call (codeAny_mono (F.run A X.stack s H ⟨us, []⟩ us vs Q E hr e0 bb r h) fun res s' hq => ?_)
  match res, hq with
  | .error e, hq => exact hx pins σ H s e s' I hq
  | .ok (.ret w), hq => exact I.after hq
  | .ok .next, hq => exact False.elim hq
  | .ok .brk, hq => exact False.elim hq
  | .ok .cont, hq => exact False.elim hq
end
end L3

namespace L3
open PySem PySem.Spec PyProof.Rows L2
theorem iteB {b : Bool} {A B : Prop} (h1 : b = true → A) (h2 : b = false → B) : if b = true then A else B := by
  cases b with
  | true => exact h1 rfl
  | false => exact iteF (h2 rfl)
theorem iteD {c A B : Prop} [Decidable c] (h1 : c → A) (h2 : ¬ c → B) : if decide c = true then A else B :=
  iteB (fun h => h1 (of_decide_eq_true h)) fun h => h2 (of_decide_eq_false h)
theorem iteN {b : Bool} {A B : Prop} (h1 : b = false → A) (h2 : b = true → B) : if (!b) = true then A else B := by
  cases b with
  | true => exact iteF (h2 rfl)
  | false => exact h1 rfl
theorem bool_call {prog : Program} {w : World} {A : Around} {E : Value → Shared → Prop} {s : Shared} {x : Value} {Q : Value → Shared → Prop}
    (h : wpAny (model prog w) A.in1.in1 (truthy x) (fun b s' => Q (.bool b) s') E s) : wpAny (model prog w) A (call (.type "bool") [x]) Q E s := by
  refine callType_codes (T := "bool") (Bi := Builtin.«object.__init__») (Q₁ := fun r s₁ => ∃ y, r = .bool y ∧ Q r s₁) PySem.F.called_bool (PySem.F.typeCall_bool_1 _) PySem.F.entry_object_init ?_ ?_
  · refine codeAny_of_tree ?_
    show wpAny _ A.in1.in1 (do checkBuiltinCall "bool.__new__" ⟨[.type "bool", x], []⟩; again (.builtin "bool.__new__" ⟨[.type "bool", x], []⟩)) _ _ s
    refine wpAny_bind (wpAny_of_eq (PySem.F.newCall_bool_1 _) (wpAny_pure ⟨plainId_quiet (by decide +kernel) _, codeAny_builtin PySem.F.entry_bool_new ?_⟩))
    rw [Around.under_plainId (by decide +kernel) _]
    unfold Builtin.«bool.__new__»
    have f1 := F.conv_sub_bool
    have h2 : wpAny (model prog w) A.in1.in1 (truthy x) (fun b s' => ∃ y, Value.bool b = .bool y ∧ Q (.bool b) s') E s := wpAny_mono h (fun b s' q => ⟨b, rfl, q⟩) fun _ _ e => e
    obtain ⟨hp, g, d, tk, os⟩ := s
    repeat (any_goals (first | (with_reducible refine wpAny_mono h2 (fun b s' q => ?_) fun _ _ e => e) | wp_step))
    all_goals exact q
  · rintro obj s₁ ⟨y, rfl, hq⟩
    exact ⟨PySem.typeIs_bool _ _, PySem.F.args_object_init_2 _ _, object_init_meets PySem.F.called_bool.init.lookup PySem.F.called_bool.made (by decide) prog w A.in1 _ s₁ ⟨PySem.typeIs_bool _ _, rfl, hq⟩⟩
section
variable {X : Cx} {CX : CXT} {C f : Addr} {fd : FuncData} {ps : List Str} {sp : Sp} {E : XK} {n : Nat}
theorem room2 {A : Around} (h : Room (n + 1) A) : Room n A.in1.in1 :=
  ⟨h.hd, by have := h.dp; show A.depth + 3 * n + 5 < _; omega, by have := h.un; show A.units + 1 + 1 + 16 * n + 200 < _; omega⟩
/-- bool(x), str(x) by the own special method -/
theorem call_boolOwn (F : FnOk X.prog X.w X.K X.mg X.base CX n f fd ps sp) (hr : Room (n + 1) X.A) (hb : Binds X.K fd ps []) (hx : Passes CX X E)
    (hs : PySem.W.findIn X.K (.ref C) "__bool__" = some (some (.ref f))) (hf : PySem.W.isFn X.K (.ref f) = true) :
    CallR X (.type "bool") (fun xs H Q => ∃ a dx fs, xs = [.ref a] ∧ H a = some (.ins C dx fs) ∧ sp [.ref a] H (fun v H' => ∃ b, v = .bl b ∧ Q (.bl b) H') E) := by
  intro pins s σ H xs us Q I r h
  obtain ⟨a, dx, fs, rfl, ha, hq⟩ := h
  obtain ⟨u, rfl, rx⟩ := vals1 r
  cases rx
  obtain ⟨mA, J, _⟩ := ins_get I.hok ha
  obtain ⟨od, J, _⟩ := J.look
  obtain ⟨m, hF⟩ := I.fr
  refine bool_call (PySem.W.truthy_K hF I.ok.mod.kin J hs hf ?_)
  refine wpAny_mono (run_fnA (us := [.ref a]) (vs := [.ref a]) F (room2 hr) rfl hb hx I (.cons rfl .nil) hq) (fun v s' hv => ?_) fun _ _ e => e
  obtain ⟨x, H', I', rx, b, rfl, q⟩ := hv
  cases rx
  exact ⟨.bl b, H', I', rfl, q⟩
theorem call_strOwn (F : FnOk X.prog X.w X.K X.mg X.base CX n f fd ps sp) (hr : Room (n + 1) X.A) (hb : Binds X.K fd ps []) (hx : Passes CX X E)
    (hs : PySem.W.findIn X.K (.ref C) "__str__" = some (some (.ref f))) (hf : PySem.W.isFn X.K (.ref f) = true) :
    CallR X (.type "str") (fun xs H Q => ∃ a dx fs, xs = [.ref a] ∧ H a = some (.ins C dx fs) ∧ sp [.ref a] H (fun v H' => ∃ b, v = .str b ∧ Q (.str b) H') E) := by
  intro pins s σ H xs us Q I r h
  obtain ⟨a, dx, fs, rfl, ha, hq⟩ := h
  obtain ⟨u, rfl, rx⟩ := vals1 r
  cases rx
  obtain ⟨mA, J, _⟩ := ins_get I.hok ha
  obtain ⟨od, J, _⟩ := J.look
  refine PySem.W.kso_call (by have := hr.un; show X.A.units + 1 + 1 < cLine; omega) I.kIn J hs hf ?_
  refine wpAny_mono (run_fnA (us := [.ref a]) (vs := [.ref a]) F (room2 hr) rfl hb hx I (.cons rfl .nil) hq) (fun v s' hv => ?_) fun _ _ e => e
  obtain ⟨x, H', I', rx, b, rfl, q⟩ := hv
  obtain ⟨t, rfl⟩ := rx
  exact ⟨.str b, H', I', ⟨t, rfl⟩, q⟩
/-- repr of a bool -/
def boolText (b : Bool) : Str := if b = true then Str.ofString "True" else Str.ofString "False"
theorem call_reprB : CallR X (.builtin "repr") (fun xs H Q => ∃ b, xs = [.bl b] ∧ Q (.str (boolText b)) H) := by
  intro pins s σ H xs us Q I r h
  obtain ⟨b, rfl, q⟩ := h
  obtain ⟨u, rfl, rx⟩ := vals1 r
  cases rx
  exact PySem.P.repr_of_bool ⟨.str (boolText b), H, I.tok _, ⟨_, rfl⟩, q⟩
theorem foldRep (c : Array Nat) : ∀ (n : Nat) (acc : Array Nat), (List.foldl (· ++ ·) acc (List.replicate n c)).toList = acc.toList ++ (List.replicate n c.toList).flatten
  | 0, acc => by simp
  | n + 1, acc => by
    rw [List.replicate_succ, List.foldl_cons, foldRep c n, Array.toList_append, List.replicate_succ, List.flatten_cons, List.append_assoc]
theorem foldRep_len (c : Array Nat) (n : Nat) : (List.foldl (· ++ ·) #[] (List.replicate n c)).size = n * c.size := by
  have e := congrArg List.length (foldRep c n #[])
  simpa using e
/-- a text a few times -/
def timesS (x : Str) (n : Int) : Str := if n < 1 then Str.empty else ⟨(List.replicate n.toNat x.cps).foldl (· ++ ·) #[]⟩
theorem op_mulS : OpR X (binaryOp .Mult) (fun x y H Q => ∃ a k, x = .str a ∧ y = .int k ∧ -(2 ^ 62) < k ∧ (k ≤ 1 ∨ k < 2 ^ 20 ∧ a.length < 16) ∧ Q (.str (timesS a k)) H) := by
  intro pins s σ H x y v u Q I rx ry h
  obtain ⟨a, k, rfl, rfl, h0, h12, q⟩ := h
  obtain ⟨t, rfl⟩ := rx
  obtain ⟨t', rfl⟩ := ry
  have hl : sizeLine = 16777216 := sizeLine_eq
  refine PySem.P.mul_str (by rw [decide_eq_false (by omega), decide_eq_false (by omega)]; rfl) (fun hk hk1 z => ?_) (fun hk hk1 => ?_) ?_
  · have hk1' : k ≠ 1 := fun e => by rw [e] at hk1; simp at hk1
    obtain ⟨h1, h2⟩ := h12.resolve_left (by omega)
    have z1 : (2 ^ 63 - 1 : Int) / k ≥ 16 := by
      rw [ge_iff_le, Int.le_ediv_iff_mul_le (by omega)]
      omega
    omega
  · have hk1' : k ≠ 1 := fun e => by rw [e] at hk1; simp at hk1
    obtain ⟨h1, h2⟩ := h12.resolve_left (by omega)
    unfold Builtin.Str.tooLong
    have : a.length * k.toNat ≤ 16 * 1048576 := Nat.mul_le_mul (by omega) (by omega)
    rw [decide_eq_false]
    rw [hl]
    omega
  · unfold timesS at q
    by_cases hk : k < 1
    · rw [if_pos hk] at q ⊢
      exact ⟨by decide, .str _, H, I.tok _, ⟨_, rfl⟩, q⟩
    · rw [if_neg hk] at q ⊢
      by_cases h3 : (k == 1 || a.length == 0) = true
      · rw [if_pos h3]
        have e : (⟨(List.replicate k.toNat a.cps).foldl (· ++ ·) #[]⟩ : Str) = a := by
          rcases Bool.or_eq_true_iff.mp h3 with e | e
          · have e' : k = 1 := by simpa using e
            subst e'
            simp
          · have e' : a.length = 0 := by simpa using e
            have e2 : a.cps = #[] := by
              have : a.cps.size = 0 := e'
              exact Array.eq_empty_of_size_eq_zero this
            have g : ∀ n : Nat, (List.replicate n a.cps).foldl (· ++ ·) #[] = #[] := by
              intro n
              rw [e2]
              induction n with
              | zero => rfl
              | succ n ih => simpa [List.replicate_succ] using ih
            rw [g]
            cases a
            simp at e2
            rw [e2]
        rw [e] at q
        exact ⟨.str _, H, I, ⟨_, rfl⟩, q⟩
      · rw [if_neg h3]
        refine ⟨?_, .str _, H, I.tok _, ⟨_, rfl⟩, q⟩
        show (List.foldl (· ++ ·) #[] (List.replicate k.toNat a.cps)).size ≤ sizeLine
        rw [foldRep_len, hl]
        have hk1' : k ≠ 1 := fun e => h3 (by rw [e]; rfl)
        obtain ⟨h1, h2⟩ := h12.resolve_left (by omega)
        have h4 : a.cps.size < 16 := h2
        have : k.toNat * a.cps.size ≤ 1048576 * 16 := Nat.mul_le_mul (by omega) (by omega)
        omega
/-- X(), X an own exception class without own __init__ -/
theorem pmk_own0 {bmB : List Value} {B newId initId : String} {x : Str} {p pos : Pos} (F : ExcBaseFacts B newId initId bmB) (q : PySem.W.excIn X.K C bmB newId = true) (gC : X.mg x = some (.ref C))
    (kC : PySem.W.keepIn X.K (.ref C) = true) (r : Raises X (.ref C)) (hg : Gl X x) (hdb : (x == ("__debug__" : Str)) = false := by decide) :
    PMk X (.Call (.Name x p) [] [] pos) (fun _ H Q => Q (.ref C) none H) := by
  intro pins s σ H Q I h
  refine wpAny_Call_Name_kw (ld_glob I hg gC ?_ hdb)
  refine PySem.W.callWith_K0 I.kIn kC ?_
  obtain ⟨bm, N, nm, qn, bs, hdct, sn, sub, ab, col, dd, k0, k1, k2, k3, k5, mN, hC, hN, hni, T⟩ := exc_obj I.kIn q
  exact wpAny_call_exc_subT F T hC hN hni (fun h' e hm => mk_of I hm r h (I.hok.gone hm.new)) (Nat.zero_le _)
/-- C(..) where what __init__ raises is wished for at the caller's slots -/
def tMakeS (C : Addr) (sp : Sp) (dvs : List V) (E : L2.St → XK) (t : TA) : TE := fun σ H Q => t σ H fun vs H1 => ∀ x dx, H1 x = none → H1 dx = none → dx ≠ x →
  sp (.ref x :: (vs ++ dvs)) (upd (upd H1 dx (.own x)) x (.ins C dx [])) (fun v H2 => v = .non ∧ Q (.ref x) H2) (E σ)
theorem pe_makeS {E : L2.St → XK} {dvs : List V} {ds : List Value} {k : Nat} {x : Str} {p pos : Pos} {e : Expr} {es : List Expr} {t : TA} (M : Mk X.K C f) (F : FnOk X.prog X.w X.K X.mg X.base CX k f fd ps sp) (hr : Room (k + 1) X.A) (hg : Gl X x)
    (hm : X.mg x = some (.ref C)) (hb : Binds X.K fd ps ds) (hd : Vals dvs ds) (hx : ∀ σ, PassesAt CX X σ (E σ))
    (ha : PA X (e :: es) t) (hdb : (x == ("__debug__" : Str)) = false := by decide) (he : starEach (e :: es) X.env = (false, eval e X.env) :: starEach es X.env := by rfl) (hpl : (backTo pos (starEach es X.env)).any (·.1) = false := by rfl) :
    PE X (.Call (.Name x p) (e :: es) [] pos) (tMakeS C sp dvs E t) := by
  refine ⟨fun pins s0 σ H0 Q I0 h0 => ?_⟩
  refine wpAny_Call_Name_kw (ld_glob I0 hg hm ?_ hdb)
  refine PySem.W.callWith_K (h₀ := X.base) I0.ok.mod.kin M.kp (thn (ha.run pos pins s0 σ H0 _ I0 h0) fun us s ⟨vs, H, I, r, h⟩ => ⟨I.kIn, ?_⟩) he hpl
  have q0 := h (s.heap.objs.size + 1) s.heap.objs.size (I.hok.fresh (Nat.le_succ _)) (I.hok.fresh (Nat.le_refl _)) (Nat.ne_of_lt (Nat.lt_succ_self _))
  have J := Inv.made (C := C) I
  have rr : Vals (V.ref (s.heap.objs.size + 1) :: (vs ++ dvs)) (Value.ref (s.heap.objs.size + 1) :: (us ++ ds)) := .cons rfl (r.append hd)
  have hl : (Value.ref (s.heap.objs.size + 1) :: us ++ ds).length = ps.length := rr.length.symm.trans (F.len _ _ _ _ q0)
  refine wpAny_call (make_map (f := f) I.kIn M.makes M.init (beq_iff_eq.mp M.fn) (codeAny_mono
    (F.run _ X.stack _ _ ⟨Value.ref (s.heap.objs.size + 1) :: us, []⟩ (Value.ref (s.heap.objs.size + 1) :: (us ++ ds)) _ _ (E σ) (hr.make C us []) (J.env0.make C us []) (hb _ (Value.ref (s.heap.objs.size + 1) :: us) J.kIn hl) rr q0) fun res s' hq => ?_))
  match res, hq with
  | .error e, hq => exact hx σ pins _ _ e s' J hq
  | .ok (.ret u), hq =>
    obtain ⟨v, H', I3, rv, ev, q3⟩ := J.after hq
    subst ev
    exact ⟨rv, ⟨V.ref (s.heap.objs.size + 1), H', I3, rfl, q3⟩⟩
  | .ok .next, hq => exact False.elim hq
  | .ok .brk, hq => exact False.elim hq
  | .ok .cont, hq => exact False.elim hq
end
end L3

/-! defs that ask for the texts of lists and tuples: no such text is under way where they are called -/
namespace L3
open PySem PySem.Spec PyProof.Rows L2

/-- no repr is under way -/
abbrev Calm (A : Around) : Prop := A.guards = some []
structure FnG (P : Program) (w : World) (K : PySem.W.Frag) (mg : Str → Option Value) (base : Heap) (CX : CXT) (k : Nat) (f : Addr) (fd : FuncData) (ps : List Str) (sp : Sp) : Prop where
  len : ∀ vs H Q E, sp vs H Q E → vs.length = ps.length
  run : ∀ (A : Around) (outer : List Env) (s : Shared) (H : Hp) (args : Args) (us : List Value) (vs : List V) (Q : VK) (E : XK), Calm A → Room k A → Env0 P w K mg base A outer s H → BindsTo s fd args (ps.zip us) → Vals vs us → sp vs H Q E →
    codeAny (model P w) A (.call (.ref f) args) (CR CX outer P w H s Q E) s
section
variable {P : Program} {w : World} {K : PySem.W.Frag} {mg : Str → Option Value} {base : Heap} {CX : CXT} {j k : Nat} {f : Addr} {fd : FuncData} {ps : List Str} {sp sp' : Sp}
theorem FnG.of (F : FnOk P w K mg base CX k f fd ps sp) : FnG P w K mg base CX k f fd ps sp :=
  ⟨F.len, fun A outer s H args us vs Q E _ => F.run A outer s H args us vs Q E⟩
theorem FnG.mono (F : FnG P w K mg base CX j f fd ps sp) (h : j ≤ k) : FnG P w K mg base CX k f fd ps sp :=
  ⟨F.len, fun A outer s H args us vs Q E g hr => F.run A outer s H args us vs Q E g (hr.mono h)⟩
/-- a def by its body, where no repr is under way -/
theorem gfn_of {name qual : Str} {params : Arguments} {body : List Stmt} {scope : Scope} {dV kV doc pm cdv ct oc : Value} {an od : Option Addr} {osl : Array (Option Value)} {N : List Str}
    (lk : K.lookup f = some ⟨oc, od, .func (PySem.W.fnOf name qual params body scope dV kV doc pm an cdv ct), osl⟩) (hcd : PySem.W.codeIn K cdv qual = true) (S : FnScope N ps scope)
    (len : ∀ vs H Q E, sp vs H Q E → vs.length = ps.length)
    (hbody : ∀ (A : Around) (outer : List Env) (s : Shared) (H : Hp) (vs : List V) (Q : VK) (E : XK), Calm A → Room k (A.deeper (envOfC qual scope s.heap.objs.size f cdv)) → sp vs H Q E →
      ∃ t, PSs (cxOf CX P w K mg base N qual scope f cdv A outer s H E) body t ∧ t { nx := fun _ H' => Q .non H', rt := Q } (L2.start N vs) H) :
    FnG P w K mg base CX (k + 1) f (PySem.W.fnOf name qual params body scope dV kV doc pm an cdv ct) ps sp := by
  constructor
  · exact len
  intro A outer s H args us vs Q E g hr e0 hb r hsp
  have old : ∀ b o, base.get? b = some o → s.heap.get? b = some o := fun b o e => (e0.bs b o e).1
  have KX : K.In s.heap := e0.mod.kin.keeps old
  have lim : s.heap.NoLimit := e0.mod.nolimit.keeps old
  have kinds : ∀ y ∈ ps.zip us, scope.names.lookup y.1 = some .local ∨ (scope.names.lookup y.1 = some .cell ∧ ((cellsFrom (s.heap.objs.size + 1) scope.names []).lookup y.1).isSome = true) := by
    intro y hy
    rcases S.par y.1 (List.of_mem_zip (a := y.1) (b := y.2) hy).1 with q | q
    · exact .inl q
    · exact .inr ⟨q, PySem.W.cellsFrom_some _ _ _ (.inl q)⟩
  obtain ⟨t, ht, hq⟩ := hbody A outer s H vs Q E g (hr.deeper _) hsp
  refine codeAny_call_function hr.depth (KX _ _ lk) rfl S.co S.gen rfl (PySem.W.codeRec_of KX hcd) (hb _ _ _ _ (wpAny_newFunctionEnv_cells S.kind kinds fun env he s1 x => ?_))
  subst he
  refine ⟨lim.keeps x.toInCall.keep, codeAny_func (wpAny_mono (ht.run [] s1 (L2.start N vs) H _ (inv_start S hr.hd e0 (len _ _ _ _ hsp) r x) hq) (fun fl s' hs => ?_) fun e s' hs => hs)⟩
  match fl, hs with
  | .ret _, ⟨v, σ', H', J, rv, q⟩ => exact ⟨v, H', J.os, J.bare, J.base, J.hok, rv, q⟩
  | .next, ⟨σ', H', J, q⟩ => exact ⟨.non, H', J.os, J.bare, J.base, J.hok, rfl, q⟩
  | .brk, ⟨_, _, _, q⟩ => exact q.elim
  | .cont, ⟨_, _, _, q⟩ => exact q.elim
theorem gok {x qual : Str} {st : Stmt} {N : List Str} (F : Fun K x qual st f fd) (S : FnScope N ps (defScope st)) (len : ∀ vs H Q E, sp vs H Q E → vs.length = ps.length)
    (hbody : ∀ (cdv : Value) (A : Around) (outer : List Env) (s : Shared) (H : Hp) (vs : List V) (Q : VK) (E : XK), Calm A → Room k (A.deeper (envOfC qual (defScope st) s.heap.objs.size f cdv)) → sp vs H Q E →
      ∃ t, PSs (cxOf CX0 P w K mg base N qual (defScope st) f cdv A outer s H E).nox (defBody st) t ∧ t { nx := fun _ H' => Q .non H', rt := Q } (L2.start N vs) H) : FnG P w K mg base CX0 (k + 1) f fd ps sp := by
  obtain ⟨oc, od, kV, doc, pm, an, cdv, ct, osl, rfl, lk, hcd⟩ := F.ex
  exact gfn_of lk hcd S len fun A outer s H vs Q E g hr hsp => let ⟨t, h, q⟩ := hbody cdv A outer s H vs Q E g hr hsp; ⟨t, h.nox, q⟩
theorem gokX {x qual : Str} {st : Stmt} {N : List Str} (F : Fun K x qual st f fd) (S : FnScope N ps (defScope st)) (len : ∀ vs H Q E, sp vs H Q E → vs.length = ps.length)
    (hbody : ∀ (cdv : Value) (A : Around) (outer : List Env) (s : Shared) (H : Hp) (vs : List V) (Q : VK) (E : XK), Calm A → Room k (A.deeper (envOfC qual (defScope st) s.heap.objs.size f cdv)) → sp vs H Q E →
      ∃ t, PSs (cxOf (L2.CX P w) P w K mg base N qual (defScope st) f cdv A outer s H E) (defBody st) t ∧ t { nx := fun _ H' => Q .non H', rt := Q } (L2.start N vs) H) : FnG P w K mg base (L2.CX P w) (k + 1) f fd ps sp := by
  obtain ⟨oc, od, kV, doc, pm, an, cdv, ct, osl, rfl, lk, hcd⟩ := F.ex
  exact gfn_of lk hcd S len fun A outer s H vs Q E g hr hsp => hbody cdv A outer s H vs Q E g hr hsp
end

/-! ### calls of such defs -/
section
variable {X : Cx} {CX : CXT} {k : Nat} {f : Addr} {fd : FuncData} {ps : List Str} {sp : Sp} {dvs : List V} {ds : List Value} {E : XK} {x : Str} {p pos : Pos} {e : Expr} {es : List Expr} {t : TA}
theorem run_fnG {pins : List (Addr × Obj)} {σ : L2.St} {H : Hp} {s : Shared} {Q : VK} {us : List Value} {vs : List V} (F : FnG X.prog X.w X.K X.mg X.base CX k f fd ps sp) (g : Calm X.A) (hr : Room k X.A) (hb : Binds X.K fd ps ds) (hd : Vals dvs ds) (hx : Passes CX X E)
    (I : Inv X pins σ H s) (r : Vals vs us) (h : sp (vs ++ dvs) H Q E) : wpAny (model X.prog X.w) X.A (call (.ref f) us) (EP X pins σ Q) X.xe s := by
  have r2 := r.append hd
  refine wpAny_call (codeAny_mono (F.run X.A X.stack s H ⟨us, []⟩ (us ++ ds) (vs ++ dvs) Q E g hr I.env0 (hb s us I.kIn (r2.length.symm.trans (F.len _ _ _ _ h))) r2 h) fun res s' hq => ?_)
  match res, hq with
  | .error e, hq => exact hx pins σ H s e s' I hq
  | .ok (.ret u), hq => exact I.after hq
  | .ok .next, hq => exact hq.elim
  | .ok .brk, hq => exact hq.elim
  | .ok .cont, hq => exact hq.elim
theorem pe_callG (F : FnG X.prog X.w X.K X.mg X.base CX k f fd ps sp) (g : Calm X.A) (hr : Room k X.A) (hg : Gl X x) (hm : X.mg x = some (.ref f)) (hk : PySem.W.keepIn X.K (.ref f) = true) (hb : Binds X.K fd ps ds) (hd : Vals dvs ds) (hx : Passes CX X E)
    (ha : PA X (e :: es) t) (hdb : (x == ("__debug__" : Str)) = false := by decide) (he : starEach (e :: es) X.env = (false, eval e X.env) :: starEach es X.env := by rfl) (hpl : (backTo pos (starEach es X.env)).any (·.1) = false := by rfl) :
    PE X (.Call (.Name x p) (e :: es) [] pos) (tCall sp dvs E t) :=
  ⟨fun pins s σ H Q I h => wpAny_Call_Name_kw (ld_glob I hg hm (PySem.W.callWith_K (h₀ := X.base) I.ok.mod.kin hk (thn (ha.run pos pins s σ H _ I h) fun us s1 ⟨vs, H1, I1, r, q⟩ => ⟨I1.kIn, run_fnG F g hr hb hd hx I1 r q⟩) he hpl) hdb)⟩
end

/-! ### texts of lists and tuples -/
theorem calm_deeper {A : Around} (env : Env) (h : Calm A) : Calm (A.deeper env) := h
/-- repr(x), x data laid out in the heap -/
def rReprD (K : PySem.W.Frag) : List V → Hp → VK → Prop := fun xs H Q => ∃ (x : V) (d : PyData), xs = [x] ∧ Dp K H x d ∧ (∃ a, x = .ref a) ∧ d.showable = true ∧ d.hasDict = false ∧ d.depth ≤ 60 ∧ d.shown.length ≤ sizeLine ∧ Q (.str d.shown) H
theorem call_reprD {X : Cx} (g : Calm X.A) (hu : X.A.units + 64 < cLine) : CallR X (.builtin "repr") (rReprD X.K) := by
  intro pins s σ H xs us Q I rx h
  obtain ⟨x, d, rfl, hd, ⟨a, rfl⟩, hs, hnd, hdep, hsz, q⟩ := h
  cases rx with
  | @cons _ u _ _ ra rw' =>
    cases rw'
    obtain rfl : u = Value.ref a := ra
    obtain ⟨as, r⟩ := Dp.reads I d _ _ hd rfl
    exact PySem.repr_of_reads' r hs (fun z => by rw [hnd] at z; cases z) g (by omega) (fun _ _ e => e) (fun h' u tk k => ⟨.str d.shown, H, I.kept k, ⟨u, rfl⟩, q⟩) hsz
end L3

namespace L3
open PySem PySem.Spec PyProof.Rows L2

/-- the script's list as it is tracked at the law's entry -/
def hScript (a : Addr) (vs : List Value) (ns : List Int) (own : Bool) : Hp := fun b => if own = false ∧ b = a then some (.frz { cls := .type "list", data := .seq vs.toArray } (.lst (ns.map V.int))) else none
section
variable {P : Program} {w : World} {K : PySem.W.Frag} {mg mb : Str → Option Value} {CX : CXT} {k : Nat} {fa a : Addr} {fd : FuncData} {x : Str} {sp : Sp} {s : Shared} {vs : List Value} {ns : List Int} {own : Bool}
theorem hs_some {b : Addr} {o : HO} (h : hScript a vs ns own b = some o) : own = false ∧ b = a ∧ o = .frz { cls := .type "list", data := .seq vs.toArray } (.lst (ns.map V.int)) := by
  unfold hScript at h
  split at h
  · rename_i c
    exact ⟨c.1, c.2, (Option.some.inj h).symm⟩
  · cases h
theorem hs_none {b : Addr} (h : own = true ∨ b ≠ a) : hScript a vs ns own b = none := by
  cases q : hScript a vs ns own b with
  | none => rfl
  | some o =>
    obtain ⟨h1, h2, _⟩ := hs_some q
    rcases h with h | h
    · rw [h] at h1; cases h1
    · exact absurd h2 h
theorem hs_only : Only (hScript a vs ns own) := fun b => by
  cases q : hScript a vs ns own b with
  | none => exact .inl rfl
  | some o =>
    obtain ⟨_, _, e⟩ := hs_some q
    exact .inr ⟨_, _, by rw [e]⟩
theorem hs_ok (ha : s.heap.get? a = some { cls := .type "list", data := .seq vs.toArray }) (hi : IntsAre vs ns) (hl : ns.length ≤ sizeLine) : HOk P w (hScript a vs ns own) s.heap := fun b o q => by
  obtain ⟨_, rfl, rfl⟩ := hs_some q
  exact ⟨ha, by rw [List.length_map]; exact hl, vs, _, vals_ints hi, ha⟩
theorem hs_seq (ha : s.heap.get? a = some { cls := .type "list", data := .seq vs.toArray }) (hi : IntsAre vs ns) (hl : ns.length ≤ sizeLine) (KX : K.In s.heap) (hk : own = (K.lookup a).isSome) : SqL K (hScript a vs ns own) a (ns.map V.int) := by
  cases q : K.lookup a with
  | some o =>
    have e := KX a o q
    rw [ha] at e
    cases e
    exact .inr ⟨_, vs.toArray, _, q, rfl, rfl, rfl, by rw [List.size_toArray, hi.length]; exact hl, by simpa using vals_ints hi⟩
  | none =>
    refine .inl (.inr ⟨{ cls := .type "list", data := .seq vs.toArray }, ?_⟩)
    unfold hScript
    exact if_pos ⟨by rw [hk, q]; rfl, rfl⟩
/-- the law's def at the entry, its promise by FnG -/
theorem law_callG (KX : K.In s.heap) (hns : s.heap.Ns mainGlobals mg) (hb : s.heap.Ns builtinsNs mb) (hbb : ∀ x : Str, x ≠ "__name__" → mb x = bootBuiltins x) (hlim : s.heap.NoLimit) (hg : s.gens = #[])
    (ha : s.heap.get? a = some { cls := .type "list", data := .seq vs.toArray }) (hi : IntsAre vs ns) (hl : ns.length ≤ sizeLine) (hr : Room k callerA)
    (F : ∀ base : Heap, K.In base → base.Ns mainGlobals mg → FnG P w K mg base CX k fa fd [x] sp) (hbind : ∀ (s : Shared) (u : Value), BindsTo s fd ⟨[u], []⟩ [(x, u)])
    (hsp : ∀ H : Hp, Only H → SqL K H a (ns.map V.int) → sp [.ref a] H (fun v _ => v = .bl true) fun _ _ _ => False) (hCX : ∀ H e s', CX [] H s (fun _ _ _ => False) e s' → False) :
    codeAny (model P w) callerA (.call (.ref fa) ⟨[.ref a], []⟩) (fun r s' => r = .ok (.ret (.bool true)) ∧ OldK s.heap s'.heap ∧ s'.os = s.os ∧ AllBare s'.gens) s := by
  let own := (K.lookup a).isSome
  have hok : HOk P w (hScript a vs ns own) s.heap := hs_ok ha hi hl
  -- an object of the module, or a namespace, is not the tracked script
  have offK : ∀ {b : Addr} {o : Obj}, K.lookup b = some o → hScript a vs ns own b = none := fun {b o} e => by
    by_cases hb : b = a
    · refine hs_none (.inl ?_)
      show (K.lookup a).isSome = true
      rw [← hb, e]
      rfl
    · exact hs_none (.inr hb)
  have offD : ∀ {b : Addr} {o : Obj} {es : Array DictEntry} {ep : Nat}, s.heap.get? b = some o → o.data = .dict es ep → hScript a vs ns own b = none := fun {b o es ep} e d => by
    refine hs_none (.inr fun z => ?_)
    rw [z, ha] at e
    cases e
    cases (show Data.seq vs.toArray _ = Data.dict es ep from d)
  have nsK : ∀ {b : Addr} {m : Str → Option Value}, s.heap.Ns b m → (hidT s.heap (hScript a vs ns own)).Ns b m := fun {b m} ⟨o, es, ep, e, d, r⟩ => ⟨o, es, ep, hidT_get e (offD e d), d, r⟩
  have hKb : K.In (hidT s.heap (hScript a vs ns own)) := fun b o e => hidT_get (KX b o e) (offK e)
  obtain ⟨mc, c1, c2⟩ := hlim
  have hM : Mod K mg (hidT s.heap (hScript a vs ns own)) := ⟨hKb, nsK hns, ⟨mb, nsK hb, hbb⟩, mc, nsK c1, c2⟩
  have e0 : Env0 P w K mg (hidT s.heap (hScript a vs ns own)) callerA [] s (hScript a vs ns own) :=
    ⟨rfl, hM, fun b o e => of_hidT e, Nat.le_of_eq (hidT_size _ _), trivial, fun b hb => absurd (show b ∈ ([] : List Addr) from hb) (by simp), hok, .of_eq hg⟩
  refine codeAny_mono ((F _ hKb (nsK hns)).run callerA [] s (hScript a vs ns own) ⟨[.ref a], []⟩ [.ref a] [.ref a] _ _ rfl hr e0 (hbind s (.ref a)) (.cons rfl .nil) (hsp _ hs_only (hs_seq ha hi hl KX rfl))) fun r s' h => ?_
  match r, h with
  | .error e, h => exact (hCX _ e s' h).elim
  | .ok .next, h => exact h.elim
  | .ok .brk, h => exact h.elim
  | .ok .cont, h => exact h.elim
  | .ok (.ret u), ⟨v, H', os, bare, un, hok', rv, q⟩ =>
    cases (show v = .bl true from q)
    obtain rfl : u = Value.bool true := rv
    refine ⟨rfl, OldK.of_keep fun b o e => ?_, os, bare⟩
    cases z : hScript a vs ns own b with
    | none => exact un.keep b o e z (fun z => absurd (show b ∈ ([] : List Addr) from z) (by simp)) (by simp)
    | some u =>
      obtain ⟨_, _, rfl⟩ := hs_some z
      have y := (hok' b _ (un.frzs b _ _ z)).1
      have y0 := (hok b _ z).1
      rw [e] at y0
      cases y0
      exact y
end
/-- the goal behind the head, from the law's promise by FnG -/
theorem walk_ofG {l : PySem.W.OpenLaw} {n k : Nat} {q : Program} {loose : List Str} {XP : (Str → Option Value) → Heap → Prop} {YP : World → Heap → Prop} {d : DefRec} {K : Params → PySem.W.Frag} {CX : World → CXT} {sp : World → Sp} {x : Str}
    (hn : l.most = some n) (hn2 : n ≤ sizeLine) (hdf : d.params.defaults = []) (hr : Room k callerA) (hY : ∀ (w : World) (h : Heap), YP w h → (K w.params).In h)
    (F : ∀ (w : World) (mg : Str → Option Value) (fa : Addr) (h : Heap), (K w.params).In h → h.Ns mainGlobals mg → mg d.name = some (.ref fa) →
      ∃ fd : FuncData, (∀ (s : Shared) (u : Value), BindsTo s fd ⟨[u], []⟩ [(x, u)]) ∧ ∀ base : Heap, (K w.params).In base → base.Ns mainGlobals mg → FnG l.prog w (K w.params) mg base (CX w) k fa fd [x] (sp w))
    (hsp : ∀ (w : World) (H : Hp) (a : Addr) (ns : List Int), ns.length ≤ n → Only H → SqL (K w.params) H a (ns.map V.int) → sp w [.ref a] H (fun v _ => v = .bl true) fun _ _ _ => False)
    (hCX : ∀ (w : World) (H : Hp) (s : Shared) (e : Value) (s' : Shared), CX w [] H s (fun _ _ _ => False) e s' → False) :
    PySem.W.WalkO q loose XP YP l.row.toRowW d [] (fun f vs => PySem.call f vs) := by
  refine Att.attach_call hn hdf fun w s₀ s₁ mg mb fa o pm cd doc a vs ns G Y ho hd hcd hmg hobj hints hlen hg => ?_
  obtain ⟨fd, hb, hF⟩ := F w mg fa _ (hY w _ Y) G.T.g hmg
  exact law_callG (hY w _ Y) G.T.g G.T.b G.T.builtins G.T.nolimit hg hobj hints (Nat.le_trans hlen hn2) hr hF hb (fun H hO hS => hsp w H a ns hlen hO hS) fun H e s' => hCX w H s₁ e s'
end L3

namespace L3
open PySem PySem.Spec PyProof.Rows L2
abbrev Sm (n : Nat) (x : Int) : Prop := x.natAbs < 2 ^ n
theorem Sm.mono {n m : Nat} {x : Int} (h : Sm n x) (l : n ≤ m) : Sm m x := Nat.lt_of_lt_of_le h (Nat.pow_le_pow_right (by decide) l)
theorem Sm.le {n : Nat} {x y : Int} (h : Sm n y) (l : x.natAbs ≤ y.natAbs) : Sm n x := Nat.lt_of_le_of_lt l h
theorem Sm.mul {n m : Nat} {x y : Int} (h : Sm n x) (k : Sm m y) : Sm (n + m) (x * y) := wide_lt h k
theorem Sm.add {n : Nat} {x y : Int} (h : Sm n x) (k : Sm n y) : Sm (n + 1) (x + y) := by
  have e : (2 : Nat) ^ (n + 1) = 2 ^ n + 2 ^ n := by rw [Nat.pow_succ]; omega
  show (x + y).natAbs < 2 ^ (n + 1)
  rw [e]
  have h1 : x.natAbs < 2 ^ n := h
  have h2 : y.natAbs < 2 ^ n := k
  omega
theorem Sm.neg {n : Nat} {x : Int} (h : Sm n x) : Sm n (-x) := by
  show (-x).natAbs < 2 ^ n
  rw [Int.natAbs_neg]
  exact h
theorem Sm.sub {n : Nat} {x y : Int} (h : Sm n x) (k : Sm n y) : Sm (n + 1) (x - y) := by
  rw [Int.sub_eq_add_neg]
  exact h.add k.neg
theorem Sm.log {n k : Nat} {x : Int} (h : Sm n x) (h0 : 0 < n) (hk : n ≤ k) : x.natAbs.log2 < k := Nat.lt_of_lt_of_le (PySem.Flt.log2_lt_of h0 h) hk
theorem Sm.mulW {n m : Nat} {x y : Int} (h : Sm n x) (k : Sm m y) (h0 : 0 < n) (h1 : 0 < m) (hl : n + m ≤ 1000000) : CMulW x y := wide_mul h k h0 h1 hl
theorem len_app (x y : Str) : (x ++ y).length = x.length + y.length := by
  obtain ⟨a⟩ := x
  obtain ⟨b⟩ := y
  show (a ++ b).size = _
  simp [Str.length]
theorem size_ok {n : Nat} (h : n ≤ 100000) : n ≤ sizeLine := by rw [sizeLine_eq]; omega
def FeedAt (H : Hp) (a : Addr) : Prop := ∃ x y : Int, H a = some (.lst [.int x, .int y]) ∧ 0 ≤ y ∧ y ≤ 2147483648
/-- behind a draw: all but the feed stands -/
structure Dr (a : Addr) (H H' : Hp) : Prop where
  fd : FeedAt H' a
  sm : ∀ b o, b ≠ a → H b = some o → H' b = some o
theorem Dr.trans {a : Addr} {H H1 H2 : Hp} (x : Dr a H H1) (y : Dr a H1 H2) : Dr a H H2 := ⟨y.fd, fun b o n e => y.sm b o n (x.sm b o n e)⟩
def spFeed (K : PySem.W.Frag) : Sp := fun vs H Q _ => ∃ (a : Addr) (ns : List Int) (k : Nat), vs = [.ref a, .int k] ∧ SqL K H a (ns.map V.int) ∧ ns.length ≤ 63 ∧ k < 64 ∧
  ∀ (p : Addr) (H' : Hp), H p = none → Same H H' → FeedAt H' p → Q (.ref p) H'
def spTake : Sp := fun vs H Q _ => ∃ (a : Addr) (m : Int), vs = [.ref a, .int m] ∧ FeedAt H a ∧ 0 < m ∧ Sm 200 m ∧ ∀ (r : Int) (H' : Hp), 0 ≤ r → r < m → Dr a H H' → Q (.int r) H'
theorem same_new {H : Hp} {p : Addr} {o : HO} (h : H p = none) : Same H (upd H p o) := fun b u e => by
  rw [upd_ne (ne_of_none e h)]
  exact e
end L3

/-! repr of data of any kind; data in a heap that has grown -/
namespace L3
open PySem PySem.Spec PyProof.Rows L2
def rtext : PyData → Str
  | .none => "None"
  | .bool b => boolText b
  | .int i => Str.ofString (toString i)
  | .str x => reprText x
  | d => d.shown
structure FineB (d : PyData) : Prop where
  sh : d.showable = true
  nd : d.hasDict = false
  dp : d.depth ≤ 60
  sz : d.shown.length ≤ sizeLine
def Fine : PyData → Prop
  | .none => True
  | .bool _ => True
  | .int i => i.natAbs.log2 < 1920
  | .str x => (reprText x).length ≤ sizeLine
  | d => FineB d
def rRepr (K : PySem.W.Frag) : List V → Hp → VK → Prop := fun xs H Q => ∃ (x : V) (d : PyData), xs = [x] ∧ Dp K H x d ∧ Fine d ∧ Q (.str (rtext d)) H
theorem call_repr {X : Cx} (g : Calm X.A) (hu : X.A.units + 64 < cLine) : CallR X (.builtin "repr") (rRepr X.K) := by
  intro pins s σ H xs us Q I rx h
  obtain ⟨x, d, rfl, hd, hf, q⟩ := h
  cases hd with
  | non =>
    obtain ⟨u, rfl, r⟩ := vals1 rx
    cases r
    exact PySem.P.repr_of_none ⟨.str "None", H, I.tok _, ⟨_, rfl⟩, q⟩
  | bl b =>
    obtain ⟨u, rfl, r⟩ := vals1 rx
    cases r
    exact PySem.P.repr_of_bool ⟨.str (boolText b), H, I.tok _, ⟨_, rfl⟩, q⟩
  | int i =>
    obtain ⟨u, rfl, t, rfl⟩ := vals1 rx
    exact PySem.P.repr_of_int hf ⟨.str _, H, I.tok _, ⟨_, rfl⟩, q⟩
  | str y =>
    obtain ⟨u, rfl, t, rfl⟩ := vals1 rx
    exact PySem.P.repr_of_str ⟨.str _, H, I.tok _, ⟨_, rfl⟩, q⟩ hf
  | @lst a ys ds hs ha =>
    have f : FineB (.list ds) := hf
    exact call_reprD g hu pins s σ H _ us Q I rx ⟨_, _, rfl, .lst hs ha, ⟨a, rfl⟩, f.sh, f.nd, f.dp, f.sz, q⟩
  | @tup a ys ds hs ha =>
    have f : FineB (.tuple ds) := hf
    exact call_reprD g hu pins s σ H _ us Q I rx ⟨_, _, rfl, .tup hs ha, ⟨a, rfl⟩, f.sh, f.nd, f.dp, f.sz, q⟩
theorem Same.seqT {K : PySem.W.Frag} {H H' : Hp} {a : Addr} {xs : List V} (e : Same H H') (h : SqT K H a xs) : SqT K H' a xs := by
  rcases h with (h | ⟨o, h⟩) | h
  · exact .inl (.inl (e _ _ h))
  · exact .inl (.inr ⟨o, e _ _ h⟩)
  · exact .inr h
mutual
theorem dp_keep {K : PySem.W.Frag} {H H' : Hp} (k : ∀ a xs, SqL K H a xs → SqL K H' a xs) (kt : ∀ a xs, SqT K H a xs → SqT K H' a xs) : ∀ (d : PyData) (v : V), Dp K H v d → Dp K H' v d
  | .none, _, .non => .non
  | .bool b, _, .bl _ => .bl b
  | .int i, _, .int _ => .int i
  | .str x, _, .str _ => .str x
  | .list ds, _, .lst hs ha => .lst (k _ _ hs) (dpAll_keep k kt ds _ ha)
  | .tuple ds, _, .tup hs ha => .tup (kt _ _ hs) (dpAll_keep k kt ds _ ha)
theorem dpAll_keep {K : PySem.W.Frag} {H H' : Hp} (k : ∀ a xs, SqL K H a xs → SqL K H' a xs) (kt : ∀ a xs, SqT K H a xs → SqT K H' a xs) : ∀ (ds : List PyData) (vs : List V), DpAll K H vs ds → DpAll K H' vs ds
  | [], _, .nil => .nil
  | d :: ds, _, .cons h hs => .cons (dp_keep k kt d _ h) (dpAll_keep k kt ds _ hs)
end
theorem Dp.same {K : PySem.W.Frag} {H H' : Hp} {v : V} {d : PyData} (e : Same H H') (h : Dp K H v d) : Dp K H' v d := dp_keep (fun _ _ => e.seq) (fun _ _ => Same.seqT e) d v h
/-- a reading may ask for more than the rule does -/
theorem pe_imp {X : Cx} {e : Expr} {t t' : TE} (h : PE X e t) (i : ∀ σ H Q, t' σ H Q → t σ H Q) : PE X e t' := ⟨fun pins s σ H Q I q => h.run pins s σ H Q I (i σ H Q q)⟩
theorem pa_imp {X : Cx} {es : List Expr} {t t' : TA} (h : PA X es t) (i : ∀ σ H Q, t' σ H Q → t σ H Q) : PA X es t' := ⟨fun pos pins s σ H Q I q => h.run pos pins s σ H Q I (i σ H Q q)⟩
/-- _law_same -/
def spSame (K : PySem.W.Frag) : Sp := fun vs H Q _ => ∃ (x y : V) (d e : PyData), vs = [x, y] ∧ Dp K H x d ∧ Dp K H y e ∧ Fine d ∧ Fine e ∧ Q (.bl (decide (V.str (rtext d) = V.str (rtext e)))) H
end L3

/-! own exceptions over ValueError or KeyError: called; their built-in __init__ by super(); their first field. KeyError's __new__ is LookupError's, its __init__ its own -/
namespace L3
open PySem PySem.Spec PySem.W PySem.Calls
open PySem.HandSPX (excO)
abbrev keTail : List Value := [.type "KeyError", .type "LookupError", .type "Exception", .type "BaseException", .type "object"]
theorem kxs_KeyError : KxsFacts "KeyError" "KeyError.__init__" := ⟨by show builtinType _ = _; rw [builtinType_eq_fast]; kernel_rfl, by first | kernel_rfl | rfl⟩
theorem pass_KeyError (self : Value) : refuseLoop self "__setattr__" keTail = pure () := by kernel_rfl
/-- a built-in exception's __init__ -/
structure InitF (T i : String) : Prop where
  kind : builtinKind i = some .slot
  row : Manifest.signature? i = some ⟨.positional, "*", T, .self, [⟨"args", .varPos, false⟩]⟩
  star : (T != "*") = true
  plain : plainId i = true
  entry : entryFor table i = some Builtin.«BaseException.__init__»
theorem initF_of {T n i : String} (F : ExcCallFacts T n i) : InitF T i := ⟨F.initKind, F.initRow, F.noStar, F.init.plain, F.initEntry⟩
theorem initF_KeyError : InitF "KeyError" "KeyError.__init__" where
  kind := by kernel_rfl
  row := by kernel_rfl
  star := by decide +kernel
  plain := by decide +kernel
  entry := entryFor_alias (id' := "BaseException.__init__") (by rw [fastTable_eq_tree]; kernel_rfl) (by first | rfl | decide +kernel) (by decide +kernel) (by rw [fastTable_eq_tree]; kernel_rfl)
section
variable {prog : Program} {w : World} {A : Around} {E : Value → Shared → Prop} {h : Heap} {g : Array GenState} {d : Drawn} {t : Nat} {os : OsState} {nm q : Str} {C N : Addr} {bs bm : List Value} {hdct : Bool} {sn : List Str} {sub : List Value} {ab : Bool} {col : Option Bool} {dd : Option Addr} {k0 k1 k2 k3 k5 : Option Value} {T newId i : String} {us : List Value}
theorem bound_check (F : InitF T i) {e : Addr} {oe : Obj} {Q : Unit → Shared → Prop} (hC : h.get? C = some (excClassObj nm q C N bs bm hdct sn sub ab col dd k0 k1 k2 k3 k5 newId)) (he : h.get? e = some oe) (hcls : oe.cls = .ref C) (hq : Q () ⟨h, g, d, t, os⟩) :
    wpAny (model prog w) A (checkBoundCall i ⟨.ref e :: us, []⟩) Q E ⟨h, g, d, t, os⟩ := by
  have star := F.star
  simp only [checkBoundCall, F.kind, F.row]
  repeat (first
    | (with_reducible refine wpAny_loadPart_at he ?_
       rw [hcls])
    | with_reducible refine wpAny_loadPart_at hC ?_
    | wp_step)
  refine wpAny_onRaise ?_
  have e0 : ∀ (a b : String) (n : Nat), Bind.check ⟨.positional, "*", T, .self, [⟨"args", .varPos, false⟩]⟩ a b n (List.map (fun x => x.fst) ({ pos := Value.ref e :: us } : Args).kw) = pure () := fun a b n => check_star_args _ _ _ _ _ _
  rw [e0]
  exact wpAny_pure hq
/-- the built-in __init__, bound to the exception, called -/
theorem call_mw (F : InitF T i) {u e t0 : Addr} {Q : Value → Shared → Prop} (hC : h.get? C = some (excClassObj nm q C N bs bm hdct sn sub ab col dd k0 k1 k2 k3 k5 newId)) (he : h.get? e = some (excO C t0)) (hu : h.get? u = some (kxs_mw i e)) (hus : us.length ≤ sizeLine)
    (hq : ∀ h' t1, (∀ b o, b ≠ e → h.get? b = some o → h'.get? b = some o) → h'.get? e = some (excO C t1) → Q .none ⟨h', g, d, t, os⟩) : wpAny (model prog w) A (call (.ref u) us) Q E ⟨h, g, d, t, os⟩ := by
  have mw : (Value.type "method-wrapper" == Value.type "method" || Value.type "method-wrapper" == Value.type "builtin_function_or_method" || Value.type "method-wrapper" == Value.type "method-wrapper") = true := by decide
  refine wpAny_call (codeAny_of_tree ?_)
  show wpAny _ A.in1 (callAny (.ref u) ⟨us, []⟩) _ _ _
  simp only [callAny]
  refine wpAny_bind (wpAny_load hu ?_)
  simp only [kxs_mw, mw, if_true]
  refine KFB.if_so (by decide) (wpAny_bind (bound_check F hC he rfl (wpAny_bind (wpAny_pure (wpAny_pure ⟨plainId_quiet F.plain _, codeAny_builtin F.entry ?_⟩)))))
  exact exc_init_tree (cls := .ref C) (t0 := t0) (dv := none) (c2 := .none) (c3 := .none) (b4 := .bool false) he hus fun h' k e' _ => hq h' _ k e'
end
/-- what is asked of the built-in classes above an own one, when it is called -/
structure Above (B : String) (bm : List Value) : Prop where
  yes : bm.contains (.type B) = true
  noA : bm.contains (.type "AttributeError") = false
  noN : bm.contains (.type "NameError") = false
theorem above_ke : Above "LookupError" keTail := ⟨by decide +kernel, by decide +kernel, by decide +kernel⟩
section
variable {prog : Program} {w : World} {A : Around} {E : Value → Shared → Prop} {R : Result → Shared → Prop} {h : Heap} {g : Array GenState} {d : Drawn} {t : Nat} {os : OsState}
variable {nm q : Str} {C N : Addr} {bs bm bmB : List Value} {hdct : Bool} {sn : List Str} {sub : List Value} {ab : Bool} {col : Option Bool} {dd : Option Addr} {k0 k1 k2 k3 k5 : Option Value} {B newId initId : String} {us : List Value}
theorem with_own {v : Value} {b : Bool} (C : Addr) (hne : (v == Value.ref C) = false) (hb : bm.contains v = b) : (Value.ref C :: bm).contains v = b := by
  rw [List.contains_cons, hb, hne, Bool.false_or]
theorem above_check (F : ExcBaseFacts B newId initId bmB) (T : Above B bm) {Q : Unit → Shared → Prop} (hC : h.get? C = some (excClassObj nm q C N bs bm hdct sn sub ab col dd k0 k1 k2 k3 k5 newId)) (hq : Q () ⟨h, g, d, t, os⟩) :
    wpAny (model prog w) A (checkBuiltinCall newId ⟨.ref C :: us, []⟩) Q E ⟨h, g, d, t, os⟩ := by
  have c1 := with_own C rfl T.yes
  have star := F.noStar
  simp only [checkBuiltinCall, F.newKind, F.newSplit, F.newRow]
  repeat (first
    | refine wpAny_loadPart_at hC ?_
    | (refine wpAny_isSubtype_exc hC ?_
       rw [c1])
    | refine wpAny_staticBase_exc hC ?_
    | refine wpAny_madeBy_exc hC ?_
    | simp only [bne_self_eq_false, Bool.false_eq_true, if_false]
    | wp_step)
  exact hq
theorem above_new (F : ExcBaseFacts B newId initId bmB) (T : Above B bm) (hC : h.get? C = some (excClassObj nm q C N bs bm hdct sn sub ab col dd k0 k1 k2 k3 k5 newId)) (hus : us.length ≤ sizeLine)
    (hq : R (.ok (.ret (.ref (h.objs.size + 1)))) ⟨(h.push (W.kdv_tup us)).push (excO C h.objs.size), g, d, t, os⟩) : codeAny (model prog w) A (.builtin newId ⟨.ref C :: us, []⟩) R ⟨h, g, d, t, os⟩ := by
  have ends := F.ends
  have c1 := with_own C rfl T.yes
  have c2 := with_own C rfl T.noA
  have c3 := with_own C rfl T.noN
  refine codeAny_builtinAt F.entry ?_
  unfold Builtin.«BaseException.__new__»
  refine wpAt_bind ?_
  show wpAt _ _ _ (stack >>= _) _ _ _
  refine wpAt_bind (wpAt_stack fun p below => wpAt_of_wpAny ?_)
  wp_walk
  refine wpAt_of_wpAny ?_
  rw [F.owner]
  repeat (first
    | with_reducible refine wpAny_madeHere_exc F.canon hC ?_
    | with_reducible refine wpAny_loadPart_at hC ?_
    | (with_reducible refine wpAny_isSubtype_exc hC ?_
       first | rw [c1] | rw [c2] | rw [c3])
    | wp_step)
  show R _ _
  rw [Heap.size_push]
  exact hq
theorem above_type (F : ExcBaseFacts B newId initId bmB) (T : Above B bm) {fI : Addr} {Q : Fin → Shared → Prop} (hC : h.get? C = some (excClassObj nm q C N bs bm hdct sn sub ab col dd k0 k1 k2 k3 k5 newId)) (hi : Looks (model prog w) h (typeLookup (.ref C) "__init__") (some (.ref fI)))
    (hb : ∀ self, Looks (model prog w) h (bindSpecial (.ref fI) self) (.ref fI, [self])) (hus : us.length ≤ sizeLine)
    (hq : codeAny (model prog w) A (.call (.ref fI) ⟨.ref (h.objs.size + 1) :: us, []⟩)
      (fun r s' => match r with | .ok (.ret v) => v = .none ∧ Q (.done (.ret (.ref (h.objs.size + 1)))) s' | .ok _ => False | .error e => E e s') ⟨(h.push (W.kdv_tup us)).push (excO C h.objs.size), g, d, t, os⟩) :
    wpAny (model prog w) A (Builtin.«type.__call__» ⟨.ref C :: us, []⟩) Q E ⟨h, g, d, t, os⟩ := by
  repeat (first | with_reducible refine wpAny_loadPart_at hC ?_ | with_reducible refine wpAny_madeBy_exc hC ?_ | wp_step)
  refine codeAny_call_builtin_code (Code.quiet_builtin _ F.quiet) (above_check F T hC (above_new F T hC hus ?_))
  show wpAny _ _ _ _ _ _
  have up : ∀ b o, h.get? b = some o → ((h.push (W.kdv_tup us)).push (excO C h.objs.size)).get? b = some o := fun b o e => Heap.get?_push_of_some _ (Heap.get?_push_of_some _ e)
  have there : ((h.push (W.kdv_tup us)).push (excO C h.objs.size)).get? (h.objs.size + 1) = some (excO C h.objs.size) := by heap_get
  have cC := up _ _ hC
  have c0 : (Value.ref C :: bm).contains (.ref C) = true := by simp
  have look := hi.keeps up
  have bind := (hb (.ref (h.objs.size + 1))).keeps up
  unfold isInstance
  repeat (first
    | with_reducible refine wpAny_loadPart_at there ?_
    | (with_reducible refine wpAny_isSubtype_exc cC ?_
       rw [c0])
    | wp_step)
  show wpAny _ _ (typeLookup (.ref C) _) _ _ _
  refine look.at (wpAny_holding (wpAny_bind (bind.at (wpAny_bind (wpAny_call (codeAny_mono hq fun r s' z => ?_))))))
  match r, z with
  | .error e, z => exact z
  | .ok .next, z => exact z.elim
  | .ok .brk, z => exact z.elim
  | .ok .cont, z => exact z.elim
  | .ok (.ret v), ⟨hv, z⟩ =>
    subst hv
    first
      | exact wpAny_pure (wpAny_pure z)
      | (wp_walk; exact z)
theorem above_call (F : ExcBaseFacts B newId initId bmB) (T : Above B bm) {fI : Addr} (hC : h.get? C = some (excClassObj nm q C N bs bm hdct sn sub ab col dd k0 k1 k2 k3 k5 newId)) (hi : Looks (model prog w) h (typeLookup (.ref C) "__init__") (some (.ref fI)))
    (hb : ∀ self, Looks (model prog w) h (bindSpecial (.ref fI) self) (.ref fI, [self])) (hus : us.length ≤ sizeLine)
    (hq : codeAny (model prog w) (A.under (.builtin "type.__call__" ⟨.ref C :: us, []⟩)) (.call (.ref fI) ⟨.ref (h.objs.size + 1) :: us, []⟩) (W.InitBack (h.objs.size + 1) R) ⟨(h.push (W.kdv_tup us)).push (excO C h.objs.size), g, d, t, os⟩) :
    codeAny (model prog w) A (.call (.ref C) ⟨us, []⟩) R ⟨h, g, d, t, os⟩ := by
  have look := tc_lookup
  have bind := tc_bind (.ref C)
  have isT : (⟨h, g, d, t, os⟩ : Shared).TypeIs (.ref C) "type" := ⟨_, hC, rfl⟩
  refine codeAny_of_tree ?_
  show wpAny _ _ (callAny (.ref C) _) _ _ _
  repeat (any_goals (first | assumption | with_reducible refine wpAny_loadPart_at hC ?_ | wp_step))
  refine ⟨rfl, codeAny_call_builtin_at (Code.quiet_builtin _ (by decide +kernel)) entry_typeCall (wpAny_check_type_call_sub hC (above_type F T hC hi hb hus (codeAny_mono hq fun r s' z => ?_)))⟩
  match r, z with
  | .error e, z => exact z
  | .ok .next, z => exact z
  | .ok .brk, z => exact z
  | .ok .cont, z => exact z
  | .ok (.ret v), z => exact z
end

section
open Builtin Builtin.ObjectAttr
variable {prog : Program} {w : World} {A : Around} {E : Value → Shared → Prop} {R : Result → Shared → Prop} {hp : Heap} {g : Array GenState} {d : Drawn} {t : Nat} {os : OsState} {K : Frag} {name : Str} {tk : Tok} {v : Value} {x C : Addr} {fv : Array Value} {cd : ClassData}
/-- the first field of an own exception, whatever built-in class stands above -/
theorem first_field (X : K.In hp) (hx : hp.get? x = some { cls := .ref C, data := .fields fv }) (hcd : clsIn K C = some cd) (pass : refuseLoop (.ref x) "__setattr__" cd.mro = pure ()) (hne : cd.mro.isEmpty = false) (hob : cd.mro.contains (.type "object") = true) (hh : cd.hasDict = true)
    (ha : findIn K (.ref C) name = some none)
    (hq : ∀ h' tk' dx, (∀ b o, b ≠ x → hp.get? b = some o → h'.get? b = some o) → hp.objs.size ≤ dx → dx ≠ x → h'.get? x = some { cls := .ref C, dict := some dx, data := .fields fv } → h'.Ns1 dx (fun y => if y = name then some v else none) →
      R (.ok (.ret .none)) ⟨h', g, d, tk', os⟩) : codeAny (model prog w) A (.call (.builtin "object.__setattr__") ⟨[.ref x, .str name tk, v], []⟩) R ⟨hp, g, d, t, os⟩ := by
  have SF := F.store_object
  have J : InstAt hp x { cls := .ref C, data := .fields fv } C none := ⟨hx, rfl, rfl, trivial⟩
  have xs : x ≠ hp.objs.size := Nat.ne_of_lt (Heap.lt_size hx)
  have isO : Looks (model prog w) hp (isInstance (.ref x) (.type "object")) true := J.type.andThen (looks_mroIn X (by unfold mroIn; rw [hcd, Option.bind_some, if_neg (by rw [hne]; decide), hob]))
  have mro : Looks (model prog w) hp (mroOf (.ref C)) cd.mro := (looks_clsIn X hcd).andThen .now
  have noT : Looks (model prog w) hp (storeTaker? none) none := .now
  have data : Looks (model prog w) hp (classData C) cd := looks_clsIn X hcd
  refine codeAny_call_builtin SF.slot.plain SF.entry (@check_slot (model prog w) _ _ ⟨hp, g, d, t, os⟩ "object.__setattr__" "object" "__setattr__" (.ref x) [.str name tk, v] [] _ SF.kind SF.split isO (SF.args (.ref x) (.str name tk) v) ?_)
  rw [osa_eq, refuse_eq]
  refine wpAny_bind (wpAny_bind (J.type.at (wpAny_bind (mro.at ?_))))
  rw [pass]
  refine wpAny_pure (wpAny_bind (J.type.at (wpAny_bind ((looks_findIn X ha).at (wpAny_bind (noT.at ?_))))))
  show wpAny _ _ (storeInOwnDict (.ref x) (.ref C) (.str name tk) name v false) _ _ _
  obtain ⟨nm, bs, mr, ns, qn, hd, sn, sb, ab, col, del⟩ := cd
  dsimp only at hh
  subst hh
  unfold storeInOwnDict ownDictForStores
  repeat (first
    | with_reducible refine PySem.HandSPX.store_in_new ?_ ?_
    | with_reducible refine wpAny_loadPart_at hx ?_
    | with_reducible refine data.at ?_
    | wp_step)
  · exact ⟨_, #[], _, (Heap.get?_update_ne _ _ _ _ xs.symm).trans (Heap.get?_push_at rfl rfl), rfl, fun e he => absurd he (by simp), fun _ => rfl⟩
  · intro h' tk' hn hs
    have hx1 : (hp.push { cls := .type "dict", data := .dict #[] }).get? x = some { cls := .ref C, data := .fields fv } := Heap.get?_push_of_some _ hx
    exact hq h' tk' hp.objs.size (fun b o hb ho => (hs.2 b (Nat.ne_of_lt (Heap.lt_size ho))).trans ((Heap.get?_update_ne _ _ _ _ hb).trans (Heap.get?_push_of_some _ ho))) (Nat.le_refl _) xs.symm ((hs.2 x xs).trans (Heap.get?_update_self _ hx1 rfl)) hn
end
end L3

/-! own exceptions whose __init__ says super().__init__('..') and then stores fields -/
namespace L3
open PySem PySem.Spec PySem.W PySem.Calls PyProof.Rows
open PySem.HandSPX (excO refsVE refsVE_contains veTail)

/-- what stands around the line super().__init__('..') in the __init__ of the class at C, for the object at x -/
structure Sup (K : Frag) (prog : Program) (mg : Str → Option Value) (T i newId : String) (env : Env) (fI cda cc C x : Addr) (fd : FuncData) (h : Heap) : Prop where
  kin : K.In h
  glob : h.Ns mainGlobals mg
  blt : ∃ mb, h.Ns builtinsNs mb ∧ ∀ x : Str, x ≠ "__name__" → mb x = bootBuiltins x
  noS : mg "super" = none
  ks : env.kindOf "super" = some .globalImplicit
  kc : env.kindOf "__class__" = some .free
  kk : env.scope.kind = .function
  fu : env.func = some fI
  co : env.code = .ref cda
  gl : env.globals = mainGlobals
  bl : env.builtins = builtinsNs
  cell : env.cells.lookup ("__class__" : Str) = some cc
  fO : ∃ of, h.get? fI = some of ∧ of.data = .func fd
  ar : ∃ ar : Arg, (fd.params.posonlyargs ++ fd.params.args).head? = some ar ∧ env.kindOf ar.arg = some .local ∧ ∃ m, h.Ns env.locals m ∧ m ar.arg = some (.ref x)
  cO : ∃ oc vs file tf, h.get? cda = some oc ∧ oc.data = .fields vs ∧ vs[2]? = some (.str file tf) ∧ ((prog.main.file : Str) == file) = true
  top : (prog.main.scope.names.lookup ("super" : Str)).isSome = false
  ccO : h.IsCell cc (some (.ref C))
  cls : ∃ cd, clsIn K C = some cd ∧ alongIn K "__init__" ((cd.mro.dropWhile (· != .ref C)).drop 1) = some (some (.builtin i))
  obj : ∃ nm q N bs bm hdct sn sub ab col dd k0 k1 k2 k3 k5, h.get? C = some (excClassObj nm q C N bs bm hdct sn sub ab col dd k0 k1 k2 k3 k5 newId)
  subT : subIn K (.ref C) (.type T) = some true
  subC : subIn K (.ref C) (.ref C) = some true
  opq : nsIn K cStatics "thirdparty.any" = some none
  exO : ∃ t0, h.get? x = some (excO C t0)
section
variable {prog : Program} {w : World} {A : Around} {E : Value → Shared → Prop} {K : Frag} {mg : Str → Option Value} {env : Env} {fI cda cc C x : Addr} {fd : FuncData} {s : Shared} {body : List Stmt} {m : Str} {j : Nat} {pl : Sem Bool} {p0 p1 p2 p3 p4 p5 : Pos} {T i newId : String}
theorem sup_step (FB : InitF T i) (KF : KxsFacts T i) (S : Sup K prog mg T i newId env fI cda cc C x fd s.heap) {Q : Flow → Shared → Prop}
    (hq : ∀ h' tk t1, (∀ b o, b ≠ x → s.heap.get? b = some o → h'.get? b = some o) → h'.get? x = some (excO C t1) → Q .next { s with heap := h', toks := tk }) 
    (hi : interactive env = false := by rfl) (hs : swapsWith (.Call (.Attribute (.Call (.Name "super" p0) [] [] p1) "__init__" p2) [.Constant (.str m) j p3] [] p4) none p5.line env = pure false := by rfl)
    (he : eval (.Call (.Attribute (.Call (.Name "super" p0) [] [] p1) "__init__" p2) [.Constant (.str m) j p3] [] p4) env = (do
      let ov ← attributeBase (.Call (.Name "super" p0) [] [] p1) "__init__" env (eval (.Call (.Name "super" p0) [] [] p1) env)
      standAt p2.atName
      let (f, first) ← holding [ov] (getMethod ov "__init__" pl)
      callWith p4 f first (backTo p4 (starEach [.Constant (.str m) j p3] env)) []) := by rfl) :
    PySem.wpAt (model prog w) A (.func body env) (exec (.Expr (.Call (.Attribute (.Call (.Name "super" p0) [] [] p1) "__init__" p2) [.Constant (.str m) j p3] [] p4) p5) env) Q E s := by
  obtain ⟨of, hf, hfd⟩ := S.fO
  obtain ⟨ar, har, hka, ml, hnl, hml⟩ := S.ar
  obtain ⟨oc, vs, file, tf, hc1, hc2, hc3, hc4⟩ := S.cO
  obtain ⟨mb, hb, hbb⟩ := S.blt
  obtain ⟨cd, hcd, hal⟩ := S.cls
  obtain ⟨nm, q, N, bs, bm, hdct, sn, sub, ab, col, dd, k0, k1, k2, k3, k5, hC⟩ := S.obj
  obtain ⟨t0, hx⟩ := S.exO
  have kin := S.kin
  have hgl := S.glob
  have S_gl := S.gl
  have S_bl := S.bl
  have S_cc := S.ccO
  obtain ⟨hh, g, d, t, os⟩ := s
  dsimp only at *
  refine ks_wpAt_Expr_any ?_ hi hs
  refine ks_wpAt_MethodCall (pl := pl) ?_ he
  refine ks_wpAt_super_base S.ks S.kc (by decide) S.fu hf hfd har S.co hc1 hc2 hc3 hc4 S.top ?_
  refine ks_loadName_global S.kk S.ks (loadGlobal_builtin (env := env) (by rw [S_gl]; exact hgl) S.noS (by rw [S_bl]; exact hb) ((hbb _ (by decide +kernel)).trans (by decide +kernel : bootBuiltins "super" = some (.type "super"))) ⟨rfl, ?_⟩)
  refine wpAny_loadName_free S.kk S.kc S.cell S_cc ?_
  refine wpAny_loadName_local S.kk hka hnl hml ?_
  refine ks_wpAny_isType_cls hC rfl ⟨rfl, ?_⟩
  refine ks_wpAny_call_super hC rfl hx rfl (fun c e => by cases e) (looks_subIn kin S.subC) (fun h1 e1 k1' => ?_)
  have hx1 := k1' _ _ hx
  have kin1 : K.In h1 := kin.keeps k1'
  have hI1 : Looks (model prog w) h1 (isInstance (.ref x) (.type T)) true := by
    have I : InstAt h1 x (excO C t0) C none := ⟨hx1, rfl, rfl, trivial⟩
    exact I.type.andThen (looks_subIn kin1 S.subT)
  have hxC : x ≠ C := by
    rintro rfl
    rw [hC] at hx
    have y := Option.some.inj hx
    cases congrArg Obj.data y
  refine kxs_getMethod KF e1 (looks_opaque kin1 S.opq) (l₀ := cd.mro) ((looks_clsIn kin1 hcd).andThen .now) rfl kin1 hal hI1 hxC (by decide) ?_
  have hu : (h1.push (kxs_mw i x)).get? h1.objs.size = some (kxs_mw i x) := Heap.get?_push_at rfl rfl
  have k2' : ∀ b o, hh.get? b = some o → (h1.push (kxs_mw i x)).get? b = some o := fun b o e => Heap.get?_push_of_some _ (k1' b o e)
  refine kxs_callWith (i := i) (x := x) rfl ?_
  refine evalArgs_plain (spliced_cons (Constant_str (k := j) (pos := p3) (spliced_nil ⟨hu, ?_⟩)))
  refine call_mw FB (k2' _ _ hC) (k2' _ _ hx) hu (show 1 ≤ sizeLine by decide) (fun h' t1 k3' e3 => ?_)
  refine hq h' _ t1 (fun b o hb ho => k3' b o hb (k2' b o ho)) e3
end

/-- a class over ValueError -/
def OverVE (K : Frag) (C : Addr) : Prop := ∃ cd, clsIn K C = some cd ∧ refsVE cd.mro = true ∧ cd.hasDict = true
/-- the object with its fields' dict -/
abbrev excD (C t dx : Addr) : Obj := { cls := .ref C, dict := some dx, data := .fields #[.ref t, .none, .none, .none, .bool false, .none] }
/-- what the class says of stores -/
structure Sto (K : Frag) (C : Addr) : Prop where
  cls : ∃ cd, clsIn K C = some cd ∧ (∀ self, refuseLoop self "__setattr__" cd.mro = pure ()) ∧ cd.mro.isEmpty = false ∧ cd.mro.contains (.type "object") = true ∧ cd.hasDict = true
  sa : findIn K (.ref C) "__setattr__" = some (some (.builtin "object.__setattr__"))
section
variable {prog : Program} {w : World} {A : Around} {E : Value → Shared → Prop} {K : Frag} {env : Env} {C x t dx : Addr} {s : Shared} {body : List Stmt} {f y : Str} {u : Value} {p5 p6 p7 p8 : Pos} {ml m0 : Str → Option Value} {nl : List Str}
theorem fld_eval {Q : Value → Shared → Prop} {c : Code} (hk : env.scope.kind = .function) (hy : env.kindOf y = some .local) (hn : s.heap.Ns env.locals ml) (hv : ml y = some u) (hd : (y == ("__debug__" : Str)) = false) (h : Q u s) : PySem.wpAt (model prog w) A c (eval (.Name y p7) env) Q E s :=
  wpAt_of_wpAny (wpAny_Name (wpAny_loadName_local hk hy hn hv h) hd)
theorem sto_ve (h : OverVE K C) (sa : findIn K (.ref C) "__setattr__" = some (some (.builtin "object.__setattr__"))) : Sto K C := by
  obtain ⟨cd, h1, h2, h3⟩ := h
  exact ⟨⟨cd, h1, fun self => PySem.HandSPX.refsVE_pass self _ h2, PySem.HandSPX.refsVE_ne h2, (refsVE_contains "object" _ h2).trans (by decide +kernel), h3⟩, sa⟩
/-- self.f = y, the first field -/
theorem fld1 {Q : Flow → Shared → Prop} (T : Sto K C) (kin : K.In s.heap) (hx : s.heap.get? x = some (excO C t)) (hno : findIn K (.ref C) f = some none) (hk : env.scope.kind = .function) (hS : env.kindOf "self" = some .local) (hy : env.kindOf y = some .local)
    (hn : s.heap.Ns env.locals ml) (hself : ml "self" = some (.ref x)) (hv : ml y = some u) (hd : (y == ("__debug__" : Str)) = false)
    (hq : ∀ h' tk dx, (∀ b o, b ≠ x → s.heap.get? b = some o → h'.get? b = some o) → s.heap.objs.size ≤ dx → dx ≠ x → h'.get? x = some (excD C t dx) → h'.Ns1 dx (fun z => if z = f then some u else none) → Q .next { s with heap := h', toks := tk })
    (hs : swapsWith (.Name y p7) (some (.Attribute (.Name "self" p5) f p6)) p8.line env = pure false := by rfl) :
    PySem.wpAt (model prog w) A (.func body env) (exec (.Assign [.Attribute (.Name "self" p5) f p6] (.Name y p7) p8) env) Q E s := by
  obtain ⟨cd, hcd, hpa, hem, hob, hdi⟩ := T.cls
  refine ks_wpAt_Assign_Attr (fld_eval hk hy hn hv hd ?_) hs
  refine wpAny_Name (wpAny_loadName_local hk hS hn hself ?_) (by decide)
  refine set_plain kin (ox := excO C t) (od := none) ⟨hx, rfl, rfl, trivial⟩ T.sa ?_
  obtain ⟨hh, g, d, tk0, os⟩ := s
  exact first_field kin hx hcd (hpa _) hem hob hdi hno fun h' tk' dx k n1 n2 e1 e2 => hq h' tk' dx k n1 n2 e1 e2
/-- self.f = y, a further field -/
theorem fld2 {Q : Flow → Shared → Prop} (T : Sto K C) (V : OverVE K C) (kin : K.In s.heap) (hx : s.heap.get? x = some (excD C t dx)) (hns : s.heap.Ns1 dx m0) (hw : Within m0 nl) (hz : nl.length ≤ 1000) (hno : findIn K (.ref C) f = some none) (hk : env.scope.kind = .function) (hS : env.kindOf "self" = some .local) (hy : env.kindOf y = some .local)
    (hn : s.heap.Ns env.locals ml) (hself : ml "self" = some (.ref x)) (hv : ml y = some u) (hd : (y == ("__debug__" : Str)) = false)
    (hq : ∀ h' tk, (∀ b o, b ≠ dx → s.heap.get? b = some o → h'.get? b = some o) → h'.Ns1 dx (fun z => if z = f then some u else m0 z) → Q .next { s with heap := h', toks := tk })
    (hs : swapsWith (.Name y p7) (some (.Attribute (.Name "self" p5) f p6)) p8.line env = pure false := by rfl) :
    PySem.wpAt (model prog w) A (.func body env) (exec (.Assign [.Attribute (.Name "self" p5) f p6] (.Name y p7) p8) env) Q E s := by
  obtain ⟨cd, hcd, hre, hdi⟩ := V
  obtain ⟨oD, _, _, hoD, _, _⟩ := hns.count hw
  refine ks_wpAt_Assign_Attr (fld_eval hk hy hn hv hd ?_) hs
  refine wpAny_Name (wpAny_loadName_local hk hS hn hself ?_) (by decide)
  refine set_plain kin (ox := excD C t dx) (od := some oD) ⟨hx, rfl, rfl, hoD⟩ T.sa ?_
  obtain ⟨hh, g, d, tk0, os⟩ := s
  exact PySem.OEX.osa_old kin hx hns hw hz hcd hre hdi hno fun h' tk' k n => hq h' tk' k n
end
end L3

namespace L3
open PySem PySem.Spec PySem.W PySem.Calls PyProof.Rows L2
open PySem.HandSPX (excO refsVE refsVE_contains veTail)

theorem lk_cons {α : Type} (f g : Str) (y : α) (l : List (Str × α)) : ((f, y) :: l).lookup g = if g = f then some y else l.lookup g := by
  by_cases h : g = f
  · rw [if_pos h, h, List.lookup_cons]
    simp
  · have e : (g == f) = false := by simp [h]
    rw [List.lookup_cons, e, if_neg h]
/-- what the written part says of an __init__ that closes over __class__ -/
structure SupK (K : Frag) (prog : Program) (mg : Str → Option Value) (T i newId : String) (C fI cc cda : Addr) (fd : FuncData) (qual : Str) : Prop where
  noS : mg "super" = none
  fO : ∃ oc od osl, K.lookup fI = some ⟨oc, od, .func fd, osl⟩
  cO : ∃ oc od vs osl file tf, K.lookup cda = some ⟨oc, od, .fields vs, osl⟩ ∧ vs[2]? = some (.str file tf) ∧ ((prog.main.file : Str) == file) = true
  cIn : codeIn K (.ref cda) qual = true
  top : (prog.main.scope.names.lookup ("super" : Str)).isSome = false
  ccO : ∃ oc od osl, K.lookup cc = some ⟨oc, od, .cell (some (.ref C)), osl⟩
  cls : ∃ cd, clsIn K C = some cd ∧ alongIn K "__init__" ((cd.mro.dropWhile (· != .ref C)).drop 1) = some (some (.builtin i))
  obj : ∃ nm q N bs bm hdct sn sub ab col dd k0 k1 k2 k3 k5, K.lookup C = some (excClassObj nm q C N bs bm hdct sn sub ab col dd k0 k1 k2 k3 k5 newId)
  subT : subIn K (.ref C) (.type T) = some true
  subC : subIn K (.ref C) (.ref C) = some true
  opq : nsIn K cStatics "thirdparty.any" = some none
  sto : Sto K C
/-- the module's facts at a state -/
structure Gnd (K : Frag) (mg : Str → Option Value) (h : Heap) : Prop where
  kin : K.In h
  glob : h.Ns mainGlobals mg
  blt : ∃ mb, h.Ns builtinsNs mb ∧ ∀ x : Str, x ≠ "__name__" → mb x = bootBuiltins x
  lim : h.NoLimit
theorem Gnd.keeps {K : Frag} {mg : Str → Option Value} {h h' : Heap} (x : Gnd K mg h) (k : ∀ b o, h.get? b = some o → h'.get? b = some o) : Gnd K mg h' :=
  let ⟨mb, b1, b2⟩ := x.blt
  ⟨x.kin.keeps k, x.glob.keeps k, ⟨mb, b1.keeps k, b2⟩, x.lim.keeps k⟩
theorem Gnd.of {X : Cx} {pins : List (Addr × Obj)} {σ : L2.St} {H : Hp} {s : Shared} (I : Inv X pins σ H s) : Gnd X.K X.mg s.heap :=
  let ⟨mb, b1, b2⟩ := I.mod.blt
  ⟨I.kIn, I.mod.glob.keeps I.bk, ⟨mb, b1.keeps I.bk, b2⟩, I.nolimit⟩
/-- an __init__ that stores its arguments in the fields fs of the exception it is called on -/
def InitOk (P : Program) (w : World) (K : Frag) (mg : Str → Option Value) (C fI : Addr) (fs : List Str) : Prop :=
  ∀ (A : Around) (hb : Heap) (s : Shared) (x t0 : Addr) (us : List Value) (R : Result → Shared → Prop), A.depth < recursionLimit → Gnd K mg hb → (∀ b o, hb.get? b = some o → s.heap.get? b = some o) → hb.get? x = none → s.heap.get? x = some (excO C t0) → us.length = fs.length →
    (∀ h' tk t1 dx m, (∀ b o, b ≠ x → s.heap.get? b = some o → h'.get? b = some o) → s.heap.get? dx = none → dx ≠ x → h'.get? x = some (excD C t1 dx) → h'.Ns1 dx m → (∀ z, m z = (fs.zip us).reverse.lookup z) → R (.ok (.ret .none)) { s with heap := h', toks := tk }) →
    codeAny (model P w) A (.call (.ref fI) ⟨.ref x :: us, []⟩) R s
section
variable {P : Program} {w : World} {K : Frag} {mg : Str → Option Value} {C fI cc cda : Addr} {qual : Str} {params : Arguments} {body : List Stmt} {scope : Scope} {dV kV doc pm ct : Value} {an : Option Addr} {T i newId : String}
abbrev initFn (qual : Str) (params : Arguments) (body : List Stmt) (scope : Scope) (dV kV doc pm : Value) (an : Option Addr) (cda : Addr) (ct : Value) (cc : Addr) : FuncData := ksFn "__init__" qual params body scope dV kV doc pm an (.ref cda) ct cc
/-- the environment of such a def's body -/
abbrev initEnv (qual : Str) (scope : Scope) (L f cda cc : Addr) : Env := ksEnv qual scope L f (.ref cda) cc
theorem sup_of {h : Heap} {L x t0 : Addr} {ml : Str → Option Value} (S : SupK K P mg T i newId C fI cc cda (initFn qual params body scope dV kV doc pm an cda ct cc) qual) (G : Gnd K mg h) (hn : h.Ns L ml) (hs : ml "self" = some (.ref x)) (hx : h.get? x = some (excO C t0))
    (ar : (params.posonlyargs ++ params.args).head?.map (·.arg) = some ("self" : Str)) (k1 : scope.names.lookup ("super" : Str) = some .globalImplicit) (k2 : scope.names.lookup ("__class__" : Str) = some .free) (k3 : scope.names.lookup ("self" : Str) = some .local) (k4 : scope.kind = .function) :
    Sup K P mg T i newId (initEnv qual scope L fI cda cc) fI cda cc C x (initFn qual params body scope dV kV doc pm an cda ct cc) h := by
  obtain ⟨oc, od, osl, fO⟩ := S.fO
  obtain ⟨oc2, od2, vs, osl2, file, tf, c1, c2, c3⟩ := S.cO
  obtain ⟨oc3, od3, osl3, ccO⟩ := S.ccO
  obtain ⟨nm, q, N, bs, bm, hdct, sn, sub, ab, col, dd, j0, j1, j2, j3, j5, hC⟩ := S.obj
  refine ⟨G.kin, G.glob, G.blt, S.noS, k1, k2, k4, rfl, rfl, rfl, rfl, rfl, ⟨_, G.kin _ _ fO, rfl⟩, ?_, ⟨_, vs, file, tf, G.kin _ _ c1, rfl, c2, c3⟩, S.top, ⟨_, G.kin _ _ ccO, rfl⟩, S.cls, ⟨nm, q, N, bs, bm, hdct, sn, sub, ab, col, dd, j0, j1, j2, j3, j5, G.kin _ _ hC⟩, S.subT, S.subC, S.opq, ⟨t0, hx⟩⟩
  show ∃ a : Arg, (params.posonlyargs ++ params.args).head? = some a ∧ _
  cases e : (params.posonlyargs ++ params.args).head? with
  | none => rw [e] at ar; cases ar
  | some a =>
    rw [e] at ar
    have ea : a.arg = "self" := Option.some.inj ar
    exact ⟨a, rfl, by rw [ea]; exact k3, ml, hn, by rw [ea]; exact hs⟩
/-- __init__(self, y): super().__init__('..'); self.f = y -/
theorem init1 {m f y : Str} {j : Nat} {pl : Sem Bool} {p0 p1 p2 p3 p4 p5 q5 q6 q7 q8 : Pos} (FB : InitF T i) (KF : KxsFacts T i)
    (S : SupK K P mg T i newId C fI cc cda (initFn qual params body scope dV kV doc pm an cda ct cc) qual)
    (hb : body = [.Expr (.Call (.Attribute (.Call (.Name "super" p0) [] [] p1) "__init__" p2) [.Constant (.str m) j p3] [] p4) p5, .Assign [.Attribute (.Name "self" q5) f q6] (.Name y q7) q8])
    (hf : findIn K (.ref C) f = some none) (ar : (params.posonlyargs ++ params.args).head?.map (·.arg) = some ("self" : Str))
    (k1 : scope.names.lookup ("super" : Str) = some .globalImplicit) (k2 : scope.names.lookup ("__class__" : Str) = some .free) (k3 : scope.names.lookup ("self" : Str) = some .local) (k4 : scope.kind = .function)
    (k5 : scope.names.lookup y = some .local) (k6 : scope.isCoroutine = false) (k7 : scope.isGenerator = false) (k8 : ∀ z ∈ scope.names, z.2 ≠ .cell) (ny : (y == ("self" : Str)) = false) (hd : (y == ("__debug__" : Str)) = false)
    (hbind : ∀ a u, bindArgs (initFn qual params body scope dV kV doc pm an cda ct cc) ⟨[a, u], []⟩ = pure [(("self" : Str), a), (y, u)])
    (hi : ∀ L, interactive (initEnv qual scope L fI cda cc) = false) (hs : ∀ L, swapsWith (.Call (.Attribute (.Call (.Name "super" p0) [] [] p1) "__init__" p2) [.Constant (.str m) j p3] [] p4) none p5.line (initEnv qual scope L fI cda cc) = pure false)
    (he : ∀ L, eval (.Call (.Attribute (.Call (.Name "super" p0) [] [] p1) "__init__" p2) [.Constant (.str m) j p3] [] p4) (initEnv qual scope L fI cda cc) = (do
      let ov ← attributeBase (.Call (.Name "super" p0) [] [] p1) "__init__" (initEnv qual scope L fI cda cc) (eval (.Call (.Name "super" p0) [] [] p1) (initEnv qual scope L fI cda cc))
      standAt p2.atName
      let (g, first) ← holding [ov] (getMethod ov "__init__" pl)
      callWith p4 g first (backTo p4 (starEach [.Constant (.str m) j p3] (initEnv qual scope L fI cda cc))) []))
    (hs2 : ∀ L, swapsWith (.Name y q7) (some (.Attribute (.Name "self" q5) f q6)) q8.line (initEnv qual scope L fI cda cc) = pure false) : InitOk P w K mg C fI [f] := by
  intro A hB s x t0 us R hr GB kB nB hx hl hq
  have G := GB.keeps kB
  match us, hl with
  | [u], _ =>
  obtain ⟨oc, od, osl, fO⟩ := S.fO
  refine ks_codeAny_call_defAt (fd := initFn qual params body scope dV kV doc pm an cda ct cc) (body := body) (binds := [(("self" : Str), .ref x), (y, u)]) hr (G.kin _ _ fO) rfl G.lim (codeRec_of G.kin S.cIn) rfl (.of_eq (hbind _ _)) k8 ?_ (fun h₀ hn k => ?_) k6 k7 k4
  · intro z hz
    rcases List.mem_cons.mp hz with rfl | hz
    · exact k3
    · rcases List.mem_cons.mp hz with rfl | hz
      · exact k5
      · cases hz
  · have hn' : h₀.Ns s.heap.objs.size (fun z => if z = y then some u else if z = "self" then some (.ref x) else none) := by
      have e : (fun z => List.lookup z [(("self" : Str), Value.ref x), (y, u)].reverse) = (fun z => if z = y then some u else if z = "self" then some (.ref x) else none) := by
        funext z
        show List.lookup z [(y, u), (("self" : Str), Value.ref x)] = _
        rw [lk_cons, lk_cons, List.lookup_nil]
      rw [← e]
      exact hn
    have ne : ¬ (("self" : Str) = y) := fun z => by rw [← z] at ny; simp at ny
    have G0 := G.keeps k
    have xL : x ≠ s.heap.objs.size := Nat.ne_of_lt (Heap.lt_size hx)
    have vS : (if (("self" : Str) = y) then some u else if (("self" : Str) = "self") then some (.ref x) else none) = some (.ref x) := by rw [if_neg ne, if_pos rfl]
    have bx : ∀ {b : Addr} {o : Obj}, hB.get? b = some o → b ≠ x := fun {b o} e z => by rw [z, nB] at e; cases e
    rw [hb]
    refine ks_wpAt_execs_cons (sup_step FB KF (sup_of S G0 hn' vS (k _ _ hx) ar k1 k2 k3 k4) (fun h1 tk1 t1 kk1 e1 => ?_) (hi _) (hs _) (he _))
    have G1 : Gnd K mg h1 := GB.keeps fun b o e => kk1 b o (bx e) (k b o (kB b o e))
    have n1 : h1.Ns s.heap.objs.size (fun z => if z = y then some u else if z = "self" then some (.ref x) else none) := hn'.at fun o e => kk1 _ o (Ne.symm xL) e
    refine ks_wpAt_execs_cons (fld1 (y := y) S.sto G1.kin e1 hf k4 k3 k5 n1 vS (by rw [if_pos rfl]) hd (fun h2 tk2 dx kk2 n2 ne2 e2 e3 => ?_) (hs2 _))
    refine wpAt_of_wpAny (wpAny_execs_nil ?_)
    refine hq h2 tk2 t1 dx _ (fun b o hb' ho => kk2 b o hb' (kk1 b o hb' (k b o ho))) ?_ ne2 e2 e3 (fun z => ?_)
    · cases q : s.heap.get? dx with
      | none => rfl
      | some o => exact absurd (Heap.lt_size (kk1 dx o ne2 (k dx o q))) (Nat.not_lt.mpr n2)
    · show _ = List.lookup z [(f, u)]
      rw [lk_cons, List.lookup_nil]
/-- __init__(self, y, y2): super().__init__('..'); self.f = y; self.f2 = y2 -/
theorem init2 {m f y f2 y2 : Str} {j : Nat} {pl : Sem Bool} {p0 p1 p2 p3 p4 p5 q5 q6 q7 q8 r5 r6 r7 r8 : Pos} (FB : InitF T i) (KF : KxsFacts T i)
    (S : SupK K P mg T i newId C fI cc cda (initFn qual params body scope dV kV doc pm an cda ct cc) qual)
    (hb : body = [.Expr (.Call (.Attribute (.Call (.Name "super" p0) [] [] p1) "__init__" p2) [.Constant (.str m) j p3] [] p4) p5, .Assign [.Attribute (.Name "self" q5) f q6] (.Name y q7) q8, .Assign [.Attribute (.Name "self" r5) f2 r6] (.Name y2 r7) r8])
    (V : OverVE K C) (hf : findIn K (.ref C) f = some none) (hf2 : findIn K (.ref C) f2 = some none) (ar : (params.posonlyargs ++ params.args).head?.map (·.arg) = some ("self" : Str))
    (k1 : scope.names.lookup ("super" : Str) = some .globalImplicit) (k2 : scope.names.lookup ("__class__" : Str) = some .free) (k3 : scope.names.lookup ("self" : Str) = some .local) (k4 : scope.kind = .function)
    (k5 : scope.names.lookup y = some .local) (k52 : scope.names.lookup y2 = some .local) (k6 : scope.isCoroutine = false) (k7 : scope.isGenerator = false) (k8 : ∀ z ∈ scope.names, z.2 ≠ .cell) (ny : (y == ("self" : Str)) = false) (hd : (y == ("__debug__" : Str)) = false) (ny2 : (y2 == ("self" : Str)) = false) (hd2 : (y2 == ("__debug__" : Str)) = false) (nyy : (y == y2) = false)
    (hbind : ∀ a u u2, bindArgs (initFn qual params body scope dV kV doc pm an cda ct cc) ⟨[a, u, u2], []⟩ = pure [(("self" : Str), a), (y, u), (y2, u2)])
    (hi : ∀ L, interactive (initEnv qual scope L fI cda cc) = false) (hs : ∀ L, swapsWith (.Call (.Attribute (.Call (.Name "super" p0) [] [] p1) "__init__" p2) [.Constant (.str m) j p3] [] p4) none p5.line (initEnv qual scope L fI cda cc) = pure false)
    (he : ∀ L, eval (.Call (.Attribute (.Call (.Name "super" p0) [] [] p1) "__init__" p2) [.Constant (.str m) j p3] [] p4) (initEnv qual scope L fI cda cc) = (do
      let ov ← attributeBase (.Call (.Name "super" p0) [] [] p1) "__init__" (initEnv qual scope L fI cda cc) (eval (.Call (.Name "super" p0) [] [] p1) (initEnv qual scope L fI cda cc))
      standAt p2.atName
      let (g, first) ← holding [ov] (getMethod ov "__init__" pl)
      callWith p4 g first (backTo p4 (starEach [.Constant (.str m) j p3] (initEnv qual scope L fI cda cc))) []))
    (hs2 : ∀ L, swapsWith (.Name y q7) (some (.Attribute (.Name "self" q5) f q6)) q8.line (initEnv qual scope L fI cda cc) = pure false)
    (hs3 : ∀ L, swapsWith (.Name y2 r7) (some (.Attribute (.Name "self" r5) f2 r6)) r8.line (initEnv qual scope L fI cda cc) = pure false) : InitOk P w K mg C fI [f, f2] := by
  intro A hB s x t0 us R hr GB kB nB hx hl hq
  have G := GB.keeps kB
  match us, hl with
  | [u, u2], _ =>
  obtain ⟨oc, od, osl, fO⟩ := S.fO
  refine ks_codeAny_call_defAt (fd := initFn qual params body scope dV kV doc pm an cda ct cc) (body := body) (binds := [(("self" : Str), .ref x), (y, u), (y2, u2)]) hr (G.kin _ _ fO) rfl G.lim (codeRec_of G.kin S.cIn) rfl (.of_eq (hbind _ _ _)) k8 ?_ (fun h₀ hn k => ?_) k6 k7 k4
  · intro z hz
    rcases List.mem_cons.mp hz with rfl | hz
    · exact k3
    · rcases List.mem_cons.mp hz with rfl | hz
      · exact k5
      · rcases List.mem_cons.mp hz with rfl | hz
        · exact k52
        · cases hz
  · have hn' : h₀.Ns s.heap.objs.size (fun z => if z = y2 then some u2 else if z = y then some u else if z = "self" then some (.ref x) else none) := by
      have e : (fun z => List.lookup z [(("self" : Str), Value.ref x), (y, u), (y2, u2)].reverse) = (fun z => if z = y2 then some u2 else if z = y then some u else if z = "self" then some (.ref x) else none) := by
        funext z
        show List.lookup z [(y2, u2), (y, u), (("self" : Str), Value.ref x)] = _
        rw [lk_cons, lk_cons, lk_cons, List.lookup_nil]
      rw [← e]
      exact hn
    have ne : ¬ (("self" : Str) = y) := fun z => by rw [← z] at ny; simp at ny
    have ne2 : ¬ (("self" : Str) = y2) := fun z => by rw [← z] at ny2; simp at ny2
    have neyy : ¬ (y = y2) := fun z => by rw [← z] at nyy; simp at nyy
    have G0 := G.keeps k
    have xL : x ≠ s.heap.objs.size := Nat.ne_of_lt (Heap.lt_size hx)
    have vS : (if (("self" : Str) = y2) then some u2 else if (("self" : Str) = y) then some u else if (("self" : Str) = "self") then some (.ref x) else none) = some (.ref x) := by rw [if_neg ne2, if_neg ne, if_pos rfl]
    have bx : ∀ {b : Addr} {o : Obj}, hB.get? b = some o → b ≠ x := fun {b o} e z => by rw [z, nB] at e; cases e
    rw [hb]
    refine ks_wpAt_execs_cons (sup_step FB KF (sup_of S G0 hn' vS (k _ _ hx) ar k1 k2 k3 k4) (fun h1 tk1 t1 kk1 e1 => ?_) (hi _) (hs _) (he _))
    have G1 : Gnd K mg h1 := GB.keeps fun b o e => kk1 b o (bx e) (k b o (kB b o e))
    have n1 : h1.Ns s.heap.objs.size (fun z => if z = y2 then some u2 else if z = y then some u else if z = "self" then some (.ref x) else none) := hn'.at fun o e => kk1 _ o (Ne.symm xL) e
    refine ks_wpAt_execs_cons (fld1 (y := y) S.sto G1.kin e1 hf k4 k3 k5 n1 vS (by rw [if_neg neyy, if_pos rfl]) hd (fun h2 tk2 dx kk2 n2 ndx e2 e3 => ?_) (hs2 _))
    have fr : s.heap.get? dx = none := by
      cases q : s.heap.get? dx with
      | none => rfl
      | some o => exact absurd (Heap.lt_size (kk1 dx o ndx (k dx o q))) (Nat.not_lt.mpr n2)
    have kx : ∀ b o, b ≠ x → s.heap.get? b = some o → h2.get? b = some o := fun b o hb' ho => kk2 b o hb' (kk1 b o hb' (k b o ho))
    have G2 : Gnd K mg h2 := GB.keeps fun b o e => kx b o (bx e) (kB b o e)
    have n3 : h2.Ns s.heap.objs.size (fun z => if z = y2 then some u2 else if z = y then some u else if z = "self" then some (.ref x) else none) := n1.at fun o e => kk2 _ o (Ne.symm xL) e
    have wi : Within (fun z => if z = f then some u else none) [f] := fun z hz => by
      by_cases e : z = f
      · rw [e]; exact List.mem_cons_self ..
      · exact absurd (if_neg e) hz
    refine ks_wpAt_execs_cons (fld2 (y := y2) S.sto V G2.kin e2 e3 wi (show 1 ≤ 1000 by decide) hf2 k4 k3 k52 n3 vS (by rw [if_pos rfl]) hd2 (fun h3 tk3 kk3 e4 => ?_) (hs3 _))
    refine wpAt_of_wpAny (wpAny_execs_nil ?_)
    refine hq h3 tk3 t1 dx _ (fun b o hb' ho => ?_) fr ndx (kk3 _ _ (Ne.symm ndx) e2) e4 (fun z => ?_)
    · exact kk3 b o (fun z => by rw [z, fr] at ho; cases ho) (kx b o hb' ho)
    · show _ = List.lookup z [(f2, u2), (f, u)]
      rw [lk_cons, lk_cons, List.lookup_nil]

end
end L3

namespace L3
open PySem PySem.Spec PyProof.Rows L2
open PySem.HandSPX (excO refsVE refsVE_contains veTail)

section
variable {fs ex : List Addr} {H : Hp} {h h' : Heap} {a d : Addr} {o u : HO}
theorem un_two (k : ∀ b z, h.get? b = some z → h'.get? b = some z) (ga : h.get? a = none) (gd : h.get? d = none) (na : H a = none) (nd : H d = none) : Un fs ex H (upd (upd H d u) a o) h h' where
  keep := fun b z q _ _ _ => k b z q
  slot := fun b z q _ _ _ => ⟨z.slots, k b z q⟩
  free := fun b z q n _ => by rw [upd_ne (fun y => by rw [y, ga] at q; cases q), upd_ne (fun y => by rw [y, gd] at q; cases q)]; exact n
  there := fun b z q _ => ⟨z, k b z q⟩
  tups := fun b xs q => by rw [upd_ne (ne_of_none q na), upd_ne (ne_of_none q nd)]; exact q
  frzs := fun b z xs q => by rw [upd_ne (ne_of_none q na), upd_ne (ne_of_none q nd)]; exact q
  tbls := fun b ps q => ⟨#[], by rw [upd_ne (ne_of_none q na), upd_ne (ne_of_none q nd), q]; simp⟩
end
def excFields (fs : List Str) (vs : List V) : List (Str × V) := (fs.zip vs).reverse
theorem rel_look {l : List (Str × V)} {r : List (Str × Value)} (h : Paired (fun (p : Str × V) (q : Str × Value) => p.1 = q.1 ∧ RelV p.2 q.2) l r) (z : Str) : RelO (l.lookup z) (r.lookup z) := by
  induction h with
  | nil => exact True.intro
  | @cons p q l r h _ ih =>
    obtain ⟨f, v⟩ := p
    obtain ⟨g, u⟩ := q
    obtain ⟨e, rv⟩ := h
    dsimp only at e rv
    subst e
    rw [lk_cons, lk_cons]
    by_cases hz : z = f
    · rw [if_pos hz, if_pos hz]
      exact rv
    · rw [if_neg hz, if_neg hz]
      exact ih
theorem rel_zip {vs : List V} {us : List Value} (h : Vals vs us) : ∀ (fs : List Str), Paired (fun (p : Str × V) (q : Str × Value) => p.1 = q.1 ∧ RelV p.2 q.2) (fs.zip vs) (fs.zip us) := by
  induction h with
  | nil => intro fs; simp; exact .nil
  | cons r _ ih =>
    intro fs
    cases fs with
    | nil => exact .nil
    | cons f fs => exact .cons ⟨rfl, r⟩ (ih fs)
theorem pair_app {α β : Type} {R : α → β → Prop} {l1 l2 : List α} {r1 r2 : List β} (h : Paired R l1 r1) (k : Paired R l2 r2) : Paired R (l1 ++ l2) (r1 ++ r2) := by
  induction h with
  | nil => exact k
  | cons a _ ih => exact .cons a ih
theorem pair_rev {α β : Type} {R : α → β → Prop} {l : List α} {r : List β} (h : Paired R l r) : Paired R l.reverse r.reverse := by
  induction h with
  | nil => exact .nil
  | cons a _ ih =>
    rw [List.reverse_cons, List.reverse_cons]
    exact pair_app ih (.cons a .nil)
theorem exc_rel {fs : List Str} {vs : List V} {us : List Value} {m : Str → Option Value} (h : Vals vs us) (hm : ∀ z, m z = (fs.zip us).reverse.lookup z) (z : Str) : RelO ((excFields fs vs).lookup z) (m z) := by
  rw [hm]
  exact rel_look (pair_rev (rel_zip h fs)) z

/-- an exception that is held as a value, with its fields -/
def ExAt (H : Hp) (a C : Addr) : Option (List (Str × V)) → Prop
  | none => H a = some (exo a C none)
  | some l => ∃ d, H a = some (exo a C (some d)) ∧ H d = some (exd d l)
/-- C(e, ..), C's own __init__ storing the arguments in the fields fs -/
def tMkV (C : Addr) (fs : List Str) (ta : TA) : TE := fun σ H Q => ta σ H fun vs H1 => vs.length = fs.length ∧ vs.length ≤ 900 ∧ ∀ a d, H1 a = none → H1 d = none → d ≠ a → Q (.ref a) (upd (upd H1 d (exd d (excFields fs vs))) a (exo a C (some d)))
section
variable {X : Cx} {x : Str} {C fI : Addr} {fs : List Str} {e : Expr} {es : List Expr} {ta : TA} {p pos : Pos}
theorem pe_mkV (J : InitOk X.prog X.w X.K X.mg C fI fs) {B newId initId : String} {bmB bm : List Value} (F : ExcBaseFacts B newId initId bmB) (T : Above B bm) (V : ∃ nm q N bs hdct sn sub ab col dd k0 k1 k2 k3 k5, X.K.lookup C = some (excClassObj nm q C N bs bm hdct sn sub ab col dd k0 k1 k2 k3 k5 newId)) (kC : PySem.W.keepIn X.K (.ref C) = true) (iC : PySem.W.findIn X.K (.ref C) "__init__" = some (some (.ref fI))) (tI : PySem.W.typeIn X.K (.ref fI) = some (.type "function")) (hr : Room 1 X.A) (hg : Gl X x) (hm : X.mg x = some (.ref C)) (ha : PA X (e :: es) ta)
    (hdb : (x == ("__debug__" : Str)) = false := by decide) (he : starEach (e :: es) X.env = (false, eval e X.env) :: starEach es X.env := by rfl) (hpl : (backTo pos (starEach es X.env)).any (·.1) = false := by rfl) :
    PE X (.Call (.Name x p) (e :: es) [] pos) (tMkV C fs ta) := by
  refine ⟨fun pins s σ H Q I h => ?_⟩
  obtain ⟨nm, q, N, bs, hdct, sn, sub, ab, col, dd, k0, k1, k2, k3, k5, hC⟩ := V
  refine wpAny_Call_Name_kw (ld_glob I hg hm ?_ hdb)
  refine PySem.W.callWith_K (h₀ := X.base) I.ok.mod.kin kC (thn (ha.run pos pins s σ H _ I h) fun us s1 ⟨vs, H1, I1, r1, hl, hz, q1⟩ => ⟨I1.kIn, ?_⟩) he hpl
  show wpAny _ _ (call (.ref C) us) _ _ _
  have G := Gnd.of I1
  obtain ⟨hp, g, dr, tk, os⟩ := s1
  have ul : us.length = vs.length := (Paired.length r1).symm
  have hus : us.length ≤ sizeLine := Nat.le_trans (show us.length ≤ 900 by omega) (show 900 ≤ sizeLine by decide)
  have kk : ∀ b o, hp.get? b = some o → ((hp.push (PySem.W.kdv_tup us)).push (excO C hp.objs.size)).get? b = some o := fun b o e => Heap.get?_push_of_some _ (Heap.get?_push_of_some _ e)
  have hget : ((hp.push (PySem.W.kdv_tup us)).push (excO C hp.objs.size)).get? (hp.objs.size + 1) = some (excO C hp.objs.size) := by heap_get
  have nx : hp.get? (hp.objs.size + 1) = none := by
    cases q : hp.get? (hp.objs.size + 1) with
    | none => rfl
    | some o => exact absurd (Heap.lt_size q) (Nat.not_lt.mpr (Nat.le_succ _))
  refine wpAny_call (above_call F T (I1.kIn _ _ hC) (PySem.W.looks_findIn I1.kIn iC) (fun self => PySem.W.bind_fn I1.kIn self tI) hus ?_)
  refine J _ hp _ (hp.objs.size + 1) hp.objs.size us _ (hr.make C us []).depth G kk nx hget (ul.trans hl) fun h' tk' t1 dx m k fr ne e1 e2 e3 => ⟨rfl, ?_⟩
  have kall : ∀ b o, hp.get? b = some o → h'.get? b = some o := fun b o e => k b o (fun z => by rw [z, nx] at e; cases e) (kk b o e)
  have nd : hp.get? dx = none := by
    cases q : hp.get? dx with
    | none => rfl
    | some o => rw [kk dx o q] at fr; cases fr
  have na1 := I1.hok.gone nx
  have nd1 := I1.hok.gone nd
  have ok1 : HOk X.prog X.w (upd H1 dx (exd dx (excFields fs vs))) h' := I1.hok.laidN kall nd1 (exd_ok e2 (exc_rel r1 e3))
  have na2 : upd H1 dx (exd dx (excFields fs vs)) (hp.objs.size + 1) = none := by rw [upd_ne (Ne.symm ne)]; exact na1
  have ok2 := ok1.laidN (o := exo (hp.objs.size + 1) C (some dx)) (fun _ _ e => e) na2 (exo_ok e1)
  exact ⟨.ref (hp.objs.size + 1), _, I1.un (t' := tk') (un_two kall nx nd na1 nd1) ok2, rfl, q1 _ _ na1 nd1 ne⟩
/-- C(), an own exception class without own __init__ -/
theorem pe_mkV0 {bmB : List Value} {B newId initId : String} (F : ExcBaseFacts B newId initId bmB) (q : PySem.W.excIn X.K C bmB newId = true) (gC : X.mg x = some (.ref C)) (kC : PySem.W.keepIn X.K (.ref C) = true) (hg : Gl X x) (hdb : (x == ("__debug__" : Str)) = false := by decide) :
    PE X (.Call (.Name x p) [] [] pos) (fun _ H Q => ∀ a, H a = none → Q (.ref a) (upd H a (exo a C none))) := by
  refine ⟨fun pins s σ H Q I h => ?_⟩
  refine wpAny_Call_Name_kw (ld_glob I hg gC ?_ hdb)
  refine PySem.W.callWith_K0 I.kIn kC ?_
  obtain ⟨bm, N, nm, qn, bs, hdct, sn, sub, ab, col, dd, k0, k1, k2, k3, k5, mN, hC, hN, hni, T⟩ := exc_obj I.kIn q
  refine wpAny_call_exc_subT F T hC hN hni (fun h' a hm => ?_) (Nat.zero_le _)
  have hn : H a = none := I.hok.gone hm.new
  obtain ⟨t, ht, _, _⟩ := hm.there
  exact ⟨.ref a, upd H a (exo a C none), I.laidN hm.keeps hm.new hn (exo_ok ht), rfl, h a hn⟩
end
end L3

namespace PySem.W
open PySem PySem.Spec PySem.Calls PyProof.Rows
section
variable {prog : Program} {w : World} {A : Around} {E : Value → Shared → Prop} {s : Shared} {K : Frag} {x D : Addr} {ox : Obj} {od : Option Obj}
theorem l3_findObj {C : Addr} {name : Str} {a g : Value} (hc : (clsIn K C).isSome = true) (ha : findIn K (.ref C) name = some (some a)) (hg : specialIn K a "__get__" = some (some g)) (ht : takesIn K a = some true) : findObj K C od name = some (.bind g a) := by
  cases od with
  | none => exact findObj_dataN hc ha hg ht
  | some o => exact findObj_data hc ha hg ht
/-- e.__class__ of an own exception, whether it has its dict or not -/
theorem l3_class {Q : Option Value → Shared → Prop} (T : L2.ExcC K D) (X : K.In s.heap) (I : InstAt s.heap x ox D od) (h : Q (some (.ref D)) { s with toks := s.toks + 1 }) : wpAny (model prog w) A (getAttr? (.ref x) "__class__") Q E s := by
  have hcd : (clsIn K D).isSome = true := by
    obtain ⟨cd, hc, _⟩ := any_some T.hd
    rw [hc]
    rfl
  obtain ⟨hp, g, d, t, os⟩ := s
  have ty := I.type (M := model prog w)
  have find := looks_find (M := model prog w) X I (l3_findObj (od := od) hcd T.ha T.hn T.ht)
  have isB : Looks (model prog w) hp (isInstance (.ref x) (.type "BaseException")) true := ty.andThen (looks_subIn X T.hs)
  have n2 : (Value.builtin "BaseException.__getattribute__" == Value.builtin "object.__getattribute__") = false := by decide +kernel
  have n1 : (onTheHeap (Value.ref D) && Value.builtin "BaseException.__getattribute__" == Value.builtin "object.__getattribute__") = false := by rw [n2]; rfl
  unfold getAttr? getAttrBy? getAttrBy
  refine wpAny_bind (wpAny_mkText (wpAny_bind (wpAny_attempt (wpAny_holding (wpAny_bind (ty.at (wpAny_bind ((looks_findIn (M := model prog w) X T.hg).at ?_))))))))
  show wpAny _ _ (if (onTheHeap (Value.ref D) && Value.builtin "BaseException.__getattribute__" == Value.builtin "object.__getattribute__") = true then _ else _) _ _ _
  rw [n1, if_neg Bool.false_ne_true]
  unfold getAttrByItsOwn hookBefore
  refine wpAny_bind ?_
  rw [if_pos (show onTheHeap (Value.ref D) = true from rfl)]
  refine (looks_findIn (M := model prog w) X T.hk).at (wpAny_bind (wpAny_attempt (wpAny_holding ?_)))
  unfold callGetattribute
  rw [show (false && onTheHeap (Value.builtin "BaseException.__getattribute__")) = false from rfl, if_neg Bool.false_ne_true]
  unfold boundAndCalled
  rw [PySem.F.excAttr_ValueError.ga.bind (.ref x)]
  refine wpAny_bind (wpAny_pure ?_)
  show wpAny _ _ (call (.builtin "BaseException.__getattribute__") [.ref x, .str "__class__" t]) _ _ _
  refine wpAny_call (codeAny_call_builtin PySem.F.excAttr_ValueError.ga.plain PySem.F.entry_bexc_ga ?_)
  refine @check_slot (model prog w) _ _ ⟨hp, g, d, t + 1, os⟩ "BaseException.__getattribute__" "BaseException" "__getattribute__" (.ref x) [.str "__class__" t] [] _ (by decide +kernel) (by decide +kernel) isB (PySem.F.args_bexc_ga (.ref x) (.str "__class__" t)) ?_
  unfold Builtin.«object.__getattribute__»
  refine wpAny_bind (wpAny_of_eq (a := ((Value.ref x : Value), [Value.str "__class__" t])) (by first | rfl | (simp only [slotArgs]; rfl)) ?_)
  refine wpAny_bind (wpAny_pure (wpAny_bind (ty.at (wpAny_bind (find.at ?_)))))
  show wpAny _ _ (holding [Value.builtin "object.__class__"] (call (.builtin "getset_descriptor.__get__") [.builtin "object.__class__", .ref x, .ref D]) >>= ret) _ _ _
  refine wpAny_bind (wpAny_holding (wpAny_call (class_get (s := ⟨hp, g, d, t + 1, os⟩) (ox := ox) (od := od) X I T.hm ?_)))
  refine wpAny_pure ?_
  show wpAny _ _ (handedOut (.ref D)) _ _ _
  rw [handedOut_of (v := .ref D) rfl]
  first
    | exact wpAny_pure (wpAny_pure h)
    | exact wpAny_pure h
    | exact wpAny_pure (wpAny_bind (wpAny_pure (wpAny_pure h)))
theorem l3_cls {M : Model} {h : Heap} (X : K.In h) (hd : hasDictIn K D = true) : Looks M h (isType (.ref D)) true := by
  obtain ⟨cd, hc, _⟩ := any_some hd
  unfold clsIn at hc
  split at hc
  · rename_i ho
    intro A' Q' E' s' k q
    unfold isType loadHead
    exact wpAny_bind (wpAny_loadPart (k _ _ (X _ _ ho)) (wpAny_pure q))
  · cases hc
theorem l3_kit (T : L2.ExcC K D) : KitX K (.ref x) (.ref D) (fun h => ∃ ox od, InstAt h x ox D od) where
  ty := fun _ _ _ ⟨_, _, I⟩ => I.type
  it := fun _ _ X _ => l3_cls X T.hd
  ne := fun h tp dd its n sl X htp => by
    obtain ⟨cd, hc, _⟩ := any_some T.hd
    refine Bool.eq_false_iff.mpr fun q => ?_
    have e : D = tp := Value.ref.inj (beq_iff_eq.mp q)
    subst e
    unfold clsIn at hc
    split at hc
    · rename_i ho
      have z := (X _ _ ho).symm.trans htp
      cases z
    · cases hc
  ca := fun X ⟨_, _, I⟩ k => l3_class T X I k
end
end PySem.W
namespace L3
open PySem PySem.Spec PyProof.Rows L2
section
variable {X : Cx} {pins : List (Addr × Obj)} {σ : L2.St} {H : Hp} {s : Shared}
theorem exat_inst {a C : Addr} {fs : Option (List (Str × V))} (I : Inv X pins σ H s) (h : ExAt H a C fs) : ∃ ox od, PySem.W.InstAt s.heap a ox C od := by
  cases fs with
  | none =>
    obtain ⟨t1, e⟩ := exo_at I.hok h
    exact ⟨_, none, e, rfl, rfl, trivial⟩
  | some l =>
    obtain ⟨d, h1, h2⟩ := h
    obtain ⟨t1, e⟩ := exo_at I.hok h1
    obtain ⟨mA, hns, _⟩ := exd_at I.hok h2
    obtain ⟨o, _, _, ho, _⟩ := hns
    exact ⟨_, some o, e, rfl, rfl, ho⟩
end
/-- isinstance(e, c), e an own exception that is held as a value -/
def rIsX (K : PySem.W.Frag) : List V → Hp → VK → Prop := fun xs H Q => ∃ (a D : Addr) (fs : Option (List (Str × V))) (c : V) (u : Value) (b : Bool), xs = [.ref a, c] ∧ ExAt H a D fs ∧ ExcC K D ∧ ClsV c u ∧ PySem.W.kitOne K (.ref D) u = some b ∧ Q (.bl b) H
theorem call_isX {X : Cx} : CallR X (.builtin "isinstance") (rIsX X.K) := by
  intro pins s σ H xs us Q I r h
  obtain ⟨a, D, fs, c, u, b, rfl, he, T, k, e, q⟩ := h
  obtain ⟨u1, u2, rfl, r1, r2⟩ := vals2 r
  have e2 := k.eq r2
  subst e2
  obtain rfl : u1 = Value.ref a := r1
  exact PySem.W.kia_one (PySem.W.l3_kit T) I.kIn (exat_inst I he) e (fun z => nomatch z) fun tk => ⟨.bl b, H, I.tok tk, rfl, q⟩
/-- e.f, e an own exception that is held as a value -/
def tXv (K : PySem.W.Frag) (f : Str) (te : TE) : TE := fun σ H Q => te σ H fun x H1 => ∃ (a C : Addr) (fs : List (Str × V)) (v : V), x = .ref a ∧ ExAt H1 a C (some fs) ∧ XfC K C ∧ PySem.W.findIn K (.ref C) f = some none ∧ fs.lookup f = some v ∧ Q v H1
theorem pe_xv {X : Cx} {e : Expr} {te : TE} {pos : Pos} {n : Str} (he : PE X e te) (hb : attributeBase e n X.env (eval e X.env) = eval e X.env := by rfl) : PE X (.Attribute e n pos) (tXv X.K n te) := by
  refine ⟨fun pins s σ H Q I h => ?_⟩
  refine attr_of hb (thn (he.run pins s σ H _ I h) fun u s1 hh => ?_)
  obtain ⟨x, H1, I1, rx, a, C, fs, v, ex, ⟨d, h1, h2⟩, T, hno, l, q⟩ := hh
  subst ex
  obtain rfl : u = Value.ref a := rx
  obtain ⟨t1, e1⟩ := exo_at I1.hok h1
  obtain ⟨mA, hns, hr⟩ := exd_at I1.hok h2
  obtain ⟨od, ho, hl⟩ := lookIn_ns hns
  obtain ⟨u, hu, ru⟩ := RelO.some_of (v := v) (o := mA n) (by rw [← l]; exact hr n)
  exact HandSPX.exc_get I1.kIn (ox := _) (od := some od) ⟨e1, rfl, rfl, ho⟩ T.ga T.gg T.exC (PySem.W.findObj_own T.hdC hno rfl (by rw [hl, hu])) (handed_of ru) ⟨v, H1, I1.tok _, ru, q⟩
end L3

/-! what the written part says of own exceptions' classes, looked at at once -/
namespace L3
open PySem PySem.Spec PySem.W PyProof.Rows L2
open PySem.HandSPX (refsVE refsVE_contains veTail)
def excB (K : Frag) (D : Addr) : Bool := xfB K D && (decide (findIn K (.ref D) "__class__" = some (some (.builtin "object.__class__"))) && (decide (specialIn K (.builtin "object.__class__") "__get__" = some (some (.builtin "getset_descriptor.__get__"))) &&
  (decide (takesIn K (.builtin "object.__class__") = some true) && decide (mroIn K D (.type "object") = some true))))
theorem excB_ok {K : Frag} {D : Addr} (h : excB K D = true) : ExcC K D ∧ XfC K D := by
  unfold excB at h
  simp only [Bool.and_eq_true, decide_eq_true_eq] at h
  obtain ⟨h1, h2, h3, h4, h5⟩ := h
  have x := xfB_ok h1
  exact ⟨⟨x.ga, x.gg, x.exC, x.hdC, h2, h3, h4, h5⟩, x⟩
/-- a class whose __init__ at f says super().__init__ of the built-in class T -/
def supB (K : Frag) (C f : Addr) (T i : String) (fs : List Str) : Bool := keepIn K (.ref C) && (decide (findIn K (.ref C) "__init__" = some (some (.ref f))) && (decide (typeIn K (.ref f) = some (.type "function")) && (decide (findIn K (.ref C) "__setattr__" = some (some (.builtin "object.__setattr__"))) &&
  (decide (subIn K (.ref C) (.type T) = some true) && (decide (subIn K (.ref C) (.ref C) = some true) && (decide (nsIn K cStatics "thirdparty.any" = some none) && (decide (ks_superIn K C C "__init__" = some (some (.builtin i))) && fs.all fun g => decide (findIn K (.ref C) g = some none))))))))
structure SupF (K : Frag) (C f : Addr) (T i : String) (fs : List Str) : Prop where
  kC : keepIn K (.ref C) = true
  iC : findIn K (.ref C) "__init__" = some (some (.ref f))
  tI : typeIn K (.ref f) = some (.type "function")
  sa : findIn K (.ref C) "__setattr__" = some (some (.builtin "object.__setattr__"))
  subT : subIn K (.ref C) (.type T) = some true
  subC : subIn K (.ref C) (.ref C) = some true
  opq : nsIn K cStatics "thirdparty.any" = some none
  cls : ∃ cd, clsIn K C = some cd ∧ alongIn K "__init__" ((cd.mro.dropWhile (· != .ref C)).drop 1) = some (some (.builtin i))
  no : ∀ g ∈ fs, findIn K (.ref C) g = some none
theorem supB_ok {K : Frag} {C f : Addr} {T i : String} {fs : List Str} (h : supB K C f T i fs = true) : SupF K C f T i fs := by
  unfold supB at h
  simp only [Bool.and_eq_true, decide_eq_true_eq, List.all_eq_true] at h
  obtain ⟨h1, h2, h3, h4, h5, h6, h7, h8, h9⟩ := h
  refine ⟨h1, h2, h3, h4, h5, h6, h7, ?_, h9⟩
  unfold ks_superIn at h8
  obtain ⟨cd, e1, e2⟩ := Option.bind_eq_some_iff.mp h8
  exact ⟨cd, e1, e2⟩
theorem above_ve {bm : List Value} (h : refsVE bm = true) : Above "ValueError" bm :=
  ⟨(refsVE_contains "ValueError" bm h).trans (by decide +kernel), (refsVE_contains "AttributeError" bm h).trans (by decide +kernel), (refsVE_contains "NameError" bm h).trans (by decide +kernel)⟩
section
variable {K : Frag} {C : Addr} {nm q : Str} {N : Addr} {bs bm : List Value} {sn : List Str} {sub : List Value} {ab : Bool} {col : Option Bool} {dd : Option Addr} {k0 k1 k2 k3 k5 : Option Value} {newId : String}
theorem cls_of (hC : K.lookup C = some (excClassObj nm q C N bs bm true sn sub ab col dd k0 k1 k2 k3 k5 newId)) :
    clsIn K C = some { name := nm, bases := bs, mro := .ref C :: bm, ns := N, qualname := q, hasDict := true, slotNames := sn, subclasses := sub, abstract := ab, collection := col, hasDel := false } := by
  unfold clsIn
  rw [hC] <;> rfl
theorem over_of (hC : K.lookup C = some (excClassObj nm q C N bs bm true sn sub ab col dd k0 k1 k2 k3 k5 newId)) (h : refsVE bm = true) : OverVE K C := ⟨_, cls_of hC, h, rfl⟩
theorem sto_ke (hC : K.lookup C = some (excClassObj nm q C N bs keTail true sn sub ab col dd k0 k1 k2 k3 k5 newId)) (sa : findIn K (.ref C) "__setattr__" = some (some (.builtin "object.__setattr__"))) : Sto K C :=
  ⟨⟨_, cls_of hC, fun self => by rw [show (Value.ref C :: keTail) = Value.ref C :: keTail from rfl, refuseLoop_ref]; exact pass_KeyError self, rfl, by rw [List.contains_cons, show keTail.contains (.type "object") = true by decide +kernel, Bool.or_true], rfl⟩, sa⟩
end
/-- all that the __init__'s own objects must say -/
structure InK (K : Frag) (prog : Program) (C f cc cda : Addr) (fd : FuncData) (qual : Str) : Prop where
  fO : ∃ oc od osl, K.lookup f = some ⟨oc, od, .func fd, osl⟩
  cO : ∃ oc od vs osl file tf, K.lookup cda = some ⟨oc, od, .fields vs, osl⟩ ∧ vs[2]? = some (.str file tf) ∧ ((prog.main.file : Str) == file) = true
  cIn : codeIn K (.ref cda) qual = true
  top : (prog.main.scope.names.lookup ("super" : Str)).isSome = false
  ccO : ∃ oc od osl, K.lookup cc = some ⟨oc, od, .cell (some (.ref C)), osl⟩
theorem supK_of {K : Frag} {prog : Program} {mg : Str → Option Value} {T i newId : String} {C f cc cda : Addr} {fd : FuncData} {qual : Str} {fs : List Str} {nm q : Str} {N : Addr} {bs bm : List Value} {sn : List Str} {sub : List Value} {ab : Bool} {col : Option Bool} {dd : Option Addr} {k0 k1 k2 k3 k5 : Option Value}
    (I : InK K prog C f cc cda fd qual) (S : SupF K C f T i fs) (hC : K.lookup C = some (excClassObj nm q C N bs bm true sn sub ab col dd k0 k1 k2 k3 k5 newId)) (sto : Sto K C) (noS : mg "super" = none) : SupK K prog mg T i newId C f cc cda fd qual :=
  ⟨noS, I.fO, I.cO, I.cIn, I.top, I.ccO, S.cls, ⟨nm, q, N, bs, bm, true, sn, sub, ab, col, dd, k0, k1, k2, k3, k5, hC⟩, S.subT, S.subC, S.opq, sto⟩
end L3

namespace R1
open PySem L2 L3
open C8 (pss_cut tCut)
def top (i : Nat) : Stmt := PySem.Challenge.pw_hadnot_k01_errors.main.body.getD i (.Pass ⟨0, 0, 0, 0⟩)
abbrev sFeed : Stmt := top 17
abbrev sTake : Stmt := top 18
section
variable {P : Program} {w : World} {K : PySem.W.Frag} {mg : Str → Option Value} {base : Heap}
theorem scF : FnScope ["_law_script", "_law_k", "_law_cell", "_law_own"] ["_law_script", "_law_k"] (defScope sFeed) := ⟨rfl, rfl, rfl, by decide +kernel, rfl, by decide +kernel, by decide +kernel⟩
theorem ok_feed {f : Addr} {fd : FuncData} (F : Fun K "_law_feed" "_law_feed" sFeed f fd) (zLen : mg "len" = none) (zAbs : mg "abs" = none) : FnOk P w K mg base CX0 1 f fd ["_law_script", "_law_k"] (spFeed K) := by
  refine F.ok scF (fun vs H Q E h => ?_) (fun cdv A outer s H vs Q E hr h => ?_)
  · obtain ⟨a, ns, k, rfl, _⟩ := h
    rfl
  · obtain ⟨a, ns, k, rfl, hS, hn, hk, kk⟩ := h
    have sk : Sm 7 (k : Int) := by show (k : Int).natAbs < 128; omega
    have hl : (ns.map V.int).length = ns.length := List.length_map ..
    refine ⟨_, pss_cons (ps_set (i := 2) scF.nd rfl (Or.inl rfl) (pe_op op_add (pe_op op_mulW pe_int (pv 1)) pe_int))
      (pss_cut (ps_if (pt_cmpR op_lt (pv 1) (pe_callB call_len_seq (by rfl) zLen PySem.boot_len (pa_cons (pv 0) pa_nil)) (nomark _))
        (pss_one (ps_set (i := 2) scF.nd rfl (Or.inl rfl) (pe_callB call_abs (by rfl) zAbs PyProof.Rows.boot_abs (pa_cons (pe_ix ix_list (pv 0) (pv 1) (fun _ _ => rfl)) pa_nil))))
        (pss_one (ps_if (pt_cmpR op_gt (pe_callB call_len_seq (by rfl) zLen PySem.boot_len (pa_cons (pv 0) pa_nil)) pe_int (nomark _))
          (pss_one (ps_set (i := 2) scF.nd rfl (Or.inl rfl) (pe_op op_add (pe_op op_mulW (pe_op op_mod (pe_callB call_abs (by rfl) zAbs PyProof.Rows.boot_abs (pa_cons (pe_ix ix_list (pv 0) (pe_op op_mod (pv 1) (pe_callB call_len_seq (by rfl) zLen PySem.boot_len (pa_cons (pv 0) pa_nil))) (fun _ _ => rfl)) pa_nil)) pe_int) pe_int) (pe_op op_mulW pe_int (pv 1))))) pss_nil)))
      (pss_cons (ps_set (i := 3) scF.nd rfl (Or.inl rfl) pe_int)
      (pss_cut (ps_if (pt_cmpR op_ge (pv 2) (pe_op op_pow pe_int pe_int) (nomark _)) (pss_one (ps_set (i := 3) scF.nd rfl (Or.inl rfl) (pv 2))) pss_nil)
      (pss_one (ps_ret (pe_lst (pa_cons (pv 3) (pa_cons (pe_op op_add (pe_op op_mod (pe_op op_add (pe_op op_mulW (pe_op op_mod (pv 2) pe_int) pe_int) (pe_op op_mulW pe_int (pv 1))) pe_int) pe_int) pa_nil)))))))), ?_⟩
    refine ⟨_, rfl, _, _, rfl, rfl, (show Sm 13 7621 by decide).mulW sk (by decide) (by decide) (by decide), _, _, rfl, rfl, ?_⟩
    refine ⟨fun σ H' => ∃ c : Int, σ = [some (.ref a), some (.int k), some (.int c), none] ∧ H' = H, ?_, ?_⟩
    · refine ⟨_, rfl, _, rfl, a, _, rfl, .inl hS, _, _, rfl, rfl, _, rfl, ?_⟩
      rw [hl]
      refine iteD (fun h1 => ?_) (fun h1 => ?_)
      · have hk' : k < ns.length := by omega
        refine ⟨_, rfl, _, rfl, a, _, _, .int ns[k], rfl, rfl, hS, atI_nat (by rw [List.getElem?_map, List.getElem?_eq_getElem hk']; rfl), _, rfl, ?_⟩
        exact ⟨_, rfl, rfl⟩
      · refine ⟨_, rfl, a, _, rfl, .inl hS, _, _, rfl, rfl, _, rfl, ?_⟩
        rw [hl]
        refine iteD (fun h2 => ?_) (fun h2 => ?_)
        · have hlen : 0 < ns.length := by omega
          have hj : k % ns.length < ns.length := Nat.mod_lt _ hlen
          refine ⟨_, rfl, _, rfl, _, rfl, a, _, rfl, .inl hS, _, _, rfl, rfl, ?_, ?_⟩
          · show (0 : Int) < ((ns.map V.int).length : Int)
            rw [hl]
            omega
          · have e : (k : Int) % ((ns.map V.int).length : Int) = ((k % ns.length : Nat) : Int) := by rw [hl]; rfl
            refine ⟨a, _, _, .int ns[k % ns.length], rfl, rfl, hS, at_of e (by rw [List.getElem?_map, List.getElem?_eq_getElem hj]; rfl), _, rfl, _, _, rfl, rfl, (by show (0 : Int) < 2147483629; decide), ?_⟩
            refine ⟨_, _, rfl, rfl, Sm.mulW (n := 31) (m := 6) ?_ (by decide) (by decide) (by decide) (by decide), _, rfl, _, _, rfl, rfl, (show Sm 14 8513 by decide).mulW sk (by decide) (by decide) (by decide), _, _, rfl, rfl, ?_⟩
            · show (_ % (2147483629 : Int)).natAbs < 2147483648
              omega
            · exact ⟨_, rfl, rfl⟩
        · exact ⟨_, rfl, rfl⟩
    · rintro σ' H' ⟨c, rfl, rfl⟩
      refine ⟨fun σ H1 => ∃ o : Int, σ = [some (.ref a), some (.int k), some (.int c), some (.int o)] ∧ H1 = H', ?_, ?_⟩
      · refine ⟨_, rfl, _, _, rfl, rfl, ⟨by decide, by decide, by decide⟩, _, _, rfl, rfl, _, rfl, ?_⟩
        refine iteD (fun h1 => ?_) (fun h1 => ?_)
        · exact ⟨_, rfl, _, rfl, rfl⟩
        · exact ⟨_, rfl, rfl⟩
      · rintro σ' H1 ⟨o, rfl, rfl⟩
        refine ⟨_, rfl, _, rfl, _, _, rfl, rfl, (by show (0 : Int) < 2147483629; decide), _, _, rfl, rfl, Sm.mulW (n := 31) (m := 16) ?_ (by decide) (by decide) (by decide) (by decide), ?_⟩
        · show (_ % (2147483629 : Int)).natAbs < 2147483648
          omega
        · refine ⟨_, rfl, _, _, rfl, rfl, (show Sm 16 50021 by decide).mulW sk (by decide) (by decide) (by decide), _, _, rfl, rfl, _, _, rfl, rfl, (by show (0 : Int) < 2147483629; decide), _, _, rfl, rfl, (by show 2 ≤ sizeLine; decide), fun p hp => ?_⟩
          refine kk p _ hp (same_new hp) ⟨_, _, upd_same, ?_, ?_⟩ <;> omega
theorem scT : FnScope ["_law_feed_here", "_law_many", "_law_digit", "_law_one"] ["_law_feed_here", "_law_many"] (defScope sTake) := ⟨rfl, rfl, rfl, by decide +kernel, rfl, by decide +kernel, by decide +kernel⟩
theorem ok_take {f : Addr} {fd : FuncData} (F : Fun K "_law_take" "_law_take" sTake f fd) : FnOk P w K mg base CX0 1 f fd ["_law_feed_here", "_law_many"] spTake := by
  refine F.ok scT (fun vs H Q E h => ?_) (fun cdv A outer s H vs Q E hr h => ?_)
  · obtain ⟨a, m, rfl, _⟩ := h
    rfl
  · obtain ⟨a, m, rfl, ⟨x, y, hH, y0, y1⟩, m0, sm, k⟩ := h
    refine ⟨_, pss_cons (ps_if (pt_cmpR op_gt (pe_ix ix_list (pv 0) pe_int (fun _ _ => rfl)) pe_int (nomark _))
        (pss_cons (ps_set (i := 2) scT.nd rfl (Or.inl rfl) (pe_op op_mod (pe_ix ix_list (pv 0) pe_int (fun _ _ => rfl)) (pv 1)))
        (pss_cons (ps_asg (pe_op op_fdivW (pe_ix ix_list (pv 0) pe_int (fun _ _ => rfl)) (pv 1)) (pg_sub (pv 0) pe_int set_list))
        (pss_one (ps_ret (pv 2))))) pss_nil)
      (pss_cons (ps_set (i := 3) scT.nd rfl (Or.inl rfl) (pe_op op_mod (pe_op op_mulW (pe_ix ix_list (pv 0) pe_int (fun _ _ => rfl)) pe_int) pe_int))
      (pss_cons (ps_asg (pe_op op_add (pe_op op_mod (pe_op op_add (pe_op op_mulW (pv 3) pe_int) pe_int) pe_int) pe_int) (pg_sub (pv 0) pe_int set_list))
      (pss_one (ps_ret (pe_op op_mod (pe_op op_fdivW (pe_op op_add (pe_op op_mulW (pv 3) pe_int) (pe_ix ix_list (pv 0) pe_int (fun _ _ => rfl))) pe_int) (pv 1)))))), ?_⟩
    have q0 : ∀ {u v : V} {H' : Hp}, H' a = some (.lst [u, v]) → SqL K H' a [u, v] := fun h => SqL.of h
    have keep : ∀ o, ∀ b u, b ≠ a → H b = some u → upd H a o b = some u := fun o b u n e => by rw [upd_ne n]; exact e
    refine ⟨_, rfl, a, _, 0, .int x, rfl, rfl, SqL.of hH, rfl, _, _, rfl, rfl, _, rfl, ?_⟩
    refine iteD (fun hx => ?_) (fun hx => ?_)
    · refine ⟨_, rfl, a, _, 0, .int x, rfl, rfl, SqL.of hH, rfl, _, rfl, _, _, rfl, rfl, m0, ?_⟩
      refine ⟨_, rfl, a, _, 0, .int x, rfl, rfl, SqL.of hH, rfl, _, rfl, _, _, rfl, rfl, ⟨m0, Sm.log sm (by decide) (by decide)⟩, _, rfl, a, _, _, 0, rfl, rfl, hH, rfl, _, rfl, ?_⟩
      exact k _ _ (Int.emod_nonneg _ (by omega)) (Int.emod_lt_of_pos _ m0) ⟨⟨_, _, upd_same, y0, y1⟩, keep _⟩
    · refine ⟨_, rfl, a, _, 1, .int y, rfl, rfl, SqL.of hH, rfl, _, _, rfl, rfl, Sm.mulW (n := 32) (m := 16) (by show y.natAbs < 4294967296; omega) (by decide) (by decide) (by decide) (by decide), _, _, rfl, rfl, (by show (0 : Int) < 2147483647; decide), ?_⟩
      have s31 : ∀ z : Int, Sm 31 (z % 2147483647) := fun z => by show (z % 2147483647).natAbs < 2147483648; omega
      refine ⟨_, rfl, _, _, rfl, rfl, (s31 _).mulW (m := 16) (by decide) (by decide) (by decide) (by decide), _, _, rfl, rfl, _, _, rfl, rfl, (by show (0 : Int) < 2147483399; decide), _, _, rfl, rfl, _, rfl, a, _, _, 1, rfl, rfl, hH, rfl, ?_⟩
      refine ⟨_, rfl, _, _, rfl, rfl, (s31 _).mulW (m := 31) (by decide) (by decide) (by decide) (by decide), _, rfl, a, _, 1, _, rfl, rfl, SqL.of upd_same, rfl, _, _, rfl, rfl, _, _, rfl, rfl, ⟨by decide, by decide⟩, _, rfl, _, _, rfl, rfl, m0, ?_⟩
      refine k _ _ (Int.emod_nonneg _ (by omega)) (Int.emod_lt_of_pos _ m0) ⟨⟨_, _, upd_same, ?_, ?_⟩, keep _⟩ <;> omega
end
end R1

namespace R1
open PySem L2 L3
open C8 (pss_cut tCut)
abbrev sSame : Stmt := top 19
abbrev sThing : Stmt := top 20
abbrev sTold : Stmt := top 21
abbrev sSorts : Stmt := top 22
abbrev sParts : Stmt := top 23
abbrev sLaw : Stmt := top 24
/-! ### the errors' classes -/
/-- a class whose __init__ stores fields -/
structure ErrF (P : Program) (K : PySem.W.Frag) (mg : Str → Option Value) (C fI : Addr) (nm : Str) (fs : List Str) : Prop where
  g : mg nm = some (.ref C)
  J : ∀ w, InitOk P w K mg C fI fs
  V : ∃ (B newId initId : String) (bmB bm : List Value), ExcBaseFacts B newId initId bmB ∧ Above B bm ∧ ∃ nm q N bs hdct sn sub ab col dd k0 k1 k2 k3 k5, K.lookup C = some (excClassObj nm q C N bs bm hdct sn sub ab col dd k0 k1 k2 k3 k5 newId)
  kC : PySem.W.keepIn K (.ref C) = true
  iC : PySem.W.findIn K (.ref C) "__init__" = some (some (.ref fI))
  tI : PySem.W.typeIn K (.ref fI) = some (.type "function")
  ex : ExcC K C
  xf : XfC K C
  no : ∀ f ∈ fs, PySem.W.findIn K (.ref C) f = some none
/-- a class without an __init__ -/
structure ErrS (K : PySem.W.Frag) (mg : Str → Option Value) (C : Addr) (nm : Str) : Prop where
  g : mg nm = some (.ref C)
  q : PySem.W.excIn K C [.type "ValueError", .type "Exception", .type "BaseException", .type "object"] "ValueError.__new__" = true
  kC : PySem.W.keepIn K (.ref C) = true
  ex : ExcC K C
section
variable {X : Cx} {C fI : Addr} {nm : Str} {fs : List Str} {e : Expr} {es : List Expr} {ta : TA} {p pos : Pos}
theorem pe_errF (T : ErrF X.prog X.K X.mg C fI nm fs) (hr : Room 1 X.A) (hg : Gl X nm) (ha : PA X (e :: es) ta) (hdb : (nm == ("__debug__" : Str)) = false := by decide) (he : starEach (e :: es) X.env = (false, eval e X.env) :: starEach es X.env := by rfl)
    (hpl : (backTo pos (starEach es X.env)).any (·.1) = false := by rfl) : PE X (.Call (.Name nm p) (e :: es) [] pos) (tMkV C fs ta) := by
  obtain ⟨B, newId, initId, bmB, bm, F, A, V⟩ := T.V
  exact pe_mkV (T.J X.w) F A V T.kC T.iC T.tI hr hg T.g ha hdb he hpl
theorem pe_errS (T : ErrS X.K X.mg C nm) (hg : Gl X nm) (hdb : (nm == ("__debug__" : Str)) = false := by decide) : PE X (.Call (.Name nm p) [] [] pos) (fun _ H Q => ∀ a, H a = none → Q (.ref a) (upd H a (exo a C none))) :=
  pe_mkV0 PySem.F.excBase_ValueError T.q T.g T.kC hg hdb
end
structure Txt (P : Program) (K : PySem.W.Frag) (mg : Str → Option Value) (C fI : Nat → Addr) (HE : Addr) : Prop where
  e0 : ErrF P K mg (C 0) (fI 0) "InvalidName" ["name"]
  e1 : ErrF P K mg (C 1) (fI 1) "InvalidText" ["row"]
  e2 : ErrF P K mg (C 2) (fI 2) "InvalidDeed" ["name"]
  e3 : ErrS K mg (C 3) "NoRatio"
  e4 : ErrS K mg (C 4) "OtherChoices"
  e5 : ErrF P K mg (C 5) (fI 5) "Taken" ["name"]
  e6 : ErrF P K mg (C 6) (fI 6) "Unready" ["where", "name"]
  e7 : ErrF P K mg (C 7) (fI 7) "Opened" ["name"]
  e8 : ErrF P K mg (C 8) (fI 8) "NotOpen" ["name"]
  e9 : ErrF P K mg (C 9) (fI 9) "TooWide" ["deed", "row"]
  e10 : ErrS K mg (C 10) "NotNumber"
  e11 : ErrF P K mg (C 11) (fI 11) "Clash" ["name"]
  e12 : ErrS K mg (C 12) "InvalidCommand"
  e13 : ErrF P K mg (C 13) (fI 13) "UnknownName" ["name"]
  gH : mg "HadnotError" = some (.ref HE)
  kk : ∀ i j, i < 14 → j < 14 → PySem.W.kitOne K (.ref (C i)) (.ref (C j)) = some (decide (i = j))
  kH : ∀ i, i < 14 → PySem.W.kitOne K (.ref (C i)) (.ref HE) = some (decide (i < 13))
  kV : ∀ i, i < 14 → PySem.W.kitOne K (.ref (C i)) (.type "ValueError") = some (decide (i < 13))
  kK : ∀ i, i < 14 → PySem.W.kitOne K (.ref (C i)) (.type "KeyError") = some (decide (i = 13))
  zIsi : mg "isinstance" = none
  zVal : mg "ValueError" = none
  zKey : mg "KeyError" = none
  zRepr : mg "repr" = none
  zLen : mg "len" = none
  zAbs : mg "abs" = none
  zMax : mg "max" = none
  zMin : mg "min" = none
  zRng : mg "range" = none
  zEnu : mg "enumerate" = none
theorem Txt.ex {P : Program} {K : PySem.W.Frag} {mg : Str → Option Value} {C fI : Nat → Addr} {HE : Addr} (T : Txt P K mg C fI HE) : ∀ i, i < 14 → ExcC K (C i)
  | 0, _ => T.e0.ex | 1, _ => T.e1.ex | 2, _ => T.e2.ex | 3, _ => T.e3.ex | 4, _ => T.e4.ex | 5, _ => T.e5.ex | 6, _ => T.e6.ex | 7, _ => T.e7.ex | 8, _ => T.e8.ex | 9, _ => T.e9.ex | 10, _ => T.e10.ex | 11, _ => T.e11.ex | 12, _ => T.e12.ex | 13, _ => T.e13.ex
/-- the fields of the i-th error, the values that it keeps -/
def fld (x1 x2 : V) : Nat → Option (List (Str × V))
  | 1 => some (excFields ["row"] [x1])
  | 3 => none
  | 4 => none
  | 6 => some (excFields ["where", "name"] [x1, x2])
  | 9 => some (excFields ["deed", "row"] [x1, x2])
  | 10 => none
  | 12 => none
  | _ => some (excFields ["name"] [x1])
def kept (x1 x2 : V) : Nat → List V
  | 3 => []
  | 4 => []
  | 6 => [x1, x2]
  | 9 => [x1, x2]
  | 10 => []
  | 12 => []
  | _ => [x1]
theorem ExAt.same {H H' : Hp} {a C : Addr} {fs : Option (List (Str × V))} (s : Same H H') (h : ExAt H a C fs) : ExAt H' a C fs := by
  cases fs with
  | none => exact s _ _ h
  | some l => exact let ⟨d, h1, h2⟩ := h; ⟨d, s _ _ h1, s _ _ h2⟩
section
variable {P : Program} {w : World} {K : PySem.W.Frag} {mg : Str → Option Value} {base : Heap} {C fI : Nat → Addr} {HE : Addr}
theorem scSm : FnScope ["_law_one", "_law_other"] ["_law_one", "_law_other"] (defScope sSame) := ⟨rfl, rfl, rfl, by decide +kernel, rfl, by decide +kernel, by decide +kernel⟩
theorem ok_same {f : Addr} {fd : FuncData} (F : Fun K "_law_same" "_law_same" sSame f fd) (zRepr : mg "repr" = none) : FnG P w K mg base CX0 1 f fd ["_law_one", "_law_other"] (spSame K) := by
  refine gok F scSm (fun vs H Q E h => ?_) (fun cdv A outer s H vs Q E g hr h => ?_)
  · obtain ⟨x, y, d, e, rfl, _⟩ := h
    rfl
  · obtain ⟨x, y, d, e, rfl, h1, h2, f1, f2, k⟩ := h
    have hu := hr.units
    refine ⟨_, pss_one (ps_ret (pe_cmpR op_eq (pe_callB (call_repr g hu) (by rfl) zRepr PyProof.Rows.boot_repr (pa_cons (pv 0) pa_nil)) (pe_callB (call_repr g hu) (by rfl) zRepr PyProof.Rows.boot_repr (pa_cons (pv 1) pa_nil)) (nomark _))), ?_⟩
    exact ⟨_, rfl, _, d, rfl, h1, f1, _, rfl, _, e, rfl, h2, f2, rfl, k⟩
end
/-! ### the eleven values -/
def okD (d : PyData) : Bool := d.showable && (!d.hasDict && (decide (d.depth ≤ 60) && decide (d.shown.length ≤ 1000)))
theorem okD_parts {d : PyData} (h : okD d = true) : d.showable = true ∧ d.hasDict = false ∧ d.depth ≤ 60 ∧ d.shown.length ≤ 1000 := by
  unfold okD at h
  simp only [Bool.and_eq_true, Bool.not_eq_true', decide_eq_true_eq] at h
  exact h
theorem fine_of {d : PyData} (h : okD d = true) : Fine d := by
  obtain ⟨h1, h2, h3, h4⟩ := okD_parts h
  have h5 : d.shown.length ≤ sizeLine := Nat.le_trans h4 (by decide)
  cases d with
  | none => exact True.intro
  | bool b => exact True.intro
  | int i =>
    have h6 : decide (i.natAbs.log2 < 1920) = true := by simpa only [PyData.showable] using h1
    exact of_decide_eq_true (p := i.natAbs.log2 < 1920) h6
  | str x =>
    show (reprText x).length ≤ sizeLine
    simpa only [PyData.shown] using h5
  | list l => exact ⟨h1, h2, h3, h5⟩
  | tuple l => exact ⟨h1, h2, h3, h5⟩
  | dict l => exact ⟨h1, h2, h3, h5⟩
def things : List PyData := [.none, .bool true, .int 0, .int 1, .str "", .str "a", .str "A b", .tuple [], .tuple [.int 1, .tuple [.str "x", .none]], .int (10 ^ 30), .int (-5)]
theorem things_ok : things.all okD = true := by decide +kernel
theorem things_ok1 : things.all (fun d => okD (.list [d])) = true := by decide +kernel
theorem things_ok2 : things.all (fun d => things.all fun e => okD (.list [d, e])) = true := by decide +kernel
theorem nil_ok : okD (.list []) = true := by decide +kernel
/-- one of the eleven values -/
def spThing (K : PySem.W.Frag) : Sp := fun vs H Q _ => ∃ a : Addr, vs = [.ref a] ∧ FeedAt H a ∧ ∀ (x : V) (d : PyData) (H' : Hp), Dr a H H' → (∀ H2 : Hp, (∀ b o, b ≠ a → H' b = some o → H2 b = some o) → Dp K H2 x d) → d ∈ things → Q x H'
section
variable {P : Program} {w : World} {K : PySem.W.Frag} {mg : Str → Option Value} {base : Heap} {C fI : Nat → Addr} {HE : Addr}
theorem scTh : FnScope ["_law_feed_here", "_law_some"] ["_law_feed_here"] (defScope sThing) := ⟨rfl, rfl, rfl, by decide +kernel, rfl, by decide +kernel, by decide +kernel⟩
theorem ok_thing {f fT : Addr} {fd fdT : FuncData} (F : Fun K "_law_thing" "_law_thing" sThing f fd) (FT : Fun K "_law_take" "_law_take" sTake fT fdT) (bT : Binds K fdT ["_law_feed_here", "_law_many"] []) (gT : mg "_law_take" = some (.ref fT)) :
    FnOk P w K mg base CX0 2 f fd ["_law_feed_here"] (spThing K) := by
  have GT : FnOk P w K mg base CX0 1 fT fdT ["_law_feed_here", "_law_many"] spTake := ok_take FT
  refine F.ok scTh (fun vs H Q E h => ?_) (fun cdv A outer s H vs Q E hr h => ?_)
  · obtain ⟨a, rfl, _⟩ := h
    rfl
  · obtain ⟨a, rfl, hf, k⟩ := h
    refine ⟨_, pss_cons (ps_set (i := 1) scTh.nd rfl (.inl rfl) (pe_lst (pa_cons pe_non (pa_cons pe_bl (pa_cons pe_int (pa_cons pe_int (pa_cons pe_str (pa_cons pe_str (pa_cons pe_str (pa_cons (pe_tup pa_nil) (pa_cons (pe_tup (pa_cons pe_int (pa_cons (pe_tup (pa_cons pe_str (pa_cons pe_non pa_nil))) pa_nil)))
        (pa_cons (pe_op op_pow pe_int pe_int) (pa_cons (pe_un un_neg pe_int) pa_nil)))))))))))))
      (pss_one (ps_ret (pe_ix ix_list (pv 1) (pe_call GT hr (by rfl) gT FT.kp bT .nil pass0 (pa_cons (pv 0) (pa_cons pe_int pa_nil))) (fun _ _ => rfl)))), ?_⟩
    refine ⟨(show 0 ≤ sizeLine by decide), fun p1 h1 => ⟨(show 2 ≤ sizeLine by decide), fun p2 h2 => ⟨(show 2 ≤ sizeLine by decide), fun p3 h3 => ⟨_, _, rfl, rfl, ⟨by decide, by decide, by decide⟩, _, rfl, (by show 11 ≤ sizeLine; decide), fun l hl => ?_⟩⟩⟩⟩
    have s1 := same_new (o := .tup []) h1
    have s2 := same_new (o := .tup [.str "x", .non]) h2
    have s3 := same_new (o := .tup [.int 1, .ref p2]) h3
    have s4 := same_new (o := .lst [.non, .bl true, .int 0, .int 1, .str "", .str "a", .str "A b", .ref p1, .ref p3, .int ((10 : Int) ^ (30 : Int).toNat), .int (-5)]) hl
    have sS := ((s1.trans s2).trans s3).trans s4
    obtain ⟨u, v, ha, hv⟩ := hf
    refine ⟨_, rfl, _, rfl, a, 11, rfl, ⟨u, v, sS _ _ ha, hv⟩, by decide, (by show (11 : Int).natAbs < 2 ^ 200; decide), fun r H' r0 r1 d => ?_⟩
    have dr : Dr a H H' := ⟨d.fd, fun b o n e => d.sm b o n (sS b o e)⟩
    have nl : l ≠ a := (ne_of_none (sS _ _ ha |> fun _ => ((s1.trans s2).trans s3) _ _ ha) hl).symm
    have n1 : p1 ≠ a := (ne_of_none ha h1).symm
    have n2 : p2 ≠ a := (ne_of_none (s1 _ _ ha) h2).symm
    have n3 : p3 ≠ a := (ne_of_none ((s1.trans s2) _ _ ha) h3).symm
    have t1 : H' p1 = some (.tup []) := d.sm _ _ n1 (((s2.trans s3).trans s4) _ _ upd_same)
    have t2 : H' p2 = some (.tup [.str "x", .non]) := d.sm _ _ n2 ((s3.trans s4) _ _ upd_same)
    have t3 : H' p3 = some (.tup [.int 1, .ref p2]) := d.sm _ _ n3 (s4 _ _ upd_same)
    have tl : H' l = some (.lst [.non, .bl true, .int 0, .int 1, .str "", .str "a", .str "A b", .ref p1, .ref p3, .int ((10 : Int) ^ (30 : Int).toNat), .int (-5)]) := d.sm _ _ nl upd_same
    have go : ∀ (n : Nat) (x : V) (e : PyData), r = (n : Int) → [V.non, .bl true, .int 0, .int 1, .str "", .str "a", .str "A b", .ref p1, .ref p3, .int ((10 : Int) ^ (30 : Int).toNat), .int (-5)][n]? = some x → (∀ H2 : Hp, (∀ b o, b ≠ a → H' b = some o → H2 b = some o) → Dp K H2 x e) → e ∈ things → 
        ∃ (l0 : Addr) (xs : List V) (i : Int) (y : V), V.ref l = .ref l0 ∧ V.int r = .int i ∧ SqL K H' l0 xs ∧ atI xs i = some y ∧ Q y H' := fun n x e hr hx hd he => ⟨l, _, r, x, rfl, rfl, SqL.of tl, at_of hr hx, k x e H' dr hd he⟩
    have hn : r = ((r.toNat : Nat) : Int) := by omega
    have hlt : r.toNat < 11 := by omega
    generalize r.toNat = n at hn hlt
    suffices z : ∃ (l0 : Addr) (xs : List V) (i : Int) (y : V), V.ref l = .ref l0 ∧ V.int r = .int i ∧ SqL K H' l0 xs ∧ atI xs i = some y ∧ Q y H' by exact z
    match n, hn, hlt with
    | 0, hn, _ => exact go 0 _ _ hn rfl (fun _ _ => .non) (by simp [things])
    | 1, hn, _ => exact go 1 _ _ hn rfl (fun _ _ => .bl _) (by simp [things])
    | 2, hn, _ => exact go 2 _ _ hn rfl (fun _ _ => .int _) (by simp [things])
    | 3, hn, _ => exact go 3 _ _ hn rfl (fun _ _ => .int _) (by simp [things])
    | 4, hn, _ => exact go 4 _ _ hn rfl (fun _ _ => .str _) (by simp [things])
    | 5, hn, _ => exact go 5 _ _ hn rfl (fun _ _ => .str _) (by simp [things])
    | 6, hn, _ => exact go 6 _ _ hn rfl (fun _ _ => .str _) (by simp [things])
    | 7, hn, _ => exact go 7 _ _ hn rfl (fun _ q => .tup (SqT.of (q _ _ n1 t1)) .nil) (by simp [things])
    | 8, hn, _ => exact go 8 _ _ hn rfl (fun _ q => .tup (SqT.of (q _ _ n3 t3)) (.cons (.int _) (.cons (.tup (SqT.of (q _ _ n2 t2)) (.cons (.str _) (.cons .non .nil))) .nil))) (by simp [things])
    | 9, hn, _ => exact go 9 _ _ hn rfl (fun _ _ => .int _) (by simp [things])
    | 10, hn, _ => exact go 10 _ _ hn rfl (fun _ _ => .int _) (by simp [things])
end
end R1

namespace R1
open PySem L2 L3
open C8 (pss_cut tCut)
section
variable {P : Program} {w : World} {K : PySem.W.Frag} {mg : Str → Option Value} {base : Heap} {C fI : Nat → Addr} {HE : Addr}
/-! ### _law_sorts -/
def sorts (i : Nat) : List V := [.bl (decide (i = 0)), .bl (decide (i = 1)), .bl (decide (i = 2)), .bl (decide (i = 3)), .bl (decide (i = 4)), .bl (decide (i = 5)), .bl (decide (i = 6)), .bl (decide (i = 7)), .bl (decide (i = 8)), .bl (decide (i = 9)), .bl (decide (i = 10)), .bl (decide (i = 11)), .bl (decide (i = 12)), .bl (decide (i = 13))]
def spSorts (C : Nat → Addr) : Sp := fun vs H Q _ => ∃ (a : Addr) (i : Nat) (fs : Option (List (Str × V))), vs = [.ref a] ∧ i < 14 ∧ ExAt H a (C i) fs ∧ ∀ p, H p = none → Q (.ref p) (upd H p (.lst (sorts i)))
theorem scSo : FnScope ["_law_error"] ["_law_error"] (defScope sSorts) := ⟨rfl, rfl, rfl, by decide +kernel, rfl, by decide +kernel, by decide +kernel⟩
/-- isinstance(e, C) where e stands in the slot i -/
theorem pe_is {X : Cx} {x y : Str} {p p1 p2 p3 : Pos} {a D : Addr} {fs : Option (List (Str × V))} {u : Value} {c : V} {b : Bool} (i : Nat) (ex : ExcC X.K D) (kit : PySem.W.kitOne X.K (.ref D) u = some b) (k : ClsV c u) (hN : X.N[i]? = some x) (hv : Vis X.env.scope x) (z : X.mg "isinstance" = none) (hg : Gl X "isinstance")
    (hy : PE X (.Name y p3) (tC c)) (hd : (x == ("__debug__" : Str)) = false := by decide) (hcd : (x == ("__classdict__" : Str)) = false := by decide) :
    PE X (.Call (.Name "isinstance" p) [.Name x p2, .Name y p3] [] p1) (fun σ H Q => σ[i]? = some (some (.ref a)) ∧ ExAt H a D fs ∧ Q (.bl b) H) :=
  pe_imp (pe_callB call_isX hg z PyProof.Rows.boot_isinstance (pa_cons (pe_var hN hv hd hcd) (pa_cons hy pa_nil))) fun σ H Q ⟨h1, h2, h3⟩ => ⟨_, h1, a, D, fs, c, u, b, rfl, h2, ex, k, kit, h3⟩
theorem ok_sorts {f : Addr} {fd : FuncData} (F : Fun K "_law_sorts" "_law_sorts" sSorts f fd) (T : Txt P K mg C fI HE) : FnOk P w K mg base CX0 1 f fd ["_law_error"] (spSorts C) := by
  refine F.ok scSo (fun vs H Q E h => ?_) (fun cdv A outer s H vs Q E hr h => ?_)
  · obtain ⟨a, i, fs, rfl, _⟩ := h
    rfl
  · obtain ⟨a, i, fs, rfl, hi, he, k⟩ := h
    have ex := T.ex i hi
    have kk := fun j hj => T.kk i j hi hj
    refine ⟨_, pss_one (ps_ret (pe_lst
      (pa_cons (pe_is (a := a) (fs := fs) 0 ex (kk 0 (by decide)) (.own _) rfl (.inl rfl) T.zIsi (by rfl) (pe_glob (by rfl) T.e0.g rfl))
      (pa_cons (pe_is (a := a) (fs := fs) 0 ex (kk 1 (by decide)) (.own _) rfl (.inl rfl) T.zIsi (by rfl) (pe_glob (by rfl) T.e1.g rfl))
      (pa_cons (pe_is (a := a) (fs := fs) 0 ex (kk 2 (by decide)) (.own _) rfl (.inl rfl) T.zIsi (by rfl) (pe_glob (by rfl) T.e2.g rfl))
      (pa_cons (pe_is (a := a) (fs := fs) 0 ex (kk 3 (by decide)) (.own _) rfl (.inl rfl) T.zIsi (by rfl) (pe_glob (by rfl) T.e3.g rfl))
      (pa_cons (pe_is (a := a) (fs := fs) 0 ex (kk 4 (by decide)) (.own _) rfl (.inl rfl) T.zIsi (by rfl) (pe_glob (by rfl) T.e4.g rfl))
      (pa_cons (pe_is (a := a) (fs := fs) 0 ex (kk 5 (by decide)) (.own _) rfl (.inl rfl) T.zIsi (by rfl) (pe_glob (by rfl) T.e5.g rfl))
      (pa_cons (pe_is (a := a) (fs := fs) 0 ex (kk 6 (by decide)) (.own _) rfl (.inl rfl) T.zIsi (by rfl) (pe_glob (by rfl) T.e6.g rfl))
      (pa_cons (pe_is (a := a) (fs := fs) 0 ex (kk 7 (by decide)) (.own _) rfl (.inl rfl) T.zIsi (by rfl) (pe_glob (by rfl) T.e7.g rfl))
      (pa_cons (pe_is (a := a) (fs := fs) 0 ex (kk 8 (by decide)) (.own _) rfl (.inl rfl) T.zIsi (by rfl) (pe_glob (by rfl) T.e8.g rfl))
      (pa_cons (pe_is (a := a) (fs := fs) 0 ex (kk 9 (by decide)) (.own _) rfl (.inl rfl) T.zIsi (by rfl) (pe_glob (by rfl) T.e9.g rfl))
      (pa_cons (pe_is (a := a) (fs := fs) 0 ex (kk 10 (by decide)) (.own _) rfl (.inl rfl) T.zIsi (by rfl) (pe_glob (by rfl) T.e10.g rfl))
      (pa_cons (pe_is (a := a) (fs := fs) 0 ex (kk 11 (by decide)) (.own _) rfl (.inl rfl) T.zIsi (by rfl) (pe_glob (by rfl) T.e11.g rfl))
      (pa_cons (pe_is (a := a) (fs := fs) 0 ex (kk 12 (by decide)) (.own _) rfl (.inl rfl) T.zIsi (by rfl) (pe_glob (by rfl) T.e12.g rfl))
      (pa_cons (pe_is (a := a) (fs := fs) 0 ex (kk 13 (by decide)) (.own _) rfl (.inl rfl) T.zIsi (by rfl) (pe_glob (by rfl) T.e13.g rfl))
      pa_nil)))))))))))))))), ?_⟩
    exact ⟨rfl, he, rfl, he, rfl, he, rfl, he, rfl, he, rfl, he, rfl, he, rfl, he, rfl, he, rfl, he, rfl, he, rfl, he, rfl, he, rfl, he, (show 14 ≤ sizeLine by decide), fun p hp => k p hp⟩
theorem ifT {c : Bool} {A B : Prop} (h : c = true) (a : A) : if c = true then A else B := by rw [if_pos h]; exact a
theorem ifF {c : Bool} {A B : Prop} (h : c = false) (b : B) : if c = true then A else B := by rw [if_neg (by rw [h]; decide)]; exact b
/-! ### _law_parts -/
def spParts (C : Nat → Addr) : Sp := fun vs H Q _ => ∃ (e : Addr) (i : Nat) (x1 x2 : V), vs = [.ref e, .int i] ∧ i < 13 ∧ ExAt H e (C i) (fld x1 x2 i) ∧ ∀ p H', H p = none → Same H H' → H' p = some (.lst (kept x1 x2 i)) → Q (.ref p) H'
theorem scPa : FnScope ["_law_error", "_law_at"] ["_law_error", "_law_at"] (defScope sParts) := ⟨rfl, rfl, rfl, by decide +kernel, rfl, by decide +kernel, by decide +kernel⟩
theorem look1 (f : Str) (x : V) : (excFields [f] [x]).lookup f = some x := by
  show List.lookup f [(f, x)] = _
  rw [lk_cons, if_pos rfl]
theorem look2 (f g : Str) (x y : V) : (excFields [f, g] [x, y]).lookup g = some y := by
  show List.lookup g [(g, y), (f, x)] = _
  rw [lk_cons, if_pos rfl]
theorem look3 (f g : Str) (x y : V) (h : ¬ f = g) : (excFields [f, g] [x, y]).lookup f = some x := by
  show List.lookup f [(g, y), (f, x)] = _
  rw [lk_cons, if_neg h, lk_cons, if_pos rfl]
theorem ok_parts {f : Addr} {fd : FuncData} (F : Fun K "_law_parts" "_law_parts" sParts f fd) (T : Txt P K mg C fI HE) : FnOk P w K mg base CX0 1 f fd ["_law_error", "_law_at"] (spParts C) := by
  refine F.ok scPa (fun vs H Q E h => ?_) (fun cdv A outer s H vs Q E hr h => ?_)
  · obtain ⟨a, i, x1, x2, rfl, _⟩ := h
    rfl
  · obtain ⟨e, i, x1, x2, rfl, hi, he, k⟩ := h
    refine ⟨_, pss_cons (ps_if (pt_cmpR op_in_seq (pv 1) (pe_tup (pa_cons pe_int (pa_cons pe_int (pa_cons pe_int (pa_cons pe_int (pa_cons pe_int (pa_cons pe_int pa_nil))))))) (by rfl)) (pss_one (ps_ret (pe_lst (pa_cons (pe_xv (pv 0)) pa_nil)))) pss_nil)
      (pss_cons (ps_if (pt_cmpR op_eq (pv 1) pe_int (nomark _)) (pss_one (ps_ret (pe_lst (pa_cons (pe_xv (pv 0)) pa_nil)))) pss_nil)
      (pss_cons (ps_if (pt_cmpR op_eq (pv 1) pe_int (nomark _)) (pss_one (ps_ret (pe_lst (pa_cons (pe_xv (pv 0)) (pa_cons (pe_xv (pv 0)) pa_nil))))) pss_nil)
      (pss_one (ps_ret (pe_ifExp (pt_cmpR op_eq (pv 1) pe_int (nomark _)) (pe_lst (pa_cons (pe_xv (pv 0)) (pa_cons (pe_xv (pv 0)) pa_nil))) (pe_lst pa_nil)))))), ?_⟩
    refine ⟨_, rfl, (show 6 ≤ sizeLine by decide), fun t ht => ⟨t, _, rfl, .inr (SqT.of upd_same), rfl, rfl, _, rfl, ?_⟩⟩
    have s1 := same_new (o := .tup [.int 0, .int 2, .int 5, .int 7, .int 8, .int 11]) ht
    have he' := ExAt.same s1 he
    match i, hi, he, he', k with
    | 0, _, he, he', k => exact ifT (by decide) ⟨_, rfl, e, C 0, _, x1, rfl, he', T.e0.xf, T.e0.no _ (by simp), look1 _ _, (show 1 ≤ sizeLine by decide), fun p hp => k p _ (s1.free hp) (s1.trans (same_new hp)) upd_same⟩
    | 1, _, he, he', k => exact ifF (by decide) ⟨_, rfl, rfl, _, rfl, ifT (by decide) ⟨_, rfl, e, C 1, _, x1, rfl, he', T.e1.xf, T.e1.no _ (by simp), look1 _ _, (show 1 ≤ sizeLine by decide), fun p hp => k p _ (s1.free hp) (s1.trans (same_new hp)) upd_same⟩⟩
    | 2, _, he, he', k => exact ifT (by decide) ⟨_, rfl, e, C 2, _, x1, rfl, he', T.e2.xf, T.e2.no _ (by simp), look1 _ _, (show 1 ≤ sizeLine by decide), fun p hp => k p _ (s1.free hp) (s1.trans (same_new hp)) upd_same⟩
    | 3, _, he, he', k => exact ifF (by decide) ⟨_, rfl, rfl, _, rfl, ifF (by decide) ⟨_, rfl, rfl, _, rfl, ifF (by decide) ⟨_, rfl, rfl, _, rfl, ifF (by decide) ⟨(show 0 ≤ sizeLine by decide), fun p hp => k p _ (s1.free hp) (s1.trans (same_new hp)) upd_same⟩⟩⟩⟩
    | 4, _, he, he', k => exact ifF (by decide) ⟨_, rfl, rfl, _, rfl, ifF (by decide) ⟨_, rfl, rfl, _, rfl, ifF (by decide) ⟨_, rfl, rfl, _, rfl, ifF (by decide) ⟨(show 0 ≤ sizeLine by decide), fun p hp => k p _ (s1.free hp) (s1.trans (same_new hp)) upd_same⟩⟩⟩⟩
    | 5, _, he, he', k => exact ifT (by decide) ⟨_, rfl, e, C 5, _, x1, rfl, he', T.e5.xf, T.e5.no _ (by simp), look1 _ _, (show 1 ≤ sizeLine by decide), fun p hp => k p _ (s1.free hp) (s1.trans (same_new hp)) upd_same⟩
    | 6, _, he, he', k => exact ifF (by decide) ⟨_, rfl, rfl, _, rfl, ifF (by decide) ⟨_, rfl, rfl, _, rfl, ifT (by decide) ⟨_, rfl, e, C 6, _, x1, rfl, he', T.e6.xf, T.e6.no _ (by simp), look3 _ _ _ _ (by decide +kernel), _, rfl, e, C 6, _, x2, rfl, he', T.e6.xf, T.e6.no _ (by simp), look2 _ _ _ _, (show 2 ≤ sizeLine by decide), fun p hp => k p _ (s1.free hp) (s1.trans (same_new hp)) upd_same⟩⟩⟩
    | 7, _, he, he', k => exact ifT (by decide) ⟨_, rfl, e, C 7, _, x1, rfl, he', T.e7.xf, T.e7.no _ (by simp), look1 _ _, (show 1 ≤ sizeLine by decide), fun p hp => k p _ (s1.free hp) (s1.trans (same_new hp)) upd_same⟩
    | 8, _, he, he', k => exact ifT (by decide) ⟨_, rfl, e, C 8, _, x1, rfl, he', T.e8.xf, T.e8.no _ (by simp), look1 _ _, (show 1 ≤ sizeLine by decide), fun p hp => k p _ (s1.free hp) (s1.trans (same_new hp)) upd_same⟩
    | 9, _, he, he', k => exact ifF (by decide) ⟨_, rfl, rfl, _, rfl, ifF (by decide) ⟨_, rfl, rfl, _, rfl, ifF (by decide) ⟨_, rfl, rfl, _, rfl, ifT (by decide) ⟨_, rfl, e, C 9, _, x1, rfl, he', T.e9.xf, T.e9.no _ (by simp), look3 _ _ _ _ (by decide +kernel), _, rfl, e, C 9, _, x2, rfl, he', T.e9.xf, T.e9.no _ (by simp), look2 _ _ _ _, (show 2 ≤ sizeLine by decide), fun p hp => k p _ (s1.free hp) (s1.trans (same_new hp)) upd_same⟩⟩⟩⟩
    | 10, _, he, he', k => exact ifF (by decide) ⟨_, rfl, rfl, _, rfl, ifF (by decide) ⟨_, rfl, rfl, _, rfl, ifF (by decide) ⟨_, rfl, rfl, _, rfl, ifF (by decide) ⟨(show 0 ≤ sizeLine by decide), fun p hp => k p _ (s1.free hp) (s1.trans (same_new hp)) upd_same⟩⟩⟩⟩
    | 11, _, he, he', k => exact ifT (by decide) ⟨_, rfl, e, C 11, _, x1, rfl, he', T.e11.xf, T.e11.no _ (by simp), look1 _ _, (show 1 ≤ sizeLine by decide), fun p hp => k p _ (s1.free hp) (s1.trans (same_new hp)) upd_same⟩
    | 12, _, he, he', k => exact ifF (by decide) ⟨_, rfl, rfl, _, rfl, ifF (by decide) ⟨_, rfl, rfl, _, rfl, ifF (by decide) ⟨_, rfl, rfl, _, rfl, ifF (by decide) ⟨(show 0 ≤ sizeLine by decide), fun p hp => k p _ (s1.free hp) (s1.trans (same_new hp)) upd_same⟩⟩⟩⟩
end
end R1

namespace R1
open PySem L2 L3
open C8 (pss_cut tCut)
/-- a row of the told errors: the error, what it names, what it keeps -/
def RowAt (H : Hp) (r C : Addr) (fs : Option (List (Str × V))) (vs : List V) : Prop := ∃ e l1 l2, H r = some (.tup [.ref e, .ref l1, .ref l2]) ∧ ExAt H e C fs ∧ H l2 = some (.lst vs)
theorem RowAt.same {H H' : Hp} {r C : Addr} {fs : Option (List (Str × V))} {vs : List V} (s : Same H H') (h : RowAt H r C fs vs) : RowAt H' r C fs vs := by
  obtain ⟨e, l1, l2, h1, h2, h3⟩ := h
  exact ⟨e, l1, l2, s _ _ h1, ExAt.same s h2, s _ _ h3⟩
/-- the reading of a row -/
def tRow (x1 x2 : V) (C : Addr) (fs : Option (List (Str × V))) (vs : List V) : TE := fun σ H Q => σ[1]? = some (some x1) ∧ σ[2]? = some (some x2) ∧ ∀ r H', Same H H' → RowAt H' r C fs vs → Q (.ref r) H'
theorem two_new {H : Hp} {a d : Addr} {o u : HO} (ha : H a = none) (hd : H d = none) (n : d ≠ a) : Same H (upd (upd H d u) a o) := (same_new hd).trans (same_new (by rw [upd_ne (Ne.symm n)]; exact ha))
section
variable {X : Cx} {x1 x2 : V} {C fI : Addr} {nm f g : Str} {j1 j2 : Nat} {p p1 p2 p3 p4 p5 p6 p7 p8 pos : Pos} {kk : Nat}
theorem row1 (T : ErrF X.prog X.K X.mg C fI nm [f]) (hr : Room 1 X.A) (hg : Gl X nm) (hN : X.N[1]? = some ("_law_one" : Str)) (hv : Vis X.env.scope "_law_one") (hdb : (nm == ("__debug__" : Str)) = false := by decide) (he : starEach [.Name "_law_one" p2] X.env = (false, eval (.Name "_law_one" p2) X.env) :: starEach [] X.env := by rfl) :
    PE X (.Tuple [.Call (.Name nm p1) [.Name "_law_one" p2] [] p3, .List [.Constant (.str f) j1 p4] p5, .List [.Name "_law_one" p6] p7] kk pos) (tRow x1 x2 C (some (excFields [f] [x1])) [x1]) := by
  refine pe_imp (pe_tup (pa_cons (pe_errF T hr hg (pa_cons (pe_var hN hv) pa_nil) hdb he) (pa_cons (pe_lst (pa_cons pe_str pa_nil)) (pa_cons (pe_lst (pa_cons (pe_var hN hv) pa_nil)) pa_nil)))) fun σ H Q ⟨h1, h2, k⟩ => ?_
  refine ⟨_, h1, rfl, (show 1 ≤ 900 by decide), fun a d ha hd n => ⟨(show 1 ≤ sizeLine by decide), fun q1 hq1 => ⟨_, h1, (show 1 ≤ sizeLine by decide), fun q2 hq2 => ⟨(show 3 ≤ sizeLine by decide), fun r hr => ?_⟩⟩⟩⟩
  have s1 := two_new (o := exo a C (some d)) (u := exd d (excFields [f] [x1])) ha hd n
  have s2 := same_new (o := .lst [.str f]) hq1
  have s3 := same_new (o := .lst [x1]) hq2
  have s4 := same_new (o := .tup [.ref a, .ref q1, .ref q2]) hr
  exact k r _ (((s1.trans s2).trans s3).trans s4) ⟨a, q1, q2, upd_same, ⟨d, ((s2.trans s3).trans s4) _ _ upd_same, ((s2.trans s3).trans s4) _ _ (by rw [upd_ne n]; exact upd_same)⟩, s4 _ _ upd_same⟩
theorem row2 (T : ErrF X.prog X.K X.mg C fI nm [f, g]) (hr : Room 1 X.A) (hg : Gl X nm) (hN : X.N[1]? = some ("_law_one" : Str)) (hv : Vis X.env.scope "_law_one") (hN2 : X.N[2]? = some ("_law_other" : Str)) (hv2 : Vis X.env.scope "_law_other") (hdb : (nm == ("__debug__" : Str)) = false := by decide)
    (he : starEach [.Name "_law_one" p2, .Name "_law_other" p8] X.env = (false, eval (.Name "_law_one" p2) X.env) :: starEach [.Name "_law_other" p8] X.env := by rfl) (hpl : (backTo p3 (starEach [.Name "_law_other" p8] X.env)).any (·.1) = false := by rfl) {p9 p10 : Pos} :
    PE X (.Tuple [.Call (.Name nm p1) [.Name "_law_one" p2, .Name "_law_other" p8] [] p3, .List [.Constant (.str f) j1 p4, .Constant (.str g) j2 p9] p5, .List [.Name "_law_one" p6, .Name "_law_other" p10] p7] kk pos) (tRow x1 x2 C (some (excFields [f, g] [x1, x2])) [x1, x2]) := by
  refine pe_imp (pe_tup (pa_cons (pe_errF T hr hg (pa_cons (pe_var hN hv) (pa_cons (pe_var hN2 hv2) pa_nil)) hdb he hpl) (pa_cons (pe_lst (pa_cons pe_str (pa_cons pe_str pa_nil))) (pa_cons (pe_lst (pa_cons (pe_var hN hv) (pa_cons (pe_var hN2 hv2) pa_nil))) pa_nil)))) fun σ H Q ⟨h1, h2, k⟩ => ?_
  refine ⟨_, h1, _, h2, rfl, (show 2 ≤ 900 by decide), fun a d ha hd n => ⟨(show 2 ≤ sizeLine by decide), fun q1 hq1 => ⟨_, h1, _, h2, (show 2 ≤ sizeLine by decide), fun q2 hq2 => ⟨(show 3 ≤ sizeLine by decide), fun r hr => ?_⟩⟩⟩⟩
  have s1 := two_new (o := exo a C (some d)) (u := exd d (excFields [f, g] [x1, x2])) ha hd n
  have s2 := same_new (o := .lst [.str f, .str g]) hq1
  have s3 := same_new (o := .lst [x1, x2]) hq2
  have s4 := same_new (o := .tup [.ref a, .ref q1, .ref q2]) hr
  exact k r _ (((s1.trans s2).trans s3).trans s4) ⟨a, q1, q2, upd_same, ⟨d, ((s2.trans s3).trans s4) _ _ upd_same, ((s2.trans s3).trans s4) _ _ (by rw [upd_ne n]; exact upd_same)⟩, s4 _ _ upd_same⟩
theorem row0 (T : ErrS X.K X.mg C nm) (hg : Gl X nm) (hdb : (nm == ("__debug__" : Str)) = false := by decide) :
    PE X (.Tuple [.Call (.Name nm p1) [] [] p2, .List [] p3, .List [] p4] kk pos) (tRow x1 x2 C none []) := by
  refine pe_imp (pe_tup (pa_cons (pe_errS T hg hdb) (pa_cons (pe_lst pa_nil) (pa_cons (pe_lst pa_nil) pa_nil)))) fun σ H Q ⟨h1, h2, k⟩ => ?_
  refine fun a ha => ⟨(show 0 ≤ sizeLine by decide), fun q1 hq1 => ⟨(show 0 ≤ sizeLine by decide), fun q2 hq2 => ⟨(show 3 ≤ sizeLine by decide), fun r hr => ?_⟩⟩⟩
  have s1 := same_new (o := exo a C none) ha
  have s2 := same_new (o := .lst []) hq1
  have s3 := same_new (o := .lst []) hq2
  have s4 := same_new (o := .tup [.ref a, .ref q1, .ref q2]) hr
  exact k r _ (((s1.trans s2).trans s3).trans s4) ⟨a, q1, q2, upd_same, ((s2.trans s3).trans s4) _ _ upd_same, s4 _ _ upd_same⟩
end
def spTold (C : Nat → Addr) : Sp := fun vs H Q _ => ∃ (x0 x1 x2 : V), vs = [x0, x1, x2] ∧ ∀ (p : Addr) (rs : List Addr) (H' : Hp), H p = none → Same H H' → H' p = some (.lst (rs.map V.ref)) → rs.length = 13 → (∀ i r, rs[i]? = some r → RowAt H' r (C i) (fld x1 x2 i) (kept x1 x2 i)) → Q (.ref p) H'
section
variable {P : Program} {w : World} {K : PySem.W.Frag} {mg : Str → Option Value} {base : Heap} {C fI : Nat → Addr} {HE : Addr}
theorem scTo : FnScope ["_law_feed_here", "_law_one", "_law_other"] ["_law_feed_here", "_law_one", "_law_other"] (defScope sTold) := ⟨rfl, rfl, rfl, by decide +kernel, rfl, by decide +kernel, by decide +kernel⟩
theorem ok_told {f : Addr} {fd : FuncData} (F : Fun K "_law_told" "_law_told" sTold f fd) (T : Txt P K mg C fI HE) : FnOk P w K mg base CX0 2 f fd ["_law_feed_here", "_law_one", "_law_other"] (spTold C) := by
  refine F.ok scTo (fun vs H Q E h => ?_) (fun cdv A outer s H vs Q E hr h => ?_)
  · obtain ⟨x0, x1, x2, rfl, _⟩ := h
    rfl
  · obtain ⟨x0, x1, x2, rfl, k⟩ := h
    refine ⟨_, pss_one (ps_ret (pe_lst
      (pa_cons (row1 (x1 := x1) (x2 := x2) T.e0 hr (by rfl) rfl (.inl rfl))
      (pa_cons (row1 (x1 := x1) (x2 := x2) T.e1 hr (by rfl) rfl (.inl rfl))
      (pa_cons (row1 (x1 := x1) (x2 := x2) T.e2 hr (by rfl) rfl (.inl rfl))
      (pa_cons (row0 (x1 := x1) (x2 := x2) T.e3 (by rfl))
      (pa_cons (row0 (x1 := x1) (x2 := x2) T.e4 (by rfl))
      (pa_cons (row1 (x1 := x1) (x2 := x2) T.e5 hr (by rfl) rfl (.inl rfl))
      (pa_cons (row2 (x1 := x1) (x2 := x2) T.e6 hr (by rfl) rfl (.inl rfl) rfl (.inl rfl))
      (pa_cons (row1 (x1 := x1) (x2 := x2) T.e7 hr (by rfl) rfl (.inl rfl))
      (pa_cons (row1 (x1 := x1) (x2 := x2) T.e8 hr (by rfl) rfl (.inl rfl))
      (pa_cons (row2 (x1 := x1) (x2 := x2) T.e9 hr (by rfl) rfl (.inl rfl) rfl (.inl rfl))
      (pa_cons (row0 (x1 := x1) (x2 := x2) T.e10 (by rfl))
      (pa_cons (row1 (x1 := x1) (x2 := x2) T.e11 hr (by rfl) rfl (.inl rfl))
      (pa_cons (row0 (x1 := x1) (x2 := x2) T.e12 (by rfl))
      pa_nil))))))))))))))), ?_⟩
    refine ⟨rfl, rfl, fun r0 H0 s0 w0 => ⟨rfl, rfl, fun r1 H1 s1 w1 => ⟨rfl, rfl, fun r2 H2 s2 w2 => ⟨rfl, rfl, fun r3 H3 s3 w3 => ⟨rfl, rfl, fun r4 H4 s4 w4 => ⟨rfl, rfl, fun r5 H5 s5 w5 => ⟨rfl, rfl, fun r6 H6 s6 w6 => ⟨rfl, rfl, fun r7 H7 s7 w7 => ⟨rfl, rfl, fun r8 H8 s8 w8 => ⟨rfl, rfl, fun r9 H9 s9 w9 => ⟨rfl, rfl, fun r10 H10 s10 w10 => ⟨rfl, rfl, fun r11 H11 s11 w11 => ⟨rfl, rfl, fun r12 H12 s12 w12 => ⟨(show 13 ≤ sizeLine by decide), fun p hp => ?_⟩⟩⟩⟩⟩⟩⟩⟩⟩⟩⟩⟩⟩⟩
    have sl := same_new (o := .lst [.ref r0, .ref r1, .ref r2, .ref r3, .ref r4, .ref r5, .ref r6, .ref r7, .ref r8, .ref r9, .ref r10, .ref r11, .ref r12]) hp
    have t12 := sl
    have t11 := s12.trans t12
    have t10 := s11.trans t11
    have t9 := s10.trans t10
    have t8 := s9.trans t9
    have t7 := s8.trans t8
    have t6 := s7.trans t7
    have t5 := s6.trans t6
    have t4 := s5.trans t5
    have t3 := s4.trans t4
    have t2 := s3.trans t3
    have t1 := s2.trans t2
    have t0 := s1.trans t1
    have tA := s0.trans t0
    have sAll := ((((((((((((s0).trans s1).trans s2).trans s3).trans s4).trans s5).trans s6).trans s7).trans s8).trans s9).trans s10).trans s11).trans s12
    refine k p [r0, r1, r2, r3, r4, r5, r6, r7, r8, r9, r10, r11, r12] _ (sAll.free hp) tA upd_same rfl fun i r h => ?_
    match i, h with
    | 0, h => cases h; exact w0.same t0
    | 1, h => cases h; exact w1.same t1
    | 2, h => cases h; exact w2.same t2
    | 3, h => cases h; exact w3.same t3
    | 4, h => cases h; exact w4.same t4
    | 5, h => cases h; exact w5.same t5
    | 6, h => cases h; exact w6.same t6
    | 7, h => cases h; exact w7.same t7
    | 8, h => cases h; exact w8.same t8
    | 9, h => cases h; exact w9.same t9
    | 10, h => cases h; exact w10.same t10
    | 11, h => cases h; exact w11.same t11
    | 12, h => cases h; exact w12.same t12
    | n + 13, h => exact absurd h (by simp)
end
end R1

namespace R1
open PySem L2 L3
open C8 (pss_cut tCut)
def spLaw (K : PySem.W.Frag) : Sp := fun vs H Q _ => ∃ (a : Addr) (ns : List Int), vs = [.ref a] ∧ SqL K H a (ns.map V.int) ∧ ns.length ≤ 63 ∧ ∀ H', Q (.bl true) H'
section
variable {P : Program} {w : World} {K : PySem.W.Frag} {mg : Str → Option Value} {base : Heap} {C fI : Nat → Addr} {HE : Addr}
abbrev NL : List Str := ["_law_script", "_law_k", "_law_feed_here", "_law_one", "_law_other", "_law_at", "_law_row", "_law_error", "_law_due", "_law_last", "_law_place"]
theorem scLa : FnScope NL ["_law_script"] (defScope sLaw) := ⟨rfl, rfl, rfl, by decide +kernel, rfl, by decide +kernel, by decide +kernel⟩
theorem upd2 (H : Hp) (D : Addr) (o u : HO) : upd (upd H D o) D u = upd H D u := by
  funext b
  by_cases h : b = D
  · rw [h, upd_same, upd_same]
  · rw [upd_ne h, upd_ne h, upd_ne h]
def due (j q : Nat) : List V := (List.range q).map fun z : Nat => V.bl (decide (V.int (0 + (z : Int)) = V.int (j : Int)))
theorem due_succ (j q : Nat) : due j (q + 1) = due j q ++ [V.bl (decide (V.int (0 + (q : Int)) = V.int (j : Int)))] := by
  unfold due
  rw [List.range_succ, List.map_append]
  rfl
theorem due_len (j q : Nat) : (due j q).length = q := by
  unfold due
  rw [List.length_map, List.length_range]
theorem due_at (j z : Nat) : decide (V.int (0 + (z : Int)) = V.int (j : Int)) = decide (j = z) := by
  by_cases h : j = z
  · subst h
    simp
  · have h2 : ¬ V.int (0 + (z : Int)) = V.int (j : Int) := fun e => by
      injection e with e
      omega
    rw [decide_eq_false h, decide_eq_false h2]
theorem due_sorts (j : Nat) : due j 14 = sorts j := by
  have e : List.range 14 = [0, 1, 2, 3, 4, 5, 6, 7, 8, 9, 10, 11, 12, 13] := by decide
  unfold due sorts
  rw [e]
  simp only [List.map_cons, List.map_nil, due_at]
/-- data that holds truths -/
def dB (bs : List Bool) : PyData := .list (bs.map PyData.bool)
theorem dpB {H : Hp} {p : Addr} {bs : List Bool} (h : H p = some (.lst (bs.map V.bl))) : Dp K H (.ref p) (dB bs) := by
  refine .lst (SqL.of h) ?_
  clear h
  induction bs with
  | nil => exact .nil
  | cons b r ih => exact .cons (.bl b) ih
def sortsB (i : Nat) : List Bool := [decide (i = 0), decide (i = 1), decide (i = 2), decide (i = 3), decide (i = 4), decide (i = 5), decide (i = 6), decide (i = 7), decide (i = 8), decide (i = 9), decide (i = 10), decide (i = 11), decide (i = 12), decide (i = 13)]
theorem sorts_B (i : Nat) : sorts i = (sortsB i).map V.bl := rfl
theorem sorts_shaped : ∀ i, i < 14 → SeqAt.shaped (dB (sortsB i)) = true ∧ PyData.eqv (dB (sortsB i)) (dB (sortsB i)) = true
  | 0, _ => by decide +kernel | 1, _ => by decide +kernel | 2, _ => by decide +kernel | 3, _ => by decide +kernel | 4, _ => by decide +kernel | 5, _ => by decide +kernel | 6, _ => by decide +kernel
  | 7, _ => by decide +kernel | 8, _ => by decide +kernel | 9, _ => by decide +kernel | 10, _ => by decide +kernel | 11, _ => by decide +kernel | 12, _ => by decide +kernel | 13, _ => by decide +kernel
/-- what an error keeps, as data -/
def keptD (d1 d2 : PyData) : Nat → List PyData
  | 3 => []
  | 4 => []
  | 6 => [d1, d2]
  | 9 => [d1, d2]
  | 10 => []
  | 12 => []
  | _ => [d1]
theorem kept_dp {H : Hp} {x1 x2 : V} {d1 d2 : PyData} (h1 : Dp K H x1 d1) (h2 : Dp K H x2 d2) : ∀ i, i < 13 → DpAll K H (kept x1 x2 i) (keptD d1 d2 i)
  | 0, _ => .cons h1 .nil | 1, _ => .cons h1 .nil | 2, _ => .cons h1 .nil | 3, _ => .nil | 4, _ => .nil | 5, _ => .cons h1 .nil | 6, _ => .cons h1 (.cons h2 .nil) | 7, _ => .cons h1 .nil | 8, _ => .cons h1 .nil
  | 9, _ => .cons h1 (.cons h2 .nil) | 10, _ => .nil | 11, _ => .cons h1 .nil | 12, _ => .nil
theorem kept_fine {d1 d2 : PyData} (m1 : d1 ∈ things) (m2 : d2 ∈ things) : ∀ i, i < 13 → Fine (.list (keptD d1 d2 i)) := by
  have f0 : Fine (.list []) := fine_of nil_ok
  have f1 : Fine (.list [d1]) := fine_of (List.all_eq_true.mp things_ok1 d1 m1)
  have f2 : Fine (.list [d1, d2]) := fine_of (List.all_eq_true.mp (List.all_eq_true.mp things_ok2 d1 m1) d2 m2)
  intro i hi
  match i, hi with
  | 0, _ => exact f1 | 1, _ => exact f1 | 2, _ => exact f1 | 3, _ => exact f0 | 4, _ => exact f0 | 5, _ => exact f1 | 6, _ => exact f2 | 7, _ => exact f1 | 8, _ => exact f1 | 9, _ => exact f2 | 10, _ => exact f0 | 11, _ => exact f1 | 12, _ => exact f0
theorem boot_VE : bootBuiltins "ValueError" = some (.type "ValueError") := by decide +kernel
theorem boot_KE : bootBuiltins "KeyError" = some (.type "KeyError") := by decide +kernel
theorem ok_law {f fFd fT fTh fTo fSm fSo fPa : Addr} {fd fdFd fdT fdTh fdTo fdSm fdSo fdPa : FuncData} (F : Fun K "law" "law" sLaw f fd) (T : Txt P K mg C fI HE)
    (FF : Fun K "_law_feed" "_law_feed" sFeed fFd fdFd) (bF : Binds K fdFd ["_law_script", "_law_k"] []) (gF : mg "_law_feed" = some (.ref fFd))
    (FT : Fun K "_law_take" "_law_take" sTake fT fdT) (bT : Binds K fdT ["_law_feed_here", "_law_many"] []) (gT : mg "_law_take" = some (.ref fT))
    (FTh : Fun K "_law_thing" "_law_thing" sThing fTh fdTh) (bTh : Binds K fdTh ["_law_feed_here"] []) (gTh : mg "_law_thing" = some (.ref fTh))
    (FTo : Fun K "_law_told" "_law_told" sTold fTo fdTo) (bTo : Binds K fdTo ["_law_feed_here", "_law_one", "_law_other"] []) (gTo : mg "_law_told" = some (.ref fTo))
    (FSm : Fun K "_law_same" "_law_same" sSame fSm fdSm) (bSm : Binds K fdSm ["_law_one", "_law_other"] []) (gSm : mg "_law_same" = some (.ref fSm))
    (FSo : Fun K "_law_sorts" "_law_sorts" sSorts fSo fdSo) (bSo : Binds K fdSo ["_law_error"] []) (gSo : mg "_law_sorts" = some (.ref fSo))
    (FPa : Fun K "_law_parts" "_law_parts" sParts fPa fdPa) (bPa : Binds K fdPa ["_law_error", "_law_at"] []) (gPa : mg "_law_parts" = some (.ref fPa)) :
    FnG P w K mg base CX0 3 f fd ["_law_script"] (spLaw K) := by
  have GF : FnOk P w K mg base CX0 1 fFd fdFd ["_law_script", "_law_k"] (spFeed K) := ok_feed FF T.zLen T.zAbs
  have GTh : FnOk P w K mg base CX0 2 fTh fdTh ["_law_feed_here"] (spThing K) := ok_thing FTh FT bT gT
  have GTo : FnOk P w K mg base CX0 2 fTo fdTo ["_law_feed_here", "_law_one", "_law_other"] (spTold C) := ok_told FTo T
  have GSm : FnG P w K mg base CX0 1 fSm fdSm ["_law_one", "_law_other"] (spSame K) := ok_same FSm T.zRepr
  have GSo : FnOk P w K mg base CX0 1 fSo fdSo ["_law_error"] (spSorts C) := ok_sorts FSo T
  have GPa : FnOk P w K mg base CX0 1 fPa fdPa ["_law_error", "_law_at"] (spParts C) := ok_parts FPa T
  refine gok F scLa (fun vs H Q E h => ?_) (fun cdv A outer s H vs Q E g hr h => ?_)
  · obtain ⟨a, ns, rfl, _⟩ := h
    rfl
  · obtain ⟨s0, ns, rfl, hS, hn, k⟩ := h
    have R1 : Room 1 _ := hr.mono (by decide)
    have hu := hr.units
    have nd := scLa.nd
    have gA : Calm _ := g
    refine ⟨_, pss_cons (ps_for PassesOwn.never rfl (pi_range1 (by rfl) T.zRng (pa_cons (pe_callB (call_max2 rfl) (by rfl) T.zMax PyProof.Rows.boot_max (pa_cons pe_int (pa_cons (pe_callB (call_min2 rfl) (by rfl) T.zMin PyProof.Rows.boot_min (pa_cons pe_int (pa_cons (pe_callB call_len_seq (by rfl) T.zLen PySem.boot_len (pa_cons (pv 0) pa_nil)) pa_nil))) pa_nil))) pa_nil)) (pg_name (i := 1) nd rfl (.inl rfl))
      (pss_cons (ps_set (i := 2) nd rfl (.inl rfl) (pe_call GF R1 (by rfl) gF FF.kp bF .nil pass0 (pa_cons (pv 0) (pa_cons (pv 1) pa_nil))))
      (pss_cons (ps_par (i := 3) (j := 4) (by rfl) nd rfl rfl (by decide) rfl rfl (pa_cons (pe_call GTh hr (by rfl) gTh FTh.kp bTh .nil pass0 (pa_cons (pv 2) pa_nil)) (pa_cons (pe_call GTh hr (by rfl) gTh FTh.kp bTh .nil pass0 (pa_cons (pv 2) pa_nil)) pa_nil)) (by rfl))
      (pss_cons (ps_for PassesOwn.never rfl (pi_enum (by rfl) T.zEnu (pa_cons (pe_call GTo hr (by rfl) gTo FTo.kp bTo .nil pass0 (pa_cons (pv 2) (pa_cons (pv 3) (pa_cons (pv 4) pa_nil)))) pa_nil)) (pg_tup (by rfl) (pgs_cons (pg_name (i := 5) nd rfl (.inr rfl)) (pgs_cons (pg_name (i := 6) nd rfl (.inl rfl)) pgs_nil)))
        (pss_cons (ps_par (i := 7) (j := 8) (by rfl) nd rfl rfl (by decide) rfl rfl (pa_cons (pe_ix ix_tup (pv 6) pe_int (fun _ _ => rfl)) (pa_cons (pe_lc (own := [("_law_place", 10)]) (g := gName 10) (tt := tYes) rfl nd (pi_range1 (by rfl) T.zRng (pa_cons pe_int pa_nil)) (blkOk_by (N := NL) (sc := defScope sLaw) (by decide +kernel))
            (fun _ _ _ _ _ => pg_name (i := 10) nd rfl (.inl rfl)) (fun _ _ _ _ _ => pts_nil) (fun _ _ _ _ _ => pe_cmpR op_eq (pv 10) (pv 5) (nomark _))) pa_nil)) (by rfl))
        (pss_cons (ps_if (PW.pt (pw_or (pt_not (pt_val (pe_callG GSm gA R1 (by rfl) gSm FSm.kp bSm .nil pass0 (pa_cons (pe_call GPa R1 (by rfl) gPa FPa.kp bPa .nil pass0 (pa_cons (pv 7) (pa_cons (pv 5) pa_nil))) (pa_cons (pe_ix ix_tup (pv 6) pe_int (fun _ _ => rfl)) pa_nil)))))
            (pw_or1 (pt_cmpR (op_neD hu) (pe_call GSo R1 (by rfl) gSo FSo.kp bSo .nil pass0 (pa_cons (pv 7) pa_nil)) (pv 8) (nomark _))))) (pss_one (ps_ret pe_bl)) pss_nil)
        (pss_one (ps_if (PW.pt (pw_or (pt_not (pt_val (pe_callB call_isX (by rfl) T.zIsi PyProof.Rows.boot_isinstance (pa_cons (pv 7) (pa_cons (pe_glob (v := .ref HE) (by rfl) T.gH rfl) pa_nil)))))
            (pw_or (pt_not (pt_val (pe_callB call_isX (by rfl) T.zIsi PyProof.Rows.boot_isinstance (pa_cons (pv 7) (pa_cons (pe_bltn (v := .ty "ValueError") (by rfl) T.zVal boot_VE rfl) pa_nil)))))
            (pw_or1 (pt_val (pe_callB call_isX (by rfl) T.zIsi PyProof.Rows.boot_isinstance (pa_cons (pv 7) (pa_cons (pe_bltn (v := .ty "KeyError") (by rfl) T.zKey boot_KE rfl) pa_nil)))))))) (pss_one (ps_ret pe_bl)) pss_nil)))))
      (pss_cons (ps_set (i := 9) nd rfl (.inl rfl) (pe_errF T.e13 R1 (by rfl) (pa_cons (pv 3) pa_nil)))
      (pss_cons (ps_if (PW.pt (pw_or (pt_not (pt_val (pe_callG GSm gA R1 (by rfl) gSm FSm.kp bSm .nil pass0 (pa_cons (pe_xv (pv 9)) (pa_cons (pv 3) pa_nil)))))
            (pw_or (pt_not (pt_val (pe_callB call_isX (by rfl) T.zIsi PyProof.Rows.boot_isinstance (pa_cons (pv 9) (pa_cons (pe_bltn (v := .ty "KeyError") (by rfl) T.zKey boot_KE rfl) pa_nil)))))
            (pw_or1 (pt_val (pe_callB call_isX (by rfl) T.zIsi PyProof.Rows.boot_isinstance (pa_cons (pv 9) (pa_cons (pe_bltn (v := .ty "ValueError") (by rfl) T.zVal boot_VE rfl) pa_nil)))))))) (pss_one (ps_ret pe_bl)) pss_nil)
      (pss_one (ps_if (PW.pt (pw_or (pt_cmpR (op_neD hu) (pe_call GSo R1 (by rfl) gSo FSo.kp bSo .nil pass0 (pa_cons (pv 9) pa_nil)) (pe_op op_cat (pe_op op_rep (pe_lst (pa_cons pe_bl pa_nil)) pe_int) (pe_lst (pa_cons pe_bl pa_nil))) (nomark _))
            (pw_or1 (pt_val (pe_callB call_isX (by rfl) T.zIsi PyProof.Rows.boot_isinstance (pa_cons (pv 9) (pa_cons (pe_glob (v := .ref HE) (by rfl) T.gH rfl) pa_nil))))))) (pss_one (ps_ret pe_bl)) pss_nil)))))))) (pss_one (ps_ret pe_bl)), ?_⟩
    have hlen : (ns.map V.int).length = ns.length := List.length_map ..
    refine ⟨_, rfl, s0, _, rfl, .inl hS, _, _, rfl, _, _, rfl, _, rfl, ?_, ?_, for_range (fun i σ H' => ∃ v1 v2 v3 v4 v5 v6 v7 v8 v9 v10 : Option V, σ = [some (.ref s0), v1, v2, v3, v4, v5, v6, v7, v8, v9, v10] ∧ Same H H')
      ⟨none, none, none, none, none, none, none, none, none, none, rfl, Same.refl H⟩ ?_ ?_⟩
    · split <;> omega
    · split <;> (try split) <;> omega
    · rintro i σ Hs hi ⟨v1, v2, v3, v4, v5, v6, v7, v8, v9, v10, rfl, sH⟩
      have hi3 : i < 3 := by
        refine Nat.lt_of_lt_of_le hi ?_
        split <;> (try split) <;> omega
      refine ⟨_, rfl, _, rfl, s0, ns, i, (by rw [Int.zero_add]; rfl), sH.seq hS, hn, by omega, fun a H1 ha S1 fd1 => ?_⟩
      refine ⟨_, rfl, a, rfl, fd1, fun x1 d1 H2 dr1 dp1 m1 => ⟨_, rfl, a, rfl, dr1.fd, fun x2 d2 H3 dr2 dp2 m2 => ?_⟩⟩
      have p1 : Dp K H3 x1 d1 := dp1 H3 dr2.sm
      have p2 : Dp K H3 x2 d2 := dp2 H3 fun _ _ _ e => e
      have sA : Same H H3 := fun b o e => dr2.sm b o (fun z => by have q := sH _ _ e; rw [z, ha] at q; cases q) (dr1.sm b o (fun z => by have q := sH _ _ e; rw [z, ha] at q; cases q) (S1 _ _ (sH _ _ e)))
      refine ⟨_, _, rfl, _, rfl, _, rfl, _, rfl, _, _, _, rfl, fun p rs H4 hp S4 hl hlen4 hrow => ⟨p, _, rfl, SqL.of hl, ?_⟩⟩
      refine for_it walk_enum (fun j σ H' => ∃ v5 v6 v7 v8 v9 v10 : Option V, σ = [some (.ref s0), some (.int (0 + (i : Int))), some (.ref a), some x1, some x2, v5, v6, v7, v8, v9, v10] ∧ Same H4 H') ⟨v5, v6, v7, v8, v9, v10, rfl, Same.refl H4⟩ (fun j σ H' _ ⟨_, _, _, _, _, _, _, e⟩ => SqL.of (e _ _ hl)) ?_ ?_
      · rintro j x σ H5 H6 hj ⟨v5, v6, v7, v8, v9, v10, rfl, S5⟩ ⟨t, z1, z2, rfl, ht, rfl, e1, e2⟩
        cases e1
        rw [List.length_map, hlen4] at hj
        obtain ⟨r, hr2, rfl⟩ : ∃ r, rs[j]? = some r ∧ z2 = V.ref r := by
          have e2 : (List.map V.ref rs)[j]? = some z2 := e2
          rw [List.getElem?_map] at e2
          cases q : rs[j]? with
          | none => rw [q] at e2; cases e2
          | some r => rw [q] at e2; exact ⟨r, rfl, (Option.some.inj e2).symm⟩
        have s6 := same_new (o := .tup [.int (j : Nat), .ref r]) ht
        obtain ⟨e, l1, l2, w1, w2, w3⟩ := (hrow j r hr2).same (S5.trans s6)
        refine ⟨t, _, rfl, SqT.of upd_same, rfl, _, _, rfl, _, _, rfl, rfl, ?_⟩
        refine ⟨_, rfl, r, _, 0, .ref e, rfl, rfl, SqT.of w1, rfl, 14, rfl, by decide, by decide, fun D hD => lc_range (fun q H' => H' = upd (upd H5 t (.tup [.int (j : Nat), .ref r])) D (.lst (due j q))) rfl ?_ ?_⟩
        · rintro q H7 hq rfl
          refine ⟨rfl, _, rfl, _, rfl, rfl, _, upd_same, ?_, ?_⟩
          · rw [due_len]; exact Nat.lt_of_lt_of_le hq (by decide)
          · rw [upd2, due_succ]
        · rintro H7 rfl
          have e14 : due j (Int.toNat 14) = sorts j := due_sorts j
          rw [e14]
          have s7 := same_new (o := .lst (sorts j)) hD
          have S7 := (S5.trans s6).trans s7
          have p1' := L3.Dp.same (S4.trans S7) p1
          have p2' := L3.Dp.same (S4.trans S7) p2
          have ex := T.ex j (by omega)
          have j14 : j < 14 := by omega
          refine ⟨_, _, rfl, ?_⟩
          generalize hH7 : upd (upd H5 t (.tup [.int (j : Nat), .ref r])) D (.lst (sorts j)) = H7 at s7 S7 p1' p2' ⊢
          have eD : H7 D = some (.lst (sorts j)) := by rw [← hH7]; exact upd_same
          have w2' := ExAt.same s7 w2
          have w3' := s7 _ _ w3
          have w1' := s7 _ _ w1
          refine ⟨_, rfl, _, rfl, e, j, x1, x2, rfl, hj, w2', fun q1 H8 hq1 S8 eq1 => ?_⟩
          refine ⟨_, rfl, r, _, 2, .ref l2, rfl, rfl, SqT.of (S8 _ _ w1'), rfl, ?_⟩
          refine ⟨_, _, .list (keptD d1 d2 j), .list (keptD d1 d2 j), rfl, .lst (SqL.of eq1) (kept_dp (L3.Dp.same S8 p1') (L3.Dp.same S8 p2') j hj), .lst (SqL.of (S8 _ _ w3')) (kept_dp (L3.Dp.same S8 p1') (L3.Dp.same S8 p2') j hj), kept_fine m1 m2 j hj, kept_fine m1 m2 j hj, _, rfl, ?_⟩
          refine ifF (by simp) ?_
          have hE8 := ExAt.same S8 w2'
          refine ⟨_, rfl, e, j, _, rfl, j14, hE8, fun q2 hq2 => ?_⟩
          have S9 := same_new (o := .lst (sorts j)) hq2
          have hE9 := ExAt.same S9 hE8
          refine ⟨_, rfl, dB (sortsB j), dB (sortsB j), dpB upd_same, dpB (S9 _ _ (S8 _ _ eD)), (sorts_shaped j j14).1, (sorts_shaped j j14).1, _, rfl, ifF (by rw [(sorts_shaped j j14).2]; rfl) ?_⟩
          refine ⟨_, rfl, e, C j, _, .ref HE, .ref HE, _, rfl, hE9, ex, .own _, T.kH j j14, _, rfl, ifF (by rw [decide_eq_true hj]; rfl) ?_⟩
          refine ⟨_, rfl, e, C j, _, .ty "ValueError", .type "ValueError", _, rfl, hE9, ex, .ty _, T.kV j j14, _, rfl, ifF (by rw [decide_eq_true hj]; rfl) ?_⟩
          refine ⟨_, rfl, e, C j, _, .ty "KeyError", .type "KeyError", _, rfl, hE9, ex, .ty _, T.kK j j14, _, rfl, ifF (by rw [decide_eq_false (by omega)]) ?_⟩
          exact ⟨_, _, _, _, _, _, rfl, (S7.trans S8).trans S9⟩
      · rintro σ H5 ⟨v5, v6, v7, v8, v9, v10, rfl, S5⟩
        refine ⟨_, rfl, rfl, (show 1 ≤ 900 by decide), fun a9 d9 na9 nd9 n9 => ?_⟩
        have s6 := two_new (o := exo a9 (C 13) (some d9)) (u := exd d9 (excFields ["name"] [x1])) na9 nd9 n9
        have hE : ExAt (upd (upd H5 d9 (exd d9 (excFields ["name"] [x1]))) a9 (exo a9 (C 13) (some d9))) a9 (C 13) (some (excFields ["name"] [x1])) := ⟨d9, upd_same, by rw [upd_ne n9]; exact upd_same⟩
        generalize hH6 : upd (upd H5 d9 (exd d9 (excFields ["name"] [x1]))) a9 (exo a9 (C 13) (some d9)) = H6 at s6 hE ⊢
        have S6 : Same H3 H6 := (S4.trans S5).trans s6
        have p1' := L3.Dp.same S6 p1
        have f1 : Fine d1 := fine_of (List.all_eq_true.mp things_ok d1 m1)
        have ex := T.ex 13 (by decide)
        refine ⟨_, rfl, a9, C 13, _, x1, rfl, hE, T.e13.xf, T.e13.no _ (by simp), look1 _ _, _, rfl, _, _, d1, d1, rfl, p1', p1', f1, f1, _, rfl, ifF (by simp) ?_⟩
        refine ⟨_, rfl, a9, C 13, _, .ty "KeyError", .type "KeyError", _, rfl, hE, ex, .ty _, T.kK 13 (by decide), _, rfl, ifF (by decide) ?_⟩
        refine ⟨_, rfl, a9, C 13, _, .ty "ValueError", .type "ValueError", _, rfl, hE, ex, .ty _, T.kV 13 (by decide), _, rfl, ifF (by decide) ?_⟩
        refine ⟨_, rfl, a9, 13, _, rfl, by decide, hE, fun q hq => ?_⟩
        have s7 := same_new (o := .lst (sorts 13)) hq
        refine ⟨(show 1 ≤ sizeLine by decide), fun q1 h1 => ⟨q1, 13, _, rfl, rfl, upd_same, by decide, by decide, (show 1 * 13 ≤ sizeLine by decide), fun q2 h2 => ⟨(show 1 ≤ sizeLine by decide), fun q3 h3 => ?_⟩⟩⟩
        have s8 := same_new (o := .lst [.bl false]) h1
        have s9 := same_new (o := .lst (List.replicate (13 : Int).toNat [V.bl false]).flatten) h2
        have s10 := same_new (o := .lst [.bl true]) h3
        refine ⟨q2, q3, _, _, rfl, rfl, s10 _ _ upd_same, upd_same, (show 14 ≤ sizeLine by decide), fun q4 h4 => ?_⟩
        have s11 := same_new (o := .lst ((List.replicate (13 : Int).toNat [V.bl false]).flatten ++ [.bl true])) h4
        have S11 := (((s7.trans s8).trans s9).trans s10).trans s11
        refine ⟨dB (sortsB 13), dB (sortsB 13), dpB ((((s8.trans s9).trans s10).trans s11) _ _ upd_same), dpB (by exact upd_same), (sorts_shaped 13 (by decide)).1, (sorts_shaped 13 (by decide)).1, _, rfl, ifF (by rw [(sorts_shaped 13 (by decide)).2]; rfl) ?_⟩
        refine ⟨_, rfl, a9, C 13, _, .ref HE, .ref HE, _, rfl, ExAt.same S11 hE, ex, .own _, T.kH 13 (by decide), _, rfl, ifF (by decide) ?_⟩
        exact ⟨_, _, _, _, _, _, _, _, _, _, rfl, (sA.trans S6).trans S11⟩
    · rintro σ H' ⟨_, _, _, _, _, _, _, _, _, _, rfl, _⟩
      exact k H'
end
end R1

namespace R1
open PySem L2 L3
open PySem.HandSPX (refsVE)
section
variable {P : Program} {K : PySem.W.Frag} {mg : Str → Option Value} {C f cc cda : Addr} {kV doc pm ct : Value} {an : Option Addr} {nm q : Str} {N : Addr} {bs bm : List Value} {sn : List Str} {sub : List Value} {ab : Bool} {col : Option Bool} {dd : Option Addr} {k0 k1 k2 k3 k5 : Option Value}
abbrev st0 : Stmt := inClass (top 2) 0
abbrev fn0 (kV doc pm : Value) (an : Option Addr) (cda : Addr) (ct : Value) (cc : Addr) : FuncData := initFn "InvalidName.__init__" (defArgs st0) (defBody st0) (defScope st0) .none kV doc pm an cda ct cc
theorem err0 (I : InK K P C f cc cda (fn0 kV doc pm an cda ct cc) "InvalidName.__init__") (hs : supB K C f "ValueError" "ValueError.__init__" ["name"] = true) (he : excB K C = true) (hC : K.lookup C = some (PySem.excClassObj nm q C N bs bm true sn sub ab col dd k0 k1 k2 k3 k5 "ValueError.__new__")) (hb : refsVE bm = true) (noS : mg "super" = none) (g : mg "InvalidName" = some (.ref C)) :
    ErrF P K mg C f "InvalidName" ["name"] := by
  have S := supB_ok hs
  obtain ⟨E, X⟩ := excB_ok he
  have V := over_of hC hb
  have St : Sto K C := sto_ve V S.sa
  have M := supK_of I S hC St noS
  exact ⟨g, fun w => init1 (initF_of PySem.F.excBase_ValueError.toExcCallFacts) PySem.W.kxs_ValueError M rfl (S.no _ (by simp)) rfl rfl rfl rfl rfl rfl rfl rfl (by decide +kernel) (by decide +kernel) (by decide +kernel) (fun _ _ => rfl) (fun _ => rfl) (fun _ => rfl) (fun _ => rfl) (fun _ => rfl),
    ⟨"ValueError", _, _, _, bm, PySem.F.excBase_ValueError, above_ve hb, nm, q, N, bs, true, sn, sub, ab, col, dd, k0, k1, k2, k3, k5, hC⟩, S.kC, S.iC, S.tI, E, X, S.no⟩
abbrev st1 : Stmt := inClass (top 3) 0
abbrev fn1 (kV doc pm : Value) (an : Option Addr) (cda : Addr) (ct : Value) (cc : Addr) : FuncData := initFn "InvalidText.__init__" (defArgs st1) (defBody st1) (defScope st1) .none kV doc pm an cda ct cc
theorem err1 (I : InK K P C f cc cda (fn1 kV doc pm an cda ct cc) "InvalidText.__init__") (hs : supB K C f "ValueError" "ValueError.__init__" ["row"] = true) (he : excB K C = true) (hC : K.lookup C = some (PySem.excClassObj nm q C N bs bm true sn sub ab col dd k0 k1 k2 k3 k5 "ValueError.__new__")) (hb : refsVE bm = true) (noS : mg "super" = none) (g : mg "InvalidText" = some (.ref C)) :
    ErrF P K mg C f "InvalidText" ["row"] := by
  have S := supB_ok hs
  obtain ⟨E, X⟩ := excB_ok he
  have V := over_of hC hb
  have St : Sto K C := sto_ve V S.sa
  have M := supK_of I S hC St noS
  exact ⟨g, fun w => init1 (initF_of PySem.F.excBase_ValueError.toExcCallFacts) PySem.W.kxs_ValueError M rfl (S.no _ (by simp)) rfl rfl rfl rfl rfl rfl rfl rfl (by decide +kernel) (by decide +kernel) (by decide +kernel) (fun _ _ => rfl) (fun _ => rfl) (fun _ => rfl) (fun _ => rfl) (fun _ => rfl),
    ⟨"ValueError", _, _, _, bm, PySem.F.excBase_ValueError, above_ve hb, nm, q, N, bs, true, sn, sub, ab, col, dd, k0, k1, k2, k3, k5, hC⟩, S.kC, S.iC, S.tI, E, X, S.no⟩
abbrev st2 : Stmt := inClass (top 4) 0
abbrev fn2 (kV doc pm : Value) (an : Option Addr) (cda : Addr) (ct : Value) (cc : Addr) : FuncData := initFn "InvalidDeed.__init__" (defArgs st2) (defBody st2) (defScope st2) .none kV doc pm an cda ct cc
theorem err2 (I : InK K P C f cc cda (fn2 kV doc pm an cda ct cc) "InvalidDeed.__init__") (hs : supB K C f "ValueError" "ValueError.__init__" ["name"] = true) (he : excB K C = true) (hC : K.lookup C = some (PySem.excClassObj nm q C N bs bm true sn sub ab col dd k0 k1 k2 k3 k5 "ValueError.__new__")) (hb : refsVE bm = true) (noS : mg "super" = none) (g : mg "InvalidDeed" = some (.ref C)) :
    ErrF P K mg C f "InvalidDeed" ["name"] := by
  have S := supB_ok hs
  obtain ⟨E, X⟩ := excB_ok he
  have V := over_of hC hb
  have St : Sto K C := sto_ve V S.sa
  have M := supK_of I S hC St noS
  exact ⟨g, fun w => init1 (initF_of PySem.F.excBase_ValueError.toExcCallFacts) PySem.W.kxs_ValueError M rfl (S.no _ (by simp)) rfl rfl rfl rfl rfl rfl rfl rfl (by decide +kernel) (by decide +kernel) (by decide +kernel) (fun _ _ => rfl) (fun _ => rfl) (fun _ => rfl) (fun _ => rfl) (fun _ => rfl),
    ⟨"ValueError", _, _, _, bm, PySem.F.excBase_ValueError, above_ve hb, nm, q, N, bs, true, sn, sub, ab, col, dd, k0, k1, k2, k3, k5, hC⟩, S.kC, S.iC, S.tI, E, X, S.no⟩
abbrev st5 : Stmt := inClass (top 7) 0
abbrev fn5 (kV doc pm : Value) (an : Option Addr) (cda : Addr) (ct : Value) (cc : Addr) : FuncData := initFn "Taken.__init__" (defArgs st5) (defBody st5) (defScope st5) .none kV doc pm an cda ct cc
theorem err5 (I : InK K P C f cc cda (fn5 kV doc pm an cda ct cc) "Taken.__init__") (hs : supB K C f "ValueError" "ValueError.__init__" ["name"] = true) (he : excB K C = true) (hC : K.lookup C = some (PySem.excClassObj nm q C N bs bm true sn sub ab col dd k0 k1 k2 k3 k5 "ValueError.__new__")) (hb : refsVE bm = true) (noS : mg "super" = none) (g : mg "Taken" = some (.ref C)) :
    ErrF P K mg C f "Taken" ["name"] := by
  have S := supB_ok hs
  obtain ⟨E, X⟩ := excB_ok he
  have V := over_of hC hb
  have St : Sto K C := sto_ve V S.sa
  have M := supK_of I S hC St noS
  exact ⟨g, fun w => init1 (initF_of PySem.F.excBase_ValueError.toExcCallFacts) PySem.W.kxs_ValueError M rfl (S.no _ (by simp)) rfl rfl rfl rfl rfl rfl rfl rfl (by decide +kernel) (by decide +kernel) (by decide +kernel) (fun _ _ => rfl) (fun _ => rfl) (fun _ => rfl) (fun _ => rfl) (fun _ => rfl),
    ⟨"ValueError", _, _, _, bm, PySem.F.excBase_ValueError, above_ve hb, nm, q, N, bs, true, sn, sub, ab, col, dd, k0, k1, k2, k3, k5, hC⟩, S.kC, S.iC, S.tI, E, X, S.no⟩
abbrev st6 : Stmt := inClass (top 8) 0
abbrev fn6 (kV doc pm : Value) (an : Option Addr) (cda : Addr) (ct : Value) (cc : Addr) : FuncData := initFn "Unready.__init__" (defArgs st6) (defBody st6) (defScope st6) .none kV doc pm an cda ct cc
theorem err6 (I : InK K P C f cc cda (fn6 kV doc pm an cda ct cc) "Unready.__init__") (hs : supB K C f "ValueError" "ValueError.__init__" ["where", "name"] = true) (he : excB K C = true) (hC : K.lookup C = some (PySem.excClassObj nm q C N bs bm true sn sub ab col dd k0 k1 k2 k3 k5 "ValueError.__new__")) (hb : refsVE bm = true) (noS : mg "super" = none) (g : mg "Unready" = some (.ref C)) :
    ErrF P K mg C f "Unready" ["where", "name"] := by
  have S := supB_ok hs
  obtain ⟨E, X⟩ := excB_ok he
  have V := over_of hC hb
  have St : Sto K C := sto_ve V S.sa
  have M := supK_of I S hC St noS
  exact ⟨g, fun w => init2 (initF_of PySem.F.excBase_ValueError.toExcCallFacts) PySem.W.kxs_ValueError M rfl V (S.no _ (by simp)) (S.no _ (by simp)) rfl rfl rfl rfl rfl rfl rfl rfl rfl (by decide +kernel) (by decide +kernel) (by decide +kernel) (by decide +kernel) (by decide +kernel) (by decide +kernel) (fun _ _ _ => rfl) (fun _ => rfl) (fun _ => rfl) (fun _ => rfl) (fun _ => rfl) (fun _ => rfl),
    ⟨"ValueError", _, _, _, bm, PySem.F.excBase_ValueError, above_ve hb, nm, q, N, bs, true, sn, sub, ab, col, dd, k0, k1, k2, k3, k5, hC⟩, S.kC, S.iC, S.tI, E, X, S.no⟩
abbrev st7 : Stmt := inClass (top 9) 0
abbrev fn7 (kV doc pm : Value) (an : Option Addr) (cda : Addr) (ct : Value) (cc : Addr) : FuncData := initFn "Opened.__init__" (defArgs st7) (defBody st7) (defScope st7) .none kV doc pm an cda ct cc
theorem err7 (I : InK K P C f cc cda (fn7 kV doc pm an cda ct cc) "Opened.__init__") (hs : supB K C f "ValueError" "ValueError.__init__" ["name"] = true) (he : excB K C = true) (hC : K.lookup C = some (PySem.excClassObj nm q C N bs bm true sn sub ab col dd k0 k1 k2 k3 k5 "ValueError.__new__")) (hb : refsVE bm = true) (noS : mg "super" = none) (g : mg "Opened" = some (.ref C)) :
    ErrF P K mg C f "Opened" ["name"] := by
  have S := supB_ok hs
  obtain ⟨E, X⟩ := excB_ok he
  have V := over_of hC hb
  have St : Sto K C := sto_ve V S.sa
  have M := supK_of I S hC St noS
  exact ⟨g, fun w => init1 (initF_of PySem.F.excBase_ValueError.toExcCallFacts) PySem.W.kxs_ValueError M rfl (S.no _ (by simp)) rfl rfl rfl rfl rfl rfl rfl rfl (by decide +kernel) (by decide +kernel) (by decide +kernel) (fun _ _ => rfl) (fun _ => rfl) (fun _ => rfl) (fun _ => rfl) (fun _ => rfl),
    ⟨"ValueError", _, _, _, bm, PySem.F.excBase_ValueError, above_ve hb, nm, q, N, bs, true, sn, sub, ab, col, dd, k0, k1, k2, k3, k5, hC⟩, S.kC, S.iC, S.tI, E, X, S.no⟩
abbrev st8 : Stmt := inClass (top 10) 0
abbrev fn8 (kV doc pm : Value) (an : Option Addr) (cda : Addr) (ct : Value) (cc : Addr) : FuncData := initFn "NotOpen.__init__" (defArgs st8) (defBody st8) (defScope st8) .none kV doc pm an cda ct cc
theorem err8 (I : InK K P C f cc cda (fn8 kV doc pm an cda ct cc) "NotOpen.__init__") (hs : supB K C f "ValueError" "ValueError.__init__" ["name"] = true) (he : excB K C = true) (hC : K.lookup C = some (PySem.excClassObj nm q C N bs bm true sn sub ab col dd k0 k1 k2 k3 k5 "ValueError.__new__")) (hb : refsVE bm = true) (noS : mg "super" = none) (g : mg "NotOpen" = some (.ref C)) :
    ErrF P K mg C f "NotOpen" ["name"] := by
  have S := supB_ok hs
  obtain ⟨E, X⟩ := excB_ok he
  have V := over_of hC hb
  have St : Sto K C := sto_ve V S.sa
  have M := supK_of I S hC St noS
  exact ⟨g, fun w => init1 (initF_of PySem.F.excBase_ValueError.toExcCallFacts) PySem.W.kxs_ValueError M rfl (S.no _ (by simp)) rfl rfl rfl rfl rfl rfl rfl rfl (by decide +kernel) (by decide +kernel) (by decide +kernel) (fun _ _ => rfl) (fun _ => rfl) (fun _ => rfl) (fun _ => rfl) (fun _ => rfl),
    ⟨"ValueError", _, _, _, bm, PySem.F.excBase_ValueError, above_ve hb, nm, q, N, bs, true, sn, sub, ab, col, dd, k0, k1, k2, k3, k5, hC⟩, S.kC, S.iC, S.tI, E, X, S.no⟩
abbrev st9 : Stmt := inClass (top 11) 0
abbrev fn9 (kV doc pm : Value) (an : Option Addr) (cda : Addr) (ct : Value) (cc : Addr) : FuncData := initFn "TooWide.__init__" (defArgs st9) (defBody st9) (defScope st9) .none kV doc pm an cda ct cc
theorem err9 (I : InK K P C f cc cda (fn9 kV doc pm an cda ct cc) "TooWide.__init__") (hs : supB K C f "ValueError" "ValueError.__init__" ["deed", "row"] = true) (he : excB K C = true) (hC : K.lookup C = some (PySem.excClassObj nm q C N bs bm true sn sub ab col dd k0 k1 k2 k3 k5 "ValueError.__new__")) (hb : refsVE bm = true) (noS : mg "super" = none) (g : mg "TooWide" = some (.ref C)) :
    ErrF P K mg C f "TooWide" ["deed", "row"] := by
  have S := supB_ok hs
  obtain ⟨E, X⟩ := excB_ok he
  have V := over_of hC hb
  have St : Sto K C := sto_ve V S.sa
  have M := supK_of I S hC St noS
  exact ⟨g, fun w => init2 (initF_of PySem.F.excBase_ValueError.toExcCallFacts) PySem.W.kxs_ValueError M rfl V (S.no _ (by simp)) (S.no _ (by simp)) rfl rfl rfl rfl rfl rfl rfl rfl rfl (by decide +kernel) (by decide +kernel) (by decide +kernel) (by decide +kernel) (by decide +kernel) (by decide +kernel) (fun _ _ _ => rfl) (fun _ => rfl) (fun _ => rfl) (fun _ => rfl) (fun _ => rfl) (fun _ => rfl),
    ⟨"ValueError", _, _, _, bm, PySem.F.excBase_ValueError, above_ve hb, nm, q, N, bs, true, sn, sub, ab, col, dd, k0, k1, k2, k3, k5, hC⟩, S.kC, S.iC, S.tI, E, X, S.no⟩
abbrev st11 : Stmt := inClass (top 13) 0
abbrev fn11 (kV doc pm : Value) (an : Option Addr) (cda : Addr) (ct : Value) (cc : Addr) : FuncData := initFn "Clash.__init__" (defArgs st11) (defBody st11) (defScope st11) .none kV doc pm an cda ct cc
theorem err11 (I : InK K P C f cc cda (fn11 kV doc pm an cda ct cc) "Clash.__init__") (hs : supB K C f "ValueError" "ValueError.__init__" ["name"] = true) (he : excB K C = true) (hC : K.lookup C = some (PySem.excClassObj nm q C N bs bm true sn sub ab col dd k0 k1 k2 k3 k5 "ValueError.__new__")) (hb : refsVE bm = true) (noS : mg "super" = none) (g : mg "Clash" = some (.ref C)) :
    ErrF P K mg C f "Clash" ["name"] := by
  have S := supB_ok hs
  obtain ⟨E, X⟩ := excB_ok he
  have V := over_of hC hb
  have St : Sto K C := sto_ve V S.sa
  have M := supK_of I S hC St noS
  exact ⟨g, fun w => init1 (initF_of PySem.F.excBase_ValueError.toExcCallFacts) PySem.W.kxs_ValueError M rfl (S.no _ (by simp)) rfl rfl rfl rfl rfl rfl rfl rfl (by decide +kernel) (by decide +kernel) (by decide +kernel) (fun _ _ => rfl) (fun _ => rfl) (fun _ => rfl) (fun _ => rfl) (fun _ => rfl),
    ⟨"ValueError", _, _, _, bm, PySem.F.excBase_ValueError, above_ve hb, nm, q, N, bs, true, sn, sub, ab, col, dd, k0, k1, k2, k3, k5, hC⟩, S.kC, S.iC, S.tI, E, X, S.no⟩
abbrev st13 : Stmt := inClass (top 15) 0
abbrev fn13 (kV doc pm : Value) (an : Option Addr) (cda : Addr) (ct : Value) (cc : Addr) : FuncData := initFn "UnknownName.__init__" (defArgs st13) (defBody st13) (defScope st13) .none kV doc pm an cda ct cc
theorem err13 (I : InK K P C f cc cda (fn13 kV doc pm an cda ct cc) "UnknownName.__init__") (hs : supB K C f "KeyError" "KeyError.__init__" ["name"] = true) (he : excB K C = true) (hC : K.lookup C = some (PySem.excClassObj nm q C N bs keTail true sn sub ab col dd k0 k1 k2 k3 k5 "LookupError.__new__")) (noS : mg "super" = none) (g : mg "UnknownName" = some (.ref C)) :
    ErrF P K mg C f "UnknownName" ["name"] := by
  have S := supB_ok hs
  obtain ⟨E, X⟩ := excB_ok he
  have St : Sto K C := sto_ke hC S.sa
  have M := supK_of I S hC St noS
  exact ⟨g, fun w => init1 initF_KeyError kxs_KeyError M rfl (S.no _ (by simp)) rfl rfl rfl rfl rfl rfl rfl rfl (by decide +kernel) (by decide +kernel) (by decide +kernel) (fun _ _ => rfl) (fun _ => rfl) (fun _ => rfl) (fun _ => rfl) (fun _ => rfl),
    ⟨"LookupError", _, _, _, keTail, PySem.F.excBase_LookupError, above_ke, nm, q, N, bs, true, sn, sub, ab, col, dd, k0, k1, k2, k3, k5, hC⟩, S.kC, S.iC, S.tI, E, X, S.no⟩
end
end R1


namespace R1
open PySem L2 L3
def kitB (K : PySem.W.Frag) (C : List Addr) (HE : Addr) : Bool := (List.range 14).all fun i => ((List.range 14).all fun j => decide (PySem.W.kitOne K (.ref (C.getD i 0)) (.ref (C.getD j 0)) = some (decide (i = j)))) &&
  (decide (PySem.W.kitOne K (.ref (C.getD i 0)) (.ref HE) = some (decide (i < 13))) && (decide (PySem.W.kitOne K (.ref (C.getD i 0)) (.type "ValueError") = some (decide (i < 13))) && decide (PySem.W.kitOne K (.ref (C.getD i 0)) (.type "KeyError") = some (decide (i = 13)))))
structure KitF (K : PySem.W.Frag) (C : Nat → Addr) (HE : Addr) : Prop where
  kk : ∀ i j, i < 14 → j < 14 → PySem.W.kitOne K (.ref (C i)) (.ref (C j)) = some (decide (i = j))
  kH : ∀ i, i < 14 → PySem.W.kitOne K (.ref (C i)) (.ref HE) = some (decide (i < 13))
  kV : ∀ i, i < 14 → PySem.W.kitOne K (.ref (C i)) (.type "ValueError") = some (decide (i < 13))
  kK : ∀ i, i < 14 → PySem.W.kitOne K (.ref (C i)) (.type "KeyError") = some (decide (i = 13))
theorem kitB_ok {K : PySem.W.Frag} {C : List Addr} {HE : Addr} (h : kitB K C HE = true) : KitF K (fun i => C.getD i 0) HE := by
  unfold kitB at h
  rw [List.all_eq_true] at h
  have p : ∀ i, i < 14 → _ := fun i hi => h i (List.mem_range.mpr hi)
  refine ⟨fun i j hi hj => ?_, fun i hi => ?_, fun i hi => ?_, fun i hi => ?_⟩
  · have q := (Bool.and_eq_true_iff.mp (p i hi)).1
    rw [List.all_eq_true] at q
    exact of_decide_eq_true (q j (List.mem_range.mpr hj))
  · exact of_decide_eq_true (Bool.and_eq_true_iff.mp (Bool.and_eq_true_iff.mp (p i hi)).2).1
  · exact of_decide_eq_true (Bool.and_eq_true_iff.mp (Bool.and_eq_true_iff.mp (Bool.and_eq_true_iff.mp (p i hi)).2).2).1
  · exact of_decide_eq_true (Bool.and_eq_true_iff.mp (Bool.and_eq_true_iff.mp (Bool.and_eq_true_iff.mp (p i hi)).2).2).2
theorem all_mk {l : PySem.W.OpenLaw} {w : World} {K : PySem.W.Frag} {h : Heap} {mg : Str → Option Value} {fa HE c0 c1 c2 c3 c4 c5 c6 c7 c8 c9 c10 c11 c12 c13 f0 da0 cc0 N0 f1 da1 cc1 N1 f2 da2 cc2 N2 f5 da5 cc5 N5 f6 da6 cc6 N6 f7 da7 cc7 N7 f8 da8 cc8 N8 f9 da9 cc9 N9 f11 da11 cc11 N11 f13 da13 cc13 N13 fFd fT fSm fTh fTo fSo fPa fW : Addr} {od0 an0 odD0 odC0 dd0 od1 an1 odD1 odC1 dd1 od2 an2 odD2 odC2 dd2 od5 an5 odD5 odC5 dd5 od6 an6 odD6 odC6 dd6 od7 an7 odD7 odC7 dd7 od8 an8 odD8 odC8 dd8 od9 an9 odD9 odC9 dd9 od11 an11 odD11 odC11 dd11 od13 an13 odD13 odC13 dd13 odFd anFd odT anT odSm anSm odTh anTh odTo anTo odSo anSo odPa anPa odW anW : Option Addr} {sl0 slD0 slC0 sl1 slD1 slC1 sl2 slD2 slC2 sl5 slD5 slC5 sl6 slD6 slC6 sl7 slD7 slC7 sl8 slD8 slC8 sl9 slD9 slC9 sl11 slD11 slC11 sl13 slD13 slC13 slFd slT slSm slTh slTo slSo slPa slW : Array (Option Value)} {vs0 vs1 vs2 vs5 vs6 vs7 vs8 vs9 vs11 vs13 : Array Value} {oc0 kV0 dc0 pm0 ct0 ocD0 ocC0 oc1 kV1 dc1 pm1 ct1 ocD1 ocC1 oc2 kV2 dc2 pm2 ct2 ocD2 ocC2 oc5 kV5 dc5 pm5 ct5 ocD5 ocC5 oc6 kV6 dc6 pm6 ct6 ocD6 ocC6 oc7 kV7 dc7 pm7 ct7 ocD7 ocC7 oc8 kV8 dc8 pm8 ct8 ocD8 ocC8 oc9 kV9 dc9 pm9 ct9 ocD9 ocC9 oc11 kV11 dc11 pm11 ct11 ocD11 ocC11 oc13 kV13 dc13 pm13 ct13 ocD13 ocC13 ocFd kVFd dcFd pmFd cdFd ctFd ocT kVT dcT pmT cdT ctT ocSm kVSm dcSm pmSm cdSm ctSm ocTh kVTh dcTh pmTh cdTh ctTh ocTo kVTo dcTo pmTo cdTo ctTo ocSo kVSo dcSo pmSo cdSo ctSo ocPa kVPa dcPa pmPa cdPa ctPa ocW kVW dcW pmW cdW ctW : Value} {file0 nm0 q0 file1 nm1 q1 file2 nm2 q2 file5 nm5 q5 file6 nm6 q6 file7 nm7 q7 file8 nm8 q8 file9 nm9 q9 file11 nm11 q11 file13 nm13 q13 : Str} {tf0 tf1 tf2 tf5 tf6 tf7 tf8 tf9 tf11 tf13 : Tok} {bs0 bm0 sub0 bs1 bm1 sub1 bs2 bm2 sub2 bs5 bm5 sub5 bs6 bm6 sub6 bs7 bm7 sub7 bs8 bm8 sub8 bs9 bm9 sub9 bs11 bm11 sub11 bs13 sub13 : List Value} {sn0 sn1 sn2 sn5 sn6 sn7 sn8 sn9 sn11 sn13 : List Str} {ab0 ab1 ab2 ab5 ab6 ab7 ab8 ab9 ab11 ab13 : Bool} {col0 col1 col2 col5 col6 col7 col8 col9 col11 col13 : Option Bool} {k00 k10 k20 k30 k50 k01 k11 k21 k31 k51 k02 k12 k22 k32 k52 k05 k15 k25 k35 k55 k06 k16 k26 k36 k56 k07 k17 k27 k37 k57 k08 k18 k28 k38 k58 k09 k19 k29 k39 k59 k011 k111 k211 k311 k511 k013 k113 k213 k313 k513 : Option Value} (X : K.In h) (G : h.Ns mainGlobals mg) (hfa : mg "law" = some (.ref fa))
    (aH : PySem.W.nsIn K mainGlobals "HadnotError" = some (some (.ref HE)))
    (a0 : PySem.W.nsIn K mainGlobals "InvalidName" = some (some (.ref c0)))
    (a1 : PySem.W.nsIn K mainGlobals "InvalidText" = some (some (.ref c1)))
    (a2 : PySem.W.nsIn K mainGlobals "InvalidDeed" = some (some (.ref c2)))
    (a3 : PySem.W.nsIn K mainGlobals "NoRatio" = some (some (.ref c3)))
    (a4 : PySem.W.nsIn K mainGlobals "OtherChoices" = some (some (.ref c4)))
    (a5 : PySem.W.nsIn K mainGlobals "Taken" = some (some (.ref c5)))
    (a6 : PySem.W.nsIn K mainGlobals "Unready" = some (some (.ref c6)))
    (a7 : PySem.W.nsIn K mainGlobals "Opened" = some (some (.ref c7)))
    (a8 : PySem.W.nsIn K mainGlobals "NotOpen" = some (some (.ref c8)))
    (a9 : PySem.W.nsIn K mainGlobals "TooWide" = some (some (.ref c9)))
    (a10 : PySem.W.nsIn K mainGlobals "NotNumber" = some (some (.ref c10)))
    (a11 : PySem.W.nsIn K mainGlobals "Clash" = some (some (.ref c11)))
    (a12 : PySem.W.nsIn K mainGlobals "InvalidCommand" = some (some (.ref c12)))
    (a13 : PySem.W.nsIn K mainGlobals "UnknownName" = some (some (.ref c13)))
    (n0 : PySem.W.findIn K (.ref c0) "__init__" = some (some (.ref f0)))
    (l0 : K.lookup f0 = some ⟨oc0, od0, .func (fn0 kV0 dc0 pm0 an0 da0 ct0 cc0), sl0⟩)
    (o0 : K.lookup da0 = some ⟨ocD0, odD0, .fields vs0, slD0⟩)
    (v0 : vs0[2]? = some (.str file0 tf0))
    (p0 : ((l.prog.main.file : Str) == file0) = true)
    (d0 : PySem.W.codeIn K (.ref da0) "InvalidName.__init__" = true)
    (x0 : K.lookup cc0 = some ⟨ocC0, odC0, .cell (some (.ref c0)), slC0⟩)
    (h0 : K.lookup c0 = some (PySem.excClassObj nm0 q0 c0 N0 bs0 bm0 true sn0 sub0 ab0 col0 dd0 k00 k10 k20 k30 k50 "ValueError.__new__"))
    (r0 : PySem.HandSPX.refsVE bm0 = true)
    (s0 : supB K c0 f0 "ValueError" "ValueError.__init__" ["name"] = true)
    (e0 : excB K c0 = true)
    (n1 : PySem.W.findIn K (.ref c1) "__init__" = some (some (.ref f1)))
    (l1 : K.lookup f1 = some ⟨oc1, od1, .func (fn1 kV1 dc1 pm1 an1 da1 ct1 cc1), sl1⟩)
    (o1 : K.lookup da1 = some ⟨ocD1, odD1, .fields vs1, slD1⟩)
    (v1 : vs1[2]? = some (.str file1 tf1))
    (p1 : ((l.prog.main.file : Str) == file1) = true)
    (d1 : PySem.W.codeIn K (.ref da1) "InvalidText.__init__" = true)
    (x1 : K.lookup cc1 = some ⟨ocC1, odC1, .cell (some (.ref c1)), slC1⟩)
    (h1 : K.lookup c1 = some (PySem.excClassObj nm1 q1 c1 N1 bs1 bm1 true sn1 sub1 ab1 col1 dd1 k01 k11 k21 k31 k51 "ValueError.__new__"))
    (r1 : PySem.HandSPX.refsVE bm1 = true)
    (s1 : supB K c1 f1 "ValueError" "ValueError.__init__" ["row"] = true)
    (e1 : excB K c1 = true)
    (n2 : PySem.W.findIn K (.ref c2) "__init__" = some (some (.ref f2)))
    (l2 : K.lookup f2 = some ⟨oc2, od2, .func (fn2 kV2 dc2 pm2 an2 da2 ct2 cc2), sl2⟩)
    (o2 : K.lookup da2 = some ⟨ocD2, odD2, .fields vs2, slD2⟩)
    (v2 : vs2[2]? = some (.str file2 tf2))
    (p2 : ((l.prog.main.file : Str) == file2) = true)
    (d2 : PySem.W.codeIn K (.ref da2) "InvalidDeed.__init__" = true)
    (x2 : K.lookup cc2 = some ⟨ocC2, odC2, .cell (some (.ref c2)), slC2⟩)
    (h2 : K.lookup c2 = some (PySem.excClassObj nm2 q2 c2 N2 bs2 bm2 true sn2 sub2 ab2 col2 dd2 k02 k12 k22 k32 k52 "ValueError.__new__"))
    (r2 : PySem.HandSPX.refsVE bm2 = true)
    (s2 : supB K c2 f2 "ValueError" "ValueError.__init__" ["name"] = true)
    (e2 : excB K c2 = true)
    (n5 : PySem.W.findIn K (.ref c5) "__init__" = some (some (.ref f5)))
    (l5 : K.lookup f5 = some ⟨oc5, od5, .func (fn5 kV5 dc5 pm5 an5 da5 ct5 cc5), sl5⟩)
    (o5 : K.lookup da5 = some ⟨ocD5, odD5, .fields vs5, slD5⟩)
    (v5 : vs5[2]? = some (.str file5 tf5))
    (p5 : ((l.prog.main.file : Str) == file5) = true)
    (d5 : PySem.W.codeIn K (.ref da5) "Taken.__init__" = true)
    (x5 : K.lookup cc5 = some ⟨ocC5, odC5, .cell (some (.ref c5)), slC5⟩)
    (h5 : K.lookup c5 = some (PySem.excClassObj nm5 q5 c5 N5 bs5 bm5 true sn5 sub5 ab5 col5 dd5 k05 k15 k25 k35 k55 "ValueError.__new__"))
    (r5 : PySem.HandSPX.refsVE bm5 = true)
    (s5 : supB K c5 f5 "ValueError" "ValueError.__init__" ["name"] = true)
    (e5 : excB K c5 = true)
    (n6 : PySem.W.findIn K (.ref c6) "__init__" = some (some (.ref f6)))
    (l6 : K.lookup f6 = some ⟨oc6, od6, .func (fn6 kV6 dc6 pm6 an6 da6 ct6 cc6), sl6⟩)
    (o6 : K.lookup da6 = some ⟨ocD6, odD6, .fields vs6, slD6⟩)
    (v6 : vs6[2]? = some (.str file6 tf6))
    (p6 : ((l.prog.main.file : Str) == file6) = true)
    (d6 : PySem.W.codeIn K (.ref da6) "Unready.__init__" = true)
    (x6 : K.lookup cc6 = some ⟨ocC6, odC6, .cell (some (.ref c6)), slC6⟩)
    (h6 : K.lookup c6 = some (PySem.excClassObj nm6 q6 c6 N6 bs6 bm6 true sn6 sub6 ab6 col6 dd6 k06 k16 k26 k36 k56 "ValueError.__new__"))
    (r6 : PySem.HandSPX.refsVE bm6 = true)
    (s6 : supB K c6 f6 "ValueError" "ValueError.__init__" ["where", "name"] = true)
    (e6 : excB K c6 = true)
    (n7 : PySem.W.findIn K (.ref c7) "__init__" = some (some (.ref f7)))
    (l7 : K.lookup f7 = some ⟨oc7, od7, .func (fn7 kV7 dc7 pm7 an7 da7 ct7 cc7), sl7⟩)
    (o7 : K.lookup da7 = some ⟨ocD7, odD7, .fields vs7, slD7⟩)
    (v7 : vs7[2]? = some (.str file7 tf7))
    (p7 : ((l.prog.main.file : Str) == file7) = true)
    (d7 : PySem.W.codeIn K (.ref da7) "Opened.__init__" = true)
    (x7 : K.lookup cc7 = some ⟨ocC7, odC7, .cell (some (.ref c7)), slC7⟩)
    (h7 : K.lookup c7 = some (PySem.excClassObj nm7 q7 c7 N7 bs7 bm7 true sn7 sub7 ab7 col7 dd7 k07 k17 k27 k37 k57 "ValueError.__new__"))
    (r7 : PySem.HandSPX.refsVE bm7 = true)
    (s7 : supB K c7 f7 "ValueError" "ValueError.__init__" ["name"] = true)
    (e7 : excB K c7 = true)
    (n8 : PySem.W.findIn K (.ref c8) "__init__" = some (some (.ref f8)))
    (l8 : K.lookup f8 = some ⟨oc8, od8, .func (fn8 kV8 dc8 pm8 an8 da8 ct8 cc8), sl8⟩)
    (o8 : K.lookup da8 = some ⟨ocD8, odD8, .fields vs8, slD8⟩)
    (v8 : vs8[2]? = some (.str file8 tf8))
    (p8 : ((l.prog.main.file : Str) == file8) = true)
    (d8 : PySem.W.codeIn K (.ref da8) "NotOpen.__init__" = true)
    (x8 : K.lookup cc8 = some ⟨ocC8, odC8, .cell (some (.ref c8)), slC8⟩)
    (h8 : K.lookup c8 = some (PySem.excClassObj nm8 q8 c8 N8 bs8 bm8 true sn8 sub8 ab8 col8 dd8 k08 k18 k28 k38 k58 "ValueError.__new__"))
    (r8 : PySem.HandSPX.refsVE bm8 = true)
    (s8 : supB K c8 f8 "ValueError" "ValueError.__init__" ["name"] = true)
    (e8 : excB K c8 = true)
    (n9 : PySem.W.findIn K (.ref c9) "__init__" = some (some (.ref f9)))
    (l9 : K.lookup f9 = some ⟨oc9, od9, .func (fn9 kV9 dc9 pm9 an9 da9 ct9 cc9), sl9⟩)
    (o9 : K.lookup da9 = some ⟨ocD9, odD9, .fields vs9, slD9⟩)
    (v9 : vs9[2]? = some (.str file9 tf9))
    (p9 : ((l.prog.main.file : Str) == file9) = true)
    (d9 : PySem.W.codeIn K (.ref da9) "TooWide.__init__" = true)
    (x9 : K.lookup cc9 = some ⟨ocC9, odC9, .cell (some (.ref c9)), slC9⟩)
    (h9 : K.lookup c9 = some (PySem.excClassObj nm9 q9 c9 N9 bs9 bm9 true sn9 sub9 ab9 col9 dd9 k09 k19 k29 k39 k59 "ValueError.__new__"))
    (r9 : PySem.HandSPX.refsVE bm9 = true)
    (s9 : supB K c9 f9 "ValueError" "ValueError.__init__" ["deed", "row"] = true)
    (e9 : excB K c9 = true)
    (n11 : PySem.W.findIn K (.ref c11) "__init__" = some (some (.ref f11)))
    (l11 : K.lookup f11 = some ⟨oc11, od11, .func (fn11 kV11 dc11 pm11 an11 da11 ct11 cc11), sl11⟩)
    (o11 : K.lookup da11 = some ⟨ocD11, odD11, .fields vs11, slD11⟩)
    (v11 : vs11[2]? = some (.str file11 tf11))
    (p11 : ((l.prog.main.file : Str) == file11) = true)
    (d11 : PySem.W.codeIn K (.ref da11) "Clash.__init__" = true)
    (x11 : K.lookup cc11 = some ⟨ocC11, odC11, .cell (some (.ref c11)), slC11⟩)
    (h11 : K.lookup c11 = some (PySem.excClassObj nm11 q11 c11 N11 bs11 bm11 true sn11 sub11 ab11 col11 dd11 k011 k111 k211 k311 k511 "ValueError.__new__"))
    (r11 : PySem.HandSPX.refsVE bm11 = true)
    (s11 : supB K c11 f11 "ValueError" "ValueError.__init__" ["name"] = true)
    (e11 : excB K c11 = true)
    (n13 : PySem.W.findIn K (.ref c13) "__init__" = some (some (.ref f13)))
    (l13 : K.lookup f13 = some ⟨oc13, od13, .func (fn13 kV13 dc13 pm13 an13 da13 ct13 cc13), sl13⟩)
    (o13 : K.lookup da13 = some ⟨ocD13, odD13, .fields vs13, slD13⟩)
    (v13 : vs13[2]? = some (.str file13 tf13))
    (p13 : ((l.prog.main.file : Str) == file13) = true)
    (d13 : PySem.W.codeIn K (.ref da13) "UnknownName.__init__" = true)
    (x13 : K.lookup cc13 = some ⟨ocC13, odC13, .cell (some (.ref c13)), slC13⟩)
    (h13 : K.lookup c13 = some (PySem.excClassObj nm13 q13 c13 N13 bs13 keTail true sn13 sub13 ab13 col13 dd13 k013 k113 k213 k313 k513 "LookupError.__new__"))
    (s13 : supB K c13 f13 "KeyError" "KeyError.__init__" ["name"] = true)
    (e13 : excB K c13 = true)
    (q3 : PySem.W.excIn K c3 [.type "ValueError", .type "Exception", .type "BaseException", .type "object"] "ValueError.__new__" = true)
    (y3 : PySem.W.keepIn K (.ref c3) = true)
    (e3 : excB K c3 = true)
    (q4 : PySem.W.excIn K c4 [.type "ValueError", .type "Exception", .type "BaseException", .type "object"] "ValueError.__new__" = true)
    (y4 : PySem.W.keepIn K (.ref c4) = true)
    (e4 : excB K c4 = true)
    (q10 : PySem.W.excIn K c10 [.type "ValueError", .type "Exception", .type "BaseException", .type "object"] "ValueError.__new__" = true)
    (y10 : PySem.W.keepIn K (.ref c10) = true)
    (e10 : excB K c10 = true)
    (q12 : PySem.W.excIn K c12 [.type "ValueError", .type "Exception", .type "BaseException", .type "object"] "ValueError.__new__" = true)
    (y12 : PySem.W.keepIn K (.ref c12) = true)
    (e12 : excB K c12 = true)
    (kit : kitB K [c0, c1, c2, c3, c4, c5, c6, c7, c8, c9, c10, c11, c12, c13] HE = true)
    (top : (l.prog.main.scope.names.lookup ("super" : Str)).isSome = false)
    (aFd : PySem.W.nsIn K mainGlobals "_law_feed" = some (some (.ref fFd)))
    (lFd : K.lookup fFd = some ⟨ocFd, odFd, .func (PySem.W.fnOf "_law_feed" "_law_feed" (defArgs sFeed) (defBody sFeed) (defScope sFeed) .none kVFd dcFd pmFd anFd cdFd ctFd), slFd⟩)
    (cFd : PySem.W.codeIn K cdFd "_law_feed" = true)
    (kFd : PySem.W.keepIn K (.ref fFd) = true)
    (aT : PySem.W.nsIn K mainGlobals "_law_take" = some (some (.ref fT)))
    (lT : K.lookup fT = some ⟨ocT, odT, .func (PySem.W.fnOf "_law_take" "_law_take" (defArgs sTake) (defBody sTake) (defScope sTake) .none kVT dcT pmT anT cdT ctT), slT⟩)
    (cT : PySem.W.codeIn K cdT "_law_take" = true)
    (kT : PySem.W.keepIn K (.ref fT) = true)
    (aSm : PySem.W.nsIn K mainGlobals "_law_same" = some (some (.ref fSm)))
    (lSm : K.lookup fSm = some ⟨ocSm, odSm, .func (PySem.W.fnOf "_law_same" "_law_same" (defArgs sSame) (defBody sSame) (defScope sSame) .none kVSm dcSm pmSm anSm cdSm ctSm), slSm⟩)
    (cSm : PySem.W.codeIn K cdSm "_law_same" = true)
    (kSm : PySem.W.keepIn K (.ref fSm) = true)
    (aTh : PySem.W.nsIn K mainGlobals "_law_thing" = some (some (.ref fTh)))
    (lTh : K.lookup fTh = some ⟨ocTh, odTh, .func (PySem.W.fnOf "_law_thing" "_law_thing" (defArgs sThing) (defBody sThing) (defScope sThing) .none kVTh dcTh pmTh anTh cdTh ctTh), slTh⟩)
    (cTh : PySem.W.codeIn K cdTh "_law_thing" = true)
    (kTh : PySem.W.keepIn K (.ref fTh) = true)
    (aTo : PySem.W.nsIn K mainGlobals "_law_told" = some (some (.ref fTo)))
    (lTo : K.lookup fTo = some ⟨ocTo, odTo, .func (PySem.W.fnOf "_law_told" "_law_told" (defArgs sTold) (defBody sTold) (defScope sTold) .none kVTo dcTo pmTo anTo cdTo ctTo), slTo⟩)
    (cTo : PySem.W.codeIn K cdTo "_law_told" = true)
    (kTo : PySem.W.keepIn K (.ref fTo) = true)
    (aSo : PySem.W.nsIn K mainGlobals "_law_sorts" = some (some (.ref fSo)))
    (lSo : K.lookup fSo = some ⟨ocSo, odSo, .func (PySem.W.fnOf "_law_sorts" "_law_sorts" (defArgs sSorts) (defBody sSorts) (defScope sSorts) .none kVSo dcSo pmSo anSo cdSo ctSo), slSo⟩)
    (cSo : PySem.W.codeIn K cdSo "_law_sorts" = true)
    (kSo : PySem.W.keepIn K (.ref fSo) = true)
    (aPa : PySem.W.nsIn K mainGlobals "_law_parts" = some (some (.ref fPa)))
    (lPa : K.lookup fPa = some ⟨ocPa, odPa, .func (PySem.W.fnOf "_law_parts" "_law_parts" (defArgs sParts) (defBody sParts) (defScope sParts) .none kVPa dcPa pmPa anPa cdPa ctPa), slPa⟩)
    (cPa : PySem.W.codeIn K cdPa "_law_parts" = true)
    (kPa : PySem.W.keepIn K (.ref fPa) = true)
    (aW : PySem.W.nsIn K mainGlobals "law" = some (some (.ref fW)))
    (lW : K.lookup fW = some ⟨ocW, odW, .func (PySem.W.fnOf "law" "law" (defArgs sLaw) (defBody sLaw) (defScope sLaw) .none kVW dcW pmW anW cdW ctW), slW⟩)
    (cW : PySem.W.codeIn K cdW "law" = true)
    (kW : PySem.W.keepIn K (.ref fW) = true)
    (z_super : PySem.W.nsIn K mainGlobals "super" = some none)
    (z_isinstance : PySem.W.nsIn K mainGlobals "isinstance" = some none)
    (z_ValueError : PySem.W.nsIn K mainGlobals "ValueError" = some none)
    (z_KeyError : PySem.W.nsIn K mainGlobals "KeyError" = some none)
    (z_repr : PySem.W.nsIn K mainGlobals "repr" = some none)
    (z_len : PySem.W.nsIn K mainGlobals "len" = some none)
    (z_abs : PySem.W.nsIn K mainGlobals "abs" = some none)
    (z_max : PySem.W.nsIn K mainGlobals "max" = some none)
    (z_min : PySem.W.nsIn K mainGlobals "min" = some none)
    (z_range : PySem.W.nsIn K mainGlobals "range" = some none)
    (z_enumerate : PySem.W.nsIn K mainGlobals "enumerate" = some none) :
    ∃ fd : FuncData, (∀ (s : Shared) (v : Value), BindsTo s fd ⟨[v], []⟩ [("_law_script", v)]) ∧ ∀ base : Heap, K.In base → base.Ns mainGlobals mg → FnG l.prog w K mg base CX0 3 fa fd ["_law_script"] (spLaw K) := by
  have e := hfa.symm.trans (PySem.W.mg_of X G aW)
  cases e
  have mS := PySem.W.mg_none_of X G z_super
  have I0 : InK K l.prog c0 f0 cc0 da0 (fn0 kV0 dc0 pm0 an0 da0 ct0 cc0) "InvalidName.__init__" := ⟨⟨oc0, od0, sl0, l0⟩, ⟨ocD0, odD0, vs0, slD0, file0, tf0, o0, v0, p0⟩, d0, top, ⟨ocC0, odC0, slC0, x0⟩⟩
  have E0 := err0 I0 s0 e0 h0 r0 mS (PySem.W.mg_of X G a0)
  have I1 : InK K l.prog c1 f1 cc1 da1 (fn1 kV1 dc1 pm1 an1 da1 ct1 cc1) "InvalidText.__init__" := ⟨⟨oc1, od1, sl1, l1⟩, ⟨ocD1, odD1, vs1, slD1, file1, tf1, o1, v1, p1⟩, d1, top, ⟨ocC1, odC1, slC1, x1⟩⟩
  have E1 := err1 I1 s1 e1 h1 r1 mS (PySem.W.mg_of X G a1)
  have I2 : InK K l.prog c2 f2 cc2 da2 (fn2 kV2 dc2 pm2 an2 da2 ct2 cc2) "InvalidDeed.__init__" := ⟨⟨oc2, od2, sl2, l2⟩, ⟨ocD2, odD2, vs2, slD2, file2, tf2, o2, v2, p2⟩, d2, top, ⟨ocC2, odC2, slC2, x2⟩⟩
  have E2 := err2 I2 s2 e2 h2 r2 mS (PySem.W.mg_of X G a2)
  have I5 : InK K l.prog c5 f5 cc5 da5 (fn5 kV5 dc5 pm5 an5 da5 ct5 cc5) "Taken.__init__" := ⟨⟨oc5, od5, sl5, l5⟩, ⟨ocD5, odD5, vs5, slD5, file5, tf5, o5, v5, p5⟩, d5, top, ⟨ocC5, odC5, slC5, x5⟩⟩
  have E5 := err5 I5 s5 e5 h5 r5 mS (PySem.W.mg_of X G a5)
  have I6 : InK K l.prog c6 f6 cc6 da6 (fn6 kV6 dc6 pm6 an6 da6 ct6 cc6) "Unready.__init__" := ⟨⟨oc6, od6, sl6, l6⟩, ⟨ocD6, odD6, vs6, slD6, file6, tf6, o6, v6, p6⟩, d6, top, ⟨ocC6, odC6, slC6, x6⟩⟩
  have E6 := err6 I6 s6 e6 h6 r6 mS (PySem.W.mg_of X G a6)
  have I7 : InK K l.prog c7 f7 cc7 da7 (fn7 kV7 dc7 pm7 an7 da7 ct7 cc7) "Opened.__init__" := ⟨⟨oc7, od7, sl7, l7⟩, ⟨ocD7, odD7, vs7, slD7, file7, tf7, o7, v7, p7⟩, d7, top, ⟨ocC7, odC7, slC7, x7⟩⟩
  have E7 := err7 I7 s7 e7 h7 r7 mS (PySem.W.mg_of X G a7)
  have I8 : InK K l.prog c8 f8 cc8 da8 (fn8 kV8 dc8 pm8 an8 da8 ct8 cc8) "NotOpen.__init__" := ⟨⟨oc8, od8, sl8, l8⟩, ⟨ocD8, odD8, vs8, slD8, file8, tf8, o8, v8, p8⟩, d8, top, ⟨ocC8, odC8, slC8, x8⟩⟩
  have E8 := err8 I8 s8 e8 h8 r8 mS (PySem.W.mg_of X G a8)
  have I9 : InK K l.prog c9 f9 cc9 da9 (fn9 kV9 dc9 pm9 an9 da9 ct9 cc9) "TooWide.__init__" := ⟨⟨oc9, od9, sl9, l9⟩, ⟨ocD9, odD9, vs9, slD9, file9, tf9, o9, v9, p9⟩, d9, top, ⟨ocC9, odC9, slC9, x9⟩⟩
  have E9 := err9 I9 s9 e9 h9 r9 mS (PySem.W.mg_of X G a9)
  have I11 : InK K l.prog c11 f11 cc11 da11 (fn11 kV11 dc11 pm11 an11 da11 ct11 cc11) "Clash.__init__" := ⟨⟨oc11, od11, sl11, l11⟩, ⟨ocD11, odD11, vs11, slD11, file11, tf11, o11, v11, p11⟩, d11, top, ⟨ocC11, odC11, slC11, x11⟩⟩
  have E11 := err11 I11 s11 e11 h11 r11 mS (PySem.W.mg_of X G a11)
  have I13 : InK K l.prog c13 f13 cc13 da13 (fn13 kV13 dc13 pm13 an13 da13 ct13 cc13) "UnknownName.__init__" := ⟨⟨oc13, od13, sl13, l13⟩, ⟨ocD13, odD13, vs13, slD13, file13, tf13, o13, v13, p13⟩, d13, top, ⟨ocC13, odC13, slC13, x13⟩⟩
  have E13 := err13 I13 s13 e13 h13 mS (PySem.W.mg_of X G a13)
  have E3 : ErrS K mg c3 "NoRatio" := ⟨PySem.W.mg_of X G a3, q3, y3, (excB_ok e3).1⟩
  have E4 : ErrS K mg c4 "OtherChoices" := ⟨PySem.W.mg_of X G a4, q4, y4, (excB_ok e4).1⟩
  have E10 : ErrS K mg c10 "NotNumber" := ⟨PySem.W.mg_of X G a10, q10, y10, (excB_ok e10).1⟩
  have E12 : ErrS K mg c12 "InvalidCommand" := ⟨PySem.W.mg_of X G a12, q12, y12, (excB_ok e12).1⟩
  have Q := kitB_ok kit
  have T : Txt l.prog K mg (fun i => [c0, c1, c2, c3, c4, c5, c6, c7, c8, c9, c10, c11, c12, c13].getD i 0) (fun i => [f0, f1, f2, 0, 0, f5, f6, f7, f8, f9, 0, f11, 0, f13].getD i 0) HE := ⟨E0, E1, E2, E3, E4, E5, E6, E7, E8, E9, E10, E11, E12, E13, PySem.W.mg_of X G aH, Q.kk, Q.kH, Q.kV, Q.kK, PySem.W.mg_none_of X G z_isinstance, PySem.W.mg_none_of X G z_ValueError, PySem.W.mg_none_of X G z_KeyError, PySem.W.mg_none_of X G z_repr, PySem.W.mg_none_of X G z_len, PySem.W.mg_none_of X G z_abs, PySem.W.mg_none_of X G z_max, PySem.W.mg_none_of X G z_min, PySem.W.mg_none_of X G z_range, PySem.W.mg_none_of X G z_enumerate⟩
  have FFd := fun_mk (st := sFeed) lFd cFd kFd
  have bFd := FFd.binds (ps := ["_law_script", "_law_k"]) fun _ _ _ _ _ _ us hl => match us, hl with | [_, _], _ => rfl
  have FT := fun_mk (st := sTake) lT cT kT
  have bT := FT.binds (ps := ["_law_feed_here", "_law_many"]) fun _ _ _ _ _ _ us hl => match us, hl with | [_, _], _ => rfl
  have FSm := fun_mk (st := sSame) lSm cSm kSm
  have bSm := FSm.binds (ps := ["_law_one", "_law_other"]) fun _ _ _ _ _ _ us hl => match us, hl with | [_, _], _ => rfl
  have FTh := fun_mk (st := sThing) lTh cTh kTh
  have bTh := FTh.binds (ps := ["_law_feed_here"]) fun _ _ _ _ _ _ us hl => match us, hl with | [_], _ => rfl
  have FTo := fun_mk (st := sTold) lTo cTo kTo
  have bTo := FTo.binds (ps := ["_law_feed_here", "_law_one", "_law_other"]) fun _ _ _ _ _ _ us hl => match us, hl with | [_, _, _], _ => rfl
  have FSo := fun_mk (st := sSorts) lSo cSo kSo
  have bSo := FSo.binds (ps := ["_law_error"]) fun _ _ _ _ _ _ us hl => match us, hl with | [_], _ => rfl
  have FPa := fun_mk (st := sParts) lPa cPa kPa
  have bPa := FPa.binds (ps := ["_law_error", "_law_at"]) fun _ _ _ _ _ _ us hl => match us, hl with | [_, _], _ => rfl
  have FW := fun_mk (st := sLaw) lW cW kW
  refine ⟨PySem.W.fnOf "law" "law" (defArgs sLaw) (defBody sLaw) (defScope sLaw) .none kVW dcW pmW anW cdW ctW, fun s v => .of_eq rfl, fun base _ _ => ?_⟩
  exact ok_law FW T FFd bFd (PySem.W.mg_of X G aFd) FT bT (PySem.W.mg_of X G aT) FTh bTh (PySem.W.mg_of X G aTh) FTo bTo (PySem.W.mg_of X G aTo) FSm bSm (PySem.W.mg_of X G aSm) FSo bSo (PySem.W.mg_of X G aSo) FPa bPa (PySem.W.mg_of X G aPa)
theorem walk {l : PySem.W.OpenLaw} {q : Program} {loose : List Str} {XP : (Str → Option Value) → Heap → Prop} {YP : World → Heap → Prop} {d : DefRec} {K : Params → PySem.W.Frag} (hn : l.most = some 63) (hdf : d.params.defaults = [])
    (hY : ∀ (w : World) (h : Heap), YP w h → (K w.params).In h)
    (F : ∀ (w : World) (mg : Str → Option Value) (fa : Addr) (h : Heap), (K w.params).In h → h.Ns mainGlobals mg → mg d.name = some (.ref fa) →
      ∃ fd : FuncData, (∀ (s : Shared) (u : Value), BindsTo s fd ⟨[u], []⟩ [("_law_script", u)]) ∧ ∀ base : Heap, (K w.params).In base → base.Ns mainGlobals mg → FnG l.prog w (K w.params) mg base CX0 3 fa fd ["_law_script"] (spLaw (K w.params))) :
    PySem.W.WalkO q loose XP YP l.row.toRowW d [] (fun f vs => PySem.call f vs) :=
  walk_ofG (n := 63) (k := 3) (x := "_law_script") (CX := fun _ => CX0) (sp := fun w => spLaw (K w.params)) hn (by decide) hdf ⟨rfl, by decide, by decide⟩ hY F (fun _ _ a ns hl _ hS => ⟨a, ns, rfl, hS, hl, fun _ => rfl⟩) fun _ _ _ _ _ z => z
end R1

open PySem PySem.W PyProof.Rows
set_option maxRecDepth 100000 in
set_option maxHeartbeats 0 in
theorem PySem.Challenge.cw_hadnot_k01_errors_holds : PySem.Challenge.rw_hadnot_k01_errors.Holds := by
  w_on; o_law; k_head; (case hw => w_witness2)
  k_fill
  refine R1.walk (l := PySem.Challenge.rw_hadnot_k01_errors) rfl rfl (fun w h Y => PySem.W.kIn_of Y) ?F
  case F =>
    intro w mg fa h KX G hmg
    refine' R1.all_mk KX G hmg ?aH ?a0 ?a1 ?a2 ?a3 ?a4 ?a5 ?a6 ?a7 ?a8 ?a9 ?a10 ?a11 ?a12 ?a13 ?n0 ?l0 ?o0 ?v0 ?p0 ?d0 ?x0 ?h0 ?r0 ?s0 ?e0 ?n1 ?l1 ?o1 ?v1 ?p1 ?d1 ?x1 ?h1 ?r1 ?s1 ?e1 ?n2 ?l2 ?o2 ?v2 ?p2 ?d2 ?x2 ?h2 ?r2 ?s2 ?e2 ?n5 ?l5 ?o5 ?v5 ?p5 ?d5 ?x5 ?h5 ?r5 ?s5 ?e5 ?n6 ?l6 ?o6 ?v6 ?p6 ?d6 ?x6 ?h6 ?r6 ?s6 ?e6 ?n7 ?l7 ?o7 ?v7 ?p7 ?d7 ?x7 ?h7 ?r7 ?s7 ?e7 ?n8 ?l8 ?o8 ?v8 ?p8 ?d8 ?x8 ?h8 ?r8 ?s8 ?e8 ?n9 ?l9 ?o9 ?v9 ?p9 ?d9 ?x9 ?h9 ?r9 ?s9 ?e9 ?n11 ?l11 ?o11 ?v11 ?p11 ?d11 ?x11 ?h11 ?r11 ?s11 ?e11 ?n13 ?l13 ?o13 ?v13 ?p13 ?d13 ?x13 ?h13 ?s13 ?e13 ?q3 ?y3 ?e3 ?q4 ?y4 ?e4 ?q10 ?y10 ?e10 ?q12 ?y12 ?e12 ?kit ?top ?aFd ?lFd ?cFd ?kFd ?aT ?lT ?cT ?kT ?aSm ?lSm ?cSm ?kSm ?aTh ?lTh ?cTh ?kTh ?aTo ?lTo ?cTo ?kTo ?aSo ?lSo ?cSo ?kSo ?aPa ?lPa ?cPa ?kPa ?aW ?lW ?cW ?kW ?z_super ?z_isinstance ?z_ValueError ?z_KeyError ?z_repr ?z_len ?z_abs ?z_max ?z_min ?z_range ?z_enumerate
    (case aH => k_is)
    (case a0 => k_is)
    (case a1 => k_is)
    (case a2 => k_is)
    (case a3 => k_is)
    (case a4 => k_is)
    (case a5 => k_is)
    (case a6 => k_is)
    (case a7 => k_is)
    (case a8 => k_is)
    (case a9 => k_is)
    (case a10 => k_is)
    (case a11 => k_is)
    (case a12 => k_is)
    (case a13 => k_is)
    (case n0 => k_is)
    (case l0 => k_is)
    (case o0 => k_is)
    (case v0 => rfl)
    (case p0 => first | rfl | decide +kernel | kernel_rfl)
    (case d0 => k_is)
    (case x0 => k_is)
    (case h0 => k_is)
    (case r0 => first | rfl | decide +kernel)
    (case s0 => kernel_rfl)
    (case e0 => kernel_rfl)
    (case n1 => k_is)
    (case l1 => k_is)
    (case o1 => k_is)
    (case v1 => rfl)
    (case p1 => first | rfl | decide +kernel | kernel_rfl)
    (case d1 => k_is)
    (case x1 => k_is)
    (case h1 => k_is)
    (case r1 => first | rfl | decide +kernel)
    (case s1 => kernel_rfl)
    (case e1 => kernel_rfl)
    (case n2 => k_is)
    (case l2 => k_is)
    (case o2 => k_is)
    (case v2 => rfl)
    (case p2 => first | rfl | decide +kernel | kernel_rfl)
    (case d2 => k_is)
    (case x2 => k_is)
    (case h2 => k_is)
    (case r2 => first | rfl | decide +kernel)
    (case s2 => kernel_rfl)
    (case e2 => kernel_rfl)
    (case n5 => k_is)
    (case l5 => k_is)
    (case o5 => k_is)
    (case v5 => rfl)
    (case p5 => first | rfl | decide +kernel | kernel_rfl)
    (case d5 => k_is)
    (case x5 => k_is)
    (case h5 => k_is)
    (case r5 => first | rfl | decide +kernel)
    (case s5 => kernel_rfl)
    (case e5 => kernel_rfl)
    (case n6 => k_is)
    (case l6 => k_is)
    (case o6 => k_is)
    (case v6 => rfl)
    (case p6 => first | rfl | decide +kernel | kernel_rfl)
    (case d6 => k_is)
    (case x6 => k_is)
    (case h6 => k_is)
    (case r6 => first | rfl | decide +kernel)
    (case s6 => kernel_rfl)
    (case e6 => kernel_rfl)
    (case n7 => k_is)
    (case l7 => k_is)
    (case o7 => k_is)
    (case v7 => rfl)
    (case p7 => first | rfl | decide +kernel | kernel_rfl)
    (case d7 => k_is)
    (case x7 => k_is)
    (case h7 => k_is)
    (case r7 => first | rfl | decide +kernel)
    (case s7 => kernel_rfl)
    (case e7 => kernel_rfl)
    (case n8 => k_is)
    (case l8 => k_is)
    (case o8 => k_is)
    (case v8 => rfl)
    (case p8 => first | rfl | decide +kernel | kernel_rfl)
    (case d8 => k_is)
    (case x8 => k_is)
    (case h8 => k_is)
    (case r8 => first | rfl | decide +kernel)
    (case s8 => kernel_rfl)
    (case e8 => kernel_rfl)
    (case n9 => k_is)
    (case l9 => k_is)
    (case o9 => k_is)
    (case v9 => rfl)
    (case p9 => first | rfl | decide +kernel | kernel_rfl)
    (case d9 => k_is)
    (case x9 => k_is)
    (case h9 => k_is)
    (case r9 => first | rfl | decide +kernel)
    (case s9 => kernel_rfl)
    (case e9 => kernel_rfl)
    (case n11 => k_is)
    (case l11 => k_is)
    (case o11 => k_is)
    (case v11 => rfl)
    (case p11 => first | rfl | decide +kernel | kernel_rfl)
    (case d11 => k_is)
    (case x11 => k_is)
    (case h11 => k_is)
    (case r11 => first | rfl | decide +kernel)
    (case s11 => kernel_rfl)
    (case e11 => kernel_rfl)
    (case n13 => k_is)
    (case l13 => k_is)
    (case o13 => k_is)
    (case v13 => rfl)
    (case p13 => first | rfl | decide +kernel | kernel_rfl)
    (case d13 => k_is)
    (case x13 => k_is)
    (case h13 => k_is)
    (case s13 => kernel_rfl)
    (case e13 => kernel_rfl)
    (case q3 => k_exc)
    (case y3 => k_is)
    (case e3 => kernel_rfl)
    (case q4 => k_exc)
    (case y4 => k_is)
    (case e4 => kernel_rfl)
    (case q10 => k_exc)
    (case y10 => k_is)
    (case e10 => kernel_rfl)
    (case q12 => k_exc)
    (case y12 => k_is)
    (case e12 => kernel_rfl)
    (case kit => kernel_rfl)
    (case top => first | rfl | decide +kernel | kernel_rfl)
    (case aFd => k_is)
    (case lFd => k_is)
    (case cFd => k_is)
    (case kFd => k_is)
    (case aT => k_is)
    (case lT => k_is)
    (case cT => k_is)
    (case kT => k_is)
    (case aSm => k_is)
    (case lSm => k_is)
    (case cSm => k_is)
    (case kSm => k_is)
    (case aTh => k_is)
    (case lTh => k_is)
    (case cTh => k_is)
    (case kTh => k_is)
    (case aTo => k_is)
    (case lTo => k_is)
    (case cTo => k_is)
    (case kTo => k_is)
    (case aSo => k_is)
    (case lSo => k_is)
    (case cSo => k_is)
    (case kSo => k_is)
    (case aPa => k_is)
    (case lPa => k_is)
    (case cPa => k_is)
    (case kPa => k_is)
    (case aW => k_is)
    (case lW => k_is)
    (case cW => k_is)
    (case kW => k_is)
    (case z_super => k_is)
    (case z_isinstance => k_is)
    (case z_ValueError => k_is)
    (case z_KeyError => k_is)
    (case z_repr => k_is)
    (case z_len => k_is)
    (case z_abs => k_is)
    (case z_max => k_is)
    (case z_min => k_is)
    (case z_range => k_is)
    (case z_enumerate => k_is)
