import PyProof.Rows.All
import Wide.All
import OpenK.AllK
import Wide.FinOn
import HandS.ForMost
import HandS.ForExc
import HandS.Wide
import HandS.Gcd
import HandS.FStr
import HandS.StrMore
import HandS.IsInst
import HandS.Small
import HandS.CallSlots
import HandS.Flow
import HandS.Codes
import PyProof.ReprRoads
import HandS.RaiseMore
import HandS.DictComp
import HandS.Walk
import HandS.SortOrd
import HandS.SortRule
import KE.KSortTupAny
import KE.SortData
import HandS.Defaults
import HandS.Conv
import HandS.JoinGen
import PySem.Challenge.RW_hadnot_k02_names_and_values
set_option Elab.async false
set_option linter.all false
set_option maxRecDepth 100000
set_option maxHeartbeats 4000000
namespace L3
open PySem PySem.Spec PyProof.Rows L2

/-! ### numbers -/
def CDivNW (_ j : Int) : Prop := j ≠ 0 ∧ j.natAbs.log2 < 9000
theorem op_fdivNW {X : Cx} : OpR X (binaryOp .FloorDiv) (rI CDivNW fun i j => .int (i.fdiv j)) :=
  opI fun _ _ _ _ _ _ _ hc q => floordiv_int hc.1 q (.inl (PyProof.noPylong_of_log2 hc.2))

/-! ### operators of an own class -/
section
variable {X : Cx} {CX : CXT} {C f : Addr} {fd : FuncData} {ps : List Str} {sp : Sp} {E : XK} {n : Nat} {pins : List (Addr × Obj)} {σ : L2.St}
theorem back_of {Q : VK} {v : Value} {s' : Shared} (h : EP X pins σ Q v s') : PySem.W.CmpBack (EP X pins σ Q) v s' := by
  obtain ⟨x, H', I, r, q⟩ := id h
  cases x with
  | non => cases r; exact h
  | bl b => cases r; exact h
  | int i => obtain ⟨t, rfl⟩ := r; exact h
  | str i => obtain ⟨t, rfl⟩ := r; exact h
  | byt i => obtain ⟨t, rfl⟩ := r; exact h
  | flt i => obtain ⟨t, rfl⟩ := r; exact h
  | ref a => cases r; exact h
  | ty n => cases r; exact h
/-- one op other, both instances of the class at C -/
def rOwn2 (C : Addr) (sp : Sp) (E : XK) : R2 := fun x y H Q => ∃ a b dx dy fs gs, x = .ref a ∧ y = .ref b ∧ H a = some (.ins C dx fs) ∧ H b = some (.ins C dy gs) ∧ sp [x, y] H Q E
theorem op_own2 {op : Operator} (F : FnOk X.prog X.w X.K X.mg X.base CX n f fd ps sp) (hr : Room n X.A) (hb : Binds X.K fd ps []) (hx : Passes CX X E)
    (hc : PySem.W.selfFirst X.K C = true) (hs : PySem.W.findIn X.K (.ref C) (PySem.dunder op.info.2) = some (some (.ref f))) (hf : PySem.W.isFn X.K (.ref f) = true) :
    OpR X (binaryOp op) (rOwn2 C sp E) := by
  intro pins s σ H x y v u Q I rx ry h
  obtain ⟨a, b, dx, dy, fs, gs, rfl, rfl, ha, hb', hq⟩ := h
  cases rx
  cases ry
  obtain ⟨mA, J, _⟩ := ins_get I.hok ha
  obtain ⟨mB, J', _⟩ := ins_get I.hok hb'
  obtain ⟨od, J, _⟩ := J.look
  obtain ⟨od', J', _⟩ := J'.look
  obtain ⟨m, hF⟩ := I.fr
  refine PySem.W.binop_K hF I.ok.mod.kin J J'.type hc hs hf ?_
  exact wpAny_mono (run_fn (us := [.ref a, .ref b]) (vs := [.ref a, .ref b]) F hr hb .nil hx I (.cons rfl (.cons rfl .nil)) (by simpa using hq)) (fun v s' hv => back_of hv) fun _ _ e => e
/-- -one -/
def rOwn1 (C : Addr) (sp : Sp) (E : XK) : V → Hp → VK → Prop := fun x H Q => ∃ a dx fs, x = .ref a ∧ H a = some (.ins C dx fs) ∧ sp [x] H Q E
theorem un_ownNeg (F : FnOk X.prog X.w X.K X.mg X.base CX n f fd ps sp) (hr : Room n X.A) (hb : Binds X.K fd ps []) (hx : Passes CX X E)
    (hs : PySem.W.findIn X.K (.ref C) "__neg__" = some (some (.ref f))) (hf : PySem.W.isFn X.K (.ref f) = true) : UnR X (unaryOp .USub) (rOwn1 C sp E) := by
  intro pins s σ H x v Q I rx h
  obtain ⟨a, dx, fs, rfl, ha, hq⟩ := h
  cases rx
  obtain ⟨mA, J, _⟩ := ins_get I.hok ha
  obtain ⟨od, J, _⟩ := J.look
  obtain ⟨m, hF⟩ := I.fr
  exact PySem.W.ksp_neg hF I.ok.mod.kin J hs hf (run_fn (us := [.ref a]) (vs := [.ref a]) F hr hb .nil hx I (.cons rfl .nil) (by simpa using hq))
/-- one == other by the own __eq__, whatever the other is -/
def rOwnEq (K : PySem.W.Frag) (C : Addr) (sp : Sp) (E : XK) : R2 := fun x y H Q => ∃ a dx fs t, x = .ref a ∧ H a = some (.ins C dx fs) ∧ TyX K H y t ∧ PySem.W.notFirst K C t = true ∧ sp [x, y] H Q E
theorem op_ownEq (F : FnOk X.prog X.w X.K X.mg X.base CX n f fd ps sp) (hr : Room n X.A) (hb : Binds X.K fd ps []) (hx : Passes CX X E)
    (hs : PySem.W.findIn X.K (.ref C) "__eq__" = some (some (.ref f))) (hf : PySem.W.isFn X.K (.ref f) = true) : OpR X (compareOp .Eq) (rOwnEq X.K C sp E) := by
  intro pins s σ H x y v u Q I rx ry h
  obtain ⟨a, dx, fs, t, rfl, ha, ty, hn, hq⟩ := h
  cases rx
  obtain ⟨mA, J, _⟩ := ins_get I.hok ha
  obtain ⟨od, J, _⟩ := J.look
  obtain ⟨m, hF⟩ := I.fr
  obtain ⟨P, Z, p, _⟩ := kit_of I ry ty
  show wpAny (model X.prog X.w) X.A (richCompare .Eq (.ref a) u) (EP X pins σ Q) X.xe s
  refine PySem.W.cmp_K (op := .Eq) hr.units0 hF I.ok.mod.kin J (Z.ty _ _ I.kIn p) hn hs hf ?_
  exact wpAny_mono (run_fn (us := [.ref a, u]) (vs := [.ref a, y]) F hr hb .nil hx I (.cons rfl (.cons ry .nil)) (by simpa using hq)) (fun v s' hv => back_of hv) fun _ _ e => e
/-- the callee runs, a few levels below the body -/
theorem run_fnA {A : Around} {s : Shared} {H : Hp} {Q : VK} {us : List Value} {vs : List V} (F : FnOk X.prog X.w X.K X.mg X.base CX n f fd ps sp) (hr : Room n A) (hfr : A.frames = X.A.frames) (hb : Binds X.K fd ps []) (hx : Passes CX X E)
    (I : Inv X pins σ H s) (r : Vals vs us) (h : sp vs H Q E) : wpAny (model X.prog X.w) A (call (.ref f) us) (EP X pins σ Q) X.xe s := by
  have e0 : Env0 X.prog X.w X.K X.mg X.base A X.stack s H := by
    have e := I.env0
    exact ⟨hfr.trans e.frames, e.mod, e.bs, e.bsz, e.funs, e.frf, e.hok, e.bare⟩
  have hl : us.length = ps.length := r.length.symm.trans (F.len _ _ _ _ h)
  have bb := hb s us I.kIn (by simpa using hl)
  rw [List.append_nil] at bb
  refine wpAny_call (codeAny_mono (F.run A X.stack s H ⟨us, []⟩ us vs Q E hr e0 bb r h) fun res s' hq => ?_)
  match res, hq with
  | .error e, hq => exact hx pins σ H s e s' I hq
  | .ok (.ret w), hq => exact I.after hq
  | .ok .next, hq => exact False.elim hq
  | .ok .brk, hq => exact False.elim hq
  | .ok .cont, hq => exact False.elim hq
end
end L3

namespace L3
open PySem PySem.Spec PyProof.Rows L2
theorem iteB {b : Bool} {A B : Prop} (h1 : b = true → A) (h2 : b = false → B) : if b = true then A else B := by
  cases b with
  | true => exact h1 rfl
  | false => exact iteF (h2 rfl)
theorem iteD {c A B : Prop} [Decidable c] (h1 : c → A) (h2 : ¬ c → B) : if decide c = true then A else B :=
  iteB (fun h => h1 (of_decide_eq_true h)) fun h => h2 (of_decide_eq_false h)
theorem iteN {b : Bool} {A B : Prop} (h1 : b = false → A) (h2 : b = true → B) : if (!b) = true then A else B := by
  cases b with
  | true => exact iteF (h2 rfl)
  | false => exact h1 rfl
theorem bool_call {prog : Program} {w : World} {A : Around} {E : Value → Shared → Prop} {s : Shared} {x : Value} {Q : Value → Shared → Prop}
    (h : wpAny (model prog w) A.in1.in1 (truthy x) (fun b s' => Q (.bool b) s') E s) : wpAny (model prog w) A (call (.type "bool") [x]) Q E s := by
  refine callType_codes (T := "bool") (Bi := Builtin.«object.__init__») (Q₁ := fun r s₁ => ∃ y, r = .bool y ∧ Q r s₁) PySem.F.called_bool (PySem.F.typeCall_bool_1 _) PySem.F.entry_object_init ?_ ?_
  · refine codeAny_of_tree ?_
    show wpAny _ A.in1.in1 (do checkBuiltinCall "bool.__new__" ⟨[.type "bool", x], []⟩; again (.builtin "bool.__new__" ⟨[.type "bool", x], []⟩)) _ _ s
    refine wpAny_bind (wpAny_of_eq (PySem.F.newCall_bool_1 _) (wpAny_pure ⟨plainId_quiet (by decide +kernel) _, codeAny_builtin PySem.F.entry_bool_new ?_⟩))
    rw [Around.under_plainId (by decide +kernel) _]
    unfold Builtin.«bool.__new__»
    have f1 := F.conv_sub_bool
    have h2 : wpAny (model prog w) A.in1.in1 (truthy x) (fun b s' => ∃ y, Value.bool b = .bool y ∧ Q (.bool b) s') E s := wpAny_mono h (fun b s' q => ⟨b, rfl, q⟩) fun _ _ e => e
    obtain ⟨hp, g, d, tk, os⟩ := s
    repeat (any_goals (first | (with_reducible refine wpAny_mono h2 (fun b s' q => ?_) fun _ _ e => e) | wp_step))
    all_goals exact q
  · rintro obj s₁ ⟨y, rfl, hq⟩
    exact ⟨PySem.typeIs_bool _ _, PySem.F.args_object_init_2 _ _, object_init_meets PySem.F.called_bool.init.lookup PySem.F.called_bool.made (by decide) prog w A.in1 _ s₁ ⟨PySem.typeIs_bool _ _, rfl, hq⟩⟩
section
variable {X : Cx} {CX : CXT} {C f : Addr} {fd : FuncData} {ps : List Str} {sp : Sp} {E : XK} {n : Nat}
theorem room2 {A : Around} (h : Room (n + 1) A) : Room n A.in1.in1 :=
  ⟨h.hd, by have := h.dp; show A.depth + 3 * n + 5 < _; omega, by have := h.un; show A.units + 1 + 1 + 16 * n + 200 < _; omega⟩
/-- bool(x), str(x) by the own special method -/
theorem call_boolOwn (F : FnOk X.prog X.w X.K X.mg X.base CX n f fd ps sp) (hr : Room (n + 1) X.A) (hb : Binds X.K fd ps []) (hx : Passes CX X E)
    (hs : PySem.W.findIn X.K (.ref C) "__bool__" = some (some (.ref f))) (hf : PySem.W.isFn X.K (.ref f) = true) :
    CallR X (.type "bool") (fun xs H Q => ∃ a dx fs, xs = [.ref a] ∧ H a = some (.ins C dx fs) ∧ sp [.ref a] H (fun v H' => ∃ b, v = .bl b ∧ Q (.bl b) H') E) := by
  intro pins s σ H xs us Q I r h
  obtain ⟨a, dx, fs, rfl, ha, hq⟩ := h
  obtain ⟨u, rfl, rx⟩ := vals1 r
  cases rx
  obtain ⟨mA, J, _⟩ := ins_get I.hok ha
  obtain ⟨od, J, _⟩ := J.look
  obtain ⟨m, hF⟩ := I.fr
  refine bool_call (PySem.W.truthy_K hF I.ok.mod.kin J hs hf ?_)
  refine wpAny_mono (run_fnA (us := [.ref a]) (vs := [.ref a]) F (room2 hr) rfl hb hx I (.cons rfl .nil) hq) (fun v s' hv => ?_) fun _ _ e => e
  obtain ⟨x, H', I', rx, b, rfl, q⟩ := hv
  cases rx
  exact ⟨.bl b, H', I', rfl, q⟩
theorem call_strOwn (F : FnOk X.prog X.w X.K X.mg X.base CX n f fd ps sp) (hr : Room (n + 1) X.A) (hb : Binds X.K fd ps []) (hx : Passes CX X E)
    (hs : PySem.W.findIn X.K (.ref C) "__str__" = some (some (.ref f))) (hf : PySem.W.isFn X.K (.ref f) = true) :
    CallR X (.type "str") (fun xs H Q => ∃ a dx fs, xs = [.ref a] ∧ H a = some (.ins C dx fs) ∧ sp [.ref a] H (fun v H' => ∃ b, v = .str b ∧ Q (.str b) H') E) := by
  intro pins s σ H xs us Q I r h
  obtain ⟨a, dx, fs, rfl, ha, hq⟩ := h
  obtain ⟨u, rfl, rx⟩ := vals1 r
  cases rx
  obtain ⟨mA, J, _⟩ := ins_get I.hok ha
  obtain ⟨od, J, _⟩ := J.look
  refine PySem.W.kso_call (by have := hr.un; show X.A.units + 1 + 1 < cLine; omega) I.kIn J hs hf ?_
  refine wpAny_mono (run_fnA (us := [.ref a]) (vs := [.ref a]) F (room2 hr) rfl hb hx I (.cons rfl .nil) hq) (fun v s' hv => ?_) fun _ _ e => e
  obtain ⟨x, H', I', rx, b, rfl, q⟩ := hv
  obtain ⟨t, rfl⟩ := rx
  exact ⟨.str b, H', I', ⟨t, rfl⟩, q⟩
/-- repr of a bool -/
def boolText (b : Bool) : Str := if b = true then Str.ofString "True" else Str.ofString "False"
theorem call_reprB : CallR X (.builtin "repr") (fun xs H Q => ∃ b, xs = [.bl b] ∧ Q (.str (boolText b)) H) := by
  intro pins s σ H xs us Q I r h
  obtain ⟨b, rfl, q⟩ := h
  obtain ⟨u, rfl, rx⟩ := vals1 r
  cases rx
  exact PySem.P.repr_of_bool ⟨.str (boolText b), H, I.tok _, ⟨_, rfl⟩, q⟩
theorem foldRep (c : Array Nat) : ∀ (n : Nat) (acc : Array Nat), (List.foldl (· ++ ·) acc (List.replicate n c)).toList = acc.toList ++ (List.replicate n c.toList).flatten
  | 0, acc => by simp
  | n + 1, acc => by
    rw [List.replicate_succ, List.foldl_cons, foldRep c n, Array.toList_append, List.replicate_succ, List.flatten_cons, List.append_assoc]
theorem foldRep_len (c : Array Nat) (n : Nat) : (List.foldl (· ++ ·) #[] (List.replicate n c)).size = n * c.size := by
  have e := congrArg List.length (foldRep c n #[])
  simpa using e
/-- a text a few times -/
def timesS (x : Str) (n : Int) : Str := if n < 1 then Str.empty else ⟨(List.replicate n.toNat x.cps).foldl (· ++ ·) #[]⟩
theorem op_mulS : OpR X (binaryOp .Mult) (fun x y H Q => ∃ a k, x = .str a ∧ y = .int k ∧ -(2 ^ 62) < k ∧ (k ≤ 1 ∨ k < 2 ^ 20 ∧ a.length < 16) ∧ Q (.str (timesS a k)) H) := by
  intro pins s σ H x y v u Q I rx ry h
  obtain ⟨a, k, rfl, rfl, h0, h12, q⟩ := h
  obtain ⟨t, rfl⟩ := rx
  obtain ⟨t', rfl⟩ := ry
  have hl : sizeLine = 16777216 := sizeLine_eq
  refine PySem.P.mul_str (by rw [decide_eq_false (by omega), decide_eq_false (by omega)]; rfl) (fun hk hk1 z => ?_) (fun hk hk1 => ?_) ?_
  · have hk1' : k ≠ 1 := fun e => by rw [e] at hk1; simp at hk1
    obtain ⟨h1, h2⟩ := h12.resolve_left (by omega)
    have z1 : (2 ^ 63 - 1 : Int) / k ≥ 16 := by
      rw [ge_iff_le, Int.le_ediv_iff_mul_le (by omega)]
      omega
    omega
  · have hk1' : k ≠ 1 := fun e => by rw [e] at hk1; simp at hk1
    obtain ⟨h1, h2⟩ := h12.resolve_left (by omega)
    unfold Builtin.Str.tooLong
    have : a.length * k.toNat ≤ 16 * 1048576 := Nat.mul_le_mul (by omega) (by omega)
    rw [decide_eq_false]
    rw [hl]
    omega
  · unfold timesS at q
    by_cases hk : k < 1
    · rw [if_pos hk] at q ⊢
      exact ⟨by decide, .str _, H, I.tok _, ⟨_, rfl⟩, q⟩
    · rw [if_neg hk] at q ⊢
      by_cases h3 : (k == 1 || a.length == 0) = true
      · rw [if_pos h3]
        have e : (⟨(List.replicate k.toNat a.cps).foldl (· ++ ·) #[]⟩ : Str) = a := by
          rcases Bool.or_eq_true_iff.mp h3 with e | e
          · have e' : k = 1 := by simpa using e
            subst e'
            simp
          · have e' : a.length = 0 := by simpa using e
            have e2 : a.cps = #[] := by
              have : a.cps.size = 0 := e'
              exact Array.eq_empty_of_size_eq_zero this
            have g : ∀ n : Nat, (List.replicate n a.cps).foldl (· ++ ·) #[] = #[] := by
              intro n
              rw [e2]
              induction n with
              | zero => rfl
              | succ n ih => simpa [List.replicate_succ] using ih
            rw [g]
            cases a
            simp at e2
            rw [e2]
        rw [e] at q
        exact ⟨.str _, H, I, ⟨_, rfl⟩, q⟩
      · rw [if_neg h3]
        refine ⟨?_, .str _, H, I.tok _, ⟨_, rfl⟩, q⟩
        show (List.foldl (· ++ ·) #[] (List.replicate k.toNat a.cps)).size ≤ sizeLine
        rw [foldRep_len, hl]
        have hk1' : k ≠ 1 := fun e => h3 (by rw [e]; rfl)
        obtain ⟨h1, h2⟩ := h12.resolve_left (by omega)
        have h4 : a.cps.size < 16 := h2
        have : k.toNat * a.cps.size ≤ 1048576 * 16 := Nat.mul_le_mul (by omega) (by omega)
        omega
/-- X(), X an own exception class without own __init__ -/
theorem pmk_own0 {bmB : List Value} {B newId initId : String} {x : Str} {p pos : Pos} (F : ExcBaseFacts B newId initId bmB) (q : PySem.W.excIn X.K C bmB newId = true) (gC : X.mg x = some (.ref C))
    (kC : PySem.W.keepIn X.K (.ref C) = true) (r : Raises X (.ref C)) (hg : Gl X x) (hdb : (x == ("__debug__" : Str)) = false := by decide) :
    PMk X (.Call (.Name x p) [] [] pos) (fun _ H Q => Q (.ref C) none H) := by
  intro pins s σ H Q I h
  refine wpAny_Call_Name_kw (ld_glob I hg gC ?_ hdb)
  refine PySem.W.callWith_K0 I.kIn kC ?_
  obtain ⟨bm, N, nm, qn, bs, hdct, sn, sub, ab, col, dd, k0, k1, k2, k3, k5, mN, hC, hN, hni, T⟩ := exc_obj I.kIn q
  exact wpAny_call_exc_subT F T hC hN hni (fun h' e hm => mk_of I hm r h (I.hok.gone hm.new)) (Nat.zero_le _)
/-- C(..) where what __init__ raises is wished for at the caller's slots -/
def tMakeS (C : Addr) (sp : Sp) (dvs : List V) (E : L2.St → XK) (t : TA) : TE := fun σ H Q => t σ H fun vs H1 => ∀ x dx, H1 x = none → H1 dx = none → dx ≠ x →
  sp (.ref x :: (vs ++ dvs)) (upd (upd H1 dx (.own x)) x (.ins C dx [])) (fun v H2 => v = .non ∧ Q (.ref x) H2) (E σ)
theorem pe_makeS {E : L2.St → XK} {dvs : List V} {ds : List Value} {k : Nat} {x : Str} {p pos : Pos} {e : Expr} {es : List Expr} {t : TA} (M : Mk X.K C f) (F : FnOk X.prog X.w X.K X.mg X.base CX k f fd ps sp) (hr : Room (k + 1) X.A) (hg : Gl X x)
    (hm : X.mg x = some (.ref C)) (hb : Binds X.K fd ps ds) (hd : Vals dvs ds) (hx : ∀ σ, PassesAt CX X σ (E σ))
    (ha : PA X (e :: es) t) (hdb : (x == ("__debug__" : Str)) = false := by decide) (he : starEach (e :: es) X.env = (false, eval e X.env) :: starEach es X.env := by rfl) (hpl : (backTo pos (starEach es X.env)).any (·.1) = false := by rfl) :
    PE X (.Call (.Name x p) (e :: es) [] pos) (tMakeS C sp dvs E t) := by
  refine ⟨fun pins s0 σ H0 Q I0 h0 => ?_⟩
  refine wpAny_Call_Name_kw (ld_glob I0 hg hm ?_ hdb)
  refine PySem.W.callWith_K (h₀ := X.base) I0.ok.mod.kin M.kp (thn (ha.run pos pins s0 σ H0 _ I0 h0) fun us s ⟨vs, H, I, r, h⟩ => ⟨I.kIn, ?_⟩) he hpl
  have q0 := h (s.heap.objs.size + 1) s.heap.objs.size (I.hok.fresh (Nat.le_succ _)) (I.hok.fresh (Nat.le_refl _)) (Nat.ne_of_lt (Nat.lt_succ_self _))
  have J := Inv.made (C := C) I
  have rr : Vals (V.ref (s.heap.objs.size + 1) :: (vs ++ dvs)) (Value.ref (s.heap.objs.size + 1) :: (us ++ ds)) := .cons rfl (r.append hd)
  have hl : (Value.ref (s.heap.objs.size + 1) :: us ++ ds).length = ps.length := rr.length.symm.trans (F.len _ _ _ _ q0)
  refine wpAny_call (make_map (f := f) I.kIn M.makes M.init (beq_iff_eq.mp M.fn) (codeAny_mono
    (F.run _ X.stack _ _ ⟨Value.ref (s.heap.objs.size + 1) :: us, []⟩ (Value.ref (s.heap.objs.size + 1) :: (us ++ ds)) _ _ (E σ) (hr.make C us []) (J.env0.make C us []) (hb _ (Value.ref (s.heap.objs.size + 1) :: us) J.kIn hl) rr q0) fun res s' hq => ?_))
  match res, hq with
  | .error e, hq => exact hx σ pins _ _ e s' J hq
  | .ok (.ret u), hq =>
    obtain ⟨v, H', I3, rv, ev, q3⟩ := J.after hq
    subst ev
    exact ⟨rv, ⟨V.ref (s.heap.objs.size + 1), H', I3, rfl, q3⟩⟩
  | .ok .next, hq => exact False.elim hq
  | .ok .brk, hq => exact False.elim hq
  | .ok .cont, hq => exact False.elim hq
end
end L3

/-! defs that ask for the texts of lists and tuples: no such text is under way where they are called -/
namespace L3
open PySem PySem.Spec PyProof.Rows L2

/-- no repr is under way -/
abbrev Calm (A : Around) : Prop := A.guards = some []
structure FnG (P : Program) (w : World) (K : PySem.W.Frag) (mg : Str → Option Value) (base : Heap) (CX : CXT) (k : Nat) (f : Addr) (fd : FuncData) (ps : List Str) (sp : Sp) : Prop where
  len : ∀ vs H Q E, sp vs H Q E → vs.length = ps.length
  run : ∀ (A : Around) (outer : List Env) (s : Shared) (H : Hp) (args : Args) (us : List Value) (vs : List V) (Q : VK) (E : XK), Calm A → Room k A → Env0 P w K mg base A outer s H → BindsTo s fd args (ps.zip us) → Vals vs us → sp vs H Q E →
    codeAny (model P w) A (.call (.ref f) args) (CR CX outer P w H s Q E) s
section
variable {P : Program} {w : World} {K : PySem.W.Frag} {mg : Str → Option Value} {base : Heap} {CX : CXT} {j k : Nat} {f : Addr} {fd : FuncData} {ps : List Str} {sp sp' : Sp}
theorem FnG.of (F : FnOk P w K mg base CX k f fd ps sp) : FnG P w K mg base CX k f fd ps sp :=
  ⟨F.len, fun A outer s H args us vs Q E _ => F.run A outer s H args us vs Q E⟩
theorem FnG.mono (F : FnG P w K mg base CX j f fd ps sp) (h : j ≤ k) : FnG P w K mg base CX k f fd ps sp :=
  ⟨F.len, fun A outer s H args us vs Q E g hr => F.run A outer s H args us vs Q E g (hr.mono h)⟩
/-- a def by its body, where no repr is under way -/
theorem gfn_of {name qual : Str} {params : Arguments} {body : List Stmt} {scope : Scope} {dV kV doc pm cdv ct oc : Value} {an od : Option Addr} {osl : Array (Option Value)} {N : List Str}
    (lk : K.lookup f = some ⟨oc, od, .func (PySem.W.fnOf name qual params body scope dV kV doc pm an cdv ct), osl⟩) (hcd : PySem.W.codeIn K cdv qual = true) (S : FnScope N ps scope)
    (len : ∀ vs H Q E, sp vs H Q E → vs.length = ps.length)
    (hbody : ∀ (A : Around) (outer : List Env) (s : Shared) (H : Hp) (vs : List V) (Q : VK) (E : XK), Calm A → Room k (A.deeper (envOfC qual scope s.heap.objs.size f cdv)) → sp vs H Q E →
      ∃ t, PSs (cxOf CX P w K mg base N qual scope f cdv A outer s H E) body t ∧ t { nx := fun _ H' => Q .non H', rt := Q } (L2.start N vs) H) :
    FnG P w K mg base CX (k + 1) f (PySem.W.fnOf name qual params body scope dV kV doc pm an cdv ct) ps sp := by
  constructor
  · exact len
  intro A outer s H args us vs Q E g hr e0 hb r hsp
  have old : ∀ b o, base.get? b = some o → s.heap.get? b = some o := fun b o e => (e0.bs b o e).1
  have KX : K.In s.heap := e0.mod.kin.keeps old
  have lim : s.heap.NoLimit := e0.mod.nolimit.keeps old
  have kinds : ∀ y ∈ ps.zip us, scope.names.lookup y.1 = some .local ∨ (scope.names.lookup y.1 = some .cell ∧ ((cellsFrom (s.heap.objs.size + 1) scope.names []).lookup y.1).isSome = true) := by
    intro y hy
    rcases S.par y.1 (List.of_mem_zip (a := y.1) (b := y.2) hy).1 with q | q
    · exact .inl q
    · exact .inr ⟨q, PySem.W.cellsFrom_some _ _ _ (.inl q)⟩
  obtain ⟨t, ht, hq⟩ := hbody A outer s H vs Q E g (hr.deeper _) hsp
  refine codeAny_call_function hr.depth (KX _ _ lk) rfl S.co S.gen rfl (PySem.W.codeRec_of KX hcd) (hb _ _ _ _ (wpAny_newFunctionEnv_cells S.kind kinds fun env he s1 x => ?_))
  subst he
  refine ⟨lim.keeps x.toInCall.keep, codeAny_func (wpAny_mono (ht.run [] s1 (L2.start N vs) H _ (inv_start S hr.hd e0 (len _ _ _ _ hsp) r x) hq) (fun fl s' hs => ?_) fun e s' hs => hs)⟩
  match fl, hs with
  | .ret _, ⟨v, σ', H', J, rv, q⟩ => exact ⟨v, H', J.os, J.bare, J.base, J.hok, rv, q⟩
  | .next, ⟨σ', H', J, q⟩ => exact ⟨.non, H', J.os, J.bare, J.base, J.hok, rfl, q⟩
  | .brk, ⟨_, _, _, q⟩ => exact q.elim
  | .cont, ⟨_, _, _, q⟩ => exact q.elim
theorem gok {x qual : Str} {st : Stmt} {N : List Str} (F : Fun K x qual st f fd) (S : FnScope N ps (defScope st)) (len : ∀ vs H Q E, sp vs H Q E → vs.length = ps.length)
    (hbody : ∀ (cdv : Value) (A : Around) (outer : List Env) (s : Shared) (H : Hp) (vs : List V) (Q : VK) (E : XK), Calm A → Room k (A.deeper (envOfC qual (defScope st) s.heap.objs.size f cdv)) → sp vs H Q E →
      ∃ t, PSs (cxOf CX0 P w K mg base N qual (defScope st) f cdv A outer s H E).nox (defBody st) t ∧ t { nx := fun _ H' => Q .non H', rt := Q } (L2.start N vs) H) : FnG P w K mg base CX0 (k + 1) f fd ps sp := by
  obtain ⟨oc, od, kV, doc, pm, an, cdv, ct, osl, rfl, lk, hcd⟩ := F.ex
  exact gfn_of lk hcd S len fun A outer s H vs Q E g hr hsp => let ⟨t, h, q⟩ := hbody cdv A outer s H vs Q E g hr hsp; ⟨t, h.nox, q⟩
theorem gokX {x qual : Str} {st : Stmt} {N : List Str} (F : Fun K x qual st f fd) (S : FnScope N ps (defScope st)) (len : ∀ vs H Q E, sp vs H Q E → vs.length = ps.length)
    (hbody : ∀ (cdv : Value) (A : Around) (outer : List Env) (s : Shared) (H : Hp) (vs : List V) (Q : VK) (E : XK), Calm A → Room k (A.deeper (envOfC qual (defScope st) s.heap.objs.size f cdv)) → sp vs H Q E →
      ∃ t, PSs (cxOf (L2.CX P w) P w K mg base N qual (defScope st) f cdv A outer s H E) (defBody st) t ∧ t { nx := fun _ H' => Q .non H', rt := Q } (L2.start N vs) H) : FnG P w K mg base (L2.CX P w) (k + 1) f fd ps sp := by
  obtain ⟨oc, od, kV, doc, pm, an, cdv, ct, osl, rfl, lk, hcd⟩ := F.ex
  exact gfn_of lk hcd S len fun A outer s H vs Q E g hr hsp => hbody cdv A outer s H vs Q E g hr hsp
end

/-! ### calls of such defs -/
section
variable {X : Cx} {CX : CXT} {k : Nat} {f : Addr} {fd : FuncData} {ps : List Str} {sp : Sp} {dvs : List V} {ds : List Value} {E : XK} {x : Str} {p pos : Pos} {e : Expr} {es : List Expr} {t : TA}
theorem run_fnG {pins : List (Addr × Obj)} {σ : L2.St} {H : Hp} {s : Shared} {Q : VK} {us : List Value} {vs : List V} (F : FnG X.prog X.w X.K X.mg X.base CX k f fd ps sp) (g : Calm X.A) (hr : Room k X.A) (hb : Binds X.K fd ps ds) (hd : Vals dvs ds) (hx : Passes CX X E)
    (I : Inv X pins σ H s) (r : Vals vs us) (h : sp (vs ++ dvs) H Q E) : wpAny (model X.prog X.w) X.A (call (.ref f) us) (EP X pins σ Q) X.xe s := by
  have r2 := r.append hd
  refine wpAny_call (codeAny_mono (F.run X.A X.stack s H ⟨us, []⟩ (us ++ ds) (vs ++ dvs) Q E g hr I.env0 (hb s us I.kIn (r2.length.symm.trans (F.len _ _ _ _ h))) r2 h) fun res s' hq => ?_)
  match res, hq with
  | .error e, hq => exact hx pins σ H s e s' I hq
  | .ok (.ret u), hq => exact I.after hq
  | .ok .next, hq => exact hq.elim
  | .ok .brk, hq => exact hq.elim
  | .ok .cont, hq => exact hq.elim
theorem pe_callG (F : FnG X.prog X.w X.K X.mg X.base CX k f fd ps sp) (g : Calm X.A) (hr : Room k X.A) (hg : Gl X x) (hm : X.mg x = some (.ref f)) (hk : PySem.W.keepIn X.K (.ref f) = true) (hb : Binds X.K fd ps ds) (hd : Vals dvs ds) (hx : Passes CX X E)
    (ha : PA X (e :: es) t) (hdb : (x == ("__debug__" : Str)) = false := by decide) (he : starEach (e :: es) X.env = (false, eval e X.env) :: starEach es X.env := by rfl) (hpl : (backTo pos (starEach es X.env)).any (·.1) = false := by rfl) :
    PE X (.Call (.Name x p) (e :: es) [] pos) (tCall sp dvs E t) :=
  ⟨fun pins s σ H Q I h => wpAny_Call_Name_kw (ld_glob I hg hm (PySem.W.callWith_K (h₀ := X.base) I.ok.mod.kin hk (thn (ha.run pos pins s σ H _ I h) fun us s1 ⟨vs, H1, I1, r, q⟩ => ⟨I1.kIn, run_fnG F g hr hb hd hx I1 r q⟩) he hpl) hdb)⟩
end

/-! ### texts of lists and tuples -/
theorem calm_deeper {A : Around} (env : Env) (h : Calm A) : Calm (A.deeper env) := h
/-- repr(x), x data laid out in the heap -/
def rReprD (K : PySem.W.Frag) : List V → Hp → VK → Prop := fun xs H Q => ∃ (x : V) (d : PyData), xs = [x] ∧ Dp K H x d ∧ (∃ a, x = .ref a) ∧ d.showable = true ∧ d.hasDict = false ∧ d.depth ≤ 60 ∧ d.shown.length ≤ sizeLine ∧ Q (.str d.shown) H
theorem call_reprD {X : Cx} (g : Calm X.A) (hu : X.A.units + 64 < cLine) : CallR X (.builtin "repr") (rReprD X.K) := by
  intro pins s σ H xs us Q I rx h
  obtain ⟨x, d, rfl, hd, ⟨a, rfl⟩, hs, hnd, hdep, hsz, q⟩ := h
  cases rx with
  | @cons _ u _ _ ra rw' =>
    cases rw'
    obtain rfl : u = Value.ref a := ra
    obtain ⟨as, r⟩ := Dp.reads I d _ _ hd rfl
    exact PySem.repr_of_reads' r hs (fun z => by rw [hnd] at z; cases z) g (by omega) (fun _ _ e => e) (fun h' u tk k => ⟨.str d.shown, H, I.kept k, ⟨u, rfl⟩, q⟩) hsz
end L3

namespace L3
open PySem PySem.Spec PyProof.Rows L2

/-- the script's list as it is tracked at the law's entry -/
def hScript (a : Addr) (vs : List Value) (ns : List Int) (own : Bool) : Hp := fun b => if own = false ∧ b = a then some (.frz { cls := .type "list", data := .seq vs.toArray } (.lst (ns.map V.int))) else none
section
variable {P : Program} {w : World} {K : PySem.W.Frag} {mg mb : Str → Option Value} {CX : CXT} {k : Nat} {fa a : Addr} {fd : FuncData} {x : Str} {sp : Sp} {s : Shared} {vs : List Value} {ns : List Int} {own : Bool}
theorem hs_some {b : Addr} {o : HO} (h : hScript a vs ns own b = some o) : own = false ∧ b = a ∧ o = .frz { cls := .type "list", data := .seq vs.toArray } (.lst (ns.map V.int)) := by
  unfold hScript at h
  split at h
  · rename_i c
    exact ⟨c.1, c.2, (Option.some.inj h).symm⟩
  · cases h
theorem hs_none {b : Addr} (h : own = true ∨ b ≠ a) : hScript a vs ns own b = none := by
  cases q : hScript a vs ns own b with
  | none => rfl
  | some o =>
    obtain ⟨h1, h2, _⟩ := hs_some q
    rcases h with h | h
    · rw [h] at h1; cases h1
    · exact absurd h2 h
theorem hs_only : Only (hScript a vs ns own) := fun b => by
  cases q : hScript a vs ns own b with
  | none => exact .inl rfl
  | some o =>
    obtain ⟨_, _, e⟩ := hs_some q
    exact .inr ⟨_, _, by rw [e]⟩
theorem hs_ok (ha : s.heap.get? a = some { cls := .type "list", data := .seq vs.toArray }) (hi : IntsAre vs ns) (hl : ns.length ≤ sizeLine) : HOk P w (hScript a vs ns own) s.heap := fun b o q => by
  obtain ⟨_, rfl, rfl⟩ := hs_some q
  exact ⟨ha, by rw [List.length_map]; exact hl, vs, _, vals_ints hi, ha⟩
theorem hs_seq (ha : s.heap.get? a = some { cls := .type "list", data := .seq vs.toArray }) (hi : IntsAre vs ns) (hl : ns.length ≤ sizeLine) (KX : K.In s.heap) (hk : own = (K.lookup a).isSome) : SqL K (hScript a vs ns own) a (ns.map V.int) := by
  cases q : K.lookup a with
  | some o =>
    have e := KX a o q
    rw [ha] at e
    cases e
    exact .inr ⟨_, vs.toArray, _, q, rfl, rfl, rfl, by rw [List.size_toArray, hi.length]; exact hl, by simpa using vals_ints hi⟩
  | none =>
    refine .inl (.inr ⟨{ cls := .type "list", data := .seq vs.toArray }, ?_⟩)
    unfold hScript
    exact if_pos ⟨by rw [hk, q]; rfl, rfl⟩
/-- the law's def at the entry, its promise by FnG -/
theorem law_callG (KX : K.In s.heap) (hns : s.heap.Ns mainGlobals mg) (hb : s.heap.Ns builtinsNs mb) (hbb : ∀ x : Str, x ≠ "__name__" → mb x = bootBuiltins x) (hlim : s.heap.NoLimit) (hg : s.gens = #[])
    (ha : s.heap.get? a = some { cls := .type "list", data := .seq vs.toArray }) (hi : IntsAre vs ns) (hl : ns.length ≤ sizeLine) (hr : Room k callerA)
    (F : ∀ base : Heap, K.In base → base.Ns mainGlobals mg → FnG P w K mg base CX k fa fd [x] sp) (hbind : ∀ (s : Shared) (u : Value), BindsTo s fd ⟨[u], []⟩ [(x, u)])
    (hsp : ∀ H : Hp, Only H → SqL K H a (ns.map V.int) → sp [.ref a] H (fun v _ => v = .bl true) fun _ _ _ => False) (hCX : ∀ H e s', CX [] H s (fun _ _ _ => False) e s' → False) :
    codeAny (model P w) callerA (.call (.ref fa) ⟨[.ref a], []⟩) (fun r s' => r = .ok (.ret (.bool true)) ∧ OldK s.heap s'.heap ∧ s'.os = s.os ∧ AllBare s'.gens) s := by
  let own := (K.lookup a).isSome
  have hok : HOk P w (hScript a vs ns own) s.heap := hs_ok ha hi hl
  -- an object of the module, or a namespace, is not the tracked script
  have offK : ∀ {b : Addr} {o : Obj}, K.lookup b = some o → hScript a vs ns own b = none := fun {b o} e => by
    by_cases hb : b = a
    · refine hs_none (.inl ?_)
      show (K.lookup a).isSome = true
      rw [← hb, e]
      rfl
    · exact hs_none (.inr hb)
  have offD : ∀ {b : Addr} {o : Obj} {es : Array DictEntry} {ep : Nat}, s.heap.get? b = some o → o.data = .dict es ep → hScript a vs ns own b = none := fun {b o es ep} e d => by
    refine hs_none (.inr fun z => ?_)
    rw [z, ha] at e
    cases e
    cases (show Data.seq vs.toArray _ = Data.dict es ep from d)
  have nsK : ∀ {b : Addr} {m : Str → Option Value}, s.heap.Ns b m → (hidT s.heap (hScript a vs ns own)).Ns b m := fun {b m} ⟨o, es, ep, e, d, r⟩ => ⟨o, es, ep, hidT_get e (offD e d), d, r⟩
  have hKb : K.In (hidT s.heap (hScript a vs ns own)) := fun b o e => hidT_get (KX b o e) (offK e)
  obtain ⟨mc, c1, c2⟩ := hlim
  have hM : Mod K mg (hidT s.heap (hScript a vs ns own)) := ⟨hKb, nsK hns, ⟨mb, nsK hb, hbb⟩, mc, nsK c1, c2⟩
  have e0 : Env0 P w K mg (hidT s.heap (hScript a vs ns own)) callerA [] s (hScript a vs ns own) :=
    ⟨rfl, hM, fun b o e => of_hidT e, Nat.le_of_eq (hidT_size _ _), trivial, fun b hb => absurd (show b ∈ ([] : List Addr) from hb) (by simp), hok, .of_eq hg⟩
  refine codeAny_mono ((F _ hKb (nsK hns)).run callerA [] s (hScript a vs ns own) ⟨[.ref a], []⟩ [.ref a] [.ref a] _ _ rfl hr e0 (hbind s (.ref a)) (.cons rfl .nil) (hsp _ hs_only (hs_seq ha hi hl KX rfl))) fun r s' h => ?_
  match r, h with
  | .error e, h => exact (hCX _ e s' h).elim
  | .ok .next, h => exact h.elim
  | .ok .brk, h => exact h.elim
  | .ok .cont, h => exact h.elim
  | .ok (.ret u), ⟨v, H', os, bare, un, hok', rv, q⟩ =>
    cases (show v = .bl true from q)
    obtain rfl : u = Value.bool true := rv
    refine ⟨rfl, OldK.of_keep fun b o e => ?_, os, bare⟩
    cases z : hScript a vs ns own b with
    | none => exact un.keep b o e z (fun z => absurd (show b ∈ ([] : List Addr) from z) (by simp)) (by simp)
    | some u =>
      obtain ⟨_, _, rfl⟩ := hs_some z
      have y := (hok' b _ (un.frzs b _ _ z)).1
      have y0 := (hok b _ z).1
      rw [e] at y0
      cases y0
      exact y
end
/-- the goal behind the head, from the law's promise by FnG -/
theorem walk_ofG {l : PySem.W.OpenLaw} {n k : Nat} {q : Program} {loose : List Str} {XP : (Str → Option Value) → Heap → Prop} {YP : World → Heap → Prop} {d : DefRec} {K : Params → PySem.W.Frag} {CX : World → CXT} {sp : World → Sp} {x : Str}
    (hn : l.most = some n) (hn2 : n ≤ sizeLine) (hdf : d.params.defaults = []) (hr : Room k callerA) (hY : ∀ (w : World) (h : Heap), YP w h → (K w.params).In h)
    (F : ∀ (w : World) (mg : Str → Option Value) (fa : Addr) (h : Heap), (K w.params).In h → h.Ns mainGlobals mg → mg d.name = some (.ref fa) →
      ∃ fd : FuncData, (∀ (s : Shared) (u : Value), BindsTo s fd ⟨[u], []⟩ [(x, u)]) ∧ ∀ base : Heap, (K w.params).In base → base.Ns mainGlobals mg → FnG l.prog w (K w.params) mg base (CX w) k fa fd [x] (sp w))
    (hsp : ∀ (w : World) (H : Hp) (a : Addr) (ns : List Int), ns.length ≤ n → Only H → SqL (K w.params) H a (ns.map V.int) → sp w [.ref a] H (fun v _ => v = .bl true) fun _ _ _ => False)
    (hCX : ∀ (w : World) (H : Hp) (s : Shared) (e : Value) (s' : Shared), CX w [] H s (fun _ _ _ => False) e s' → False) :
    PySem.W.WalkO q loose XP YP l.row.toRowW d [] (fun f vs => PySem.call f vs) := by
  refine Att.attach_call hn hdf fun w s₀ s₁ mg mb fa o pm cd doc a vs ns G Y ho hd hcd hmg hobj hints hlen hg => ?_
  obtain ⟨fd, hb, hF⟩ := F w mg fa _ (hY w _ Y) G.T.g hmg
  exact law_callG (hY w _ Y) G.T.g G.T.b G.T.builtins G.T.nolimit hg hobj hints (Nat.le_trans hlen hn2) hr hF hb (fun H hO hS => hsp w H a ns hlen hO hS) fun H e s' => hCX w H s₁ e s'
end L3

namespace L3
open PySem PySem.Spec PyProof.Rows L2
abbrev Sm (n : Nat) (x : Int) : Prop := x.natAbs < 2 ^ n
theorem Sm.mono {n m : Nat} {x : Int} (h : Sm n x) (l : n ≤ m) : Sm m x := Nat.lt_of_lt_of_le h (Nat.pow_le_pow_right (by decide) l)
theorem Sm.le {n : Nat} {x y : Int} (h : Sm n y) (l : x.natAbs ≤ y.natAbs) : Sm n x := Nat.lt_of_le_of_lt l h
theorem Sm.mul {n m : Nat} {x y : Int} (h : Sm n x) (k : Sm m y) : Sm (n + m) (x * y) := wide_lt h k
theorem Sm.add {n : Nat} {x y : Int} (h : Sm n x) (k : Sm n y) : Sm (n + 1) (x + y) := by
  have e : (2 : Nat) ^ (n + 1) = 2 ^ n + 2 ^ n := by rw [Nat.pow_succ]; omega
  show (x + y).natAbs < 2 ^ (n + 1)
  rw [e]
  have h1 : x.natAbs < 2 ^ n := h
  have h2 : y.natAbs < 2 ^ n := k
  omega
theorem Sm.neg {n : Nat} {x : Int} (h : Sm n x) : Sm n (-x) := by
  show (-x).natAbs < 2 ^ n
  rw [Int.natAbs_neg]
  exact h
theorem Sm.sub {n : Nat} {x y : Int} (h : Sm n x) (k : Sm n y) : Sm (n + 1) (x - y) := by
  rw [Int.sub_eq_add_neg]
  exact h.add k.neg
theorem Sm.log {n k : Nat} {x : Int} (h : Sm n x) (h0 : 0 < n) (hk : n ≤ k) : x.natAbs.log2 < k := Nat.lt_of_lt_of_le (PySem.Flt.log2_lt_of h0 h) hk
theorem Sm.mulW {n m : Nat} {x y : Int} (h : Sm n x) (k : Sm m y) (h0 : 0 < n) (h1 : 0 < m) (hl : n + m ≤ 1000000) : CMulW x y := wide_mul h k h0 h1 hl
theorem len_app (x y : Str) : (x ++ y).length = x.length + y.length := by
  obtain ⟨a⟩ := x
  obtain ⟨b⟩ := y
  show (a ++ b).size = _
  simp [Str.length]
theorem size_ok {n : Nat} (h : n ≤ 100000) : n ≤ sizeLine := by rw [sizeLine_eq]; omega
def FeedAt (H : Hp) (a : Addr) : Prop := ∃ x y : Int, H a = some (.lst [.int x, .int y]) ∧ 0 ≤ y ∧ y ≤ 2147483648
/-- behind a draw: all but the feed stands -/
structure Dr (a : Addr) (H H' : Hp) : Prop where
  fd : FeedAt H' a
  sm : ∀ b o, b ≠ a → H b = some o → H' b = some o
theorem Dr.trans {a : Addr} {H H1 H2 : Hp} (x : Dr a H H1) (y : Dr a H1 H2) : Dr a H H2 := ⟨y.fd, fun b o n e => y.sm b o n (x.sm b o n e)⟩
def spFeed (K : PySem.W.Frag) : Sp := fun vs H Q _ => ∃ (a : Addr) (ns : List Int) (k : Nat), vs = [.ref a, .int k] ∧ SqL K H a (ns.map V.int) ∧ ns.length ≤ 63 ∧ k < 64 ∧
  ∀ (p : Addr) (H' : Hp), H p = none → Same H H' → FeedAt H' p → Q (.ref p) H'
def spTake : Sp := fun vs H Q _ => ∃ (a : Addr) (m : Int), vs = [.ref a, .int m] ∧ FeedAt H a ∧ 0 < m ∧ Sm 200 m ∧ ∀ (r : Int) (H' : Hp), 0 ≤ r → r < m → Dr a H H' → Q (.int r) H'
theorem same_new {H : Hp} {p : Addr} {o : HO} (h : H p = none) : Same H (upd H p o) := fun b u e => by
  rw [upd_ne (ne_of_none e h)]
  exact e
end L3

/-! repr of data of any kind; data in a heap that has grown -/
namespace L3
open PySem PySem.Spec PyProof.Rows L2
def rtext : PyData → Str
  | .none => "None"
  | .bool b => boolText b
  | .int i => Str.ofString (toString i)
  | .str x => reprText x
  | d => d.shown
structure FineB (d : PyData) : Prop where
  sh : d.showable = true
  nd : d.hasDict = false
  dp : d.depth ≤ 60
  sz : d.shown.length ≤ sizeLine
def Fine : PyData → Prop
  | .none => True
  | .bool _ => True
  | .int i => i.natAbs.log2 < 1920
  | .str x => (reprText x).length ≤ sizeLine
  | d => FineB d
def rRepr (K : PySem.W.Frag) : List V → Hp → VK → Prop := fun xs H Q => ∃ (x : V) (d : PyData), xs = [x] ∧ Dp K H x d ∧ Fine d ∧ Q (.str (rtext d)) H
theorem call_repr {X : Cx} (g : Calm X.A) (hu : X.A.units + 64 < cLine) : CallR X (.builtin "repr") (rRepr X.K) := by
  intro pins s σ H xs us Q I rx h
  obtain ⟨x, d, rfl, hd, hf, q⟩ := h
  cases hd with
  | non =>
    obtain ⟨u, rfl, r⟩ := vals1 rx
    cases r
    exact PySem.P.repr_of_none ⟨.str "None", H, I.tok _, ⟨_, rfl⟩, q⟩
  | bl b =>
    obtain ⟨u, rfl, r⟩ := vals1 rx
    cases r
    exact PySem.P.repr_of_bool ⟨.str (boolText b), H, I.tok _, ⟨_, rfl⟩, q⟩
  | int i =>
    obtain ⟨u, rfl, t, rfl⟩ := vals1 rx
    exact PySem.P.repr_of_int hf ⟨.str _, H, I.tok _, ⟨_, rfl⟩, q⟩
  | str y =>
    obtain ⟨u, rfl, t, rfl⟩ := vals1 rx
    exact PySem.P.repr_of_str ⟨.str _, H, I.tok _, ⟨_, rfl⟩, q⟩ hf
  | @lst a ys ds hs ha =>
    have f : FineB (.list ds) := hf
    exact call_reprD g hu pins s σ H _ us Q I rx ⟨_, _, rfl, .lst hs ha, ⟨a, rfl⟩, f.sh, f.nd, f.dp, f.sz, q⟩
  | @tup a ys ds hs ha =>
    have f : FineB (.tuple ds) := hf
    exact call_reprD g hu pins s σ H _ us Q I rx ⟨_, _, rfl, .tup hs ha, ⟨a, rfl⟩, f.sh, f.nd, f.dp, f.sz, q⟩
theorem Same.seqT {K : PySem.W.Frag} {H H' : Hp} {a : Addr} {xs : List V} (e : Same H H') (h : SqT K H a xs) : SqT K H' a xs := by
  rcases h with (h | ⟨o, h⟩) | h
  · exact .inl (.inl (e _ _ h))
  · exact .inl (.inr ⟨o, e _ _ h⟩)
  · exact .inr h
mutual
theorem dp_keep {K : PySem.W.Frag} {H H' : Hp} (k : ∀ a xs, SqL K H a xs → SqL K H' a xs) (kt : ∀ a xs, SqT K H a xs → SqT K H' a xs) : ∀ (d : PyData) (v : V), Dp K H v d → Dp K H' v d
  | .none, _, .non => .non
  | .bool b, _, .bl _ => .bl b
  | .int i, _, .int _ => .int i
  | .str x, _, .str _ => .str x
  | .list ds, _, .lst hs ha => .lst (k _ _ hs) (dpAll_keep k kt ds _ ha)
  | .tuple ds, _, .tup hs ha => .tup (kt _ _ hs) (dpAll_keep k kt ds _ ha)
theorem dpAll_keep {K : PySem.W.Frag} {H H' : Hp} (k : ∀ a xs, SqL K H a xs → SqL K H' a xs) (kt : ∀ a xs, SqT K H a xs → SqT K H' a xs) : ∀ (ds : List PyData) (vs : List V), DpAll K H vs ds → DpAll K H' vs ds
  | [], _, .nil => .nil
  | d :: ds, _, .cons h hs => .cons (dp_keep k kt d _ h) (dpAll_keep k kt ds _ hs)
end
theorem Dp.same {K : PySem.W.Frag} {H H' : Hp} {v : V} {d : PyData} (e : Same H H') (h : Dp K H v d) : Dp K H' v d := dp_keep (fun _ _ => e.seq) (fun _ _ => Same.seqT e) d v h
/-- a reading may ask for more than the rule does -/
theorem pe_imp {X : Cx} {e : Expr} {t t' : TE} (h : PE X e t) (i : ∀ σ H Q, t' σ H Q → t σ H Q) : PE X e t' := ⟨fun pins s σ H Q I q => h.run pins s σ H Q I (i σ H Q q)⟩
theorem pa_imp {X : Cx} {es : List Expr} {t t' : TA} (h : PA X es t) (i : ∀ σ H Q, t' σ H Q → t σ H Q) : PA X es t' := ⟨fun pos pins s σ H Q I q => h.run pos pins s σ H Q I (i σ H Q q)⟩
/-- _law_same -/
def spSame (K : PySem.W.Frag) : Sp := fun vs H Q _ => ∃ (x y : V) (d e : PyData), vs = [x, y] ∧ Dp K H x d ∧ Dp K H y e ∧ Fine d ∧ Fine e ∧ Q (.bl (decide (V.str (rtext d) = V.str (rtext e)))) H
end L3

/-! dict comprehensions whose keys may be tuples -/
namespace L3
open PySem PySem.Spec PyProof.Rows L2
/-- one more entry of a dict that is being made -/
theorem put_run {X : Cx} {pins : List (Addr × Obj)} {σ : L2.St} {H H' : Hp} {s : Shared} {E : Value → Shared → Prop} {D : Addr} {y z : V} {u r : Value} {Q : Unit → Shared → Prop} (hu : X.A.units < cLine) (I : Inv X pins σ H s) (g : DPut H D y z H') (ry : RelV y u) (rz : RelV z r)
    (h : ∀ s', Inv X pins σ H' s' → Q () s') : wpAny (model X.prog X.w) X.A (dictSet D u r) Q E s := by
  rcases g with ⟨kvs, k, e, rfl, l, rfl⟩ | ⟨kvs, k, b, e, rfl, eb, l, rfl⟩
  · exact d_dictSet I e l ry rz h
  · cases (show u = Value.ref b from ry)
    obtain ⟨le, ns, xs, rel, dd⟩ := dt_of I.hok e
    have le2 : xs.length ≤ sizeLine := (Paired.length rel) ▸ le
    have le3 : (putK kvs k z).length ≤ sizeLine := Nat.le_trans (length_putK kvs k z) (by omega)
    refine wpAny_dictSet_heap (hsz := le2) hu (key_of I.hok eb) dd fun h' dd' sb => h _ ?_
    obtain ⟨o, es, ep, g1, g2, g3, g4, _, g5⟩ := dd'
    refine d_write I (by rw [e]; exact True.intro) sb ⟨o, g1⟩ ⟨le3, ns, _, KT.keeps (rel.put k eb rz) fun c ys ec => ?_, o, es, ep, g1, g2, g3, g4, g5⟩
    exact (upd_ne (ne_of ec e (fun q => nomatch q))).trans ec
section
variable {X : Cx}
/-- {key: value for target in iter if ..}; o0 is the new dict as it begins -/
def tDd (o0 : HO) (wi : TI) (g : TG) (tt : TT) (tk tv : TE) (vs : List Nat) : TE := fun σ H Q => wi σ H fun J H1 => ∀ D, H1 D = none → ∃ W : Nat → Nat → Hp → Prop, (∃ m, W 0 m (upd H1 D o0)) ∧ ∀ i m H, W i m H →
  (J.stop i H ∧ Q (.ref D) H) ∨ (J.go i H ∧ ∃ N : Hp → Prop, (∀ H', N H' → ∃ m', m' < m ∧ W (i + 1) m' H') ∧ ∀ x H', J.yld i H x H' → g x (wipe σ vs) H' fun σ2 H2 => wipe σ2 vs = wipe σ vs ∧ tt σ2 H2 fun b H3 =>
    if b = true then tk σ2 H3 fun y H4 => tv σ2 H4 fun z H5 => ∃ H6, DPut H5 D y z H6 ∧ N H6 else N H3)
/-- what holds of the iterator's own objects within the block -/
theorem own_static {Y : Cx} {fp : List Addr} {σ : L2.St} {H : Hp} {s : Shared} (I : Inv Y [] σ H s) (ex : Y.ex = fp) (pn : Y.pn = []) (n : ∀ b ∈ fp, H b = none) : ∀ b ∈ fp, FpOk Y [] H b := fun b m => by
  have m' : b ∈ Y.ex := by rw [ex]; exact m
  refine ⟨n b m, (I.ok.exf b m').1, I.ok.exfs b m', .inl m', (I.ok.exf b m').2, fun p hp => ?_⟩
  rw [pn] at hp
  cases hp
/-- the end of a turn: the iterator's objects as the turn found them -/
theorem turn_end {Y : Cx} {P : Program} {w : World} {K : PySem.W.Frag} {tg : Expr} {J : It} {fp vs} {it : Addr} {tn : Nat → Heap → Prop} {σ τ : L2.St} {H : Hp} {s t : Shared} {i : Nat} (T : Turn P w K tg J fp it tn) (st : tn i s.heap) (I : Inv Y ([] ++ pinsAt fp s.heap) τ H t) (hw : wipe τ vs = wipe σ vs) :
    Inv Y [] (wipe σ vs) H t ∧ tn i t.heap ∧ ∀ b ∈ fp, H b = none := by
  have same : ∀ b ∈ fp, ∀ o, s.heap.get? b = some o → t.heap.get? b = some o ∧ H b = none := fun b m o e => by
    have q := I.pin (b, o) (List.mem_append_right _ (List.mem_append_right _ (mem_pinsAt m e)))
    exact ⟨q.1, q.2.1⟩
  refine ⟨(Inv.unpinned (pins := []) I).weak (by rw [← hw]; exact wipe_length _ _) (fun j v e => ?_), T.keep _ _ _ st fun b m o e => (same b m o e).1, fun b m => ?_⟩
  · rw [← hw] at e
    exact (wipe_some e).1
  · obtain ⟨o, e, _⟩ := T.obj _ _ st b m
    exact (same b m o e).2
/-- one turn of the block -/
theorem dd_turn {Y : Cx} {kx vx tg : Expr} {ifs : List Expr} {J : It} {fp : List Addr} {it D : Addr} {tn : Nat → Heap → Prop} {g : TG} {tt : TT} {tk tv : TE} {σ : L2.St} {vs : List Nat} {Z : Nat → Shared → Prop} {R : Shared → Prop} {n : Nat} {W : Nat → Nat → Hp → Prop} {Qd : Hp → Prop}
    (hu : Y.A.units < cLine) (hc : Y.calm = true) (hex : Y.ex = fp) (hpn : Y.pn = []) (hxe : Y.xe = fun _ _ => False) (pg : PG Y tg g) (pt : PTs Y ifs tt) (pk : PE Y kx tk) (pv : PE Y vx tv) (T : Turn Y.prog Y.w Y.K tg J fp it tn)
    (W' : ∀ i m H, W i m H → (J.stop i H ∧ Qd H) ∨ (J.go i H ∧ ∃ N : Hp → Prop, (∀ H', N H' → ∃ m', m' < m ∧ W (i + 1) m' H') ∧ ∀ x H', J.yld i H x H' → g x (wipe σ vs) H' fun σ2 H2 => wipe σ2 vs = wipe σ vs ∧ tt σ2 H2 fun b H3 =>
      if b = true then tk σ2 H3 fun y H4 => tv σ2 H4 fun z H5 => ∃ H6, DPut H5 D y z H6 ∧ N H6 else N H3))
    (hR : ∀ s H, Inv Y [] (wipe σ vs) H s → Qd H → R s) (hZ : ∀ m, m < n → ∀ s i H, Inv Y [] (wipe σ vs) H s → tn i s.heap → (∀ b ∈ fp, H b = none) → W i m H → Z n s)
    (s : Shared) (i : Nat) (H : Hp) (I : Inv Y [] (wipe σ vs) H s) (st : tn i s.heap) (nn : ∀ b ∈ fp, H b = none) (wn : W i n H) {E : Value → Shared → Prop} :
    wpAny (model Y.prog Y.w) Y.A (pyNext (.ref it)) (fun r s₁ => match r with
      | none => R s₁
      | some v => wpAny (model Y.prog Y.w) Y.A (letOwnedTupleGo tg (.ref it) v) (fun _ s₁' => wpAny (model Y.prog Y.w) Y.A (assign tg Y.env v) (fun _ s₂ =>
          wpAny (model Y.prog Y.w) Y.A (forIn ifs true fun c r => if r = true then do let ok ← isTrue c Y.env (eval c Y.env); pure (ForInStep.yield ok) else pure (ForInStep.yield r)) (fun ok s₃ =>
            if ok = true then wpAny (model Y.prog Y.w) Y.A (eval kx Y.env) (fun kv s₄ => wpAny (model Y.prog Y.w) Y.A (eval vx Y.env) (fun vv s₅ =>
              wpAny (model Y.prog Y.w) Y.A (dictSet D kv vv) (fun _ s₆ => Z n s₆) E s₅) E s₄) E s₃
            else Z n s₃) E s₂) E s₁') E s₁) E s := by
  have sta := own_static I hex hpn nn
  rcases W' i n H wn with ⟨stop, q⟩ | ⟨go, N, hN, step⟩
  · exact thnF (T.done Y rfl rfl rfl hc i [] s _ H (fun _ _ => False) I sta st stop) fun r t ⟨hr, I2⟩ => by
      subst hr
      exact hR t H I2 q
  · refine thnF (T.item Y rfl rfl rfl hc i [] s _ H (fun _ _ => False) I sta st go) fun r t ⟨v, hr, h2⟩ => ?_
    subst hr
    refine thnF h2 fun _ t2 ⟨x, H2, I2, rx, yl, st2, n2⟩ => ?_
    have I3 := I2.pinned (own_static I2 hex hpn n2) (T.obj _ _ st2)
    have fin : ∀ {τ : L2.St} {H' : Hp} {t' : Shared}, wipe τ vs = wipe σ vs → Inv Y ([] ++ pinsAt fp t2.heap) τ H' t' → N H' → Z n t' := fun hw I' nx => by
      obtain ⟨m, hm, wm⟩ := hN _ nx
      obtain ⟨a1, a2, a3⟩ := turn_end (σ := σ) T st2 I' hw
      exact hZ m hm _ _ _ a1 a2 a3 wm
    have low : ∀ {α : Type} {p : Sem α} {q : α → Shared → Prop} {u : Shared}, wpAny (model Y.prog Y.w) Y.A p q Y.xe u → wpAny (model Y.prog Y.w) Y.A p q (fun _ _ => False) u := fun hh => by rw [hxe] at hh; exact hh
    refine thnF (low (pg.run _ t2 _ H2 x v _ I3 rx (step x H2 yl))) fun _ t3 ⟨τ, H3, I4, hw, q3⟩ => ?_
    refine thnF (low (pt.run _ t3 τ H3 _ I4 q3)) fun b t4 ⟨H4, I5, q4⟩ => ?_
    cases b with
    | false => exact fin hw I5 q4
    | true =>
      refine thnF (low (pk.run _ t4 τ H4 _ I5 q4)) fun ku t5 ⟨y, H5, I6, ry, q5⟩ => ?_
      refine thnF (low (pv.run _ t5 τ H5 _ I6 q5)) fun vu t6 ⟨z, H6, I7, rz, H7, gp, q6⟩ => ?_
      exact put_run (X := Y) hu I7 gp ry rz fun t7 I8 => fin hw I8 q6
/-- such a dict over a walk: Pv by the turn and the heap -/
theorem dd_it {o0 : HO} {J : It} {n : Nat} {G : Hp → Prop} {Y : Nat → Hp → V → Hp → Prop} (w : Walk J n G Y) {g : TG} {tt : TT} {tk tv : TE} {vs : List Nat} {σ : L2.St} {H1 : Hp} {D : Addr} {Qd : Hp → Prop} (Pv : Nat → Hp → Prop) (h0 : Pv 0 (upd H1 D o0)) (hG : ∀ i H, i ≤ n → Pv i H → G H)
    (hs : ∀ i x H H', i < n → Pv i H → Y i H x H' → g x (wipe σ vs) H' fun σ2 H2 => wipe σ2 vs = wipe σ vs ∧ tt σ2 H2 fun b H3 => if b = true then tk σ2 H3 fun y H4 => tv σ2 H4 fun z H5 => ∃ H6, DPut H5 D y z H6 ∧ Pv (i + 1) H6 else Pv (i + 1) H3) (hd : ∀ H, Pv n H → Qd H) :
    ∃ W : Nat → Nat → Hp → Prop, (∃ m, W 0 m (upd H1 D o0)) ∧ ∀ i m H, W i m H → (J.stop i H ∧ Qd H) ∨ (J.go i H ∧ ∃ N : Hp → Prop, (∀ H', N H' → ∃ m', m' < m ∧ W (i + 1) m' H') ∧ ∀ x H', J.yld i H x H' → g x (wipe σ vs) H' fun σ2 H2 => wipe σ2 vs = wipe σ vs ∧ tt σ2 H2 fun b H3 =>
      if b = true then tk σ2 H3 fun y H4 => tv σ2 H4 fun z H5 => ∃ H6, DPut H5 D y z H6 ∧ N H6 else N H3) := by
  refine ⟨fun i m H => i ≤ n ∧ m = n - i ∧ Pv i H, ⟨n, Nat.zero_le n, rfl, h0⟩, fun i m H ⟨hi, hm, p⟩ => ?_⟩
  rcases Nat.lt_or_ge i n with lt | ge
  · refine .inr ⟨w.goes i H lt (hG i H hi p), Pv (i + 1), fun H' p' => ⟨n - (i + 1), by omega, by omega, rfl, p'⟩, fun x H' y => hs i x H H' lt p (w.yields i H x H' lt (hG i H hi p) y)⟩
  · obtain rfl : i = n := by omega
    exact .inl ⟨w.stops H (hG _ H hi p), hd H p⟩
section
variable {kx vx tg iter : Expr} {ifs : List Expr} {scope : Scope} {own : List (Str × Nat)} {pos : Pos} {wi : TI} {g : TG} {tt : TT} {tk tv : TE} {o0 : HO}
theorem dd_new (h0 : o0 = .dK [] ∨ o0 = .dT []) {pins : List (Addr × Obj)} {σ : L2.St} {H : Hp} {s : Shared} (I : Inv X pins σ H s) : Inv X pins σ (upd H s.heap.objs.size o0) { s with heap := s.heap.push { cls := .type "dict", data := .dict #[] } } := by
  refine I.laid (t' := s.toks) (fun _ _ e => Heap.get?_push_of_some _ e) (Nat.le_refl _) ?_
  rcases h0 with rfl | rfl
  · exact dk_empty s.heap I.big
  · exact dt_empty s.heap I.big
theorem pe_dd (h0 : o0 = .dK [] ∨ o0 = .dT []) (hu : X.A.units < cLine) (hc : X.calm = true) (hN : X.N.Nodup) (hi : PI X tg iter wi) (ok : BlkOk X.N X.env.scope scope own)
    (hg : ∀ (s : Shared) (H : Hp) (C : Addr) (cl : List (Str × Addr)) (fp : List Addr), PG (X.blk s H scope (compEnvC scope cl C X.env) fp) tg g) (ht : ∀ (s : Shared) (H : Hp) (C : Addr) (cl : List (Str × Addr)) (fp : List Addr), PTs (X.blk s H scope (compEnvC scope cl C X.env) fp) ifs tt)
    (hk : ∀ (s : Shared) (H : Hp) (C : Addr) (cl : List (Str × Addr)) (fp : List Addr), PE (X.blk s H scope (compEnvC scope cl C X.env) fp) kx tk)
    (he : ∀ (s : Shared) (H : Hp) (C : Addr) (cl : List (Str × Addr)) (fp : List Addr), PE (X.blk s H scope (compEnvC scope cl C X.env) fp) vx tv) (hs : ∀ x, foldedSetIterable iter X.env x = pure x := by intro _; rfl) :
    PE X (.DictComp kx vx [⟨tg, iter, ifs, 0⟩] scope pos) (tDd o0 wi g tt tk tv (own.map (·.2))) := by
  refine ⟨fun pins s σ H Q I h => ?_⟩
  rw [arm_eval_DictComp]
  have outer : ∀ y ∈ scope.names, y.2 = .free → ∃ c, X.env.cells.lookup y.1 = some c := fun y m z => (ok.free y m z).elim (fun k => I.ok.has _ (.inl k)) fun k => I.ok.has _ (.inr k)
  refine wpAny_comprehension_free (use := none) rfl hs (closure_ok outer) ok.kind (fun y m z => (ok.uniq y m).trans (congrArg some z)) (thn (hi.run pins s σ H _ I h) fun _ sA hA => thn hA fun itu t hB => ?_)
  obtain ⟨it, fp, tn, J, HB, rfl, IB, T, stB, fB, go⟩ := hB
  refine wpAny_newObj_type (newEnv_comp ?_)
  have free0 : HB t.heap.objs.size = none := IB.hok.fresh (Nat.le_refl _)
  obtain ⟨W, ⟨m0, w0⟩, W'⟩ := go _ free0
  have I1 := dd_new h0 IB
  have young : ∀ b ∈ fp, b < t.heap.objs.size := fun b m => by
    obtain ⟨o, e, _⟩ := T.obj _ _ stB b m
    exact Heap.lt_size e
  have f1 : ∀ b ∈ fp, FpOk X pins (upd HB t.heap.objs.size o0) b := fun b m => ⟨(upd_ne (Nat.ne_of_lt (young b m))).trans (fB b m).1, (fB b m).2⟩
  have push1 : ∀ b o, t.heap.get? b = some o → (t.heap.push { cls := .type "dict", data := .dict #[] }).get? b = some o := fun b o e => Heap.get?_push_of_some _ e
  generalize HB' : upd HB t.heap.objs.size o0 = HC at I1 f1 w0
  generalize hD : t.heap.objs.size = D at free0 W' ⊢
  generalize ht1 : ({ t with heap := t.heap.push { cls := .type "dict", data := .dict #[] } } : Shared) = t1 at I1 ⊢
  have st1 : tn 0 t1.heap := T.keep _ _ _ stB fun b _ o e => by rw [← ht1]; exact push1 b o e
  have f2 : ∀ b ∈ fp, FpOk X pins HC b ∧ b < t1.heap.objs.size := fun b m => ⟨f1 b m, by rw [← ht1]; exact Nat.lt_of_lt_of_le (young b m) (by rw [Heap.size_push]; exact Nat.le_succ _)⟩
  have IC := block_start I1 ok hN f2
  have gs := hg t1 HC t1.heap.objs.size (cellsFrom (t1.heap.objs.size + 1) scope.names (cloFrom X.env.cells scope.names [])) fp
  have ts := ht t1 HC t1.heap.objs.size (cellsFrom (t1.heap.objs.size + 1) scope.names (cloFrom X.env.cells scope.names [])) fp
  have ks := hk t1 HC t1.heap.objs.size (cellsFrom (t1.heap.objs.size + 1) scope.names (cloFrom X.env.cells scope.names [])) fp
  have vs := he t1 HC t1.heap.objs.size (cellsFrom (t1.heap.objs.size + 1) scope.names (cloFrom X.env.cells scope.names [])) fp
  show codeAny _ _ (.compStart (.DictComp kx vx [⟨tg, iter, ifs, 0⟩] scope pos) 0 (.ref it) (.ref D) (compEnvC scope (cellsFrom (t1.heap.objs.size + 1) scope.names (cloFrom X.env.cells scope.names [])) t1.heap.objs.size X.env))
    (compPost (model X.prog X.w) X.A X.xe none _ (.ref D) t1.heap.objs.size) { t1 with heap := pushCells (t1.heap.push { cls := .type "dict", data := .dict #[] }) scope.names }
  generalize hce : compEnvC scope (cellsFrom (t1.heap.objs.size + 1) scope.names (cloFrom X.env.cells scope.names [])) t1.heap.objs.size X.env = ce at IC gs ts ks vs ⊢
  have at1 : ce.locals = t1.heap.objs.size := by rw [← hce]; rfl
  generalize ht2 : ({ t1 with heap := pushCells (t1.heap.push { cls := .type "dict", data := .dict #[] }) scope.names } : Shared) = t2 at IC ⊢
  have st2 : tn 0 t2.heap := T.keep _ _ _ st1 fun b _ o e => by rw [← ht2]; exact pushCells_keeps _ _ _ _ (Heap.get?_push_of_some _ e)
  -- behind the last turn
  have done : ∀ u H', Inv (X.blk t1 HC scope ce fp) [] (wipe σ (own.map (·.2))) H' u → Q (.ref D) H' → compPost (model X.prog X.w) X.A X.xe none (fun v s' => ∃ x H1, Inv X pins σ H1 s' ∧ RelV x v ∧ Q x H1) (.ref D) t1.heap.objs.size (.ok .next) u := fun u H' IU q => by
    have IX : Inv X pins σ H' u := I1.call' (ch := fp) IU.os IU.base IU.hok IU.bare fun b m => ⟨(f2 b m).1.2.2.2.1, (f2 b m).1.2.1, (f2 b m).1.2.2.2.2.1, (f2 b m).1.2.2.2.2.2⟩
    have nL : H' t1.heap.objs.size = none := by rw [← at1]; exact IU.free
    obtain ⟨mL, nsL, _⟩ := IU.loc
    obtain ⟨y0, y1, y2, y3, y4, y5⟩ := I1.fpOk (H' := H') (Nat.le_refl _) nL
    refine ⟨mL, by rw [← at1]; exact nsL, fun h2 sb => ⟨.ref D, H', ?_, rfl, q⟩⟩
    exact IX.turned (t' := u.toks) (fun b o ne e => (sb.2 b ne).trans e) y0 y1 y3 y4 y5
  have loop : codeAny (model X.prog X.w) X.A (.compLoop (.DictComp kx vx [⟨tg, iter, ifs, 0⟩] scope pos) 0 (.ref it) (.ref D) ce) (compPost (model X.prog X.w) X.A X.xe none (fun v s' => ∃ x H1, Inv X pins σ H1 s' ∧ RelV x v ∧ Q x H1) (.ref D) t1.heap.objs.size) t2 := by
    refine compLoop_anyD (fun n u => ∃ i H', Inv (X.blk t1 HC scope ce fp) [] (wipe σ (own.map (·.2))) H' u ∧ tn i u.heap ∧ (∀ b ∈ fp, H' b = none) ∧ W i n H') ?_ m0 ⟨0, HC, IC, st2, fun b m => (f2 b m).1.1, w0⟩
    rintro n u ⟨i, H', IU, su, nu, wu⟩
    exact dd_turn (Y := X.blk t1 HC scope ce fp) (Z := fun n s => ∃ m, m < n ∧ ∃ i H', Inv (X.blk t1 HC scope ce fp) [] (wipe σ (own.map (·.2))) H' s ∧ tn i s.heap ∧ (∀ b ∈ fp, H' b = none) ∧ W i m H') hu hc rfl rfl rfl gs ts ks vs T W' done
      (fun m hm s i H I st nn wn => ⟨m, hm, i, H, I, st, nn, wn⟩) u i H' IU su nu wu
  exact codeAny_compStart_dict loop (T.self X.A 0 _ _ _ st2 loop)
end
end
end L3

/-! sorted of pairs whose second item is a number in some and a text in others -/
namespace L3
open PySem PySem.Spec PyProof.Rows L2
/-! ### the order -/
def ltN : List Nat → List Nat → Bool := fun a b => decide (a < b)
theorem nat_tri : ∀ a b : List Nat, a < b ∨ a = b ∨ b < a
  | [], [] => .inr (.inl rfl)
  | [], _ :: _ => .inl (List.nil_lt_cons _ _)
  | _ :: _, [] => .inr (.inr (List.nil_lt_cons _ _))
  | x :: xs, y :: ys => by
    rcases Nat.lt_trichotomy x y with h | rfl | h
    · exact .inl (List.cons_lt_cons_iff.mpr (.inl h))
    · rcases nat_tri xs ys with q | rfl | q
      · exact .inl (List.cons_lt_cons_iff.mpr (.inr ⟨rfl, q⟩))
      · exact .inr (.inl rfl)
      · exact .inr (.inr (List.cons_lt_cons_iff.mpr (.inr ⟨rfl, q⟩)))
    · exact .inr (.inr (List.cons_lt_cons_iff.mpr (.inl h)))
/-- numbers ahead of texts -/
def ltKey : Key → Key → Bool
  | .inl a, .inl b => decide (a < b)
  | .inl _, .inr _ => true
  | .inr _, .inl _ => false
  | .inr a, .inr b => ltN a.cps.toList b.cps.toList
theorem cps_eq {x y : Str} (h : x.cps.toList = y.cps.toList) : x = y := by
  obtain ⟨a⟩ := x
  obtain ⟨b⟩ := y
  exact congrArg Str.mk (Array.toList_inj.mp h)
theorem ltKey_irr (a : Key) : ltKey a a = false := by
  rcases a with a | a
  · exact decide_eq_false (Int.lt_irrefl a)
  · exact decide_eq_false (List.lt_irrefl _)
theorem ltKey_tr {a b c : Key} (h : ltKey a b = true) (k : ltKey b c = true) : ltKey a c = true := by
  match a, b, c, h, k with
  | .inl a, .inl b, .inl c, h, k => exact decide_eq_true (Int.lt_trans (of_decide_eq_true h) (of_decide_eq_true k))
  | .inl a, .inl b, .inr c, h, k => rfl
  | .inl a, .inr b, .inr c, h, k => rfl
  | .inr a, .inr b, .inr c, h, k => exact decide_eq_true (List.lt_trans (of_decide_eq_true h) (of_decide_eq_true k))
theorem ltKey_tri (a b : Key) : ltKey a b = true ∨ a = b ∨ ltKey b a = true := by
  rcases a with a | a <;> rcases b with b | b
  · rcases Int.lt_trichotomy a b with h | rfl | h
    · exact .inl (decide_eq_true h)
    · exact .inr (.inl rfl)
    · exact .inr (.inr (decide_eq_true h))
  · exact .inl rfl
  · exact .inr (.inr rfl)
  · rcases nat_tri a.cps.toList b.cps.toList with h | h | h
    · exact .inl (decide_eq_true h)
    · exact .inr (.inl (congrArg _ (cps_eq h)))
    · exact .inr (.inr (decide_eq_true h))
/-- by the number ahead, then by the second item -/
def ltRk (p q : Int × Key) : Bool := if p.1 = q.1 then ltKey p.2 q.2 else decide (p.1 < q.1)
theorem ltRk_iff {p q : Int × Key} : ltRk p q = true ↔ p.1 < q.1 ∨ (p.1 = q.1 ∧ ltKey p.2 q.2 = true) := by
  unfold ltRk
  by_cases e : p.1 = q.1
  · rw [if_pos e]
    exact ⟨fun h => .inr ⟨e, h⟩, fun h => h.elim (fun z => by omega) fun z => z.2⟩
  · rw [if_neg e, decide_eq_true_eq]
    exact ⟨.inl, fun h => h.elim id fun z => absurd z.1 e⟩
theorem ltRk_irr (p : Int × Key) : ltRk p p = false := by
  unfold ltRk
  rw [if_pos rfl]
  exact ltKey_irr _
theorem ltRk_tr {p q r : Int × Key} (h : ltRk p q = true) (k : ltRk q r = true) : ltRk p r = true := by
  rw [ltRk_iff] at h k ⊢
  rcases h with h | ⟨e, h⟩ <;> rcases k with k | ⟨e2, k⟩
  · exact .inl (by omega)
  · exact .inl (by omega)
  · exact .inl (by omega)
  · exact .inr ⟨e.trans e2, ltKey_tr h k⟩
theorem ltRk_tri (p q : Int × Key) : ltRk p q = true ∨ p = q ∨ ltRk q p = true := by
  rcases Int.lt_trichotomy p.1 q.1 with h | h | h
  · exact .inl (ltRk_iff.mpr (.inl h))
  · rcases ltKey_tri p.2 q.2 with k | k | k
    · exact .inl (ltRk_iff.mpr (.inr ⟨h, k⟩))
    · exact .inr (.inl (Prod.ext h k))
    · exact .inr (.inr (ltRk_iff.mpr (.inr ⟨h.symm, k⟩)))
  · exact .inr (.inr (ltRk_iff.mpr (.inl h)))
/-- a total order carried over a function -/
theorem swo_of {α β : Type} {lt : β → β → Bool} (irr : ∀ a, lt a a = false) (tr : ∀ a b c, lt a b = true → lt b c = true → lt a c = true) (tri : ∀ a b, lt a b = true ∨ a = b ∨ lt b a = true) (k : α → β) : SrtO.Swo fun v u => lt (k v) (k u) := by
  refine ⟨fun x y h => ?_, fun x y z h1 h2 => ?_⟩
  · cases q : lt (k y) (k x) with
    | false => rfl
    | true => exact (Bool.false_ne_true ((irr _).symm.trans (tr _ _ _ h q))).elim
  · cases q : lt (k z) (k x) with
    | false => rfl
    | true =>
      exfalso
      rcases tri (k y) (k z) with h | h | h
      · exact Bool.false_ne_true (h1.symm.trans (tr _ _ _ h q))
      · rw [h] at h1
        exact Bool.false_ne_true (h1.symm.trans q)
      · exact Bool.false_ne_true (h2.symm.trans h)
theorem swo_rk {α : Type} (k : α → Int × Key) : SrtO.Swo fun v u => ltRk (k v) (k u) := swo_of ltRk_irr (fun _ _ _ => ltRk_tr) ltRk_tri k
/-! ### the model's comparison of two such pairs -/
def RkAt (h : Heap) (v : Value) (p : Int × Key) : Prop := ∃ (a : Addr) (o : Obj) (t : Tok) (u : Value) (n : Nat), v = .ref a ∧ h.get? a = some o ∧ o.cls = .type "tuple" ∧ o.data = .seq #[.int p.1 t, u] n ∧ RelV (kV p.2) u
def OneKind (p q : Int × Key) : Prop := p.1 = q.1 → p.2.isLeft = q.2.isLeft
section
variable {P : Program} {w : World} {A : Around} {s : Shared}
theorem rk_cmp {vs : List Value} {k : Value → Int × Key} (hp : ∀ v ∈ vs, RkAt s.heap v (k v)) (hk : ∀ v ∈ vs, ∀ u ∈ vs, OneKind (k v) (k u)) : SrtO.Cmp P w A s (tuples' true) (fun p => p.1 ∈ vs) (SrtO.lt2 fun v u => ltRk (k v) (k u)) := by
  intro p q hm hm'
  have one := hk _ hm _ hm'
  obtain ⟨a, o, t, u, n, e, g1, _, g2, ru⟩ := hp _ hm
  obtain ⟨b, o', t', u', n', e', g1', _, g2', ru'⟩ := hp _ hm'
  show wpAny (model P w) A (keyLt' (tuples' true) p.1 q.1) (fun r s' => s' = s ∧ r = ltRk (k p.1) (k q.1)) (fun _ _ => False) s
  generalize k p.1 = x at one g2 ru ⊢
  generalize k q.1 = y at one g2' ru' ⊢
  rw [e, e']
  obtain ⟨x1, x2⟩ := x
  obtain ⟨y1, y2⟩ := y
  refine PySem.W.kat_lt g1 g2 g1' g2' ?_
  show PySem.W.KatLex P w A true (decide (2 < 2)) _ [(.int x1 t, .int y1 t'), (u, u')] 0 s
  refine PySem.W.kat_cons (wpAny_eqBool_int (PySem.W.kat_go (fun z => ?_) fun z => ?_))
  · obtain rfl : x1 = y1 := by simpa using z
    have pick : ltRk (x1, x2) (x1, y2) = ltKey x2 y2 := if_pos rfl
    rw [pick]
    have one := one rfl
    match x2, y2, one, ru, ru' with
    | .inl i, .inl j, _, ru, ru' =>
      obtain ⟨t1, rfl⟩ := ru
      obtain ⟨t2, rfl⟩ := ru'
      refine PySem.W.kat_yes (PySem.W.kat_cons (wpAny_eqBool_int (PySem.W.kat_go (fun z => ?_) fun z => PySem.W.kat_no (oneLt_any_int ⟨rfl, rfl⟩))))
      obtain rfl : i = j := by simpa using z
      exact PySem.W.kat_yes (PySem.W.kat_nil ⟨rfl, (ltKey_irr (.inl i)).symm⟩)
    | .inr i, .inr j, _, ru, ru' =>
      obtain ⟨t1, rfl⟩ := ru
      obtain ⟨t2, rfl⟩ := ru'
      refine PySem.W.kat_yes (PySem.W.kat_cons (wpAny_eqBool_str (PySem.W.kat_go (fun z => ?_) fun z => PySem.W.kat_no (oneLt_any_str ⟨rfl, rfl⟩))))
      obtain rfl : i = j := of_decide_eq_true z
      exact PySem.W.kat_yes (PySem.W.kat_nil ⟨rfl, (ltKey_irr (.inr i)).symm⟩)
  · have ne : ¬ x1 = y1 := by simpa using z
    have pick : ltRk (x1, x2) (y1, y2) = decide (x1 < y1) := if_neg ne
    rw [pick]
    exact PySem.W.kat_no (oneLt_any_int ⟨rfl, rfl⟩)
theorem rk_firsts {h : Heap} {k : Value → Int × Key} : ∀ {vs : List Value}, (∀ v ∈ vs, RkAt h v (k v)) → ∃ fs, PySem.W.KatTups h vs fs ∧ fs.length = vs.length ∧ ∀ f ∈ fs, ∃ i t, f = Value.int i t
  | [], _ => ⟨[], trivial, rfl, fun f m => nomatch m⟩
  | v :: vs, hp => by
    obtain ⟨fs, h1, h2, h3⟩ := rk_firsts fun v m => hp v (List.mem_cons_of_mem _ m)
    obtain ⟨a, o, t, u, n, e, g1, g2, g3, _⟩ := hp v List.mem_cons_self
    refine ⟨.int (k v).1 t :: fs, ?_, congrArg (· + 1) h2, fun f m => ?_⟩
    · refine ⟨⟨a, o, _, n, e, g1, g2, g3, ?_⟩, h1⟩
      rw [e]
      rfl
    · rcases List.mem_cons.mp m with rfl | m
      · exact ⟨_, _, rfl⟩
      · exact h3 f m
theorem RkAt.keep {h h' : Heap} {v : Value} {p : Int × Key} (r : RkAt h v p) (k : ∀ b o, h.get? b = some o → o.cls = .type "tuple" → h'.get? b = some o) : RkAt h' v p := by
  obtain ⟨a, o, t, u, n, e, g1, g2, r⟩ := r
  exact ⟨a, o, t, u, n, e, k a o g1 g2, g2, r⟩
end
/-- sorted(xs) of such pairs (k says which): a new list, sorted, what is alike in its order -/
def rSortedRk (K : PySem.W.Frag) : List V → Hp → VK → Prop := fun vs H Q => ∃ (a : Addr) (xs : List V) (k : V → Int × Key), vs = [.ref a] ∧ SqL K H a xs ∧ (∀ x ∈ xs, ∃ t, x = .ref t ∧ H t = some (.tup [.int (k x).1, kV (k x).2])) ∧ (∀ x ∈ xs, ∀ y ∈ xs, OneKind (k x) (k y)) ∧
  ∀ ys p, SrtO.Srtd (fun x y => ltRk (k x) (k y)) ys → SrtO.Stb (fun x y => ltRk (k x) (k y)) ys xs → H p = none → Q (.ref p) (upd H p (.lst ys))
theorem cr_sortedRk {X : Cx} : CallR X (.builtin "sorted") (rSortedRk X.K) := by
  intro pins s σ H vs us Q I r h
  obtain ⟨a, xs, k, rfl, hs, hx, one, q⟩ := h
  obtain ⟨its, rv, hl, hz⟩ := I.list hs
  obtain ⟨u, rfl, ru⟩ := vals1 r
  obtain rfl : u = Value.ref a := ru
  obtain ⟨e1, e2⟩ := refs_back rv fun x m => let ⟨t, e, _⟩ := hx x m; ⟨t, e⟩
  have back : ∀ v ∈ its, backV v ∈ xs := fun v m => by rw [e1]; exact List.mem_map.mpr ⟨v, m, rfl⟩
  have at1 : ∀ v ∈ its, RkAt s.heap v (k (backV v)) := fun v m => by
    obtain ⟨t, rfl⟩ := e2 v m
    obtain ⟨t', e, ht⟩ := hx _ (back _ m)
    cases e
    obtain ⟨_, ws, rw', o, g1, g2, n, g3⟩ := I.hok _ _ ht
    obtain ⟨u1, u2, rfl, ⟨t1, rfl⟩, rj⟩ := vals2 rw'
    exact ⟨t, o, t1, u2, n, rfl, g1, g2, g3, rj⟩
  have one' : ∀ v ∈ its, ∀ u ∈ its, OneKind (k (backV v)) (k (backV u)) := fun v m u m' => one _ (back v m) _ (back u m')
  refine SrtO.sorted_ord (swo_rk fun v => k (backV v)) hl.isList (by rw [← rv.length]; exact hz) (fun h2 hA b hb keep h' kk => ?_) fun out srt stb => ?_
  · have at2 : ∀ v ∈ its, RkAt h' v (k (backV v)) := fun v m => (at1 v m).keep fun c o e1 e2 => kk c o (keep c o e1).1 (keep c o e1).2
    obtain ⟨fs, f1, f2, f3⟩ := rk_firsts at2
    refine ⟨tuples' true, fun Q' E' hq => PySem.W.kat_kind (T := .type "int") f1 (by omega) (fun f m => ?_) (by rfl) ?_, rk_cmp at2 one'⟩
    · obtain ⟨i, t, rfl⟩ := f3 f m
      exact PySem.W.Looks.now
    · have e : (Value.type "int" != Value.type "tuple") = true := by decide +kernel
      rw [e]
      exact hq
  · have refs : ∀ u ∈ out, ∃ a, u = Value.ref a := fun u m => e2 u (stb.perm.mem_iff.mp m)
    have sb : SrtO.Stb (fun x y => ltRk (k x) (k y)) (out.map backV) xs := by
      rw [e1]
      exact SrtO.Stb.map (swo_rk k) backV stb
    refine ⟨.ref _, upd H (s.heap.objs.size + 1) (.lst (out.map backV)), I.laid (t' := s.toks) (fun b o e => PyProof.Rows.sortedAll_old e) (Nat.le_succ _) ?_, rfl, q _ _ (SrtO.srtd_map srt) sb (I.hok.fresh (Nat.le_succ _))⟩
    obtain ⟨n, hn⟩ := PyProof.Rows.sortedAll_at s.heap its out.toArray
    exact ⟨by rw [sb.len]; exact hz, out, n, vals_back refs, hn⟩
end L3

/-! sorted of nested data that are alike -/
namespace L3
open PySem PySem.Spec PyProof.Rows L2
/-- sorted(xs), xs the things val b for b in bs, which read as enc b: a new list -/
def rSortedD (K : PySem.W.Frag) : List V → Hp → VK → Prop := fun vs H Q => ∃ (a : Addr) (β : Type) (bs : List β) (val : β → V) (enc : β → PyData), vs = [.ref a] ∧ SqL K H a (bs.map val) ∧ (∀ b ∈ bs, Dp K H (val b) (enc b)) ∧ PySem.W.AllAlike (bs.map enc) ∧ PySem.W.Sortable (bs.map enc) ∧ (∀ b ∈ bs, (enc b).depth ≤ 50) ∧
  ∀ p, H p = none → Q (.ref p) (upd H p (.lst ((bs.mergeSort (PySem.W.dataLe false enc)).map val)))
theorem each_vals {β : Type} {val : β → V} : ∀ {us : List Value} {bs : List β}, Vals (bs.map val) us → PySem.W.EachIs (fun v b => RelV (val b) v) us bs
  | [], [], _ => .nil
  | _ :: _, _ :: _, .cons r t => .cons r (each_vals t)
theorem vals_each {β : Type} {val : β → V} : ∀ {us : List Value} {bs : List β}, PySem.W.EachIs (fun v b => RelV (val b) v) us bs → Vals (bs.map val) us
  | _, _, .nil => .nil
  | _, _, .cons r t => .cons r (vals_each t)
theorem each_mem {α β : Type} {R R' : α → β → Prop} : ∀ {as : List α} {bs : List β}, PySem.W.EachIs R as bs → (∀ a, ∀ b ∈ bs, R a b → R' a b) → PySem.W.EachIs R' as bs
  | _, _, .nil, _ => .nil
  | _, _, .cons r t, h => .cons (h _ _ List.mem_cons_self r) (each_mem t fun a b m => h a b (List.mem_cons_of_mem _ m))
theorem cr_sortedD {X : Cx} (hu : X.A.units + 64 < cLine) : CallR X (.builtin "sorted") (rSortedD X.K) := by
  intro pins s σ H vs us Q I r h
  obtain ⟨a, β, bs, val, enc, rfl, hs, hd, al, so, dep, q⟩ := h
  obtain ⟨its, rv, hl, hz⟩ := I.list hs
  obtain ⟨u, rfl, ru⟩ := vals1 r
  obtain rfl : u = Value.ref a := ru
  have e := each_vals rv
  refine PySem.W.sorted_data (R := fun v b => RelV (val b) v) hl.isList e (each_mem e fun v b m rr => Dp.reads I _ _ _ (hd b m) rr) al so (by rw [List.length_map] at hz; exact hz) (fun b m => ?_) fun out ol eo => ?_
  · have := dep b m
    omega
  · refine ⟨.ref _, upd H (s.heap.objs.size + 1) (.lst ((bs.mergeSort (PySem.W.dataLe false enc)).map val)), I.laid (t' := s.toks) (fun b o z => PyProof.Rows.sortedAll_old z) (Nat.le_succ _) ?_, rfl, q _ (I.hok.fresh (Nat.le_succ _))⟩
    obtain ⟨n, hn⟩ := PyProof.Rows.sortedAll_at s.heap its (List.toArray out)
    refine ⟨?_, out, n, vals_each eo, hn⟩
    rw [List.length_map, (List.mergeSort_perm _ _).length_eq]
    rw [List.length_map] at hz
    exact hz
end L3

namespace R2
open PySem L2 L3
open C8 (pss_cut tCut)
def top (i : Nat) : Stmt := PySem.Challenge.pw_hadnot_k02_names_and_values.main.body.getD i (.Pass ⟨0, 0, 0, 0⟩)
abbrev sFeed : Stmt := top 12
abbrev sTake : Stmt := top 13
section
variable {P : Program} {w : World} {K : PySem.W.Frag} {mg : Str → Option Value} {base : Heap}
theorem scF : FnScope ["_law_script", "_law_k", "_law_cell", "_law_own"] ["_law_script", "_law_k"] (defScope sFeed) := ⟨rfl, rfl, rfl, by decide +kernel, rfl, by decide +kernel, by decide +kernel⟩
theorem ok_feed {f : Addr} {fd : FuncData} (F : Fun K "_law_feed" "_law_feed" sFeed f fd) (zLen : mg "len" = none) (zAbs : mg "abs" = none) : FnOk P w K mg base CX0 1 f fd ["_law_script", "_law_k"] (spFeed K) := by
  refine F.ok scF (fun vs H Q E h => ?_) (fun cdv A outer s H vs Q E hr h => ?_)
  · obtain ⟨a, ns, k, rfl, _⟩ := h
    rfl
  · obtain ⟨a, ns, k, rfl, hS, hn, hk, kk⟩ := h
    have sk : Sm 7 (k : Int) := by show (k : Int).natAbs < 128; omega
    have hl : (ns.map V.int).length = ns.length := List.length_map ..
    refine ⟨_, pss_cons (ps_set (i := 2) scF.nd rfl (Or.inl rfl) (pe_op op_add (pe_op op_mulW pe_int (pv 1)) pe_int))
      (pss_cut (ps_if (pt_cmpR op_lt (pv 1) (pe_callB call_len_seq (by rfl) zLen PySem.boot_len (pa_cons (pv 0) pa_nil)) (nomark _))
        (pss_one (ps_set (i := 2) scF.nd rfl (Or.inl rfl) (pe_callB call_abs (by rfl) zAbs PyProof.Rows.boot_abs (pa_cons (pe_ix ix_list (pv 0) (pv 1) (fun _ _ => rfl)) pa_nil))))
        (pss_one (ps_if (pt_cmpR op_gt (pe_callB call_len_seq (by rfl) zLen PySem.boot_len (pa_cons (pv 0) pa_nil)) pe_int (nomark _))
          (pss_one (ps_set (i := 2) scF.nd rfl (Or.inl rfl) (pe_op op_add (pe_op op_mulW (pe_op op_mod (pe_callB call_abs (by rfl) zAbs PyProof.Rows.boot_abs (pa_cons (pe_ix ix_list (pv 0) (pe_op op_mod (pv 1) (pe_callB call_len_seq (by rfl) zLen PySem.boot_len (pa_cons (pv 0) pa_nil))) (fun _ _ => rfl)) pa_nil)) pe_int) pe_int) (pe_op op_mulW pe_int (pv 1))))) pss_nil)))
      (pss_cons (ps_set (i := 3) scF.nd rfl (Or.inl rfl) pe_int)
      (pss_cut (ps_if (pt_cmpR op_ge (pv 2) (pe_op op_pow pe_int pe_int) (nomark _)) (pss_one (ps_set (i := 3) scF.nd rfl (Or.inl rfl) (pv 2))) pss_nil)
      (pss_one (ps_ret (pe_lst (pa_cons (pv 3) (pa_cons (pe_op op_add (pe_op op_mod (pe_op op_add (pe_op op_mulW (pe_op op_mod (pv 2) pe_int) pe_int) (pe_op op_mulW pe_int (pv 1))) pe_int) pe_int) pa_nil)))))))), ?_⟩
    refine ⟨_, rfl, _, _, rfl, rfl, (show Sm 13 7621 by decide).mulW sk (by decide) (by decide) (by decide), _, _, rfl, rfl, ?_⟩
    refine ⟨fun σ H' => ∃ c : Int, σ = [some (.ref a), some (.int k), some (.int c), none] ∧ H' = H, ?_, ?_⟩
    · refine ⟨_, rfl, _, rfl, a, _, rfl, .inl hS, _, _, rfl, rfl, _, rfl, ?_⟩
      rw [hl]
      refine iteD (fun h1 => ?_) (fun h1 => ?_)
      · have hk' : k < ns.length := by omega
        refine ⟨_, rfl, _, rfl, a, _, _, .int ns[k], rfl, rfl, hS, atI_nat (by rw [List.getElem?_map, List.getElem?_eq_getElem hk']; rfl), _, rfl, ?_⟩
        exact ⟨_, rfl, rfl⟩
      · refine ⟨_, rfl, a, _, rfl, .inl hS, _, _, rfl, rfl, _, rfl, ?_⟩
        rw [hl]
        refine iteD (fun h2 => ?_) (fun h2 => ?_)
        · have hlen : 0 < ns.length := by omega
          have hj : k % ns.length < ns.length := Nat.mod_lt _ hlen
          refine ⟨_, rfl, _, rfl, _, rfl, a, _, rfl, .inl hS, _, _, rfl, rfl, ?_, ?_⟩
          · show (0 : Int) < ((ns.map V.int).length : Int)
            rw [hl]
            omega
          · have e : (k : Int) % ((ns.map V.int).length : Int) = ((k % ns.length : Nat) : Int) := by rw [hl]; rfl
            refine ⟨a, _, _, .int ns[k % ns.length], rfl, rfl, hS, at_of e (by rw [List.getElem?_map, List.getElem?_eq_getElem hj]; rfl), _, rfl, _, _, rfl, rfl, (by show (0 : Int) < 2147483629; decide), ?_⟩
            refine ⟨_, _, rfl, rfl, Sm.mulW (n := 31) (m := 6) ?_ (by decide) (by decide) (by decide) (by decide), _, rfl, _, _, rfl, rfl, (show Sm 14 8513 by decide).mulW sk (by decide) (by decide) (by decide), _, _, rfl, rfl, ?_⟩
            · show (_ % (2147483629 : Int)).natAbs < 2147483648
              omega
            · exact ⟨_, rfl, rfl⟩
        · exact ⟨_, rfl, rfl⟩
    · rintro σ' H' ⟨c, rfl, rfl⟩
      refine ⟨fun σ H1 => ∃ o : Int, σ = [some (.ref a), some (.int k), some (.int c), some (.int o)] ∧ H1 = H', ?_, ?_⟩
      · refine ⟨_, rfl, _, _, rfl, rfl, ⟨by decide, by decide, by decide⟩, _, _, rfl, rfl, _, rfl, ?_⟩
        refine iteD (fun h1 => ?_) (fun h1 => ?_)
        · exact ⟨_, rfl, _, rfl, rfl⟩
        · exact ⟨_, rfl, rfl⟩
      · rintro σ' H1 ⟨o, rfl, rfl⟩
        refine ⟨_, rfl, _, rfl, _, _, rfl, rfl, (by show (0 : Int) < 2147483629; decide), _, _, rfl, rfl, Sm.mulW (n := 31) (m := 16) ?_ (by decide) (by decide) (by decide) (by decide), ?_⟩
        · show (_ % (2147483629 : Int)).natAbs < 2147483648
          omega
        · refine ⟨_, rfl, _, _, rfl, rfl, (show Sm 16 50021 by decide).mulW sk (by decide) (by decide) (by decide), _, _, rfl, rfl, _, _, rfl, rfl, (by show (0 : Int) < 2147483629; decide), _, _, rfl, rfl, (by show 2 ≤ sizeLine; decide), fun p hp => ?_⟩
          refine kk p _ hp (same_new hp) ⟨_, _, upd_same, ?_, ?_⟩ <;> omega
theorem scT : FnScope ["_law_feed_here", "_law_many", "_law_digit", "_law_one"] ["_law_feed_here", "_law_many"] (defScope sTake) := ⟨rfl, rfl, rfl, by decide +kernel, rfl, by decide +kernel, by decide +kernel⟩
theorem ok_take {f : Addr} {fd : FuncData} (F : Fun K "_law_take" "_law_take" sTake f fd) : FnOk P w K mg base CX0 1 f fd ["_law_feed_here", "_law_many"] spTake := by
  refine F.ok scT (fun vs H Q E h => ?_) (fun cdv A outer s H vs Q E hr h => ?_)
  · obtain ⟨a, m, rfl, _⟩ := h
    rfl
  · obtain ⟨a, m, rfl, ⟨x, y, hH, y0, y1⟩, m0, sm, k⟩ := h
    refine ⟨_, pss_cons (ps_if (pt_cmpR op_gt (pe_ix ix_list (pv 0) pe_int (fun _ _ => rfl)) pe_int (nomark _))
        (pss_cons (ps_set (i := 2) scT.nd rfl (Or.inl rfl) (pe_op op_mod (pe_ix ix_list (pv 0) pe_int (fun _ _ => rfl)) (pv 1)))
        (pss_cons (ps_asg (pe_op op_fdivW (pe_ix ix_list (pv 0) pe_int (fun _ _ => rfl)) (pv 1)) (pg_sub (pv 0) pe_int set_list))
        (pss_one (ps_ret (pv 2))))) pss_nil)
      (pss_cons (ps_set (i := 3) scT.nd rfl (Or.inl rfl) (pe_op op_mod (pe_op op_mulW (pe_ix ix_list (pv 0) pe_int (fun _ _ => rfl)) pe_int) pe_int))
      (pss_cons (ps_asg (pe_op op_add (pe_op op_mod (pe_op op_add (pe_op op_mulW (pv 3) pe_int) pe_int) pe_int) pe_int) (pg_sub (pv 0) pe_int set_list))
      (pss_one (ps_ret (pe_op op_mod (pe_op op_fdivW (pe_op op_add (pe_op op_mulW (pv 3) pe_int) (pe_ix ix_list (pv 0) pe_int (fun _ _ => rfl))) pe_int) (pv 1)))))), ?_⟩
    have q0 : ∀ {u v : V} {H' : Hp}, H' a = some (.lst [u, v]) → SqL K H' a [u, v] := fun h => SqL.of h
    have keep : ∀ o, ∀ b u, b ≠ a → H b = some u → upd H a o b = some u := fun o b u n e => by rw [upd_ne n]; exact e
    refine ⟨_, rfl, a, _, 0, .int x, rfl, rfl, SqL.of hH, rfl, _, _, rfl, rfl, _, rfl, ?_⟩
    refine iteD (fun hx => ?_) (fun hx => ?_)
    · refine ⟨_, rfl, a, _, 0, .int x, rfl, rfl, SqL.of hH, rfl, _, rfl, _, _, rfl, rfl, m0, ?_⟩
      refine ⟨_, rfl, a, _, 0, .int x, rfl, rfl, SqL.of hH, rfl, _, rfl, _, _, rfl, rfl, ⟨m0, Sm.log sm (by decide) (by decide)⟩, _, rfl, a, _, _, 0, rfl, rfl, hH, rfl, _, rfl, ?_⟩
      exact k _ _ (Int.emod_nonneg _ (by omega)) (Int.emod_lt_of_pos _ m0) ⟨⟨_, _, upd_same, y0, y1⟩, keep _⟩
    · refine ⟨_, rfl, a, _, 1, .int y, rfl, rfl, SqL.of hH, rfl, _, _, rfl, rfl, Sm.mulW (n := 32) (m := 16) (by show y.natAbs < 4294967296; omega) (by decide) (by decide) (by decide) (by decide), _, _, rfl, rfl, (by show (0 : Int) < 2147483647; decide), ?_⟩
      have s31 : ∀ z : Int, Sm 31 (z % 2147483647) := fun z => by show (z % 2147483647).natAbs < 2147483648; omega
      refine ⟨_, rfl, _, _, rfl, rfl, (s31 _).mulW (m := 16) (by decide) (by decide) (by decide) (by decide), _, _, rfl, rfl, _, _, rfl, rfl, (by show (0 : Int) < 2147483399; decide), _, _, rfl, rfl, _, rfl, a, _, _, 1, rfl, rfl, hH, rfl, ?_⟩
      refine ⟨_, rfl, _, _, rfl, rfl, (s31 _).mulW (m := 31) (by decide) (by decide) (by decide) (by decide), _, rfl, a, _, 1, _, rfl, rfl, SqL.of upd_same, rfl, _, _, rfl, rfl, _, _, rfl, rfl, ⟨by decide, by decide⟩, _, rfl, _, _, rfl, rfl, m0, ?_⟩
      refine k _ _ (Int.emod_nonneg _ (by omega)) (Int.emod_lt_of_pos _ m0) ⟨⟨_, _, upd_same, ?_, ?_⟩, keep _⟩ <;> omega
end
end R2

namespace R2
open PySem L2 L3
open C8 (pss_cut tCut)
abbrev sMixed : Stmt := top 14
abbrev sTitles : Stmt := top 15
def spMixed (K : PySem.W.Frag) : Sp := fun vs H Q _ => ∃ (a l : Addr) (xs : List V), vs = [.ref a, .ref l] ∧ FeedAt H a ∧ (SqL K H l xs ∨ SqT K H l xs) ∧ xs.length ≤ 1000 ∧
  ∀ (p : Addr) (ys : List V) (H' : Hp), H p = none → Dr a H H' → H' p = some (.lst ys) → ys.Perm xs → Q (.ref p) H'
theorem erase_perm {α : Type} : ∀ (l : List α) (i : Nat) (h : i < l.length), (l[i] :: l.eraseIdx i).Perm l
  | _ :: _, 0, _ => .refl _
  | x :: l, i + 1, h => (List.Perm.swap _ _ _).trans (.cons x (erase_perm l i (Nat.lt_of_succ_lt_succ h)))
section
variable {P : Program} {w : World} {K : PySem.W.Frag} {mg : Str → Option Value} {base : Heap}
theorem scMi : FnScope ["_law_feed_here", "_law_some", "_law_left", "_law_found", "_law_k"] ["_law_feed_here", "_law_some"] (defScope sMixed) := ⟨rfl, rfl, rfl, by decide +kernel, rfl, by decide +kernel, by decide +kernel⟩
theorem ok_mixed {f fT : Addr} {fd fdT : FuncData} (F : Fun K "_law_mixed" "_law_mixed" sMixed f fd) (FT : Fun K "_law_take" "_law_take" sTake fT fdT) (bT : Binds K fdT ["_law_feed_here", "_law_many"] []) (gT : mg "_law_take" = some (.ref fT)) (zList : mg "list" = none) (zRng : mg "range" = none) (zLen : mg "len" = none) :
    FnOk P w K mg base CX0 2 f fd ["_law_feed_here", "_law_some"] (spMixed K) := by
  have GT : FnOk P w K mg base CX0 1 fT fdT ["_law_feed_here", "_law_many"] spTake := ok_take FT
  refine F.ok scMi (fun vs H Q E h => ?_) (fun cdv A outer s H vs Q E hr h => ?_)
  · obtain ⟨a, l, xs, rfl, _⟩ := h
    rfl
  · obtain ⟨a, l, xs, rfl, hf, hx, hn, k⟩ := h
    have nd := scMi.nd
    refine ⟨_, pss_cons (ps_par (i := 2) (j := 3) (by rfl) nd rfl rfl (by decide) rfl rfl (pa_cons (pe_callTy call_list_of (by rfl) zList PyProof.Rows.boot_list (pa_cons (pv 1) pa_nil)) (pa_cons (pe_lst pa_nil) pa_nil)) (by rfl))
      (pss_cons (ps_for PassesOwn.never rfl (pi_range1 (by rfl) zRng (pa_cons (pe_callB call_len_seq (by rfl) zLen PySem.boot_len (pa_cons (pv 2) pa_nil)) pa_nil)) (pg_name (i := 4) nd rfl (.inl rfl))
        (pss_one (ps_expr (pe_bm PySem.F.plainAttrs_list PySem.F.slot_list_append PySem.F.type_list_append mt_append (pv 3) (pa_cons (pe_bm (r := rPopAt) PySem.F.plainAttrs_list PySem.F.slot_list_pop PySem.F.type_list_pop (by exact mt_popAt) (pv 2)
          (pa_cons (pe_call GT hr (by rfl) gT FT.kp bT .nil pass0 (pa_cons (pv 0) (pa_cons (pe_callB call_len_seq (by rfl) zLen PySem.boot_len (pa_cons (pv 2) pa_nil)) pa_nil))) pa_nil)) pa_nil)))))
      (pss_one (ps_ret (pv 3)))), ?_⟩
    obtain ⟨fx, fy, ha, hfy⟩ := id hf
    refine ⟨_, rfl, l, xs, rfl, hx, fun q hq => ⟨(show 0 ≤ sizeLine by decide), fun p hp => ⟨_, _, rfl, ?_⟩⟩⟩
    have s1 := same_new (o := .lst xs) hq
    have s2 := same_new (o := .lst []) hp
    have nqa : q ≠ a := (ne_of_none ha hq).symm
    have npa : p ≠ a := (ne_of_none (s1 _ _ ha) hp).symm
    have npq : p ≠ q := (ne_of_none (show upd H q (.lst xs) q = _ from upd_same) hp).symm
    have hpH : H p = none := s1.free hp
    refine ⟨_, rfl, q, xs, rfl, .inl (SqL.of (s2 _ _ upd_same)), _, rfl, ?_, ?_, for_range (fun j σ H' => ∃ (v : Option V) (rest ys : List V), σ = [some (.ref a), some (.ref l), some (.ref q), some (.ref p), v] ∧ rest.length + j = xs.length ∧ (ys ++ rest).Perm xs ∧ H' q = some (.lst rest) ∧ H' p = some (.lst ys) ∧ ys.length ≤ 1000 ∧ Dr a H H')
      ⟨none, xs, [], rfl, rfl, .refl _, s2 _ _ upd_same, upd_same, by decide, ⟨⟨fx, fy, (s1.trans s2) _ _ ha, hfy⟩, fun b o _ e => (s1.trans s2) _ _ e⟩⟩ ?_ ?_⟩
    · omega
    · omega
    · rintro j σ H2 hj ⟨v, rest, ys, rfl, hlr, hperm, eq, ep, hy, dr⟩
      have hj' : j < xs.length := by omega
      have hrl : 0 < rest.length := by omega
      refine ⟨_, rfl, .inl ⟨rfl, _, SqL.of ep⟩, _, rfl, .inl ⟨rfl, _, SqL.of eq⟩, _, rfl, _, rfl, q, rest, rfl, .inl (SqL.of eq), a, (rest.length : Int), rfl, dr.fd, by omega, (by show (rest.length : Int).natAbs < 2 ^ 200; exact Nat.lt_of_le_of_lt (by omega : (rest.length : Int).natAbs ≤ 1000) (by decide)), fun r H3 r0 r1 d3 => ?_⟩
      have eq3 := d3.sm _ _ nqa eq
      have ep3 := d3.sm _ _ npa ep
      have hk : r.toNat < rest.length := by omega
      have hsi : seqIndex? r rest.length = some r.toNat := by
        unfold seqIndex?
        have e1 : ¬ r < 0 := by omega
        have e2 : (decide (0 ≤ r) && decide (r < (rest.length : Int))) = true := by rw [Bool.and_eq_true]; exact ⟨decide_eq_true r0, decide_eq_true r1⟩
        rw [if_neg e1]
        exact if_pos e2
      refine ⟨q, rest, r, r.toNat, rest[r.toNat], rfl, rfl, eq3, by omega, by omega, hsi, List.getElem?_eq_getElem hk, p, ys, _, rfl, rfl, by rw [upd_ne npq]; exact ep3, by have := sizeLine_eq; omega, ?_⟩
      obtain ⟨gx, gy, ga, gb⟩ := d3.fd
      have npq' : q ≠ p := Ne.symm npq
      refine ⟨_, rest.eraseIdx r.toNat, ys ++ [rest[r.toNat]], rfl, ?_, ?_, ?_, upd_same, ?_, ⟨gx, gy, ?_, gb⟩, fun b o nb e => ?_⟩
      · rw [List.length_eraseIdx_of_lt hk]
        omega
      · refine List.Perm.trans ?_ hperm
        rw [List.append_assoc]
        exact List.Perm.append_left _ (erase_perm _ _ hk)
      · rw [upd_ne npq']
        exact upd_same
      · rw [List.length_append]
        have := hperm.length_eq
        rw [List.length_append] at this
        simp only [List.length_cons, List.length_nil]
        omega
      · rw [upd_ne (Ne.symm npa), upd_ne (Ne.symm nqa)]
        exact ga
      · have n1 : b ≠ p := fun z => by rw [z, hpH] at e; cases e
        have n2 : b ≠ q := fun z => by rw [z, hq] at e; cases e
        rw [upd_ne n1, upd_ne n2]
        exact d3.sm _ _ nb (dr.sm _ _ nb e)
    · rintro σ H2 ⟨v, rest, ys, rfl, hlr, hperm, eq, ep, hy, dr⟩
      have hr0 : rest = [] := List.length_eq_zero_iff.mp (by omega)
      subst hr0
      rw [List.append_nil] at hperm
      exact ⟨_, rfl, k p ys _ hpH dr ep hperm⟩
end
end R2

namespace R2
open PySem L2 L3
open C8 (pss_cut tCut)
section
variable {P : Program} {w : World} {K : PySem.W.Frag} {mg : Str → Option Value} {base : Heap}
abbrev NT : List Str := ["_law_feed_here", "_law_many", "_law_signs", "_law_start", "_law_form", "_law_k"]
theorem scTi : FnScope NT ["_law_feed_here", "_law_many"] (defScope sTitles) := ⟨rfl, rfl, rfl, by decide +kernel, rfl, by decide +kernel, by decide +kernel⟩
def signs : Str := "abcdefghijklmnopqrstuvwxyz0123456789"
def sg (i : Nat) : Str := ⟨#[signs.cps.toList.getD i 0]⟩
theorem signs_len : signs.cps.toList.length = 36 := by decide +kernel
theorem sg_get {i : Nat} (h : i < 36) : signs.cps.toList[i]? = some (signs.cps.toList.getD i 0) := by
  have h2 : i < signs.cps.toList.length := by rw [signs_len]; exact h
  rw [List.getElem?_eq_getElem h2, List.getD_eq_getElem?_getD, List.getElem?_eq_getElem h2]
  rfl
theorem atN {α : Type} {xs : List α} {z : Int} {j : Nat} {v : α} (e : z = (j : Int)) (h : xs[j]? = some v) : atI xs z = some v := by
  rw [e]
  exact atI_nat h
theorem signs_size : signs.length ≤ sizeLine := by decide +kernel
def unstr : V → Str
  | .str t => t
  | _ => Str.empty
theorem perm_strs {ys : List V} {ts : List Str} (h : ys.Perm (ts.map V.str)) : ∃ zs : List Str, zs.Perm ts ∧ ys = zs.map V.str := by
  refine ⟨ys.map unstr, ?_, ?_⟩
  · have e : (ts.map V.str).map unstr = ts := by
      rw [List.map_map]
      exact List.map_id ts
    have q := h.map unstr
    rw [e] at q
    exact q
  · have p : ∀ y ∈ ys, V.str (unstr y) = y := fun y hy => by
      obtain ⟨t, _, rfl⟩ := List.mem_map.mp (h.mem_iff.mp hy)
      rfl
    clear h
    induction ys with
    | nil => rfl
    | cons y r ih =>
      rw [List.map_cons, List.map_cons, p y List.mem_cons_self, ← ih fun z hz => p z (List.mem_cons_of_mem _ hz)]
theorem dr_same {a : Addr} {H H1 H2 : Hp} (d : Dr a H H1) (s : Same H1 H2) : Dr a H H2 := by
  obtain ⟨⟨u, v, hu, hv⟩, sm⟩ := d
  exact ⟨⟨u, v, s _ _ hu, hv⟩, fun b o n e => s _ _ (sm b o n e)⟩
theorem dr_free {a p : Addr} {H H1 : Hp} (d : Dr a H H1) (h : H1 p = none) : H p = none := by
  cases q : H p with
  | none => rfl
  | some o =>
    obtain ⟨⟨u, v, hu, _⟩, sm⟩ := d
    rw [sm p o (fun z => by rw [z, hu] at h; cases h) q] at h
    cases h
theorem cut_strs (zs : List Str) (m : Nat) : cutV (zs.map V.str) none (some (m : Int)) = (zs.take m).map V.str := by
  unfold cutV
  rw [HT.sIx_nat, HT.sIx_none, List.drop_zero, Nat.sub_zero, List.length_map, List.map_take]
  by_cases h : m ≤ zs.length
  · rw [Nat.min_eq_left h]
  · rw [Nat.min_eq_right (by omega), List.take_of_length_le (by rw [List.length_map]; exact Nat.le_refl _), List.take_of_length_le (by rw [List.length_map]; omega)]
theorem strs_succ (f : Nat → Str) (q : Nat) : ((List.range (q + 1)).map f).map V.str = ((List.range q).map f).map V.str ++ [V.str (f q)] := by
  rw [List.range_succ, List.map_append, List.map_append]
  rfl
theorem strs_len (f : Nat → Str) (q : Nat) : (((List.range q).map f).map V.str).length = q := by
  rw [List.length_map, List.length_map, List.length_range]
theorem upd_two (H : Hp) (D : Addr) (o u : HO) : upd (upd H D o) D u = upd H D u := by
  funext b
  by_cases h : b = D
  · rw [h, upd_same, upd_same]
  · rw [upd_ne h, upd_ne h, upd_ne h]
def tx0 (s k : Nat) : Str := sg ((s + k) % 26) ++ Str.ofString (toString ((s : Int) * 7 + (k : Int)))
def tx1 (s k : Nat) : Str := Str.ofString "k" ++ sg ((s + 5 * k) % 36)
def tx2 (s k : Nat) : Str := (Str.ofString "q0zz" ++ sg ((s + k) % 36)) ++ Str.ofString "b"
def tx3 (s k : Nat) : Str := timesS (sg (k % 26)) (1 + (k : Int) / 26 + (s : Int) % 3)
theorem form_fin {m : Nat} {r : Int} (h0 : 0 ≤ r) (h5 : r < 5) : ∃ fm : Nat, fm < 5 ∧ (37 ≤ m → fm = 0) ∧ r * (if decide ((m : Int) < 37) = true then 1 else 0) = (fm : Int) := by
  by_cases h : (m : Int) < 37
  · exact ⟨r.toNat, by omega, fun z => by omega, by rw [decide_eq_true h, if_pos rfl]; omega⟩
  · exact ⟨0, by decide, fun _ => rfl, by rw [decide_eq_false h, if_neg (by decide)]; omega⟩
theorem ifT {c : Bool} {A B : Prop} (h : c = true) (a : A) : if c = true then A else B := by rw [if_pos h]; exact a
theorem ifF {c : Bool} {A B : Prop} (h : c = false) (b : B) : if c = true then A else B := by rw [if_neg (by rw [h]; decide)]; exact b
/-- the promise in general: G says what the texts are -/
def spTitles (G : Nat → List Str → Prop) : Sp := fun vs H Q _ => ∃ (a : Addr) (m : Nat), vs = [.ref a, .int m] ∧ FeedAt H a ∧ m ≤ 40 ∧ ∀ (p : Addr) (ts : List Str) (H' : Hp), H p = none → Dr a H H' → H' p = some (.lst (ts.map V.str)) → G m ts → Q (.ref p) H'
theorem ok_titles {f fT fM : Addr} {fd fdT fdM : FuncData} {G : Nat → List Str → Prop} (F : Fun K "_law_titles" "_law_titles" sTitles f fd) (FT : Fun K "_law_take" "_law_take" sTake fT fdT) (bT : Binds K fdT ["_law_feed_here", "_law_many"] []) (gT : mg "_law_take" = some (.ref fT))
    (FM : Fun K "_law_mixed" "_law_mixed" sMixed fM fdM) (bM : Binds K fdM ["_law_feed_here", "_law_some"] []) (gM : mg "_law_mixed" = some (.ref fM)) (zList : mg "list" = none) (zRng : mg "range" = none) (zLen : mg "len" = none) (zInt : mg "int" = none) (zStr : mg "str" = none)
    (G4 : ∀ (m : Nat) (ts : List Str), m < 5 → ts.Perm [Str.ofString "word", Str.ofString "truth", Str.ofString "number", Str.ofString "none"] → G m (ts.take m)) (G0 : ∀ m s, m ≤ 40 → s < 26 → G m ((List.range m).map (tx0 s)))
    (G1 : ∀ (m s : Nat) (ts : List Str), m < 37 → s < 26 → ts.Perm ((List.range m).map (tx1 s)) → G m ts) (G2 : ∀ (m s : Nat) (ts : List Str), m < 37 → s < 26 → ts.Perm ((List.range m).map (tx2 s)) → G m ts) (G3 : ∀ (m s : Nat) (ts : List Str), m < 37 → s < 26 → ts.Perm ((List.range m).map (tx3 s)) → G m ts) :
    FnOk P w K mg base CX0 3 f fd ["_law_feed_here", "_law_many"] (spTitles G) := by
  have GT : FnOk P w K mg base CX0 1 fT fdT ["_law_feed_here", "_law_many"] spTake := ok_take FT
  have GM : FnOk P w K mg base CX0 2 fM fdM ["_law_feed_here", "_law_some"] (spMixed K) := ok_mixed FM FT bT gT zList zRng zLen
  refine F.ok scTi (fun vs H Q E h => ?_) (fun cdv A outer s H vs Q E hr h => ?_)
  · obtain ⟨a, m, rfl, _⟩ := h
    rfl
  · obtain ⟨a, m, rfl, hf, hm, k⟩ := h
    have R1 : Room 1 _ := hr.mono (by decide)
    have nd := scTi.nd
    refine ⟨_, pss_cons (ps_asg (pe_tup (pa_cons pe_str (pa_cons (pe_call GT R1 (by rfl) gT FT.kp bT .nil pass0 (pa_cons (pv 0) (pa_cons pe_int pa_nil))) pa_nil))) (pg_tup (by rfl) (pgs_cons (pg_name (i := 2) nd rfl (.inr rfl)) (pgs_cons (pg_name (i := 3) nd rfl (.inr rfl)) pgs_nil))))
      (pss_cut (ps_set (i := 4) nd rfl (.inl rfl) (pe_op op_mulW (pe_call GT R1 (by rfl) gT FT.kp bT .nil pass0 (pa_cons (pv 0) (pa_cons pe_int pa_nil))) (pe_callTy call_int1 (by rfl) zInt PyProof.Rows.boot_int (pa_cons (pe_cmpR op_lt (pv 1) pe_int (nomark _)) pa_nil))))
      (pss_cut (ps_if (PW.pt (pw_and (pt_cmpR op_eq (pv 4) pe_int (nomark _)) (pw_and1 (pt_cmpR op_lt (pv 1) pe_int (nomark _))))) (pss_one (ps_ret (pe_slice sl_list (pe_call GM hr (by rfl) gM FM.kp bM .nil pass0 (pa_cons (pv 0) (pa_cons (pe_lst (pa_cons pe_str (pa_cons pe_str (pa_cons pe_str (pa_cons pe_str pa_nil))))) pa_nil))) po_none (po_some (pv 1))))) pss_nil)
      (pss_cons (ps_if (pt_cmpR op_eq (pv 4) pe_int (nomark _)) (pss_one (ps_ret (pe_lc (own := [("_law_k", 5)]) (g := gName 5) (tt := tYes) rfl nd (pi_range1 (by rfl) zRng (pa_cons (pv 1) pa_nil)) (blkOk_by (N := NT) (sc := defScope sTitles) (by decide +kernel)) (fun _ _ _ _ _ => pg_name (i := 5) nd rfl (.inl rfl)) (fun _ _ _ _ _ => pts_nil)
          (fun _ _ _ _ _ => pe_op op_add_str (pe_ix ix_str (pv 2) (pe_op op_mod (pe_op op_add (pv 3) (pv 5)) pe_int) (fun _ _ => rfl)) (pe_callTy call_str_int (by rfl) zStr PyProof.Rows.boot_str (pa_cons (pe_op op_add (pe_op op_mulW (pv 3) pe_int) (pv 5)) pa_nil)))))) pss_nil)
      (pss_cons (ps_if (pt_cmpR op_eq (pv 4) pe_int (nomark _)) (pss_one (ps_ret (pe_call GM hr (by rfl) gM FM.kp bM .nil pass0 (pa_cons (pv 0) (pa_cons (pe_lc (own := [("_law_k", 5)]) (g := gName 5) (tt := tYes) rfl nd (pi_range1 (by rfl) zRng (pa_cons (pv 1) pa_nil)) (blkOk_by (N := NT) (sc := defScope sTitles) (by decide +kernel)) (fun _ _ _ _ _ => pg_name (i := 5) nd rfl (.inl rfl)) (fun _ _ _ _ _ => pts_nil)
          (fun _ _ _ _ _ => pe_op op_add_str pe_str (pe_ix ix_str (pv 2) (pe_op op_mod (pe_op op_add (pv 3) (pe_op op_mulW pe_int (pv 5))) pe_int) (fun _ _ => rfl)))) pa_nil))))) pss_nil)
      (pss_cons (ps_if (pt_cmpR op_eq (pv 4) pe_int (nomark _)) (pss_one (ps_ret (pe_call GM hr (by rfl) gM FM.kp bM .nil pass0 (pa_cons (pv 0) (pa_cons (pe_lc (own := [("_law_k", 5)]) (g := gName 5) (tt := tYes) rfl nd (pi_range1 (by rfl) zRng (pa_cons (pv 1) pa_nil)) (blkOk_by (N := NT) (sc := defScope sTitles) (by decide +kernel)) (fun _ _ _ _ _ => pg_name (i := 5) nd rfl (.inl rfl)) (fun _ _ _ _ _ => pts_nil)
          (fun _ _ _ _ _ => pe_op op_add_str (pe_op op_add_str pe_str (pe_ix ix_str (pv 2) (pe_op op_mod (pe_op op_add (pv 3) (pv 5)) pe_int) (fun _ _ => rfl))) pe_str)) pa_nil))))) pss_nil)
      (pss_one (ps_ret (pe_call GM hr (by rfl) gM FM.kp bM .nil pass0 (pa_cons (pv 0) (pa_cons (pe_lc (own := [("_law_k", 5)]) (g := gName 5) (tt := tYes) rfl nd (pi_range1 (by rfl) zRng (pa_cons (pv 1) pa_nil)) (blkOk_by (N := NT) (sc := defScope sTitles) (by decide +kernel)) (fun _ _ _ _ _ => pg_name (i := 5) nd rfl (.inl rfl)) (fun _ _ _ _ _ => pts_nil)
          (fun _ _ _ _ _ => pe_op op_mulS (pe_ix ix_str (pv 2) (pe_op op_mod (pv 5) pe_int) (fun _ _ => rfl)) (pe_op op_add (pe_op op_add pe_int (pe_op op_fdivW (pv 5) pe_int)) (pe_op op_mod (pv 3) pe_int)))) pa_nil)))))))))), ?_⟩
    refine ⟨_, rfl, a, 26, rfl, hf, by decide, (by show (26 : Int).natAbs < 2 ^ 200; decide), fun st H1 s0 s1 d1 => ⟨(show 2 ≤ sizeLine by decide), fun T hT => ⟨T, _, rfl, SqT.of upd_same, rfl, _, _, rfl, _, _, rfl, rfl, ?_⟩⟩⟩
    have e1 := same_new (o := .tup [.str signs, .int st]) hT
    have d1' : Dr a H (upd H1 T (.tup [.str signs, .int st])) := by
      obtain ⟨u, v, hu, hv⟩ := d1.fd
      exact ⟨⟨u, v, e1 _ _ hu, hv⟩, fun b o n e => e1 _ _ (d1.sm b o n e)⟩
    obtain ⟨S, rfl⟩ : ∃ S : Nat, st = (S : Int) := ⟨st.toNat, by omega⟩
    have hS : S < 26 := by omega
    refine ⟨fun σ H' => ∃ fm : Nat, fm < 5 ∧ (37 ≤ m → fm = 0) ∧ σ = [some (.ref a), some (.int m), some (.str signs), some (.int (S : Int)), some (.int (fm : Int)), none] ∧ Dr a H H', ?_, ?_⟩
    · refine ⟨_, rfl, a, 5, rfl, d1'.fd, by decide, (by show (5 : Int).natAbs < 2 ^ 200; decide), fun r H2 r0 r1 d2 => ?_⟩
      obtain ⟨fm, hf5, h37, efm⟩ := form_fin (m := m) r0 r1
      refine ⟨_, rfl, _, _, rfl, rfl, .inr ⟨_, rfl, _, _, rfl, rfl, Sm.mulW (n := 3) (m := 1) (by show r.natAbs < 8; omega) (by show (ite _ _ _ : Int).natAbs < 2; split <;> decide) (by decide) (by decide) (by decide), fm, hf5, h37, ?_, ⟨d2.fd, fun b o n e => d2.sm b o n (d1'.sm b o n e)⟩⟩⟩
      exact congrArg (fun z : Int => ([some (.ref a), some (.int m), some (.str signs), some (.int (S : Int)), some (.int z), none] : List (Option V))) efm
    · rintro σ H2 ⟨fm, hfm, h37, rfl, d2⟩
      refine ⟨fun σ H' => σ = [some (.ref a), some (.int m), some (.str signs), some (.int (S : Int)), some (.int (fm : Int)), none] ∧ H' = H2, ?_, ?_⟩
      · refine ⟨_, rfl, rfl, _, rfl, ?_⟩
        by_cases h4 : fm = 4
        · subst h4
          refine ifT (by decide) ⟨_, rfl, _, _, rfl, rfl, _, rfl, ?_⟩
          by_cases h5 : (m : Int) < 5
          · refine ifT (decide_eq_true h5) ?_
            refine ⟨_, rfl, (show 4 ≤ sizeLine by decide), fun l hl => ⟨a, l, _, rfl, (dr_same d2 (same_new hl)).fd, .inl (SqL.of upd_same), (show 4 ≤ 1000 by decide), fun p ys H4 hp d4 ep pm => ?_⟩⟩
            obtain ⟨zs, hz, rfl⟩ := perm_strs (ts := [Str.ofString "word", Str.ofString "truth", Str.ofString "number", Str.ofString "none"]) pm
            refine ⟨_, rfl, _, rfl, p, _, rfl, SqL.of ep, fun p2 hp2 => ?_⟩
            have dA : Dr a H H4 := (dr_same d2 (same_new hl)).trans d4
            exact k p2 (zs.take m) _ (dr_free dA hp2) (dr_same dA (same_new hp2)) (by rw [upd_same, cut_strs]) (G4 m zs (by omega) hz)
          · exact ifF (decide_eq_false h5) ⟨rfl, rfl⟩
        · refine ifF (decide_eq_false fun e => h4 (by injection e with e; omega)) ?_
          exact ifF rfl ⟨rfl, rfl⟩
      · rintro σ H3 ⟨rfl, rfl⟩
        refine ⟨_, rfl, rfl, _, rfl, ?_⟩
        by_cases h0 : fm = 0
        · refine ifT (decide_eq_true (by rw [h0]; rfl)) ?_
          refine ⟨_, rfl, (m : Int), rfl, by omega, by omega, fun D hD => lc_range (fun q H' => H' = upd H3 D (.lst (((List.range q).map (tx0 S)).map V.str))) rfl ?_ ?_⟩
          · rintro q H7 hq rfl
            have hq' : q < 40 := by omega
            have hlog : ((S : Int) * 7 + (0 + (q : Int))).natAbs.log2 < 1920 := Sm.log (n := 10) (by show Int.natAbs _ < 1024; omega) (by decide) (by decide)
            refine ⟨rfl, _, rfl, _, rfl, _, rfl, _, _, rfl, rfl, _, _, rfl, rfl, (by show (0 : Int) < 26; decide), signs, _, _, rfl, rfl, signs_size, atN (j := (S + q) % 26) (by omega) (sg_get (by omega)), _, rfl, _, _, rfl, rfl, (show Sm 5 (S : Int) by show (S : Int).natAbs < 32; omega).mulW (m := 3) (by decide) (by decide) (by decide) (by decide), _, rfl, _, _, rfl, rfl, _, rfl, hlog, _, _, rfl, rfl, Nat.le_trans (Nat.add_le_add (show (sg ((S + q) % 26)).length ≤ 1 from Nat.le_refl 1) (PyProof.Rows.int_text_len_1921 hlog)) (show 1 + 1921 ≤ sizeLine by decide), _, upd_same, by rw [strs_len]; exact Nat.lt_of_lt_of_le hq' (by decide), ?_⟩
            rw [upd_two, strs_succ]
            show upd H3 D (.lst (_ ++ [V.str (sg ((S + q) % 26) ++ Str.ofString (toString ((S : Int) * 7 + (0 + (q : Int)))))])) = _
            rw [Int.zero_add]
            rfl
          · rintro H7 rfl
            exact k D _ _ (dr_free d2 hD) (dr_same d2 (same_new hD)) upd_same (G0 m S hm hS)
        refine ifF (decide_eq_false fun e => h0 (by injection e with e; omega)) ⟨_, rfl, rfl, _, rfl, ?_⟩
        have hm37 : m < 37 := by omega
        by_cases h1 : fm = 1
        · refine ifT (decide_eq_true (by rw [h1]; rfl)) ?_
          refine ⟨_, rfl, _, rfl, (m : Int), rfl, by omega, by omega, fun D hD => lc_range (fun q H' => H' = upd H3 D (.lst (((List.range q).map (tx1 S)).map V.str))) rfl ?_ ?_⟩
          · rintro q H7 hq rfl
            have hq' : q < 40 := by omega
            refine ⟨rfl, _, rfl, _, rfl, _, rfl, _, _, rfl, rfl, (show Sm 3 5 by decide).mulW (m := 6) (show (0 + (q : Int)).natAbs < 64 by omega) (by decide) (by decide) (by decide), _, _, rfl, rfl, _, _, rfl, rfl, (by show (0 : Int) < 36; decide), signs, _, _, rfl, rfl, signs_size, atN (j := (S + 5 * q) % 36) (by omega) (sg_get (by omega)), _, _, rfl, rfl, (show (Str.ofString "k").length + 1 ≤ sizeLine by decide +kernel), _, upd_same, by rw [strs_len]; exact Nat.lt_of_lt_of_le hq' (by decide), ?_⟩
            rw [upd_two, strs_succ]
            rfl
          · rintro H7 rfl
            refine ⟨a, D, _, rfl, (dr_same d2 (same_new hD)).fd, .inl (SqL.of upd_same), Nat.le_trans (Nat.le_of_eq (strs_len _ _)) (by omega), fun p ys H4 hp d4 ep pm => ?_⟩
            obtain ⟨zs, hz, rfl⟩ := perm_strs pm
            have dA : Dr a H H4 := (dr_same d2 (same_new hD)).trans d4
            exact k p zs _ (dr_free (dr_same d2 (same_new hD)) hp) dA ep (G1 m S zs hm37 hS hz)
        refine ifF (decide_eq_false fun e => h1 (by injection e with e; omega)) ⟨_, rfl, rfl, _, rfl, ?_⟩
        by_cases h2 : fm = 2
        · refine ifT (decide_eq_true (by rw [h2]; rfl)) ?_
          refine ⟨_, rfl, _, rfl, (m : Int), rfl, by omega, by omega, fun D hD => lc_range (fun q H' => H' = upd H3 D (.lst (((List.range q).map (tx2 S)).map V.str))) rfl ?_ ?_⟩
          · rintro q H7 hq rfl
            have hq' : q < 40 := by omega
            have len2 : (Str.ofString "q0zz" ++ sg ((S + q) % 36)).length + (Str.ofString "b").length ≤ sizeLine := by
              rw [len_app]
              show (Str.ofString "q0zz").length + 1 + (Str.ofString "b").length ≤ sizeLine
              decide +kernel
            refine ⟨rfl, _, rfl, _, rfl, _, rfl, _, _, rfl, rfl, _, _, rfl, rfl, (by show (0 : Int) < 36; decide), signs, _, _, rfl, rfl, signs_size, atN (j := (S + q) % 36) (by omega) (sg_get (by omega)), _, _, rfl, rfl, (show (Str.ofString "q0zz").length + 1 ≤ sizeLine by decide +kernel), _, _, rfl, rfl, len2, _, upd_same, by rw [strs_len]; exact Nat.lt_of_lt_of_le hq' (by decide), ?_⟩
            rw [upd_two, strs_succ]
            rfl
          · rintro H7 rfl
            refine ⟨a, D, _, rfl, (dr_same d2 (same_new hD)).fd, .inl (SqL.of upd_same), Nat.le_trans (Nat.le_of_eq (strs_len _ _)) (by omega), fun p ys H4 hp d4 ep pm => ?_⟩
            obtain ⟨zs, hz, rfl⟩ := perm_strs pm
            have dA : Dr a H H4 := (dr_same d2 (same_new hD)).trans d4
            exact k p zs _ (dr_free (dr_same d2 (same_new hD)) hp) dA ep (G2 m S zs hm37 hS hz)
        refine ifF (decide_eq_false fun e => h2 (by injection e with e; omega)) ?_
        refine ⟨_, rfl, _, rfl, (m : Int), rfl, by omega, by omega, fun D hD => lc_range (fun q H' => H' = upd H3 D (.lst (((List.range q).map (tx3 S)).map V.str))) rfl ?_ ?_⟩
        · rintro q H7 hq rfl
          have hq' : q < 40 := by omega
          have low1 : -(2 ^ 62) < 1 + (0 + (q : Int)) / 26 + (S : Int) % 3 := by omega
          have hhi : 1 + (0 + (q : Int)) / 26 + (S : Int) % 3 < 2 ^ 20 := by omega
          have one16 : (sg (q % 26)).length < 16 := Nat.lt_of_le_of_lt (Nat.le_refl 1) (by decide)
          refine ⟨rfl, _, rfl, _, rfl, _, _, rfl, rfl, (by show (0 : Int) < 26; decide), signs, _, _, rfl, rfl, signs_size, atN (j := q % 26) (by omega) (sg_get (by omega)), _, rfl, _, _, rfl, rfl, ⟨by decide, by decide⟩, _, _, rfl, rfl, _, rfl, _, _, rfl, rfl, (by show (0 : Int) < 3; decide), _, _, rfl, rfl, _, _, rfl, rfl, low1, .inr ⟨hhi, one16⟩, _, upd_same, by rw [strs_len]; exact Nat.lt_of_lt_of_le hq' (by decide), ?_⟩
          rw [upd_two, strs_succ]
          show upd H3 D (.lst (_ ++ [V.str (timesS (sg (q % 26)) (1 + (0 + (q : Int)) / 26 + (S : Int) % 3))])) = _
          rw [Int.zero_add]
          rfl
        · rintro H7 rfl
          refine ⟨a, D, _, rfl, (dr_same d2 (same_new hD)).fd, .inl (SqL.of upd_same), Nat.le_trans (Nat.le_of_eq (strs_len _ _)) (by omega), fun p ys H4 hp d4 ep pm => ?_⟩
          obtain ⟨zs, hz, rfl⟩ := perm_strs pm
          have dA : Dr a H H4 := (dr_same d2 (same_new hD)).trans d4
          exact k p zs _ (dr_free (dr_same d2 (same_new hD)) hp) dA ep (G3 m S zs hm37 hS hz)
end
end R2

namespace R2
open PySem L2 L3
/-- a name, by its signs -/
def nameB (t : Str) : Bool := (decide (1 ≤ t.cps.toList.length) && decide (t.cps.toList.length ≤ 6)) && ((match t.cps.toList with | c :: _ => decide (97 ≤ c) && decide (c ≤ 122) | [] => false) && t.cps.toList.all fun c => (decide (97 ≤ c) && decide (c ≤ 122)) || (decide (48 ≤ c) && decide (c ≤ 57)))
/-- so many names, no two alike -/
def GName (m : Nat) (ts : List Str) : Prop := ts.length = m ∧ ts.Nodup ∧ ∀ t ∈ ts, nameB t = true
def rowB (f : Nat → Str) (n : Nat) : Bool := decide (((List.range n).map f).Nodup) && ((List.range n).map f).all nameB
theorem tab0 : (List.range 26).all (fun s => rowB (tx0 s) 40) = true := by decide +kernel
theorem tab1 : (List.range 26).all (fun s => rowB (tx1 s) 36) = true := by decide +kernel
theorem tab2 : (List.range 26).all (fun s => rowB (tx2 s) 36) = true := by decide +kernel
theorem tab3 : (List.range 26).all (fun s => rowB (tx3 s) 36) = true := by decide +kernel
theorem tab4 : (decide ([Str.ofString "word", Str.ofString "truth", Str.ofString "number", Str.ofString "none"].Nodup) && [Str.ofString "word", Str.ofString "truth", Str.ofString "number", Str.ofString "none"].all nameB) = true := by decide +kernel
theorem row_of {f : Nat → Nat → Str} {n s m : Nat} (h : (List.range 26).all (fun s => rowB (f s) n) = true) (hs : s < 26) (hm : m ≤ n) : GName m ((List.range m).map (f s)) := by
  have r := List.all_eq_true.mp h s (List.mem_range.mpr hs)
  obtain ⟨r1, r2⟩ := Bool.and_eq_true_iff.mp r
  have sub : ((List.range m).map (f s)).Sublist ((List.range n).map (f s)) := (List.range_sublist.mpr hm).map _
  refine ⟨by rw [List.length_map, List.length_range], (of_decide_eq_true r1).sublist sub, fun t ht => List.all_eq_true.mp r2 t (sub.subset ht)⟩
theorem GName.perm {m : Nat} {ts us : List Str} (g : GName m us) (h : ts.Perm us) : GName m ts :=
  ⟨h.length_eq.trans g.1, h.nodup_iff.mpr g.2.1, fun t ht => g.2.2 t (h.mem_iff.mp ht)⟩
theorem gn4 (m : Nat) (ts : List Str) (hm : m < 5) (h : ts.Perm [Str.ofString "word", Str.ofString "truth", Str.ofString "number", Str.ofString "none"]) : GName m (ts.take m) := by
  have t4 := tab4
  obtain ⟨r1, r2⟩ := Bool.and_eq_true_iff.mp t4
  have sub : (ts.take m).Sublist ts := List.take_sublist _ _
  refine ⟨?_, (h.nodup_iff.mpr (of_decide_eq_true r1)).sublist sub, fun t ht => List.all_eq_true.mp r2 t (h.mem_iff.mp (sub.subset ht))⟩
  rw [List.length_take, h.length_eq]
  show min m 4 = m
  omega
theorem gn0 (m s : Nat) (hm : m ≤ 40) (hs : s < 26) : GName m ((List.range m).map (tx0 s)) := row_of tab0 hs hm
theorem gn1 (m s : Nat) (ts : List Str) (hm : m < 37) (hs : s < 26) (h : ts.Perm ((List.range m).map (tx1 s))) : GName m ts := (row_of tab1 hs (by omega)).perm h
theorem gn2 (m s : Nat) (ts : List Str) (hm : m < 37) (hs : s < 26) (h : ts.Perm ((List.range m).map (tx2 s))) : GName m ts := (row_of tab2 hs (by omega)).perm h
theorem gn3 (m s : Nat) (ts : List Str) (hm : m < 37) (hs : s < 26) (h : ts.Perm ((List.range m).map (tx3 s))) : GName m ts := (row_of tab3 hs (by omega)).perm h
end R2

namespace R2
open PySem L2 L3
open C8 (pss_cut tCut pe_gc)
abbrev sIsName : Stmt := top 4
/-! ### is_name -/
def letters : Str := "abcdefghijklmnopqrstuvwxyz"
def digits : Str := "0123456789"
def isNameS (z : Str) : Bool := (decide (1 ≤ z.cps.toList.length) && decide (z.cps.toList.length ≤ 6)) && ((match z.cps.toList with | c :: _ => decide (c ∈ letters.cps.toList) | [] => false) && z.cps.toList.all fun c => decide (c ∈ letters.cps.toList) || decide (c ∈ digits.cps.toList))
/-- what the values' defs may be asked: a text, or what is no text by its class -/
def spIsName (K : PySem.W.Frag) : Sp := fun vs H Q _ => ∃ x : V, vs = [x] ∧ ((∃ z, x = .str z ∧ z.length ≤ 100000 ∧ ∀ H', Same H H' → Q (.bl (isNameS z)) H') ∨ (∃ t, TyX K H x t ∧ PySem.W.kitOne K t (.type "str") = some false ∧ Q (.bl false) H))
def signB (c : Nat) : Bool := decide (c ∈ letters.cps.toList) || decide (c ∈ digits.cps.toList)
theorem bl_take {l : List Nat} {i c : Nat} (h : l[i]? = some c) : ((l.take (i + 1)).map signB).map V.bl = ((l.take i).map signB).map V.bl ++ [V.bl (signB c)] := by
  rw [List.take_add_one, h, List.map_append, List.map_append]
  rfl
section
variable {P : Program} {w : World} {K : PySem.W.Frag} {mg : Str → Option Value} {base : Heap}
abbrev NN : List Str := ["value", "sign"]
theorem scNa : FnScope NN ["value"] (defScope sIsName) := ⟨rfl, rfl, rfl, by decide +kernel, rfl, by decide +kernel, by decide +kernel⟩
theorem ok_isname {f : Addr} {fd : FuncData} (F : Fun K "is_name" "is_name" sIsName f fd) (zIsi : mg "isinstance" = none) (zStr : mg "str" = none) (zLen : mg "len" = none) (zAll : mg "all" = none) (gL : ∃ u, mg "LETTERS" = some u ∧ RelV (.str letters) u) (gD : ∃ u, mg "DIGITS" = some u ∧ RelV (.str digits) u)
    (gM : ∃ u, mg "MOST_SIGNS" = some u ∧ RelV (.int 6) u) (kS : PySem.W.kitOne K (.type "str") (.type "str") = some true) : FnOk P w K mg base CX0 1 f fd ["value"] (spIsName K) := by
  refine F.ok scNa (fun vs H Q E h => ?_) (fun cdv A outer s H vs Q E hr h => ?_)
  · obtain ⟨x, rfl, _⟩ := h
    rfl
  · obtain ⟨x, rfl, h⟩ := h
    have nd := scNa.nd
    refine ⟨_, pss_cons (ps_if (PW.pt (pw_or (pt_not (pt_val (pe_callB call_isi (by rfl) zIsi PyProof.Rows.boot_isinstance (pa_cons (pv 0) (pa_cons (pe_bltn (v := .ty "str") (by rfl) zStr PyProof.Rows.boot_str rfl) pa_nil)))))
        (pw_or1 (pt_not (pt_chain op_le op_le pe_int (pe_callB call_len (by rfl) zLen PySem.boot_len (pa_cons (pv 0) pa_nil)) (pe_gc (v := .int 6) (by rfl) gM)))))) (pss_one (ps_ret pe_bl)) pss_nil)
      (pss_one (ps_ret (pe_and (pe_cmpR op_in_sign (pe_ix ix_str (pv 0) pe_int (fun _ _ => rfl)) (pe_gc (v := .str letters) (by rfl) gL) (by rfl))
        (pe_one (pe_callB (cr_all rfl) (by rfl) zAll (by decide +kernel) (pa_cons (pe_lc (own := [("sign", 1)]) (g := gName 1) (tt := tYes) rfl nd (pi_str (pv 0)) (blkOk_by (N := NN) (sc := defScope sIsName) (by decide +kernel)) (fun _ _ _ _ _ => pg_name (i := 1) nd rfl (.inl rfl)) (fun _ _ _ _ _ => pts_nil)
          (fun _ _ _ _ _ => pe_or (pe_cmpR op_in_sign (pv 1) (pe_gc (v := .str letters) (by rfl) gL) (by rfl)) (pe_one (pe_cmpR op_in_sign (pv 1) (pe_gc (v := .str digits) (by rfl) gD) (by rfl))))) pa_nil)))))), ?_⟩
    rcases h with ⟨z, rfl, hz, k⟩ | ⟨t, ty, kt, k⟩
    · have hsz : z.length ≤ sizeLine := size_ok hz
      have hl : z.cps.toList.length = z.length := Array.length_toList
      refine ⟨_, rfl, .str z, .ty "str", .type "str", .type "str", true, rfl, .ty _, .base (.str z), kS, _, rfl, ifF rfl ?_⟩
      refine ⟨_, rfl, _, _, rfl, ⟨hsz, rfl⟩, _, _, rfl, rfl, _, rfl, ?_⟩
      by_cases h1 : (1 : Int) ≤ (z.length : Int)
      · refine ifT (decide_eq_true h1) ⟨_, _, rfl, rfl, _, rfl, ?_⟩
        by_cases h6 : (z.length : Int) ≤ 6
        · refine ifF (by rw [decide_eq_true h6]; rfl) ?_
          have hpos : 0 < z.cps.toList.length := by omega
          obtain ⟨c, r, hcr⟩ : ∃ c r, z.cps.toList = c :: r := by
            cases q : z.cps.toList with
            | nil => rw [q] at hpos; cases hpos
            | cons c r => exact ⟨c, r, rfl⟩
          have hc0 : z.cps.toList[0]? = some c := by rw [hcr]; rfl
          have en : isNameS z = (decide (c ∈ letters.cps.toList) && z.cps.toList.all signB) := by
            unfold isNameS
            rw [hl, decide_eq_true (by omega : 1 ≤ z.length), decide_eq_true (by omega : z.length ≤ 6), Bool.true_and, Bool.true_and]
            rw [hcr]
            rfl
          refine ⟨_, rfl, z, 0, c, rfl, rfl, hsz, atN (j := 0) rfl hc0, _, _, rfl, rfl, _, rfl, ?_⟩
          by_cases hc : c ∈ letters.cps.toList
          · refine ifT (decide_eq_true hc) ⟨_, rfl, z, rfl, fun D hD => lc_it walk_str (fun i H' => H' = upd H D (.lst (((z.cps.toList.take i).map signB).map V.bl))) rfl (fun _ _ _ _ => True.intro) ?_ ?_⟩
            · rintro i x H7 H8 hi rfl ⟨rfl, d, hd, rfl⟩
              have hd2 : z.cps.toList[i]? = some d := by rw [Array.getElem?_toList]; exact hd
              have fin : ∀ y : V, y = V.bl (signB d) → ∃ acc, (upd H D (.lst (((z.cps.toList.take i).map signB).map V.bl))) D = some (.lst acc) ∧ acc.length < sizeLine ∧ upd (upd H D (.lst (((z.cps.toList.take i).map signB).map V.bl))) D (.lst (acc ++ [y])) = upd H D (.lst (((z.cps.toList.take (i + 1)).map signB).map V.bl)) := by
                rintro y rfl
                refine ⟨_, upd_same, ?_, by rw [upd_two, bl_take hd2]⟩
                rw [List.length_map, List.length_map, List.length_take]
                have := sizeLine_eq
                omega
              refine ⟨rfl, _, rfl, d, letters, rfl, rfl, _, rfl, ?_⟩
              by_cases hd3 : d ∈ letters.cps.toList
              · exact ifT (decide_eq_true hd3) (fin _ (by unfold signB; rw [decide_eq_true hd3, Bool.true_or]))
              · refine ifF (decide_eq_false hd3) ⟨_, rfl, d, digits, rfl, rfl, fin _ ?_⟩
                unfold signB
                rw [decide_eq_false hd3, Bool.false_or]
            · rintro H7 rfl
              have et : (z.cps.toList.take z.cps.size) = z.cps.toList := List.take_of_length_le (by rw [Array.length_toList]; exact Nat.le_refl _)
              rw [et]
              refine ⟨D, _, rfl, SqL.of upd_same, ?_⟩
              have q := k _ (same_new (o := .lst ((z.cps.toList.map signB).map V.bl)) hD)
              rw [en, decide_eq_true hc, Bool.true_and] at q
              have ea : (z.cps.toList.map signB).all id = z.cps.toList.all signB := by rw [List.all_map]; rfl
              rw [ea]
              exact q
          · refine ifF (decide_eq_false hc) ?_
            have q := k H (Same.refl H)
            rw [en, decide_eq_false hc, Bool.false_and] at q
            exact q
        · refine ifT (by rw [decide_eq_false h6]; rfl) ?_
          have e : isNameS z = false := by
            unfold isNameS
            rw [hl, decide_eq_false (by omega : ¬ z.length ≤ 6), Bool.and_false, Bool.false_and]
          have q := k H (Same.refl H)
          rw [e] at q
          exact q
      · refine ifF (decide_eq_false h1) ⟨_, rfl, ifT rfl ?_⟩
        have e : isNameS z = false := by
          unfold isNameS
          rw [hl, decide_eq_false (by omega : ¬ 1 ≤ z.length), Bool.false_and, Bool.false_and]
        have q := k H (Same.refl H)
        rw [e] at q
        exact q
    · refine ⟨_, rfl, x, .ty "str", t, .type "str", false, rfl, .ty _, ty, kt, _, rfl, ifT rfl ?_⟩
      exact ifT rfl k
end
end R2

namespace R2
open PySem L2 L3
open C8 (pss_cut tCut pe_gc)
abbrev sIsValue : Stmt := top 5
abbrev sKind : Stmt := top 6
abbrev sIsSame : Stmt := top 7
/-! ### kind_of -/
/-- what a value's class says: whether it is a truth, a number (a truth is one), a text -/
structure Cls3 (K : PySem.W.Frag) (H : Hp) (x : V) (b i s : Bool) : Prop where
  ne : decide (x = V.non) = false
  ex : ∃ t, TyX K H x t ∧ PySem.W.kitOne K t (.type "bool") = some b ∧ PySem.W.kitOne K t (.type "int") = some i ∧ PySem.W.kitOne K t (.type "str") = some s
def kindT (b i s : Bool) : Str := if b = true then Str.ofString "truth" else if i = true then Str.ofString "number" else if s = true then Str.ofString "word" else Str.ofString ""
def spKind (K : PySem.W.Frag) : Sp := fun vs H Q _ => ∃ x : V, vs = [x] ∧ ((x = .non ∧ Q (.str (Str.ofString "none")) H) ∨ ∃ b i s, Cls3 K H x b i s ∧ Q (.str (kindT b i s)) H)
section
variable {P : Program} {w : World} {K : PySem.W.Frag} {mg : Str → Option Value} {base : Heap}
theorem scKi : FnScope ["value"] ["value"] (defScope sKind) := ⟨rfl, rfl, rfl, by decide +kernel, rfl, by decide +kernel, by decide +kernel⟩
theorem ok_kind {f : Addr} {fd : FuncData} (F : Fun K "kind_of" "kind_of" sKind f fd) (zIsi : mg "isinstance" = none) (zStr : mg "str" = none) (zBool : mg "bool" = none) (zInt : mg "int" = none) : FnOk P w K mg base CX0 1 f fd ["value"] (spKind K) := by
  refine F.ok scKi (fun vs H Q E h => ?_) (fun cdv A outer s H vs Q E hr h => ?_)
  · obtain ⟨x, rfl, _⟩ := h
    rfl
  · obtain ⟨x, rfl, h⟩ := h
    refine ⟨_, pss_cons (ps_if (pt_cmpR op_isN (pv 0) pe_non (nomark _)) (pss_one (ps_ret pe_str)) pss_nil)
      (pss_cons (ps_if (pt_val (pe_callB call_isi (by rfl) zIsi PyProof.Rows.boot_isinstance (pa_cons (pv 0) (pa_cons (pe_bltn (v := .ty "bool") (by rfl) zBool PyProof.Rows.boot_bool rfl) pa_nil)))) (pss_one (ps_ret pe_str)) pss_nil)
      (pss_cons (ps_if (pt_val (pe_callB call_isi (by rfl) zIsi PyProof.Rows.boot_isinstance (pa_cons (pv 0) (pa_cons (pe_bltn (v := .ty "int") (by rfl) zInt PyProof.Rows.boot_int rfl) pa_nil)))) (pss_one (ps_ret pe_str)) pss_nil)
      (pss_cons (ps_if (pt_val (pe_callB call_isi (by rfl) zIsi PyProof.Rows.boot_isinstance (pa_cons (pv 0) (pa_cons (pe_bltn (v := .ty "str") (by rfl) zStr PyProof.Rows.boot_str rfl) pa_nil)))) (pss_one (ps_ret pe_str)) pss_nil)
      (pss_one (ps_ret pe_str))))), ?_⟩
    rcases h with ⟨rfl, k⟩ | ⟨b, i, s, ⟨hne, t, ty, kb, ki, ks⟩, k⟩
    · exact ⟨_, rfl, rfl, _, rfl, ifT rfl k⟩
    · refine ⟨_, rfl, rfl, _, rfl, ifF hne ⟨_, rfl, x, .ty "bool", t, .type "bool", b, rfl, .ty _, ty, kb, _, rfl, ?_⟩⟩
      cases b with
      | true => exact ifT rfl k
      | false =>
        refine ifF rfl ⟨_, rfl, x, .ty "int", t, .type "int", i, rfl, .ty _, ty, ki, _, rfl, ?_⟩
        cases i with
        | true => exact ifT rfl k
        | false =>
          refine ifF rfl ⟨_, rfl, x, .ty "str", t, .type "str", s, rfl, .ty _, ty, ks, _, rfl, ?_⟩
          cases s with
          | true => exact ifT rfl k
          | false => exact ifF rfl k
end
end R2

namespace R2
open PySem L2 L3
open C8 (pss_cut tCut pe_gc)
/-- what the written part says of the built-in classes -/
structure KitT (K : PySem.W.Frag) : Prop where
  bb : PySem.W.kitOne K (.type "bool") (.type "bool") = some true
  bi : PySem.W.kitOne K (.type "bool") (.type "int") = some true
  bs : PySem.W.kitOne K (.type "bool") (.type "str") = some false
  ib : PySem.W.kitOne K (.type "int") (.type "bool") = some false
  ii : PySem.W.kitOne K (.type "int") (.type "int") = some true
  is : PySem.W.kitOne K (.type "int") (.type "str") = some false
  sb : PySem.W.kitOne K (.type "str") (.type "bool") = some false
  si : PySem.W.kitOne K (.type "str") (.type "int") = some false
  ss : PySem.W.kitOne K (.type "str") (.type "str") = some true
  tb : PySem.W.kitOne K (.type "tuple") (.type "bool") = some false
  ti : PySem.W.kitOne K (.type "tuple") (.type "int") = some false
  ts : PySem.W.kitOne K (.type "tuple") (.type "str") = some false
section
variable {P : Program} {w : World} {K : PySem.W.Frag} {mg : Str → Option Value} {base : Heap} {H : Hp}
theorem cls_bl (T : KitT K) (b : Bool) : Cls3 K H (.bl b) true true false := ⟨rfl, .type "bool", .base (.bl b), T.bb, T.bi, T.bs⟩
theorem cls_int (T : KitT K) (i : Int) : Cls3 K H (.int i) false true false := ⟨rfl, .type "int", .base (.int i), T.ib, T.ii, T.is⟩
theorem cls_str (T : KitT K) (z : Str) : Cls3 K H (.str z) false false true := ⟨rfl, .type "str", .base (.str z), T.sb, T.si, T.ss⟩
theorem cls_tup (T : KitT K) {a : Addr} {xs : List V} (h : H a = some (.tup xs)) : Cls3 K H (.ref a) false false false := ⟨rfl, .type "tuple", .base (.tup h), T.tb, T.ti, T.ts⟩
/-! ### is_value -/
def spIsValue (K : PySem.W.Frag) : Sp := fun vs H Q _ => ∃ x : V, vs = [x] ∧ ((x = .non ∧ Q (.bl true) H) ∨ ∃ b i s, Cls3 K H x b i s ∧ ((i = true ∧ Q (.bl true) H) ∨ (i = false ∧ spIsName K [x] H Q E0)))
theorem scVa : FnScope ["value"] ["value"] (defScope sIsValue) := ⟨rfl, rfl, rfl, by decide +kernel, rfl, by decide +kernel, by decide +kernel⟩
theorem ok_isvalue {f fN : Addr} {fd fdN : FuncData} (F : Fun K "is_value" "is_value" sIsValue f fd) (zIsi : mg "isinstance" = none) (zInt : mg "int" = none) (GN : FnOk P w K mg base CX0 1 fN fdN ["value"] (spIsName K)) (kN : PySem.W.keepIn K (.ref fN) = true) (bN : Binds K fdN ["value"] []) (gN : mg "is_name" = some (.ref fN)) :
    FnOk P w K mg base CX0 2 f fd ["value"] (spIsValue K) := by
  refine F.ok scVa (fun vs H Q E h => ?_) (fun cdv A outer s H vs Q E hr h => ?_)
  · obtain ⟨x, rfl, _⟩ := h
    rfl
  · obtain ⟨x, rfl, h⟩ := h
    refine ⟨_, pss_one (ps_ret (pe_or (pe_cmpR op_isN (pv 0) pe_non (nomark _)) (pe_or (pe_callB call_isi (by rfl) zIsi PyProof.Rows.boot_isinstance (pa_cons (pv 0) (pa_cons (pe_bltn (v := .ty "int") (by rfl) zInt PyProof.Rows.boot_int rfl) pa_nil)))
      (pe_one (pe_call GN hr (by rfl) gN kN bN .nil pass0 (pa_cons (pv 0) pa_nil)))))), ?_⟩
    rcases h with ⟨rfl, k⟩ | ⟨b, i, s, ⟨hne, t, ty, kb, ki, ks⟩, k⟩
    · exact ⟨_, rfl, rfl, _, rfl, ifT rfl k⟩
    · refine ⟨_, rfl, rfl, _, rfl, ifF hne ⟨_, rfl, x, .ty "int", t, .type "int", i, rfl, .ty _, ty, ki, _, rfl, ?_⟩⟩
      rcases k with ⟨rfl, k⟩ | ⟨rfl, k⟩
      · exact ifT rfl k
      · exact ifF rfl ⟨_, rfl, k⟩
/-! ### is_same -/
/-- a value -/
inductive Val : V → Prop
  | non : Val .non
  | bl (b : Bool) : Val (.bl b)
  | int (i : Int) : Val (.int i)
  | str (z : Str) : Val (.str z)
def kindV : V → Str
  | .non => Str.ofString "none"
  | .bl _ => Str.ofString "truth"
  | .int _ => Str.ofString "number"
  | _ => Str.ofString "word"
theorem kind_of {x : V} (T : KitT K) (h : Val x) {Q : VK} (q : Q (.str (kindV x)) H) : spKind K [x] H Q E0 := by
  cases h with
  | non => exact ⟨_, rfl, .inl ⟨rfl, q⟩⟩
  | bl b => exact ⟨_, rfl, .inr ⟨_, _, _, cls_bl T b, q⟩⟩
  | int i => exact ⟨_, rfl, .inr ⟨_, _, _, cls_int T i, q⟩⟩
  | str z => exact ⟨_, rfl, .inr ⟨_, _, _, cls_str T z, q⟩⟩
def spIsSame : Sp := fun vs H Q _ => ∃ x y : V, vs = [x, y] ∧ Val x ∧ Val y ∧ Q (.bl (decide (x = y))) H
theorem scIs : FnScope ["one", "other"] ["one", "other"] (defScope sIsSame) := ⟨rfl, rfl, rfl, by decide +kernel, rfl, by decide +kernel, by decide +kernel⟩
theorem ok_issame {f fN : Addr} {fd fdN : FuncData} (F : Fun K "is_same" "is_same" sIsSame f fd) (T : KitT K) (GN : FnOk P w K mg base CX0 1 fN fdN ["value"] (spKind K)) (kN : PySem.W.keepIn K (.ref fN) = true) (bN : Binds K fdN ["value"] []) (gN : mg "kind_of" = some (.ref fN)) :
    FnOk P w K mg base CX0 2 f fd ["one", "other"] spIsSame := by
  refine F.ok scIs (fun vs H Q E h => ?_) (fun cdv A outer s H vs Q E hr h => ?_)
  · obtain ⟨x, y, rfl, _⟩ := h
    rfl
  · obtain ⟨x, y, rfl, hx, hy, k⟩ := h
    refine ⟨_, pss_one (ps_ret (pe_and (pe_cmpR op_eq (pe_call GN hr (by rfl) gN kN bN .nil pass0 (pa_cons (pv 0) pa_nil)) (pe_call GN hr (by rfl) gN kN bN .nil pass0 (pa_cons (pv 1) pa_nil)) (nomark _)) (pe_one (pe_cmpR op_eq (pv 0) (pv 1) (nomark _))))), ?_⟩
    cases hx with
    | non =>
      cases hy with
      | non => exact ⟨_, rfl, _, rfl, .inl ⟨rfl, ⟨_, rfl, _, rfl, .inl ⟨rfl, ⟨rfl, _, rfl, ifT rfl ⟨_, rfl, _, rfl, rfl, k⟩⟩⟩⟩⟩⟩
      | bl b2 => exact ⟨_, rfl, _, rfl, .inl ⟨rfl, ⟨_, rfl, _, rfl, .inr ⟨_, _, _, cls_bl T b2, ⟨rfl, _, rfl, ifF (by decide +kernel) k⟩⟩⟩⟩⟩
      | int i2 => exact ⟨_, rfl, _, rfl, .inl ⟨rfl, ⟨_, rfl, _, rfl, .inr ⟨_, _, _, cls_int T i2, ⟨rfl, _, rfl, ifF (by decide +kernel) k⟩⟩⟩⟩⟩
      | str z2 => exact ⟨_, rfl, _, rfl, .inl ⟨rfl, ⟨_, rfl, _, rfl, .inr ⟨_, _, _, cls_str T z2, ⟨rfl, _, rfl, ifF (by decide +kernel) k⟩⟩⟩⟩⟩
    | bl b1 =>
      cases hy with
      | non => exact ⟨_, rfl, _, rfl, .inr ⟨_, _, _, cls_bl T b1, ⟨_, rfl, _, rfl, .inl ⟨rfl, ⟨rfl, _, rfl, ifF (by decide +kernel) k⟩⟩⟩⟩⟩
      | bl b2 => exact ⟨_, rfl, _, rfl, .inr ⟨_, _, _, cls_bl T b1, ⟨_, rfl, _, rfl, .inr ⟨_, _, _, cls_bl T b2, ⟨rfl, _, rfl, ifT rfl ⟨_, rfl, _, rfl, rfl, k⟩⟩⟩⟩⟩⟩
      | int i2 => exact ⟨_, rfl, _, rfl, .inr ⟨_, _, _, cls_bl T b1, ⟨_, rfl, _, rfl, .inr ⟨_, _, _, cls_int T i2, ⟨rfl, _, rfl, ifF (by decide +kernel) k⟩⟩⟩⟩⟩
      | str z2 => exact ⟨_, rfl, _, rfl, .inr ⟨_, _, _, cls_bl T b1, ⟨_, rfl, _, rfl, .inr ⟨_, _, _, cls_str T z2, ⟨rfl, _, rfl, ifF (by decide +kernel) k⟩⟩⟩⟩⟩
    | int i1 =>
      cases hy with
      | non => exact ⟨_, rfl, _, rfl, .inr ⟨_, _, _, cls_int T i1, ⟨_, rfl, _, rfl, .inl ⟨rfl, ⟨rfl, _, rfl, ifF (by decide +kernel) k⟩⟩⟩⟩⟩
      | bl b2 => exact ⟨_, rfl, _, rfl, .inr ⟨_, _, _, cls_int T i1, ⟨_, rfl, _, rfl, .inr ⟨_, _, _, cls_bl T b2, ⟨rfl, _, rfl, ifF (by decide +kernel) k⟩⟩⟩⟩⟩
      | int i2 => exact ⟨_, rfl, _, rfl, .inr ⟨_, _, _, cls_int T i1, ⟨_, rfl, _, rfl, .inr ⟨_, _, _, cls_int T i2, ⟨rfl, _, rfl, ifT rfl ⟨_, rfl, _, rfl, rfl, k⟩⟩⟩⟩⟩⟩
      | str z2 => exact ⟨_, rfl, _, rfl, .inr ⟨_, _, _, cls_int T i1, ⟨_, rfl, _, rfl, .inr ⟨_, _, _, cls_str T z2, ⟨rfl, _, rfl, ifF (by decide +kernel) k⟩⟩⟩⟩⟩
    | str z1 =>
      cases hy with
      | non => exact ⟨_, rfl, _, rfl, .inr ⟨_, _, _, cls_str T z1, ⟨_, rfl, _, rfl, .inl ⟨rfl, ⟨rfl, _, rfl, ifF (by decide +kernel) k⟩⟩⟩⟩⟩
      | bl b2 => exact ⟨_, rfl, _, rfl, .inr ⟨_, _, _, cls_str T z1, ⟨_, rfl, _, rfl, .inr ⟨_, _, _, cls_bl T b2, ⟨rfl, _, rfl, ifF (by decide +kernel) k⟩⟩⟩⟩⟩
      | int i2 => exact ⟨_, rfl, _, rfl, .inr ⟨_, _, _, cls_str T z1, ⟨_, rfl, _, rfl, .inr ⟨_, _, _, cls_int T i2, ⟨rfl, _, rfl, ifF (by decide +kernel) k⟩⟩⟩⟩⟩
      | str z2 => exact ⟨_, rfl, _, rfl, .inr ⟨_, _, _, cls_str T z1, ⟨_, rfl, _, rfl, .inr ⟨_, _, _, cls_str T z2, ⟨rfl, _, rfl, ifT rfl ⟨_, rfl, _, rfl, rfl, k⟩⟩⟩⟩⟩⟩
end
end R2

namespace R2
open PySem L2 L3
open C8 (pss_cut tCut pe_gc)
abbrev sRank : Stmt := top 8
abbrev sInOrder : Stmt := top 9
abbrev sShow : Stmt := top 10
/-! ### rank -/
def rkV : V → Int × Key
  | .non => (0, .inl 0)
  | .int i => (1, .inl i)
  | .str z => (2, .inr z)
  | .bl b => (3, .inl (if b = true then 1 else 0))
  | _ => (4, .inl 0)
def spRank : Sp := fun vs H Q _ => ∃ x : V, vs = [x] ∧ Val x ∧ ∀ p, H p = none → Q (.ref p) (upd H p (.tup [.int (rkV x).1, kV (rkV x).2]))
section
variable {P : Program} {w : World} {K : PySem.W.Frag} {mg : Str → Option Value} {base : Heap}
theorem scRk : FnScope ["value", "kind"] ["value"] (defScope sRank) := ⟨rfl, rfl, rfl, by decide +kernel, rfl, by decide +kernel, by decide +kernel⟩
theorem ok_rank {f fN : Addr} {fd fdN : FuncData} (F : Fun K "rank" "rank" sRank f fd) (T : KitT K) (zInt : mg "int" = none) (GN : FnOk P w K mg base CX0 1 fN fdN ["value"] (spKind K)) (kN : PySem.W.keepIn K (.ref fN) = true) (bN : Binds K fdN ["value"] []) (gN : mg "kind_of" = some (.ref fN)) :
    FnOk P w K mg base CX0 2 f fd ["value"] spRank := by
  refine F.ok scRk (fun vs H Q E h => ?_) (fun cdv A outer s H vs Q E hr h => ?_)
  · obtain ⟨x, rfl, _⟩ := h
    rfl
  · obtain ⟨x, rfl, hx, k⟩ := h
    have nd := scRk.nd
    refine ⟨_, pss_cons (ps_set (i := 1) nd rfl (.inl rfl) (pe_call GN hr (by rfl) gN kN bN .nil pass0 (pa_cons (pv 0) pa_nil)))
      (pss_cons (ps_if (pt_cmpR op_eq (pv 1) pe_str (nomark _)) (pss_one (ps_ret (pe_tup (pa_cons pe_int (pa_cons pe_int pa_nil))))) pss_nil)
      (pss_cons (ps_if (pt_cmpR op_eq (pv 1) pe_str (nomark _)) (pss_one (ps_ret (pe_tup (pa_cons pe_int (pa_cons (pv 0) pa_nil))))) pss_nil)
      (pss_cons (ps_if (pt_cmpR op_eq (pv 1) pe_str (nomark _)) (pss_one (ps_ret (pe_tup (pa_cons pe_int (pa_cons (pv 0) pa_nil))))) pss_nil)
      (pss_one (ps_ret (pe_tup (pa_cons pe_int (pa_cons (pe_callTy call_int1 (by rfl) zInt PyProof.Rows.boot_int (pa_cons (pv 0) pa_nil)) pa_nil)))))))), ?_⟩
    cases hx with
    | non => exact ⟨_, rfl, _, rfl, .inl ⟨rfl, ⟨_, rfl, rfl, _, rfl, ifT (by decide +kernel) ⟨(by show 2 ≤ sizeLine; decide), k⟩⟩⟩⟩
    | int i => exact ⟨_, rfl, _, rfl, .inr ⟨_, _, _, cls_int T i, ⟨_, rfl, rfl, _, rfl, ifF (by decide +kernel) ⟨_, rfl, rfl, _, rfl, ifT (by decide +kernel) ⟨_, rfl, (by show 2 ≤ sizeLine; decide), k⟩⟩⟩⟩⟩
    | str z => exact ⟨_, rfl, _, rfl, .inr ⟨_, _, _, cls_str T z, ⟨_, rfl, rfl, _, rfl, ifF (by decide +kernel) ⟨_, rfl, rfl, _, rfl, ifF (by decide +kernel) ⟨_, rfl, rfl, _, rfl, ifT (by decide +kernel) ⟨_, rfl, (by show 2 ≤ sizeLine; decide), k⟩⟩⟩⟩⟩⟩
    | bl b => exact ⟨_, rfl, _, rfl, .inr ⟨_, _, _, cls_bl T b, ⟨_, rfl, rfl, _, rfl, ifF (by decide +kernel) ⟨_, rfl, rfl, _, rfl, ifF (by decide +kernel) ⟨_, rfl, rfl, _, rfl, ifF (by decide +kernel) ⟨_, rfl, .inr ⟨_, rfl, (by show 2 ≤ sizeLine; decide), k⟩⟩⟩⟩⟩⟩⟩
/-! ### show -/
/-- x is True, x is False: a value -/
theorem op_isB {X : Cx} : OpR X (compareOp .Is) (fun x y H Q => Val x ∧ ∃ b : Bool, y = .bl b ∧ Q (.bl (decide (x = .bl b))) H) := by
  intro pins s σ H x y v u Q I rx ry h
  obtain ⟨hx, b, rfl, q⟩ := h
  cases (show u = Value.bool b from ry)
  have no : v ≠ Value.bool b → PySem.plainIs v (Value.bool b) = true → x ≠ .bl b → wpAny (model X.prog X.w) X.A (compareOp .Is v (Value.bool b)) (EP X pins σ Q) X.xe s := fun e p n => by
    refine wpAny_is_other p e ⟨.bl false, H, I, rfl, ?_⟩
    rw [decide_eq_false n] at q
    exact q
  cases hx with
  | non => cases rx; exact no (fun z => nomatch z) rfl (fun z => nomatch z)
  | int i => obtain ⟨t, rfl⟩ := rx; exact no (fun z => nomatch z) rfl (fun z => nomatch z)
  | str z => obtain ⟨t, rfl⟩ := rx; exact no (fun z => nomatch z) rfl (fun z => nomatch z)
  | bl a =>
    cases (show v = Value.bool a from rx)
    by_cases e : a = b
    · subst e
      refine wpAny_is_self rfl ⟨.bl true, H, I, rfl, ?_⟩
      rw [decide_eq_true rfl] at q
      exact q
    · exact no (fun z => e (Value.bool.inj z)) rfl (fun z => e (V.bl.inj z))
def showS : V → Str
  | .non => Str.ofString "none"
  | .bl b => if b = true then Str.ofString "true" else Str.ofString "false"
  | .str z => Str.ofString "'" ++ z
  | .int i => Str.ofString (toString i)
  | _ => Str.empty
def FineV : V → Prop
  | .int i => i.natAbs.log2 < 1920
  | .str z => z.length ≤ 100000
  | _ => True
def spShow : Sp := fun vs H Q _ => ∃ x : V, vs = [x] ∧ Val x ∧ FineV x ∧ Q (.str (showS x)) H
theorem scSh : FnScope ["value"] ["value"] (defScope sShow) := ⟨rfl, rfl, rfl, by decide +kernel, rfl, by decide +kernel, by decide +kernel⟩
theorem ok_show {f : Addr} {fd : FuncData} (F : Fun K "show" "show" sShow f fd) (T : KitT K) (zIsi : mg "isinstance" = none) (zStr : mg "str" = none) :
    FnOk P w K mg base CX0 1 f fd ["value"] spShow := by
  refine F.ok scSh (fun vs H Q E h => ?_) (fun cdv A outer s H vs Q E hr h => ?_)
  · obtain ⟨x, rfl, _⟩ := h
    rfl
  · obtain ⟨x, rfl, hx, hf, k⟩ := h
    refine ⟨_, pss_cons (ps_if (pt_cmpR op_isN (pv 0) pe_non (nomark _)) (pss_one (ps_ret pe_str)) pss_nil)
      (pss_cons (ps_if (pt_cmpR op_isB (pv 0) pe_bl (nomark _)) (pss_one (ps_ret pe_str)) pss_nil)
      (pss_cons (ps_if (pt_cmpR op_isB (pv 0) pe_bl (nomark _)) (pss_one (ps_ret pe_str)) pss_nil)
      (pss_cons (ps_if (pt_val (pe_callB call_isi (by rfl) zIsi PyProof.Rows.boot_isinstance (pa_cons (pv 0) (pa_cons (pe_bltn (v := .ty "str") (by rfl) zStr PyProof.Rows.boot_str rfl) pa_nil))))
        (pss_one (ps_ret (pe_joined (.cons pe_str (.cons (pe_fmt (pv 0)) .nil))))) pss_nil)
      (pss_one (ps_ret (pe_callTy call_str_int (by rfl) zStr PyProof.Rows.boot_str (pa_cons (pv 0) pa_nil))))))), ?_⟩
    cases hx with
    | non => exact ⟨_, rfl, rfl, _, rfl, ifT rfl k⟩
    | bl b =>
      refine ⟨_, rfl, rfl, _, rfl, ifF rfl ⟨_, rfl, .bl b, _, rfl, _, rfl, ?_⟩⟩
      cases b with
      | true => exact ifT (by decide +kernel) k
      | false => exact ifF (by decide +kernel) ⟨_, rfl, .bl _, _, rfl, _, rfl, ifT (by decide +kernel) k⟩
    | int i =>
      refine ⟨_, rfl, rfl, _, rfl, ifF rfl ⟨_, rfl, .int i, _, rfl, _, rfl, ifF (decide_eq_false fun z => nomatch z) ⟨_, rfl, .int i, _, rfl, _, rfl, ifF (decide_eq_false fun z => nomatch z) ?_⟩⟩⟩
      exact ⟨_, rfl, .int i, .ty "str", .type "int", .type "str", false, rfl, .ty _, .base (.int i), T.is, _, rfl, ifF rfl ⟨_, rfl, _, rfl, hf, k⟩⟩
    | str z =>
      refine ⟨_, rfl, rfl, _, rfl, ifF rfl ⟨_, rfl, .str z, _, rfl, _, rfl, ifF (decide_eq_false fun z => nomatch z) ⟨_, rfl, .str z, _, rfl, _, rfl, ifF (decide_eq_false fun z => nomatch z) ?_⟩⟩⟩
      have hz : z.length ≤ 100000 := hf
      have l1 : (Str.empty ++ Str.ofString "'").length = 1 := by decide +kernel
      refine ⟨_, rfl, .str z, .ty "str", .type "str", .type "str", true, rfl, .ty _, .base (.str z), T.ss, _, rfl, ifT rfl ⟨_, rfl, (by rw [l1]; decide), _, rfl, .inl ⟨_, rfl, size_ok hz, _, rfl, ?_, ?_⟩⟩⟩
      · rw [len_app, l1, sizeLine_eq]
        omega
      · have e : Str.empty ++ Str.ofString "'" ++ z = Str.ofString "'" ++ z := rfl
        exact e ▸ k
end
end R2

namespace R2
open PySem L2 L3
open C8 (pss_cut tCut pe_gc)
/-! ### the order of values -/
def keyL (x : V) : List Key := [.inl (rkV x).1, (rkV x).2]
theorem rk_inj {x y : V} (hx : Val x) (hy : Val y) (e : rkV x = rkV y) : x = y := by
  cases hx <;> cases hy <;> simp [rkV] at e <;> try rfl
  · rename_i a b
    cases a <;> cases b <;> simp at e <;> rfl
  · rw [e]
  · rw [e]
theorem keyL_inj {x y : V} (hx : Val x) (hy : Val y) (e : keyL x = keyL y) : x = y := by
  unfold keyL at e
  injection e with e1 e2
  injection e2 with e2 _
  exact rk_inj hx hy (Prod.ext (Sum.inl.inj e1) e2)
theorem rk_one {x y : V} (hx : Val x) (hy : Val y) : OneKind (rkV x) (rkV y) := by
  intro e
  cases hx <;> cases hy <;> simp [rkV] at e <;> rfl
def ltV (x y : V) : Bool := ltRk (rkV x) (rkV y)
/-- the values of xs in order, each once -/
structure InOrd (zs xs : List V) : Prop where
  up : zs.Pairwise fun x y => ltV x y = true
  mem : ∀ x, x ∈ zs ↔ x ∈ xs
theorem up_uniq {as : List V} : ∀ {bs : List V}, (as.Pairwise fun x y => ltV x y = true) → (bs.Pairwise fun x y => ltV x y = true) → (∀ x, x ∈ as ↔ x ∈ bs) → as = bs := by
  induction as with
  | nil =>
    intro bs _ _ h
    cases bs with
    | nil => rfl
    | cons b s => exact absurd ((h b).mpr List.mem_cons_self) (by simp)
  | cons a r ih =>
    intro bs ha hb h
    cases bs with
    | nil => exact absurd ((h a).mp List.mem_cons_self) (by simp)
    | cons b s =>
      obtain ⟨ha1, ha2⟩ := List.pairwise_cons.mp ha
      obtain ⟨hb1, hb2⟩ := List.pairwise_cons.mp hb
      have irr : ∀ x, ltV x x = false := fun x => ltRk_irr _
      have e : a = b := by
        rcases List.mem_cons.mp ((h a).mp List.mem_cons_self) with e | m
        · exact e
        rcases List.mem_cons.mp ((h b).mpr List.mem_cons_self) with e | m'
        · exact e.symm
        have q := ltRk_tr (hb1 a m) (ha1 b m')
        exact absurd (q.symm.trans (irr b)) (by decide)
      subst e
      congr 1
      refine ih ha2 hb2 fun x => ⟨fun m => ?_, fun m => ?_⟩
      · rcases List.mem_cons.mp ((h x).mp (List.mem_cons_of_mem _ m)) with e | q
        · subst e
          exact absurd ((ha1 x m).symm.trans (irr x)) (by decide)
        · exact q
      · rcases List.mem_cons.mp ((h x).mpr (List.mem_cons_of_mem _ m)) with e | q
        · subst e
          exact absurd ((hb1 x m).symm.trans (irr x)) (by decide)
        · exact q
theorem InOrd.uniq {as bs xs : List V} (h : InOrd as xs) (k : InOrd bs xs) : as = bs := up_uniq h.up k.up fun x => (h.mem x).trans (k.mem x).symm
/-! ### the dict from ranks to values -/
structure InvD (xs : List V) (kvs : List (List Key × V)) : Prop where
  n : (kvs.map (·.1)).Nodup
  m : ∀ p ∈ kvs, Val p.2 ∧ p.1 = keyL p.2 ∧ p.2 ∈ xs
  t : ∀ x ∈ xs, (keyL x, x) ∈ kvs
theorem InvD.nil : InvD [] [] := ⟨.nil, fun p h => (nomatch h), fun x h => (nomatch h)⟩
theorem mem_valV {kvs : List (List Key × V)} {k : List Key} {v : V} (h : valV kvs k = some v) : (k, v) ∈ kvs := by
  unfold valV at h
  cases e : kvs.find? fun kv => decide (kv.1 = k) with
  | none => rw [e] at h; cases h
  | some p =>
    rw [e] at h
    have m := List.mem_of_find?_eq_some e
    have q0 : decide (p.1 = k) = true := List.find?_some (p := fun kv : List Key × V => decide (kv.1 = k)) e
    have q := of_decide_eq_true q0
    cases h
    cases q
    exact m
theorem valV_mem {kvs : List (List Key × V)} {k : List Key} {v : V} (n : (kvs.map (·.1)).Nodup) (h : (k, v) ∈ kvs) : valV kvs k = some v := by
  induction kvs with
  | nil => cases h
  | cons p r ih =>
    rw [List.map_cons] at n
    obtain ⟨n1, n2⟩ := List.nodup_cons.mp n
    rcases List.mem_cons.mp h with e | m
    · subst e
      exact valV_pos rfl
    · have ne : ¬ p.1 = k := fun e => n1 (by rw [e]; exact List.mem_map.mpr ⟨_, m, rfl⟩)
      rw [valV_neg ne]
      exact ih n2 m
theorem InvD.put {xs : List V} {kvs : List (List Key × V)} {x : V} (h : InvD xs kvs) (hx : Val x) : InvD (xs ++ [x]) (putK kvs (keyL x) x) := by
  cases e : valV kvs (keyL x) with
  | none =>
    rw [putK_new x e]
    have no : ¬ keyL x ∈ kvs.map (·.1) := fun m => by
      obtain ⟨p, mp, ep⟩ := List.mem_map.mp m
      have q := valV_mem (k := keyL x) (v := p.2) h.n (by rw [← ep]; exact mp)
      rw [e] at q
      cases q
    refine ⟨?_, fun p m => ?_, fun y m => ?_⟩
    · rw [List.map_append]
      refine List.nodup_append.mpr ⟨h.n, by simp, fun a ha b hb => ?_⟩
      simp at hb
      subst hb
      exact fun z => no (z ▸ ha)
    · rcases List.mem_append.mp m with m | m
      · obtain ⟨a, b, c⟩ := h.m p m
        exact ⟨a, b, List.mem_append_left _ c⟩
      · cases List.mem_singleton.mp m
        exact ⟨hx, rfl, List.mem_append_right _ (List.mem_singleton.mpr rfl)⟩
    · rcases List.mem_append.mp m with m | m
      · exact List.mem_append_left _ (h.t y m)
      · cases List.mem_singleton.mp m
        exact List.mem_append_right _ (List.mem_singleton.mpr rfl)
  | some v =>
    have mv := mem_valV e
    obtain ⟨vv, ek, mx⟩ := h.m _ mv
    obtain rfl : x = v := keyL_inj hx vv ek
    have same : putK kvs (keyL x) x = kvs := by
      unfold putK
      have hany : (kvs.any fun kv => decide (kv.1 = keyL x)) = true := by rw [valV_any, e]; rfl
      rw [if_pos hany]
      have idm : ∀ p ∈ kvs, (if p.1 = keyL x then (p.1, x) else p) = p := fun p mp => by
        split
        · rename_i z
          obtain ⟨a, b, _⟩ := h.m p mp
          have q : p.2 = x := keyL_inj a hx (b.symm.trans z)
          rw [← q]
        · rfl
      exact (List.map_congr_left idm).trans (List.map_id kvs)
    rw [same]
    refine ⟨h.n, fun p m => ?_, fun y m => ?_⟩
    · obtain ⟨a, b, c⟩ := h.m p m
      exact ⟨a, b, List.mem_append_left _ c⟩
    · rcases List.mem_append.mp m with m | m
      · exact h.t y m
      · cases List.mem_singleton.mp m
        exact mv
/-! ### the sorted keys -/
/-- the rank that stands at an address -/
def rdK (H : Hp) : V → Int × Key
  | .ref t => match H t with
    | some (.tup [.int i, .int j]) => (i, .inl j)
    | some (.tup [.int i, .str z]) => (i, .inr z)
    | _ => (0, .inl 0)
  | _ => (0, .inl 0)
theorem rdK_of {H : Hp} {t : Addr} {x : V} (h : H t = some (.tup ((keyL x).map kV))) : rdK H (.ref t) = rkV x := by
  have e : H t = some (.tup [.int (rkV x).1, kV (rkV x).2]) := h
  unfold rdK
  simp only [e]
  generalize rkV x = p
  obtain ⟨i, j | z⟩ := p <;> rfl
theorem keys_nodup {H : Hp} : ∀ {kvs : List (List Key × V)} {bs : List Addr}, IsKeys H kvs bs → (∀ p ∈ kvs, p.1 = keyL p.2) → (bs.map V.ref).map (rdK H) = kvs.map fun p => rkV p.2
  | [], [], _, _ => rfl
  | p :: r, b :: bs, .cons h t, m => by
    rw [List.map_cons, List.map_cons, List.map_cons, keys_nodup t fun p hp => m p (List.mem_cons_of_mem _ hp)]
    congr 1
    have h' : H b = some (.tup (p.1.map kV)) := h
    rw [m p List.mem_cons_self] at h'
    exact rdK_of h'
theorem keys_mem {H : Hp} : ∀ {kvs : List (List Key × V)} {bs : List Addr}, IsKeys H kvs bs → ∀ b ∈ bs, ∃ p ∈ kvs, H b = some (.tup (p.1.map kV))
  | [], [], _, b, m => nomatch m
  | p :: r, c :: bs, .cons h t, b, m => by
    rcases List.mem_cons.mp m with rfl | m
    · exact ⟨p, List.mem_cons_self, h⟩
    · obtain ⟨q, mq, hq⟩ := keys_mem t b m
      exact ⟨q, List.mem_cons_of_mem _ mq, hq⟩
theorem keys_mem' {H : Hp} : ∀ {kvs : List (List Key × V)} {bs : List Addr}, IsKeys H kvs bs → ∀ p ∈ kvs, ∃ b ∈ bs, H b = some (.tup (p.1.map kV))
  | [], [], _, b, m => nomatch m
  | p :: r, c :: bs, .cons h t, q, m => by
    rcases List.mem_cons.mp m with rfl | m
    · exact ⟨c, List.mem_cons_self, h⟩
    · obtain ⟨b, mb, hb⟩ := keys_mem' t q m
      exact ⟨b, List.mem_cons_of_mem _ mb, hb⟩
/-- the value that a key leads to -/
def atK (kvs : List (List Key × V)) (k : Int × Key) : V := (valV kvs [.inl k.1, k.2]).getD .non
theorem sorted_ord {H : Hp} {xs : List V} {kvs : List (List Key × V)} {bs : List Addr} {ys : List V} (h : InvD xs kvs) (hk : IsKeys H kvs bs) (s : SrtO.Srtd (fun x y => ltRk (rdK H x) (rdK H y)) ys) (p : ys.Perm (bs.map V.ref)) :
    InOrd (ys.map fun y => atK kvs (rdK H y)) xs ∧ ∀ y ∈ ys, ∃ b v, y = .ref b ∧ (keyL v, v) ∈ kvs ∧ rdK H y = rkV v ∧ H b = some (.tup ((keyL v).map kV)) := by
  have each : ∀ y ∈ ys, ∃ b v, y = .ref b ∧ (keyL v, v) ∈ kvs ∧ rdK H y = rkV v ∧ H b = some (.tup ((keyL v).map kV)) := fun y m => by
    obtain ⟨b, mb, rfl⟩ := List.mem_map.mp (p.mem_iff.mp m)
    obtain ⟨q, mq, hb⟩ := keys_mem hk b mb
    obtain ⟨_, e, _⟩ := h.m q mq
    obtain ⟨q1, q2⟩ := q
    have e : q1 = keyL q2 := e
    subst e
    exact ⟨b, q2, rfl, mq, rdK_of hb, hb⟩
  have at_ : ∀ v, (keyL v, v) ∈ kvs → atK kvs (rkV v) = v := fun v m => by
    unfold atK
    rw [show ([.inl (rkV v).1, (rkV v).2] : List Key) = keyL v from rfl, valV_mem h.n m]
    rfl
  have nd : (ys.map (rdK H)).Nodup := by
    refine ((p.map (rdK H)).nodup_iff).mpr ?_
    rw [keys_nodup hk fun q m => (h.m q m).2.1]
    have n := h.n
    have e : kvs.map (·.1) = (kvs.map fun p => rkV p.2).map fun k => ([.inl k.1, k.2] : List Key) := by
      rw [List.map_map]
      exact List.map_congr_left fun q m => (h.m q m).2.1
    rw [e] at n
    exact (List.pairwise_map.mp n).imp fun h e => h (congrArg (fun k : Int × Key => ([.inl k.1, k.2] : List Key)) e)
  refine ⟨⟨?_, fun x => ⟨fun m => ?_, fun m => ?_⟩⟩, each⟩
  · rw [List.pairwise_map]
    have nd' := List.pairwise_map.mp nd
    have both := s.and nd'
    refine List.Pairwise.imp_of_mem (fun {a b} ma mb hab => ?_) both
    obtain ⟨_, va, _, ia, ea, _⟩ := each a ma
    obtain ⟨_, vb, _, ib, eb, _⟩ := each b mb
    obtain ⟨h1, h2⟩ := hab
    have h1 : ltRk (rdK H b) (rdK H a) = false := h1
    show ltV (atK kvs (rdK H a)) (atK kvs (rdK H b)) = true
    rw [ea, eb] at h1 h2 ⊢
    rw [at_ va ia, at_ vb ib]
    rcases ltRk_tri (rkV va) (rkV vb) with z | z | z
    · exact z
    · exact absurd z h2
    · rw [z] at h1
      cases h1
  · obtain ⟨y, my, rfl⟩ := List.mem_map.mp m
    obtain ⟨_, v, _, iv, ev, _⟩ := each y my
    show atK kvs (rdK H y) ∈ xs
    rw [ev, at_ v iv]
    exact (h.m _ iv).2.2
  · have i := h.t x m
    obtain ⟨b, mb, hb⟩ := keys_mem' hk _ i
    refine List.mem_map.mpr ⟨.ref b, p.mem_iff.mpr (List.mem_map.mpr ⟨b, mb, rfl⟩), ?_⟩
    show atK kvs (rdK H (.ref b)) = x
    rw [rdK_of (x := x) hb]
    exact at_ x i
end R2

namespace R2
open PySem L2 L3
open C8 (pss_cut tCut pe_gc)
def spInOrder (K : PySem.W.Frag) : Sp := fun vs H Q _ => ∃ (l : Addr) (xs : List V), vs = [.ref l] ∧ (SqL K H l xs ∨ SqT K H l xs) ∧ (∀ x ∈ xs, Val x) ∧ xs.length ≤ 1000 ∧
  ∀ (p : Addr) (zs : List V) (H' : Hp), H p = none → Same H H' → H' p = some (.lst zs) → InOrd zs xs → Q (.ref p) H'
section
variable {P : Program} {w : World} {K : PySem.W.Frag} {mg : Str → Option Value} {base : Heap}
abbrev NO : List Str := ["values", "ranked", "value", "place"]
theorem scIo : FnScope NO ["values"] (defScope sInOrder) := ⟨rfl, rfl, rfl, by decide +kernel, rfl, by decide +kernel, by decide +kernel⟩
theorem ok_inorder {f fR : Addr} {fd fdR : FuncData} (F : Fun K "in_order" "in_order" sInOrder f fd) (zList : mg "list" = none) (zSorted : mg "sorted" = none) (GR : FnOk P w K mg base CX0 2 fR fdR ["value"] spRank) (kR : PySem.W.keepIn K (.ref fR) = true) (bR : Binds K fdR ["value"] []) (gR : mg "rank" = some (.ref fR)) :
    FnOk P w K mg base CX0 3 f fd ["values"] (spInOrder K) := by
  refine F.ok scIo (fun vs H Q E h => ?_) (fun cdv A outer s H vs Q E hr h => ?_)
  · obtain ⟨x, xs, rfl, _⟩ := h
    rfl
  · obtain ⟨l, xs, rfl, hS, hv, hn, k⟩ := h
    have nd := scIo.nd
    have hu := hu_of hr
    rcases hS with hS | hS
    · refine ⟨_, pss_cons (ps_set (i := 1) nd rfl (.inr rfl) (pe_dd (o0 := .dT []) (own := [("value", 2)]) (g := gName 2) (tt := tYes) (.inr rfl) (by exact hr.units0) rfl nd (pi_list (pv 0)) (blkOk_by (N := NO) (sc := defScope sInOrder) (by decide +kernel)) (fun _ _ _ _ _ => pg_name (i := 2) nd rfl (.inl rfl)) (fun _ _ _ _ _ => pts_nil)
          (fun _ _ _ _ _ => pe_call GR hr (by rfl) gR kR bR .nil pass0 (pa_cons (pv 2) pa_nil)) (fun _ _ _ _ _ => pv 2)))
        (pss_one (ps_ret (pe_lc (own := [("place", 3)]) (g := gName 3) (tt := tYes) rfl nd (pi_list (pe_callB cr_sortedRk (by rfl) zSorted (by decide +kernel) (pa_cons (pe_callTy (call_list_dT rfl) (by rfl) zList PyProof.Rows.boot_list (pa_cons (pv 1) pa_nil)) pa_nil)))
          (blkOk_by (N := NO) (sc := defScope sInOrder) (by decide +kernel)) (fun _ _ _ _ _ => pg_name (i := 3) nd rfl (.inl rfl)) (fun _ _ _ _ _ => pts_nil) (fun _ _ _ _ _ => pe_dget hu (pv 1) (pv 3) (fun _ _ => rfl))))), ?_⟩
      refine ⟨_, rfl, l, rfl, ⟨_, hS⟩, fun D hD => dd_it walk_list (fun i H' => ∃ kvs : List (List Key × V), H' D = some (.dT kvs) ∧ InvD (xs.take i) kvs ∧ kvs.length ≤ i ∧ Same H H') ⟨[], upd_same, InvD.nil, Nat.le_refl _, same_new hD⟩ (fun i H' _ ⟨kvs, _, _, _, s⟩ => s.seq hS) ?_ ?_⟩
      · rintro i x H1 H2 hi ⟨kvs, eD, inv, le, s⟩ ⟨rfl, hx⟩
        have vx : Val x := hv x (List.mem_of_getElem? hx)
        refine ⟨rfl, _, rfl, x, rfl, vx, fun p hp => ⟨_, rfl, _, DPut.t (k := keyL x) ((upd_ne (ne_of_none eD hp)).trans eD) upd_same (by have := sizeLine_eq; omega), putK kvs (keyL x) x, upd_same, ?_, Nat.le_trans (length_putK _ _ _) (Nat.succ_le_succ le), ?_⟩⟩
        · rw [List.take_add_one, hx]
          exact inv.put vx
        · refine fun b u e => ?_
          have nb : b ≠ D := fun z => by rw [z, hD] at e; cases e
          rw [upd_ne nb, upd_ne (ne_of_none (s b u e) hp)]
          exact s b u e
      · rintro H1 ⟨kvs, eD, inv, le, s⟩
        rw [List.take_of_length_le (Nat.le_refl _)] at inv
        refine ⟨_, rfl, D, kvs, rfl, Rd.of eD, fun p bs hp hk => ?_⟩
        have ec : ∀ b ∈ bs, ∃ v, (keyL v, v) ∈ kvs ∧ rdK H1 (.ref b) = rkV v ∧ H1 b = some (.tup ((keyL v).map kV)) := fun b mb => by
          obtain ⟨q, mq, hb⟩ := keys_mem hk b mb
          obtain ⟨_, e, _⟩ := inv.m q mq
          obtain ⟨q1, q2⟩ := q
          have e : q1 = keyL q2 := e
          subst e
          exact ⟨q2, mq, rdK_of hb, hb⟩
        refine ⟨p, bs.map V.ref, rdK H1, rfl, SqL.of upd_same, fun x m => ?_, fun x m y m' => ?_, fun ys q s1 s2 hq => ?_⟩
        · obtain ⟨b, mb, rfl⟩ := List.mem_map.mp m
          obtain ⟨v, _, er, hb⟩ := ec b mb
          rw [er]
          exact ⟨b, rfl, (upd_ne (ne_of_none hb hp)).trans hb⟩
        · obtain ⟨b, mb, rfl⟩ := List.mem_map.mp m
          obtain ⟨c, mc, rfl⟩ := List.mem_map.mp m'
          obtain ⟨v, iv, er, _⟩ := ec b mb
          obtain ⟨u, iu, eu, _⟩ := ec c mc
          rw [er, eu]
          exact rk_one (inv.m _ iv).1 (inv.m _ iu).1
        obtain ⟨io, each⟩ := sorted_ord inv hk s1 s2.perm
        have sq : Same H1 (upd (upd H1 p (.lst (bs.map V.ref))) q (.lst ys)) := (same_new hp).trans (same_new hq)
        have lys : ys.length ≤ 1000 := by
          rw [s2.perm.length_eq, List.length_map, ← Paired.length hk]
          omega
        refine ⟨q, rfl, ⟨_, SqL.of upd_same⟩, fun D2 hD2 => lc_list (K := K) (a := q) (xs := ys) (fun j H' => H' D2 = some (.lst ((ys.take j).map fun y => atK kvs (rdK H1 y))) ∧ Same (upd (upd H1 p (.lst (bs.map V.ref))) q (.lst ys)) H') ⟨upd_same, same_new hD2⟩ (fun j H' _ h => SqL.of (h.2 _ _ upd_same)) ?_ ?_⟩
        · rintro j y H3 hy ⟨e2, s3⟩
          obtain ⟨b, v, rfl, iv, er, hb⟩ := each y (List.mem_of_getElem? hy)
          have eb3 := s3 _ _ (sq _ _ hb)
          have eD3 := s3 _ _ (sq _ _ eD)
          have g := DGet.t (k := keyL v) eD3 eb3
          rw [valV_mem inv.n iv] at g
          refine ⟨rfl, _, rfl, _, rfl, D, v, rfl, g, _, e2, ?_, ?_, fun c u e => ?_⟩
          · rw [List.length_map, List.length_take]
            have := sizeLine_eq
            omega
          · rw [upd_same, List.take_add_one, hy, List.map_append]
            have ea : atK kvs (rdK H1 (.ref b)) = v := by
              rw [er]
              unfold atK
              rw [show ([.inl (rkV v).1, (rkV v).2] : List Key) = keyL v from rfl, valV_mem inv.n iv]
              rfl
            show some (HO.lst (_ ++ [v])) = some (HO.lst (_ ++ [atK kvs (rdK H1 (.ref b))]))
            rw [ea]
          · rw [upd_ne (fun z => by rw [z, hD2] at e; cases e)]
            exact s3 _ _ e
        · rintro H3 ⟨e2, s3⟩
          rw [List.take_of_length_le (Nat.le_refl _)] at e2
          have st := (s.trans sq).trans s3
          exact k D2 _ H3 ((s.trans sq).free hD2) st e2 io
    · refine ⟨_, pss_cons (ps_set (i := 1) nd rfl (.inr rfl) (pe_dd (o0 := .dT []) (own := [("value", 2)]) (g := gName 2) (tt := tYes) (.inr rfl) (by exact hr.units0) rfl nd (pi_tup (pv 0)) (blkOk_by (N := NO) (sc := defScope sInOrder) (by decide +kernel)) (fun _ _ _ _ _ => pg_name (i := 2) nd rfl (.inl rfl)) (fun _ _ _ _ _ => pts_nil)
          (fun _ _ _ _ _ => pe_call GR hr (by rfl) gR kR bR .nil pass0 (pa_cons (pv 2) pa_nil)) (fun _ _ _ _ _ => pv 2)))
        (pss_one (ps_ret (pe_lc (own := [("place", 3)]) (g := gName 3) (tt := tYes) rfl nd (pi_list (pe_callB cr_sortedRk (by rfl) zSorted (by decide +kernel) (pa_cons (pe_callTy (call_list_dT rfl) (by rfl) zList PyProof.Rows.boot_list (pa_cons (pv 1) pa_nil)) pa_nil)))
          (blkOk_by (N := NO) (sc := defScope sInOrder) (by decide +kernel)) (fun _ _ _ _ _ => pg_name (i := 3) nd rfl (.inl rfl)) (fun _ _ _ _ _ => pts_nil) (fun _ _ _ _ _ => pe_dget hu (pv 1) (pv 3) (fun _ _ => rfl))))), ?_⟩
      refine ⟨_, rfl, l, rfl, ⟨_, hS⟩, fun D hD => dd_it walk_tup (fun i H' => ∃ kvs : List (List Key × V), H' D = some (.dT kvs) ∧ InvD (xs.take i) kvs ∧ kvs.length ≤ i ∧ Same H H') ⟨[], upd_same, InvD.nil, Nat.le_refl _, same_new hD⟩ (fun i H' _ ⟨kvs, _, _, _, s⟩ => Same.seqT s hS) ?_ ?_⟩
      · rintro i x H1 H2 hi ⟨kvs, eD, inv, le, s⟩ ⟨rfl, hx⟩
        have vx : Val x := hv x (List.mem_of_getElem? hx)
        refine ⟨rfl, _, rfl, x, rfl, vx, fun p hp => ⟨_, rfl, _, DPut.t (k := keyL x) ((upd_ne (ne_of_none eD hp)).trans eD) upd_same (by have := sizeLine_eq; omega), putK kvs (keyL x) x, upd_same, ?_, Nat.le_trans (length_putK _ _ _) (Nat.succ_le_succ le), ?_⟩⟩
        · rw [List.take_add_one, hx]
          exact inv.put vx
        · refine fun b u e => ?_
          have nb : b ≠ D := fun z => by rw [z, hD] at e; cases e
          rw [upd_ne nb, upd_ne (ne_of_none (s b u e) hp)]
          exact s b u e
      · rintro H1 ⟨kvs, eD, inv, le, s⟩
        rw [List.take_of_length_le (Nat.le_refl _)] at inv
        refine ⟨_, rfl, D, kvs, rfl, Rd.of eD, fun p bs hp hk => ?_⟩
        have ec : ∀ b ∈ bs, ∃ v, (keyL v, v) ∈ kvs ∧ rdK H1 (.ref b) = rkV v ∧ H1 b = some (.tup ((keyL v).map kV)) := fun b mb => by
          obtain ⟨q, mq, hb⟩ := keys_mem hk b mb
          obtain ⟨_, e, _⟩ := inv.m q mq
          obtain ⟨q1, q2⟩ := q
          have e : q1 = keyL q2 := e
          subst e
          exact ⟨q2, mq, rdK_of hb, hb⟩
        refine ⟨p, bs.map V.ref, rdK H1, rfl, SqL.of upd_same, fun x m => ?_, fun x m y m' => ?_, fun ys q s1 s2 hq => ?_⟩
        · obtain ⟨b, mb, rfl⟩ := List.mem_map.mp m
          obtain ⟨v, _, er, hb⟩ := ec b mb
          rw [er]
          exact ⟨b, rfl, (upd_ne (ne_of_none hb hp)).trans hb⟩
        · obtain ⟨b, mb, rfl⟩ := List.mem_map.mp m
          obtain ⟨c, mc, rfl⟩ := List.mem_map.mp m'
          obtain ⟨v, iv, er, _⟩ := ec b mb
          obtain ⟨u, iu, eu, _⟩ := ec c mc
          rw [er, eu]
          exact rk_one (inv.m _ iv).1 (inv.m _ iu).1
        obtain ⟨io, each⟩ := sorted_ord inv hk s1 s2.perm
        have sq : Same H1 (upd (upd H1 p (.lst (bs.map V.ref))) q (.lst ys)) := (same_new hp).trans (same_new hq)
        have lys : ys.length ≤ 1000 := by
          rw [s2.perm.length_eq, List.length_map, ← Paired.length hk]
          omega
        refine ⟨q, rfl, ⟨_, SqL.of upd_same⟩, fun D2 hD2 => lc_list (K := K) (a := q) (xs := ys) (fun j H' => H' D2 = some (.lst ((ys.take j).map fun y => atK kvs (rdK H1 y))) ∧ Same (upd (upd H1 p (.lst (bs.map V.ref))) q (.lst ys)) H') ⟨upd_same, same_new hD2⟩ (fun j H' _ h => SqL.of (h.2 _ _ upd_same)) ?_ ?_⟩
        · rintro j y H3 hy ⟨e2, s3⟩
          obtain ⟨b, v, rfl, iv, er, hb⟩ := each y (List.mem_of_getElem? hy)
          have eb3 := s3 _ _ (sq _ _ hb)
          have eD3 := s3 _ _ (sq _ _ eD)
          have g := DGet.t (k := keyL v) eD3 eb3
          rw [valV_mem inv.n iv] at g
          refine ⟨rfl, _, rfl, _, rfl, D, v, rfl, g, _, e2, ?_, ?_, fun c u e => ?_⟩
          · rw [List.length_map, List.length_take]
            have := sizeLine_eq
            omega
          · rw [upd_same, List.take_add_one, hy, List.map_append]
            have ea : atK kvs (rdK H1 (.ref b)) = v := by
              rw [er]
              unfold atK
              rw [show ([.inl (rkV v).1, (rkV v).2] : List Key) = keyL v from rfl, valV_mem inv.n iv]
              rfl
            show some (HO.lst (_ ++ [v])) = some (HO.lst (_ ++ [atK kvs (rdK H1 (.ref b))]))
            rw [ea]
          · rw [upd_ne (fun z => by rw [z, hD2] at e; cases e)]
            exact s3 _ _ e
        · rintro H3 ⟨e2, s3⟩
          rw [List.take_of_length_le (Nat.le_refl _)] at e2
          have st := (s.trans sq).trans s3
          exact k D2 _ H3 ((s.trans sq).free hD2) st e2 io
end
end R2

namespace R2
open PySem L2 L3
open C8 (pss_cut tCut pe_gc)
abbrev sValue : Stmt := top 16
abbrev sSame : Stmt := top 17
abbrev sNamed : Stmt := top 18
abbrev sThing : Stmt := top 19
abbrev sRank2 : Stmt := top 20
abbrev sText : Stmt := top 21
abbrev sLaw : Stmt := top 22
/-! ### drawn values and their texts -/
def dV : V → PyData
  | .bl b => .bool b
  | .int i => .int i
  | .str z => .str z
  | _ => .none
theorem dp_val {K : PySem.W.Frag} {H : Hp} {x : V} (h : Val x) : Dp K H x (dV x) := by
  cases h with
  | non => exact .non
  | bl b => exact .bl b
  | int i => exact .int i
  | str z => exact .str z
def words : List Str := [Str.ofString "a", Str.ofString "b7", Str.ofString "none", Str.ofString "truth", Str.ofString "zzzzzz", Str.ofString "card", Str.ofString "care", Str.ofString "aa", Str.ofString "b"]
def rest : List V := [.non, .bl true, .bl false] ++ words.map V.str
def GV (x : V) : Prop := (∃ i : Int, x = .int i ∧ i.natAbs < 2 ^ 64) ∨ x ∈ rest
theorem nat_repr_inj {a b : Int} (h : Str.ofString (toString a) = Str.ofString (toString b)) : a = b := by
  have h2 := congrArg (fun z : Str => z.cps.toList) h
  simp only [PyProof.Rows.signs_ofString] at h2
  have h3 : (toString a).toList = (toString b).toList := (List.map_inj_right (fun x y e => Char.ext (UInt32.toNat_inj.mp e))).mp h2
  exact Int.repr_injective (String.toList_inj.mp h3)
theorem rest_tab : rest.all (fun x => rest.all (fun y => decide (x = y) || !decide (rtext (dV x) = rtext (dV y)))) = true := by decide +kernel
theorem rest_odd : rest.all (fun x => (rtext (dV x)).cps.toList.any fun c => !decide (c = 45) && (decide (c < 48) || decide (57 < c))) = true := by decide +kernel
theorem int_rest {i : Int} {x : V} (h : x ∈ rest) : rtext (dV (.int i)) ≠ rtext (dV x) := by
  intro e
  have q := List.all_eq_true.mp rest_odd x h
  obtain ⟨c, mc, hc⟩ := List.any_eq_true.mp q
  rw [← e] at mc
  have hc2 : c ≠ 45 ∧ (c < 48 ∨ 57 < c) := by simpa using hc
  exact PyProof.Rows.int_text_free' c hc2 i mc
theorem text_inj {x y : V} (hx : GV x) (hy : GV y) (e : rtext (dV x) = rtext (dV y)) : x = y := by
  rcases hx with ⟨i, rfl, _⟩ | hx
  · rcases hy with ⟨j, rfl, _⟩ | hy
    · exact congrArg V.int (nat_repr_inj e)
    · exact (int_rest hy e).elim
  · rcases hy with ⟨j, rfl, _⟩ | hy
    · exact (int_rest hx e.symm).elim
    · have q := List.all_eq_true.mp (List.all_eq_true.mp rest_tab x hx) y hy
      simpa [e] using q
theorem text_iff {x y : V} (hx : GV x) (hy : GV y) : decide (V.str (rtext (dV x)) = V.str (rtext (dV y))) = decide (x = y) := by
  by_cases e : x = y
  · subst e
    rw [decide_eq_true rfl, decide_eq_true rfl]
  · rw [decide_eq_false e, decide_eq_false fun z => e (text_inj hx hy (V.str.inj z))]
def valB : V → Bool
  | .non => true
  | .bl _ => true
  | .int _ => true
  | .str z => decide ((reprText z).length ≤ 100) && decide (z.length ≤ 100)
  | _ => false
theorem rest_val : rest.all valB = true := by decide +kernel
theorem log_small {i : Int} (h : i.natAbs < 2 ^ 64) : i.natAbs.log2 < 1920 := (show Sm 64 i from h).log (by decide) (by decide)
theorem GV.val {x : V} (h : GV x) : Val x := by
  rcases h with ⟨i, rfl, _⟩ | h
  · exact .int i
  · have q := List.all_eq_true.mp rest_val x h
    cases x <;> first
      | exact .non
      | exact .bl _
      | exact .int _
      | exact .str _
      | (exact absurd q (by simp [valB]))
theorem GV.fineV {x : V} (h : GV x) : FineV x := by
  rcases h with ⟨i, rfl, hi⟩ | h
  · exact log_small hi
  · have q := List.all_eq_true.mp rest_val x h
    cases x with
    | int i => exact absurd h (by simp [rest])
    | str z =>
      have q2 := of_decide_eq_true (Bool.and_eq_true_iff.mp q).2
      exact Nat.le_trans q2 (by decide)
    | _ => exact True.intro
theorem GV.fine {x : V} (h : GV x) : Fine (dV x) := by
  rcases h with ⟨i, rfl, hi⟩ | h
  · exact log_small hi
  · have q := List.all_eq_true.mp rest_val x h
    cases x with
    | int i => exact absurd h (by simp [rest])
    | str z =>
      have q2 := of_decide_eq_true (Bool.and_eq_true_iff.mp q).1
      exact Nat.le_trans q2 (by decide)
    | _ => exact True.intro
def spValue : Sp := fun vs H Q _ => ∃ a : Addr, vs = [.ref a] ∧ FeedAt H a ∧ ∀ (x : V) (H' : Hp), GV x → Dr a H H' → Q x H'
section
variable {P : Program} {w : World} {K : PySem.W.Frag} {mg : Str → Option Value} {base : Heap}
theorem scVl : FnScope ["_law_feed_here", "_law_great", "_law_some"] ["_law_feed_here"] (defScope sValue) := ⟨rfl, rfl, rfl, by decide +kernel, rfl, by decide +kernel, by decide +kernel⟩
theorem ok_value {f fT : Addr} {fd fdT : FuncData} (F : Fun K "_law_value" "_law_value" sValue f fd) (FT : Fun K "_law_take" "_law_take" sTake fT fdT) (bT : Binds K fdT ["_law_feed_here", "_law_many"] []) (gT : mg "_law_take" = some (.ref fT)) :
    FnOk P w K mg base CX0 2 f fd ["_law_feed_here"] spValue := by
  have GT : FnOk P w K mg base CX0 1 fT fdT ["_law_feed_here", "_law_many"] spTake := ok_take FT
  refine F.ok scVl (fun vs H Q E h => ?_) (fun cdv A outer s H vs Q E hr h => ?_)
  · obtain ⟨a, rfl, _⟩ := h
    rfl
  · obtain ⟨a, rfl, hf, k⟩ := h
    have nd := scVl.nd
    refine ⟨_, pss_cons (ps_set (i := 1) nd rfl (.inl rfl) (pe_call GT hr (by rfl) gT FT.kp bT .nil pass0 (pa_cons (pv 0) (pa_cons (pe_op op_pow pe_int pe_int) pa_nil))))
      (pss_cons (ps_set (i := 2) nd rfl (.inl rfl) (pe_lst (pa_cons pe_non (pa_cons (pe_call GT hr (by rfl) gT FT.kp bT .nil pass0 (pa_cons (pv 0) (pa_cons pe_int pa_nil))) (pa_cons (pe_op op_sub pe_int (pe_call GT hr (by rfl) gT FT.kp bT .nil pass0 (pa_cons (pv 0) (pa_cons pe_int pa_nil))))
          (pa_cons (pv 1) (pa_cons (pe_op op_sub pe_int (pv 1)) (pa_cons pe_bl (pa_cons pe_bl pa_nil)))))))))
      (pss_one (ps_ret (pe_ix ix_list (pe_op op_cat (pv 2) (pe_lst (pa_cons pe_str (pa_cons pe_str (pa_cons pe_str (pa_cons pe_str (pa_cons pe_str (pa_cons pe_str (pa_cons pe_str (pa_cons pe_str (pa_cons pe_str pa_nil)))))))))))
        (pe_call GT hr (by rfl) gT FT.kp bT .nil pass0 (pa_cons (pv 0) (pa_cons pe_int pa_nil))) (fun _ _ => rfl))))), ?_⟩
    refine ⟨_, rfl, _, _, rfl, rfl, ⟨by decide, by decide, by decide⟩, a, _, rfl, hf, (by decide), (by decide), fun g H1 g0 g1 d1 => ?_⟩
    refine ⟨_, rfl, a, 4, rfl, d1.fd, (by decide), (by decide), fun r2 H2 r20 r21 d2 => ?_⟩
    refine ⟨_, rfl, a, 30, rfl, d2.fd, (by decide), (by decide), fun r3 H3 r30 r31 d3 => ⟨_, _, rfl, rfl, _, rfl, _, rfl, _, _, rfl, rfl, (by show 7 ≤ sizeLine; decide), fun l hl => ?_⟩⟩
    have d13 := (d1.trans d2).trans d3
    have d4 := dr_same d13 (same_new (o := .lst [.non, .int r2, .int (0 - r3), .int g, .int (0 - g), .bl true, .bl false]) hl)
    refine ⟨_, rfl, (by show 9 ≤ sizeLine; decide), fun l2 hl2 => ?_⟩
    have e1 : (upd (upd H3 l (.lst [.non, .int r2, .int (0 - r3), .int g, .int (0 - g), .bl true, .bl false])) l2 (.lst (words.map V.str))) l = some (.lst [.non, .int r2, .int (0 - r3), .int g, .int (0 - g), .bl true, .bl false]) := same_new hl2 _ _ upd_same
    have d5 := dr_same d4 (same_new (o := .lst (words.map V.str)) hl2)
    refine ⟨l, l2, _, _, rfl, rfl, e1, upd_same, (by show 16 ≤ sizeLine; decide), fun l3 hl3 => ?_⟩
    have d6 := dr_same d5 (same_new (o := .lst ([.non, .int r2, .int (0 - r3), .int g, .int (0 - g), .bl true, .bl false] ++ words.map V.str)) hl3)
    refine ⟨_, rfl, a, 16, rfl, d6.fd, (by decide), (by decide), fun r7 H7 r70 r71 d7 => ?_⟩
    have n3 : l3 ≠ a := by
      obtain ⟨x, y, hx, _⟩ := d5.fd
      exact (ne_of_none hx hl3).symm
    have e7 := d7.sm _ _ n3 upd_same
    obtain ⟨n, rfl⟩ : ∃ n : Nat, r7 = n := ⟨r7.toNat, by omega⟩
    have hn : n < ([.non, .int r2, .int (0 - r3), .int g, .int (0 - g), .bl true, .bl false] ++ words.map V.str : List V).length := by
      show n < 16
      omega
    refine ⟨l3, _, _, _, rfl, rfl, SqL.of e7, atI_nat (List.getElem?_eq_getElem hn), k _ _ ?_ (d6.trans d7)⟩
    have e18 : (10 : Int) ^ (18 : Int).toNat = 1000000000000000000 := by decide +kernel
    rw [e18] at g1
    have mem := List.getElem_mem hn
    generalize ([.non, .int r2, .int (0 - r3), .int g, .int (0 - g), .bl true, .bl false] ++ words.map V.str : List V)[n] = x at mem
    rcases List.mem_append.mp mem with m | m
    · simp only [List.mem_cons, List.not_mem_nil, or_false] at m
      rcases m with rfl | rfl | rfl | rfl | rfl | rfl | rfl
      · exact .inr (by simp [rest])
      · exact .inl ⟨_, rfl, by omega⟩
      · exact .inl ⟨_, rfl, by omega⟩
      · exact .inl ⟨_, rfl, by omega⟩
      · exact .inl ⟨_, rfl, by omega⟩
      · exact .inr (by simp [rest])
      · exact .inr (by simp [rest])
    · exact .inr (List.mem_append_right _ m)
theorem scSm : FnScope ["_law_one", "_law_other"] ["_law_one", "_law_other"] (defScope sSame) := ⟨rfl, rfl, rfl, by decide +kernel, rfl, by decide +kernel, by decide +kernel⟩
theorem ok_same {f : Addr} {fd : FuncData} (F : Fun K "_law_same" "_law_same" sSame f fd) (zRepr : mg "repr" = none) : FnG P w K mg base CX0 1 f fd ["_law_one", "_law_other"] (spSame K) := by
  refine gok F scSm (fun vs H Q E h => ?_) (fun cdv A outer s H vs Q E g hr h => ?_)
  · obtain ⟨x, y, d, e, rfl, _⟩ := h
    rfl
  · obtain ⟨x, y, d, e, rfl, h1, h2, f1, f2, k⟩ := h
    have hu := hr.units
    refine ⟨_, pss_one (ps_ret (pe_cmpR op_eq (pe_callB (call_repr g hu) (by rfl) zRepr PyProof.Rows.boot_repr (pa_cons (pv 0) pa_nil)) (pe_callB (call_repr g hu) (by rfl) zRepr PyProof.Rows.boot_repr (pa_cons (pv 1) pa_nil)) (nomark _))), ?_⟩
    exact ⟨_, rfl, _, d, rfl, h1, f1, _, rfl, _, e, rfl, h2, f2, rfl, k⟩
/-! ### the law's own rank and text -/
def rkT : V → Int × Int × Str
  | .non => (0, 0, Str.ofString "")
  | .bl b => (3, if b = true then 1 else 0, Str.ofString "")
  | .str z => (2, 0, z)
  | .int i => (1, i, Str.ofString "")
  | _ => (0, 0, Str.ofString "")
def tupT (x : V) : List V := [.int (rkT x).1, .int (rkT x).2.1, .str (rkT x).2.2]
def spRank2 : Sp := fun vs H Q _ => ∃ x : V, vs = [x] ∧ Val x ∧ ∀ p, H p = none → Q (.ref p) (upd H p (.tup (tupT x)))
theorem scR2 : FnScope ["_law_value_here"] ["_law_value_here"] (defScope sRank2) := ⟨rfl, rfl, rfl, by decide +kernel, rfl, by decide +kernel, by decide +kernel⟩
theorem ok_rank2 {f : Addr} {fd : FuncData} (F : Fun K "_law_rank" "_law_rank" sRank2 f fd) (T : KitT K) (zIsi : mg "isinstance" = none) (zStr : mg "str" = none) (zBool : mg "bool" = none) (zInt : mg "int" = none) : FnOk P w K mg base CX0 1 f fd ["_law_value_here"] spRank2 := by
  refine F.ok scR2 (fun vs H Q E h => ?_) (fun cdv A outer s H vs Q E hr h => ?_)
  · obtain ⟨x, rfl, _⟩ := h
    rfl
  · obtain ⟨x, rfl, hx, k⟩ := h
    refine ⟨_, pss_cons (ps_if (pt_cmpR op_isN (pv 0) pe_non (nomark _)) (pss_one (ps_ret (pe_tup (pa_cons pe_int (pa_cons pe_int (pa_cons pe_str pa_nil)))))) pss_nil)
      (pss_cons (ps_if (pt_val (pe_callB call_isi (by rfl) zIsi PyProof.Rows.boot_isinstance (pa_cons (pv 0) (pa_cons (pe_bltn (v := .ty "bool") (by rfl) zBool PyProof.Rows.boot_bool rfl) pa_nil)))) (pss_one (ps_ret (pe_tup (pa_cons pe_int (pa_cons (pe_callTy call_int1 (by rfl) zInt PyProof.Rows.boot_int (pa_cons (pv 0) pa_nil)) (pa_cons pe_str pa_nil)))))) pss_nil)
      (pss_one (ps_ret (pe_ifExp (pt_val (pe_callB call_isi (by rfl) zIsi PyProof.Rows.boot_isinstance (pa_cons (pv 0) (pa_cons (pe_bltn (v := .ty "str") (by rfl) zStr PyProof.Rows.boot_str rfl) pa_nil))))
        (pe_tup (pa_cons pe_int (pa_cons pe_int (pa_cons (pv 0) pa_nil)))) (pe_tup (pa_cons pe_int (pa_cons (pv 0) (pa_cons pe_str pa_nil)))))))), ?_⟩
    have s3 : 3 ≤ sizeLine := by decide
    cases hx with
    | non => exact ⟨_, rfl, rfl, _, rfl, ifT rfl ⟨s3, k⟩⟩
    | bl b => exact ⟨_, rfl, rfl, _, rfl, ifF rfl ⟨_, rfl, _, .ty "bool", .type "bool", .type "bool", true, rfl, .ty _, .base (.bl b), T.bb, _, rfl, ifT rfl ⟨_, rfl, .inr ⟨_, rfl, s3, k⟩⟩⟩⟩
    | int i => exact ⟨_, rfl, rfl, _, rfl, ifF rfl ⟨_, rfl, _, .ty "bool", .type "int", .type "bool", false, rfl, .ty _, .base (.int i), T.ib, _, rfl, ifF rfl ⟨_, rfl, _, .ty "str", .type "int", .type "str", false, rfl, .ty _, .base (.int i), T.is, _, rfl, iteF ⟨_, rfl, s3, k⟩⟩⟩⟩
    | str z => exact ⟨_, rfl, rfl, _, rfl, ifF rfl ⟨_, rfl, _, .ty "bool", .type "str", .type "bool", false, rfl, .ty _, .base (.str z), T.sb, _, rfl, ifF rfl ⟨_, rfl, _, .ty "str", .type "str", .type "str", true, rfl, .ty _, .base (.str z), T.ss, _, rfl, iteT ⟨_, rfl, s3, k⟩⟩⟩⟩
def spText : Sp := fun vs H Q _ => ∃ x : V, vs = [x] ∧ Val x ∧ FineV x ∧ ∀ H', Same H H' → Q (.str (showS x)) H'
theorem scTx : FnScope ["_law_value_here"] ["_law_value_here"] (defScope sText) := ⟨rfl, rfl, rfl, by decide +kernel, rfl, by decide +kernel, by decide +kernel⟩
theorem ok_text {f : Addr} {fd : FuncData} (F : Fun K "_law_text" "_law_text" sText f fd) (T : KitT K) (zIsi : mg "isinstance" = none) (zStr : mg "str" = none) (zBool : mg "bool" = none) (zInt : mg "int" = none) : FnOk P w K mg base CX0 1 f fd ["_law_value_here"] spText := by
  refine F.ok scTx (fun vs H Q E h => ?_) (fun cdv A outer s H vs Q E hr h => ?_)
  · obtain ⟨x, rfl, _⟩ := h
    rfl
  · obtain ⟨x, rfl, hx, hf, k⟩ := h
    refine ⟨_, pss_cons (ps_if (PW.pt (pw_or (pt_cmpR op_isN (pv 0) pe_non (nomark _)) (pw_or1 (pt_val (pe_callB call_isi (by rfl) zIsi PyProof.Rows.boot_isinstance (pa_cons (pv 0) (pa_cons (pe_bltn (v := .ty "bool") (by rfl) zBool PyProof.Rows.boot_bool rfl) pa_nil)))))))
        (pss_one (ps_ret (pe_ix ix_list (pe_lst (pa_cons pe_str (pa_cons pe_str (pa_cons pe_str pa_nil)))) (pe_ifExp (pt_cmpR op_isN (pv 0) pe_non (nomark _)) pe_int (pe_op op_add pe_int (pe_callTy call_int1 (by rfl) zInt PyProof.Rows.boot_int (pa_cons (pv 0) pa_nil)))) (fun _ _ => rfl)))) pss_nil)
      (pss_one (ps_ret (pe_ifExp (pt_val (pe_callB call_isi (by rfl) zIsi PyProof.Rows.boot_isinstance (pa_cons (pv 0) (pa_cons (pe_bltn (v := .ty "str") (by rfl) zStr PyProof.Rows.boot_str rfl) pa_nil))))
        (pe_op op_add_str pe_str (pv 0)) (pe_callTy call_str_int (by rfl) zStr PyProof.Rows.boot_str (pa_cons (pv 0) pa_nil))))), ?_⟩
    have s3 : 3 ≤ sizeLine := by decide
    cases hx with
    | non =>
      refine ⟨_, rfl, rfl, _, rfl, iteT (ifT rfl ⟨s3, fun l hl => ⟨_, rfl, rfl, _, rfl, iteT ⟨l, _, _, _, rfl, rfl, SqL.of upd_same, atN (j := 0) rfl rfl, k _ (same_new hl)⟩⟩⟩)⟩
    | bl b =>
      refine ⟨_, rfl, rfl, _, rfl, iteF ⟨_, rfl, _, .ty "bool", .type "bool", .type "bool", true, rfl, .ty _, .base (.bl b), T.bb, _, rfl, ifT rfl ⟨s3, fun l hl => ⟨_, rfl, rfl, _, rfl, iteF ⟨_, rfl, .inr ⟨_, rfl, _, _, rfl, rfl, ?_⟩⟩⟩⟩⟩⟩
      cases b with
      | true => exact ⟨l, _, _, _, rfl, rfl, SqL.of upd_same, atN (j := 2) rfl rfl, k _ (same_new hl)⟩
      | false => exact ⟨l, _, _, _, rfl, rfl, SqL.of upd_same, atN (j := 1) rfl rfl, k _ (same_new hl)⟩
    | int i =>
      refine ⟨_, rfl, rfl, _, rfl, iteF ⟨_, rfl, _, .ty "bool", .type "int", .type "bool", false, rfl, .ty _, .base (.int i), T.ib, _, rfl, ifF rfl ⟨_, rfl, _, .ty "str", .type "int", .type "str", false, rfl, .ty _, .base (.int i), T.is, _, rfl, iteF ⟨_, rfl, _, rfl, hf, k _ (Same.refl H)⟩⟩⟩⟩
    | str z =>
      have hz : z.length ≤ 100000 := hf
      have l1 : (Str.ofString "'").length = 1 := by decide +kernel
      refine ⟨_, rfl, rfl, _, rfl, iteF ⟨_, rfl, _, .ty "bool", .type "str", .type "bool", false, rfl, .ty _, .base (.str z), T.sb, _, rfl, ifF rfl ⟨_, rfl, _, .ty "str", .type "str", .type "str", true, rfl, .ty _, .base (.str z), T.ss, _, rfl, iteT ⟨_, rfl, _, _, rfl, rfl, ?_, k _ (Same.refl H)⟩⟩⟩⟩
      rw [l1, sizeLine_eq]
      omega
end
end R2

namespace R2
open PySem L2 L3
open C8 (pss_cut tCut pe_gc)
/-! ### _law_named -/
theorem dpAll_ints {K : PySem.W.Frag} {H : Hp} : ∀ ns : List Int, DpAll K H (ns.map V.int) (ns.map PyData.int)
  | [] => .nil
  | n :: ns => .cons (.int n) (dpAll_ints ns)
theorem eqv_ints (ns : List Int) : PyData.eqv (.list (ns.map PyData.int)) (.list []) = ns.isEmpty := by
  cases ns <;> rfl
theorem signs_in (c : Nat) : decide (c ∈ signs.cps.toList) = signB c := by
  have e : signs.cps.toList = letters.cps.toList ++ digits.cps.toList := by decide +kernel
  unfold signB
  rw [e]
  by_cases h1 : c ∈ letters.cps.toList <;> by_cases h2 : c ∈ digits.cps.toList <;> simp [h1, h2]
theorem cut_letters : cutS signs none (some 26) = letters := by decide +kernel
theorem bad_take {l : List Nat} {i c : Nat} (h : l[i]? = some c) : (((l.take (i + 1)).filter fun c => !signB c).map fun _ => (1 : Int)) = ((l.take i).filter fun c => !signB c).map (fun _ => (1 : Int)) ++ if signB c = true then [] else [1] := by
  rw [List.take_add_one, h, List.filter_append, List.map_append]
  congr 1
  cases e : signB c <;> simp [e]
section
variable {P : Program} {w : World} {K : PySem.W.Frag} {mg : Str → Option Value} {base : Heap}
abbrev NM : List Str := ["_law_value_here", "_law_signs", "_law_sign"]
theorem scNm : FnScope NM ["_law_value_here"] (defScope sNamed) := ⟨rfl, rfl, rfl, by decide +kernel, rfl, by decide +kernel, by decide +kernel⟩
theorem ok_named {f : Addr} {fd : FuncData} (F : Fun K "_law_named" "_law_named" sNamed f fd) (zIsi : mg "isinstance" = none) (zStr : mg "str" = none) (zLen : mg "len" = none) (kS : PySem.W.kitOne K (.type "str") (.type "str") = some true) : FnOk P w K mg base CX0 1 f fd ["_law_value_here"] (spIsName K) := by
  refine F.ok scNm (fun vs H Q E h => ?_) (fun cdv A outer s H vs Q E hr h => ?_)
  · obtain ⟨x, rfl, _⟩ := h
    rfl
  · obtain ⟨x, rfl, h⟩ := h
    have nd := scNm.nd
    refine ⟨_, pss_cons (ps_set (i := 1) nd rfl (.inr rfl) pe_str)
      (pss_cons (ps_if (PW.pt (pw_or (pt_not (pt_val (pe_callB call_isi (by rfl) zIsi PyProof.Rows.boot_isinstance (pa_cons (pv 0) (pa_cons (pe_bltn (v := .ty "str") (by rfl) zStr PyProof.Rows.boot_str rfl) pa_nil)))))
        (pw_or (pt_not (pt_chain op_le op_le pe_int (pe_callB call_len (by rfl) zLen PySem.boot_len (pa_cons (pv 0) pa_nil)) pe_int))
        (pw_or1 (pt_cmpR op_notIn_sign (pe_ix ix_str (pv 0) pe_int (fun _ _ => rfl)) (pe_slice sl_str (pv 1) po_none (po_some pe_int)) (by rfl)))))) (pss_one (ps_ret pe_bl)) pss_nil)
      (pss_one (ps_ret (pe_cmpR (op_eqD hr.units) (pe_lc (own := [("_law_sign", 2)]) (g := gName 2) rfl nd (pi_str (pv 0)) (blkOk_by (N := NM) (sc := defScope sNamed) (by decide +kernel)) (fun _ _ _ _ _ => pg_name (i := 2) nd rfl (.inl rfl))
        (fun _ _ _ _ _ => pts_one (pt_cmpR op_notIn_sign (pv 2) (pv 1) (by rfl))) (fun _ _ _ _ _ => pe_int)) (pe_lst pa_nil) (nomark _))))), ?_⟩
    rcases h with ⟨z, rfl, hz, k⟩ | ⟨t, ty, kt, k⟩
    · have hsz : z.length ≤ sizeLine := size_ok hz
      have hl : z.cps.toList.length = z.length := Array.length_toList
      refine ⟨_, rfl, .str z, .ty "str", .type "str", .type "str", true, rfl, .ty _, .base (.str z), kS, _, rfl, iteF ?_⟩
      refine ⟨_, rfl, _, _, rfl, ⟨hsz, rfl⟩, _, _, rfl, rfl, _, rfl, ?_⟩
      by_cases h1 : (1 : Int) ≤ (z.length : Int)
      · refine ifT (decide_eq_true h1) ⟨_, _, rfl, rfl, _, rfl, ?_⟩
        by_cases h6 : (z.length : Int) ≤ 6
        · refine ifF (by rw [decide_eq_true h6]; rfl) ?_
          have hpos : 0 < z.cps.toList.length := by omega
          obtain ⟨c, r, hcr⟩ : ∃ c r, z.cps.toList = c :: r := by
            cases q : z.cps.toList with
            | nil => rw [q] at hpos; cases hpos
            | cons c r => exact ⟨c, r, rfl⟩
          have hc0 : z.cps.toList[0]? = some c := by rw [hcr]; rfl
          have en : isNameS z = (decide (c ∈ letters.cps.toList) && z.cps.toList.all signB) := by
            unfold isNameS
            rw [hl, decide_eq_true (by omega : 1 ≤ z.length), decide_eq_true (by omega : z.length ≤ 6), Bool.true_and, Bool.true_and]
            rw [hcr]
            rfl
          refine ⟨_, rfl, z, 0, c, rfl, rfl, hsz, atN (j := 0) rfl hc0, _, rfl, _, rfl, signs, rfl, signs_size, c, _, rfl, rfl, _, rfl, ?_⟩
          rw [cut_letters]
          by_cases hc : c ∈ letters.cps.toList
          · refine ifF (by rw [decide_eq_true hc]; rfl) ⟨_, rfl, z, rfl, fun D hD => lc_it walk_str (fun i H' => H' = upd H D (.lst ((((z.cps.toList.take i).filter fun c => !signB c).map fun _ => (1 : Int)).map V.int))) rfl (fun _ _ _ _ => True.intro) ?_ ?_⟩
            · rintro i x H7 H8 hi rfl ⟨rfl, d, hd, rfl⟩
              have hd2 : z.cps.toList[i]? = some d := by rw [Array.getElem?_toList]; exact hd
              refine ⟨rfl, _, rfl, _, rfl, d, signs, rfl, rfl, _, rfl, ?_⟩
              rw [signs_in, bad_take hd2]
              cases e : signB d with
              | true => exact iteF (by rw [if_pos rfl, List.append_nil])
              | false =>
                refine iteT ⟨_, upd_same, ?_, ?_⟩
                · rw [List.length_map, List.length_map]
                  refine Nat.lt_of_le_of_lt (List.length_filter_le _ _) ?_
                  rw [List.length_take]
                  have := sizeLine_eq
                  omega
                · rw [upd_two, if_neg Bool.false_ne_true, List.map_append]
                  rfl
            · rintro H7 rfl
              have et : (z.cps.toList.take z.cps.size) = z.cps.toList := List.take_of_length_le (by rw [Array.length_toList]; exact Nat.le_refl _)
              rw [et]
              refine ⟨Nat.zero_le _, fun e he => ⟨_, _, .lst (SqL.of (same_new he _ _ upd_same)) (dpAll_ints _), .lst (SqL.of upd_same) .nil, PySem.W.shaped_ints _, (by decide +kernel), ?_⟩⟩
              have q := k _ ((same_new (o := .lst (((z.cps.toList.filter fun c => !signB c).map fun _ => (1 : Int)).map V.int)) hD).trans (same_new (o := .lst []) he))
              rw [en, decide_eq_true hc, Bool.true_and] at q
              rw [eqv_ints]
              have ea : (List.map (fun _ => (1 : Int)) (z.cps.toList.filter fun c => !signB c)).isEmpty = z.cps.toList.all signB := by
                rw [List.isEmpty_map]
                generalize z.cps.toList = l
                induction l with
                | nil => rfl
                | cons a l ih =>
                  rw [List.filter_cons, List.all_cons]
                  cases e : signB a
                  · rfl
                  · simpa using ih
              rw [ea]
              exact q
          · refine ifT (by rw [decide_eq_false hc]; rfl) ?_
            have q := k H (Same.refl H)
            rw [en, decide_eq_false hc, Bool.false_and] at q
            exact q
        · refine ifT (by rw [decide_eq_false h6]; rfl) ?_
          have e : isNameS z = false := by
            unfold isNameS
            rw [hl, decide_eq_false (by omega : ¬ z.length ≤ 6), Bool.and_false, Bool.false_and]
          have q := k H (Same.refl H)
          rw [e] at q
          exact q
      · refine ifF (decide_eq_false h1) ⟨_, rfl, ifT rfl ?_⟩
        have e : isNameS z = false := by
          unfold isNameS
          rw [hl, decide_eq_false (by omega : ¬ 1 ≤ z.length), Bool.false_and, Bool.false_and]
        have q := k H (Same.refl H)
        rw [e] at q
        exact q
    · refine ⟨_, rfl, x, .ty "str", t, .type "str", false, rfl, .ty _, ty, kt, _, rfl, iteT ?_⟩
      exact ifT rfl k
end
end R2

namespace R2
open PySem L2 L3
open C8 (pss_cut tCut pe_gc)
/-! ### _law_thing -/
/-- any value, as far as the law asks -/
def GT (H : Hp) (x : V) : Prop := (Val x ∧ ∀ z, x = .str z → z.length ≤ 1000) ∨ ∃ p xs, x = .ref p ∧ H p = some (.tup xs)
theorem GT.keep {H H' : Hp} {x : V} (k : ∀ p xs, H p = some (.tup xs) → H' p = some (.tup xs)) (h : GT H x) : GT H' x := by
  rcases h with h | ⟨p, xs, rfl, e⟩
  · exact .inl h
  · exact .inr ⟨p, xs, rfl, k _ _ e⟩
theorem tup_dr {a : Addr} {H H' : Hp} (f : FeedAt H a) (d : Dr a H H') : ∀ p xs, H p = some (.tup xs) → H' p = some (.tup xs) := fun p xs e => by
  obtain ⟨x, y, hx, _⟩ := f
  exact d.sm p _ (ne_of e hx (by intro z; cases z)) e
theorem GT.s {H : Hp} {z : Str} (h : z.length ≤ 1000) : GT H (.str z) := .inl ⟨.str z, fun y e => by cases e; exact h⟩
theorem GT.i {H : Hp} {i : Int} : GT H (.int i) := .inl ⟨.int i, fun y e => by cases e⟩
theorem GT.b {H : Hp} {b : Bool} : GT H (.bl b) := .inl ⟨.bl b, fun y e => by cases e⟩
theorem GT.n {H : Hp} : GT H .non := .inl ⟨.non, fun y e => by cases e⟩
theorem GT.t {H : Hp} {p : Addr} {xs : List V} (e : H p = some (.tup xs)) : GT H (.ref p) := .inr ⟨p, xs, rfl, e⟩
def spThing : Sp := fun vs H Q _ => ∃ (a : Addr) (t : Str), vs = [.ref a, .str t] ∧ FeedAt H a ∧ t.length ≤ 100 ∧ ∀ (x : V) (H' : Hp), GT H' x → Dr a H H' → Q x H'
def odd : Str := "aZ0_ .'$-z9"
theorem odd_len : odd.cps.toList.length = 11 := by decide +kernel
theorem odd_size : odd.length ≤ sizeLine := by decide +kernel
section
variable {P : Program} {w : World} {K : PySem.W.Frag} {mg : Str → Option Value} {base : Heap}
abbrev NTh : List Str := ["_law_feed_here", "_law_title", "_law_at", "_law_sign", "_law_some", "_law_deep", "_law_turn", "_law_more"]
theorem scTh : FnScope NTh ["_law_feed_here", "_law_title"] (defScope sThing) := ⟨rfl, rfl, rfl, by decide +kernel, rfl, by decide +kernel, by decide +kernel⟩
theorem ok_thing {f fT : Addr} {fd fdT : FuncData} (F : Fun K "_law_thing" "_law_thing" sThing f fd) (FT : Fun K "_law_take" "_law_take" sTake fT fdT) (bT : Binds K fdT ["_law_feed_here", "_law_many"] []) (gT : mg "_law_take" = some (.ref fT)) (zLen : mg "len" = none) (zRng : mg "range" = none) :
    FnOk P w K mg base CX0 2 f fd ["_law_feed_here", "_law_title"] spThing := by
  have GTk : FnOk P w K mg base CX0 1 fT fdT ["_law_feed_here", "_law_many"] spTake := ok_take FT
  refine F.ok scTh (fun vs H Q E h => ?_) (fun cdv A outer s H vs Q E hr h => ?_)
  · obtain ⟨a, t, rfl, _⟩ := h
    rfl
  · obtain ⟨a, t, rfl, hf, ht, k⟩ := h
    have nd := scTh.nd
    refine ⟨_, pss_cons (ps_set (i := 2) nd rfl (.inl rfl) (pe_call GTk hr (by rfl) gT FT.kp bT .nil pass0 (pa_cons (pv 0) (pa_cons (pe_op op_add (pe_callB call_len (by rfl) zLen PySem.boot_len (pa_cons (pv 1) pa_nil)) pe_int) pa_nil))))
      (pss_cons (ps_set (i := 3) nd rfl (.inl rfl) (pe_ix ix_str pe_str (pe_call GTk hr (by rfl) gT FT.kp bT .nil pass0 (pa_cons (pv 0) (pa_cons pe_int pa_nil))) (fun _ _ => rfl)))
      (pss_cons (ps_set (i := 4) nd rfl (.inl rfl) (pe_lst (pa_cons (pv 1) (pa_cons (pe_op op_add_str (pe_op op_add_str (pe_slice sl_str (pv 1) po_none (po_some (pv 2))) (pv 3)) (pe_slice sl_str (pv 1) (po_some (pv 2)) po_none))
          (pa_cons (pe_op op_add_str (pe_op op_add_str (pe_slice sl_str (pv 1) po_none (po_some (pv 2))) (pv 3)) (pe_slice sl_str (pv 1) (po_some (pe_op op_add (pv 2) pe_int)) po_none))
          (pa_cons (pe_slice sl_str (pv 1) (po_some (pv 2)) po_none) (pa_cons pe_str (pa_cons (pe_op op_add_str (pv 1) pe_str) pa_nil))))))))
      (pss_cons (ps_set (i := 5) nd rfl (.inl rfl) (pv 1))
      (pss_cons (ps_for PassesOwn.never rfl (pi_range1 (by rfl) zRng (pa_cons pe_int pa_nil)) (pg_name (i := 6) nd rfl (.inl rfl))
        (pss_one (ps_set (i := 5) nd rfl (.inl rfl) (pe_tup (pa_cons (pv 5) pa_nil)))))
      (pss_cons (ps_set (i := 7) nd rfl (.inl rfl) (pe_lst (pa_cons (pe_tup (pa_cons (pv 1) pa_nil)) (pa_cons (pv 5) (pa_cons pe_int (pa_cons pe_int (pa_cons pe_bl (pa_cons pe_bl (pa_cons pe_non (pa_cons (pe_op op_pow pe_int pe_int) (pa_cons (pe_un un_neg pe_int)
          (pa_cons (pe_tup (pa_cons (pe_tup (pa_cons (pv 1) (pa_cons pe_int pa_nil))) (pa_cons pe_non pa_nil))) (pa_cons pe_str (pa_cons pe_str (pa_cons (pe_upper (pv 1)) pa_nil)))))))))))))))
      (pss_one (ps_ret (pe_ix ix_list (pe_op op_cat (pv 4) (pv 7)) (pe_call GTk hr (by rfl) gT FT.kp bT .nil pass0 (pa_cons (pv 0) (pa_cons pe_int pa_nil))) (fun _ _ => rfl))))))))), ?_⟩
    have ts : t.length ≤ sizeLine := size_ok (by omega)
    have cl : ∀ lo hi, (cutS t lo hi).length ≤ 100 := fun lo hi => Nat.le_trans (J1.cutS_len_le t lo hi) ht
    refine ⟨_, rfl, _, rfl, _, _, rfl, ⟨ts, rfl⟩, _, _, rfl, rfl, a, _, rfl, hf, by omega, Nat.lt_of_le_of_lt (show ((t.length : Int) + 1).natAbs ≤ 1000 by omega) (by decide), fun at_ H1 g0 g1 d1 => ?_⟩
    refine ⟨_, rfl, a, 11, rfl, d1.fd, (by decide), (by decide), fun r2 H2 r20 r21 d2 => ?_⟩
    obtain ⟨n2, rfl⟩ : ∃ n : Nat, r2 = n := ⟨r2.toNat, by omega⟩
    have hn2 : n2 < odd.cps.toList.length := by rw [odd_len]; omega
    refine ⟨odd, _, _, rfl, rfl, odd_size, atI_nat (List.getElem?_eq_getElem hn2), ?_⟩
    generalize odd.cps.toList[n2] = sg0
    have l1 : (⟨#[sg0]⟩ : Str).length = 1 := rfl
    have lsl := sizeLine_eq
    refine ⟨_, rfl, _, rfl, _, rfl, _, rfl, t, rfl, ts, _, rfl, _, _, rfl, rfl, ?_, _, rfl, _, rfl, _, rfl, t, rfl, ts, _, _, rfl, rfl, ?_, ?_⟩
    · have := cl none (some at_); rw [l1]; omega
    · rw [len_app, l1]
      have := cl none (some at_); have := cl (some at_) none; omega
    refine ⟨_, rfl, _, rfl, _, rfl, t, rfl, ts, _, rfl, _, _, rfl, rfl, ?_, _, rfl, _, rfl, _, _, rfl, rfl, _, rfl, t, rfl, ts, _, _, rfl, rfl, ?_, ?_⟩
    · have := cl none (some at_); rw [l1]; omega
    · rw [len_app, l1]
      have := cl none (some at_); have := cl (some (at_ + 1)) none; omega
    have l6 : (Str.ofString "abcdef").length = 6 := by decide +kernel
    refine ⟨_, rfl, _, rfl, _, rfl, t, rfl, ts, _, rfl, _, _, rfl, rfl, (by rw [l6]; omega), (by show 6 ≤ sizeLine; decide), fun ls hls => ⟨_, rfl, ?_⟩⟩
    have c1 := cl none (some at_)
    have c2 := cl (some at_) none
    have c3 := cl (some (at_ + 1)) none
    generalize hx1 : (cutS t none (some at_) ++ (⟨#[sg0]⟩ : Str) ++ cutS t (some at_) none) = x1
    generalize hx2 : (cutS t none (some at_) ++ (⟨#[sg0]⟩ : Str) ++ cutS t (some (at_ + 1)) none) = x2
    have b1 : x1.length ≤ 1000 := by rw [← hx1, len_app, len_app, l1]; omega
    have b2 : x2.length ≤ 1000 := by rw [← hx2, len_app, len_app, l1]; omega
    clear hx1 hx2
    generalize cutS t (some at_) none = x3 at c2 ⊢
    have b3 : x3.length ≤ 1000 := by omega
    have b6 : (t ++ Str.ofString "abcdef").length ≤ 1000 := by rw [len_app, l6]; omega
    generalize t ++ Str.ofString "abcdef" = x6 at b6 ⊢
    have d12 := d1.trans d2
    have d3 := dr_same d12 (same_new (o := .lst [.str t, .str x1, .str x2, .str x3, .str (Str.ofString ""), .str x6]) hls)
    have nls : ls ≠ a := by
      obtain ⟨x, y, hx, _⟩ := d12.fd
      exact (ne_of_none hx hls).symm
    refine ⟨8, rfl, by decide, by decide, for_range (n := 8) (fun j σ H' => ∃ (v6 : Option V) (dv : V), σ = [some (.ref a), some (.str t), some (.int at_), some (.str ⟨#[sg0]⟩), some (.ref ls), some dv, v6, none] ∧ GT H' dv ∧ Dr a H H' ∧ H' ls = some (.lst [.str t, .str x1, .str x2, .str x3, .str (Str.ofString ""), .str x6]))
      ⟨none, .str t, rfl, .s (by omega), d3, upd_same⟩ ?_ ?_⟩
    · rintro j σ H' hj ⟨v6, dv, rfl, gt, dr, els⟩
      refine ⟨_, rfl, (by show 1 ≤ sizeLine; decide), fun p hp => ⟨_, _, rfl, .t upd_same, dr_same dr (same_new hp), same_new hp _ _ els⟩⟩
    · rintro σ H' ⟨v6, dv, rfl, gt, dr, els⟩
      refine ⟨_, rfl, (by show 1 ≤ sizeLine; decide), fun p1 hp1 => ⟨_, rfl, _, _, rfl, rfl, ⟨by decide, by decide, by decide⟩, _, rfl, _, rfl, (by show 2 ≤ sizeLine; decide), fun p2 hp2 => ⟨(by show 2 ≤ sizeLine; decide), fun p3 hp3 => ?_⟩⟩⟩
      have s1 := same_new (o := .tup [.str t]) hp1
      have s2 := same_new (o := .tup [.str t, .int 1]) hp2
      have s3 := same_new (o := .tup [.ref p2, .non]) hp3
      have l18 := PyProof.Rows.len_upper t
      refine ⟨_, rfl, ⟨_, rfl⟩, t, rfl, rfl, by omega, (by show 13 ≤ sizeLine; decide), fun lm hlm => ?_⟩
      have s5 := (s1.trans s2).trans s3
      have s6 := same_new (o := .lst [.ref p1, dv, .int 0, .int 1, .bl true, .bl false, .non, .int (10 ^ (20 : Int).toNat), .int (-7), .ref p3, .str (Str.ofString "a.1"), .str (Str.ofString "a b"), .str (Txt.upper t)]) hlm
      have s7 := s5.trans s6
      refine ⟨_, rfl, _, rfl, ls, lm, _, _, rfl, rfl, s7 _ _ els, upd_same, (by show 19 ≤ sizeLine; decide), fun lc hlc => ?_⟩
      have s8 := same_new (o := .lst ([.str t, .str x1, .str x2, .str x3, .str (Str.ofString ""), .str x6] ++ [.ref p1, dv, .int 0, .int 1, .bl true, .bl false, .non, .int (10 ^ (20 : Int).toNat), .int (-7), .ref p3, .str (Str.ofString "a.1"), .str (Str.ofString "a b"), .str (Txt.upper t)])) hlc
      have d8 := dr_same dr (s7.trans s8)
      refine ⟨_, rfl, a, 19, rfl, d8.fd, (by decide), (by decide), fun r9 H9 r90 r91 d9 => ?_⟩
      obtain ⟨n, rfl⟩ : ∃ n : Nat, r9 = n := ⟨r9.toNat, by omega⟩
      have nlc : lc ≠ a := by
        obtain ⟨x, y, hx, _⟩ := (dr_same dr s7).fd
        exact (ne_of_none hx hlc).symm
      have e9 := d9.sm _ _ nlc upd_same
      have kt := tup_dr d8.fd d9
      have gdv : GT H9 dv := gt.keep fun p xs e => kt _ _ (s8 _ _ (s7 _ _ e))
      have gp1 : GT H9 (.ref p1) := .t (kt _ _ (s8 _ _ (s6 _ _ (s3 _ _ (s2 _ _ upd_same)))))
      have gp3 : GT H9 (.ref p3) := .t (kt _ _ (s8 _ _ (s6 _ _ upd_same)))
      have hn : n < ([.str t, .str x1, .str x2, .str x3, .str (Str.ofString ""), .str x6] ++ [.ref p1, dv, .int 0, .int 1, .bl true, .bl false, .non, .int (10 ^ (20 : Int).toNat), .int (-7), .ref p3, .str (Str.ofString "a.1"), .str (Str.ofString "a b"), .str (Txt.upper t)] : List V).length := by
        show n < 19
        omega
      refine ⟨lc, _, _, _, rfl, rfl, SqL.of e9, atI_nat (List.getElem?_eq_getElem hn), k _ _ ?_ (d8.trans d9)⟩
      have mem := List.getElem_mem hn
      generalize ([.str t, .str x1, .str x2, .str x3, .str (Str.ofString ""), .str x6] ++ [.ref p1, dv, .int 0, .int 1, .bl true, .bl false, .non, .int (10 ^ (20 : Int).toNat), .int (-7), .ref p3, .str (Str.ofString "a.1"), .str (Str.ofString "a b"), .str (Txt.upper t)] : List V)[n] = x at mem
      simp only [List.cons_append, List.nil_append, List.mem_cons, List.not_mem_nil, or_false] at mem
      rcases mem with rfl | rfl | rfl | rfl | rfl | rfl | rfl | rfl | rfl | rfl | rfl | rfl | rfl | rfl | rfl | rfl | rfl | rfl | rfl
      · exact .s (by omega)
      · exact .s b1
      · exact .s b2
      · exact .s b3
      · exact .s (by decide +kernel)
      · exact .s b6
      · exact gp1
      · exact gdv
      · exact .i
      · exact .i
      · exact .b
      · exact .b
      · exact .n
      · exact .i
      · exact .i
      · exact gp3
      · exact .s (by decide +kernel)
      · exact .s (by decide +kernel)
      · exact .s (by omega)
end
end R2

namespace R2
open PySem L2 L3
/-! ### lists of such values are shown at length -/
theorem atom_all {ds : List PyData} (h : ∀ d ∈ ds, d.showable = true ∧ d.hasDict = false ∧ d.depth ≤ 50 ∧ d.shown.length ≤ 2000) :
    PyData.showableAll ds = true ∧ PyData.hasDictAll ds = false ∧ PyData.depthAll ds ≤ 50 ∧ (PyData.shownAll ds).length = ds.length ∧ PySem.piled (PyData.shownAll ds) ≤ 2002 * ds.length := by
  induction ds with
  | nil => exact ⟨rfl, rfl, Nat.zero_le _, rfl, Nat.le_refl _⟩
  | cons d ds ih =>
    obtain ⟨h1, h2, h3, h4⟩ := h d List.mem_cons_self
    obtain ⟨i1, i2, i3, i4, i5⟩ := ih fun e m => h e (List.mem_cons_of_mem _ m)
    refine ⟨?_, ?_, ?_, ?_, ?_⟩
    · rw [PyData.showableAll, h1, i1]; rfl
    · rw [PyData.hasDictAll, h2, i2]; rfl
    · rw [PyData.depthAll]; exact Nat.max_le.mpr ⟨h3, i3⟩
    · rw [PyData.shownAll, List.length_cons, List.length_cons, i4]
    · rw [PyData.shownAll, PySem.piled_cons, List.length_cons]; omega
theorem fine_list {ds : List PyData} (hl : ds.length ≤ 1000) (h : ∀ d ∈ ds, d.showable = true ∧ d.hasDict = false ∧ d.depth ≤ 50 ∧ d.shown.length ≤ 2000) : Fine (.list ds) := by
  obtain ⟨i1, i2, i3, i4, i5⟩ := atom_all h
  refine ⟨by rw [PyData.showable]; exact i1, by rw [PyData.hasDict]; exact i2, by rw [PyData.depth]; omega, ?_⟩
  rw [PyData.shown_list, len_app, len_app]
  have e1 : (Str.ofString "[").length = 1 := rfl
  have e2 : (Str.ofString "]").length = 1 := rfl
  have e0 := sizeLine_eq
  by_cases q : PyData.shownAll ds = []
  · rw [q]
    show 1 + 0 + 1 ≤ sizeLine
    omega
  · have := PySem.join_length_add _ q
    show 1 + (Str.join ", " (PyData.shownAll ds)).length + 1 ≤ sizeLine
    omega
theorem bool_atom (b : Bool) : (PyData.bool b).showable = true ∧ (PyData.bool b).hasDict = false ∧ (PyData.bool b).depth ≤ 50 ∧ (PyData.bool b).shown.length ≤ 2000 := by
  cases b <;> exact ⟨by decide +kernel, by decide +kernel, by decide +kernel, by decide +kernel⟩
theorem val_atom {x : V} (h : GV x) : (dV x).showable = true ∧ (dV x).hasDict = false ∧ (dV x).depth ≤ 50 ∧ (dV x).shown.length ≤ 2000 := by
  rcases h with ⟨i, rfl, hi⟩ | h
  · have l := log_small hi
    refine ⟨?_, ?_, ?_, ?_⟩
    · show PyData.showable (.int i) = true
      rw [PyData.showable]
      exact decide_eq_true l
    · show PyData.hasDict (.int i) = false
      rw [PyData.hasDict]
    · show PyData.depth (.int i) ≤ 50
      rw [PyData.depth]
      omega
    · show (PyData.shown (.int i)).length ≤ 2000
      rw [PyData.shown_int]
      exact Nat.le_trans (PyProof.Rows.int_text_len_1921 l) (by omega)
  · have t : rest.all (fun x => (dV x).showable && (!(dV x).hasDict && (decide ((dV x).depth ≤ 50) && decide ((dV x).shown.length ≤ 2000)))) = true := by decide +kernel
    have q := List.all_eq_true.mp t x h
    simpa only [Bool.and_eq_true, Bool.not_eq_true', decide_eq_true_eq] using q
/-! ### the law's sort -/
def encT (x : V) (i : Nat) : PyData := .tuple [.tuple [.int (rkT x).1, .int (rkT x).2.1, .str (rkT x).2.2], .int (i : Int)]
theorem toks_T (x : V) (i : Nat) : PySem.W.keyToks (encT x i) = [.inl 1, .inl 1, .inl (rkT x).1, .inl 1, .inl (rkT x).2.1, .inl 1, .inr (rkT x).2.2.cps.toList, .inl 0, .inl 1, .inl (i : Int), .inl 0] := by
  simp only [encT, PySem.W.keyToks, PySem.W.keyToksAll, List.cons_append, List.nil_append]
theorem lt_T {x y : V} (hx : Val x) (hy : Val y) (i j : Nat) (h : ltV x y = true) : PySem.W.dataLt (encT x i) (encT y j) = true := by
  have h' := ltRk_iff.mp h
  unfold PySem.W.dataLt
  rw [toks_T, toks_T]
  cases hx <;> cases hy <;> simp [rkV, ltKey] at h' <;> simp [PyProof.Rows.lexLt, PyProof.Rows.itemLt, rkT, h']
  have h2 := of_decide_eq_true (show decide (_ < _) = true from h')
  exact .inl h2
def leT (ds : List V) : Nat → Nat → Bool := PySem.W.dataLe false fun i => encT (ds.getD i .non) i
theorem due_ord {ds : List V} (nd : ds.Nodup) (hv : ∀ x ∈ ds, Val x) : InOrd (((List.range ds.length).mergeSort (leT ds)).map fun i => ds.getD i .non) ds := by
  have tot := PySem.W.sortLe_total (PyProof.Rows.listOrd PyProof.Rows.itemOrd) false fun b => PySem.W.keyToks (encT (ds.getD b .non) b)
  have srt : ((List.range ds.length).mergeSort (leT ds)).Pairwise fun a b => leT ds a b = true := List.pairwise_mergeSort (fun a b c => tot.trans a b c) (fun a b => by rw [Bool.or_eq_true]; exact tot.total a b) _
  have prm : ((List.range ds.length).mergeSort (leT ds)).Perm (List.range ds.length) := List.mergeSort_perm _ _
  have ndp : ((List.range ds.length).mergeSort (leT ds)).Nodup := prm.nodup_iff.mpr List.nodup_range
  have at_ : ∀ i, i ∈ (List.range ds.length).mergeSort (leT ds) → ∃ h : i < ds.length, ds.getD i .non = ds[i] := fun i m => by
    have h := List.mem_range.mp (prm.mem_iff.mp m)
    exact ⟨h, by rw [List.getD_eq_getElem?_getD, List.getElem?_eq_getElem h]; rfl⟩
  refine ⟨?_, fun x => ⟨fun m => ?_, fun m => ?_⟩⟩
  · rw [List.pairwise_map]
    refine List.Pairwise.imp_of_mem (fun {i j} mi mj hij => ?_) (srt.and ndp)
    obtain ⟨hi, ei⟩ := at_ i mi
    obtain ⟨hj, ej⟩ := at_ j mj
    obtain ⟨h1, h2⟩ := hij
    have h1 : (!PySem.W.dataLt (encT (ds.getD j .non) j) (encT (ds.getD i .non) i)) = true := h1
    rw [ei, ej] at h1 ⊢
    have ne : ds[i] ≠ ds[j] := by
      rcases Nat.lt_trichotomy i j with q | q | q
      · exact List.pairwise_iff_getElem.mp nd i j hi hj q
      · exact absurd q h2
      · exact (List.pairwise_iff_getElem.mp nd j i hj hi q).symm
    have vi := hv _ (List.getElem_mem hi)
    have vj := hv _ (List.getElem_mem hj)
    rcases ltRk_tri (rkV ds[i]) (rkV ds[j]) with q | q | q
    · exact q
    · exact absurd (rk_inj vi vj q) ne
    · rw [lt_T vj vi j i q] at h1
      cases h1
  · obtain ⟨i, mi, rfl⟩ := List.mem_map.mp m
    obtain ⟨hi, ei⟩ := at_ i mi
    show ds.getD i .non ∈ ds
    rw [ei]
    exact List.getElem_mem hi
  · obtain ⟨i, hi, rfl⟩ := List.getElem_of_mem m
    have mi := prm.mem_iff.mpr (List.mem_range.mpr hi)
    refine List.mem_map.mpr ⟨i, mi, ?_⟩
    exact (at_ i mi).2
theorem alike_T (x y : V) (i j : Nat) : PySem.W.alike (encT x i) (encT y j) = true := by
  simp only [encT, PySem.W.alike, PySem.W.alikeAll, Bool.and_self]
theorem depth_T (x : V) (i : Nat) : (encT x i).depth ≤ 50 := by
  simp only [encT, PyData.depth, PyData.depthAll]
  omega
theorem fine_show {x : V} (h : GV x) : Fine (.str (showS x)) := by
  show (reprText (showS x)).length ≤ sizeLine
  have e0 := sizeLine_eq
  rcases h with ⟨i, rfl, hi⟩ | h
  · have l := PyProof.Rows.int_text_len_1921 (log_small hi)
    have q : (reprText (Str.ofString (toString i))).length ≤ 10 * (Str.ofString (toString i)).length + 2 := PySem.StrLaws.reprText_len _ fun c m => by
      by_cases z : c ≠ 45 ∧ (c < 48 ∨ 57 < c)
      · exact absurd m (PyProof.Rows.int_text_free' c z i)
      · have : c ≤ 57 := by omega
        exact Nat.lt_of_le_of_lt this (by decide)
    show (reprText (Str.ofString (toString i))).length ≤ sizeLine
    omega
  · have t : rest.all (fun x => decide ((reprText (showS x)).length ≤ 1000)) = true := by decide +kernel
    have q := of_decide_eq_true (List.all_eq_true.mp t x h)
    omega
theorem dpAll_vals {K : PySem.W.Frag} {H : Hp} : ∀ {xs : List V}, (∀ x ∈ xs, Val x) → DpAll K H xs (xs.map dV)
  | [], _ => .nil
  | x :: xs, h => .cons (dp_val (h x List.mem_cons_self)) (dpAll_vals fun y m => h y (List.mem_cons_of_mem _ m))
theorem dpAll_bools {K : PySem.W.Frag} {H : Hp} : ∀ bs : List Bool, DpAll K H (bs.map V.bl) (bs.map PyData.bool)
  | [] => .nil
  | b :: bs => .cons (.bl b) (dpAll_bools bs)
theorem fine_vals {xs : List V} (hl : xs.length ≤ 1000) (h : ∀ x ∈ xs, GV x) : Fine (.list (xs.map dV)) := fine_list (by rw [List.length_map]; exact hl) fun d m => by
  obtain ⟨x, mx, rfl⟩ := List.mem_map.mp m
  exact val_atom (h x mx)
theorem fine_bools {bs : List Bool} (hl : bs.length ≤ 1000) : Fine (.list (bs.map PyData.bool)) := fine_list (by rw [List.length_map]; exact hl) fun d m => by
  obtain ⟨x, mx, rfl⟩ := List.mem_map.mp m
  exact bool_atom x
theorem fl_take {α : Type} (p : α → Bool) {l : List α} {i : Nat} {c : α} (h : l[i]? = some c) : ((l.take (i + 1)).filter p).map (fun _ => (1 : Int)) = ((l.take i).filter p).map (fun _ => (1 : Int)) ++ if p c = true then [1] else [] := by
  rw [List.take_add_one, h, List.filter_append, List.map_append]
  congr 1
  cases e : p c <;> simp [e]
theorem map_getD {α β : Type} (f : α → β) (d : α) (l : List α) : l.map f = (List.range l.length).map fun i => f (l.getD i d) := by
  apply List.ext_getElem?
  intro i
  rw [List.getElem?_map, List.getElem?_map]
  by_cases h : i < l.length
  · rw [List.getElem?_eq_getElem h, List.getElem?_range h]
    show some (f l[i]) = some (f (l.getD i d))
    rw [List.getD_eq_getElem?_getD, List.getElem?_eq_getElem h]
    rfl
  · rw [List.getElem?_eq_none (by omega), List.getElem?_eq_none (by rw [List.length_range]; omega)]
    rfl
theorem dr_refl {a : Addr} {H : Hp} (f : FeedAt H a) : Dr a H H := ⟨f, fun b o _ e => e⟩
end R2

namespace R2
open PySem L2 L3
open C8 (pss_cut tCut pe_gc)
def spLaw (K : PySem.W.Frag) : Sp := fun vs H Q _ => ∃ (a : Addr) (ns : List Int), vs = [.ref a] ∧ SqL K H a (ns.map V.int) ∧ ns.length ≤ 63 ∧ ∀ H', Q (.bl true) H'
/-- the names of built-ins that the module does not hide -/
structure ZN (mg : Str → Option Value) : Prop where
  rng : mg "range" = none
  max_ : mg "max" = none
  min_ : mg "min" = none
  len : mg "len" = none
  isi : mg "isinstance" = none
  int : mg "int" = none
  srt : mg "sorted" = none
  enu : mg "enumerate" = none
  tup : mg "tuple" = none
  lst : mg "list" = none
  str : mg "str" = none
  bool : mg "bool" = none
  rep : mg "repr" = none
  abs_ : mg "abs" = none
  all_ : mg "all" = none
theorem same_dr {a : Addr} {H H1 H2 : Hp} (n : H a = none) (s : Same H H1) (d : Dr a H1 H2) : Same H H2 := fun b u e => d.sm b u (fun z => by rw [z, n] at e; cases e) (s b u e)
theorem fine_bb (n v : Bool) : Fine (.list [.bool n, .bool v]) := fine_list (by show 2 ≤ 1000; decide) fun d m => by
  simp only [List.mem_cons, List.not_mem_nil, or_false] at m
  rcases m with rfl | rfl
  · exact bool_atom _
  · exact bool_atom _
theorem not_same {x : Str} : (!decide (V.str x = V.str x)) = false := by rw [decide_eq_true rfl]; rfl
section
variable {P : Program} {w : World} {K : PySem.W.Frag} {mg : Str → Option Value} {base : Heap}
abbrev NL : List Str := ["_law_script", "_law_k", "_law_feed_here", "_law_turn", "_law_thing_here", "_law_plain", "_law_some", "_law_due", "_law_value_here", "_law_given", "_law_one", "_law_other", "_law_level", "_law_at"]
theorem scLa : FnScope NL ["_law_script"] (defScope sLaw) := ⟨rfl, rfl, rfl, by decide +kernel, rfl, by decide +kernel, by decide +kernel⟩
theorem ok_law {f fN fV fS fO fW fF fT fL fU fM fD fH fR fX : Addr} {fd fdN fdV fdS fdO fdW fdF fdT fdL fdU fdM fdD fdH fdR fdX : FuncData} (F : Fun K "law" "law" sLaw f fd) (T : KitT K) (kn : PySem.W.kitOne K (.type "NoneType") (.type "str") = some false) (z : ZN mg)
    (GN : FnOk P w K mg base CX0 1 fN fdN ["value"] (spIsName K)) (kN : PySem.W.keepIn K (.ref fN) = true) (bN : Binds K fdN ["value"] []) (gN : mg "is_name" = some (.ref fN))
    (GVv : FnOk P w K mg base CX0 2 fV fdV ["value"] (spIsValue K)) (kV : PySem.W.keepIn K (.ref fV) = true) (bV : Binds K fdV ["value"] []) (gV : mg "is_value" = some (.ref fV))
    (GS : FnOk P w K mg base CX0 2 fS fdS ["one", "other"] spIsSame) (kS : PySem.W.keepIn K (.ref fS) = true) (bS : Binds K fdS ["one", "other"] []) (gS : mg "is_same" = some (.ref fS))
    (GO : FnOk P w K mg base CX0 3 fO fdO ["values"] (spInOrder K)) (kO : PySem.W.keepIn K (.ref fO) = true) (bO : Binds K fdO ["values"] []) (gO : mg "in_order" = some (.ref fO))
    (GW : FnOk P w K mg base CX0 1 fW fdW ["value"] spShow) (kW : PySem.W.keepIn K (.ref fW) = true) (bW : Binds K fdW ["value"] []) (gW : mg "show" = some (.ref fW))
    (GF : FnOk P w K mg base CX0 1 fF fdF ["_law_script", "_law_k"] (spFeed K)) (kF : PySem.W.keepIn K (.ref fF) = true) (bF : Binds K fdF ["_law_script", "_law_k"] []) (gF : mg "_law_feed" = some (.ref fF))
    (GT : FnOk P w K mg base CX0 1 fT fdT ["_law_feed_here", "_law_many"] spTake) (kT : PySem.W.keepIn K (.ref fT) = true) (bT : Binds K fdT ["_law_feed_here", "_law_many"] []) (gT : mg "_law_take" = some (.ref fT))
    (GL : FnOk P w K mg base CX0 3 fL fdL ["_law_feed_here", "_law_many"] (spTitles GName)) (kL : PySem.W.keepIn K (.ref fL) = true) (bL : Binds K fdL ["_law_feed_here", "_law_many"] []) (gL : mg "_law_titles" = some (.ref fL))
    (GU : FnOk P w K mg base CX0 2 fU fdU ["_law_feed_here"] spValue) (kU : PySem.W.keepIn K (.ref fU) = true) (bU : Binds K fdU ["_law_feed_here"] []) (gU : mg "_law_value" = some (.ref fU))
    (GM : FnG P w K mg base CX0 1 fM fdM ["_law_one", "_law_other"] (spSame K)) (kM : PySem.W.keepIn K (.ref fM) = true) (bM : Binds K fdM ["_law_one", "_law_other"] []) (gM : mg "_law_same" = some (.ref fM))
    (GD : FnOk P w K mg base CX0 1 fD fdD ["_law_value_here"] (spIsName K)) (kD : PySem.W.keepIn K (.ref fD) = true) (bD : Binds K fdD ["_law_value_here"] []) (gD : mg "_law_named" = some (.ref fD))
    (GH : FnOk P w K mg base CX0 2 fH fdH ["_law_feed_here", "_law_title"] spThing) (kH : PySem.W.keepIn K (.ref fH) = true) (bH : Binds K fdH ["_law_feed_here", "_law_title"] []) (gH : mg "_law_thing" = some (.ref fH))
    (GR : FnOk P w K mg base CX0 1 fR fdR ["_law_value_here"] spRank2) (kR : PySem.W.keepIn K (.ref fR) = true) (bR : Binds K fdR ["_law_value_here"] []) (gR : mg "_law_rank" = some (.ref fR))
    (GX : FnOk P w K mg base CX0 1 fX fdX ["_law_value_here"] spText) (kX : PySem.W.keepIn K (.ref fX) = true) (bX : Binds K fdX ["_law_value_here"] []) (gX : mg "_law_text" = some (.ref fX)) :
    FnG P w K mg base CX0 4 f fd ["_law_script"] (spLaw K) := by
  refine gok F scLa (fun vs H Q E h => ?_) (fun cdv A outer s H vs Q E g hr h => ?_)
  · obtain ⟨a, ns, rfl, _⟩ := h
    rfl
  · obtain ⟨s0, ns, rfl, hS, hn, k⟩ := h
    have R1 : Room 1 _ := hr.mono (by decide)
    have R2 : Room 2 _ := hr.mono (by decide)
    have hu := hr.units
    have nd := scLa.nd
    have gA : Calm _ := g
    refine ⟨_, pss_cons (ps_for PassesOwn.never rfl (pi_range1 (by rfl) z.rng (pa_cons (pe_callB (call_max2 rfl) (by rfl) z.max_ PyProof.Rows.boot_max (pa_cons pe_int (pa_cons (pe_callB (call_min2 rfl) (by rfl) z.min_ PyProof.Rows.boot_min (pa_cons pe_int (pa_cons (pe_callB call_len_seq (by rfl) z.len PySem.boot_len (pa_cons (pv 0) pa_nil)) pa_nil))) pa_nil))) pa_nil)) (pg_name (i := 1) nd rfl (.inl rfl))
      (pss_cons (ps_set (i := 2) nd rfl (.inr rfl) (pe_call GF R1 (by rfl) gF kF bF .nil pass0 (pa_cons (pv 0) (pa_cons (pv 1) pa_nil))))
      (pss_cons (ps_for PassesOwn.never rfl (pi_range1 (by rfl) z.rng (pa_cons pe_int pa_nil)) (pg_name (i := 3) nd rfl (.inl rfl))
        (pss_cons (ps_set (i := 4) nd rfl (.inl rfl) (pe_call GH R2 (by rfl) gH kH bH .nil pass0 (pa_cons (pv 2) (pa_cons (pe_ix ix_list (pe_call GL hr (by rfl) gL kL bL .nil pass0 (pa_cons (pv 2) (pa_cons pe_int pa_nil))) (pe_call GT R1 (by rfl) gT kT bT .nil pass0 (pa_cons (pv 2) (pa_cons pe_int pa_nil))) (fun _ _ => rfl)) pa_nil))))
        (pss_cons (ps_set (i := 5) nd rfl (.inl rfl) (pe_or (pe_cmpR op_isN (pv 4) pe_non (nomark _)) (pe_one (pe_callB call_isi (by rfl) z.isi PyProof.Rows.boot_isinstance (pa_cons (pv 4) (pa_cons (pe_bltn (v := .ty "int") (by rfl) z.int PyProof.Rows.boot_int rfl) pa_nil))))))
        (pss_one (ps_if (pt_not (pt_val (pe_callG GM gA R1 (by rfl) gM kM bM .nil pass0 (pa_cons (pe_lst (pa_cons (pe_call GN R1 (by rfl) gN kN bN .nil pass0 (pa_cons (pv 4) pa_nil)) (pa_cons (pe_call GVv R2 (by rfl) gV kV bV .nil pass0 (pa_cons (pv 4) pa_nil)) pa_nil)))
            (pa_cons (pe_lst (pa_cons (pe_call GD R1 (by rfl) gD kD bD .nil pass0 (pa_cons (pv 4) pa_nil)) (pa_cons (pe_or (pv 5) (pe_one (pe_call GD R1 (by rfl) gD kD bD .nil pass0 (pa_cons (pv 4) pa_nil)))) pa_nil))) pa_nil))))) (pss_one (ps_ret pe_bl)) pss_nil)))))
      (pss_cons (ps_setLc (i := 6) (own := [("_law_turn", 3)]) (g := gName 3) (tt := tYes) rfl nd rfl rfl (sw_true rfl rfl rfl (by decide +kernel)) (pi_range1 (by rfl) z.rng (pa_cons (pe_call GT R1 (by rfl) gT kT bT .nil pass0 (pa_cons (pv 2) (pa_cons pe_int pa_nil))) pa_nil)) (blkOk_by (N := NL) (sc := defScope sLaw) (by decide +kernel))
          (fun _ _ _ _ _ => pg_name (i := 3) nd rfl (.inl rfl)) (fun _ _ _ _ _ => pts_nil) (fun _ _ _ _ _ => pe_call GU R2 (by rfl) gU kU bU .nil pass0 (pa_cons (pv 2) pa_nil)))
      (pss_cons (ps_set (i := 7) nd rfl (.inr rfl) (pe_lst pa_nil))
      (pss_cons (ps_for PassesOwn.never rfl (pi_list (pv 6)) (pg_name (i := 8) nd rfl (.inr rfl))
        (pss_one (ps_if (pt_cmpR (op_eqD hu) (pe_lc (own := [("_law_other", 11)]) (g := gName 11) rfl nd (pi_list (pv 7)) (blkOk_by (N := NL) (sc := defScope sLaw) (by decide +kernel)) (fun _ _ _ _ _ => pg_name (i := 11) nd rfl (.inl rfl))
            (fun _ _ _ _ _ => pts_one (pt_val (pe_callG GM gA R1 (by rfl) gM kM bM .nil pass0 (pa_cons (pv 11) (pa_cons (pv 8) pa_nil))))) (fun _ _ _ _ _ => pe_int)) (pe_lst pa_nil) (nomark _))
          (pss_one (ps_expr (pe_bm PySem.F.plainAttrs_list PySem.F.slot_list_append PySem.F.type_list_append mt_append (pv 7) (pa_cons (pv 8) pa_nil)))) pss_nil)))
      (pss_cons (ps_set (i := 7) nd rfl (.inr rfl) (pe_lc (own := [("_law_level", 12), ("_law_at", 13)]) (g := gTup K 2 (gCons (gName 12) (gCons (gName 13) gNil))) (tt := tYes) rfl nd
          (pi_list (pe_callB (cr_sortedD hu) (by rfl) z.srt (by decide +kernel) (pa_cons (pe_lc (own := [("_law_at", 13), ("_law_value_here", 8)]) (g := gTup K 2 (gCons (gName 13) (gCons (gName 8) gNil))) (tt := tYes) rfl nd (pi_enum (by rfl) z.enu (pa_cons (pv 7) pa_nil)) (blkOk_by (N := NL) (sc := defScope sLaw) (by decide +kernel))
            (fun _ _ _ _ _ => pg_tup (by rfl) (pgs_cons (pg_name (i := 13) nd rfl (.inl rfl)) (pgs_cons (pg_name (i := 8) nd rfl (.inl rfl)) pgs_nil))) (fun _ _ _ _ _ => pts_nil) (fun _ _ _ _ _ => pe_tup (pa_cons (pe_call GR R1 (by rfl) gR kR bR .nil pass0 (pa_cons (pv 8) pa_nil)) (pa_cons (pv 13) pa_nil)))) pa_nil)))
          (blkOk_by (N := NL) (sc := defScope sLaw) (by decide +kernel)) (fun _ _ _ _ _ => pg_tup (by rfl) (pgs_cons (pg_name (i := 12) nd rfl (.inl rfl)) (pgs_cons (pg_name (i := 13) nd rfl (.inl rfl)) pgs_nil))) (fun _ _ _ _ _ => pts_nil) (fun _ _ _ _ _ => pe_ix (r := rIxL K) (by exact ix_list) (pv 7) (pv 13) (fun _ _ => rfl))))
      (pss_cut (ps_set (i := 9) nd rfl (.inl rfl) (pe_ifExp (pt_cmpR op_eq (pe_call GT R1 (by rfl) gT kT bT .nil pass0 (pa_cons (pv 2) (pa_cons pe_int pa_nil))) pe_int (nomark _)) (pe_callTy call_tuple_of (by rfl) z.tup (by decide +kernel) (pa_cons (pv 6) pa_nil)) (pe_callTy call_list_of (by rfl) z.lst PyProof.Rows.boot_list (pa_cons (pv 6) pa_nil))))
      (pss_cons (ps_if (pt_not (pt_val (pe_callG GM gA R1 (by rfl) gM kM bM .nil pass0 (pa_cons (pe_call GO hr (by rfl) gO kO bO .nil pass0 (pa_cons (pv 9) pa_nil)) (pa_cons (pv 7) pa_nil))))) (pss_one (ps_ret pe_bl)) pss_nil)
      (pss_one (ps_for PassesOwn.never rfl (pi_list (pv 6)) (pg_name (i := 10) nd rfl (.inr rfl))
        (pss_cons (ps_if (pt_not (pt_val (pe_callG GM gA R1 (by rfl) gM kM bM .nil pass0 (pa_cons (pe_call GW R1 (by rfl) gW kW bW .nil pass0 (pa_cons (pv 10) pa_nil)) (pa_cons (pe_call GX R1 (by rfl) gX kX bX .nil pass0 (pa_cons (pv 10) pa_nil)) pa_nil))))) (pss_one (ps_ret pe_bl)) pss_nil)
        (pss_one (ps_if (pt_not (pt_val (pe_callG GM gA R1 (by rfl) gM kM bM .nil pass0 (pa_cons (pe_lc (own := [("_law_other", 11)]) (g := gName 11) (tt := tYes) rfl nd (pi_list (pv 6)) (blkOk_by (N := NL) (sc := defScope sLaw) (by decide +kernel)) (fun _ _ _ _ _ => pg_name (i := 11) nd rfl (.inl rfl)) (fun _ _ _ _ _ => pts_nil)
              (fun _ _ _ _ _ => pe_call GS R2 (by rfl) gS kS bS .nil pass0 (pa_cons (pv 10) (pa_cons (pv 11) pa_nil))))
            (pa_cons (pe_lc (own := [("_law_other", 11)]) (g := gName 11) (tt := tYes) rfl nd (pi_list (pv 6)) (blkOk_by (N := NL) (sc := defScope sLaw) (by decide +kernel)) (fun _ _ _ _ _ => pg_name (i := 11) nd rfl (.inl rfl)) (fun _ _ _ _ _ => pts_nil)
              (fun _ _ _ _ _ => pe_callG GM gA R1 (by rfl) gM kM bM .nil pass0 (pa_cons (pv 10) (pa_cons (pv 11) pa_nil)))) pa_nil))))) (pss_one (ps_ret pe_bl)) pss_nil)))))))))))))) (pss_one (ps_ret pe_bl)), ?_⟩
    have hlen : (ns.map V.int).length = ns.length := List.length_map ..
    refine ⟨_, rfl, s0, _, rfl, .inl hS, _, _, rfl, _, _, rfl, _, rfl, ?_, ?_, for_range (fun i σ H' => ∃ v1 v2 v3 v4 v5 v6 v7 v8 v9 v10 v11 v12 v13 : Option V, σ = [some (.ref s0), v1, v2, v3, v4, v5, v6, v7, v8, v9, v10, v11, v12, v13] ∧ Same H H')
      ⟨none, none, none, none, none, none, none, none, none, none, none, none, none, rfl, Same.refl H⟩ ?_ ?_⟩
    · split <;> omega
    · split <;> (try split) <;> omega
    · rintro i σ Hs hi ⟨v1, v2, v3, v4, v5, v6, v7, v8, v9, v10, v11, v12, v13, rfl, sH⟩
      have hi3 : i < 3 := by
        refine Nat.lt_of_lt_of_le hi ?_
        split <;> (try split) <;> omega
      refine ⟨_, rfl, _, rfl, s0, ns, i, (by rw [Int.zero_add]; rfl), sH.seq hS, hn, by omega, fun a H1 ha S1 fd1 => ?_⟩
      -- the things
      refine ⟨20, rfl, by decide, by decide, for_range (n := 20) (fun j σ H' => ∃ v3 v4 v5 : Option V, σ = [some (.ref s0), some (.int (0 + (i : Int))), some (.ref a), v3, v4, v5, v6, v7, v8, v9, v10, v11, v12, v13] ∧ Dr a H1 H')
        ⟨v3, v4, v5, rfl, fd1, fun b o _ e => e⟩ ?_ ?_⟩
      · rintro j σ H2 hj ⟨w3, w4, w5, rfl, d2⟩
        refine ⟨_, rfl, _, rfl, a, 3, rfl, d2.fd, by decide, fun p ts H3 hp d3 ep gn => ⟨_, rfl, a, 3, rfl, d3.fd, (by decide), (by decide), fun r H4 r0 r1 d4 => ?_⟩⟩
        have npa : p ≠ a := fun q => by
          obtain ⟨x, y, hx, _⟩ := d2.fd
          rw [q, hx] at hp
          cases hp
        have ep4 := d4.sm _ _ npa ep
        obtain ⟨n, rfl⟩ : ∃ n : Nat, r = n := ⟨r.toNat, by omega⟩
        have hn3 : n < ts.length := by rw [gn.1]; omega
        have nmB := gn.2.2 _ (List.getElem_mem hn3)
        have tl : (ts[n]).length ≤ 100 := by
          unfold nameB at nmB
          have q := of_decide_eq_true (Bool.and_eq_true_iff.mp (Bool.and_eq_true_iff.mp nmB).1).2
          have e : (ts[n]).cps.toList.length = (ts[n]).length := Array.length_toList
          omega
        refine ⟨p, _, _, .str ts[n], rfl, rfl, SqL.of ep4, atI_nat (by rw [List.getElem?_map, List.getElem?_eq_getElem hn3]; rfl), ?_⟩
        refine ⟨a, ts[n], rfl, d4.fd, tl, fun x H5 gx d5 => ?_⟩
        have d25 := ((d2.trans d3).trans d4).trans d5
        have s2s : 2 ≤ sizeLine := by decide
        rcases gx with ⟨vx, lx⟩ | ⟨q, xs, rfl, eq⟩
        · cases vx with
          | non =>
            refine ⟨_, rfl, rfl, _, rfl, ifT rfl ?_⟩
            refine ⟨_, rfl, _, rfl, .inr ⟨.type "NoneType", .base .non, kn, ?_⟩⟩
            refine ⟨_, rfl, _, rfl, .inl ⟨rfl, ?_⟩⟩
            refine ⟨s2s, fun l1 hl1 => ⟨_, rfl, _, rfl, .inr ⟨.type "NoneType", .base .non, kn, ?_⟩⟩⟩
            refine ⟨_, rfl, _, rfl, ifT rfl ⟨s2s, fun l2 hl2 => ?_⟩⟩
            refine ⟨.ref l1, .ref l2, .list [.bool false, .bool true], .list [.bool false, .bool true], rfl, .lst (SqL.of (same_new hl2 _ _ upd_same)) (.cons (.bl _) (.cons (.bl _) .nil)), .lst (SqL.of upd_same) (.cons (.bl _) (.cons (.bl _) .nil)), fine_bb _ _, fine_bb _ _, _, rfl, ifF not_same ?_⟩
            exact ⟨_, _, _, rfl, dr_same d25 ((same_new hl1).trans (same_new hl2))⟩
          | bl b =>
            refine ⟨_, rfl, rfl, _, rfl, ifF rfl ⟨_, rfl, _, .ty "int", .type "bool", .type "int", true, rfl, .ty _, .base (.bl b), T.bi, ?_⟩⟩
            refine ⟨_, rfl, _, rfl, .inr ⟨.type "bool", .base (.bl b), T.bs, ?_⟩⟩
            refine ⟨_, rfl, _, rfl, .inr ⟨_, _, _, cls_bl T b, .inl ⟨rfl, ?_⟩⟩⟩
            refine ⟨s2s, fun l1 hl1 => ⟨_, rfl, _, rfl, .inr ⟨.type "bool", .base (.bl b), T.bs, ?_⟩⟩⟩
            refine ⟨_, rfl, _, rfl, ifT rfl ⟨s2s, fun l2 hl2 => ?_⟩⟩
            refine ⟨.ref l1, .ref l2, .list [.bool false, .bool true], .list [.bool false, .bool true], rfl, .lst (SqL.of (same_new hl2 _ _ upd_same)) (.cons (.bl _) (.cons (.bl _) .nil)), .lst (SqL.of upd_same) (.cons (.bl _) (.cons (.bl _) .nil)), fine_bb _ _, fine_bb _ _, _, rfl, ifF not_same ?_⟩
            exact ⟨_, _, _, rfl, dr_same d25 ((same_new hl1).trans (same_new hl2))⟩
          | int y =>
            refine ⟨_, rfl, rfl, _, rfl, ifF rfl ⟨_, rfl, _, .ty "int", .type "int", .type "int", true, rfl, .ty _, .base (.int y), T.ii, ?_⟩⟩
            refine ⟨_, rfl, _, rfl, .inr ⟨.type "int", .base (.int y), T.is, ?_⟩⟩
            refine ⟨_, rfl, _, rfl, .inr ⟨_, _, _, cls_int T y, .inl ⟨rfl, ?_⟩⟩⟩
            refine ⟨s2s, fun l1 hl1 => ⟨_, rfl, _, rfl, .inr ⟨.type "int", .base (.int y), T.is, ?_⟩⟩⟩
            refine ⟨_, rfl, _, rfl, ifT rfl ⟨s2s, fun l2 hl2 => ?_⟩⟩
            refine ⟨.ref l1, .ref l2, .list [.bool false, .bool true], .list [.bool false, .bool true], rfl, .lst (SqL.of (same_new hl2 _ _ upd_same)) (.cons (.bl _) (.cons (.bl _) .nil)), .lst (SqL.of upd_same) (.cons (.bl _) (.cons (.bl _) .nil)), fine_bb _ _, fine_bb _ _, _, rfl, ifF not_same ?_⟩
            exact ⟨_, _, _, rfl, dr_same d25 ((same_new hl1).trans (same_new hl2))⟩
          | str y =>
            have ly : y.length ≤ 100000 := Nat.le_trans (lx y rfl) (by decide)
            refine ⟨_, rfl, rfl, _, rfl, ifF rfl ⟨_, rfl, _, .ty "int", .type "str", .type "int", false, rfl, .ty _, .base (.str y), T.si, ?_⟩⟩
            refine ⟨_, rfl, _, rfl, .inl ⟨y, rfl, ly, fun H6 s6 => ?_⟩⟩
            refine ⟨_, rfl, _, rfl, .inr ⟨_, _, _, cls_str T y, .inr ⟨rfl, _, rfl, .inl ⟨y, rfl, ly, fun H7 s7 => ?_⟩⟩⟩⟩
            refine ⟨s2s, fun l1 hl1 => ⟨_, rfl, _, rfl, .inl ⟨y, rfl, ly, fun H8 s8 => ?_⟩⟩⟩
            refine ⟨_, rfl, _, rfl, ifF rfl ⟨_, rfl, _, rfl, .inl ⟨y, rfl, ly, fun H9 s9 => ⟨s2s, fun l2 hl2 => ?_⟩⟩⟩⟩
            refine ⟨.ref l1, .ref l2, .list [.bool (isNameS y), .bool (isNameS y)], .list [.bool (isNameS y), .bool (isNameS y)], rfl, .lst (SqL.of (((s8.trans s9).trans (same_new hl2)) _ _ upd_same)) (.cons (.bl _) (.cons (.bl _) .nil)), .lst (SqL.of upd_same) (.cons (.bl _) (.cons (.bl _) .nil)), fine_bb _ _, fine_bb _ _, _, rfl, ifF not_same ?_⟩
            exact ⟨_, _, _, rfl, dr_same d25 (((((s6.trans s7).trans (same_new hl1)).trans s8).trans s9).trans (same_new hl2))⟩
        · refine ⟨_, rfl, rfl, _, rfl, ifF rfl ⟨_, rfl, _, .ty "int", .type "tuple", .type "int", false, rfl, .ty _, .base (.tup eq), T.ti, ?_⟩⟩
          · refine ⟨_, rfl, _, rfl, .inr ⟨.type "tuple", .base (.tup eq), T.ts, ?_⟩⟩
            refine ⟨_, rfl, _, rfl, .inr ⟨_, _, _, cls_tup T eq, .inr ⟨rfl, _, rfl, .inr ⟨.type "tuple", .base (.tup eq), T.ts, ?_⟩⟩⟩⟩
            refine ⟨s2s, fun l1 hl1 => ⟨_, rfl, _, rfl, .inr ⟨.type "tuple", .base (.tup (same_new hl1 _ _ eq)), T.ts, ?_⟩⟩⟩
            refine ⟨_, rfl, _, rfl, ifF rfl ⟨_, rfl, _, rfl, .inr ⟨.type "tuple", .base (.tup (same_new hl1 _ _ eq)), T.ts, ⟨s2s, fun l2 hl2 => ?_⟩⟩⟩⟩
            refine ⟨.ref l1, .ref l2, .list [.bool false, .bool false], .list [.bool false, .bool false], rfl, .lst (SqL.of (same_new hl2 _ _ upd_same)) (.cons (.bl _) (.cons (.bl _) .nil)), .lst (SqL.of upd_same) (.cons (.bl _) (.cons (.bl _) .nil)), fine_bb _ _, fine_bb _ _, _, rfl, ifF not_same ?_⟩
            exact ⟨_, _, _, rfl, dr_same d25 ((same_new hl1).trans (same_new hl2))⟩
      · rintro σ H2 ⟨w3, w4, w5, rfl, d2⟩
        clear v3 v4 v5
        have s0s : 0 ≤ sizeLine := by decide
        have s2s : 2 ≤ sizeLine := by decide
        refine ⟨_, rfl, a, 12, rfl, d2.fd, (by decide), (by decide), fun r H3 r0 r1 d3 => ⟨_, rfl, by omega, by omega, fun D hD => lc_range (lo := 0) (n := r.toNat) (fun j H' => ∃ xs : List V, xs.length = j ∧ (∀ x ∈ xs, GV x) ∧ H' D = some (.lst xs) ∧ Dr a H3 H')
          ⟨[], rfl, by simp, upd_same, dr_same (dr_refl d3.fd) (same_new hD)⟩ ?_ ?_⟩⟩
        · rintro j H4 hj ⟨xs, lx, gx, eD, d4⟩
          refine ⟨rfl, _, rfl, a, rfl, d4.fd, fun x H5 gx5 d5 => ?_⟩
          have nD : D ≠ a := by
            obtain ⟨x, y, hx, _⟩ := d3.fd
            exact (ne_of_none hx hD).symm
          have eD5 := d5.sm _ _ nD eD
          refine ⟨xs, eD5, by have := sizeLine_eq; omega, xs ++ [x], by rw [List.length_append, lx]; rfl, fun y m => ?_, upd_same, ?_⟩
          · rcases List.mem_append.mp m with m | m
            · exact gx y m
            · cases List.mem_singleton.mp m
              exact gx5
          · obtain ⟨⟨x2, y2, h2, h3⟩, sm⟩ := d4.trans d5
            refine ⟨⟨x2, y2, by rw [upd_ne (Ne.symm nD)]; exact h2, h3⟩, fun b o nb e => ?_⟩
            rw [upd_ne (fun z => by rw [z, hD] at e; cases e)]
            exact sm b o nb e
        rintro H4 ⟨xs, lx, gx, eD, d4⟩
        have nD : D ≠ a := by
          obtain ⟨x, y, hx, _⟩ := d3.fd
          exact (ne_of_none hx hD).symm
        have d14 := (d2.trans d3).trans d4
        have lx12 : xs.length ≤ 12 := by omega
        refine ⟨s0s, fun l hl => ?_⟩
        have nla : l ≠ a := by
          obtain ⟨x, y, hx, _⟩ := d14.fd
          exact (ne_of_none hx hl).symm
        have nlD : l ≠ D := (ne_of_none eD hl).symm
        have d15 := dr_same d14 (same_new (o := .lst []) hl)
        refine ⟨_, rfl, D, rfl, ⟨xs, SqL.of (same_new hl _ _ eD)⟩, for_list (K := K) (a := D) (xs := xs) (fun j σ H' => ∃ (w8 : Option V) (ds : List V), σ = [some (.ref s0), some (.int (0 + (i : Int))), some (.ref a), w3, w4, w5, some (.ref D), some (.ref l), w8, v9, v10, v11, v12, v13] ∧ H' D = some (.lst xs) ∧ H' l = some (.lst ds) ∧ ds.Nodup ∧ (∀ x, x ∈ ds ↔ x ∈ xs.take j) ∧ ds.length ≤ j ∧ Dr a H1 H')
          ⟨v8, [], rfl, same_new hl _ _ eD, upd_same, .nil, by simp, Nat.le_refl _, d15⟩ (fun j σ H' _ ⟨_, _, _, e, _⟩ => SqL.of e) ?_ ?_⟩
        · rintro j x σ H6 hx ⟨w8, ds, rfl, eD6, el6, nd6, m6, ll6, d6⟩
          have gxx := gx x (List.mem_of_getElem? hx)
          have gds : ∀ o ∈ ds, GV o := fun o m => gx o (List.mem_of_mem_take ((m6 o).mp m))
          have hjx : j < xs.length := (List.getElem?_eq_some_iff.mp hx).1
          have mj : ∀ y, y ∈ xs.take (j + 1) ↔ y ∈ xs.take j ∨ y = x := fun y => by
            rw [List.take_add_one, hx, List.mem_append]
            simp
          refine ⟨_, rfl, l, rfl, ⟨_, SqL.of el6⟩, fun E hE => lc_list (K := K) (a := l) (xs := ds) (fun q H' => H' = upd H6 E (.lst ((((ds.take q).filter fun o => decide (o = x)).map fun _ => (1 : Int)).map V.int))) rfl (fun q H' _ h => by rw [h]; exact SqL.of (same_new hE _ _ el6)) ?_ ?_⟩
          · rintro q o H7 ho rfl
            have go := gds o (List.mem_of_getElem? ho)
            refine ⟨rfl, _, rfl, _, rfl, o, x, dV o, dV x, rfl, dp_val go.val, dp_val gxx.val, go.fine, gxx.fine, _, rfl, ?_⟩
            have tq := text_iff go gxx
            have ft := fl_take (fun o => decide (o = x)) ho
            by_cases e : o = x
            · rw [decide_eq_true e] at tq
              refine ifT tq ⟨_, upd_same, ?_, ?_⟩
              · rw [List.length_map, List.length_map]
                refine Nat.lt_of_le_of_lt (List.length_filter_le _ _) ?_
                rw [List.length_take]
                have := sizeLine_eq
                omega
              · rw [upd_two, ft, if_pos (decide_eq_true e), List.map_append]
                rfl
            · rw [decide_eq_false e] at tq
              refine ifF tq ?_
              show upd H6 E _ = upd H6 E _
              rw [ft, if_neg (by rw [decide_eq_false e]; exact Bool.false_ne_true), List.append_nil]
          · rintro H7 rfl
            rw [List.take_of_length_le (Nat.le_refl ds.length)]
            refine ⟨s0s, fun e he => ⟨_, _, .lst (SqL.of (same_new he _ _ upd_same)) (dpAll_ints _), .lst (SqL.of upd_same) .nil, PySem.W.shaped_ints _, (by decide +kernel), _, rfl, ?_⟩⟩
            have ss := (same_new (o := .lst (((ds.filter fun o => decide (o = x)).map fun _ => (1 : Int)).map V.int)) hE).trans (same_new (o := .lst []) he)
            by_cases hm : x ∈ ds
            · have em : PyData.eqv (.list (((ds.filter fun o => decide (o = x)).map fun _ => (1 : Int)).map PyData.int)) (.list []) = false := by
                rw [eqv_ints, List.isEmpty_map]
                have : x ∈ ds.filter fun o => decide (o = x) := List.mem_filter.mpr ⟨hm, decide_eq_true rfl⟩
                cases q : ds.filter fun o => decide (o = x) with
                | nil => rw [q] at this; cases this
                | cons => rfl
              refine ifF em ⟨_, ds, rfl, ss _ _ eD6, ss _ _ el6, nd6, fun y => ?_, by omega, dr_same d6 ss⟩
              rw [mj y, m6 y]
              exact ⟨.inl, fun h => h.elim id fun z => by rw [z]; exact (m6 x).mp hm⟩
            · have em : PyData.eqv (.list (((ds.filter fun o => decide (o = x)).map fun _ => (1 : Int)).map PyData.int)) (.list []) = true := by
                rw [eqv_ints, List.isEmpty_map]
                have : ds.filter (fun o => decide (o = x)) = [] := List.filter_eq_nil_iff.mpr fun o mo h => hm (of_decide_eq_true h ▸ mo)
                rw [this]
                rfl
              refine ifT em ⟨_, rfl, .inl ⟨rfl, _, SqL.of (ss _ _ el6)⟩, _, rfl, l, ds, _, rfl, rfl, ss _ _ el6, by have := sizeLine_eq; omega, ?_⟩
              refine ⟨_, ds ++ [x], rfl, ?_, upd_same, ?_, fun y => ?_, by rw [List.length_append]; show ds.length + 1 ≤ j + 1; omega, ?_⟩
              · rw [upd_ne (Ne.symm nlD)]
                exact ss _ _ eD6
              · refine List.nodup_append.mpr ⟨nd6, by simp, fun u hu v hv => ?_⟩
                cases List.mem_singleton.mp hv
                exact fun z => hm (z ▸ hu)
              · rw [mj y, List.mem_append, m6 y, List.mem_singleton]
              · obtain ⟨⟨x2, y2, h2, h3⟩, sm⟩ := dr_same d6 ss
                refine ⟨⟨x2, y2, by rw [upd_ne (Ne.symm nla)]; exact h2, h3⟩, fun b o nb eb => ?_⟩
                by_cases z : b = l
                · rw [z, dr_free d14 hl] at eb
                  cases eb
                · rw [upd_ne z]
                  exact sm b o nb eb
        rintro σ H6 ⟨w8, ds, rfl, eD6, el6, nd6, m6, ll6, d6⟩
        rw [List.take_of_length_le (Nat.le_refl _)] at m6
        have gds : ∀ o ∈ ds, GV o := fun o m => gx o ((m6 o).mp m)
        have vds : ∀ o ∈ ds, Val o := fun o m => (gds o m).val
        have lsz := sizeLine_eq
        refine ⟨_, rfl, l, ds, rfl, SqL.of el6, fun E hE => lc_it (walk_enum (xs := ds)) (fun j H' => ∃ ps : List (Addr × Addr), ps.length = j ∧ H' E = some (.lst (ps.map fun p => V.ref p.2)) ∧ (∀ i p, ps[i]? = some p → H' p.2 = some (.tup [.ref p.1, .int (i : Nat)]) ∧ H' p.1 = some (.tup (tupT (ds.getD i .non)))) ∧ Same H6 H')
          ⟨[], rfl, upd_same, fun i p h => by simp at h, same_new hE⟩ (fun j H' _ ⟨_, _, _, _, s⟩ => s.seq (SqL.of el6)) ?_ ?_⟩
        · rintro j x H7 H8 hj ⟨ps, lp, eE, hp, s7⟩ ⟨T1, u, y, rfl, nT, rfl, hu1, hy⟩
          cases hu1
          have hy : ds[j]? = some y := hy
          have my := List.mem_of_getElem? hy
          have ed : ds.getD j .non = y := by rw [List.getD_eq_getElem?_getD, hy]; rfl
          refine ⟨T1, _, rfl, SqT.of upd_same, rfl, _, _, rfl, _, _, rfl, rfl, rfl, _, rfl, y, rfl, vds y my, fun p hp1 => ⟨_, rfl, s2s, fun q hq => ?_⟩⟩
          have sA := same_new (o := .tup [.int ((j : Nat) : Int), y]) nT
          have sB := same_new (o := .tup (tupT y)) hp1
          have sC := same_new (o := .tup [.ref p, .int ((j : Nat) : Int)]) hq
          have sAC := (sA.trans sB).trans sC
          have nE : ∀ b o, H7 b = some o → b ≠ E → True := fun _ _ _ _ => trivial
          have eE8 := sAC _ _ eE
          refine ⟨_, eE8, by rw [List.length_map]; omega, ps ++ [(p, q)], by rw [List.length_append, lp]; rfl, by rw [upd_same, List.map_append]; rfl, fun i2 p2 h2 => ?_, fun b o eb => ?_⟩
          · have nE' : ∀ b t, (upd (upd (upd H7 T1 (.tup [.int ((j : Nat) : Int), y])) p (.tup (tupT y))) q (.tup [.ref p, .int ((j : Nat) : Int)])) b = some (.tup t) → b ≠ E := fun b t h z => by
              rw [z, eE8] at h
              cases h
            have keep : ∀ b t, (upd (upd (upd H7 T1 (.tup [.int ((j : Nat) : Int), y])) p (.tup (tupT y))) q (.tup [.ref p, .int ((j : Nat) : Int)])) b = some (.tup t) → (upd (upd (upd (upd H7 T1 (.tup [.int ((j : Nat) : Int), y])) p (.tup (tupT y))) q (.tup [.ref p, .int ((j : Nat) : Int)])) E (.lst ((ps.map fun p => V.ref p.2) ++ [V.ref q]))) b = some (.tup t) := fun b t h => by
              rw [upd_ne (nE' b t h)]
              exact h
            by_cases hi2 : i2 < ps.length
            · rw [List.getElem?_append_left hi2] at h2
              obtain ⟨q1, q2⟩ := hp i2 p2 h2
              exact ⟨keep _ _ (sAC _ _ q1), keep _ _ (sAC _ _ q2)⟩
            · have e2 : i2 = ps.length := by
                have := (List.getElem?_eq_some_iff.mp h2).1
                rw [List.length_append] at this
                have : i2 < ps.length + 1 := this
                omega
              subst e2
              rw [List.getElem?_append_right (Nat.le_refl _), Nat.sub_self] at h2
              cases h2
              rw [lp, ed]
              exact ⟨keep _ _ upd_same, keep _ _ (sC _ _ upd_same)⟩
          · have nb : b ≠ E := fun z => by
              rw [z, hE] at eb
              cases eb
            rw [upd_ne nb]
            exact sAC _ _ (s7 _ _ eb)
        rintro H7 ⟨ps, lp, eE, hp, s7⟩
        have at7 : ∀ i, i < ds.length → H7 (ps.getD i (0, 0)).2 = some (.tup [.ref (ps.getD i (0, 0)).1, .int (i : Nat)]) ∧ H7 (ps.getD i (0, 0)).1 = some (.tup (tupT (ds.getD i .non))) := fun i hi => by
          have h : i < ps.length := by omega
          have e : ps[i]? = some (ps.getD i (0, 0)) := by rw [List.getD_eq_getElem?_getD, List.getElem?_eq_getElem h]; rfl
          exact hp i _ e
        refine ⟨E, Nat, List.range ds.length, (fun i => V.ref (ps.getD i (0, 0)).2), (fun i => encT (ds.getD i .non) i), rfl, ?_, fun i mi => ?_, fun d md e me => ?_, .inl fun d md => ?_, fun i _ => depth_T _ _, fun q hq => ?_⟩
        · rw [map_getD (fun p : Addr × Addr => V.ref p.2) (0, 0) ps, lp] at eE
          exact SqL.of eE
        · obtain ⟨q1, q2⟩ := at7 i (List.mem_range.mp mi)
          exact .tup (SqT.of q1) (.cons (.tup (SqT.of q2) (.cons (.int _) (.cons (.int _) (.cons (.str _) .nil)))) (.cons (.int _) .nil))
        · obtain ⟨i1, _, rfl⟩ := List.mem_map.mp md
          obtain ⟨i2, _, rfl⟩ := List.mem_map.mp me
          exact alike_T _ _ _ _
        · obtain ⟨i1, _, rfl⟩ := List.mem_map.mp md
          exact ⟨_, _, rfl⟩
        have io : InOrd (((List.range ds.length).mergeSort (leT ds)).map fun i => ds.getD i .non) xs := by
          obtain ⟨u1, u2⟩ := due_ord nd6 vds
          exact ⟨u1, fun x => (u2 x).trans (m6 x)⟩
        have lsrt : ((List.range ds.length).mergeSort (leT ds)).length = ds.length := by rw [(List.mergeSort_perm _ _).length_eq, List.length_range]
        have msrt : ∀ i ∈ (List.range ds.length).mergeSort (leT ds), i < ds.length := fun i m => List.mem_range.mp ((List.mergeSort_perm _ _).mem_iff.mp m)
        have sq := same_new (o := .lst (((List.range ds.length).mergeSort (leT ds)).map fun i => V.ref (ps.getD i (0, 0)).2)) hq
        refine ⟨q, rfl, ⟨_, SqL.of upd_same⟩, fun E2 hE2 => lc_list (K := K) (a := q) (xs := ((List.range ds.length).mergeSort (leT ds)).map fun i => V.ref (ps.getD i (0, 0)).2) (fun j H' => H' E2 = some (.lst ((((List.range ds.length).mergeSort (leT ds)).take j).map fun i => ds.getD i .non)) ∧ Same (upd H7 q (.lst (((List.range ds.length).mergeSort (leT ds)).map fun i => V.ref (ps.getD i (0, 0)).2))) H')
          ⟨upd_same, same_new hE2⟩ (fun j H' _ h => SqL.of (h.2 _ _ upd_same)) ?_ ?_⟩
        · rintro j x H8 hx ⟨e2, s8⟩
          rw [List.getElem?_map] at hx
          obtain ⟨i2, hi2, rfl⟩ := Option.map_eq_some_iff.mp hx
          have li2 := msrt i2 (List.mem_of_getElem? hi2)
          obtain ⟨q1, q2⟩ := at7 i2 li2
          refine ⟨_, _, rfl, SqT.of (s8 _ _ (sq _ _ q1)), rfl, _, _, rfl, _, _, rfl, rfl, rfl, _, rfl, _, rfl, l, _, _, ds[i2], rfl, rfl, SqL.of (s8 _ _ (sq _ _ (s7 _ _ el6))), atI_nat (List.getElem?_eq_getElem li2), _, e2, ?_, ?_, fun c u e => ?_⟩
          · rw [List.length_map, List.length_take]
            omega
          · rw [upd_same, List.take_add_one, hi2, List.map_append]
            have ed : ds.getD i2 .non = ds[i2] := by rw [List.getD_eq_getElem?_getD, List.getElem?_eq_getElem li2]; rfl
            show some (HO.lst (_ ++ [ds[i2]])) = some (HO.lst (_ ++ [ds.getD i2 .non]))
            rw [ed]
          · rw [upd_ne (fun z => by rw [z] at e; cases (e.symm.trans hE2))]
            exact s8 _ _ e
        have nE2 : E2 ≠ a := by
          obtain ⟨x, y, hx, _⟩ := d6.fd
          exact (ne_of_none (sq _ _ (s7 _ _ hx)) hE2).symm
        rintro H8 ⟨e2, s8⟩
        rw [List.length_map, List.take_of_length_le (Nat.le_refl _)] at e2
        have lz : (((List.range ds.length).mergeSort (leT ds)).map fun i => ds.getD i .non).length ≤ 1000 := by rw [List.length_map, lsrt]; omega
        generalize (((List.range ds.length).mergeSort (leT ds)).map fun i => ds.getD i .non) = zs at io e2 lz
        have d8 := dr_same d6 ((s7.trans sq).trans s8)
        have eD8 := s8 _ _ (sq _ _ (s7 _ _ eD6))
        clear at7 eE hp s7 lsrt msrt sq s8
        refine ⟨fun σ H' => ∃ p, σ = [some (.ref s0), some (.int (0 + (i : Int))), some (.ref a), w3, w4, w5, some (.ref D), some (.ref E2), w8, some (.ref p), v10, v11, v12, v13] ∧ (SqL K H' p xs ∨ SqT K H' p xs) ∧ H' D = some (.lst xs) ∧ H' E2 = some (.lst zs) ∧ Dr a H1 H', ?_, ?_⟩
        · refine ⟨_, rfl, a, 2, rfl, d8.fd, (by decide), (by decide), fun r9 H9 r90 r91 d9 => ?_⟩
          have eD9 := d9.sm _ _ nD eD8
          have e29 := d9.sm _ _ nE2 e2
          refine ⟨rfl, _, rfl, ?_⟩
          refine iteD (fun h0 => ?_) (fun h0 => ?_)
          · refine ⟨_, rfl, D, xs, rfl, .inl ⟨SqL.of eD9, fun p hp => ?_⟩⟩
            have sp := same_new (o := .tup xs) hp
            exact ⟨p, rfl, .inr (SqT.of upd_same), sp _ _ eD9, sp _ _ e29, dr_same (d8.trans d9) sp⟩
          · refine ⟨_, rfl, D, xs, rfl, .inl (SqL.of eD9), fun p hp => ?_⟩
            have sp := same_new (o := .lst xs) hp
            exact ⟨p, rfl, .inl (SqL.of upd_same), sp _ _ eD9, sp _ _ e29, dr_same (d8.trans d9) sp⟩
        · rintro σ H9 ⟨p, rfl, hS9, eD9, e29, d9⟩
          have vxs : ∀ x ∈ xs, Val x := fun x m => (gx x m).val
          refine ⟨_, rfl, p, xs, rfl, hS9, vxs, by omega, fun q1 zs' H10 hq1 s10 eq1 io' => ⟨_, rfl, ?_⟩⟩
          obtain rfl : zs' = zs := io'.uniq io
          have gzs : ∀ x ∈ zs', GV x := fun x m => gx x ((io.mem x).mp m)
          have lzs : zs'.length ≤ 1000 := lz
          have vzs : ∀ x ∈ zs', Val x := fun x m => (gzs x m).val
          refine ⟨.ref q1, .ref E2, .list (zs'.map dV), .list (zs'.map dV), rfl, .lst (SqL.of eq1) (dpAll_vals vzs), .lst (SqL.of (s10 _ _ e29)) (dpAll_vals vzs), fine_vals lzs gzs, fine_vals lzs gzs, _, rfl, ifF not_same ?_⟩
          have d10 := dr_same d9 s10
          have eD10 := s10 _ _ eD9
          refine ⟨_, rfl, D, rfl, ⟨xs, SqL.of eD10⟩, for_list (K := K) (a := D) (xs := xs) (fun j σ H' => ∃ w10 : Option V, σ = [some (.ref s0), some (.int (0 + (i : Int))), some (.ref a), w3, w4, w5, some (.ref D), some (.ref E2), w8, some (.ref p), w10, v11, v12, v13] ∧ H' D = some (.lst xs) ∧ Dr a H1 H')
            ⟨v10, rfl, eD10, d10⟩ (fun j σ H' _ ⟨_, _, e, _⟩ => SqL.of e) ?_ ?_⟩
          · rintro j x σ H11 hx ⟨w10, rfl, eD11, d11⟩
            have gxx := gx x (List.mem_of_getElem? hx)
            refine ⟨_, rfl, x, rfl, gxx.val, gxx.fineV, ⟨_, rfl, x, rfl, gxx.val, gxx.fineV, fun H12 s12 => ?_⟩⟩
            refine ⟨.str (showS x), .str (showS x), .str (showS x), .str (showS x), rfl, .str _, .str _, fine_show gxx, fine_show gxx, _, rfl, ifF not_same ?_⟩
            have eD12 := s12 _ _ eD11
            have d12 := dr_same d11 s12
            refine ⟨_, rfl, D, rfl, ⟨xs, SqL.of eD12⟩, fun B hB => lc_list (K := K) (a := D) (xs := xs) (fun q H' => H' = upd H12 B (.lst (((xs.take q).map fun o => decide (x = o)).map V.bl))) rfl (fun q H' _ h => by rw [h]; exact SqL.of (same_new hB _ _ eD12)) ?_ ?_⟩
            · rintro q o H13 ho rfl
              have go := gx o (List.mem_of_getElem? ho)
              refine ⟨rfl, _, rfl, _, rfl, x, o, rfl, gxx.val, go.val, _, upd_same, ?_, ?_⟩
              · rw [List.length_map, List.length_map, List.length_take]
                omega
              · rw [upd_two, List.take_add_one, ho, List.map_append, List.map_append]
                rfl
            rintro H13 rfl
            rw [List.take_of_length_le (Nat.le_refl xs.length)]
            have sB := same_new (o := .lst ((xs.map fun o => decide (x = o)).map V.bl)) hB
            refine ⟨_, rfl, D, rfl, ⟨xs, SqL.of (sB _ _ eD12)⟩, fun C hC => lc_list (K := K) (a := D) (xs := xs) (fun q H' => H' = upd (upd H12 B (.lst ((xs.map fun o => decide (x = o)).map V.bl))) C (.lst (((xs.take q).map fun o => decide (x = o)).map V.bl))) rfl (fun q H' _ h => by rw [h]; exact SqL.of (same_new hC _ _ (sB _ _ eD12))) ?_ ?_⟩
            · rintro q o H13 ho rfl
              have go := gx o (List.mem_of_getElem? ho)
              refine ⟨rfl, _, rfl, _, rfl, x, o, dV x, dV o, rfl, dp_val gxx.val, dp_val go.val, gxx.fine, go.fine, _, upd_same, ?_, ?_⟩
              · rw [List.length_map, List.length_map, List.length_take]
                omega
              · rw [upd_two, List.take_add_one, ho, List.map_append, List.map_append, text_iff gxx go]
                rfl
            rintro H13 rfl
            rw [List.take_of_length_le (Nat.le_refl xs.length)]
            have sC := same_new (o := .lst ((xs.map fun o => decide (x = o)).map V.bl)) hC
            have lb : (xs.map fun o => decide (x = o)).length ≤ 1000 := by rw [List.length_map]; omega
            refine ⟨.ref B, .ref C, .list ((xs.map fun o => decide (x = o)).map PyData.bool), .list ((xs.map fun o => decide (x = o)).map PyData.bool), rfl, .lst (SqL.of (sC _ _ upd_same)) (dpAll_bools _), .lst (SqL.of upd_same) (dpAll_bools _), fine_bools lb, fine_bools lb, _, rfl, ifF not_same ?_⟩
            exact ⟨_, rfl, (sB.trans sC) _ _ eD12, dr_same d12 (sB.trans sC)⟩
          · rintro σ H11 ⟨w10, rfl, eD11, d11⟩
            exact ⟨_, _, _, _, _, _, _, _, _, _, _, _, _, rfl, same_dr (sH.free ha) (sH.trans S1) d11⟩
    · rintro σ H' ⟨v1, v2, v3, v4, v5, v6, v7, v8, v9, v10, v11, v12, v13, rfl, sH⟩
      exact k _
end
end R2

namespace R2
open PySem L2 L3
theorem kitT (K : PySem.W.Frag) : KitT K := ⟨kit_ty (by decide +kernel), kit_ty (by decide +kernel), kit_ty (by decide +kernel), kit_ty (by decide +kernel), kit_ty (by decide +kernel), kit_ty (by decide +kernel), kit_ty (by decide +kernel), kit_ty (by decide +kernel), kit_ty (by decide +kernel), kit_ty (by decide +kernel), kit_ty (by decide +kernel), kit_ty (by decide +kernel)⟩
theorem all_mk {l : PySem.W.OpenLaw} {w : World} {K : PySem.W.Frag} {h : Heap} {mg : Str → Option Value} {fa fN fV fC fS fRk fO fW fF fT fMi fL fU fM fD fH fR fX fZ : Addr} {tL tD tM : Tok} {odN anN odV anV odC anC odS anS odRk anRk odO anO odW anW odF anF odT anT odMi anMi odL anL odU anU odM anM odD anD odH anH odR anR odX anX odZ anZ : Option Addr} {slN slV slC slS slRk slO slW slF slT slMi slL slU slM slD slH slR slX slZ : Array (Option Value)} {ocN kVN dcN pmN cdN ctN ocV kVV dcV pmV cdV ctV ocC kVC dcC pmC cdC ctC ocS kVS dcS pmS cdS ctS ocRk kVRk dcRk pmRk cdRk ctRk ocO kVO dcO pmO cdO ctO ocW kVW dcW pmW cdW ctW ocF kVF dcF pmF cdF ctF ocT kVT dcT pmT cdT ctT ocMi kVMi dcMi pmMi cdMi ctMi ocL kVL dcL pmL cdL ctL ocU kVU dcU pmU cdU ctU ocM kVM dcM pmM cdM ctM ocD kVD dcD pmD cdD ctD ocH kVH dcH pmH cdH ctH ocR kVR dcR pmR cdR ctR ocX kVX dcX pmX cdX ctX ocZ kVZ dcZ pmZ cdZ ctZ : Value} (X : K.In h) (G : h.Ns mainGlobals mg) (hfa : mg "law" = some (.ref fa))
    (aN : PySem.W.nsIn K mainGlobals "is_name" = some (some (.ref fN)))
    (lN : K.lookup fN = some ⟨ocN, odN, .func (PySem.W.fnOf "is_name" "is_name" (defArgs sIsName) (defBody sIsName) (defScope sIsName) .none kVN dcN pmN anN cdN ctN), slN⟩)
    (cN : PySem.W.codeIn K cdN "is_name" = true)
    (kN : PySem.W.keepIn K (.ref fN) = true)
    (aV : PySem.W.nsIn K mainGlobals "is_value" = some (some (.ref fV)))
    (lV : K.lookup fV = some ⟨ocV, odV, .func (PySem.W.fnOf "is_value" "is_value" (defArgs sIsValue) (defBody sIsValue) (defScope sIsValue) .none kVV dcV pmV anV cdV ctV), slV⟩)
    (cV : PySem.W.codeIn K cdV "is_value" = true)
    (kV : PySem.W.keepIn K (.ref fV) = true)
    (aC : PySem.W.nsIn K mainGlobals "kind_of" = some (some (.ref fC)))
    (lC : K.lookup fC = some ⟨ocC, odC, .func (PySem.W.fnOf "kind_of" "kind_of" (defArgs sKind) (defBody sKind) (defScope sKind) .none kVC dcC pmC anC cdC ctC), slC⟩)
    (cC : PySem.W.codeIn K cdC "kind_of" = true)
    (kC : PySem.W.keepIn K (.ref fC) = true)
    (aS : PySem.W.nsIn K mainGlobals "is_same" = some (some (.ref fS)))
    (lS : K.lookup fS = some ⟨ocS, odS, .func (PySem.W.fnOf "is_same" "is_same" (defArgs sIsSame) (defBody sIsSame) (defScope sIsSame) .none kVS dcS pmS anS cdS ctS), slS⟩)
    (cS : PySem.W.codeIn K cdS "is_same" = true)
    (kS : PySem.W.keepIn K (.ref fS) = true)
    (aRk : PySem.W.nsIn K mainGlobals "rank" = some (some (.ref fRk)))
    (lRk : K.lookup fRk = some ⟨ocRk, odRk, .func (PySem.W.fnOf "rank" "rank" (defArgs sRank) (defBody sRank) (defScope sRank) .none kVRk dcRk pmRk anRk cdRk ctRk), slRk⟩)
    (cRk : PySem.W.codeIn K cdRk "rank" = true)
    (kRk : PySem.W.keepIn K (.ref fRk) = true)
    (aO : PySem.W.nsIn K mainGlobals "in_order" = some (some (.ref fO)))
    (lO : K.lookup fO = some ⟨ocO, odO, .func (PySem.W.fnOf "in_order" "in_order" (defArgs sInOrder) (defBody sInOrder) (defScope sInOrder) .none kVO dcO pmO anO cdO ctO), slO⟩)
    (cO : PySem.W.codeIn K cdO "in_order" = true)
    (kO : PySem.W.keepIn K (.ref fO) = true)
    (aW : PySem.W.nsIn K mainGlobals "show" = some (some (.ref fW)))
    (lW : K.lookup fW = some ⟨ocW, odW, .func (PySem.W.fnOf "show" "show" (defArgs sShow) (defBody sShow) (defScope sShow) .none kVW dcW pmW anW cdW ctW), slW⟩)
    (cW : PySem.W.codeIn K cdW "show" = true)
    (kW : PySem.W.keepIn K (.ref fW) = true)
    (aF : PySem.W.nsIn K mainGlobals "_law_feed" = some (some (.ref fF)))
    (lF : K.lookup fF = some ⟨ocF, odF, .func (PySem.W.fnOf "_law_feed" "_law_feed" (defArgs sFeed) (defBody sFeed) (defScope sFeed) .none kVF dcF pmF anF cdF ctF), slF⟩)
    (cF : PySem.W.codeIn K cdF "_law_feed" = true)
    (kF : PySem.W.keepIn K (.ref fF) = true)
    (aT : PySem.W.nsIn K mainGlobals "_law_take" = some (some (.ref fT)))
    (lT : K.lookup fT = some ⟨ocT, odT, .func (PySem.W.fnOf "_law_take" "_law_take" (defArgs sTake) (defBody sTake) (defScope sTake) .none kVT dcT pmT anT cdT ctT), slT⟩)
    (cT : PySem.W.codeIn K cdT "_law_take" = true)
    (kT : PySem.W.keepIn K (.ref fT) = true)
    (aMi : PySem.W.nsIn K mainGlobals "_law_mixed" = some (some (.ref fMi)))
    (lMi : K.lookup fMi = some ⟨ocMi, odMi, .func (PySem.W.fnOf "_law_mixed" "_law_mixed" (defArgs sMixed) (defBody sMixed) (defScope sMixed) .none kVMi dcMi pmMi anMi cdMi ctMi), slMi⟩)
    (cMi : PySem.W.codeIn K cdMi "_law_mixed" = true)
    (kMi : PySem.W.keepIn K (.ref fMi) = true)
    (aL : PySem.W.nsIn K mainGlobals "_law_titles" = some (some (.ref fL)))
    (lL : K.lookup fL = some ⟨ocL, odL, .func (PySem.W.fnOf "_law_titles" "_law_titles" (defArgs sTitles) (defBody sTitles) (defScope sTitles) .none kVL dcL pmL anL cdL ctL), slL⟩)
    (cL : PySem.W.codeIn K cdL "_law_titles" = true)
    (kL : PySem.W.keepIn K (.ref fL) = true)
    (aU : PySem.W.nsIn K mainGlobals "_law_value" = some (some (.ref fU)))
    (lU : K.lookup fU = some ⟨ocU, odU, .func (PySem.W.fnOf "_law_value" "_law_value" (defArgs sValue) (defBody sValue) (defScope sValue) .none kVU dcU pmU anU cdU ctU), slU⟩)
    (cU : PySem.W.codeIn K cdU "_law_value" = true)
    (kU : PySem.W.keepIn K (.ref fU) = true)
    (aM : PySem.W.nsIn K mainGlobals "_law_same" = some (some (.ref fM)))
    (lM : K.lookup fM = some ⟨ocM, odM, .func (PySem.W.fnOf "_law_same" "_law_same" (defArgs sSame) (defBody sSame) (defScope sSame) .none kVM dcM pmM anM cdM ctM), slM⟩)
    (cM : PySem.W.codeIn K cdM "_law_same" = true)
    (kM : PySem.W.keepIn K (.ref fM) = true)
    (aD : PySem.W.nsIn K mainGlobals "_law_named" = some (some (.ref fD)))
    (lD : K.lookup fD = some ⟨ocD, odD, .func (PySem.W.fnOf "_law_named" "_law_named" (defArgs sNamed) (defBody sNamed) (defScope sNamed) .none kVD dcD pmD anD cdD ctD), slD⟩)
    (cD : PySem.W.codeIn K cdD "_law_named" = true)
    (kD : PySem.W.keepIn K (.ref fD) = true)
    (aH : PySem.W.nsIn K mainGlobals "_law_thing" = some (some (.ref fH)))
    (lH : K.lookup fH = some ⟨ocH, odH, .func (PySem.W.fnOf "_law_thing" "_law_thing" (defArgs sThing) (defBody sThing) (defScope sThing) .none kVH dcH pmH anH cdH ctH), slH⟩)
    (cH : PySem.W.codeIn K cdH "_law_thing" = true)
    (kH : PySem.W.keepIn K (.ref fH) = true)
    (aR : PySem.W.nsIn K mainGlobals "_law_rank" = some (some (.ref fR)))
    (lR : K.lookup fR = some ⟨ocR, odR, .func (PySem.W.fnOf "_law_rank" "_law_rank" (defArgs sRank2) (defBody sRank2) (defScope sRank2) .none kVR dcR pmR anR cdR ctR), slR⟩)
    (cR : PySem.W.codeIn K cdR "_law_rank" = true)
    (kR : PySem.W.keepIn K (.ref fR) = true)
    (aX : PySem.W.nsIn K mainGlobals "_law_text" = some (some (.ref fX)))
    (lX : K.lookup fX = some ⟨ocX, odX, .func (PySem.W.fnOf "_law_text" "_law_text" (defArgs sText) (defBody sText) (defScope sText) .none kVX dcX pmX anX cdX ctX), slX⟩)
    (cX : PySem.W.codeIn K cdX "_law_text" = true)
    (kX : PySem.W.keepIn K (.ref fX) = true)
    (aZ : PySem.W.nsIn K mainGlobals "law" = some (some (.ref fZ)))
    (lZ : K.lookup fZ = some ⟨ocZ, odZ, .func (PySem.W.fnOf "law" "law" (defArgs sLaw) (defBody sLaw) (defScope sLaw) .none kVZ dcZ pmZ anZ cdZ ctZ), slZ⟩)
    (cZ : PySem.W.codeIn K cdZ "law" = true)
    (kZ : PySem.W.keepIn K (.ref fZ) = true)
    (z_range : PySem.W.nsIn K mainGlobals "range" = some none)
    (z_max : PySem.W.nsIn K mainGlobals "max" = some none)
    (z_min : PySem.W.nsIn K mainGlobals "min" = some none)
    (z_len : PySem.W.nsIn K mainGlobals "len" = some none)
    (z_isinstance : PySem.W.nsIn K mainGlobals "isinstance" = some none)
    (z_int : PySem.W.nsIn K mainGlobals "int" = some none)
    (z_sorted : PySem.W.nsIn K mainGlobals "sorted" = some none)
    (z_enumerate : PySem.W.nsIn K mainGlobals "enumerate" = some none)
    (z_tuple : PySem.W.nsIn K mainGlobals "tuple" = some none)
    (z_list : PySem.W.nsIn K mainGlobals "list" = some none)
    (z_str : PySem.W.nsIn K mainGlobals "str" = some none)
    (z_bool : PySem.W.nsIn K mainGlobals "bool" = some none)
    (z_repr : PySem.W.nsIn K mainGlobals "repr" = some none)
    (z_abs : PySem.W.nsIn K mainGlobals "abs" = some none)
    (z_all : PySem.W.nsIn K mainGlobals "all" = some none)
    (gLe : PySem.W.nsIn K mainGlobals "LETTERS" = some (some (.str letters tL)))
    (gDi : PySem.W.nsIn K mainGlobals "DIGITS" = some (some (.str digits tD)))
    (gMo : PySem.W.nsIn K mainGlobals "MOST_SIGNS" = some (some (.int 6 tM))) :
    ∃ fd : FuncData, (∀ (s : Shared) (v : Value), BindsTo s fd ⟨[v], []⟩ [("_law_script", v)]) ∧ ∀ base : Heap, K.In base → base.Ns mainGlobals mg → FnG l.prog w K mg base CX0 4 fa fd ["_law_script"] (spLaw K) := by
  have e := hfa.symm.trans (PySem.W.mg_of X G aZ)
  cases e
  have z : ZN mg := ⟨PySem.W.mg_none_of X G z_range, PySem.W.mg_none_of X G z_max, PySem.W.mg_none_of X G z_min, PySem.W.mg_none_of X G z_len, PySem.W.mg_none_of X G z_isinstance, PySem.W.mg_none_of X G z_int, PySem.W.mg_none_of X G z_sorted, PySem.W.mg_none_of X G z_enumerate, PySem.W.mg_none_of X G z_tuple, PySem.W.mg_none_of X G z_list, PySem.W.mg_none_of X G z_str, PySem.W.mg_none_of X G z_bool, PySem.W.mg_none_of X G z_repr, PySem.W.mg_none_of X G z_abs, PySem.W.mg_none_of X G z_all⟩
  have T := kitT K
  have FN := fun_mk (st := sIsName) lN cN kN
  have bN := FN.binds (ps := ["value"]) fun _ _ _ _ _ _ us hl => match us, hl with | [_], _ => rfl
  have gN := PySem.W.mg_of X G aN
  have FV := fun_mk (st := sIsValue) lV cV kV
  have bV := FV.binds (ps := ["value"]) fun _ _ _ _ _ _ us hl => match us, hl with | [_], _ => rfl
  have gV := PySem.W.mg_of X G aV
  have FC := fun_mk (st := sKind) lC cC kC
  have bC := FC.binds (ps := ["value"]) fun _ _ _ _ _ _ us hl => match us, hl with | [_], _ => rfl
  have gC := PySem.W.mg_of X G aC
  have FS := fun_mk (st := sIsSame) lS cS kS
  have bS := FS.binds (ps := ["one", "other"]) fun _ _ _ _ _ _ us hl => match us, hl with | [_, _], _ => rfl
  have gS := PySem.W.mg_of X G aS
  have FRk := fun_mk (st := sRank) lRk cRk kRk
  have bRk := FRk.binds (ps := ["value"]) fun _ _ _ _ _ _ us hl => match us, hl with | [_], _ => rfl
  have gRk := PySem.W.mg_of X G aRk
  have FO := fun_mk (st := sInOrder) lO cO kO
  have bO := FO.binds (ps := ["values"]) fun _ _ _ _ _ _ us hl => match us, hl with | [_], _ => rfl
  have gO := PySem.W.mg_of X G aO
  have FW := fun_mk (st := sShow) lW cW kW
  have bW := FW.binds (ps := ["value"]) fun _ _ _ _ _ _ us hl => match us, hl with | [_], _ => rfl
  have gW := PySem.W.mg_of X G aW
  have FF := fun_mk (st := sFeed) lF cF kF
  have bF := FF.binds (ps := ["_law_script", "_law_k"]) fun _ _ _ _ _ _ us hl => match us, hl with | [_, _], _ => rfl
  have gF := PySem.W.mg_of X G aF
  have FT := fun_mk (st := sTake) lT cT kT
  have bT := FT.binds (ps := ["_law_feed_here", "_law_many"]) fun _ _ _ _ _ _ us hl => match us, hl with | [_, _], _ => rfl
  have gT := PySem.W.mg_of X G aT
  have FMi := fun_mk (st := sMixed) lMi cMi kMi
  have bMi := FMi.binds (ps := ["_law_feed_here", "_law_some"]) fun _ _ _ _ _ _ us hl => match us, hl with | [_, _], _ => rfl
  have gMi := PySem.W.mg_of X G aMi
  have FL := fun_mk (st := sTitles) lL cL kL
  have bL := FL.binds (ps := ["_law_feed_here", "_law_many"]) fun _ _ _ _ _ _ us hl => match us, hl with | [_, _], _ => rfl
  have gL := PySem.W.mg_of X G aL
  have FU := fun_mk (st := sValue) lU cU kU
  have bU := FU.binds (ps := ["_law_feed_here"]) fun _ _ _ _ _ _ us hl => match us, hl with | [_], _ => rfl
  have gU := PySem.W.mg_of X G aU
  have FM := fun_mk (st := sSame) lM cM kM
  have bM := FM.binds (ps := ["_law_one", "_law_other"]) fun _ _ _ _ _ _ us hl => match us, hl with | [_, _], _ => rfl
  have gM := PySem.W.mg_of X G aM
  have FD := fun_mk (st := sNamed) lD cD kD
  have bD := FD.binds (ps := ["_law_value_here"]) fun _ _ _ _ _ _ us hl => match us, hl with | [_], _ => rfl
  have gD := PySem.W.mg_of X G aD
  have FH := fun_mk (st := sThing) lH cH kH
  have bH := FH.binds (ps := ["_law_feed_here", "_law_title"]) fun _ _ _ _ _ _ us hl => match us, hl with | [_, _], _ => rfl
  have gH := PySem.W.mg_of X G aH
  have FR := fun_mk (st := sRank2) lR cR kR
  have bR := FR.binds (ps := ["_law_value_here"]) fun _ _ _ _ _ _ us hl => match us, hl with | [_], _ => rfl
  have gR := PySem.W.mg_of X G aR
  have FX := fun_mk (st := sText) lX cX kX
  have bX := FX.binds (ps := ["_law_value_here"]) fun _ _ _ _ _ _ us hl => match us, hl with | [_], _ => rfl
  have gX := PySem.W.mg_of X G aX
  have FZ := fun_mk (st := sLaw) lZ cZ kZ
  refine ⟨PySem.W.fnOf "law" "law" (defArgs sLaw) (defBody sLaw) (defScope sLaw) .none kVZ dcZ pmZ anZ cdZ ctZ, fun s v => .of_eq rfl, fun base _ _ => ?_⟩
  have GN := ok_isname (P := l.prog) (w := w) (base := base) FN z.isi z.str z.len z.all_ ⟨_, PySem.W.mg_of X G gLe, ⟨_, rfl⟩⟩ ⟨_, PySem.W.mg_of X G gDi, ⟨_, rfl⟩⟩ ⟨_, PySem.W.mg_of X G gMo, ⟨_, rfl⟩⟩ T.ss
  have GVv := ok_isvalue FV z.isi z.int GN FN.kp bN gN
  have GC := ok_kind (P := l.prog) (w := w) (base := base) FC z.isi z.str z.bool z.int
  have GS := ok_issame FS T GC FC.kp bC gC
  have GRk := ok_rank FRk T z.int GC FC.kp bC gC
  have GO := ok_inorder FO z.lst z.srt GRk FRk.kp bRk gRk
  have GW := ok_show (P := l.prog) (w := w) (base := base) FW T z.isi z.str
  have GF := ok_feed (P := l.prog) (w := w) (base := base) FF z.len z.abs_
  have GT : FnOk l.prog w K mg base CX0 1 _ _ _ spTake := ok_take FT
  have GL := ok_titles (P := l.prog) (w := w) (base := base) (G := GName) FL FT bT gT FMi bMi gMi z.lst z.rng z.len z.int z.str gn4 gn0 gn1 gn2 gn3
  have GU := ok_value (P := l.prog) (w := w) (base := base) FU FT bT gT
  have GM := ok_same (P := l.prog) (w := w) (base := base) FM z.rep
  have GD := ok_named (P := l.prog) (w := w) (base := base) FD z.isi z.str z.len T.ss
  have GH := ok_thing (P := l.prog) (w := w) (base := base) FH FT bT gT z.len z.rng
  have GR := ok_rank2 (P := l.prog) (w := w) (base := base) FR T z.isi z.str z.bool z.int
  have GX := ok_text (P := l.prog) (w := w) (base := base) FX T z.isi z.str z.bool z.int
  exact ok_law FZ T (kit_ty (by decide +kernel)) z GN FN.kp bN gN GVv FV.kp bV gV GS FS.kp bS gS GO FO.kp bO gO GW FW.kp bW gW GF FF.kp bF gF GT FT.kp bT gT GL FL.kp bL gL GU FU.kp bU gU GM FM.kp bM gM GD FD.kp bD gD GH FH.kp bH gH GR FR.kp bR gR GX FX.kp bX gX
theorem walk {l : PySem.W.OpenLaw} {q : Program} {loose : List Str} {XP : (Str → Option Value) → Heap → Prop} {YP : World → Heap → Prop} {d : DefRec} {K : Params → PySem.W.Frag} (hn : l.most = some 63) (hdf : d.params.defaults = [])
    (hY : ∀ (w : World) (h : Heap), YP w h → (K w.params).In h)
    (F : ∀ (w : World) (mg : Str → Option Value) (fa : Addr) (h : Heap), (K w.params).In h → h.Ns mainGlobals mg → mg d.name = some (.ref fa) →
      ∃ fd : FuncData, (∀ (s : Shared) (u : Value), BindsTo s fd ⟨[u], []⟩ [("_law_script", u)]) ∧ ∀ base : Heap, (K w.params).In base → base.Ns mainGlobals mg → FnG l.prog w (K w.params) mg base CX0 4 fa fd ["_law_script"] (spLaw (K w.params))) :
    PySem.W.WalkO q loose XP YP l.row.toRowW d [] (fun f vs => PySem.call f vs) :=
  walk_ofG (n := 63) (k := 4) (x := "_law_script") (CX := fun _ => CX0) (sp := fun w => spLaw (K w.params)) hn (by decide) hdf ⟨rfl, by decide, by decide⟩ hY F (fun _ _ a ns hl _ hS => ⟨a, ns, rfl, hS, hl, fun _ => rfl⟩) fun _ _ _ _ _ z => z
end R2

open PySem PySem.W PyProof.Rows
set_option maxRecDepth 100000 in
set_option maxHeartbeats 0 in
theorem PySem.Challenge.cw_hadnot_k02_names_and_values_holds : PySem.Challenge.rw_hadnot_k02_names_and_values.Holds := by
  w_on; o_law; k_head; (case hw => w_witness2)
  k_fill
  refine R2.walk (l := PySem.Challenge.rw_hadnot_k02_names_and_values) rfl rfl (fun w h Y => PySem.W.kIn_of Y) ?F
  case F =>
    intro w mg fa h KX G hmg
    refine' R2.all_mk KX G hmg ?aN ?lN ?cN ?kN ?aV ?lV ?cV ?kV ?aC ?lC ?cC ?kC ?aS ?lS ?cS ?kS ?aRk ?lRk ?cRk ?kRk ?aO ?lO ?cO ?kO ?aW ?lW ?cW ?kW ?aF ?lF ?cF ?kF ?aT ?lT ?cT ?kT ?aMi ?lMi ?cMi ?kMi ?aL ?lL ?cL ?kL ?aU ?lU ?cU ?kU ?aM ?lM ?cM ?kM ?aD ?lD ?cD ?kD ?aH ?lH ?cH ?kH ?aR ?lR ?cR ?kR ?aX ?lX ?cX ?kX ?aZ ?lZ ?cZ ?kZ ?z_range ?z_max ?z_min ?z_len ?z_isinstance ?z_int ?z_sorted ?z_enumerate ?z_tuple ?z_list ?z_str ?z_bool ?z_repr ?z_abs ?z_all ?gLe ?gDi ?gMo
    (case aN => k_is)
    (case lN => k_is)
    (case cN => k_is)
    (case kN => k_is)
    (case aV => k_is)
    (case lV => k_is)
    (case cV => k_is)
    (case kV => k_is)
    (case aC => k_is)
    (case lC => k_is)
    (case cC => k_is)
    (case kC => k_is)
    (case aS => k_is)
    (case lS => k_is)
    (case cS => k_is)
    (case kS => k_is)
    (case aRk => k_is)
    (case lRk => k_is)
    (case cRk => k_is)
    (case kRk => k_is)
    (case aO => k_is)
    (case lO => k_is)
    (case cO => k_is)
    (case kO => k_is)
    (case aW => k_is)
    (case lW => k_is)
    (case cW => k_is)
    (case kW => k_is)
    (case aF => k_is)
    (case lF => k_is)
    (case cF => k_is)
    (case kF => k_is)
    (case aT => k_is)
    (case lT => k_is)
    (case cT => k_is)
    (case kT => k_is)
    (case aMi => k_is)
    (case lMi => k_is)
    (case cMi => k_is)
    (case kMi => k_is)
    (case aL => k_is)
    (case lL => k_is)
    (case cL => k_is)
    (case kL => k_is)
    (case aU => k_is)
    (case lU => k_is)
    (case cU => k_is)
    (case kU => k_is)
    (case aM => k_is)
    (case lM => k_is)
    (case cM => k_is)
    (case kM => k_is)
    (case aD => k_is)
    (case lD => k_is)
    (case cD => k_is)
    (case kD => k_is)
    (case aH => k_is)
    (case lH => k_is)
    (case cH => k_is)
    (case kH => k_is)
    (case aR => k_is)
    (case lR => k_is)
    (case cR => k_is)
    (case kR => k_is)
    (case aX => k_is)
    (case lX => k_is)
    (case cX => k_is)
    (case kX => k_is)
    (case aZ => k_is)
    (case lZ => k_is)
    (case cZ => k_is)
    (case kZ => k_is)
    (case z_range => k_is)
    (case z_max => k_is)
    (case z_min => k_is)
    (case z_len => k_is)
    (case z_isinstance => k_is)
    (case z_int => k_is)
    (case z_sorted => k_is)
    (case z_enumerate => k_is)
    (case z_tuple => k_is)
    (case z_list => k_is)
    (case z_str => k_is)
    (case z_bool => k_is)
    (case z_repr => k_is)
    (case z_abs => k_is)
    (case z_all => k_is)
    (case gLe => k_is)
    (case gDi => k_is)
    (case gMo => k_is)
