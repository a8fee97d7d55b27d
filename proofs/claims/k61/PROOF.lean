import PyProof.Rows.All
import Wide.All
import OpenK.AllK
import Wide.FinOn
import HandS.ForMost
import HandS.ForExc
import HandS.Wide
import HandS.Gcd
import HandS.FStr
import HandS.StrMore
import HandS.IsInst
import HandS.Small
import HandS.CallSlots
import HandS.Flow
import HandS.Codes
import PyProof.ReprRoads
import HandS.RaiseMore
import HandS.ExcInit
import HandS.ExcIs
import HandS.ExcSuper
import KE.KExcSuper
import KE.KSuper
import HandS.ExcValue
import HandS.ExcField
import OpenK.KMeth
import OpenK.KOps
import HandS.TryMany
import HandS.Walk
import HandS.Star
import HandS.DictComp
import HandS.DictEq
import HandS.List
import KE.KDictZip
import HandS.Iter
import HandS.TupMul
import HandS.Defaults
import HandS.ListItems
import HandS.Style
import HandS.OwnEq
import PySem.Challenge.RW_hadnot_k61_deeds
set_option Elab.async false
set_option linter.all false
set_option maxRecDepth 100000
set_option maxHeartbeats 4000000
namespace L3
open PySem PySem.Spec PyProof.Rows L2

/-! ### numbers -/
def CDivNW (_ j : Int) : Prop := j ≠ 0 ∧ j.natAbs.log2 < 9000
theorem op_fdivNW {X : Cx} : OpR X (binaryOp .FloorDiv) (rI CDivNW fun i j => .int (i.fdiv j)) :=
  opI fun _ _ _ _ _ _ _ hc q => floordiv_int hc.1 q (.inl (PyProof.noPylong_of_log2 hc.2))

/-! ### operators of an own class -/
section
variable {X : Cx} {CX : CXT} {C f : Addr} {fd : FuncData} {ps : List Str} {sp : Sp} {E : XK} {n : Nat} {pins : List (Addr × Obj)} {σ : L2.St}
theorem back_of {Q : VK} {v : Value} {s' : Shared} (h : EP X pins σ Q v s') : PySem.W.CmpBack (EP X pins σ Q) v s' := by
  obtain ⟨x, H', I, r, q⟩ := id h
  cases x with
  | non => cases r; exact h
  | bl b => cases r; exact h
  | int i => obtain ⟨t, rfl⟩ := r; exact h
  | str i => obtain ⟨t, rfl⟩ := r; exact h
  | byt i => obtain ⟨t, rfl⟩ := r; exact h
  | flt i => obtain ⟨t, rfl⟩ := r; exact h
  | ref a => cases r; exact h
  | ty n => cases r; exact h
/-- one op other, both instances of the class at C -/
def rOwn2 (C : Addr) (sp : Sp) (E : XK) : R2 := fun x y H Q => ∃ a b dx dy fs gs, x = .ref a ∧ y = .ref b ∧ H a = some (.ins C dx fs) ∧ H b = some (.ins C dy gs) ∧ sp [x, y] H Q E
theorem op_own2 {op : Operator} (F : FnOk X.prog X.w X.K X.mg X.base CX n f fd ps sp) (hr : Room n X.A) (hb : Binds X.K fd ps []) (hx : Passes CX X E)
    (hc : PySem.W.selfFirst X.K C = true) (hs : PySem.W.findIn X.K (.ref C) (PySem.dunder op.info.2) = some (some (.ref f))) (hf : PySem.W.isFn X.K (.ref f) = true) :
    OpR X (binaryOp op) (rOwn2 C sp E) := by
  intro pins s σ H x y v u Q I rx ry h
  obtain ⟨a, b, dx, dy, fs, gs, rfl, rfl, ha, hb', hq⟩ := h
  cases rx
  cases ry
  obtain ⟨mA, J, _⟩ := ins_get I.hok ha
  obtain ⟨mB, J', _⟩ := ins_get I.hok hb'
  obtain ⟨od, J, _⟩ := J.look
  obtain ⟨od', J', _⟩ := J'.look
  obtain ⟨m, hF⟩ := I.fr
  refine PySem.W.binop_K hF I.ok.mod.kin J J'.type hc hs hf ?_
  exact wpAny_mono (run_fn (us := [.ref a, .ref b]) (vs := [.ref a, .ref b]) F hr hb .nil hx I (.cons rfl (.cons rfl .nil)) (by simpa using hq)) (fun v s' hv => back_of hv) fun _ _ e => e
/-- -one -/
def rOwn1 (C : Addr) (sp : Sp) (E : XK) : V → Hp → VK → Prop := fun x H Q => ∃ a dx fs, x = .ref a ∧ H a = some (.ins C dx fs) ∧ sp [x] H Q E
theorem un_ownNeg (F : FnOk X.prog X.w X.K X.mg X.base CX n f fd ps sp) (hr : Room n X.A) (hb : Binds X.K fd ps []) (hx : Passes CX X E)
    (hs : PySem.W.findIn X.K (.ref C) "__neg__" = some (some (.ref f))) (hf : PySem.W.isFn X.K (.ref f) = true) : UnR X (unaryOp .USub) (rOwn1 C sp E) := by
  intro pins s σ H x v Q I rx h
  obtain ⟨a, dx, fs, rfl, ha, hq⟩ := h
  cases rx
  obtain ⟨mA, J, _⟩ := ins_get I.hok ha
  obtain ⟨od, J, _⟩ := J.look
  obtain ⟨m, hF⟩ := I.fr
  exact PySem.W.ksp_neg hF I.ok.mod.kin J hs hf (run_fn (us := [.ref a]) (vs := [.ref a]) F hr hb .nil hx I (.cons rfl .nil) (by simpa using hq))
/-- one == other by the own __eq__, whatever the other is -/
def rOwnEq (K : PySem.W.Frag) (C : Addr) (sp : Sp) (E : XK) : R2 := fun x y H Q => ∃ a dx fs t, x = .ref a ∧ H a = some (.ins C dx fs) ∧ TyX K H y t ∧ PySem.W.notFirst K C t = true ∧ sp [x, y] H Q E
theorem op_ownEq (F : FnOk X.prog X.w X.K X.mg X.base CX n f fd ps sp) (hr : Room n X.A) (hb : Binds X.K fd ps []) (hx : Passes CX X E)
    (hs : PySem.W.findIn X.K (.ref C) "__eq__" = some (some (.ref f))) (hf : PySem.W.isFn X.K (.ref f) = true) : OpR X (compareOp .Eq) (rOwnEq X.K C sp E) := by
  intro pins s σ H x y v u Q I rx ry h
  obtain ⟨a, dx, fs, t, rfl, ha, ty, hn, hq⟩ := h
  cases rx
  obtain ⟨mA, J, _⟩ := ins_get I.hok ha
  obtain ⟨od, J, _⟩ := J.look
  obtain ⟨m, hF⟩ := I.fr
  obtain ⟨P, Z, p, _⟩ := kit_of I ry ty
  show wpAny (model X.prog X.w) X.A (richCompare .Eq (.ref a) u) (EP X pins σ Q) X.xe s
  refine PySem.W.cmp_K (op := .Eq) hr.units0 hF I.ok.mod.kin J (Z.ty _ _ I.kIn p) hn hs hf ?_
  exact wpAny_mono (run_fn (us := [.ref a, u]) (vs := [.ref a, y]) F hr hb .nil hx I (.cons rfl (.cons ry .nil)) (by simpa using hq)) (fun v s' hv => back_of hv) fun _ _ e => e
/-- the callee runs, a few levels below the body -/
theorem run_fnA {A : Around} {s : Shared} {H : Hp} {Q : VK} {us : List Value} {vs : List V} (F : FnOk X.prog X.w X.K X.mg X.base CX n f fd ps sp) (hr : Room n A) (hfr : A.frames = X.A.frames) (hb : Binds X.K fd ps []) (hx : Passes CX X E)
    (I : Inv X pins σ H s) (r : Vals vs us) (h : sp vs H Q E) : wpAny (model X.prog X.w) A (call (.ref f) us) (EP X pins σ Q) X.xe s := by
  have e0 : Env0 X.prog X.w X.K X.mg X.base A X.stack s H := by
    have e := I.env0
    exact ⟨hfr.trans e.frames, e.mod, e.bs, e.bsz, e.funs, e.frf, e.hok, e.bare⟩
  have hl : us.length = ps.length := r.length.symm.trans (F.len _ _ _ _ h)
  have bb := hb s us I.kIn (by simpa using hl)
  rw [List.append_nil] at bb
  refine wpAny_call (codeAny_mono (F.run A X.stack s H ⟨us, []⟩ us vs Q E hr e0 bb r h) fun res s' hq => ?_)
  match res, hq with
  | .error e, hq => exact hx pins σ H s e s' I hq
  | .ok (.ret w), hq => exact I.after hq
  | .ok .next, hq => exact False.elim hq
  | .ok .brk, hq => exact False.elim hq
  | .ok .cont, hq => exact False.elim hq
end
end L3

namespace L3
open PySem PySem.Spec PyProof.Rows L2
theorem iteB {b : Bool} {A B : Prop} (h1 : b = true → A) (h2 : b = false → B) : if b = true then A else B := by
  cases b with
  | true => exact h1 rfl
  | false => exact iteF (h2 rfl)
theorem iteD {c A B : Prop} [Decidable c] (h1 : c → A) (h2 : ¬ c → B) : if decide c = true then A else B :=
  iteB (fun h => h1 (of_decide_eq_true h)) fun h => h2 (of_decide_eq_false h)
theorem iteN {b : Bool} {A B : Prop} (h1 : b = false → A) (h2 : b = true → B) : if (!b) = true then A else B := by
  cases b with
  | true => exact iteF (h2 rfl)
  | false => exact h1 rfl
theorem bool_call {prog : Program} {w : World} {A : Around} {E : Value → Shared → Prop} {s : Shared} {x : Value} {Q : Value → Shared → Prop}
    (h : wpAny (model prog w) A.in1.in1 (truthy x) (fun b s' => Q (.bool b) s') E s) : wpAny (model prog w) A (call (.type "bool") [x]) Q E s := by
  refine callType_codes (T := "bool") (Bi := Builtin.«object.__init__») (Q₁ := fun r s₁ => ∃ y, r = .bool y ∧ Q r s₁) PySem.F.called_bool (PySem.F.typeCall_bool_1 _) PySem.F.entry_object_init ?_ ?_
  · refine codeAny_of_tree ?_
    show wpAny _ A.in1.in1 (do checkBuiltinCall "bool.__new__" ⟨[.type "bool", x], []⟩; again (.builtin "bool.__new__" ⟨[.type "bool", x], []⟩)) _ _ s
    refine wpAny_bind (wpAny_of_eq (PySem.F.newCall_bool_1 _) (wpAny_pure ⟨plainId_quiet (by decide +kernel) _, codeAny_builtin PySem.F.entry_bool_new ?_⟩))
    rw [Around.under_plainId (by decide +kernel) _]
    unfold Builtin.«bool.__new__»
    have f1 := F.conv_sub_bool
    have h2 : wpAny (model prog w) A.in1.in1 (truthy x) (fun b s' => ∃ y, Value.bool b = .bool y ∧ Q (.bool b) s') E s := wpAny_mono h (fun b s' q => ⟨b, rfl, q⟩) fun _ _ e => e
    obtain ⟨hp, g, d, tk, os⟩ := s
    repeat (any_goals (first | (with_reducible refine wpAny_mono h2 (fun b s' q => ?_) fun _ _ e => e) | wp_step))
    all_goals exact q
  · rintro obj s₁ ⟨y, rfl, hq⟩
    exact ⟨PySem.typeIs_bool _ _, PySem.F.args_object_init_2 _ _, object_init_meets PySem.F.called_bool.init.lookup PySem.F.called_bool.made (by decide) prog w A.in1 _ s₁ ⟨PySem.typeIs_bool _ _, rfl, hq⟩⟩
section
variable {X : Cx} {CX : CXT} {C f : Addr} {fd : FuncData} {ps : List Str} {sp : Sp} {E : XK} {n : Nat}
theorem room2 {A : Around} (h : Room (n + 1) A) : Room n A.in1.in1 :=
  ⟨h.hd, by have := h.dp; show A.depth + 3 * n + 5 < _; omega, by have := h.un; show A.units + 1 + 1 + 16 * n + 200 < _; omega⟩
/-- bool(x), str(x) by the own special method -/
theorem call_boolOwn (F : FnOk X.prog X.w X.K X.mg X.base CX n f fd ps sp) (hr : Room (n + 1) X.A) (hb : Binds X.K fd ps []) (hx : Passes CX X E)
    (hs : PySem.W.findIn X.K (.ref C) "__bool__" = some (some (.ref f))) (hf : PySem.W.isFn X.K (.ref f) = true) :
    CallR X (.type "bool") (fun xs H Q => ∃ a dx fs, xs = [.ref a] ∧ H a = some (.ins C dx fs) ∧ sp [.ref a] H (fun v H' => ∃ b, v = .bl b ∧ Q (.bl b) H') E) := by
  intro pins s σ H xs us Q I r h
  obtain ⟨a, dx, fs, rfl, ha, hq⟩ := h
  obtain ⟨u, rfl, rx⟩ := vals1 r
  cases rx
  obtain ⟨mA, J, _⟩ := ins_get I.hok ha
  obtain ⟨od, J, _⟩ := J.look
  obtain ⟨m, hF⟩ := I.fr
  refine bool_call (PySem.W.truthy_K hF I.ok.mod.kin J hs hf ?_)
  refine wpAny_mono (run_fnA (us := [.ref a]) (vs := [.ref a]) F (room2 hr) rfl hb hx I (.cons rfl .nil) hq) (fun v s' hv => ?_) fun _ _ e => e
  obtain ⟨x, H', I', rx, b, rfl, q⟩ := hv
  cases rx
  exact ⟨.bl b, H', I', rfl, q⟩
theorem call_strOwn (F : FnOk X.prog X.w X.K X.mg X.base CX n f fd ps sp) (hr : Room (n + 1) X.A) (hb : Binds X.K fd ps []) (hx : Passes CX X E)
    (hs : PySem.W.findIn X.K (.ref C) "__str__" = some (some (.ref f))) (hf : PySem.W.isFn X.K (.ref f) = true) :
    CallR X (.type "str") (fun xs H Q => ∃ a dx fs, xs = [.ref a] ∧ H a = some (.ins C dx fs) ∧ sp [.ref a] H (fun v H' => ∃ b, v = .str b ∧ Q (.str b) H') E) := by
  intro pins s σ H xs us Q I r h
  obtain ⟨a, dx, fs, rfl, ha, hq⟩ := h
  obtain ⟨u, rfl, rx⟩ := vals1 r
  cases rx
  obtain ⟨mA, J, _⟩ := ins_get I.hok ha
  obtain ⟨od, J, _⟩ := J.look
  refine PySem.W.kso_call (by have := hr.un; show X.A.units + 1 + 1 < cLine; omega) I.kIn J hs hf ?_
  refine wpAny_mono (run_fnA (us := [.ref a]) (vs := [.ref a]) F (room2 hr) rfl hb hx I (.cons rfl .nil) hq) (fun v s' hv => ?_) fun _ _ e => e
  obtain ⟨x, H', I', rx, b, rfl, q⟩ := hv
  obtain ⟨t, rfl⟩ := rx
  exact ⟨.str b, H', I', ⟨t, rfl⟩, q⟩
/-- repr of a bool -/
def boolText (b : Bool) : Str := if b = true then Str.ofString "True" else Str.ofString "False"
theorem call_reprB : CallR X (.builtin "repr") (fun xs H Q => ∃ b, xs = [.bl b] ∧ Q (.str (boolText b)) H) := by
  intro pins s σ H xs us Q I r h
  obtain ⟨b, rfl, q⟩ := h
  obtain ⟨u, rfl, rx⟩ := vals1 r
  cases rx
  exact PySem.P.repr_of_bool ⟨.str (boolText b), H, I.tok _, ⟨_, rfl⟩, q⟩
theorem foldRep (c : Array Nat) : ∀ (n : Nat) (acc : Array Nat), (List.foldl (· ++ ·) acc (List.replicate n c)).toList = acc.toList ++ (List.replicate n c.toList).flatten
  | 0, acc => by simp
  | n + 1, acc => by
    rw [List.replicate_succ, List.foldl_cons, foldRep c n, Array.toList_append, List.replicate_succ, List.flatten_cons, List.append_assoc]
theorem foldRep_len (c : Array Nat) (n : Nat) : (List.foldl (· ++ ·) #[] (List.replicate n c)).size = n * c.size := by
  have e := congrArg List.length (foldRep c n #[])
  simpa using e
/-- a text a few times -/
def timesS (x : Str) (n : Int) : Str := if n < 1 then Str.empty else ⟨(List.replicate n.toNat x.cps).foldl (· ++ ·) #[]⟩
theorem op_mulS : OpR X (binaryOp .Mult) (fun x y H Q => ∃ a k, x = .str a ∧ y = .int k ∧ -(2 ^ 62) < k ∧ (k ≤ 1 ∨ k < 2 ^ 20 ∧ a.length < 16) ∧ Q (.str (timesS a k)) H) := by
  intro pins s σ H x y v u Q I rx ry h
  obtain ⟨a, k, rfl, rfl, h0, h12, q⟩ := h
  obtain ⟨t, rfl⟩ := rx
  obtain ⟨t', rfl⟩ := ry
  have hl : sizeLine = 16777216 := sizeLine_eq
  refine PySem.P.mul_str (by rw [decide_eq_false (by omega), decide_eq_false (by omega)]; rfl) (fun hk hk1 z => ?_) (fun hk hk1 => ?_) ?_
  · have hk1' : k ≠ 1 := fun e => by rw [e] at hk1; simp at hk1
    obtain ⟨h1, h2⟩ := h12.resolve_left (by omega)
    have z1 : (2 ^ 63 - 1 : Int) / k ≥ 16 := by
      rw [ge_iff_le, Int.le_ediv_iff_mul_le (by omega)]
      omega
    omega
  · have hk1' : k ≠ 1 := fun e => by rw [e] at hk1; simp at hk1
    obtain ⟨h1, h2⟩ := h12.resolve_left (by omega)
    unfold Builtin.Str.tooLong
    have : a.length * k.toNat ≤ 16 * 1048576 := Nat.mul_le_mul (by omega) (by omega)
    rw [decide_eq_false]
    rw [hl]
    omega
  · unfold timesS at q
    by_cases hk : k < 1
    · rw [if_pos hk] at q ⊢
      exact ⟨by decide, .str _, H, I.tok _, ⟨_, rfl⟩, q⟩
    · rw [if_neg hk] at q ⊢
      by_cases h3 : (k == 1 || a.length == 0) = true
      · rw [if_pos h3]
        have e : (⟨(List.replicate k.toNat a.cps).foldl (· ++ ·) #[]⟩ : Str) = a := by
          rcases Bool.or_eq_true_iff.mp h3 with e | e
          · have e' : k = 1 := by simpa using e
            subst e'
            simp
          · have e' : a.length = 0 := by simpa using e
            have e2 : a.cps = #[] := by
              have : a.cps.size = 0 := e'
              exact Array.eq_empty_of_size_eq_zero this
            have g : ∀ n : Nat, (List.replicate n a.cps).foldl (· ++ ·) #[] = #[] := by
              intro n
              rw [e2]
              induction n with
              | zero => rfl
              | succ n ih => simpa [List.replicate_succ] using ih
            rw [g]
            cases a
            simp at e2
            rw [e2]
        rw [e] at q
        exact ⟨.str _, H, I, ⟨_, rfl⟩, q⟩
      · rw [if_neg h3]
        refine ⟨?_, .str _, H, I.tok _, ⟨_, rfl⟩, q⟩
        show (List.foldl (· ++ ·) #[] (List.replicate k.toNat a.cps)).size ≤ sizeLine
        rw [foldRep_len, hl]
        have hk1' : k ≠ 1 := fun e => h3 (by rw [e]; rfl)
        obtain ⟨h1, h2⟩ := h12.resolve_left (by omega)
        have h4 : a.cps.size < 16 := h2
        have : k.toNat * a.cps.size ≤ 1048576 * 16 := Nat.mul_le_mul (by omega) (by omega)
        omega
/-- X(), X an own exception class without own __init__ -/
theorem pmk_own0 {bmB : List Value} {B newId initId : String} {x : Str} {p pos : Pos} (F : ExcBaseFacts B newId initId bmB) (q : PySem.W.excIn X.K C bmB newId = true) (gC : X.mg x = some (.ref C))
    (kC : PySem.W.keepIn X.K (.ref C) = true) (r : Raises X (.ref C)) (hg : Gl X x) (hdb : (x == ("__debug__" : Str)) = false := by decide) :
    PMk X (.Call (.Name x p) [] [] pos) (fun _ H Q => Q (.ref C) none H) := by
  intro pins s σ H Q I h
  refine wpAny_Call_Name_kw (ld_glob I hg gC ?_ hdb)
  refine PySem.W.callWith_K0 I.kIn kC ?_
  obtain ⟨bm, N, nm, qn, bs, hdct, sn, sub, ab, col, dd, k0, k1, k2, k3, k5, mN, hC, hN, hni, T⟩ := exc_obj I.kIn q
  exact wpAny_call_exc_subT F T hC hN hni (fun h' e hm => mk_of I hm r h (I.hok.gone hm.new)) (Nat.zero_le _)
/-- C(..) where what __init__ raises is wished for at the caller's slots -/
def tMakeS (C : Addr) (sp : Sp) (dvs : List V) (E : L2.St → XK) (t : TA) : TE := fun σ H Q => t σ H fun vs H1 => ∀ x dx, H1 x = none → H1 dx = none → dx ≠ x →
  sp (.ref x :: (vs ++ dvs)) (upd (upd H1 dx (.own x)) x (.ins C dx [])) (fun v H2 => v = .non ∧ Q (.ref x) H2) (E σ)
theorem pe_makeS {E : L2.St → XK} {dvs : List V} {ds : List Value} {k : Nat} {x : Str} {p pos : Pos} {e : Expr} {es : List Expr} {t : TA} (M : Mk X.K C f) (F : FnOk X.prog X.w X.K X.mg X.base CX k f fd ps sp) (hr : Room (k + 1) X.A) (hg : Gl X x)
    (hm : X.mg x = some (.ref C)) (hb : Binds X.K fd ps ds) (hd : Vals dvs ds) (hx : ∀ σ, PassesAt CX X σ (E σ))
    (ha : PA X (e :: es) t) (hdb : (x == ("__debug__" : Str)) = false := by decide) (he : starEach (e :: es) X.env = (false, eval e X.env) :: starEach es X.env := by rfl) (hpl : (backTo pos (starEach es X.env)).any (·.1) = false := by rfl) :
    PE X (.Call (.Name x p) (e :: es) [] pos) (tMakeS C sp dvs E t) := by
  refine ⟨fun pins s0 σ H0 Q I0 h0 => ?_⟩
  refine wpAny_Call_Name_kw (ld_glob I0 hg hm ?_ hdb)
  refine PySem.W.callWith_K (h₀ := X.base) I0.ok.mod.kin M.kp (thn (ha.run pos pins s0 σ H0 _ I0 h0) fun us s ⟨vs, H, I, r, h⟩ => ⟨I.kIn, ?_⟩) he hpl
  have q0 := h (s.heap.objs.size + 1) s.heap.objs.size (I.hok.fresh (Nat.le_succ _)) (I.hok.fresh (Nat.le_refl _)) (Nat.ne_of_lt (Nat.lt_succ_self _))
  have J := Inv.made (C := C) I
  have rr : Vals (V.ref (s.heap.objs.size + 1) :: (vs ++ dvs)) (Value.ref (s.heap.objs.size + 1) :: (us ++ ds)) := .cons rfl (r.append hd)
  have hl : (Value.ref (s.heap.objs.size + 1) :: us ++ ds).length = ps.length := rr.length.symm.trans (F.len _ _ _ _ q0)
  refine wpAny_call (make_map (f := f) I.kIn M.makes M.init (beq_iff_eq.mp M.fn) (codeAny_mono
    (F.run _ X.stack _ _ ⟨Value.ref (s.heap.objs.size + 1) :: us, []⟩ (Value.ref (s.heap.objs.size + 1) :: (us ++ ds)) _ _ (E σ) (hr.make C us []) (J.env0.make C us []) (hb _ (Value.ref (s.heap.objs.size + 1) :: us) J.kIn hl) rr q0) fun res s' hq => ?_))
  match res, hq with
  | .error e, hq => exact hx σ pins _ _ e s' J hq
  | .ok (.ret u), hq =>
    obtain ⟨v, H', I3, rv, ev, q3⟩ := J.after hq
    subst ev
    exact ⟨rv, ⟨V.ref (s.heap.objs.size + 1), H', I3, rfl, q3⟩⟩
  | .ok .next, hq => exact False.elim hq
  | .ok .brk, hq => exact False.elim hq
  | .ok .cont, hq => exact False.elim hq
end
end L3

/-! defs that ask for the texts of lists and tuples: no such text is under way where they are called -/
namespace L3
open PySem PySem.Spec PyProof.Rows L2

/-- no repr is under way -/
abbrev Calm (A : Around) : Prop := A.guards = some []
structure FnG (P : Program) (w : World) (K : PySem.W.Frag) (mg : Str → Option Value) (base : Heap) (CX : CXT) (k : Nat) (f : Addr) (fd : FuncData) (ps : List Str) (sp : Sp) : Prop where
  len : ∀ vs H Q E, sp vs H Q E → vs.length = ps.length
  run : ∀ (A : Around) (outer : List Env) (s : Shared) (H : Hp) (args : Args) (us : List Value) (vs : List V) (Q : VK) (E : XK), Calm A → Room k A → Env0 P w K mg base A outer s H → BindsTo s fd args (ps.zip us) → Vals vs us → sp vs H Q E →
    codeAny (model P w) A (.call (.ref f) args) (CR CX outer P w H s Q E) s
section
variable {P : Program} {w : World} {K : PySem.W.Frag} {mg : Str → Option Value} {base : Heap} {CX : CXT} {j k : Nat} {f : Addr} {fd : FuncData} {ps : List Str} {sp sp' : Sp}
theorem FnG.of (F : FnOk P w K mg base CX k f fd ps sp) : FnG P w K mg base CX k f fd ps sp :=
  ⟨F.len, fun A outer s H args us vs Q E _ => F.run A outer s H args us vs Q E⟩
theorem FnG.mono (F : FnG P w K mg base CX j f fd ps sp) (h : j ≤ k) : FnG P w K mg base CX k f fd ps sp :=
  ⟨F.len, fun A outer s H args us vs Q E g hr => F.run A outer s H args us vs Q E g (hr.mono h)⟩
/-- a def by its body, where no repr is under way -/
theorem gfn_of {name qual : Str} {params : Arguments} {body : List Stmt} {scope : Scope} {dV kV doc pm cdv ct oc : Value} {an od : Option Addr} {osl : Array (Option Value)} {N : List Str}
    (lk : K.lookup f = some ⟨oc, od, .func (PySem.W.fnOf name qual params body scope dV kV doc pm an cdv ct), osl⟩) (hcd : PySem.W.codeIn K cdv qual = true) (S : FnScope N ps scope)
    (len : ∀ vs H Q E, sp vs H Q E → vs.length = ps.length)
    (hbody : ∀ (A : Around) (outer : List Env) (s : Shared) (H : Hp) (vs : List V) (Q : VK) (E : XK), Calm A → Room k (A.deeper (envOfC qual scope s.heap.objs.size f cdv)) → sp vs H Q E →
      ∃ t, PSs (cxOf CX P w K mg base N qual scope f cdv A outer s H E) body t ∧ t { nx := fun _ H' => Q .non H', rt := Q } (L2.start N vs) H) :
    FnG P w K mg base CX (k + 1) f (PySem.W.fnOf name qual params body scope dV kV doc pm an cdv ct) ps sp := by
  constructor
  · exact len
  intro A outer s H args us vs Q E g hr e0 hb r hsp
  have old : ∀ b o, base.get? b = some o → s.heap.get? b = some o := fun b o e => (e0.bs b o e).1
  have KX : K.In s.heap := e0.mod.kin.keeps old
  have lim : s.heap.NoLimit := e0.mod.nolimit.keeps old
  have kinds : ∀ y ∈ ps.zip us, scope.names.lookup y.1 = some .local ∨ (scope.names.lookup y.1 = some .cell ∧ ((cellsFrom (s.heap.objs.size + 1) scope.names []).lookup y.1).isSome = true) := by
    intro y hy
    rcases S.par y.1 (List.of_mem_zip (a := y.1) (b := y.2) hy).1 with q | q
    · exact .inl q
    · exact .inr ⟨q, PySem.W.cellsFrom_some _ _ _ (.inl q)⟩
  obtain ⟨t, ht, hq⟩ := hbody A outer s H vs Q E g (hr.deeper _) hsp
  refine codeAny_call_function hr.depth (KX _ _ lk) rfl S.co S.gen rfl (PySem.W.codeRec_of KX hcd) (hb _ _ _ _ (wpAny_newFunctionEnv_cells S.kind kinds fun env he s1 x => ?_))
  subst he
  refine ⟨lim.keeps x.toInCall.keep, codeAny_func (wpAny_mono (ht.run [] s1 (L2.start N vs) H _ (inv_start S hr.hd e0 (len _ _ _ _ hsp) r x) hq) (fun fl s' hs => ?_) fun e s' hs => hs)⟩
  match fl, hs with
  | .ret _, ⟨v, σ', H', J, rv, q⟩ => exact ⟨v, H', J.os, J.bare, J.base, J.hok, rv, q⟩
  | .next, ⟨σ', H', J, q⟩ => exact ⟨.non, H', J.os, J.bare, J.base, J.hok, rfl, q⟩
  | .brk, ⟨_, _, _, q⟩ => exact q.elim
  | .cont, ⟨_, _, _, q⟩ => exact q.elim
theorem gok {x qual : Str} {st : Stmt} {N : List Str} (F : Fun K x qual st f fd) (S : FnScope N ps (defScope st)) (len : ∀ vs H Q E, sp vs H Q E → vs.length = ps.length)
    (hbody : ∀ (cdv : Value) (A : Around) (outer : List Env) (s : Shared) (H : Hp) (vs : List V) (Q : VK) (E : XK), Calm A → Room k (A.deeper (envOfC qual (defScope st) s.heap.objs.size f cdv)) → sp vs H Q E →
      ∃ t, PSs (cxOf CX0 P w K mg base N qual (defScope st) f cdv A outer s H E).nox (defBody st) t ∧ t { nx := fun _ H' => Q .non H', rt := Q } (L2.start N vs) H) : FnG P w K mg base CX0 (k + 1) f fd ps sp := by
  obtain ⟨oc, od, kV, doc, pm, an, cdv, ct, osl, rfl, lk, hcd⟩ := F.ex
  exact gfn_of lk hcd S len fun A outer s H vs Q E g hr hsp => let ⟨t, h, q⟩ := hbody cdv A outer s H vs Q E g hr hsp; ⟨t, h.nox, q⟩
theorem gokX {x qual : Str} {st : Stmt} {N : List Str} (F : Fun K x qual st f fd) (S : FnScope N ps (defScope st)) (len : ∀ vs H Q E, sp vs H Q E → vs.length = ps.length)
    (hbody : ∀ (cdv : Value) (A : Around) (outer : List Env) (s : Shared) (H : Hp) (vs : List V) (Q : VK) (E : XK), Calm A → Room k (A.deeper (envOfC qual (defScope st) s.heap.objs.size f cdv)) → sp vs H Q E →
      ∃ t, PSs (cxOf (L2.CX P w) P w K mg base N qual (defScope st) f cdv A outer s H E) (defBody st) t ∧ t { nx := fun _ H' => Q .non H', rt := Q } (L2.start N vs) H) : FnG P w K mg base (L2.CX P w) (k + 1) f fd ps sp := by
  obtain ⟨oc, od, kV, doc, pm, an, cdv, ct, osl, rfl, lk, hcd⟩ := F.ex
  exact gfn_of lk hcd S len fun A outer s H vs Q E g hr hsp => hbody cdv A outer s H vs Q E g hr hsp
end

/-! ### calls of such defs -/
section
variable {X : Cx} {CX : CXT} {k : Nat} {f : Addr} {fd : FuncData} {ps : List Str} {sp : Sp} {dvs : List V} {ds : List Value} {E : XK} {x : Str} {p pos : Pos} {e : Expr} {es : List Expr} {t : TA}
theorem run_fnG {pins : List (Addr × Obj)} {σ : L2.St} {H : Hp} {s : Shared} {Q : VK} {us : List Value} {vs : List V} (F : FnG X.prog X.w X.K X.mg X.base CX k f fd ps sp) (g : Calm X.A) (hr : Room k X.A) (hb : Binds X.K fd ps ds) (hd : Vals dvs ds) (hx : Passes CX X E)
    (I : Inv X pins σ H s) (r : Vals vs us) (h : sp (vs ++ dvs) H Q E) : wpAny (model X.prog X.w) X.A (call (.ref f) us) (EP X pins σ Q) X.xe s := by
  have r2 := r.append hd
  refine wpAny_call (codeAny_mono (F.run X.A X.stack s H ⟨us, []⟩ (us ++ ds) (vs ++ dvs) Q E g hr I.env0 (hb s us I.kIn (r2.length.symm.trans (F.len _ _ _ _ h))) r2 h) fun res s' hq => ?_)
  match res, hq with
  | .error e, hq => exact hx pins σ H s e s' I hq
  | .ok (.ret u), hq => exact I.after hq
  | .ok .next, hq => exact hq.elim
  | .ok .brk, hq => exact hq.elim
  | .ok .cont, hq => exact hq.elim
theorem pe_callG (F : FnG X.prog X.w X.K X.mg X.base CX k f fd ps sp) (g : Calm X.A) (hr : Room k X.A) (hg : Gl X x) (hm : X.mg x = some (.ref f)) (hk : PySem.W.keepIn X.K (.ref f) = true) (hb : Binds X.K fd ps ds) (hd : Vals dvs ds) (hx : Passes CX X E)
    (ha : PA X (e :: es) t) (hdb : (x == ("__debug__" : Str)) = false := by decide) (he : starEach (e :: es) X.env = (false, eval e X.env) :: starEach es X.env := by rfl) (hpl : (backTo pos (starEach es X.env)).any (·.1) = false := by rfl) :
    PE X (.Call (.Name x p) (e :: es) [] pos) (tCall sp dvs E t) :=
  ⟨fun pins s σ H Q I h => wpAny_Call_Name_kw (ld_glob I hg hm (PySem.W.callWith_K (h₀ := X.base) I.ok.mod.kin hk (thn (ha.run pos pins s σ H _ I h) fun us s1 ⟨vs, H1, I1, r, q⟩ => ⟨I1.kIn, run_fnG F g hr hb hd hx I1 r q⟩) he hpl) hdb)⟩
end

/-! ### texts of lists and tuples -/
theorem calm_deeper {A : Around} (env : Env) (h : Calm A) : Calm (A.deeper env) := h
/-- repr(x), x data laid out in the heap -/
def rReprD (K : PySem.W.Frag) : List V → Hp → VK → Prop := fun xs H Q => ∃ (x : V) (d : PyData), xs = [x] ∧ Dp K H x d ∧ (∃ a, x = .ref a) ∧ d.showable = true ∧ d.hasDict = false ∧ d.depth ≤ 60 ∧ d.shown.length ≤ sizeLine ∧ Q (.str d.shown) H
theorem call_reprD {X : Cx} (g : Calm X.A) (hu : X.A.units + 64 < cLine) : CallR X (.builtin "repr") (rReprD X.K) := by
  intro pins s σ H xs us Q I rx h
  obtain ⟨x, d, rfl, hd, ⟨a, rfl⟩, hs, hnd, hdep, hsz, q⟩ := h
  cases rx with
  | @cons _ u _ _ ra rw' =>
    cases rw'
    obtain rfl : u = Value.ref a := ra
    obtain ⟨as, r⟩ := Dp.reads I d _ _ hd rfl
    exact PySem.repr_of_reads' r hs (fun z => by rw [hnd] at z; cases z) g (by omega) (fun _ _ e => e) (fun h' u tk k => ⟨.str d.shown, H, I.kept k, ⟨u, rfl⟩, q⟩) hsz
end L3

namespace L3
open PySem PySem.Spec PyProof.Rows L2

/-- the script's list as it is tracked at the law's entry -/
def hScript (a : Addr) (vs : List Value) (ns : List Int) (own : Bool) : Hp := fun b => if own = false ∧ b = a then some (.frz { cls := .type "list", data := .seq vs.toArray } (.lst (ns.map V.int))) else none
section
variable {P : Program} {w : World} {K : PySem.W.Frag} {mg mb : Str → Option Value} {CX : CXT} {k : Nat} {fa a : Addr} {fd : FuncData} {x : Str} {sp : Sp} {s : Shared} {vs : List Value} {ns : List Int} {own : Bool}
theorem hs_some {b : Addr} {o : HO} (h : hScript a vs ns own b = some o) : own = false ∧ b = a ∧ o = .frz { cls := .type "list", data := .seq vs.toArray } (.lst (ns.map V.int)) := by
  unfold hScript at h
  split at h
  · rename_i c
    exact ⟨c.1, c.2, (Option.some.inj h).symm⟩
  · cases h
theorem hs_none {b : Addr} (h : own = true ∨ b ≠ a) : hScript a vs ns own b = none := by
  cases q : hScript a vs ns own b with
  | none => rfl
  | some o =>
    obtain ⟨h1, h2, _⟩ := hs_some q
    rcases h with h | h
    · rw [h] at h1; cases h1
    · exact absurd h2 h
theorem hs_only : Only (hScript a vs ns own) := fun b => by
  cases q : hScript a vs ns own b with
  | none => exact .inl rfl
  | some o =>
    obtain ⟨_, _, e⟩ := hs_some q
    exact .inr ⟨_, _, by rw [e]⟩
theorem hs_ok (ha : s.heap.get? a = some { cls := .type "list", data := .seq vs.toArray }) (hi : IntsAre vs ns) (hl : ns.length ≤ sizeLine) : HOk P w (hScript a vs ns own) s.heap := fun b o q => by
  obtain ⟨_, rfl, rfl⟩ := hs_some q
  exact ⟨ha, by rw [List.length_map]; exact hl, vs, _, vals_ints hi, ha⟩
theorem hs_seq (ha : s.heap.get? a = some { cls := .type "list", data := .seq vs.toArray }) (hi : IntsAre vs ns) (hl : ns.length ≤ sizeLine) (KX : K.In s.heap) (hk : own = (K.lookup a).isSome) : SqL K (hScript a vs ns own) a (ns.map V.int) := by
  cases q : K.lookup a with
  | some o =>
    have e := KX a o q
    rw [ha] at e
    cases e
    exact .inr ⟨_, vs.toArray, _, q, rfl, rfl, rfl, by rw [List.size_toArray, hi.length]; exact hl, by simpa using vals_ints hi⟩
  | none =>
    refine .inl (.inr ⟨{ cls := .type "list", data := .seq vs.toArray }, ?_⟩)
    unfold hScript
    exact if_pos ⟨by rw [hk, q]; rfl, rfl⟩
/-- the law's def at the entry, its promise by FnG -/
theorem law_callG (KX : K.In s.heap) (hns : s.heap.Ns mainGlobals mg) (hb : s.heap.Ns builtinsNs mb) (hbb : ∀ x : Str, x ≠ "__name__" → mb x = bootBuiltins x) (hlim : s.heap.NoLimit) (hg : s.gens = #[])
    (ha : s.heap.get? a = some { cls := .type "list", data := .seq vs.toArray }) (hi : IntsAre vs ns) (hl : ns.length ≤ sizeLine) (hr : Room k callerA)
    (F : ∀ base : Heap, K.In base → base.Ns mainGlobals mg → FnG P w K mg base CX k fa fd [x] sp) (hbind : ∀ (s : Shared) (u : Value), BindsTo s fd ⟨[u], []⟩ [(x, u)])
    (hsp : ∀ H : Hp, Only H → SqL K H a (ns.map V.int) → sp [.ref a] H (fun v _ => v = .bl true) fun _ _ _ => False) (hCX : ∀ H e s', CX [] H s (fun _ _ _ => False) e s' → False) :
    codeAny (model P w) callerA (.call (.ref fa) ⟨[.ref a], []⟩) (fun r s' => r = .ok (.ret (.bool true)) ∧ OldK s.heap s'.heap ∧ s'.os = s.os ∧ AllBare s'.gens) s := by
  let own := (K.lookup a).isSome
  have hok : HOk P w (hScript a vs ns own) s.heap := hs_ok ha hi hl
  -- an object of the module, or a namespace, is not the tracked script
  have offK : ∀ {b : Addr} {o : Obj}, K.lookup b = some o → hScript a vs ns own b = none := fun {b o} e => by
    by_cases hb : b = a
    · refine hs_none (.inl ?_)
      show (K.lookup a).isSome = true
      rw [← hb, e]
      rfl
    · exact hs_none (.inr hb)
  have offD : ∀ {b : Addr} {o : Obj} {es : Array DictEntry} {ep : Nat}, s.heap.get? b = some o → o.data = .dict es ep → hScript a vs ns own b = none := fun {b o es ep} e d => by
    refine hs_none (.inr fun z => ?_)
    rw [z, ha] at e
    cases e
    cases (show Data.seq vs.toArray _ = Data.dict es ep from d)
  have nsK : ∀ {b : Addr} {m : Str → Option Value}, s.heap.Ns b m → (hidT s.heap (hScript a vs ns own)).Ns b m := fun {b m} ⟨o, es, ep, e, d, r⟩ => ⟨o, es, ep, hidT_get e (offD e d), d, r⟩
  have hKb : K.In (hidT s.heap (hScript a vs ns own)) := fun b o e => hidT_get (KX b o e) (offK e)
  obtain ⟨mc, c1, c2⟩ := hlim
  have hM : Mod K mg (hidT s.heap (hScript a vs ns own)) := ⟨hKb, nsK hns, ⟨mb, nsK hb, hbb⟩, mc, nsK c1, c2⟩
  have e0 : Env0 P w K mg (hidT s.heap (hScript a vs ns own)) callerA [] s (hScript a vs ns own) :=
    ⟨rfl, hM, fun b o e => of_hidT e, Nat.le_of_eq (hidT_size _ _), trivial, fun b hb => absurd (show b ∈ ([] : List Addr) from hb) (by simp), hok, .of_eq hg⟩
  refine codeAny_mono ((F _ hKb (nsK hns)).run callerA [] s (hScript a vs ns own) ⟨[.ref a], []⟩ [.ref a] [.ref a] _ _ rfl hr e0 (hbind s (.ref a)) (.cons rfl .nil) (hsp _ hs_only (hs_seq ha hi hl KX rfl))) fun r s' h => ?_
  match r, h with
  | .error e, h => exact (hCX _ e s' h).elim
  | .ok .next, h => exact h.elim
  | .ok .brk, h => exact h.elim
  | .ok .cont, h => exact h.elim
  | .ok (.ret u), ⟨v, H', os, bare, un, hok', rv, q⟩ =>
    cases (show v = .bl true from q)
    obtain rfl : u = Value.bool true := rv
    refine ⟨rfl, OldK.of_keep fun b o e => ?_, os, bare⟩
    cases z : hScript a vs ns own b with
    | none => exact un.keep b o e z (fun z => absurd (show b ∈ ([] : List Addr) from z) (by simp)) (by simp)
    | some u =>
      obtain ⟨_, _, rfl⟩ := hs_some z
      have y := (hok' b _ (un.frzs b _ _ z)).1
      have y0 := (hok b _ z).1
      rw [e] at y0
      cases y0
      exact y
end
/-- the goal behind the head, from the law's promise by FnG -/
theorem walk_ofG {l : PySem.W.OpenLaw} {n k : Nat} {q : Program} {loose : List Str} {XP : (Str → Option Value) → Heap → Prop} {YP : World → Heap → Prop} {d : DefRec} {K : Params → PySem.W.Frag} {CX : World → CXT} {sp : World → Sp} {x : Str}
    (hn : l.most = some n) (hn2 : n ≤ sizeLine) (hdf : d.params.defaults = []) (hr : Room k callerA) (hY : ∀ (w : World) (h : Heap), YP w h → (K w.params).In h)
    (F : ∀ (w : World) (mg : Str → Option Value) (fa : Addr) (h : Heap), (K w.params).In h → h.Ns mainGlobals mg → mg d.name = some (.ref fa) →
      ∃ fd : FuncData, (∀ (s : Shared) (u : Value), BindsTo s fd ⟨[u], []⟩ [(x, u)]) ∧ ∀ base : Heap, (K w.params).In base → base.Ns mainGlobals mg → FnG l.prog w (K w.params) mg base (CX w) k fa fd [x] (sp w))
    (hsp : ∀ (w : World) (H : Hp) (a : Addr) (ns : List Int), ns.length ≤ n → Only H → SqL (K w.params) H a (ns.map V.int) → sp w [.ref a] H (fun v _ => v = .bl true) fun _ _ _ => False)
    (hCX : ∀ (w : World) (H : Hp) (s : Shared) (e : Value) (s' : Shared), CX w [] H s (fun _ _ _ => False) e s' → False) :
    PySem.W.WalkO q loose XP YP l.row.toRowW d [] (fun f vs => PySem.call f vs) := by
  refine Att.attach_call hn hdf fun w s₀ s₁ mg mb fa o pm cd doc a vs ns G Y ho hd hcd hmg hobj hints hlen hg => ?_
  obtain ⟨fd, hb, hF⟩ := F w mg fa _ (hY w _ Y) G.T.g hmg
  exact law_callG (hY w _ Y) G.T.g G.T.b G.T.builtins G.T.nolimit hg hobj hints (Nat.le_trans hlen hn2) hr hF hb (fun H hO hS => hsp w H a ns hlen hO hS) fun H e s' => hCX w H s₁ e s'
end L3

namespace L3
open PySem PySem.Spec PyProof.Rows L2
abbrev Sm (n : Nat) (x : Int) : Prop := x.natAbs < 2 ^ n
theorem Sm.mono {n m : Nat} {x : Int} (h : Sm n x) (l : n ≤ m) : Sm m x := Nat.lt_of_lt_of_le h (Nat.pow_le_pow_right (by decide) l)
theorem Sm.le {n : Nat} {x y : Int} (h : Sm n y) (l : x.natAbs ≤ y.natAbs) : Sm n x := Nat.lt_of_le_of_lt l h
theorem Sm.mul {n m : Nat} {x y : Int} (h : Sm n x) (k : Sm m y) : Sm (n + m) (x * y) := wide_lt h k
theorem Sm.add {n : Nat} {x y : Int} (h : Sm n x) (k : Sm n y) : Sm (n + 1) (x + y) := by
  have e : (2 : Nat) ^ (n + 1) = 2 ^ n + 2 ^ n := by rw [Nat.pow_succ]; omega
  show (x + y).natAbs < 2 ^ (n + 1)
  rw [e]
  have h1 : x.natAbs < 2 ^ n := h
  have h2 : y.natAbs < 2 ^ n := k
  omega
theorem Sm.neg {n : Nat} {x : Int} (h : Sm n x) : Sm n (-x) := by
  show (-x).natAbs < 2 ^ n
  rw [Int.natAbs_neg]
  exact h
theorem Sm.sub {n : Nat} {x y : Int} (h : Sm n x) (k : Sm n y) : Sm (n + 1) (x - y) := by
  rw [Int.sub_eq_add_neg]
  exact h.add k.neg
theorem Sm.log {n k : Nat} {x : Int} (h : Sm n x) (h0 : 0 < n) (hk : n ≤ k) : x.natAbs.log2 < k := Nat.lt_of_lt_of_le (PySem.Flt.log2_lt_of h0 h) hk
theorem Sm.mulW {n m : Nat} {x y : Int} (h : Sm n x) (k : Sm m y) (h0 : 0 < n) (h1 : 0 < m) (hl : n + m ≤ 1000000) : CMulW x y := wide_mul h k h0 h1 hl
theorem len_app (x y : Str) : (x ++ y).length = x.length + y.length := by
  obtain ⟨a⟩ := x
  obtain ⟨b⟩ := y
  show (a ++ b).size = _
  simp [Str.length]
theorem size_ok {n : Nat} (h : n ≤ 100000) : n ≤ sizeLine := by rw [sizeLine_eq]; omega
def FeedAt (H : Hp) (a : Addr) : Prop := ∃ x y : Int, H a = some (.lst [.int x, .int y]) ∧ 0 ≤ y ∧ y ≤ 2147483648
/-- behind a draw: all but the feed stands -/
structure Dr (a : Addr) (H H' : Hp) : Prop where
  fd : FeedAt H' a
  sm : ∀ b o, b ≠ a → H b = some o → H' b = some o
theorem Dr.trans {a : Addr} {H H1 H2 : Hp} (x : Dr a H H1) (y : Dr a H1 H2) : Dr a H H2 := ⟨y.fd, fun b o n e => y.sm b o n (x.sm b o n e)⟩
def spFeed (K : PySem.W.Frag) : Sp := fun vs H Q _ => ∃ (a : Addr) (ns : List Int) (k : Nat), vs = [.ref a, .int k] ∧ SqL K H a (ns.map V.int) ∧ ns.length ≤ 63 ∧ k < 64 ∧
  ∀ (p : Addr) (H' : Hp), H p = none → Same H H' → FeedAt H' p → Q (.ref p) H'
def spTake : Sp := fun vs H Q _ => ∃ (a : Addr) (m : Int), vs = [.ref a, .int m] ∧ FeedAt H a ∧ 0 < m ∧ Sm 200 m ∧ ∀ (r : Int) (H' : Hp), 0 ≤ r → r < m → Dr a H H' → Q (.int r) H'
theorem same_new {H : Hp} {p : Addr} {o : HO} (h : H p = none) : Same H (upd H p o) := fun b u e => by
  rw [upd_ne (ne_of_none e h)]
  exact e
end L3

/-! repr of data of any kind; data in a heap that has grown -/
namespace L3
open PySem PySem.Spec PyProof.Rows L2
def rtext : PyData → Str
  | .none => "None"
  | .bool b => boolText b
  | .int i => Str.ofString (toString i)
  | .str x => reprText x
  | d => d.shown
structure FineB (d : PyData) : Prop where
  sh : d.showable = true
  nd : d.hasDict = false
  dp : d.depth ≤ 60
  sz : d.shown.length ≤ sizeLine
def Fine : PyData → Prop
  | .none => True
  | .bool _ => True
  | .int i => i.natAbs.log2 < 1920
  | .str x => (reprText x).length ≤ sizeLine
  | d => FineB d
def rRepr (K : PySem.W.Frag) : List V → Hp → VK → Prop := fun xs H Q => ∃ (x : V) (d : PyData), xs = [x] ∧ Dp K H x d ∧ Fine d ∧ Q (.str (rtext d)) H
theorem call_repr {X : Cx} (g : Calm X.A) (hu : X.A.units + 64 < cLine) : CallR X (.builtin "repr") (rRepr X.K) := by
  intro pins s σ H xs us Q I rx h
  obtain ⟨x, d, rfl, hd, hf, q⟩ := h
  cases hd with
  | non =>
    obtain ⟨u, rfl, r⟩ := vals1 rx
    cases r
    exact PySem.P.repr_of_none ⟨.str "None", H, I.tok _, ⟨_, rfl⟩, q⟩
  | bl b =>
    obtain ⟨u, rfl, r⟩ := vals1 rx
    cases r
    exact PySem.P.repr_of_bool ⟨.str (boolText b), H, I.tok _, ⟨_, rfl⟩, q⟩
  | int i =>
    obtain ⟨u, rfl, t, rfl⟩ := vals1 rx
    exact PySem.P.repr_of_int hf ⟨.str _, H, I.tok _, ⟨_, rfl⟩, q⟩
  | str y =>
    obtain ⟨u, rfl, t, rfl⟩ := vals1 rx
    exact PySem.P.repr_of_str ⟨.str _, H, I.tok _, ⟨_, rfl⟩, q⟩ hf
  | @lst a ys ds hs ha =>
    have f : FineB (.list ds) := hf
    exact call_reprD g hu pins s σ H _ us Q I rx ⟨_, _, rfl, .lst hs ha, ⟨a, rfl⟩, f.sh, f.nd, f.dp, f.sz, q⟩
  | @tup a ys ds hs ha =>
    have f : FineB (.tuple ds) := hf
    exact call_reprD g hu pins s σ H _ us Q I rx ⟨_, _, rfl, .tup hs ha, ⟨a, rfl⟩, f.sh, f.nd, f.dp, f.sz, q⟩
theorem Same.seqT {K : PySem.W.Frag} {H H' : Hp} {a : Addr} {xs : List V} (e : Same H H') (h : SqT K H a xs) : SqT K H' a xs := by
  rcases h with (h | ⟨o, h⟩) | h
  · exact .inl (.inl (e _ _ h))
  · exact .inl (.inr ⟨o, e _ _ h⟩)
  · exact .inr h
mutual
theorem dp_keep {K : PySem.W.Frag} {H H' : Hp} (k : ∀ a xs, SqL K H a xs → SqL K H' a xs) (kt : ∀ a xs, SqT K H a xs → SqT K H' a xs) : ∀ (d : PyData) (v : V), Dp K H v d → Dp K H' v d
  | .none, _, .non => .non
  | .bool b, _, .bl _ => .bl b
  | .int i, _, .int _ => .int i
  | .str x, _, .str _ => .str x
  | .list ds, _, .lst hs ha => .lst (k _ _ hs) (dpAll_keep k kt ds _ ha)
  | .tuple ds, _, .tup hs ha => .tup (kt _ _ hs) (dpAll_keep k kt ds _ ha)
theorem dpAll_keep {K : PySem.W.Frag} {H H' : Hp} (k : ∀ a xs, SqL K H a xs → SqL K H' a xs) (kt : ∀ a xs, SqT K H a xs → SqT K H' a xs) : ∀ (ds : List PyData) (vs : List V), DpAll K H vs ds → DpAll K H' vs ds
  | [], _, .nil => .nil
  | d :: ds, _, .cons h hs => .cons (dp_keep k kt d _ h) (dpAll_keep k kt ds _ hs)
end
theorem Dp.same {K : PySem.W.Frag} {H H' : Hp} {v : V} {d : PyData} (e : Same H H') (h : Dp K H v d) : Dp K H' v d := dp_keep (fun _ _ => e.seq) (fun _ _ => Same.seqT e) d v h
/-- a reading may ask for more than the rule does -/
theorem pe_imp {X : Cx} {e : Expr} {t t' : TE} (h : PE X e t) (i : ∀ σ H Q, t' σ H Q → t σ H Q) : PE X e t' := ⟨fun pins s σ H Q I q => h.run pins s σ H Q I (i σ H Q q)⟩
theorem pa_imp {X : Cx} {es : List Expr} {t t' : TA} (h : PA X es t) (i : ∀ σ H Q, t' σ H Q → t σ H Q) : PA X es t' := ⟨fun pos pins s σ H Q I q => h.run pos pins s σ H Q I (i σ H Q q)⟩
/-- _law_same -/
def spSame (K : PySem.W.Frag) : Sp := fun vs H Q _ => ∃ (x y : V) (d e : PyData), vs = [x, y] ∧ Dp K H x d ∧ Dp K H y e ∧ Fine d ∧ Fine e ∧ Q (.bl (decide (V.str (rtext d) = V.str (rtext e)))) H
end L3

/-! own exceptions over ValueError or KeyError: called; their built-in __init__ by super(); their first field. KeyError's __new__ is LookupError's, its __init__ its own -/
namespace L3
open PySem PySem.Spec PySem.W PySem.Calls
open PySem.HandSPX (excO)
abbrev keTail : List Value := [.type "KeyError", .type "LookupError", .type "Exception", .type "BaseException", .type "object"]
theorem kxs_KeyError : KxsFacts "KeyError" "KeyError.__init__" := ⟨by show builtinType _ = _; rw [builtinType_eq_fast]; kernel_rfl, by first | kernel_rfl | rfl⟩
theorem pass_KeyError (self : Value) : refuseLoop self "__setattr__" keTail = pure () := by kernel_rfl
/-- a built-in exception's __init__ -/
structure InitF (T i : String) : Prop where
  kind : builtinKind i = some .slot
  row : Manifest.signature? i = some ⟨.positional, "*", T, .self, [⟨"args", .varPos, false⟩]⟩
  star : (T != "*") = true
  plain : plainId i = true
  entry : entryFor table i = some Builtin.«BaseException.__init__»
theorem initF_of {T n i : String} (F : ExcCallFacts T n i) : InitF T i := ⟨F.initKind, F.initRow, F.noStar, F.init.plain, F.initEntry⟩
theorem initF_KeyError : InitF "KeyError" "KeyError.__init__" where
  kind := by kernel_rfl
  row := by kernel_rfl
  star := by decide +kernel
  plain := by decide +kernel
  entry := entryFor_alias (id' := "BaseException.__init__") (by rw [fastTable_eq_tree]; kernel_rfl) (by first | rfl | decide +kernel) (by decide +kernel) (by rw [fastTable_eq_tree]; kernel_rfl)
section
variable {prog : Program} {w : World} {A : Around} {E : Value → Shared → Prop} {h : Heap} {g : Array GenState} {d : Drawn} {t : Nat} {os : OsState} {nm q : Str} {C N : Addr} {bs bm : List Value} {hdct : Bool} {sn : List Str} {sub : List Value} {ab : Bool} {col : Option Bool} {dd : Option Addr} {k0 k1 k2 k3 k5 : Option Value} {T newId i : String} {us : List Value}
theorem bound_check (F : InitF T i) {e : Addr} {oe : Obj} {Q : Unit → Shared → Prop} (hC : h.get? C = some (excClassObj nm q C N bs bm hdct sn sub ab col dd k0 k1 k2 k3 k5 newId)) (he : h.get? e = some oe) (hcls : oe.cls = .ref C) (hq : Q () ⟨h, g, d, t, os⟩) :
    wpAny (model prog w) A (checkBoundCall i ⟨.ref e :: us, []⟩) Q E ⟨h, g, d, t, os⟩ := by
  have star := F.star
  simp only [checkBoundCall, F.kind, F.row]
  repeat (first
    | (with_reducible refine wpAny_loadPart_at he ?_
       rw [hcls])
    | with_reducible refine wpAny_loadPart_at hC ?_
    | wp_step)
  refine wpAny_onRaise ?_
  have e0 : ∀ (a b : String) (n : Nat), Bind.check ⟨.positional, "*", T, .self, [⟨"args", .varPos, false⟩]⟩ a b n (List.map (fun x => x.fst) ({ pos := Value.ref e :: us } : Args).kw) = pure () := fun a b n => check_star_args _ _ _ _ _ _
  rw [e0]
  exact wpAny_pure hq
/-- the built-in __init__, bound to the exception, called -/
theorem call_mw (F : InitF T i) {u e t0 : Addr} {Q : Value → Shared → Prop} (hC : h.get? C = some (excClassObj nm q C N bs bm hdct sn sub ab col dd k0 k1 k2 k3 k5 newId)) (he : h.get? e = some (excO C t0)) (hu : h.get? u = some (kxs_mw i e)) (hus : us.length ≤ sizeLine)
    (hq : ∀ h' t1, (∀ b o, b ≠ e → h.get? b = some o → h'.get? b = some o) → h'.get? e = some (excO C t1) → Q .none ⟨h', g, d, t, os⟩) : wpAny (model prog w) A (call (.ref u) us) Q E ⟨h, g, d, t, os⟩ := by
  have mw : (Value.type "method-wrapper" == Value.type "method" || Value.type "method-wrapper" == Value.type "builtin_function_or_method" || Value.type "method-wrapper" == Value.type "method-wrapper") = true := by decide
  refine wpAny_call (codeAny_of_tree ?_)
  show wpAny _ A.in1 (callAny (.ref u) ⟨us, []⟩) _ _ _
  simp only [callAny]
  refine wpAny_bind (wpAny_load hu ?_)
  simp only [kxs_mw, mw, if_true]
  refine KFB.if_so (by decide) (wpAny_bind (bound_check F hC he rfl (wpAny_bind (wpAny_pure (wpAny_pure ⟨plainId_quiet F.plain _, codeAny_builtin F.entry ?_⟩)))))
  exact exc_init_tree (cls := .ref C) (t0 := t0) (dv := none) (c2 := .none) (c3 := .none) (b4 := .bool false) he hus fun h' k e' _ => hq h' _ k e'
end
/-- what is asked of the built-in classes above an own one, when it is called -/
structure Above (B : String) (bm : List Value) : Prop where
  yes : bm.contains (.type B) = true
  noA : bm.contains (.type "AttributeError") = false
  noN : bm.contains (.type "NameError") = false
theorem above_ke : Above "LookupError" keTail := ⟨by decide +kernel, by decide +kernel, by decide +kernel⟩
section
variable {prog : Program} {w : World} {A : Around} {E : Value → Shared → Prop} {R : Result → Shared → Prop} {h : Heap} {g : Array GenState} {d : Drawn} {t : Nat} {os : OsState}
variable {nm q : Str} {C N : Addr} {bs bm bmB : List Value} {hdct : Bool} {sn : List Str} {sub : List Value} {ab : Bool} {col : Option Bool} {dd : Option Addr} {k0 k1 k2 k3 k5 : Option Value} {B newId initId : String} {us : List Value}
theorem with_own {v : Value} {b : Bool} (C : Addr) (hne : (v == Value.ref C) = false) (hb : bm.contains v = b) : (Value.ref C :: bm).contains v = b := by
  rw [List.contains_cons, hb, hne, Bool.false_or]
theorem above_check (F : ExcBaseFacts B newId initId bmB) (T : Above B bm) {Q : Unit → Shared → Prop} (hC : h.get? C = some (excClassObj nm q C N bs bm hdct sn sub ab col dd k0 k1 k2 k3 k5 newId)) (hq : Q () ⟨h, g, d, t, os⟩) :
    wpAny (model prog w) A (checkBuiltinCall newId ⟨.ref C :: us, []⟩) Q E ⟨h, g, d, t, os⟩ := by
  have c1 := with_own C rfl T.yes
  have star := F.noStar
  simp only [checkBuiltinCall, F.newKind, F.newSplit, F.newRow]
  repeat (first
    | refine wpAny_loadPart_at hC ?_
    | (refine wpAny_isSubtype_exc hC ?_
       rw [c1])
    | refine wpAny_staticBase_exc hC ?_
    | refine wpAny_madeBy_exc hC ?_
    | simp only [bne_self_eq_false, Bool.false_eq_true, if_false]
    | wp_step)
  exact hq
theorem above_new (F : ExcBaseFacts B newId initId bmB) (T : Above B bm) (hC : h.get? C = some (excClassObj nm q C N bs bm hdct sn sub ab col dd k0 k1 k2 k3 k5 newId)) (hus : us.length ≤ sizeLine)
    (hq : R (.ok (.ret (.ref (h.objs.size + 1)))) ⟨(h.push (W.kdv_tup us)).push (excO C h.objs.size), g, d, t, os⟩) : codeAny (model prog w) A (.builtin newId ⟨.ref C :: us, []⟩) R ⟨h, g, d, t, os⟩ := by
  have ends := F.ends
  have c1 := with_own C rfl T.yes
  have c2 := with_own C rfl T.noA
  have c3 := with_own C rfl T.noN
  refine codeAny_builtinAt F.entry ?_
  unfold Builtin.«BaseException.__new__»
  refine wpAt_bind ?_
  show wpAt _ _ _ (stack >>= _) _ _ _
  refine wpAt_bind (wpAt_stack fun p below => wpAt_of_wpAny ?_)
  wp_walk
  refine wpAt_of_wpAny ?_
  rw [F.owner]
  repeat (first
    | with_reducible refine wpAny_madeHere_exc F.canon hC ?_
    | with_reducible refine wpAny_loadPart_at hC ?_
    | (with_reducible refine wpAny_isSubtype_exc hC ?_
       first | rw [c1] | rw [c2] | rw [c3])
    | wp_step)
  show R _ _
  rw [Heap.size_push]
  exact hq
theorem above_type (F : ExcBaseFacts B newId initId bmB) (T : Above B bm) {fI : Addr} {Q : Fin → Shared → Prop} (hC : h.get? C = some (excClassObj nm q C N bs bm hdct sn sub ab col dd k0 k1 k2 k3 k5 newId)) (hi : Looks (model prog w) h (typeLookup (.ref C) "__init__") (some (.ref fI)))
    (hb : ∀ self, Looks (model prog w) h (bindSpecial (.ref fI) self) (.ref fI, [self])) (hus : us.length ≤ sizeLine)
    (hq : codeAny (model prog w) A (.call (.ref fI) ⟨.ref (h.objs.size + 1) :: us, []⟩)
      (fun r s' => match r with | .ok (.ret v) => v = .none ∧ Q (.done (.ret (.ref (h.objs.size + 1)))) s' | .ok _ => False | .error e => E e s') ⟨(h.push (W.kdv_tup us)).push (excO C h.objs.size), g, d, t, os⟩) :
    wpAny (model prog w) A (Builtin.«type.__call__» ⟨.ref C :: us, []⟩) Q E ⟨h, g, d, t, os⟩ := by
  repeat (first | with_reducible refine wpAny_loadPart_at hC ?_ | with_reducible refine wpAny_madeBy_exc hC ?_ | wp_step)
  refine codeAny_call_builtin_code (Code.quiet_builtin _ F.quiet) (above_check F T hC (above_new F T hC hus ?_))
  show wpAny _ _ _ _ _ _
  have up : ∀ b o, h.get? b = some o → ((h.push (W.kdv_tup us)).push (excO C h.objs.size)).get? b = some o := fun b o e => Heap.get?_push_of_some _ (Heap.get?_push_of_some _ e)
  have there : ((h.push (W.kdv_tup us)).push (excO C h.objs.size)).get? (h.objs.size + 1) = some (excO C h.objs.size) := by heap_get
  have cC := up _ _ hC
  have c0 : (Value.ref C :: bm).contains (.ref C) = true := by simp
  have look := hi.keeps up
  have bind := (hb (.ref (h.objs.size + 1))).keeps up
  unfold isInstance
  repeat (first
    | with_reducible refine wpAny_loadPart_at there ?_
    | (with_reducible refine wpAny_isSubtype_exc cC ?_
       rw [c0])
    | wp_step)
  show wpAny _ _ (typeLookup (.ref C) _) _ _ _
  refine look.at (wpAny_holding (wpAny_bind (bind.at (wpAny_bind (wpAny_call (codeAny_mono hq fun r s' z => ?_))))))
  match r, z with
  | .error e, z => exact z
  | .ok .next, z => exact z.elim
  | .ok .brk, z => exact z.elim
  | .ok .cont, z => exact z.elim
  | .ok (.ret v), ⟨hv, z⟩ =>
    subst hv
    first
      | exact wpAny_pure (wpAny_pure z)
      | (wp_walk; exact z)
theorem above_call (F : ExcBaseFacts B newId initId bmB) (T : Above B bm) {fI : Addr} (hC : h.get? C = some (excClassObj nm q C N bs bm hdct sn sub ab col dd k0 k1 k2 k3 k5 newId)) (hi : Looks (model prog w) h (typeLookup (.ref C) "__init__") (some (.ref fI)))
    (hb : ∀ self, Looks (model prog w) h (bindSpecial (.ref fI) self) (.ref fI, [self])) (hus : us.length ≤ sizeLine)
    (hq : codeAny (model prog w) (A.under (.builtin "type.__call__" ⟨.ref C :: us, []⟩)) (.call (.ref fI) ⟨.ref (h.objs.size + 1) :: us, []⟩) (W.InitBack (h.objs.size + 1) R) ⟨(h.push (W.kdv_tup us)).push (excO C h.objs.size), g, d, t, os⟩) :
    codeAny (model prog w) A (.call (.ref C) ⟨us, []⟩) R ⟨h, g, d, t, os⟩ := by
  have look := tc_lookup
  have bind := tc_bind (.ref C)
  have isT : (⟨h, g, d, t, os⟩ : Shared).TypeIs (.ref C) "type" := ⟨_, hC, rfl⟩
  refine codeAny_of_tree ?_
  show wpAny _ _ (callAny (.ref C) _) _ _ _
  repeat (any_goals (first | assumption | with_reducible refine wpAny_loadPart_at hC ?_ | wp_step))
  refine ⟨rfl, codeAny_call_builtin_at (Code.quiet_builtin _ (by decide +kernel)) entry_typeCall (wpAny_check_type_call_sub hC (above_type F T hC hi hb hus (codeAny_mono hq fun r s' z => ?_)))⟩
  match r, z with
  | .error e, z => exact z
  | .ok .next, z => exact z
  | .ok .brk, z => exact z
  | .ok .cont, z => exact z
  | .ok (.ret v), z => exact z
end

section
open Builtin Builtin.ObjectAttr
variable {prog : Program} {w : World} {A : Around} {E : Value → Shared → Prop} {R : Result → Shared → Prop} {hp : Heap} {g : Array GenState} {d : Drawn} {t : Nat} {os : OsState} {K : Frag} {name : Str} {tk : Tok} {v : Value} {x C : Addr} {fv : Array Value} {cd : ClassData}
/-- the first field of an own exception, whatever built-in class stands above -/
theorem first_field (X : K.In hp) (hx : hp.get? x = some { cls := .ref C, data := .fields fv }) (hcd : clsIn K C = some cd) (pass : refuseLoop (.ref x) "__setattr__" cd.mro = pure ()) (hne : cd.mro.isEmpty = false) (hob : cd.mro.contains (.type "object") = true) (hh : cd.hasDict = true)
    (ha : findIn K (.ref C) name = some none)
    (hq : ∀ h' tk' dx, (∀ b o, b ≠ x → hp.get? b = some o → h'.get? b = some o) → hp.objs.size ≤ dx → dx ≠ x → h'.get? x = some { cls := .ref C, dict := some dx, data := .fields fv } → h'.Ns1 dx (fun y => if y = name then some v else none) →
      R (.ok (.ret .none)) ⟨h', g, d, tk', os⟩) : codeAny (model prog w) A (.call (.builtin "object.__setattr__") ⟨[.ref x, .str name tk, v], []⟩) R ⟨hp, g, d, t, os⟩ := by
  have SF := F.store_object
  have J : InstAt hp x { cls := .ref C, data := .fields fv } C none := ⟨hx, rfl, rfl, trivial⟩
  have xs : x ≠ hp.objs.size := Nat.ne_of_lt (Heap.lt_size hx)
  have isO : Looks (model prog w) hp (isInstance (.ref x) (.type "object")) true := J.type.andThen (looks_mroIn X (by unfold mroIn; rw [hcd, Option.bind_some, if_neg (by rw [hne]; decide), hob]))
  have mro : Looks (model prog w) hp (mroOf (.ref C)) cd.mro := (looks_clsIn X hcd).andThen .now
  have noT : Looks (model prog w) hp (storeTaker? none) none := .now
  have data : Looks (model prog w) hp (classData C) cd := looks_clsIn X hcd
  refine codeAny_call_builtin SF.slot.plain SF.entry (@check_slot (model prog w) _ _ ⟨hp, g, d, t, os⟩ "object.__setattr__" "object" "__setattr__" (.ref x) [.str name tk, v] [] _ SF.kind SF.split isO (SF.args (.ref x) (.str name tk) v) ?_)
  rw [osa_eq, refuse_eq]
  refine wpAny_bind (wpAny_bind (J.type.at (wpAny_bind (mro.at ?_))))
  rw [pass]
  refine wpAny_pure (wpAny_bind (J.type.at (wpAny_bind ((looks_findIn X ha).at (wpAny_bind (noT.at ?_))))))
  show wpAny _ _ (storeInOwnDict (.ref x) (.ref C) (.str name tk) name v false) _ _ _
  obtain ⟨nm, bs, mr, ns, qn, hd, sn, sb, ab, col, del⟩ := cd
  dsimp only at hh
  subst hh
  unfold storeInOwnDict ownDictForStores
  repeat (first
    | with_reducible refine PySem.HandSPX.store_in_new ?_ ?_
    | with_reducible refine wpAny_loadPart_at hx ?_
    | with_reducible refine data.at ?_
    | wp_step)
  · exact ⟨_, #[], _, (Heap.get?_update_ne _ _ _ _ xs.symm).trans (Heap.get?_push_at rfl rfl), rfl, fun e he => absurd he (by simp), fun _ => rfl⟩
  · intro h' tk' hn hs
    have hx1 : (hp.push { cls := .type "dict", data := .dict #[] }).get? x = some { cls := .ref C, data := .fields fv } := Heap.get?_push_of_some _ hx
    exact hq h' tk' hp.objs.size (fun b o hb ho => (hs.2 b (Nat.ne_of_lt (Heap.lt_size ho))).trans ((Heap.get?_update_ne _ _ _ _ hb).trans (Heap.get?_push_of_some _ ho))) (Nat.le_refl _) xs.symm ((hs.2 x xs).trans (Heap.get?_update_self _ hx1 rfl)) hn
end
end L3

/-! own exceptions whose __init__ says super().__init__('..') and then stores fields -/
namespace L3
open PySem PySem.Spec PySem.W PySem.Calls PyProof.Rows
open PySem.HandSPX (excO refsVE refsVE_contains veTail)

/-- what stands around the line super().__init__('..') in the __init__ of the class at C, for the object at x -/
structure Sup (K : Frag) (prog : Program) (mg : Str → Option Value) (T i newId : String) (env : Env) (fI cda cc C x : Addr) (fd : FuncData) (h : Heap) : Prop where
  kin : K.In h
  glob : h.Ns mainGlobals mg
  blt : ∃ mb, h.Ns builtinsNs mb ∧ ∀ x : Str, x ≠ "__name__" → mb x = bootBuiltins x
  noS : mg "super" = none
  ks : env.kindOf "super" = some .globalImplicit
  kc : env.kindOf "__class__" = some .free
  kk : env.scope.kind = .function
  fu : env.func = some fI
  co : env.code = .ref cda
  gl : env.globals = mainGlobals
  bl : env.builtins = builtinsNs
  cell : env.cells.lookup ("__class__" : Str) = some cc
  fO : ∃ of, h.get? fI = some of ∧ of.data = .func fd
  ar : ∃ ar : Arg, (fd.params.posonlyargs ++ fd.params.args).head? = some ar ∧ env.kindOf ar.arg = some .local ∧ ∃ m, h.Ns env.locals m ∧ m ar.arg = some (.ref x)
  cO : ∃ oc vs file tf, h.get? cda = some oc ∧ oc.data = .fields vs ∧ vs[2]? = some (.str file tf) ∧ ((prog.main.file : Str) == file) = true
  top : (prog.main.scope.names.lookup ("super" : Str)).isSome = false
  ccO : h.IsCell cc (some (.ref C))
  cls : ∃ cd, clsIn K C = some cd ∧ alongIn K "__init__" ((cd.mro.dropWhile (· != .ref C)).drop 1) = some (some (.builtin i))
  obj : ∃ nm q N bs bm hdct sn sub ab col dd k0 k1 k2 k3 k5, h.get? C = some (excClassObj nm q C N bs bm hdct sn sub ab col dd k0 k1 k2 k3 k5 newId)
  subT : subIn K (.ref C) (.type T) = some true
  subC : subIn K (.ref C) (.ref C) = some true
  opq : nsIn K cStatics "thirdparty.any" = some none
  exO : ∃ t0, h.get? x = some (excO C t0)
section
variable {prog : Program} {w : World} {A : Around} {E : Value → Shared → Prop} {K : Frag} {mg : Str → Option Value} {env : Env} {fI cda cc C x : Addr} {fd : FuncData} {s : Shared} {body : List Stmt} {m : Str} {j : Nat} {pl : Sem Bool} {p0 p1 p2 p3 p4 p5 : Pos} {T i newId : String}
theorem sup_step (FB : InitF T i) (KF : KxsFacts T i) (S : Sup K prog mg T i newId env fI cda cc C x fd s.heap) {Q : Flow → Shared → Prop}
    (hq : ∀ h' tk t1, (∀ b o, b ≠ x → s.heap.get? b = some o → h'.get? b = some o) → h'.get? x = some (excO C t1) → Q .next { s with heap := h', toks := tk }) 
    (hi : interactive env = false := by rfl) (hs : swapsWith (.Call (.Attribute (.Call (.Name "super" p0) [] [] p1) "__init__" p2) [.Constant (.str m) j p3] [] p4) none p5.line env = pure false := by rfl)
    (he : eval (.Call (.Attribute (.Call (.Name "super" p0) [] [] p1) "__init__" p2) [.Constant (.str m) j p3] [] p4) env = (do
      let ov ← attributeBase (.Call (.Name "super" p0) [] [] p1) "__init__" env (eval (.Call (.Name "super" p0) [] [] p1) env)
      standAt p2.atName
      let (f, first) ← holding [ov] (getMethod ov "__init__" pl)
      callWith p4 f first (backTo p4 (starEach [.Constant (.str m) j p3] env)) []) := by rfl) :
    PySem.wpAt (model prog w) A (.func body env) (exec (.Expr (.Call (.Attribute (.Call (.Name "super" p0) [] [] p1) "__init__" p2) [.Constant (.str m) j p3] [] p4) p5) env) Q E s := by
  obtain ⟨of, hf, hfd⟩ := S.fO
  obtain ⟨ar, har, hka, ml, hnl, hml⟩ := S.ar
  obtain ⟨oc, vs, file, tf, hc1, hc2, hc3, hc4⟩ := S.cO
  obtain ⟨mb, hb, hbb⟩ := S.blt
  obtain ⟨cd, hcd, hal⟩ := S.cls
  obtain ⟨nm, q, N, bs, bm, hdct, sn, sub, ab, col, dd, k0, k1, k2, k3, k5, hC⟩ := S.obj
  obtain ⟨t0, hx⟩ := S.exO
  have kin := S.kin
  have hgl := S.glob
  have S_gl := S.gl
  have S_bl := S.bl
  have S_cc := S.ccO
  obtain ⟨hh, g, d, t, os⟩ := s
  dsimp only at *
  refine ks_wpAt_Expr_any ?_ hi hs
  refine ks_wpAt_MethodCall (pl := pl) ?_ he
  refine ks_wpAt_super_base S.ks S.kc (by decide) S.fu hf hfd har S.co hc1 hc2 hc3 hc4 S.top ?_
  refine ks_loadName_global S.kk S.ks (loadGlobal_builtin (env := env) (by rw [S_gl]; exact hgl) S.noS (by rw [S_bl]; exact hb) ((hbb _ (by decide +kernel)).trans (by decide +kernel : bootBuiltins "super" = some (.type "super"))) ⟨rfl, ?_⟩)
  refine wpAny_loadName_free S.kk S.kc S.cell S_cc ?_
  refine wpAny_loadName_local S.kk hka hnl hml ?_
  refine ks_wpAny_isType_cls hC rfl ⟨rfl, ?_⟩
  refine ks_wpAny_call_super hC rfl hx rfl (fun c e => by cases e) (looks_subIn kin S.subC) (fun h1 e1 k1' => ?_)
  have hx1 := k1' _ _ hx
  have kin1 : K.In h1 := kin.keeps k1'
  have hI1 : Looks (model prog w) h1 (isInstance (.ref x) (.type T)) true := by
    have I : InstAt h1 x (excO C t0) C none := ⟨hx1, rfl, rfl, trivial⟩
    exact I.type.andThen (looks_subIn kin1 S.subT)
  have hxC : x ≠ C := by
    rintro rfl
    rw [hC] at hx
    have y := Option.some.inj hx
    cases congrArg Obj.data y
  refine kxs_getMethod KF e1 (looks_opaque kin1 S.opq) (l₀ := cd.mro) ((looks_clsIn kin1 hcd).andThen .now) rfl kin1 hal hI1 hxC (by decide) ?_
  have hu : (h1.push (kxs_mw i x)).get? h1.objs.size = some (kxs_mw i x) := Heap.get?_push_at rfl rfl
  have k2' : ∀ b o, hh.get? b = some o → (h1.push (kxs_mw i x)).get? b = some o := fun b o e => Heap.get?_push_of_some _ (k1' b o e)
  refine kxs_callWith (i := i) (x := x) rfl ?_
  refine evalArgs_plain (spliced_cons (Constant_str (k := j) (pos := p3) (spliced_nil ⟨hu, ?_⟩)))
  refine call_mw FB (k2' _ _ hC) (k2' _ _ hx) hu (show 1 ≤ sizeLine by decide) (fun h' t1 k3' e3 => ?_)
  refine hq h' _ t1 (fun b o hb ho => k3' b o hb (k2' b o ho)) e3
end

/-- a class over ValueError -/
def OverVE (K : Frag) (C : Addr) : Prop := ∃ cd, clsIn K C = some cd ∧ refsVE cd.mro = true ∧ cd.hasDict = true
/-- the object with its fields' dict -/
abbrev excD (C t dx : Addr) : Obj := { cls := .ref C, dict := some dx, data := .fields #[.ref t, .none, .none, .none, .bool false, .none] }
/-- what the class says of stores -/
structure Sto (K : Frag) (C : Addr) : Prop where
  cls : ∃ cd, clsIn K C = some cd ∧ (∀ self, refuseLoop self "__setattr__" cd.mro = pure ()) ∧ cd.mro.isEmpty = false ∧ cd.mro.contains (.type "object") = true ∧ cd.hasDict = true
  sa : findIn K (.ref C) "__setattr__" = some (some (.builtin "object.__setattr__"))
section
variable {prog : Program} {w : World} {A : Around} {E : Value → Shared → Prop} {K : Frag} {env : Env} {C x t dx : Addr} {s : Shared} {body : List Stmt} {f y : Str} {u : Value} {p5 p6 p7 p8 : Pos} {ml m0 : Str → Option Value} {nl : List Str}
theorem fld_eval {Q : Value → Shared → Prop} {c : Code} (hk : env.scope.kind = .function) (hy : env.kindOf y = some .local) (hn : s.heap.Ns env.locals ml) (hv : ml y = some u) (hd : (y == ("__debug__" : Str)) = false) (h : Q u s) : PySem.wpAt (model prog w) A c (eval (.Name y p7) env) Q E s :=
  wpAt_of_wpAny (wpAny_Name (wpAny_loadName_local hk hy hn hv h) hd)
theorem sto_ve (h : OverVE K C) (sa : findIn K (.ref C) "__setattr__" = some (some (.builtin "object.__setattr__"))) : Sto K C := by
  obtain ⟨cd, h1, h2, h3⟩ := h
  exact ⟨⟨cd, h1, fun self => PySem.HandSPX.refsVE_pass self _ h2, PySem.HandSPX.refsVE_ne h2, (refsVE_contains "object" _ h2).trans (by decide +kernel), h3⟩, sa⟩
/-- self.f = y, the first field -/
theorem fld1 {Q : Flow → Shared → Prop} (T : Sto K C) (kin : K.In s.heap) (hx : s.heap.get? x = some (excO C t)) (hno : findIn K (.ref C) f = some none) (hk : env.scope.kind = .function) (hS : env.kindOf "self" = some .local) (hy : env.kindOf y = some .local)
    (hn : s.heap.Ns env.locals ml) (hself : ml "self" = some (.ref x)) (hv : ml y = some u) (hd : (y == ("__debug__" : Str)) = false)
    (hq : ∀ h' tk dx, (∀ b o, b ≠ x → s.heap.get? b = some o → h'.get? b = some o) → s.heap.objs.size ≤ dx → dx ≠ x → h'.get? x = some (excD C t dx) → h'.Ns1 dx (fun z => if z = f then some u else none) → Q .next { s with heap := h', toks := tk })
    (hs : swapsWith (.Name y p7) (some (.Attribute (.Name "self" p5) f p6)) p8.line env = pure false := by rfl) :
    PySem.wpAt (model prog w) A (.func body env) (exec (.Assign [.Attribute (.Name "self" p5) f p6] (.Name y p7) p8) env) Q E s := by
  obtain ⟨cd, hcd, hpa, hem, hob, hdi⟩ := T.cls
  refine ks_wpAt_Assign_Attr (fld_eval hk hy hn hv hd ?_) hs
  refine wpAny_Name (wpAny_loadName_local hk hS hn hself ?_) (by decide)
  refine set_plain kin (ox := excO C t) (od := none) ⟨hx, rfl, rfl, trivial⟩ T.sa ?_
  obtain ⟨hh, g, d, tk0, os⟩ := s
  exact first_field kin hx hcd (hpa _) hem hob hdi hno fun h' tk' dx k n1 n2 e1 e2 => hq h' tk' dx k n1 n2 e1 e2
/-- self.f = y, a further field -/
theorem fld2 {Q : Flow → Shared → Prop} (T : Sto K C) (V : OverVE K C) (kin : K.In s.heap) (hx : s.heap.get? x = some (excD C t dx)) (hns : s.heap.Ns1 dx m0) (hw : Within m0 nl) (hz : nl.length ≤ 1000) (hno : findIn K (.ref C) f = some none) (hk : env.scope.kind = .function) (hS : env.kindOf "self" = some .local) (hy : env.kindOf y = some .local)
    (hn : s.heap.Ns env.locals ml) (hself : ml "self" = some (.ref x)) (hv : ml y = some u) (hd : (y == ("__debug__" : Str)) = false)
    (hq : ∀ h' tk, (∀ b o, b ≠ dx → s.heap.get? b = some o → h'.get? b = some o) → h'.Ns1 dx (fun z => if z = f then some u else m0 z) → Q .next { s with heap := h', toks := tk })
    (hs : swapsWith (.Name y p7) (some (.Attribute (.Name "self" p5) f p6)) p8.line env = pure false := by rfl) :
    PySem.wpAt (model prog w) A (.func body env) (exec (.Assign [.Attribute (.Name "self" p5) f p6] (.Name y p7) p8) env) Q E s := by
  obtain ⟨cd, hcd, hre, hdi⟩ := V
  obtain ⟨oD, _, _, hoD, _, _⟩ := hns.count hw
  refine ks_wpAt_Assign_Attr (fld_eval hk hy hn hv hd ?_) hs
  refine wpAny_Name (wpAny_loadName_local hk hS hn hself ?_) (by decide)
  refine set_plain kin (ox := excD C t dx) (od := some oD) ⟨hx, rfl, rfl, hoD⟩ T.sa ?_
  obtain ⟨hh, g, d, tk0, os⟩ := s
  exact PySem.OEX.osa_old kin hx hns hw hz hcd hre hdi hno fun h' tk' k n => hq h' tk' k n
end
end L3

namespace L3
open PySem PySem.Spec PySem.W PySem.Calls PyProof.Rows L2
open PySem.HandSPX (excO refsVE refsVE_contains veTail)

theorem lk_cons {α : Type} (f g : Str) (y : α) (l : List (Str × α)) : ((f, y) :: l).lookup g = if g = f then some y else l.lookup g := by
  by_cases h : g = f
  · rw [if_pos h, h, List.lookup_cons]
    simp
  · have e : (g == f) = false := by simp [h]
    rw [List.lookup_cons, e, if_neg h]
/-- what the written part says of an __init__ that closes over __class__ -/
structure SupK (K : Frag) (prog : Program) (mg : Str → Option Value) (T i newId : String) (C fI cc cda : Addr) (fd : FuncData) (qual : Str) : Prop where
  noS : mg "super" = none
  fO : ∃ oc od osl, K.lookup fI = some ⟨oc, od, .func fd, osl⟩
  cO : ∃ oc od vs osl file tf, K.lookup cda = some ⟨oc, od, .fields vs, osl⟩ ∧ vs[2]? = some (.str file tf) ∧ ((prog.main.file : Str) == file) = true
  cIn : codeIn K (.ref cda) qual = true
  top : (prog.main.scope.names.lookup ("super" : Str)).isSome = false
  ccO : ∃ oc od osl, K.lookup cc = some ⟨oc, od, .cell (some (.ref C)), osl⟩
  cls : ∃ cd, clsIn K C = some cd ∧ alongIn K "__init__" ((cd.mro.dropWhile (· != .ref C)).drop 1) = some (some (.builtin i))
  obj : ∃ nm q N bs bm hdct sn sub ab col dd k0 k1 k2 k3 k5, K.lookup C = some (excClassObj nm q C N bs bm hdct sn sub ab col dd k0 k1 k2 k3 k5 newId)
  subT : subIn K (.ref C) (.type T) = some true
  subC : subIn K (.ref C) (.ref C) = some true
  opq : nsIn K cStatics "thirdparty.any" = some none
  sto : Sto K C
/-- the module's facts at a state -/
structure Gnd (K : Frag) (mg : Str → Option Value) (h : Heap) : Prop where
  kin : K.In h
  glob : h.Ns mainGlobals mg
  blt : ∃ mb, h.Ns builtinsNs mb ∧ ∀ x : Str, x ≠ "__name__" → mb x = bootBuiltins x
  lim : h.NoLimit
theorem Gnd.keeps {K : Frag} {mg : Str → Option Value} {h h' : Heap} (x : Gnd K mg h) (k : ∀ b o, h.get? b = some o → h'.get? b = some o) : Gnd K mg h' :=
  let ⟨mb, b1, b2⟩ := x.blt
  ⟨x.kin.keeps k, x.glob.keeps k, ⟨mb, b1.keeps k, b2⟩, x.lim.keeps k⟩
theorem Gnd.of {X : Cx} {pins : List (Addr × Obj)} {σ : L2.St} {H : Hp} {s : Shared} (I : Inv X pins σ H s) : Gnd X.K X.mg s.heap :=
  let ⟨mb, b1, b2⟩ := I.mod.blt
  ⟨I.kIn, I.mod.glob.keeps I.bk, ⟨mb, b1.keeps I.bk, b2⟩, I.nolimit⟩
/-- an __init__ that stores its arguments in the fields fs of the exception it is called on -/
def InitOk (P : Program) (w : World) (K : Frag) (mg : Str → Option Value) (C fI : Addr) (fs : List Str) : Prop :=
  ∀ (A : Around) (hb : Heap) (s : Shared) (x t0 : Addr) (us : List Value) (R : Result → Shared → Prop), A.depth < recursionLimit → Gnd K mg hb → (∀ b o, hb.get? b = some o → s.heap.get? b = some o) → hb.get? x = none → s.heap.get? x = some (excO C t0) → us.length = fs.length →
    (∀ h' tk t1 dx m, (∀ b o, b ≠ x → s.heap.get? b = some o → h'.get? b = some o) → s.heap.get? dx = none → dx ≠ x → h'.get? x = some (excD C t1 dx) → h'.Ns1 dx m → (∀ z, m z = (fs.zip us).reverse.lookup z) → R (.ok (.ret .none)) { s with heap := h', toks := tk }) →
    codeAny (model P w) A (.call (.ref fI) ⟨.ref x :: us, []⟩) R s
section
variable {P : Program} {w : World} {K : Frag} {mg : Str → Option Value} {C fI cc cda : Addr} {qual : Str} {params : Arguments} {body : List Stmt} {scope : Scope} {dV kV doc pm ct : Value} {an : Option Addr} {T i newId : String}
abbrev initFn (qual : Str) (params : Arguments) (body : List Stmt) (scope : Scope) (dV kV doc pm : Value) (an : Option Addr) (cda : Addr) (ct : Value) (cc : Addr) : FuncData := ksFn "__init__" qual params body scope dV kV doc pm an (.ref cda) ct cc
/-- the environment of such a def's body -/
abbrev initEnv (qual : Str) (scope : Scope) (L f cda cc : Addr) : Env := ksEnv qual scope L f (.ref cda) cc
theorem sup_of {h : Heap} {L x t0 : Addr} {ml : Str → Option Value} (S : SupK K P mg T i newId C fI cc cda (initFn qual params body scope dV kV doc pm an cda ct cc) qual) (G : Gnd K mg h) (hn : h.Ns L ml) (hs : ml "self" = some (.ref x)) (hx : h.get? x = some (excO C t0))
    (ar : (params.posonlyargs ++ params.args).head?.map (·.arg) = some ("self" : Str)) (k1 : scope.names.lookup ("super" : Str) = some .globalImplicit) (k2 : scope.names.lookup ("__class__" : Str) = some .free) (k3 : scope.names.lookup ("self" : Str) = some .local) (k4 : scope.kind = .function) :
    Sup K P mg T i newId (initEnv qual scope L fI cda cc) fI cda cc C x (initFn qual params body scope dV kV doc pm an cda ct cc) h := by
  obtain ⟨oc, od, osl, fO⟩ := S.fO
  obtain ⟨oc2, od2, vs, osl2, file, tf, c1, c2, c3⟩ := S.cO
  obtain ⟨oc3, od3, osl3, ccO⟩ := S.ccO
  obtain ⟨nm, q, N, bs, bm, hdct, sn, sub, ab, col, dd, j0, j1, j2, j3, j5, hC⟩ := S.obj
  refine ⟨G.kin, G.glob, G.blt, S.noS, k1, k2, k4, rfl, rfl, rfl, rfl, rfl, ⟨_, G.kin _ _ fO, rfl⟩, ?_, ⟨_, vs, file, tf, G.kin _ _ c1, rfl, c2, c3⟩, S.top, ⟨_, G.kin _ _ ccO, rfl⟩, S.cls, ⟨nm, q, N, bs, bm, hdct, sn, sub, ab, col, dd, j0, j1, j2, j3, j5, G.kin _ _ hC⟩, S.subT, S.subC, S.opq, ⟨t0, hx⟩⟩
  show ∃ a : Arg, (params.posonlyargs ++ params.args).head? = some a ∧ _
  cases e : (params.posonlyargs ++ params.args).head? with
  | none => rw [e] at ar; cases ar
  | some a =>
    rw [e] at ar
    have ea : a.arg = "self" := Option.some.inj ar
    exact ⟨a, rfl, by rw [ea]; exact k3, ml, hn, by rw [ea]; exact hs⟩
/-- __init__(self, y): super().__init__('..'); self.f = y -/
theorem init1 {m f y : Str} {j : Nat} {pl : Sem Bool} {p0 p1 p2 p3 p4 p5 q5 q6 q7 q8 : Pos} (FB : InitF T i) (KF : KxsFacts T i)
    (S : SupK K P mg T i newId C fI cc cda (initFn qual params body scope dV kV doc pm an cda ct cc) qual)
    (hb : body = [.Expr (.Call (.Attribute (.Call (.Name "super" p0) [] [] p1) "__init__" p2) [.Constant (.str m) j p3] [] p4) p5, .Assign [.Attribute (.Name "self" q5) f q6] (.Name y q7) q8])
    (hf : findIn K (.ref C) f = some none) (ar : (params.posonlyargs ++ params.args).head?.map (·.arg) = some ("self" : Str))
    (k1 : scope.names.lookup ("super" : Str) = some .globalImplicit) (k2 : scope.names.lookup ("__class__" : Str) = some .free) (k3 : scope.names.lookup ("self" : Str) = some .local) (k4 : scope.kind = .function)
    (k5 : scope.names.lookup y = some .local) (k6 : scope.isCoroutine = false) (k7 : scope.isGenerator = false) (k8 : ∀ z ∈ scope.names, z.2 ≠ .cell) (ny : (y == ("self" : Str)) = false) (hd : (y == ("__debug__" : Str)) = false)
    (hbind : ∀ a u, bindArgs (initFn qual params body scope dV kV doc pm an cda ct cc) ⟨[a, u], []⟩ = pure [(("self" : Str), a), (y, u)])
    (hi : ∀ L, interactive (initEnv qual scope L fI cda cc) = false) (hs : ∀ L, swapsWith (.Call (.Attribute (.Call (.Name "super" p0) [] [] p1) "__init__" p2) [.Constant (.str m) j p3] [] p4) none p5.line (initEnv qual scope L fI cda cc) = pure false)
    (he : ∀ L, eval (.Call (.Attribute (.Call (.Name "super" p0) [] [] p1) "__init__" p2) [.Constant (.str m) j p3] [] p4) (initEnv qual scope L fI cda cc) = (do
      let ov ← attributeBase (.Call (.Name "super" p0) [] [] p1) "__init__" (initEnv qual scope L fI cda cc) (eval (.Call (.Name "super" p0) [] [] p1) (initEnv qual scope L fI cda cc))
      standAt p2.atName
      let (g, first) ← holding [ov] (getMethod ov "__init__" pl)
      callWith p4 g first (backTo p4 (starEach [.Constant (.str m) j p3] (initEnv qual scope L fI cda cc))) []))
    (hs2 : ∀ L, swapsWith (.Name y q7) (some (.Attribute (.Name "self" q5) f q6)) q8.line (initEnv qual scope L fI cda cc) = pure false) : InitOk P w K mg C fI [f] := by
  intro A hB s x t0 us R hr GB kB nB hx hl hq
  have G := GB.keeps kB
  match us, hl with
  | [u], _ =>
  obtain ⟨oc, od, osl, fO⟩ := S.fO
  refine ks_codeAny_call_defAt (fd := initFn qual params body scope dV kV doc pm an cda ct cc) (body := body) (binds := [(("self" : Str), .ref x), (y, u)]) hr (G.kin _ _ fO) rfl G.lim (codeRec_of G.kin S.cIn) rfl (.of_eq (hbind _ _)) k8 ?_ (fun h₀ hn k => ?_) k6 k7 k4
  · intro z hz
    rcases List.mem_cons.mp hz with rfl | hz
    · exact k3
    · rcases List.mem_cons.mp hz with rfl | hz
      · exact k5
      · cases hz
  · have hn' : h₀.Ns s.heap.objs.size (fun z => if z = y then some u else if z = "self" then some (.ref x) else none) := by
      have e : (fun z => List.lookup z [(("self" : Str), Value.ref x), (y, u)].reverse) = (fun z => if z = y then some u else if z = "self" then some (.ref x) else none) := by
        funext z
        show List.lookup z [(y, u), (("self" : Str), Value.ref x)] = _
        rw [lk_cons, lk_cons, List.lookup_nil]
      rw [← e]
      exact hn
    have ne : ¬ (("self" : Str) = y) := fun z => by rw [← z] at ny; simp at ny
    have G0 := G.keeps k
    have xL : x ≠ s.heap.objs.size := Nat.ne_of_lt (Heap.lt_size hx)
    have vS : (if (("self" : Str) = y) then some u else if (("self" : Str) = "self") then some (.ref x) else none) = some (.ref x) := by rw [if_neg ne, if_pos rfl]
    have bx : ∀ {b : Addr} {o : Obj}, hB.get? b = some o → b ≠ x := fun {b o} e z => by rw [z, nB] at e; cases e
    rw [hb]
    refine ks_wpAt_execs_cons (sup_step FB KF (sup_of S G0 hn' vS (k _ _ hx) ar k1 k2 k3 k4) (fun h1 tk1 t1 kk1 e1 => ?_) (hi _) (hs _) (he _))
    have G1 : Gnd K mg h1 := GB.keeps fun b o e => kk1 b o (bx e) (k b o (kB b o e))
    have n1 : h1.Ns s.heap.objs.size (fun z => if z = y then some u else if z = "self" then some (.ref x) else none) := hn'.at fun o e => kk1 _ o (Ne.symm xL) e
    refine ks_wpAt_execs_cons (fld1 (y := y) S.sto G1.kin e1 hf k4 k3 k5 n1 vS (by rw [if_pos rfl]) hd (fun h2 tk2 dx kk2 n2 ne2 e2 e3 => ?_) (hs2 _))
    refine wpAt_of_wpAny (wpAny_execs_nil ?_)
    refine hq h2 tk2 t1 dx _ (fun b o hb' ho => kk2 b o hb' (kk1 b o hb' (k b o ho))) ?_ ne2 e2 e3 (fun z => ?_)
    · cases q : s.heap.get? dx with
      | none => rfl
      | some o => exact absurd (Heap.lt_size (kk1 dx o ne2 (k dx o q))) (Nat.not_lt.mpr n2)
    · show _ = List.lookup z [(f, u)]
      rw [lk_cons, List.lookup_nil]
/-- __init__(self, y, y2): super().__init__('..'); self.f = y; self.f2 = y2 -/
theorem init2 {m f y f2 y2 : Str} {j : Nat} {pl : Sem Bool} {p0 p1 p2 p3 p4 p5 q5 q6 q7 q8 r5 r6 r7 r8 : Pos} (FB : InitF T i) (KF : KxsFacts T i)
    (S : SupK K P mg T i newId C fI cc cda (initFn qual params body scope dV kV doc pm an cda ct cc) qual)
    (hb : body = [.Expr (.Call (.Attribute (.Call (.Name "super" p0) [] [] p1) "__init__" p2) [.Constant (.str m) j p3] [] p4) p5, .Assign [.Attribute (.Name "self" q5) f q6] (.Name y q7) q8, .Assign [.Attribute (.Name "self" r5) f2 r6] (.Name y2 r7) r8])
    (V : OverVE K C) (hf : findIn K (.ref C) f = some none) (hf2 : findIn K (.ref C) f2 = some none) (ar : (params.posonlyargs ++ params.args).head?.map (·.arg) = some ("self" : Str))
    (k1 : scope.names.lookup ("super" : Str) = some .globalImplicit) (k2 : scope.names.lookup ("__class__" : Str) = some .free) (k3 : scope.names.lookup ("self" : Str) = some .local) (k4 : scope.kind = .function)
    (k5 : scope.names.lookup y = some .local) (k52 : scope.names.lookup y2 = some .local) (k6 : scope.isCoroutine = false) (k7 : scope.isGenerator = false) (k8 : ∀ z ∈ scope.names, z.2 ≠ .cell) (ny : (y == ("self" : Str)) = false) (hd : (y == ("__debug__" : Str)) = false) (ny2 : (y2 == ("self" : Str)) = false) (hd2 : (y2 == ("__debug__" : Str)) = false) (nyy : (y == y2) = false)
    (hbind : ∀ a u u2, bindArgs (initFn qual params body scope dV kV doc pm an cda ct cc) ⟨[a, u, u2], []⟩ = pure [(("self" : Str), a), (y, u), (y2, u2)])
    (hi : ∀ L, interactive (initEnv qual scope L fI cda cc) = false) (hs : ∀ L, swapsWith (.Call (.Attribute (.Call (.Name "super" p0) [] [] p1) "__init__" p2) [.Constant (.str m) j p3] [] p4) none p5.line (initEnv qual scope L fI cda cc) = pure false)
    (he : ∀ L, eval (.Call (.Attribute (.Call (.Name "super" p0) [] [] p1) "__init__" p2) [.Constant (.str m) j p3] [] p4) (initEnv qual scope L fI cda cc) = (do
      let ov ← attributeBase (.Call (.Name "super" p0) [] [] p1) "__init__" (initEnv qual scope L fI cda cc) (eval (.Call (.Name "super" p0) [] [] p1) (initEnv qual scope L fI cda cc))
      standAt p2.atName
      let (g, first) ← holding [ov] (getMethod ov "__init__" pl)
      callWith p4 g first (backTo p4 (starEach [.Constant (.str m) j p3] (initEnv qual scope L fI cda cc))) []))
    (hs2 : ∀ L, swapsWith (.Name y q7) (some (.Attribute (.Name "self" q5) f q6)) q8.line (initEnv qual scope L fI cda cc) = pure false)
    (hs3 : ∀ L, swapsWith (.Name y2 r7) (some (.Attribute (.Name "self" r5) f2 r6)) r8.line (initEnv qual scope L fI cda cc) = pure false) : InitOk P w K mg C fI [f, f2] := by
  intro A hB s x t0 us R hr GB kB nB hx hl hq
  have G := GB.keeps kB
  match us, hl with
  | [u, u2], _ =>
  obtain ⟨oc, od, osl, fO⟩ := S.fO
  refine ks_codeAny_call_defAt (fd := initFn qual params body scope dV kV doc pm an cda ct cc) (body := body) (binds := [(("self" : Str), .ref x), (y, u), (y2, u2)]) hr (G.kin _ _ fO) rfl G.lim (codeRec_of G.kin S.cIn) rfl (.of_eq (hbind _ _ _)) k8 ?_ (fun h₀ hn k => ?_) k6 k7 k4
  · intro z hz
    rcases List.mem_cons.mp hz with rfl | hz
    · exact k3
    · rcases List.mem_cons.mp hz with rfl | hz
      · exact k5
      · rcases List.mem_cons.mp hz with rfl | hz
        · exact k52
        · cases hz
  · have hn' : h₀.Ns s.heap.objs.size (fun z => if z = y2 then some u2 else if z = y then some u else if z = "self" then some (.ref x) else none) := by
      have e : (fun z => List.lookup z [(("self" : Str), Value.ref x), (y, u), (y2, u2)].reverse) = (fun z => if z = y2 then some u2 else if z = y then some u else if z = "self" then some (.ref x) else none) := by
        funext z
        show List.lookup z [(y2, u2), (y, u), (("self" : Str), Value.ref x)] = _
        rw [lk_cons, lk_cons, lk_cons, List.lookup_nil]
      rw [← e]
      exact hn
    have ne : ¬ (("self" : Str) = y) := fun z => by rw [← z] at ny; simp at ny
    have ne2 : ¬ (("self" : Str) = y2) := fun z => by rw [← z] at ny2; simp at ny2
    have neyy : ¬ (y = y2) := fun z => by rw [← z] at nyy; simp at nyy
    have G0 := G.keeps k
    have xL : x ≠ s.heap.objs.size := Nat.ne_of_lt (Heap.lt_size hx)
    have vS : (if (("self" : Str) = y2) then some u2 else if (("self" : Str) = y) then some u else if (("self" : Str) = "self") then some (.ref x) else none) = some (.ref x) := by rw [if_neg ne2, if_neg ne, if_pos rfl]
    have bx : ∀ {b : Addr} {o : Obj}, hB.get? b = some o → b ≠ x := fun {b o} e z => by rw [z, nB] at e; cases e
    rw [hb]
    refine ks_wpAt_execs_cons (sup_step FB KF (sup_of S G0 hn' vS (k _ _ hx) ar k1 k2 k3 k4) (fun h1 tk1 t1 kk1 e1 => ?_) (hi _) (hs _) (he _))
    have G1 : Gnd K mg h1 := GB.keeps fun b o e => kk1 b o (bx e) (k b o (kB b o e))
    have n1 : h1.Ns s.heap.objs.size (fun z => if z = y2 then some u2 else if z = y then some u else if z = "self" then some (.ref x) else none) := hn'.at fun o e => kk1 _ o (Ne.symm xL) e
    refine ks_wpAt_execs_cons (fld1 (y := y) S.sto G1.kin e1 hf k4 k3 k5 n1 vS (by rw [if_neg neyy, if_pos rfl]) hd (fun h2 tk2 dx kk2 n2 ndx e2 e3 => ?_) (hs2 _))
    have fr : s.heap.get? dx = none := by
      cases q : s.heap.get? dx with
      | none => rfl
      | some o => exact absurd (Heap.lt_size (kk1 dx o ndx (k dx o q))) (Nat.not_lt.mpr n2)
    have kx : ∀ b o, b ≠ x → s.heap.get? b = some o → h2.get? b = some o := fun b o hb' ho => kk2 b o hb' (kk1 b o hb' (k b o ho))
    have G2 : Gnd K mg h2 := GB.keeps fun b o e => kx b o (bx e) (kB b o e)
    have n3 : h2.Ns s.heap.objs.size (fun z => if z = y2 then some u2 else if z = y then some u else if z = "self" then some (.ref x) else none) := n1.at fun o e => kk2 _ o (Ne.symm xL) e
    have wi : Within (fun z => if z = f then some u else none) [f] := fun z hz => by
      by_cases e : z = f
      · rw [e]; exact List.mem_cons_self ..
      · exact absurd (if_neg e) hz
    refine ks_wpAt_execs_cons (fld2 (y := y2) S.sto V G2.kin e2 e3 wi (show 1 ≤ 1000 by decide) hf2 k4 k3 k52 n3 vS (by rw [if_pos rfl]) hd2 (fun h3 tk3 kk3 e4 => ?_) (hs3 _))
    refine wpAt_of_wpAny (wpAny_execs_nil ?_)
    refine hq h3 tk3 t1 dx _ (fun b o hb' ho => ?_) fr ndx (kk3 _ _ (Ne.symm ndx) e2) e4 (fun z => ?_)
    · exact kk3 b o (fun z => by rw [z, fr] at ho; cases ho) (kx b o hb' ho)
    · show _ = List.lookup z [(f2, u2), (f, u)]
      rw [lk_cons, lk_cons, List.lookup_nil]

end
end L3

namespace L3
open PySem PySem.Spec PyProof.Rows L2
open PySem.HandSPX (excO refsVE refsVE_contains veTail)

section
variable {fs ex : List Addr} {H : Hp} {h h' : Heap} {a d : Addr} {o u : HO}
theorem un_two (k : ∀ b z, h.get? b = some z → h'.get? b = some z) (ga : h.get? a = none) (gd : h.get? d = none) (na : H a = none) (nd : H d = none) : Un fs ex H (upd (upd H d u) a o) h h' where
  keep := fun b z q _ _ _ => k b z q
  slot := fun b z q _ _ _ => ⟨z.slots, k b z q⟩
  free := fun b z q n _ => by rw [upd_ne (fun y => by rw [y, ga] at q; cases q), upd_ne (fun y => by rw [y, gd] at q; cases q)]; exact n
  there := fun b z q _ => ⟨z, k b z q⟩
  tups := fun b xs q => by rw [upd_ne (ne_of_none q na), upd_ne (ne_of_none q nd)]; exact q
  frzs := fun b z xs q => by rw [upd_ne (ne_of_none q na), upd_ne (ne_of_none q nd)]; exact q
  tbls := fun b ps q => ⟨#[], by rw [upd_ne (ne_of_none q na), upd_ne (ne_of_none q nd), q]; simp⟩
end
def excFields (fs : List Str) (vs : List V) : List (Str × V) := (fs.zip vs).reverse
theorem rel_look {l : List (Str × V)} {r : List (Str × Value)} (h : Paired (fun (p : Str × V) (q : Str × Value) => p.1 = q.1 ∧ RelV p.2 q.2) l r) (z : Str) : RelO (l.lookup z) (r.lookup z) := by
  induction h with
  | nil => exact True.intro
  | @cons p q l r h _ ih =>
    obtain ⟨f, v⟩ := p
    obtain ⟨g, u⟩ := q
    obtain ⟨e, rv⟩ := h
    dsimp only at e rv
    subst e
    rw [lk_cons, lk_cons]
    by_cases hz : z = f
    · rw [if_pos hz, if_pos hz]
      exact rv
    · rw [if_neg hz, if_neg hz]
      exact ih
theorem rel_zip {vs : List V} {us : List Value} (h : Vals vs us) : ∀ (fs : List Str), Paired (fun (p : Str × V) (q : Str × Value) => p.1 = q.1 ∧ RelV p.2 q.2) (fs.zip vs) (fs.zip us) := by
  induction h with
  | nil => intro fs; simp; exact .nil
  | cons r _ ih =>
    intro fs
    cases fs with
    | nil => exact .nil
    | cons f fs => exact .cons ⟨rfl, r⟩ (ih fs)
theorem pair_app {α β : Type} {R : α → β → Prop} {l1 l2 : List α} {r1 r2 : List β} (h : Paired R l1 r1) (k : Paired R l2 r2) : Paired R (l1 ++ l2) (r1 ++ r2) := by
  induction h with
  | nil => exact k
  | cons a _ ih => exact .cons a ih
theorem pair_rev {α β : Type} {R : α → β → Prop} {l : List α} {r : List β} (h : Paired R l r) : Paired R l.reverse r.reverse := by
  induction h with
  | nil => exact .nil
  | cons a _ ih =>
    rw [List.reverse_cons, List.reverse_cons]
    exact pair_app ih (.cons a .nil)
theorem exc_rel {fs : List Str} {vs : List V} {us : List Value} {m : Str → Option Value} (h : Vals vs us) (hm : ∀ z, m z = (fs.zip us).reverse.lookup z) (z : Str) : RelO ((excFields fs vs).lookup z) (m z) := by
  rw [hm]
  exact rel_look (pair_rev (rel_zip h fs)) z

/-- an exception that is held as a value, with its fields -/
def ExAt (H : Hp) (a C : Addr) : Option (List (Str × V)) → Prop
  | none => H a = some (exo a C none)
  | some l => ∃ d, H a = some (exo a C (some d)) ∧ H d = some (exd d l)
/-- C(e, ..), C's own __init__ storing the arguments in the fields fs -/
def tMkV (C : Addr) (fs : List Str) (ta : TA) : TE := fun σ H Q => ta σ H fun vs H1 => vs.length = fs.length ∧ vs.length ≤ 900 ∧ ∀ a d, H1 a = none → H1 d = none → d ≠ a → Q (.ref a) (upd (upd H1 d (exd d (excFields fs vs))) a (exo a C (some d)))
section
variable {X : Cx} {x : Str} {C fI : Addr} {fs : List Str} {e : Expr} {es : List Expr} {ta : TA} {p pos : Pos}
theorem pe_mkV (J : InitOk X.prog X.w X.K X.mg C fI fs) {B newId initId : String} {bmB bm : List Value} (F : ExcBaseFacts B newId initId bmB) (T : Above B bm) (V : ∃ nm q N bs hdct sn sub ab col dd k0 k1 k2 k3 k5, X.K.lookup C = some (excClassObj nm q C N bs bm hdct sn sub ab col dd k0 k1 k2 k3 k5 newId)) (kC : PySem.W.keepIn X.K (.ref C) = true) (iC : PySem.W.findIn X.K (.ref C) "__init__" = some (some (.ref fI))) (tI : PySem.W.typeIn X.K (.ref fI) = some (.type "function")) (hr : Room 1 X.A) (hg : Gl X x) (hm : X.mg x = some (.ref C)) (ha : PA X (e :: es) ta)
    (hdb : (x == ("__debug__" : Str)) = false := by decide) (he : starEach (e :: es) X.env = (false, eval e X.env) :: starEach es X.env := by rfl) (hpl : (backTo pos (starEach es X.env)).any (·.1) = false := by rfl) :
    PE X (.Call (.Name x p) (e :: es) [] pos) (tMkV C fs ta) := by
  refine ⟨fun pins s σ H Q I h => ?_⟩
  obtain ⟨nm, q, N, bs, hdct, sn, sub, ab, col, dd, k0, k1, k2, k3, k5, hC⟩ := V
  refine wpAny_Call_Name_kw (ld_glob I hg hm ?_ hdb)
  refine PySem.W.callWith_K (h₀ := X.base) I.ok.mod.kin kC (thn (ha.run pos pins s σ H _ I h) fun us s1 ⟨vs, H1, I1, r1, hl, hz, q1⟩ => ⟨I1.kIn, ?_⟩) he hpl
  show wpAny _ _ (call (.ref C) us) _ _ _
  have G := Gnd.of I1
  obtain ⟨hp, g, dr, tk, os⟩ := s1
  have ul : us.length = vs.length := (Paired.length r1).symm
  have hus : us.length ≤ sizeLine := Nat.le_trans (show us.length ≤ 900 by omega) (show 900 ≤ sizeLine by decide)
  have kk : ∀ b o, hp.get? b = some o → ((hp.push (PySem.W.kdv_tup us)).push (excO C hp.objs.size)).get? b = some o := fun b o e => Heap.get?_push_of_some _ (Heap.get?_push_of_some _ e)
  have hget : ((hp.push (PySem.W.kdv_tup us)).push (excO C hp.objs.size)).get? (hp.objs.size + 1) = some (excO C hp.objs.size) := by heap_get
  have nx : hp.get? (hp.objs.size + 1) = none := by
    cases q : hp.get? (hp.objs.size + 1) with
    | none => rfl
    | some o => exact absurd (Heap.lt_size q) (Nat.not_lt.mpr (Nat.le_succ _))
  refine wpAny_call (above_call F T (I1.kIn _ _ hC) (PySem.W.looks_findIn I1.kIn iC) (fun self => PySem.W.bind_fn I1.kIn self tI) hus ?_)
  refine J _ hp _ (hp.objs.size + 1) hp.objs.size us _ (hr.make C us []).depth G kk nx hget (ul.trans hl) fun h' tk' t1 dx m k fr ne e1 e2 e3 => ⟨rfl, ?_⟩
  have kall : ∀ b o, hp.get? b = some o → h'.get? b = some o := fun b o e => k b o (fun z => by rw [z, nx] at e; cases e) (kk b o e)
  have nd : hp.get? dx = none := by
    cases q : hp.get? dx with
    | none => rfl
    | some o => rw [kk dx o q] at fr; cases fr
  have na1 := I1.hok.gone nx
  have nd1 := I1.hok.gone nd
  have ok1 : HOk X.prog X.w (upd H1 dx (exd dx (excFields fs vs))) h' := I1.hok.laidN kall nd1 (exd_ok e2 (exc_rel r1 e3))
  have na2 : upd H1 dx (exd dx (excFields fs vs)) (hp.objs.size + 1) = none := by rw [upd_ne (Ne.symm ne)]; exact na1
  have ok2 := ok1.laidN (o := exo (hp.objs.size + 1) C (some dx)) (fun _ _ e => e) na2 (exo_ok e1)
  exact ⟨.ref (hp.objs.size + 1), _, I1.un (t' := tk') (un_two kall nx nd na1 nd1) ok2, rfl, q1 _ _ na1 nd1 ne⟩
/-- C(), an own exception class without own __init__ -/
theorem pe_mkV0 {bmB : List Value} {B newId initId : String} (F : ExcBaseFacts B newId initId bmB) (q : PySem.W.excIn X.K C bmB newId = true) (gC : X.mg x = some (.ref C)) (kC : PySem.W.keepIn X.K (.ref C) = true) (hg : Gl X x) (hdb : (x == ("__debug__" : Str)) = false := by decide) :
    PE X (.Call (.Name x p) [] [] pos) (fun _ H Q => ∀ a, H a = none → Q (.ref a) (upd H a (exo a C none))) := by
  refine ⟨fun pins s σ H Q I h => ?_⟩
  refine wpAny_Call_Name_kw (ld_glob I hg gC ?_ hdb)
  refine PySem.W.callWith_K0 I.kIn kC ?_
  obtain ⟨bm, N, nm, qn, bs, hdct, sn, sub, ab, col, dd, k0, k1, k2, k3, k5, mN, hC, hN, hni, T⟩ := exc_obj I.kIn q
  refine wpAny_call_exc_subT F T hC hN hni (fun h' a hm => ?_) (Nat.zero_le _)
  have hn : H a = none := I.hok.gone hm.new
  obtain ⟨t, ht, _, _⟩ := hm.there
  exact ⟨.ref a, upd H a (exo a C none), I.laidN hm.keeps hm.new hn (exo_ok ht), rfl, h a hn⟩
end
end L3

namespace PySem.W
open PySem PySem.Spec PySem.Calls PyProof.Rows
section
variable {prog : Program} {w : World} {A : Around} {E : Value → Shared → Prop} {s : Shared} {K : Frag} {x D : Addr} {ox : Obj} {od : Option Obj}
theorem l3_findObj {C : Addr} {name : Str} {a g : Value} (hc : (clsIn K C).isSome = true) (ha : findIn K (.ref C) name = some (some a)) (hg : specialIn K a "__get__" = some (some g)) (ht : takesIn K a = some true) : findObj K C od name = some (.bind g a) := by
  cases od with
  | none => exact findObj_dataN hc ha hg ht
  | some o => exact findObj_data hc ha hg ht
/-- e.__class__ of an own exception, whether it has its dict or not -/
theorem l3_class {Q : Option Value → Shared → Prop} (T : L2.ExcC K D) (X : K.In s.heap) (I : InstAt s.heap x ox D od) (h : Q (some (.ref D)) { s with toks := s.toks + 1 }) : wpAny (model prog w) A (getAttr? (.ref x) "__class__") Q E s := by
  have hcd : (clsIn K D).isSome = true := by
    obtain ⟨cd, hc, _⟩ := any_some T.hd
    rw [hc]
    rfl
  obtain ⟨hp, g, d, t, os⟩ := s
  have ty := I.type (M := model prog w)
  have find := looks_find (M := model prog w) X I (l3_findObj (od := od) hcd T.ha T.hn T.ht)
  have isB : Looks (model prog w) hp (isInstance (.ref x) (.type "BaseException")) true := ty.andThen (looks_subIn X T.hs)
  have n2 : (Value.builtin "BaseException.__getattribute__" == Value.builtin "object.__getattribute__") = false := by decide +kernel
  have n1 : (onTheHeap (Value.ref D) && Value.builtin "BaseException.__getattribute__" == Value.builtin "object.__getattribute__") = false := by rw [n2]; rfl
  unfold getAttr? getAttrBy? getAttrBy
  refine wpAny_bind (wpAny_mkText (wpAny_bind (wpAny_attempt (wpAny_holding (wpAny_bind (ty.at (wpAny_bind ((looks_findIn (M := model prog w) X T.hg).at ?_))))))))
  show wpAny _ _ (if (onTheHeap (Value.ref D) && Value.builtin "BaseException.__getattribute__" == Value.builtin "object.__getattribute__") = true then _ else _) _ _ _
  rw [n1, if_neg Bool.false_ne_true]
  unfold getAttrByItsOwn hookBefore
  refine wpAny_bind ?_
  rw [if_pos (show onTheHeap (Value.ref D) = true from rfl)]
  refine (looks_findIn (M := model prog w) X T.hk).at (wpAny_bind (wpAny_attempt (wpAny_holding ?_)))
  unfold callGetattribute
  rw [show (false && onTheHeap (Value.builtin "BaseException.__getattribute__")) = false from rfl, if_neg Bool.false_ne_true]
  unfold boundAndCalled
  rw [PySem.F.excAttr_ValueError.ga.bind (.ref x)]
  refine wpAny_bind (wpAny_pure ?_)
  show wpAny _ _ (call (.builtin "BaseException.__getattribute__") [.ref x, .str "__class__" t]) _ _ _
  refine wpAny_call (codeAny_call_builtin PySem.F.excAttr_ValueError.ga.plain PySem.F.entry_bexc_ga ?_)
  refine @check_slot (model prog w) _ _ ⟨hp, g, d, t + 1, os⟩ "BaseException.__getattribute__" "BaseException" "__getattribute__" (.ref x) [.str "__class__" t] [] _ (by decide +kernel) (by decide +kernel) isB (PySem.F.args_bexc_ga (.ref x) (.str "__class__" t)) ?_
  unfold Builtin.«object.__getattribute__»
  refine wpAny_bind (wpAny_of_eq (a := ((Value.ref x : Value), [Value.str "__class__" t])) (by first | rfl | (simp only [slotArgs]; rfl)) ?_)
  refine wpAny_bind (wpAny_pure (wpAny_bind (ty.at (wpAny_bind (find.at ?_)))))
  show wpAny _ _ (holding [Value.builtin "object.__class__"] (call (.builtin "getset_descriptor.__get__") [.builtin "object.__class__", .ref x, .ref D]) >>= ret) _ _ _
  refine wpAny_bind (wpAny_holding (wpAny_call (class_get (s := ⟨hp, g, d, t + 1, os⟩) (ox := ox) (od := od) X I T.hm ?_)))
  refine wpAny_pure ?_
  show wpAny _ _ (handedOut (.ref D)) _ _ _
  rw [handedOut_of (v := .ref D) rfl]
  first
    | exact wpAny_pure (wpAny_pure h)
    | exact wpAny_pure h
    | exact wpAny_pure (wpAny_bind (wpAny_pure (wpAny_pure h)))
theorem l3_cls {M : Model} {h : Heap} (X : K.In h) (hd : hasDictIn K D = true) : Looks M h (isType (.ref D)) true := by
  obtain ⟨cd, hc, _⟩ := any_some hd
  unfold clsIn at hc
  split at hc
  · rename_i ho
    intro A' Q' E' s' k q
    unfold isType loadHead
    exact wpAny_bind (wpAny_loadPart (k _ _ (X _ _ ho)) (wpAny_pure q))
  · cases hc
theorem l3_kit (T : L2.ExcC K D) : KitX K (.ref x) (.ref D) (fun h => ∃ ox od, InstAt h x ox D od) where
  ty := fun _ _ _ ⟨_, _, I⟩ => I.type
  it := fun _ _ X _ => l3_cls X T.hd
  ne := fun h tp dd its n sl X htp => by
    obtain ⟨cd, hc, _⟩ := any_some T.hd
    refine Bool.eq_false_iff.mpr fun q => ?_
    have e : D = tp := Value.ref.inj (beq_iff_eq.mp q)
    subst e
    unfold clsIn at hc
    split at hc
    · rename_i ho
      have z := (X _ _ ho).symm.trans htp
      cases z
    · cases hc
  ca := fun X ⟨_, _, I⟩ k => l3_class T X I k
end
end PySem.W
namespace L3
open PySem PySem.Spec PyProof.Rows L2
section
variable {X : Cx} {pins : List (Addr × Obj)} {σ : L2.St} {H : Hp} {s : Shared}
theorem exat_inst {a C : Addr} {fs : Option (List (Str × V))} (I : Inv X pins σ H s) (h : ExAt H a C fs) : ∃ ox od, PySem.W.InstAt s.heap a ox C od := by
  cases fs with
  | none =>
    obtain ⟨t1, e⟩ := exo_at I.hok h
    exact ⟨_, none, e, rfl, rfl, trivial⟩
  | some l =>
    obtain ⟨d, h1, h2⟩ := h
    obtain ⟨t1, e⟩ := exo_at I.hok h1
    obtain ⟨mA, hns, _⟩ := exd_at I.hok h2
    obtain ⟨o, _, _, ho, _⟩ := hns
    exact ⟨_, some o, e, rfl, rfl, ho⟩
end
/-- isinstance(e, c), e an own exception that is held as a value -/
def rIsX (K : PySem.W.Frag) : List V → Hp → VK → Prop := fun xs H Q => ∃ (a D : Addr) (fs : Option (List (Str × V))) (c : V) (u : Value) (b : Bool), xs = [.ref a, c] ∧ ExAt H a D fs ∧ ExcC K D ∧ ClsV c u ∧ PySem.W.kitOne K (.ref D) u = some b ∧ Q (.bl b) H
theorem call_isX {X : Cx} : CallR X (.builtin "isinstance") (rIsX X.K) := by
  intro pins s σ H xs us Q I r h
  obtain ⟨a, D, fs, c, u, b, rfl, he, T, k, e, q⟩ := h
  obtain ⟨u1, u2, rfl, r1, r2⟩ := vals2 r
  have e2 := k.eq r2
  subst e2
  obtain rfl : u1 = Value.ref a := r1
  exact PySem.W.kia_one (PySem.W.l3_kit T) I.kIn (exat_inst I he) e (fun z => nomatch z) fun tk => ⟨.bl b, H, I.tok tk, rfl, q⟩
/-- e.f, e an own exception that is held as a value -/
def tXv (K : PySem.W.Frag) (f : Str) (te : TE) : TE := fun σ H Q => te σ H fun x H1 => ∃ (a C : Addr) (fs : List (Str × V)) (v : V), x = .ref a ∧ ExAt H1 a C (some fs) ∧ XfC K C ∧ PySem.W.findIn K (.ref C) f = some none ∧ fs.lookup f = some v ∧ Q v H1
theorem pe_xv {X : Cx} {e : Expr} {te : TE} {pos : Pos} {n : Str} (he : PE X e te) (hb : attributeBase e n X.env (eval e X.env) = eval e X.env := by rfl) : PE X (.Attribute e n pos) (tXv X.K n te) := by
  refine ⟨fun pins s σ H Q I h => ?_⟩
  refine attr_of hb (thn (he.run pins s σ H _ I h) fun u s1 hh => ?_)
  obtain ⟨x, H1, I1, rx, a, C, fs, v, ex, ⟨d, h1, h2⟩, T, hno, l, q⟩ := hh
  subst ex
  obtain rfl : u = Value.ref a := rx
  obtain ⟨t1, e1⟩ := exo_at I1.hok h1
  obtain ⟨mA, hns, hr⟩ := exd_at I1.hok h2
  obtain ⟨od, ho, hl⟩ := lookIn_ns hns
  obtain ⟨u, hu, ru⟩ := RelO.some_of (v := v) (o := mA n) (by rw [← l]; exact hr n)
  exact HandSPX.exc_get I1.kIn (ox := _) (od := some od) ⟨e1, rfl, rfl, ho⟩ T.ga T.gg T.exC (PySem.W.findObj_own T.hdC hno rfl (by rw [hl, hu])) (handed_of ru) ⟨v, H1, I1.tok _, ru, q⟩
end L3

/-! what the written part says of own exceptions' classes, looked at at once -/
namespace L3
open PySem PySem.Spec PySem.W PyProof.Rows L2
open PySem.HandSPX (refsVE refsVE_contains veTail)
def excB (K : Frag) (D : Addr) : Bool := xfB K D && (decide (findIn K (.ref D) "__class__" = some (some (.builtin "object.__class__"))) && (decide (specialIn K (.builtin "object.__class__") "__get__" = some (some (.builtin "getset_descriptor.__get__"))) &&
  (decide (takesIn K (.builtin "object.__class__") = some true) && decide (mroIn K D (.type "object") = some true))))
theorem excB_ok {K : Frag} {D : Addr} (h : excB K D = true) : ExcC K D ∧ XfC K D := by
  unfold excB at h
  simp only [Bool.and_eq_true, decide_eq_true_eq] at h
  obtain ⟨h1, h2, h3, h4, h5⟩ := h
  have x := xfB_ok h1
  exact ⟨⟨x.ga, x.gg, x.exC, x.hdC, h2, h3, h4, h5⟩, x⟩
/-- a class whose __init__ at f says super().__init__ of the built-in class T -/
def supB (K : Frag) (C f : Addr) (T i : String) (fs : List Str) : Bool := keepIn K (.ref C) && (decide (findIn K (.ref C) "__init__" = some (some (.ref f))) && (decide (typeIn K (.ref f) = some (.type "function")) && (decide (findIn K (.ref C) "__setattr__" = some (some (.builtin "object.__setattr__"))) &&
  (decide (subIn K (.ref C) (.type T) = some true) && (decide (subIn K (.ref C) (.ref C) = some true) && (decide (nsIn K cStatics "thirdparty.any" = some none) && (decide (ks_superIn K C C "__init__" = some (some (.builtin i))) && fs.all fun g => decide (findIn K (.ref C) g = some none))))))))
structure SupF (K : Frag) (C f : Addr) (T i : String) (fs : List Str) : Prop where
  kC : keepIn K (.ref C) = true
  iC : findIn K (.ref C) "__init__" = some (some (.ref f))
  tI : typeIn K (.ref f) = some (.type "function")
  sa : findIn K (.ref C) "__setattr__" = some (some (.builtin "object.__setattr__"))
  subT : subIn K (.ref C) (.type T) = some true
  subC : subIn K (.ref C) (.ref C) = some true
  opq : nsIn K cStatics "thirdparty.any" = some none
  cls : ∃ cd, clsIn K C = some cd ∧ alongIn K "__init__" ((cd.mro.dropWhile (· != .ref C)).drop 1) = some (some (.builtin i))
  no : ∀ g ∈ fs, findIn K (.ref C) g = some none
theorem supB_ok {K : Frag} {C f : Addr} {T i : String} {fs : List Str} (h : supB K C f T i fs = true) : SupF K C f T i fs := by
  unfold supB at h
  simp only [Bool.and_eq_true, decide_eq_true_eq, List.all_eq_true] at h
  obtain ⟨h1, h2, h3, h4, h5, h6, h7, h8, h9⟩ := h
  refine ⟨h1, h2, h3, h4, h5, h6, h7, ?_, h9⟩
  unfold ks_superIn at h8
  obtain ⟨cd, e1, e2⟩ := Option.bind_eq_some_iff.mp h8
  exact ⟨cd, e1, e2⟩
theorem above_ve {bm : List Value} (h : refsVE bm = true) : Above "ValueError" bm :=
  ⟨(refsVE_contains "ValueError" bm h).trans (by decide +kernel), (refsVE_contains "AttributeError" bm h).trans (by decide +kernel), (refsVE_contains "NameError" bm h).trans (by decide +kernel)⟩
section
variable {K : Frag} {C : Addr} {nm q : Str} {N : Addr} {bs bm : List Value} {sn : List Str} {sub : List Value} {ab : Bool} {col : Option Bool} {dd : Option Addr} {k0 k1 k2 k3 k5 : Option Value} {newId : String}
theorem cls_of (hC : K.lookup C = some (excClassObj nm q C N bs bm true sn sub ab col dd k0 k1 k2 k3 k5 newId)) :
    clsIn K C = some { name := nm, bases := bs, mro := .ref C :: bm, ns := N, qualname := q, hasDict := true, slotNames := sn, subclasses := sub, abstract := ab, collection := col, hasDel := false } := by
  unfold clsIn
  rw [hC] <;> rfl
theorem over_of (hC : K.lookup C = some (excClassObj nm q C N bs bm true sn sub ab col dd k0 k1 k2 k3 k5 newId)) (h : refsVE bm = true) : OverVE K C := ⟨_, cls_of hC, h, rfl⟩
theorem sto_ke (hC : K.lookup C = some (excClassObj nm q C N bs keTail true sn sub ab col dd k0 k1 k2 k3 k5 newId)) (sa : findIn K (.ref C) "__setattr__" = some (some (.builtin "object.__setattr__"))) : Sto K C :=
  ⟨⟨_, cls_of hC, fun self => by rw [show (Value.ref C :: keTail) = Value.ref C :: keTail from rfl, refuseLoop_ref]; exact pass_KeyError self, rfl, by rw [List.contains_cons, show keTail.contains (.type "object") = true by decide +kernel, Bool.or_true], rfl⟩, sa⟩
end
/-- all that the __init__'s own objects must say -/
structure InK (K : Frag) (prog : Program) (C f cc cda : Addr) (fd : FuncData) (qual : Str) : Prop where
  fO : ∃ oc od osl, K.lookup f = some ⟨oc, od, .func fd, osl⟩
  cO : ∃ oc od vs osl file tf, K.lookup cda = some ⟨oc, od, .fields vs, osl⟩ ∧ vs[2]? = some (.str file tf) ∧ ((prog.main.file : Str) == file) = true
  cIn : codeIn K (.ref cda) qual = true
  top : (prog.main.scope.names.lookup ("super" : Str)).isSome = false
  ccO : ∃ oc od osl, K.lookup cc = some ⟨oc, od, .cell (some (.ref C)), osl⟩
theorem supK_of {K : Frag} {prog : Program} {mg : Str → Option Value} {T i newId : String} {C f cc cda : Addr} {fd : FuncData} {qual : Str} {fs : List Str} {nm q : Str} {N : Addr} {bs bm : List Value} {sn : List Str} {sub : List Value} {ab : Bool} {col : Option Bool} {dd : Option Addr} {k0 k1 k2 k3 k5 : Option Value}
    (I : InK K prog C f cc cda fd qual) (S : SupF K C f T i fs) (hC : K.lookup C = some (excClassObj nm q C N bs bm true sn sub ab col dd k0 k1 k2 k3 k5 newId)) (sto : Sto K C) (noS : mg "super" = none) : SupK K prog mg T i newId C f cc cda fd qual :=
  ⟨noS, I.fO, I.cO, I.cIn, I.top, I.ccO, S.cls, ⟨nm, q, N, bs, bm, true, sn, sub, ab, col, dd, k0, k1, k2, k3, k5, hC⟩, S.subT, S.subC, S.opq, sto⟩
end L3

/-! raise C(e, ..), C an own exception whose __init__ says super().__init__ and stores fields -/
namespace L3
open PySem PySem.Spec PyProof.Rows L2
open PySem.HandSPX (excO)
theorem upd_upd (H : Hp) (D : Addr) (o u : HO) : upd (upd H D o) D u = upd H D u := by
  funext b
  by_cases h : b = D
  · rw [h, upd_same, upd_same]
  · rw [upd_ne h, upd_ne h, upd_ne h]
theorem del_upd {H : Hp} {a : Addr} {o : HO} (h : H a = none) : L2.del (upd H a o) a = H := by
  funext b
  by_cases e : b = a
  · rw [e, del_same, h]
  · rw [del_ne e, upd_ne e]
section
variable {fr : List Addr} {H : Hp} {h h' : Heap} {a d C : Addr} {l : List (Str × V)}
/-- behind the __init__: the exception has got its dict -/
theorem un_init (k : ∀ b o, b ≠ a → h.get? b = some o → h'.get? b = some o) (there : ∃ o, h'.get? a = some o) (gd : h.get? d = none) (nd : H d = none) (ne : d ≠ a) :
    Un fr [] (upd H a (exo a C none)) (upd (upd H d (exd d l)) a (exo a C (some d))) h h' := by
  have na : ∀ {b : Addr}, upd H a (exo a C none) b = none → b ≠ a := fun {b} q z => by
    rw [z, upd_same] at q
    cases q
  have nx : ∀ {b : Addr} {o : HO}, upd H a (exo a C none) b = some o → o ≠ exo a C none → b ≠ a ∧ H b = some o := fun {b o} q n => by
    by_cases z : b = a
    · rw [z, upd_same] at q
      exact absurd (Option.some.inj q).symm n
    · rw [upd_ne z] at q
      exact ⟨z, q⟩
  have same : ∀ {b : Addr} {o : HO}, upd H a (exo a C none) b = some o → o ≠ exo a C none → upd (upd H d (exd d l)) a (exo a C (some d)) b = some o := fun {b o} q n => by
    obtain ⟨n1, q1⟩ := nx q n
    rw [upd_ne n1, upd_ne (ne_of_none q1 nd)]
    exact q1
  exact {
    keep := fun b o q n _ _ => k b o (na n) q
    slot := fun b o q n _ _ => ⟨o.slots, k b o (na n) q⟩
    free := fun b o q n _ => by
      rw [upd_ne (na n), upd_ne (fun z => by rw [z, gd] at q; cases q)]
      rw [upd_ne (na n)] at n
      exact n
    there := fun b o q _ => by
      by_cases z : b = a
      · rw [z]
        exact there
      · exact ⟨o, k b o z q⟩
    tups := fun b xs q => same q (Ne.symm exo_tup)
    frzs := fun b o u q => same q (Ne.symm exo_frz)
    tbls := fun b ps q => ⟨#[], by rw [same q (Ne.symm exo_tbl)]; simp⟩ }
end
/-- the reading of what is raised -/
def tSup (C : Addr) (fs : List Str) (ta : TA) : L2.St → Hp → XK → Prop := fun σ H Q => ta σ H fun vs H1 => vs.length = fs.length ∧ vs.length ≤ 900 ∧ ∀ d, H1 d = none → Q (.ref C) (some d) (upd H1 d (.xd (excFields fs vs)))
theorem pmk_sup {X : Cx} {x : Str} {C fI : Addr} {fs : List Str} {e : Expr} {es : List Expr} {ta : TA} {p pos : Pos} {B newId initId : String} {bmB bm : List Value} (J : InitOk X.prog X.w X.K X.mg C fI fs) (F : ExcBaseFacts B newId initId bmB) (T : Above B bm)
    (V : ∃ nm q N bs hdct sn sub ab col dd k0 k1 k2 k3 k5, X.K.lookup C = some (excClassObj nm q C N bs bm hdct sn sub ab col dd k0 k1 k2 k3 k5 newId)) (kC : PySem.W.keepIn X.K (.ref C) = true) (iC : PySem.W.findIn X.K (.ref C) "__init__" = some (some (.ref fI)))
    (tI : PySem.W.typeIn X.K (.ref fI) = some (.type "function")) (exC : PySem.W.subIn X.K (.ref C) (.type "BaseException") = some true) (tyC : PySem.W.typeIn X.K (.ref C) = some (.type "type")) (hr : Room 1 X.A) (hg : Gl X x) (hm : X.mg x = some (.ref C)) (ha : PA X (e :: es) ta)
    (hdb : (x == ("__debug__" : Str)) = false := by decide) (he : starEach (e :: es) X.env = (false, eval e X.env) :: starEach es X.env := by rfl) (hpl : (backTo pos (starEach es X.env)).any (·.1) = false := by rfl) :
    PMk X (.Call (.Name x p) (e :: es) [] pos) (tSup C fs ta) := by
  intro pins s σ H Q I h
  obtain ⟨nm, q, N, bs, hdct, sn, sub, ab, col, dd, k0, k1, k2, k3, k5, hC⟩ := V
  refine wpAny_Call_Name_kw (ld_glob I hg hm (PySem.W.callWith_K (h₀ := X.base) I.ok.mod.kin kC (thn (ha.run pos pins s σ H _ I h) fun us s1 ⟨vs, H1, I1, r1, hl, hz, q1⟩ => ⟨I1.kIn, ?_⟩) he hpl) hdb)
  show wpAny _ _ (call (.ref C) us) _ _ _
  have G := Gnd.of I1
  obtain ⟨hp, g, dr, tk, os⟩ := s1
  have ul : us.length = vs.length := (Paired.length r1).symm
  have hus : us.length ≤ sizeLine := Nat.le_trans (show us.length ≤ 900 by omega) (show 900 ≤ sizeLine by decide)
  have kk : ∀ b o, hp.get? b = some o → ((hp.push (PySem.W.kdv_tup us)).push (excO C hp.objs.size)).get? b = some o := fun b o e => Heap.get?_push_of_some _ (Heap.get?_push_of_some _ e)
  have hget : ((hp.push (PySem.W.kdv_tup us)).push (excO C hp.objs.size)).get? (hp.objs.size + 1) = some (excO C hp.objs.size) := by heap_get
  have nx : hp.get? (hp.objs.size + 1) = none := by
    cases q : hp.get? (hp.objs.size + 1) with
    | none => rfl
    | some o => exact absurd (Heap.lt_size q) (Nat.not_lt.mpr (Nat.le_succ _))
  refine wpAny_call (above_call F T (I1.kIn _ _ hC) (PySem.W.looks_findIn I1.kIn iC) (fun self => PySem.W.bind_fn I1.kIn self tI) hus ?_)
  refine J _ hp _ (hp.objs.size + 1) hp.objs.size us _ (hr.make C us []).depth G kk nx hget (ul.trans hl) fun h' tk' t1 dx m k fr ne e1 e2 e3 => ⟨rfl, ?_⟩
  have kall : ∀ b o, hp.get? b = some o → h'.get? b = some o := fun b o e => k b o (fun z => by rw [z, nx] at e; cases e) (kk b o e)
  have nd : hp.get? dx = none := by
    cases q : hp.get? dx with
    | none => rfl
    | some o => rw [kk dx o q] at fr; cases fr
  have na1 := I1.hok.gone nx
  have nd1 := I1.hok.gone nd
  have ok1 : HOk X.prog X.w (upd H1 dx (exd dx (excFields fs vs))) h' := I1.hok.laidN kall nd1 (exd_ok e2 (exc_rel r1 e3))
  have na2 : upd H1 dx (exd dx (excFields fs vs)) (hp.objs.size + 1) = none := by rw [upd_ne (Ne.symm ne)]; exact na1
  have ok2 := ok1.laidN (o := exo (hp.objs.size + 1) C (some dx)) (fun _ _ e => e) na2 (exo_ok e1)
  have un := un_init (fr := frs X.stack) (C := C) (l := excFields fs vs) k ⟨_, e1⟩ fr nd1 ne
  refine mk_end (d2 := dr) (t2 := tk') (raises_own exC tyC) I1 (Nat.le_succ _) kk un ok2 rfl I1.bare upd_same (by rw [upd_ne ne]; exact upd_same) nd1 ?_
  rw [del_upd na2, upd_upd]
  exact q1 dx nd1
end L3

/-! own __getitem__, __contains__, __len__; method calls that may raise within a try -/
namespace L3
open PySem PySem.Spec PyProof.Rows L2
section
variable {X : Cx} {CX : CXT} {n : Nat} {f C : Addr} {fd : FuncData} {ps : List Str} {sp : Sp} {E : XK} {ES : L2.St → XK} {pins : List (Addr × Obj)} {σ : L2.St}
theorem room1 {A : Around} (h : Room (n + 1) A) : Room n A.in1 :=
  ⟨h.hd, by have := h.dp; show A.depth + 3 * n + 5 < _; omega, by have := h.un; show A.units + 1 + 16 * n + 200 < _; omega⟩
/-- the callee runs, a few levels below the body; what is raised goes by the slots -/
theorem run_fnAS {A : Around} {s : Shared} {H : Hp} {Q : VK} {us : List Value} {vs : List V} (F : FnOk X.prog X.w X.K X.mg X.base CX n f fd ps sp) (hr : Room n A) (hfr : A.frames = X.A.frames) (hb : Binds X.K fd ps []) (hx : PassesAt CX X σ E)
    (I : Inv X pins σ H s) (r : Vals vs us) (h : sp vs H Q E) : wpAny (model X.prog X.w) A (call (.ref f) us) (EP X pins σ Q) X.xe s := by
  have e0 : Env0 X.prog X.w X.K X.mg X.base A X.stack s H := by
    have e := I.env0
    exact ⟨hfr.trans e.frames, e.mod, e.bs, e.bsz, e.funs, e.frf, e.hok, e.bare⟩
  have hl : us.length = ps.length := r.length.symm.trans (F.len _ _ _ _ h)
  have bb := hb s us I.kIn (by simpa using hl)
  rw [List.append_nil] at bb
  refine wpAny_call (codeAny_mono (F.run A X.stack s H ⟨us, []⟩ us vs Q E hr e0 bb r h) fun res s' hq => ?_)
  match res, hq with
  | .error e, hq => exact hx pins H s e s' I hq
  | .ok (.ret w), hq => exact I.after hq
  | .ok .next, hq => exact False.elim hq
  | .ok .brk, hq => exact False.elim hq
  | .ok .cont, hq => exact False.elim hq
/-! ### x in o, len(o), o[i] -/
def rOwnIn (C : Addr) (sp : Sp) (E : XK) (neg : Bool) : R2 := fun x y H Q => ∃ a dx fs, y = .ref a ∧ H a = some (.ins C dx fs) ∧ sp [y, x] H (fun v H' => ∃ b : Bool, v = .bl b ∧ Q (.bl (if neg = true then !b else b)) H') E
theorem op_ownIn (F : FnOk X.prog X.w X.K X.mg X.base CX n f fd ps sp) (hr : Room n X.A) (hb : Binds X.K fd ps []) (hx : Passes CX X E)
    (hs : PySem.W.findIn X.K (.ref C) "__contains__" = some (some (.ref f))) (hf : PySem.W.isFn X.K (.ref f) = true) : OpR X (compareOp .In) (rOwnIn C sp E false) := by
  intro pins s σ H x y v u Q I rx ry h
  obtain ⟨a, dx, fs, rfl, ha, hq⟩ := h
  cases (show u = Value.ref a from ry)
  obtain ⟨mA, J, _⟩ := ins_get I.hok ha
  obtain ⟨od, J, _⟩ := J.look
  obtain ⟨m, hF⟩ := I.fr
  refine PySem.W.in_K hF I.ok.mod.kin J hs hf ?_
  refine wpAny_mono (run_fnA (us := [.ref a, v]) (vs := [.ref a, x]) F hr rfl hb hx I (.cons rfl (.cons rx .nil)) hq) (fun r s' hv => ?_) fun _ _ e => e
  obtain ⟨z, H', I', rz, b, rfl, q⟩ := hv
  cases (show r = Value.bool b from rz)
  exact wpAny_truthy_bool ⟨.bl b, H', I', rfl, q⟩
theorem op_ownNotIn (F : FnOk X.prog X.w X.K X.mg X.base CX n f fd ps sp) (hr : Room n X.A) (hb : Binds X.K fd ps []) (hx : Passes CX X E)
    (hs : PySem.W.findIn X.K (.ref C) "__contains__" = some (some (.ref f))) (hf : PySem.W.isFn X.K (.ref f) = true) : OpR X (compareOp .NotIn) (rOwnIn C sp E true) := by
  intro pins s σ H x y v u Q I rx ry h
  obtain ⟨a, dx, fs, rfl, ha, hq⟩ := h
  cases (show u = Value.ref a from ry)
  obtain ⟨mA, J, _⟩ := ins_get I.hok ha
  obtain ⟨od, J, _⟩ := J.look
  obtain ⟨m, hF⟩ := I.fr
  refine PySem.W.notIn_K hF I.ok.mod.kin J hs hf ?_
  refine wpAny_mono (run_fnA (us := [.ref a, v]) (vs := [.ref a, x]) F hr rfl hb hx I (.cons rfl (.cons rx .nil)) hq) (fun r s' hv => ?_) fun _ _ e => e
  obtain ⟨z, H', I', rz, b, rfl, q⟩ := hv
  cases (show r = Value.bool b from rz)
  exact wpAny_truthy_bool ⟨.bl (!b), H', I', rfl, q⟩
theorem call_lenOwn (F : FnOk X.prog X.w X.K X.mg X.base CX n f fd ps sp) (hr : Room (n + 1) X.A) (hb : Binds X.K fd ps []) (hx : Passes CX X E)
    (hs : PySem.W.findIn X.K (.ref C) "__len__" = some (some (.ref f))) (hf : PySem.W.isFn X.K (.ref f) = true) :
    CallR X (.builtin "len") (fun xs H Q => ∃ a dx fs, xs = [.ref a] ∧ H a = some (.ins C dx fs) ∧ sp [.ref a] H (fun v H' => ∃ i : Int, v = .int i ∧ 0 ≤ i ∧ i < 2 ^ 63 ∧ Q (.int i) H') E) := by
  intro pins s σ H xs us Q I r h
  obtain ⟨a, dx, fs, rfl, ha, hq⟩ := h
  obtain ⟨u, rfl, rx⟩ := vals1 r
  cases (show u = Value.ref a from rx)
  obtain ⟨mA, J, _⟩ := ins_get I.hok ha
  obtain ⟨od, J, _⟩ := J.look
  obtain ⟨m, hF⟩ := I.fr
  refine PySem.W.len_K hF I.ok.mod.kin J hs hf ?_
  refine wpAny_mono (run_fnA (us := [.ref a]) (vs := [.ref a]) F (room1 hr) rfl hb hx I (.cons rfl .nil) hq) (fun r s' hv => ?_) fun _ _ e => e
  obtain ⟨z, H', I', rz, i, rfl, h0, h1, q⟩ := hv
  obtain ⟨t, rfl⟩ := (show ∃ t, r = Value.int i t from rz)
  exact ⟨⟨h0, h1⟩, ⟨.int i, H', I'.tok _, ⟨_, rfl⟩, q⟩⟩
/-- o[i], o an own instance, within a try -/
def tIxOwn (C : Addr) (sp : Sp) (ES : L2.St → XK) (ta tb : TE) : TE := fun σ H Q => ta σ H fun x H1 => tb σ H1 fun y H2 => ∃ a dx fs, x = .ref a ∧ H2 a = some (.ins C dx fs) ∧ sp [x, y] H2 Q (ES σ)
theorem pe_ixOwn {a b : Expr} {ta tb : TE} {pos : Pos} (F : FnOk X.prog X.w X.K X.mg X.base CX n f fd ps sp) (hr : Room (n + 1) X.A) (hb : Binds X.K fd ps []) (hx : ∀ σ, PassesAt CX X σ (ES σ))
    (hs : PySem.W.findIn X.K (.ref C) "__getitem__" = some (some (.ref f))) (hfi : PySem.W.fnIn X.K f = true) (hf : PySem.W.isFn X.K (.ref f) = true) (ha : PE X a ta) (hb2 : PE X b tb)
    (hsl : ∀ x i, subscripted b true (.ref x) i = runValue (.builtin "lifetime.subscript" ⟨[.ref x, i], []⟩) := by intro _ _; with_unfolding_all rfl) : PE X (.Subscript a b pos) (tIxOwn C sp ES ta tb) := by
  refine ⟨fun pins s σ H Q I h => ?_⟩
  refine Subscript_ (binT (R := fun x y H2 => ∃ a dx fs, x = .ref a ∧ H2 a = some (.ins C dx fs) ∧ sp [x, y] H2 Q (ES σ)) ha hb2 I h fun v u s2 x y H2 I2 rx ry q => ?_)
  obtain ⟨o, dx, fs, rfl, ho, hq⟩ := q
  cases (show v = Value.ref o from rx)
  obtain ⟨mA, J, _⟩ := ins_get I2.hok ho
  obtain ⟨od, J, _⟩ := J.look
  obtain ⟨m, hF⟩ := I2.fr
  exact PySem.W.sub_K hF I2.ok.mod.kin J hs hfi hf (run_fnAS (us := [.ref o, u]) (vs := [.ref o, y]) F (room1 hr) rfl hb (hx σ) I2 (.cons rfl (.cons ry .nil)) hq) (hsl _ _)
/-- o.m(e, ..) within a try -/
def tMethX (C : Addr) (m : Str) (sp : Sp) (ES : L2.St → XK) (ta : TE) (t : TA) : TE := fun σ H Q => ta σ H fun x H1 => ∃ a dx fs, x = .ref a ∧ H1 a = some (.ins C dx fs) ∧ fs.lookup m = none ∧ t σ H1 fun vs H2 => sp (x :: vs) H2 Q (ES σ)
theorem pe_methX {o e : Expr} {es : List Expr} {m : Str} {apos pos : Pos} {ta : TE} {t : TA} {pl : Sem Bool} (he : PE X o ta) (c : Cls X.K C) (hm : Meth X.K C m f) (F : FnOk X.prog X.w X.K X.mg X.base CX n f fd ps sp) (hr : Room n X.A) (hb : Binds X.K fd ps []) (hx : ∀ σ, PassesAt CX X σ (ES σ)) (ha : PA X (e :: es) t)
    (hst : starEach (e :: es) X.env = (false, eval e X.env) :: starEach es X.env := by rfl) (hpl : (backTo pos (starEach es X.env)).any (·.1) = false := by rfl)
    (ht : eval (.Call (.Attribute o m apos) (e :: es) [] pos) X.env = (do
      let ov ← eval o X.env
      standAt apos.atName
      let (f, first) ← holding [ov] (getMethod ov m pl)
      callWith pos f first (backTo pos (starEach (e :: es) X.env)) (backToKw pos (keywordEach [] X.env))) := by rfl) :
    PE X (.Call (.Attribute o m apos) (e :: es) [] pos) (tMethX C m sp ES ta t) := by
  refine ⟨fun pins s σ H Q I h => ?_⟩
  refine PySem.W.methodCall_KW (pl := pl) (thn (he.run pins s σ H _ I h) fun u s1 ⟨x, H1, I1, rx, a, dx, fs, ex, ea, l, q⟩ => ?_) ht
  subst ex
  obtain rfl : u = Value.ref a := rx
  refine getmeth_ok I1 ea c hm l ?_
  refine PySem.W.callWith_K (first := [.ref a]) (h₀ := X.base) I.ok.mod.kin hm.kp (thn (ha.run pos pins s1 σ H1 _ I1 q) fun us s2 ⟨vs, H2, I2, r, q2⟩ => ⟨I2.kIn, ?_⟩) hst hpl
  exact run_fnAS (us := .ref a :: us) (vs := .ref a :: vs) F hr rfl hb (hx σ) I2 (.cons rfl r) q2
end
end L3

/-! own exceptions with fields, raised -/
namespace L3
open PySem PySem.Spec PyProof.Rows L2
structure ErrF (P : Program) (K : PySem.W.Frag) (mg : Str → Option Value) (C fI : Addr) (nm : Str) (fs : List Str) : Prop where
  g : mg nm = some (.ref C)
  J : ∀ w, InitOk P w K mg C fI fs
  V : ∃ (B newId initId : String) (bmB bm : List Value), ExcBaseFacts B newId initId bmB ∧ Above B bm ∧ ∃ nm q N bs hdct sn sub ab col dd k0 k1 k2 k3 k5, K.lookup C = some (excClassObj nm q C N bs bm hdct sn sub ab col dd k0 k1 k2 k3 k5 newId)
  kC : PySem.W.keepIn K (.ref C) = true
  iC : PySem.W.findIn K (.ref C) "__init__" = some (some (.ref fI))
  tI : PySem.W.typeIn K (.ref fI) = some (.type "function")
  ex : ExcC K C
  xf : XfC K C
  no : ∀ f ∈ fs, PySem.W.findIn K (.ref C) f = some none
section
variable {X : Cx} {C fI : Addr} {nm : Str} {fs : List Str} {e : Expr} {es : List Expr} {ta : TA} {p pos : Pos}
theorem pmk_err (T : ErrF X.prog X.K X.mg C fI nm fs) (tyC : PySem.W.typeIn X.K (.ref C) = some (.type "type")) (hr : Room 1 X.A) (hg : Gl X nm) (ha : PA X (e :: es) ta) (hdb : (nm == ("__debug__" : Str)) = false := by decide) (he : starEach (e :: es) X.env = (false, eval e X.env) :: starEach es X.env := by rfl) (hpl : (backTo pos (starEach es X.env)).any (·.1) = false := by rfl) :
    PMk X (.Call (.Name nm p) (e :: es) [] pos) (tSup C fs ta) := by
  obtain ⟨B, newId, initId, bmB, bm, F, A, V⟩ := T.V
  exact pmk_sup (T.J X.w) F A V T.kC T.iC T.tI T.ex.hs tyC hr hg T.g ha hdb he hpl
end
end L3

/-! try with several clauses «except x as n» -/
namespace L3
open PySem PySem.Spec PyProof.Rows L2
/-- behind a suite its name is gone -/
def offE (i : Nat) (D : Ends) : Ends := { nx := fun σ H => D.nx (σ.set i none) H, rt := D.rt, bk := fun σ H => D.bk (σ.set i none) H, ct := fun σ H => D.ct (σ.set i none) H }
abbrev Suites := List (Value × Nat × (Addr → Value → Option Addr → TS))
/-- what the clauses wish of an exception, one behind the other -/
def wCl (K : PySem.W.Frag) (Wo : WX) (D : Ends) : Suites → WX
  | [] => Wo
  | (c, i, ts) :: more => fun cls d σ H => ∃ hit, PySem.W.exmOne K cls c = some hit ∧ (hit = true → ∀ q, H q = none → ts q cls d (offE i D) (σ.set i (some (.ref q))) H) ∧ (hit = false → wCl K Wo D more cls d σ H)
inductive ClOk (X : Cx) : List ExceptHandler → Suites → Prop
  | done : ClOk X [] []
  | clause {x n : Str} {c : Value} {i : Nat} {ts : Addr → Value → Option Addr → TS} {st : Stmt} {sts : List Stmt} {p1 p2 : Pos} {more : List ExceptHandler} {ss : Suites} (slot : X.N[i]? = some n) (loc : X.env.kindOf n = some .local) (nm : Names X x c)
      (suite : ∀ (q : Addr) (oq : Obj) (cls : Value) (d : Option Addr) (pn : List (Addr × Obj)), Zc cls d oq → (∃ vs, oq.data = .fields vs) → PSs (X.suite q ((q, oq) :: pn)) (st :: sts) (ts q cls d)) (rest : ClOk X more ss) :
      ClOk X (.ExceptHandler (some (.Name x p1)) (some n) (st :: sts) p2 :: more) ((c, i, ts) :: ss)
/-- an exception on its way, in front of the clauses -/
structure Fallen (X : Cx) (pins : List (Addr × Obj)) (q : Addr) (B : Heap) (sI s1 : Shared) (σ : L2.St) (H : Hp) : Prop where
  inv : Inv X pins σ H sI
  base : ∀ b o, sI.heap.get? b = some o → b ∉ frs X.stack → B.get? b = some o
  free : H q = none
  os : s1.os = sI.os
  bare : AllBare s1.gens
def AtH (X : Cx) (q : Addr) (B : Heap) (sI : Shared) (cls : Value) (d : Option Addr) (h : Heap) : Prop := HandSPX.FlyingZ B (X.env :: X.outer) q (Zc cls d) h ∧ sI.heap.UpToSlots h
section
variable {X : Cx} {pins : List (Addr × Obj)} {q : Addr} {B : Heap} {sI s1 : Shared} {σ : L2.St} {H : Hp} {cls : Value} {d : Option Addr} {h : Heap}
theorem Fallen.here (F : Fallen X pins q B sI s1 σ H) (a : AtH X q B sI cls d h) : Inv X pins σ H { s1 with heap := h } := F.inv.landed F.base a.1.1 a.2 F.os F.bare
theorem Fallen.suite (F : Fallen X pins q B sI s1 σ H) (hf : X.env.frame = some X.env.locals) (a : AtH X q B sI cls d h) :
    ∃ oq, Zc cls d oq ∧ (∃ vs, oq.data = .fields vs) ∧ h.get? q = some oq ∧ Inv (X.suite q ((q, oq) :: (X.pn ++ pins))) [] σ H { s1 with heap := h } := by
  obtain ⟨oq, vs, at_, z, dat⟩ := a.1.there
  have off : q ∉ frs (X.env :: X.outer) := fun m => by
    obtain ⟨_, o2, e2, nf⟩ := a.1.2.2.1.mem m
    cases e2.symm.trans at_
    exact nf _ dat
  refine ⟨oq, z, ⟨vs, dat⟩, at_, (F.here a).suite at_ dat F.free (fun w => ?_) fun m => ?_⟩
  · exact off (List.mem_filterMap.mpr ⟨X.env, List.mem_cons_self, hf.trans (congrArg some w.symm)⟩)
  · obtain ⟨e, me, z2⟩ := List.mem_filterMap.mp m
    exact off (List.mem_filterMap.mpr ⟨e, List.mem_cons_of_mem _ me, z2⟩)
/-- no clause is left: it goes on -/
theorem Fallen.onward (F : Fallen X pins q B sI s1 σ H) (hs : X.stack = X.env :: X.outer) (hf : X.env.frame = some X.env.locals) {Wo : WX} (tk : Takes X Wo) (w : Wo cls d σ H) (a : AtH X q B sI cls d h) {D : Ends} :
    wpAny (model X.prog X.w) X.A (handleBy (.ref q) X.env []) (SP X pins D) X.xe { s1 with heap := h } := by
  have thrown : wpAny (model X.prog X.w) X.A (setFlight (.ref q) X.env.frame) (fun _ s4 => wpAny (model X.prog X.w) X.A (throw (.ref q) : Sem Flow) (SP X pins D) X.xe s4) X.xe { s1 with heap := h } := by
    rw [hf]
    refine HandSPX.setFlight_upZ a.1 fun h4 held up4 => wpAny_throw (tk _ _ ⟨q, B, sI, pins, σ, H, cls, d, rfl, F.inv, F.base, a.2.trans up4, .inr (.inr ?_), F.free, F.os, F.bare, w⟩)
    rw [hs]
    exact held
  refine wpAny_handleBy_nil ?_
  obtain ⟨_, _, _, oq, vs, T, oT, ts, at_, _, dat, tr, _⟩ := id a.1
  unfold PySem.passOn
  refine wpAny_bind (wpAny_field at_ dat tr ?_)
  rw [if_neg (by simp)]
  first
    | exact wpAny_bind thrown
    | exact wpAny_bind (wpAny_pure (wpAny_bind thrown))
theorem Fallen.clauses (F : Fallen X pins q B sI s1 σ H) (hs : X.stack = X.env :: X.outer) (hf : X.env.frame = some X.env.locals) (nodup : X.N.Nodup) {Wo : WX} (tk : Takes X Wo) {D : Ends} (a : AtH X q B sI cls d h) :
    ∀ {hds : List ExceptHandler} {ss : Suites}, ClOk X hds ss → wCl X.K Wo D ss cls d σ H → wpAny (model X.prog X.w) X.A (handleBy (.ref q) X.env hds) (SP X pins D) X.xe { s1 with heap := h } := by
  intro hds ss ok
  induction ok with
  | done => exact fun w => F.onward hs hf tk w a
  | @clause x n c i ts st sts p1 p2 more ss slot loc nm suite rest ih =>
    rintro ⟨hit, ex, yes, no⟩
    obtain ⟨oq, z, dat, at_, S⟩ := F.suite hf a
    refine wpAny_handleBy_cons (codeAny_handlers_test ?_) (fun w => nomatch w)
    have cl : PySem.W.Looks (model X.prog X.w) h (typeOf (.ref q)) cls := fun _ _ _ _ k r => wpAny_typeOf_ref (k _ _ at_) (by rw [z.1]; exact r)
    have mt := PySem.W.exm_one (M := model X.prog X.w) (F.here a).kIn cl ex
    have named : ∀ {R : Value → Shared → Prop} {E : Value → Shared → Prop}, R c { s1 with heap := h } → wpAny (model X.prog X.w) (X.A.mark (some (.ref q))) (eval (.Name x p1) X.env) R E { s1 with heap := h } := fun {R E} r => by
      rcases nm with ⟨gl, dbg, m | ⟨m, v, ne⟩⟩
      · exact ld_glob (X := X.suite q ((q, oq) :: (X.pn ++ pins))) S gl m r dbg
      · exact ld_blt (X := X.suite q ((q, oq) :: (X.pn ++ pins))) S gl m v r ne dbg
    refine named (mt.here ?_)
    cases hit with
    | false =>
      show wpAny _ X.A (handleBy (.ref q) X.env more) _ _ _
      exact ih (no rfl)
    | true =>
      refine codeAny_handlers_suite_as (HandSPX.lands_againZ a.1 fun h4 fl4 up4 => ?_)
      obtain ⟨o4, z4, dat4, _, S4⟩ := F.suite hf (h := h4) ⟨fl4, a.2.trans up4⟩
      refine store_ok (X := X.suite q ((q, o4) :: (X.pn ++ pins))) (v := .ref q) S4 nodup slot (.inl loc) rfl (fun s5 S5 => ?_) (.inr loc)
      refine wpAny_mono ((suite q o4 cls d (X.pn ++ pins) z4 dat4).run [] s5 _ H _ S5 (yes rfl q F.free)) (fun fl s6 r => ?_) (fun _ _ w => w.elim)
      have gone : ∀ {σ6 : L2.St} {H6 : Hp} {R : Shared → Prop}, Inv (X.suite q ((q, o4) :: (X.pn ++ pins))) [] σ6 H6 s6 → (∀ s7, Inv X pins (σ6.set i none) H6 s7 → R s7) → wpAny (model X.prog X.w) X.A (do bindName X.env n .none; unbindBehindTheSuite X.env n p2) (fun _ s7 => R s7) X.xe s6 :=
        fun S6 r6 => gone_ok (S6.unsuite F.inv.ok) nodup slot loc r6
      match fl, r with
      | .next, ⟨_, _, S6, r6⟩ => exact gone S6 fun _ J => ⟨_, _, J, r6⟩
      | .brk, ⟨_, _, S6, r6⟩ => exact gone S6 fun _ J => ⟨_, _, J, r6⟩
      | .cont, ⟨_, _, S6, r6⟩ => exact gone S6 fun _ J => ⟨_, _, J, r6⟩
      | .ret _, ⟨_, _, _, S6, rv, r6⟩ => exact gone S6 fun _ J => ⟨_, _, _, J, rv, r6⟩
end
section
variable {X : Cx} {body : List Stmt} {c0 : ExceptHandler} {cs : List ExceptHandler} {ss : Suites} {pos : Pos} {tb : WX → TS} {Wo : WX}
theorem ps_tryCl (hs : X.stack = X.env :: X.outer) (hf : X.env.frame = some X.env.locals) (nodup : X.N.Nodup) (tk : Takes X Wo)
    (hb : ∀ (W : WX) (pn : List (Addr × Obj)) (xe : Value → Shared → Prop), Takes (X.tr pn xe) W → PassesOwn (model X.prog X.w) X.A X.env xe → PSs (X.tr pn xe) body (tb W)) (cl : ClOk X (c0 :: cs) ss) :
    PS X (.Try body (c0 :: cs) [] [] pos) (fun D σ H => tb (wCl X.K Wo D ss) D σ H) := by
  constructor
  intro pins s σ H D I wish
  have frames : X.A.frames = some (X.env :: X.outer) := I.ok.frames.trans (congrArg some hs)
  let caught : Value → Shared → Prop := fun e s2 => wpAny (model X.prog X.w) X.A (handleBy e X.env (c0 :: cs)) (SP X pins D) X.xe s2
  have run := (hb (wCl X.K Wo D ss) (X.pn ++ pins) (fun e s0 => wpAny (model X.prog X.w) X.A (noteFrame e X.env) (fun _ s1 => wpAny (model X.prog X.w) X.A (setFlight e none) (fun _ s2 => caught e s2) X.xe s1) X.xe s0) (by
    rintro u s1 ⟨q, B, sI, pins1, σ1, H1, cls, d, rfl, J1, nb, up, sky, free, os, bare, w⟩
    rw [show (X.tr (X.pn ++ pins) _).stack = X.env :: X.outer from hs] at sky
    show wpAny (model X.prog X.w) X.A (noteFrame (.ref q) X.env) _ _ _
    refine Sky.land Zc.steady frames hf sky fun h2 fl2 up2 => ?_
    have F : Fallen X pins q B sI s1 σ1 H1 := ⟨J1.ofTry I.ok, nb, free, os, bare⟩
    exact F.clauses hs hf nodup tk (h := h2) ⟨fl2, up.trans up2⟩ cl w) PassesOwn.looking).run [] s σ H D (I.toTry _) wish
  refine wpAny_Try_except (wpAny_mono run (fun fl s1 r => ?_) fun _ _ r => r)
  match fl, r with
  | .next, ⟨σ1, H1, J, r⟩ => exact wpAny_execs_nil ⟨σ1, H1, J.ofTry I.ok, r⟩
  | .brk, ⟨σ1, H1, J, r⟩ => exact ⟨σ1, H1, J.ofTry I.ok, r⟩
  | .cont, ⟨σ1, H1, J, r⟩ => exact ⟨σ1, H1, J.ofTry I.ok, r⟩
  | .ret u, ⟨v, σ1, H1, J, rv, r⟩ => exact ⟨v, σ1, H1, J.ofTry I.ok, rv, r⟩
end
end L3

/-! a walk over what is a list in some runs, a tuple in others -/
namespace L3
open PySem PySem.Spec PyProof.Rows L2
def iSeq (K : PySem.W.Frag) (tl : TE) : TI := fun σ H R => tl σ H fun x H1 => ∃ a, x = .ref a ∧ (((∃ xs, SqL K H1 a xs) ∧ R (Itl K a) H1) ∨ ((∃ xs, SqT K H1 a xs) ∧ R (Itt K a) H1))
theorem pi_seq {X : Cx} {tg l : Expr} {tl : TE} (hl : PE X l tl) : PI X tg l (iSeq X.K tl) := by
  constructor
  intro pins s σ H R I h
  refine thn (hl.run pins s σ H _ I h) fun v s1 hv => ?_
  obtain ⟨x, H1, I1, rx, a, rfl, alt⟩ := hv
  cases (show v = Value.ref a from rx)
  have mine : ∀ b ∈ [s1.heap.objs.size], b = s1.heap.objs.size := fun b m => List.mem_singleton.mp m
  rcases alt with ⟨⟨xs, hq⟩, q⟩ | ⟨⟨xs, hq⟩, q⟩
  · obtain ⟨its, _, p, _⟩ := I1.list hq
    exact wpAny_pyIter_list p.isList ⟨_, [s1.heap.objs.size], _, _, H1, rfl, I1.kept (t' := s1.toks) fun b o e => Heap.get?_push_of_some _ e, turn_list a _, ⟨_, Heap.get?_push_size _ rfl, rfl, rfl⟩, fun b m => by
      rw [mine b m]
      exact I1.fpOk (Nat.le_refl _) (I1.hok.fresh (Nat.le_refl _)), q⟩
  · obtain ⟨its, _, p, _⟩ := I1.tuple hq
    exact wpAny_pyIter_tuple (show s1.heap.IsTuple a its.toArray from p) ⟨_, [s1.heap.objs.size], _, _, H1, rfl, I1.kept (t' := s1.toks) fun b o e => Heap.get?_push_of_some _ e, turn_tuple a _, ⟨_, Heap.get?_push_size _ rfl, rfl, rfl⟩, fun b m => by
      rw [mine b m]
      exact I1.fpOk (Nat.le_refl _) (I1.hok.fresh (Nat.le_refl _)), q⟩
/-- the type of data -/
def tyD : PyData → Value
  | .none => .type "NoneType"
  | .bool _ => .type "bool"
  | .int _ => .type "int"
  | .str _ => .type "str"
  | .list _ => .type "list"
  | .tuple _ => .type "tuple"
  | .dict _ => .type "dict"
theorem ty_dp {K : PySem.W.Frag} {H : Hp} {x : V} {d : PyData} (h : Dp K H x d) : TyX K H x (tyD d) := by
  cases h with
  | non => exact .base .non
  | bl b => exact .base (.bl b)
  | int i => exact .base (.int i)
  | str z => exact .base (.str z)
  | lst hs _ =>
    rcases hs with (e | ⟨o, e⟩) | ⟨o, its, n, e, c, _⟩
    · exact .base (.lst e)
    · exact .base (.frz e)
    · exact .kList e c
  | tup hs _ =>
    rcases hs with (e | ⟨o, e⟩) | ⟨o, its, n, e, c, _⟩
    · exact .base (.tup e)
    · exact .fTuple e
    · exact .kTuple e c
/-! ### lists and tuples, all made tuples -/
mutual
def tupD : PyData → PyData
  | .list ds => .tuple (tupDs ds)
  | .tuple ds => .tuple (tupDs ds)
  | d => d
def tupDs : List PyData → List PyData
  | [] => []
  | d :: ds => tupD d :: tupDs ds
end
theorem tupDs_map : ∀ ds : List PyData, tupDs ds = ds.map tupD
  | [] => rfl
  | d :: ds => by rw [tupDs, tupDs_map ds, List.map_cons]
/-! no row of more than 1,000 items -/
mutual
def wide : PyData → Bool
  | .list ds => decide (ds.length ≤ 1000) && wides ds
  | .tuple ds => decide (ds.length ≤ 1000) && wides ds
  | _ => true
def wides : List PyData → Bool
  | [] => true
  | d :: ds => wide d && wides ds
end
theorem wides_mem : ∀ {ds : List PyData}, wides ds = true → ∀ d ∈ ds, wide d = true
  | [], _, d, m => nomatch m
  | e :: ds, h, d, m => by
    rw [wides, Bool.and_eq_true] at h
    rcases List.mem_cons.mp m with rfl | m
    · exact h.1
    · exact wides_mem h.2 d m
theorem depth_mem : ∀ {ds : List PyData} {n : Nat}, PyData.depthAll ds ≤ n → ∀ d ∈ ds, d.depth ≤ n
  | [], _, _, d, m => nomatch m
  | e :: ds, n, h, d, m => by
    rw [PyData.depthAll] at h
    rcases List.mem_cons.mp m with rfl | m
    · omega
    · exact depth_mem (ds := ds) (by omega) d m
mutual
theorem dpT_keep {K : PySem.W.Frag} {H H' : Hp} (kt : ∀ a xs, SqT K H a xs → SqT K H' a xs) : ∀ (d : PyData) (v : V), Dp K H v (tupD d) → Dp K H' v (tupD d)
  | .none, _, .non => .non
  | .bool b, _, .bl _ => .bl b
  | .int i, _, .int _ => .int i
  | .str x, _, .str _ => .str x
  | .list ds, v, h => by
    rw [tupD] at h ⊢
    cases h with
    | tup hs ha => exact .tup (kt _ _ hs) (dpTs_keep kt ds _ ha)
  | .tuple ds, v, h => by
    rw [tupD] at h ⊢
    cases h with
    | tup hs ha => exact .tup (kt _ _ hs) (dpTs_keep kt ds _ ha)
  | .dict _, _, h => by cases h
theorem dpTs_keep {K : PySem.W.Frag} {H H' : Hp} (kt : ∀ a xs, SqT K H a xs → SqT K H' a xs) : ∀ (ds : List PyData) (vs : List V), DpAll K H vs (tupDs ds) → DpAll K H' vs (tupDs ds)
  | [], _, h => by
    rw [tupDs] at h ⊢
    cases h
    exact .nil
  | d :: ds, _, h => by
    rw [tupDs] at h ⊢
    cases h with
    | cons h hs => exact .cons (dpT_keep kt d _ h) (dpTs_keep kt ds _ hs)
end
theorem sqT_off {K : PySem.W.Frag} {H : Hp} {D : Addr} {acc : List V} {u : HO} (h : H D = some (.lst acc)) : ∀ a xs, SqT K H a xs → SqT K (upd H D u) a xs := fun a xs q => by
  have off : ∀ o, H a = some o → o ≠ .lst acc → upd H D u a = some o := fun o e n => by
    rw [upd_ne (ne_of e h n)]
    exact e
  rcases q with (e | ⟨o, e⟩) | q
  · exact .inl (.inl (off _ e fun z => nomatch z))
  · exact .inl (.inr ⟨o, off _ e fun z => nomatch z⟩)
  · exact .inr q
theorem DpAll.get {K : PySem.W.Frag} {H : Hp} : ∀ {vs : List V} {ds : List PyData}, DpAll K H vs ds → vs.length = ds.length ∧ ∀ (i : Nat) (x : V), vs[i]? = some x → ∃ d, ds[i]? = some d ∧ Dp K H x d
  | _, _, .nil => ⟨rfl, fun i x h => by simp at h⟩
  | _, _, .cons h hs => by
    obtain ⟨l, g⟩ := DpAll.get hs
    refine ⟨by rw [List.length_cons, List.length_cons, l], fun i x e => ?_⟩
    cases i with
    | zero =>
      cases e
      exact ⟨_, rfl, h⟩
    | succ i => exact g i x e
theorem DpAll.snoc {K : PySem.W.Frag} {H : Hp} : ∀ {vs : List V} {ds : List PyData} {v : V} {d : PyData}, DpAll K H vs ds → Dp K H v d → DpAll K H (vs ++ [v]) (ds ++ [d])
  | _, _, _, _, .nil, h => .cons h .nil
  | _, _, _, _, .cons a as, h => .cons a (DpAll.snoc as h)
end L3

/-! {**d, k: v} -/
namespace PySem.MM
open PySem
section
variable {K : Type} [DecidableEq K] {prog : Program} {w : World} {kn : KeyKind prog w K}
theorem in_both {es : List DictEntry} {ps : List (K × Value)} (h : Pairs kn es ps) (k : K) : (es.findIdx? fun e => kn.is k e.key).isSome = ps.any fun kv => decide (kv.1 = k) := by
  rw [h.findIdx k]
  clear h
  induction ps with
  | nil => rfl
  | cons p ps ih => cases c : decide (p.1 = k) <;> simp [List.findIdx?_cons, c, ih]
theorem there {es : List DictEntry} {ps : List (K × Value)} (h : Pairs kn es ps) {k : K} {i : Nat} (e : (es.findIdx? fun e => kn.is k e.key) = some i) (v : Value) : stored ps k v = ps.map fun kv => if kv.1 = k then (kv.1, v) else kv :=
  if_pos ((in_both h k).symm.trans (by rw [e]; rfl))
theorem fresh {es : List DictEntry} {ps : List (K × Value)} (h : Pairs kn es ps) {k : K} (e : (es.findIdx? fun e => kn.is k e.key) = none) (v : Value) : stored ps k v = ps ++ [(k, v)] :=
  if_neg (fun q => nomatch (show (none : Option Nat).isSome = true from e ▸ (in_both h k).trans q))
theorem nod_put (ps : List (K × Value)) (k : K) (v : Value) (n : (ps.map (·.1)).Nodup) : ((stored ps k v).map (·.1)).Nodup := by
  by_cases c : ps.any (fun kv => decide (kv.1 = k)) = true
  · rw [show stored ps k v = _ from if_pos c, keys_map_store]
    exact n
  · rw [show stored ps k v = _ from if_neg c, List.map_append]
    refine (List.perm_append_singleton k _).nodup_iff.mpr (List.nodup_cons.mpr ⟨fun m => c ?_, n⟩)
    obtain ⟨q, m, e⟩ := List.mem_map.mp m
    exact List.any_eq_true.mpr ⟨q, m, decide_eq_true e⟩
variable {A : Around} {E : Value → Shared → Prop}
theorem put1 {s : Shared} {d : Addr} {ps : List (K × Value)} {k : K} {key v : Value} {Q : Unit → Shared → Prop} (hk : kn.is k key = true) (z : ps.length ≤ sizeLine) (D : s.heap.DictOf kn d ps)
    (q : ∀ h, Heap.SameBut d s.heap h → h.DictOf kn d (stored ps k v) → Q () { s with heap := h }) : wpAny (model prog w) A (dictPut d (kn.hash k) key v) Q E s := by
  obtain ⟨ob, ar, ep, g, ex, da, ks, pp, nd⟩ := D
  have al : (ar.findIdx? fun e => kn.is k e.key) = ar.toList.findIdx? fun e => kn.is k e.key := by
    cases ar
    simp
  unfold dictPut
  refine wpAny_bind (wpAny_dictFind_of hk g da ks ?_)
  rw [al]
  cases c : ar.toList.findIdx? fun e => kn.is k e.key with
  | none =>
    have lz : ar.size ≤ sizeLine := by
      rw [← Array.length_toList, pp.length]
      exact z
    refine wpAny_updateDictKeys (hz := lz) g da (q _ (Heap.SameBut.update ..) ⟨_, _, _, Heap.get?_update_self _ g (Obj.isFreed_of_dict (Obj.data_mapDictKeys da _)), ex.mapDictKeys _, Obj.data_mapDictKeys da _, ks.push hk _, ?_, nod_put ps k v nd⟩)
    rw [fresh pp c, Array.toList_push]
    exact pp.append hk _ v
  | some i =>
    refine wpAny_updateDict g da (q _ (Heap.SameBut.update ..) ⟨_, _, _, Heap.get?_update_self _ g (Obj.isFreed_of_dict (Obj.data_mapDict da _)), ex.mapDict _, Obj.data_mapDict da _, ks.modify _ _, ?_, nod_put ps k v nd⟩)
    rw [there pp c, Array.toList_modify]
    exact pp.modify nd c v
/-- A walk over the rows i, i+1, …, of a table `b`, each put into `d`: by induction on how many are left. -/
theorem walk {d b : Addr} {ob : Obj} {more : List (K × Value)} (db : b ≠ d) {f : Nat → PUnit → Sem (ForInStep PUnit)}
    (turn : ∀ (i : Nat) (r : K × Value) (acc : List (K × Value)) (s : Shared), more[i]? = some r → acc.length ≤ sizeLine → s.heap.get? b = some ob → s.heap.DictOf kn d acc →
      wpAny (model prog w) A (f i PUnit.unit) (fun x s' => x = .yield PUnit.unit ∧ ∃ h, s' = { s with heap := h } ∧ Heap.SameBut d s.heap h ∧ h.DictOf kn d (stored acc r.1 r.2)) E s) :
    ∀ (n i : Nat) (acc : List (K × Value)) (s : Shared) (Q : PUnit → Shared → Prop), i + n = more.length → acc.length + n ≤ sizeLine → s.heap.get? b = some ob → s.heap.DictOf kn d acc →
      (∀ h, Heap.SameBut d s.heap h → h.DictOf kn d (merged acc (more.drop i)) → Q PUnit.unit { s with heap := h }) → wpAny (model prog w) A (forIn (List.range' i n) PUnit.unit f) Q E s
  | 0, i, acc, s, Q, hi, _, _, D, q => by
    rw [List.range'_zero, List.forIn_nil]
    refine wpAny_pure (q s.heap (Heap.SameBut.refl _ _) ?_)
    rw [List.drop_of_length_le (by omega)]
    exact D
  | n + 1, i, acc, s, Q, hi, hz, g, D, q => by
    have lt : i < more.length := by omega
    rw [List.range'_succ, List.forIn_cons]
    refine wpAny_bind (wpAny_mono (turn i _ acc s (List.getElem?_eq_getElem lt) (by omega) g D) (fun x s' h => ?_) fun _ _ h => h)
    obtain ⟨rfl, h1, rfl, sb, D1⟩ := h
    have l1 := stored_length_le acc more[i].1 more[i].2
    refine walk db turn n (i + 1) _ { s with heap := h1 } Q (by omega) (by omega) ((sb.2 b db).trans g) D1 fun h2 sb2 D2 => q h2 (sb.trans sb2) ?_
    rw [← List.getElem_cons_drop lt]
    exact D2
theorem merge1 {s : Shared} {d b : Addr} {ps more : List (K × Value)} {Q : Unit → Shared → Prop} (nr : ∀ k a, kn.is k (.ref a) = false) (db : b ≠ d) (ns : (b == sysModules) = false) (z : ps.length + more.length ≤ sizeLine)
    (D : s.heap.DictOf kn d ps) (B : s.heap.DictOf kn b more) (q : ∀ h, Heap.SameBut d s.heap h → h.DictOf kn d (merged ps more) → Q () { s with heap := h }) : wpAny (model prog w) A (mergeMapping d (.ref b) false) Q E s := by
  have tb := B.typeIs
  obtain ⟨oD, aD, eD, gD, _, dD, _⟩ := id D
  obtain ⟨oB, aB, eB, gB, xB, dB, kB, pB, nB⟩ := B
  have lB : aB.size = more.length := by
    rw [← Array.length_toList, pB.length]
  unfold mergeMapping
  refine wpAny_bind (wpAny_isInstance tb isSubtype_dict_dict (show wpAny _ _ (if true = true then _ else _) _ _ _ from ?_))
  rw [if_pos rfl]
  refine wpAny_bind (wpAny_specialOf tb F.slot_dict_iter.lookup (wpAny_bind (wpAny_pure ?_)))
  rw [beq_self_eq_true]
  show wpAny _ _ (if (b == sysModules) = true then _ else _) _ _ _
  rw [ns, if_neg (fun c => nomatch c)]
  refine wpAny_bind (wpAny_dictEntries gD dD ?_)
  dsimp only
  cases aD.isEmpty
  case' true =>
    rw [if_pos rfl]
    refine wpAny_bind (wpAny_dictEntries gB dB ?_)
    refine wpAny_bind (show wpAny _ _ (forIn aB _ _) _ _ _ from ?_)
    rw [← Array.forIn_toList]
    refine wpAny_of_eq (a := PUnit.unit) (forIn_yield_id _ fun e m c => ?_) ?_
    case' refine_1 =>
      obtain ⟨k, hk, _⟩ := kB e (Array.mem_toList_iff.mp m)
      split
      case' h_1 a ea =>
        rw [ea, nr] at hk
        exact nomatch hk
      case' h_2 => rfl
  case' false => rw [if_neg (fun c => nomatch c)]
  all_goals
    refine wpAny_bind (wpAny_dictEntries gB dB ?_)
    refine wpAny_bind (wpAny_dictEpoch gB dB ?_)
    refine wpAny_bind ?_
    rw [List.range_eq_range']
    refine walk db (more := more) (kn := kn) (ob := oB) ?_ aB.size 0 ps s _ (by omega) (by omega) gB D fun h sb D' => wpAny_pure (q h sb D')
    intro i r acc t ei az g D'
    obtain ⟨li, er⟩ := List.getElem?_eq_some_iff.mp ei
    have la : i < aB.size := by omega
    obtain ⟨k1, v1⟩ := pB.get? (e := aB[i]) (by simp [la]) ei
    obtain ⟨k2, h2, hh⟩ := kB aB[i] (Array.getElem_mem la)
    cases kn.inj _ _ _ h2 k1
    refine wpAny_bind (wpAny_dictEntries g dB ?_)
    rw [Array.getElem?_eq_getElem la]
    refine wpAny_bind (wpAny_holding (?_ : wpAny _ _ (if false = true then _ else _) _ _ _))
    rw [if_neg (fun c => nomatch c), hh]
    refine put1 k1 az D' fun h sb D2 => wpAny_bind (wpAny_dictEpoch ((sb.2 b db).trans g) dB ?_)
    rw [if_neg (by simp)]
    exact wpAny_pure ⟨rfl, h, rfl, sb, v1 ▸ D2⟩
end
end PySem.MM
namespace L3
open PySem PySem.Spec PyProof.Rows L2
/-- {**e0, k: v} -/
def tDst (t0 tk tv : TE) : TE := fun σ H Q => ∀ d, H d = none → t0 σ (upd H d (.dK [])) fun x H1 => ∃ a kvs, x = .ref a ∧ Rd H1 a (.dK kvs) ∧ a ≠ d ∧ H1 d = some (.dK []) ∧ kvs.length < sizeLine ∧
  ∀ b, (upd H1 d (.dK kvs)) b = none → tPairs [(tk, tv)] σ (upd (upd H1 d (.dK kvs)) b (.dK [])) fun ps H3 => ∃ k z, ps = [(kV k, z)] ∧ H3 d = some (.dK kvs) ∧ H3 b = some (.dK []) ∧ Q (.ref d) (upd (upd H3 b (.dK [(k, z)])) d (.dK (putK kvs k z)))
section
variable {X : Cx}
theorem pe_dst {e0 ke ve : Expr} {pos : Pos} {t0 tk tv : TE} (h0 : PE X e0 t0) (hk : PE X ke tk) (hv : PE X ve tv) : PE X (.Dict [none, some ke] [e0, ve] pos) (tDst t0 tk tv) := by
  refine ⟨fun pins s σ H Q I h => ?_⟩
  rw [arm_eval_Dict]
  refine wpAny_bind (wpAny_standAt ?_)
  have hz : (evalEachOpt [none, some ke] X.env).zip ((evalEach [e0, ve] X.env).map fun v => do let x ← v; standAt pos; pure x) = [(none, do let x ← eval e0 X.env; standAt pos; pure x), (some (eval ke X.env), do let x ← eval ve X.env; standAt pos; pure x)] := rfl
  rw [hz]
  unfold dictDisplay
  simp only [List.forIn_cons, List.forIn_nil, bind_assoc, pure_bind, List.isEmpty_nil, if_true]
  have hn : H s.heap.objs.size = none := I.hok.fresh (Nat.le_refl _)
  have I1 := I.laid (a := s.heap.objs.size) (o := .dK []) (h' := s.heap.push { cls := .type "dict", data := .dict #[] }) (t' := s.toks) (fun _ _ q => Heap.get?_push_of_some _ q) (Nat.le_refl _) (dk_empty s.heap I.big)
  refine wpAny_bind (wpAny_alloc ?_)
  refine wpAny_bind (wpAny_holding (wpAny_bind (thn (h0.run pins _ σ _ _ I1 (h _ hn)) fun m s2 ⟨x, H2, I2, rx, q⟩ => wpAny_bind (wpAny_standAt (wpAny_pure ?_)))))
  generalize s.heap.objs.size = d at q I2 hn ⊢
  obtain ⟨a, kvs, rfl, hr, had, ed, lz, q⟩ := q
  cases (show m = Value.ref a from rx)
  obtain ⟨z0, hd0, vs0, r0, dd0⟩ := dk_of I2.hok ed
  cases r0
  obtain ⟨z1, hd1, vs1, r1, dd1⟩ := dk_rd I2.hok hr
  have l1 : vs1.length = kvs.length := r1.length.symm
  have nr : ∀ (k : Key) (a : Addr), (mixKind X.prog X.w).is k (.ref a) = false := fun k a => by
    cases k <;> rfl
  refine wpAny_bind (wpAny_onRaise (wpAny_tryCatch (wpAny_onRaise (wpAny_holding (MM.merge1 (kn := mixKind X.prog X.w) nr had hd1 (by rw [List.length_nil]; omega) dd0 dd1 fun h' sb dd' => ?_)))))
  have nod : (vs1.map (·.1)).Nodup := by
    obtain ⟨_, _, _, _, _, _, _, _, hno⟩ := dd1
    exact hno
  rw [merged_nil_of_nodup vs1 nod] at dd'
  have he : ∃ q, h'.get? d = some q := let ⟨q, _, _, hq, _⟩ := dd'; ⟨q, hq⟩
  have I3 := d_write (t' := s2.toks) (ob := .dK kvs) I2 (by rw [ed]; exact True.intro) sb he (dk_new z1 hd0 r1 dd')
  generalize hs3 : ({ s2 with heap := h', toks := s2.toks } : Shared) = s3 at I3
  simp only [List.nil_append, List.length_cons, List.length_nil, List.isEmpty_cons, Bool.false_eq_true, if_false, pure_bind, show ((0 + 1 : Nat) == 17) = false from rfl]
  have hb : (upd H2 d (.dK kvs)) s3.heap.objs.size = none := I3.hok.fresh (Nat.le_refl _)
  have I4 := I3.laid (a := s3.heap.objs.size) (o := .dK []) (h' := s3.heap.push { cls := .type "dict", data := .dict #[] }) (t' := s3.toks) (fun _ _ q => Heap.get?_push_of_some _ q) (Nat.le_refl _) (dk_empty s3.heap I3.big)
  have q2 := q _ hb
  have pr := (pps_cons (pos := pos) hk hv pps_nil).run pins _ σ _ _ I4 q2
  refine wpAny_bind (wpAny_bind (wpAny_holding (wpAny_subDict (knd := mixKind X.prog X.w) (by show 1 ≤ 15; decide) (thn pr fun ws s5 hq => ?_))))
  generalize s3.heap.objs.size = b at hq hb ⊢
  obtain ⟨ps, H5, I5, rel, k, z, rfl, e1, e2, qq⟩ := hq
  obtain ⟨rs, c, rk⟩ := carries_of (P := X.prog) (w := X.w) (kvs := [(k, z)]) rel
  obtain ⟨z3, hd3, vs3, r3, dd3⟩ := dk_of I5.hok e2
  cases r3
  refine ⟨rs, c, dd3, fun h5 dd5 sb5 => ?_⟩
  have he5 : ∃ q, h5.get? b = some q := let ⟨q, _, _, hq, _⟩ := dd5; ⟨q, hq⟩
  have hl1 : (mergeK [] [(k, z)]).length ≤ sizeLine := by
    show 1 ≤ sizeLine
    decide
  have I6 := d_write (t' := s5.toks + ws.length) (ob := .dK (mergeK [] [(k, z)])) I5 (by rw [e2]; exact True.intro) sb5 he5 (dk_new hl1 hd3 (rk.merge .nil) dd5)
  have hdb : d ≠ b := fun e => by
    rw [e, upd_same] at hb
    cases hb
  have e1' : (upd H5 b (.dK (mergeK [] [(k, z)]))) d = some (.dK kvs) := (upd_ne hdb).trans e1
  obtain ⟨z6, hd6, vs6, r6, dd6⟩ := dk_of I6.hok e1'
  have l6 : vs6.length = kvs.length := r6.length.symm
  have lr : (merged ([] : List (Key × Value)) rs).length ≤ 1 := by
    have q1 := merged_length_le ([] : List (Key × Value)) rs
    have q2 : rs.length = 1 := rk.length.symm
    rw [List.length_nil] at q1
    omega
  refine wpAny_bind (wpAny_onRaise (wpAny_holding (MM.merge1 (kn := mixKind X.prog X.w) nr (Ne.symm hdb) hd3 (by omega) dd6 dd5 fun h7 sb7 dd7 => ?_)))
  have he7 : ∃ q, h7.get? d = some q := let ⟨q, _, _, hq, _⟩ := dd7; ⟨q, hq⟩
  have hl2 : (putK kvs k z).length ≤ sizeLine := by
    have := length_putK kvs k z
    omega
  have rr : KV (putK kvs k z) (merged vs6 (merged [] rs)) := by
    have r8 : KV (mergeK [] [(k, z)]) (merged [] rs) := rk.merge .nil
    have r9 := KV.merge r8 r6
    exact r9
  have I7 := d_write (t' := s5.toks + ws.length) (ob := .dK (putK kvs k z)) I6 (by rw [e1']; exact True.intro) sb7 he7 (dk_new hl2 hd6 rr dd7)
  exact wpAny_pure (wpAny_pure ⟨.ref d, _, I7, rfl, qq⟩)
end
end L3

/-! dicts of data compared -/
namespace L3
open PySem PySem.Spec PyProof.Rows L2
/-- whether each entry of the second dict stands in the first one, alike -/
def hitsB (enc : V → PyData) (ls : List (Key × V)) : List (Key × V) → Bool
  | [] => true
  | p :: r => match valV ls p.1 with
    | none => false
    | some y => PyData.eqv (enc p.2) (enc y) && hitsB enc ls r
def rEqDD (K : PySem.W.Frag) : R2 := fun x y H Q => ∃ (a b : Addr) (ks ls : List (Key × V)) (enc : V → PyData), x = .ref a ∧ y = .ref b ∧ Rd H a (.dK ks) ∧ Rd H b (.dK ls) ∧ (∀ p ∈ ks, Dp K H p.2 (enc p.2) ∧ (enc p.2).canLay0 = true ∧ (enc p.2).depth ≤ 10) ∧ (∀ p ∈ ls, Dp K H p.2 (enc p.2) ∧ (enc p.2).canLay0 = true) ∧ Q (.bl (ks.length == ls.length && hitsB enc ls ks)) H
section
variable {X : Cx} {pins : List (Addr × Obj)} {σ : L2.St} {H : Hp} {s : Shared}
theorem valV_some_mem {κ : Type} [DecidableEq κ] {kvs : List (κ × V)} {k : κ} {v : V} (h : valV kvs k = some v) : (k, v) ∈ kvs := by
  unfold valV at h
  cases e : kvs.find? fun kv => decide (kv.1 = k) with
  | none => rw [e] at h; cases h
  | some p =>
    rw [e] at h
    have m := List.mem_of_find?_eq_some e
    have q0 : decide (p.1 = k) = true := List.find?_some (p := fun kv : κ × V => decide (kv.1 = k)) e
    have q := of_decide_eq_true q0
    cases h
    cases q
    exact m
theorem hits_data {A : Around} (hu : A.units + 10 < cLine) (I : Inv X pins σ H s) {enc : V → PyData} {ls : List (Key × V)} {vb : List (Key × Value)} (rb : KV ls vb) (hb : ∀ p ∈ ls, Dp X.K H p.2 (enc p.2) ∧ (enc p.2).canLay0 = true) :
    ∀ {ks : List (Key × V)} {va : List (Key × Value)}, KV ks va → (∀ p ∈ ks, Dp X.K H p.2 (enc p.2) ∧ (enc p.2).canLay0 = true ∧ (enc p.2).depth ≤ 10) → PySem.W.KeqHitsP X.prog X.w A s vb va (hitsB enc ls ks)
  | [], _, .nil, _ => .nil
  | p :: ks, _, .cons (b := q) h t, hp => by
    obtain ⟨h1, h2⟩ := h
    obtain ⟨k, v⟩ := q
    have h1' : p.1 = k := h1
    have ih := hits_data hu I rb hb t fun p m => hp p (List.mem_cons_of_mem _ m)
    obtain ⟨d1, d2, d3⟩ := hp p List.mem_cons_self
    cases e : valV ls p.1 with
    | none =>
      have eb : hitsB enc ls (p :: ks) = false := by rw [hitsB, e]
      rw [eb]
      have rr : RelO none (valueAt vb p.1) := by rw [← e]; exact rb.val p.1
      refine .miss ?_
      rw [← h1']
      cases q : valueAt vb p.1 with
      | none => rfl
      | some y => rw [q] at rr; exact absurd rr (by intro z; cases z)
    | some y =>
      have eb : hitsB enc ls (p :: ks) = (PyData.eqv (enc p.2) (enc y) && hitsB enc ls ks) := by rw [hitsB, e]
      rw [eb]
      have rr : RelO (some y) (valueAt vb p.1) := by rw [← e]; exact rb.val p.1
      obtain ⟨u, hy, ry⟩ := rr.some_of
      obtain ⟨e1, e2⟩ := hb _ (valV_some_mem e)
      obtain ⟨as, r1⟩ := Dp.reads I _ _ v d1 h2
      obtain ⟨bs, r2⟩ := Dp.reads I _ _ u e1 ry
      refine .hit (by rw [← h1']; exact hy) ?_ ih
      refine (PySem.SeqAt.eqAt_reads _ _ A s v u as bs r1 r2 d2 e2 ?_).eqP
      have := Nat.min_le_left (enc p.2).depth (enc y).depth
      omega
theorem op_eqDD (hu : X.A.units + 64 < cLine) : OpR X (compareOp .Eq) (rEqDD X.K) := by
  intro pins s σ H x y v u Q I rx ry h
  obtain ⟨a, b, ks, ls, enc, rfl, rfl, ea, eb, ha, hb, q⟩ := h
  obtain rfl : v = Value.ref a := rx
  obtain rfl : u = Value.ref b := ry
  obtain ⟨_, ya, va, ra, da⟩ := dk_rd I.hok ea
  obtain ⟨_, yb, vb, rb, db⟩ := dk_rd I.hok eb
  have la : va.length = ks.length := ra.length.symm
  have lb : vb.length = ls.length := rb.length.symm
  refine PySem.W.rcP_dicts (knd := mixKind X.prog X.w) (r := hitsB enc ls ks) ya yb da db (by omega) (fun _ => hits_data ?_ I rb hb ra ha) _ _ (fin_bl I q (by rw [la, lb]))
  show X.A.units + 1 + 10 < cLine
  omega
end
end L3

/-! what repr shows of nested data tells the data -/
namespace L3
open PySem PySem.Spec PyProof.Rows L2
/-- signs of a whole number's text -/
def ti (i : Int) : List Nat := (Str.ofString (toString i)).cps.toList
def numB (c : Nat) : Bool := decide (c = 45) || (decide (48 ≤ c) && decide (c ≤ 57))
theorem ti_num (i : Int) : ∀ c ∈ ti i, numB c = true := fun c m => by
  by_cases h : c ≠ 45 ∧ (c < 48 ∨ 57 < c)
  · exact absurd m (PyProof.Rows.int_text_free' c h i)
  · unfold numB
    by_cases h1 : c = 45
    · rw [decide_eq_true h1]; rfl
    · rw [decide_eq_false h1, decide_eq_true (show 48 ≤ c by omega), decide_eq_true (show c ≤ 57 by omega)]; rfl
theorem ti_inj {i j : Int} (h : ti i = ti j) : i = j := by
  have h2 : (Str.ofString (toString i)).cps.toList = (Str.ofString (toString j)).cps.toList := h
  simp only [PyProof.Rows.signs_ofString] at h2
  have h3 : (toString i).toList = (toString j).toList := (List.map_inj_right (fun x y e => Char.ext (UInt32.toNat_inj.mp e))).mp h2
  exact Int.repr_injective (String.toList_inj.mp h3)
theorem ti_ne (i : Int) : ti i ≠ [] := fun h => by
  have h2 : (Str.ofString (toString i)).cps.toList = [] := h
  simp only [PyProof.Rows.signs_ofString] at h2
  have h3 := List.map_eq_nil_iff.mp h2
  have e : toString i = "" := String.toList_inj.mp (by rw [h3]; rfl)
  have h4 : toString i = Int.repr i := rfl
  rw [h4] at e
  cases i with
  | ofNat n =>
    have : (Nat.repr n) = "" := e
    have l := congrArg String.length this
    simp at l
  | negSucc n =>
    have l := congrArg String.length e
    simp [Int.repr] at l
/-- behind an item: nothing, a comma, or a bracket -/
def End (r : List Nat) : Prop := ∀ c t, r = c :: t → c = 44 ∨ c = 93 ∨ c = 41
theorem munch {p : Nat → Bool} : ∀ {a b r s : List Nat}, (∀ c ∈ a, p c = true) → (∀ c ∈ b, p c = true) → (∀ c t, r = c :: t → p c = false) → (∀ c t, s = c :: t → p c = false) → a ++ r = b ++ s → a = b ∧ r = s
  | [], [], _, _, _, _, _, _, h => ⟨rfl, h⟩
  | [], y :: b, r, s, _, hb, hr, _, h => by
    have e := hr y (b ++ s) h
    rw [hb y List.mem_cons_self] at e
    cases e
  | x :: a, [], r, s, ha, _, _, hs, h => by
    have e := hs x (a ++ r) h.symm
    rw [ha x List.mem_cons_self] at e
    cases e
  | x :: a, y :: b, r, s, ha, hb, hr, hs, h => by
    injection h with h1 h2
    obtain ⟨e1, e2⟩ := munch (fun c m => ha c (List.mem_cons_of_mem _ m)) (fun c m => hb c (List.mem_cons_of_mem _ m)) hr hs h2
    exact ⟨by rw [h1, e1], e2⟩
mutual
def sh : PyData → List Nat
  | .none => [78, 111, 110, 101]
  | .bool b => if b then [84, 114, 117, 101] else [70, 97, 108, 115, 101]
  | .int i => ti i
  | .str x => 39 :: (x.cps.toList ++ [39])
  | .list ds => 91 :: (shs ds ++ [93])
  | .tuple ds => 40 :: (shs ds ++ (if ds.length = 1 then [44, 41] else [41]))
  | .dict _ => []
def shs : List PyData → List Nat
  | [] => []
  | d :: ds => sh d ++ shm ds
def shm : List PyData → List Nat
  | [] => []
  | d :: ds => 44 :: 32 :: (sh d ++ shm ds)
end
def easyS (x : Str) : Bool := decide (PySem.reprQuote x = 39) && x.cps.toList.all fun c => decide (Builtin.Str.reprChar 39 c = [c]) && decide (c ≠ 39)
mutual
def easy : PyData → Bool
  | .str x => easyS x
  | .list ds => easys ds
  | .tuple ds => easys ds
  | .dict _ => false
  | _ => true
def easys : List PyData → Bool
  | [] => true
  | d :: ds => easy d && easys ds
end
/-- what kind of item begins so -/
def kc (c : Nat) : Nat := if c = 78 then 0 else if c = 84 then 1 else if c = 70 then 2 else if c = 39 then 3 else if c = 91 then 4 else if c = 40 then 5 else if numB c then 6 else 7
def kd : PyData → Nat
  | .none => 0
  | .bool true => 1
  | .bool false => 2
  | .str _ => 3
  | .list _ => 4
  | .tuple _ => 5
  | .int _ => 6
  | .dict _ => 8
theorem kc_num {c : Nat} (h : numB c = true) : kc c = 6 := by
  unfold kc
  have q : c = 45 ∨ (48 ≤ c ∧ c ≤ 57) := by
    unfold numB at h
    simpa only [Bool.or_eq_true, Bool.and_eq_true, decide_eq_true_eq] using h
  rw [if_neg (by omega), if_neg (by omega), if_neg (by omega), if_neg (by omega), if_neg (by omega), if_neg (by omega), if_pos h]
theorem sh_head : ∀ {d : PyData}, easy d = true → ∃ c t, sh d = c :: t ∧ kc c = kd d
  | .none, _ => ⟨78, _, rfl, rfl⟩
  | .bool true, _ => ⟨84, _, rfl, rfl⟩
  | .bool false, _ => ⟨70, _, rfl, rfl⟩
  | .str x, _ => ⟨39, _, by rw [sh], rfl⟩
  | .list ds, _ => ⟨91, _, by rw [sh], rfl⟩
  | .tuple ds, _ => ⟨40, _, by rw [sh], rfl⟩
  | .int i, _ => by
    cases e : ti i with
    | nil => exact absurd e (ti_ne i)
    | cons c t => exact ⟨c, t, by rw [sh, e], kc_num (ti_num i c (by rw [e]; exact List.mem_cons_self))⟩
theorem End.num {r : List Nat} (h : End r) : ∀ c t, r = c :: t → numB c = false := fun c t e => by
  rcases h c t e with rfl | rfl | rfl <;> decide
theorem not_head {d : PyData} (h : easy d = true) {c : Nat} (hc : c = 44 ∨ c = 93 ∨ c = 41) {r s : List Nat} (e : sh d ++ r = c :: s) : False := by
  obtain ⟨c2, t, e2, k⟩ := sh_head h
  rw [e2] at e
  injection e with e3 _
  rw [e3] at k
  rcases hc with rfl | rfl | rfl <;> (cases d <;> first | (rename_i b; cases b <;> cases k) | cases k)
theorem shm_end {ds : List PyData} {c : Nat} {r : List Nat} (hc : c = 44 ∨ c = 93 ∨ c = 41) : End (shm ds ++ c :: r) := fun x t e => by
  cases ds with
  | nil => rw [shm] at e; injection e with e _; rw [← e]; exact hc
  | cons d ds => rw [shm] at e; injection e with e _; exact .inl e.symm
theorem easyS_no {x : Str} (h : easyS x = true) : ∀ c ∈ x.cps.toList, (fun c => !decide (c = 39)) c = true := fun c m => by
  have q := List.all_eq_true.mp (Bool.and_eq_true_iff.mp h).2 c m
  have q2 := of_decide_eq_true (Bool.and_eq_true_iff.mp q).2
  show (!decide (c = 39)) = true
  rw [decide_eq_false q2]
  rfl
mutual
theorem one : ∀ (d e : PyData) (r s : List Nat), easy d = true → easy e = true → End r → End s → sh d ++ r = sh e ++ s → d = e ∧ r = s
  | d, e, r, s, hd, he, hr, hs, h => by
    have kk : kd d = kd e := by
      obtain ⟨c, t, e1, k1⟩ := sh_head hd
      obtain ⟨c2, t2, e2, k2⟩ := sh_head he
      rw [e1, e2] at h
      injection h with h1 _
      rw [← k1, ← k2, h1]
    match d, e, hd, he, h, kk with
    | .none, .none, _, _, h, _ => exact ⟨rfl, List.append_cancel_left h⟩
    | .bool true, .bool true, _, _, h, _ => exact ⟨rfl, List.append_cancel_left h⟩
    | .bool false, .bool false, _, _, h, _ => exact ⟨rfl, List.append_cancel_left h⟩
    | .int i, .int j, _, _, h, _ =>
      rw [sh, sh] at h
      obtain ⟨a, b⟩ := munch (ti_num i) (ti_num j) hr.num hs.num h
      exact ⟨by rw [ti_inj a], b⟩
    | .str x, .str y, hx, hy, h, _ =>
      rw [easy] at hx hy
      rw [sh, sh, List.cons_append, List.cons_append] at h
      injection h with _ h
      rw [List.append_assoc, List.append_assoc] at h
      obtain ⟨a, b⟩ := munch (p := fun c => !decide (c = 39)) (easyS_no hx) (easyS_no hy) (fun c t e => by injection e with e _; rw [← e]; rfl) (fun c t e => by injection e with e _; rw [← e]; rfl) h
      injection b with _ b
      obtain ⟨⟨xs⟩⟩ := x
      obtain ⟨⟨ys⟩⟩ := y
      have a : xs = ys := a
      exact ⟨by rw [a], b⟩
    | .list ds, .list es, hx, hy, h, _ =>
      rw [easy] at hx hy
      rw [sh, sh, List.cons_append, List.cons_append] at h
      injection h with _ h
      rw [List.append_assoc, List.append_assoc] at h
      obtain ⟨a, b⟩ := row ds es r s hx hy h
      exact ⟨by rw [a], b⟩
    | .tuple ds, .tuple es, hx, hy, h, _ =>
      rw [easy] at hx hy
      rw [sh, sh, List.cons_append, List.cons_append] at h
      injection h with _ h
      rw [List.append_assoc, List.append_assoc] at h
      obtain ⟨a, b⟩ := tup ds es r s hx hy h
      exact ⟨by rw [a], b⟩
termination_by d => sizeOf d
theorem row : ∀ (ds es : List PyData) (r s : List Nat), easys ds = true → easys es = true → shs ds ++ ([93] ++ r) = shs es ++ ([93] ++ s) → ds = es ∧ r = s
  | [], [], r, s, _, _, h => by
    injection h with _ h
    exact ⟨rfl, h⟩
  | [], e :: es, r, s, _, he, h => by
    rw [easys, Bool.and_eq_true] at he
    rw [shs, shs, List.append_assoc] at h
    exact (not_head he.1 (.inr (.inl rfl)) h.symm).elim
  | d :: ds, [], r, s, hd, _, h => by
    rw [easys, Bool.and_eq_true] at hd
    rw [shs, shs, List.append_assoc] at h
    exact (not_head hd.1 (.inr (.inl rfl)) h).elim
  | d :: ds, e :: es, r, s, hd, he, h => by
    rw [easys, Bool.and_eq_true] at hd he
    rw [shs, shs, List.append_assoc, List.append_assoc] at h
    obtain ⟨a, b⟩ := one d e _ _ hd.1 he.1 (shm_end (.inr (.inl rfl))) (shm_end (.inr (.inl rfl))) h
    obtain ⟨a2, b2⟩ := more ds es 93 r s (.inl rfl) hd.2 he.2 b
    exact ⟨by rw [a, a2], b2⟩
termination_by ds => sizeOf ds
theorem tup : ∀ (ds es : List PyData) (r s : List Nat), easys ds = true → easys es = true → shs ds ++ ((if ds.length = 1 then [44, 41] else [41]) ++ r) = shs es ++ ((if es.length = 1 then [44, 41] else [41]) ++ s) → ds = es ∧ r = s
  | [], [], r, s, _, _, h => by
    injection h with _ h
    exact ⟨rfl, h⟩
  | [], e :: es, r, s, _, he, h => by
    rw [easys, Bool.and_eq_true] at he
    rw [shs, shs, List.append_assoc] at h
    exact (not_head he.1 (.inr (.inr rfl)) h.symm).elim
  | d :: ds, [], r, s, hd, _, h => by
    rw [easys, Bool.and_eq_true] at hd
    rw [shs, shs, List.append_assoc] at h
    exact (not_head hd.1 (.inr (.inr rfl)) h).elim
  | [d], [e], r, s, hd, he, h => by
    rw [easys, Bool.and_eq_true] at hd he
    rw [shs, shs, List.append_assoc, List.append_assoc] at h
    obtain ⟨a, b⟩ := one d e _ _ hd.1 he.1 (shm_end (ds := []) (.inl rfl)) (shm_end (ds := []) (.inl rfl)) h
    injection b with _ b
    injection b with _ b
    exact ⟨by rw [a], b⟩
  | [d], e :: y :: es, r, s, hd, he, h => by
    rw [easys, Bool.and_eq_true] at hd he
    rw [shs, shs, List.append_assoc, List.append_assoc] at h
    rw [if_neg (show ¬ (e :: y :: es).length = 1 by simp)] at h
    obtain ⟨a, b⟩ := one d e _ _ hd.1 he.1 (shm_end (ds := []) (.inl rfl)) (shm_end (.inr (.inr rfl))) h
    rw [shm, shm] at b
    injection b with _ b
    injection b with b _
    cases b
  | d :: x :: ds, [e], r, s, hd, he, h => by
    rw [easys, Bool.and_eq_true] at hd he
    rw [shs, shs, List.append_assoc, List.append_assoc] at h
    rw [if_neg (show ¬ (d :: x :: ds).length = 1 by simp)] at h
    obtain ⟨a, b⟩ := one d e _ _ hd.1 he.1 (shm_end (.inr (.inr rfl))) (shm_end (ds := []) (.inl rfl)) h
    rw [shm, shm] at b
    injection b with _ b
    injection b with b _
    cases b
  | d :: x :: ds, e :: y :: es, r, s, hd, he, h => by
    rw [easys, Bool.and_eq_true] at hd he
    rw [shs, shs, List.append_assoc, List.append_assoc] at h
    rw [if_neg (show ¬ (d :: x :: ds).length = 1 by simp), if_neg (show ¬ (e :: y :: es).length = 1 by simp)] at h
    obtain ⟨a, b⟩ := one d e _ _ hd.1 he.1 (shm_end (.inr (.inr rfl))) (shm_end (.inr (.inr rfl))) h
    obtain ⟨a2, b2⟩ := more (x :: ds) (y :: es) 41 r s (.inr rfl) hd.2 he.2 b
    exact ⟨by rw [a, a2], b2⟩
termination_by ds => sizeOf ds
theorem more : ∀ (ds es : List PyData) (c : Nat) (r s : List Nat), (c = 93 ∨ c = 41) → easys ds = true → easys es = true → shm ds ++ c :: r = shm es ++ c :: s → ds = es ∧ r = s
  | [], [], c, r, s, _, _, _, h => by
    injection h with _ h
    exact ⟨rfl, h⟩
  | [], e :: es, c, r, s, hc, _, _, h => by
    rw [shm, shm] at h
    injection h with h _
    omega
  | d :: ds, [], c, r, s, hc, _, _, h => by
    rw [shm, shm] at h
    injection h with h _
    omega
  | d :: ds, e :: es, c, r, s, hc, hd, he, h => by
    rw [easys, Bool.and_eq_true] at hd he
    rw [shm, shm, List.cons_append, List.cons_append, List.cons_append, List.cons_append] at h
    injection h with _ h
    injection h with _ h
    rw [List.append_assoc, List.append_assoc] at h
    have h3 : c = 44 ∨ c = 93 ∨ c = 41 := .inr hc
    obtain ⟨a, b⟩ := one d e _ _ hd.1 he.1 (shm_end h3) (shm_end h3) h
    obtain ⟨a2, b2⟩ := more ds es c r s hc hd.2 he.2 b
    exact ⟨by rw [a, a2], b2⟩
termination_by ds => sizeOf ds
end
/-! ### the text's signs -/
theorem fold_easy : ∀ (l : List Nat) (acc : Array Nat), (∀ c ∈ l, Builtin.Str.reprChar 39 c = [c]) → (l.foldl (fun out c => out ++ (Builtin.Str.reprChar 39 c).toArray) acc).toList = acc.toList ++ l
  | [], acc, _ => (List.append_nil _).symm
  | c :: l, acc, h => by
    rw [List.foldl_cons, fold_easy l _ fun x m => h x (List.mem_cons_of_mem _ m), h c List.mem_cons_self]
    simp
theorem repr_easy {x : Str} (h : easyS x = true) : (reprText x).cps.toList = 39 :: (x.cps.toList ++ [39]) := by
  obtain ⟨h1, h2⟩ := Bool.and_eq_true_iff.mp h
  have q := of_decide_eq_true h1
  have r : ∀ c ∈ x.cps.toList, Builtin.Str.reprChar 39 c = [c] := fun c m => of_decide_eq_true (Bool.and_eq_true_iff.mp (List.all_eq_true.mp h2 c m)).1
  unfold PySem.reprText
  rw [q]
  show ((x.cps.foldl (fun out c => out ++ (Builtin.Str.reprChar 39 c).toArray) #[39]).push 39).toList = _
  rw [Array.toList_push, ← Array.foldl_toList, fold_easy _ _ r]
  rfl
theorem cps_app (x y : Str) : (x ++ y).cps.toList = x.cps.toList ++ y.cps.toList := by
  obtain ⟨a⟩ := x
  obtain ⟨b⟩ := y
  show (a ++ b).toList = _
  simp
mutual
theorem sh_of : ∀ d : PyData, easy d = true → d.shown.cps.toList = sh d
  | .none, _ => by rw [PyData.shown]; decide +kernel
  | .bool true, _ => by decide +kernel
  | .bool false, _ => by decide +kernel
  | .int i, _ => by rw [PyData.shown_int, sh]; rfl
  | .str x, h => by
    rw [easy] at h
    rw [PyData.shown_str, sh]
    exact repr_easy h
  | .list ds, h => by
    rw [easy] at h
    rw [PyData.shown_list, sh, cps_app, cps_app, shs_of ds h]
    rfl
  | .tuple ds, h => by
    rw [easy] at h
    rw [PyData.shown_tuple, sh, cps_app, cps_app, shs_of ds h]
    by_cases q : ds.length = 1
    · rw [if_pos q, if_pos (beq_iff_eq.mpr q)]
      rfl
    · rw [if_neg q, if_neg (fun z => q (beq_iff_eq.mp z))]
      rfl
termination_by d => sizeOf d
theorem shs_of : ∀ ds : List PyData, easys ds = true → (Str.join ", " (PyData.shownAll ds)).cps.toList = shs ds
  | [], _ => rfl
  | [d], h => by
    rw [easys, Bool.and_eq_true] at h
    rw [shs, shm, List.append_nil, ← sh_of d h.1]
    rfl
  | d :: e :: ds, h => by
    rw [easys, Bool.and_eq_true] at h
    have ih := shs_of (e :: ds) h.2
    rw [shs, shm]
    show (PyData.shown d ++ Str.ofString ", " ++ Str.join ", " (PyData.shownAll (e :: ds))).cps.toList = _
    rw [cps_app, cps_app, ih, sh_of d h.1, List.append_assoc, shs]
    rfl
termination_by ds => sizeOf ds
end
theorem rtext_sh {d : PyData} (h : easy d = true) : (rtext d).cps.toList = sh d := by
  have q := sh_of d h
  cases d with
  | none => exact q
  | bool b => cases b <;> decide +kernel
  | int i => rw [sh]; rfl
  | str x => rw [easy] at h; rw [sh]; exact repr_easy h
  | list ds => exact q
  | tuple ds => exact q
  | dict _ => cases h
/-- the texts are the same just where the data are -/
theorem rtext_inj {d e : PyData} (hd : easy d = true) (he : easy e = true) (h : rtext d = rtext e) : d = e := by
  have h := congrArg (fun z : Str => z.cps.toList) h
  have h : (rtext d).cps.toList = (rtext e).cps.toList := h
  rw [rtext_sh hd, rtext_sh he] at h
  exact (one d e [] [] hd he (fun _ _ z => nomatch z) (fun _ _ z => nomatch z) (by rw [List.append_nil, List.append_nil]; exact h)).1
/-! no truth in it: == tells the data -/
mutual
def noB : PyData → Bool
  | .bool _ => false
  | .list ds => noBs ds
  | .tuple ds => noBs ds
  | .dict _ => false
  | _ => true
def noBs : List PyData → Bool
  | [] => true
  | d :: ds => noB d && noBs ds
end
mutual
theorem eqv_refl : ∀ d : PyData, noB d = true → PyData.eqv d d = true
  | .none, _ => rfl
  | .int i, _ => by
    show (i == i) = true
    simp
  | .str x, _ => by
    show (x == x) = true
    simp
  | .list ds, h => by
    rw [noB] at h
    rw [PyData.eqv]
    exact eqvs_refl ds h
  | .tuple ds, h => by
    rw [noB] at h
    rw [PyData.eqv]
    exact eqvs_refl ds h
termination_by d => sizeOf d
theorem eqvs_refl : ∀ ds : List PyData, noBs ds = true → PyData.eqvAll ds ds = true
  | [], _ => rfl
  | d :: ds, h => by
    rw [noBs, Bool.and_eq_true] at h
    rw [PyData.eqvAll, eqv_refl d h.1, eqvs_refl ds h.2]
    rfl
termination_by ds => sizeOf ds
end
mutual
theorem eqv_eq : ∀ d e : PyData, noB d = true → noB e = true → PyData.eqv d e = true → d = e
  | .none, e, _, he, h => by
    cases e with
    | none => rfl
    | bool b => cases he
    | _ => simp [PyData.eqv] at h
  | .int i, e, _, he, h => by
    cases e with
    | int j =>
      have h : (i == j) = true := h
      rw [beq_iff_eq.mp h]
    | bool b => cases he
    | _ => simp [PyData.eqv] at h
  | .str x, e, _, he, h => by
    cases e with
    | str y =>
      have h : (x == y) = true := h
      rw [beq_iff_eq.mp h]
    | bool b => cases he
    | _ => simp [PyData.eqv] at h
  | .list ds, e, hd, he, h => by
    rw [noB] at hd
    cases e with
    | list es =>
      rw [noB] at he
      rw [PyData.eqv] at h
      rw [eqvs_eq ds es hd he h]
    | bool b => cases he
    | _ => simp [PyData.eqv] at h
  | .tuple ds, e, hd, he, h => by
    rw [noB] at hd
    cases e with
    | tuple es =>
      rw [noB] at he
      rw [PyData.eqv] at h
      rw [eqvs_eq ds es hd he h]
    | bool b => cases he
    | _ => simp [PyData.eqv] at h
termination_by d => sizeOf d
theorem eqvs_eq : ∀ ds es : List PyData, noBs ds = true → noBs es = true → PyData.eqvAll ds es = true → ds = es
  | [], [], _, _, _ => rfl
  | [], _ :: _, _, _, h => by simp [PyData.eqvAll] at h
  | _ :: _, [], _, _, h => by simp [PyData.eqvAll] at h
  | d :: ds, e :: es, hd, he, h => by
    rw [noBs, Bool.and_eq_true] at hd he
    rw [PyData.eqvAll, Bool.and_eq_true] at h
    rw [eqv_eq d e hd.1 he.1 h.1, eqvs_eq ds es hd.2 he.2 h.2]
termination_by ds => sizeOf ds
end
theorem text_eqv {d e : PyData} (hd : easy d = true) (he : easy e = true) (nd : noB d = true) (ne : noB e = true) : decide (V.str (rtext d) = V.str (rtext e)) = PyData.eqv d e := by
  cases q : PyData.eqv d e with
  | true =>
    rw [eqv_eq d e nd ne q]
    exact decide_eq_true rfl
  | false =>
    refine decide_eq_false fun z => ?_
    rw [rtext_inj hd he (V.str.inj z), eqv_refl e ne] at q
    cases q
end L3

/-! drawn data: they stand whatever happens to the feed and to new objects -/
namespace L3
open PySem PySem.Spec PyProof.Rows L2
/-- all but what is in B stands -/
def Off (B : Addr → Prop) (H H' : Hp) : Prop := ∀ b o, ¬ B b → H b = some o → H' b = some o
theorem Off.refl (B : Addr → Prop) (H : Hp) : Off B H H := fun _ _ _ e => e
theorem Off.trans {B : Addr → Prop} {H H1 H2 : Hp} (x : Off B H H1) (y : Off B H1 H2) : Off B H H2 := fun b o n e => y b o n (x b o n e)
theorem Same.off {B : Addr → Prop} {H H' : Hp} (s : Same H H') : Off B H H' := fun b o _ e => s b o e
mutual
inductive Sd (K : PySem.W.Frag) (B : Addr → Prop) (H : Hp) : V → PyData → Prop
  | non : Sd K B H .non .none
  | int (i : Int) : Sd K B H (.int i) (.int i)
  | str (x : Str) : Sd K B H (.str x) (.str x)
  | tup {t : Addr} {xs : List V} {ds : List PyData} : (∀ H2, Off B H H2 → SqT K H2 t xs) → SdAll K B H xs ds → Sd K B H (.ref t) (.tuple ds)
  | lst {t : Addr} {xs : List V} {ds : List PyData} : (∀ H2, Off B H H2 → SqL K H2 t xs) → SdAll K B H xs ds → Sd K B H (.ref t) (.list ds)
inductive SdAll (K : PySem.W.Frag) (B : Addr → Prop) (H : Hp) : List V → List PyData → Prop
  | nil : SdAll K B H [] []
  | cons {v : V} {vs : List V} {d : PyData} {ds : List PyData} : Sd K B H v d → SdAll K B H vs ds → SdAll K B H (v :: vs) (d :: ds)
end
section
variable {K : PySem.W.Frag} {B : Addr → Prop} {p : Addr} {H H' : Hp}
mutual
theorem Sd.off (o : Off B H H') : ∀ (d : PyData) (v : V), Sd K B H v d → Sd K B H' v d
  | .none, _, .non => .non
  | .int i, _, .int _ => .int i
  | .str x, _, .str _ => .str x
  | .list ds, _, .lst hs ha => .lst (fun H2 o2 => hs H2 (o.trans o2)) (SdAll.off o ds _ ha)
  | .tuple ds, _, .tup hs ha => .tup (fun H2 o2 => hs H2 (o.trans o2)) (SdAll.off o ds _ ha)
theorem SdAll.off (o : Off B H H') : ∀ (ds : List PyData) (vs : List V), SdAll K B H vs ds → SdAll K B H' vs ds
  | [], _, .nil => .nil
  | d :: ds, _, .cons h hs => .cons (Sd.off o d _ h) (SdAll.off o ds _ hs)
end
mutual
theorem Sd.dp' : ∀ (d : PyData) (v : V), Sd K B H v d → Dp K H v d
  | .none, _, .non => .non
  | .int i, _, .int _ => .int i
  | .str x, _, .str _ => .str x
  | .list ds, _, .lst hs ha => .lst (hs H (Off.refl B H)) (SdAll.dp' ds _ ha)
  | .tuple ds, _, .tup hs ha => .tup (hs H (Off.refl B H)) (SdAll.dp' ds _ ha)
theorem SdAll.dp' : ∀ (ds : List PyData) (vs : List V), SdAll K B H vs ds → DpAll K H vs ds
  | [], _, .nil => .nil
  | d :: ds, _, .cons h hs => .cons (Sd.dp' d _ h) (SdAll.dp' ds _ hs)
end
theorem Sd.dp {v : V} {d : PyData} (h : Sd K B H v d) : Dp K H v d := Sd.dp' d v h
theorem SdAll.dp {vs : List V} {ds : List PyData} (h : SdAll K B H vs ds) : DpAll K H vs ds := SdAll.dp' ds vs h
theorem SdAll.snoc : ∀ {vs : List V} {ds : List PyData} {v : V} {d : PyData}, SdAll K B H vs ds → Sd K B H v d → SdAll K B H (vs ++ [v]) (ds ++ [d])
  | _, _, _, _, .nil, h => .cons h .nil
  | _, _, _, _, .cons x xs, h => .cons x (SdAll.snoc xs h)
theorem SdAll.len : ∀ {vs : List V} {ds : List PyData}, SdAll K B H vs ds → vs.length = ds.length
  | _, _, .nil => rfl
  | _, _, .cons _ hs => by rw [List.length_cons, List.length_cons, SdAll.len hs]
theorem SdAll.get : ∀ {vs : List V} {ds : List PyData}, SdAll K B H vs ds → ∀ (i : Nat) (x : V), vs[i]? = some x → ∃ d, ds[i]? = some d ∧ Sd K B H x d
  | _, _, .nil, i, x, e => by simp at e
  | _, _, .cons h hs, 0, x, e => by
    cases e
    exact ⟨_, rfl, h⟩
  | _, _, .cons h hs, i + 1, x, e => SdAll.get hs i x e
/-- a new tuple, a new list of drawn data -/
theorem Sd.newT {vs : List V} {ds : List PyData} (n : ∀ b, B b → H b ≠ none) (hp : H p = none) (hs : SdAll K B H vs ds) : Sd K B (upd H p (.tup vs)) (.ref p) (.tuple ds) :=
  .tup (fun H2 o => SqT.of (o p _ (fun z => n p z hp) upd_same)) (SdAll.off (Same.off (same_new hp)) ds vs hs)
theorem Sd.newL {vs : List V} {ds : List PyData} (n : ∀ b, B b → H b ≠ none) (hp : H p = none) (hs : SdAll K B H vs ds) : Sd K B (upd H p (.lst vs)) (.ref p) (.list ds) :=
  .lst (fun H2 o => SqL.of (o p _ (fun z => n p z hp) upd_same)) (SdAll.off (Same.off (same_new hp)) ds vs hs)
theorem dr_off {a : Addr} {H H' : Hp} (h : B a) (d : Dr a H H') : Off B H H' := fun b o n e => d.sm b o (fun z => n (z ▸ h)) e
/-- one more address may change: it is new -/
theorem off_new {D : Addr} {o : HO} {H2 : Hp} (hD : H D = none) (h : Off (fun b => B b ∨ b = D) (upd H D o) H2) : Off B H H2 := fun b u n e => by
  have nD := ne_of_none e hD
  exact h b u (fun z => z.elim n nD) (by rw [upd_ne nD]; exact e)
mutual
theorem Sd.more {D : Addr} {o : HO} (hD : H D = none) : ∀ (d : PyData) (v : V), Sd K B H v d → Sd K (fun b => B b ∨ b = D) (upd H D o) v d
  | .none, _, .non => .non
  | .int i, _, .int _ => .int i
  | .str x, _, .str _ => .str x
  | .list ds, _, .lst hs ha => .lst (fun H2 o2 => hs H2 (off_new hD o2)) (SdAll.more hD ds _ ha)
  | .tuple ds, _, .tup hs ha => .tup (fun H2 o2 => hs H2 (off_new hD o2)) (SdAll.more hD ds _ ha)
theorem SdAll.more {D : Addr} {o : HO} (hD : H D = none) : ∀ (ds : List PyData) (vs : List V), SdAll K B H vs ds → SdAll K (fun b => B b ∨ b = D) (upd H D o) vs ds
  | [], _, .nil => .nil
  | d :: ds, _, .cons h hs => .cons (Sd.more hD d _ h) (SdAll.more hD ds _ hs)
end
theorem off_less {C : Addr → Prop} {H2 : Hp} (c : ∀ b, B b → C b) (h : Off B H H2) : Off C H H2 := fun b o n e => h b o (fun z => n (c b z)) e
mutual
theorem Sd.less {C : Addr → Prop} (c : ∀ b, B b → C b) : ∀ (d : PyData) (v : V), Sd K C H v d → Sd K B H v d
  | .none, _, .non => .non
  | .int i, _, .int _ => .int i
  | .str x, _, .str _ => .str x
  | .list ds, _, .lst hs ha => .lst (fun H2 o2 => hs H2 (off_less c o2)) (SdAll.less c ds _ ha)
  | .tuple ds, _, .tup hs ha => .tup (fun H2 o2 => hs H2 (off_less c o2)) (SdAll.less c ds _ ha)
theorem SdAll.less {C : Addr → Prop} (c : ∀ b, B b → C b) : ∀ (ds : List PyData) (vs : List V), SdAll K C H vs ds → SdAll K B H vs ds
  | [], _, .nil => .nil
  | d :: ds, _, .cons h hs => .cons (Sd.less c d _ h) (SdAll.less c ds _ hs)
end
theorem off_at {D : Addr} {o : HO} (h : B D) : Off B H (upd H D o) := fun b u n e => by
  have q : b ≠ D := fun z => n (by rw [z]; exact h)
  rw [upd_ne q]
  exact e
end
/-! ### what is drawn: numbers, safe texts, tuples of such; how long its text may be -/
mutual
def good : PyData → Bool
  | .int i => decide (i.natAbs < 2 ^ 70) && decide ((Str.ofString (toString i)).length ≤ 40)
  | .str x => easyS x && (PyData.strOk x && decide ((reprText x).length ≤ 40))
  | .tuple ds => decide (ds.length ≤ 1000) && goods ds
  | .none => true
  | _ => false
def goods : List PyData → Bool
  | [] => true
  | d :: ds => good d && goods ds
end
mutual
def cost : PyData → Nat
  | .tuple ds => 4 + costs ds
  | _ => 40
def costs : List PyData → Nat
  | [] => 0
  | d :: ds => cost d + 2 + costs ds
end
theorem goods_mem : ∀ {ds : List PyData}, goods ds = true → ∀ d ∈ ds, good d = true
  | [], _, d, m => nomatch m
  | e :: ds, h, d, m => by
    rw [goods, Bool.and_eq_true] at h
    rcases List.mem_cons.mp m with rfl | m
    · exact h.1
    · exact goods_mem h.2 d m
structure Good (d : PyData) : Prop where
  easy : easy d = true
  noB : noB d = true
  wide : wide d = true
  tup : tupD d = d
  can : d.canLay0 = true
  sh : d.showable = true
  nd : d.hasDict = false
structure Goods (ds : List PyData) : Prop where
  easy : easys ds = true
  noB : noBs ds = true
  wide : wides ds = true
  tup : tupDs ds = ds
  can : PyData.canLayAll0 ds = true
  sh : PyData.showableAll ds = true
  nd : PyData.hasDictAll ds = false
mutual
theorem good_ok : ∀ d : PyData, good d = true → Good d
  | .none, _ => ⟨rfl, rfl, rfl, rfl, rfl, rfl, rfl⟩
  | .int i, h => by
    rw [good, Bool.and_eq_true, decide_eq_true_eq] at h
    replace h := h.1
    refine ⟨rfl, rfl, rfl, rfl, rfl, ?_, rfl⟩
    rw [PyData.showable]
    exact decide_eq_true (Nat.lt_of_lt_of_le (PySem.Flt.log2_lt_of (by decide) h) (by decide))
  | .str x, h => by
    rw [good, Bool.and_eq_true, Bool.and_eq_true] at h
    exact ⟨by rw [easy]; exact h.1, rfl, rfl, rfl, by rw [PyData.canLay0]; exact h.2.1, rfl, rfl⟩
  | .tuple ds, h => by
    rw [good, Bool.and_eq_true] at h
    have q := goods_ok ds h.2
    refine ⟨by rw [easy]; exact q.easy, by rw [noB]; exact q.noB, by rw [wide, h.1, q.wide]; rfl, by rw [tupD, q.tup], by rw [PyData.canLay0]; exact q.can, by rw [PyData.showable]; exact q.sh, by rw [PyData.hasDict]; exact q.nd⟩
termination_by d => sizeOf d
theorem goods_ok : ∀ ds : List PyData, goods ds = true → Goods ds
  | [], _ => ⟨rfl, rfl, rfl, rfl, rfl, rfl, rfl⟩
  | d :: ds, h => by
    rw [goods, Bool.and_eq_true] at h
    have q := good_ok d h.1
    have r := goods_ok ds h.2
    exact ⟨by rw [easys, q.easy, r.easy]; rfl, by rw [noBs, q.noB, r.noB]; rfl, by rw [wides, q.wide, r.wide]; rfl, by rw [tupDs, q.tup, r.tup], by rw [PyData.canLayAll0, q.can, r.can]; rfl, by rw [PyData.showableAll, q.sh, r.sh]; rfl, by rw [PyData.hasDictAll, q.nd, r.nd]; rfl⟩
termination_by ds => sizeOf ds
end
mutual
theorem cost_ok : ∀ d : PyData, good d = true → d.shown.length ≤ cost d
  | .none, _ => by decide +kernel
  | .int i, h => by
    rw [good, Bool.and_eq_true, decide_eq_true_eq, decide_eq_true_eq] at h
    rw [PyData.shown_int, cost]
    · exact h.2
    · intro ds z; cases z
  | .str x, h => by
    rw [good, Bool.and_eq_true, Bool.and_eq_true, decide_eq_true_eq] at h
    rw [PyData.shown_str, cost]
    · omega
    · intro ds z; cases z
  | .tuple ds, h => by
    rw [good, Bool.and_eq_true] at h
    have q := costs_ok ds h.2
    rw [PyData.shown_tuple, len_app, len_app, cost]
    have e1 : (Str.ofString "(").length = 1 := rfl
    have e2 : (Str.ofString (if ds.length == 1 then ",)" else ")")).length ≤ 2 := by split <;> decide
    by_cases z : PyData.shownAll ds = []
    · rw [z]
      show 1 + 0 + (Str.ofString _).length ≤ _
      omega
    · have := PySem.join_length_add _ z
      show 1 + (Str.join ", " (PyData.shownAll ds)).length + (Str.ofString _).length ≤ _
      omega
termination_by d => sizeOf d
theorem costs_ok : ∀ ds : List PyData, goods ds = true → PySem.piled (PyData.shownAll ds) ≤ costs ds
  | [], _ => Nat.le_refl _
  | d :: ds, h => by
    rw [goods, Bool.and_eq_true] at h
    have q := cost_ok d h.1
    have r := costs_ok ds h.2
    rw [PyData.shownAll, PySem.piled_cons, costs]
    omega
termination_by ds => sizeOf ds
end
theorem good_fine {d : PyData} (h : good d = true) (hd : d.depth ≤ 50) (hc : cost d ≤ 10000000) : Fine d := by
  have g := good_ok d h
  have c := cost_ok d h
  have z := sizeLine_eq
  cases d with
  | none => exact True.intro
  | bool b => exact True.intro
  | int i =>
    rw [good, Bool.and_eq_true, decide_eq_true_eq] at h
    exact Nat.lt_of_lt_of_le (PySem.Flt.log2_lt_of (by decide) h.1) (by decide)
  | str x =>
    rw [good, Bool.and_eq_true, Bool.and_eq_true, decide_eq_true_eq] at h
    show (reprText x).length ≤ sizeLine
    omega
  | list ds => exact ⟨g.sh, g.nd, by omega, by omega⟩
  | tuple ds => exact ⟨g.sh, g.nd, by omega, by omega⟩
  | dict _ => cases h
theorem depth_snoc : ∀ {ds : List PyData} {d : PyData} {n : Nat}, PyData.depthAll ds ≤ n → d.depth ≤ n → PyData.depthAll (ds ++ [d]) ≤ n
  | [], d, n, _, h => by
    show PyData.depthAll [d] ≤ n
    rw [PyData.depthAll, PyData.depthAll]
    omega
  | e :: ds, d, n, h1, h2 => by
    rw [PyData.depthAll] at h1
    have ih := depth_snoc (ds := ds) (d := d) (n := n) (by omega) h2
    show PyData.depthAll (e :: (ds ++ [d])) ≤ n
    rw [PyData.depthAll]
    omega
theorem wides_snoc : ∀ {ds : List PyData} {d : PyData}, wides ds = true → wide d = true → wides (ds ++ [d]) = true
  | [], d, _, h => by
    show wides [d] = true
    rw [wides, h]
    rfl
  | e :: ds, d, h1, h2 => by
    rw [wides, Bool.and_eq_true] at h1
    show wides (e :: (ds ++ [d])) = true
    rw [wides, h1.1, wides_snoc h1.2 h2]
    rfl
end L3

/-! a drawn list, a drawn tuple, as they stand; lores: the dicts from which days are drawn -/
namespace L3
open PySem PySem.Spec PyProof.Rows L2
/-- a list, a tuple that stands whatever happens in B -/
def Ls (K : PySem.W.Frag) (B : Addr → Prop) (H : Hp) (l : Addr) (xs : List V) : Prop := ∀ H2, Off B H H2 → SqL K H2 l xs
def Ts (K : PySem.W.Frag) (B : Addr → Prop) (H : Hp) (l : Addr) (xs : List V) : Prop := ∀ H2, Off B H H2 → SqT K H2 l xs
/-- `and`, put in a set of addresses one more -/
abbrev And1 (B : Addr → Prop) (D : Addr) : Addr → Prop := fun b => B b ∨ b = D
section
variable {K : PySem.W.Frag} {B : Addr → Prop} {H H' : Hp} {a l p D : Addr} {v x : V} {xs ys : List V} {d : PyData} {ds es : List PyData} {ts : List Str}
theorem Ls.off (h : Ls K B H l xs) (o : Off B H H') : Ls K B H' l xs := fun H2 o2 => h H2 (o.trans o2)
theorem Ts.off (h : Ts K B H l xs) (o : Off B H H') : Ts K B H' l xs := fun H2 o2 => h H2 (o.trans o2)
theorem Ls.now (h : Ls K B H l xs) : SqL K H l xs := h H (Off.refl B H)
theorem Ts.now (h : Ts K B H l xs) : SqT K H l xs := h H (Off.refl B H)
theorem Ls.one (h : Ls K B H l xs) (hB : B a) : Ls K (fun b => b = a) H l xs := fun H2 o => h H2 (off_less (B := fun b => b = a) (C := B) (fun b e => by rw [e]; exact hB) o)
/-- a list that stands as a plain one -/
theorem Sd.raw (h : ∀ H2, Off B H H2 → H2 l = some (.lst xs)) (ha : SdAll K B H xs ds) : Sd K B H (.ref l) (.list ds) := .lst (fun H2 o => SqL.of (h H2 o)) ha
theorem Sd.inL (h : Sd K B H v (.list ds)) : ∃ a xs, v = .ref a ∧ Ls K B H a xs ∧ SdAll K B H xs ds := by
  cases h with
  | lst hs ha => exact ⟨_, _, rfl, hs, ha⟩
theorem Sd.inT (h : Sd K B H v (.tuple ds)) : ∃ a xs, v = .ref a ∧ Ts K B H a xs ∧ SdAll K B H xs ds := by
  cases h with
  | tup hs ha => exact ⟨_, _, rfl, hs, ha⟩
theorem Sd.isStr {z : Str} (h : Sd K B H v (.str z)) : v = .str z := by cases h; rfl
theorem Sd.isInt {i : Int} (h : Sd K B H v (.int i)) : v = .int i := by cases h; rfl
theorem Sd.isNon (h : Sd K B H v .none) : v = .non := by cases h; rfl
theorem sd_strs : ∀ {ts : List Str} {xs : List V}, SdAll K B H xs (ts.map .str) → xs = ts.map V.str
  | [], _, .nil => rfl
  | t :: ts, _, .cons h hs => by rw [h.isStr, sd_strs hs]; rfl
theorem strs_sd : ∀ (ts : List Str), SdAll K B H (ts.map V.str) (ts.map .str)
  | [] => .nil
  | t :: ts => .cons (.str t) (strs_sd ts)
theorem SdAll.app : ∀ {xs : List V} {ds : List PyData}, SdAll K B H xs ds → SdAll K B H ys es → SdAll K B H (xs ++ ys) (ds ++ es)
  | _, _, .nil, h => h
  | _, _, .cons x xs, h => .cons x (SdAll.app xs h)
theorem SdAll.mem : ∀ {xs : List V} {ds : List PyData}, SdAll K B H xs ds → x ∈ xs → ∃ d ∈ ds, Sd K B H x d
  | _, _, .nil, m => nomatch m
  | _, _, .cons h hs, m => by
    rcases List.mem_cons.mp m with rfl | m
    · exact ⟨_, List.mem_cons_self, h⟩
    · obtain ⟨d, hd, s⟩ := SdAll.mem hs m
      exact ⟨d, List.mem_cons_of_mem _ hd, s⟩
theorem Dr.off (h : B a) (d : Dr a H H') : Off B H H' := dr_off h d
theorem Dr.alive (n : ∀ b, B b → H b ≠ none) (d : Dr a H H') : ∀ b, B b → H' b ≠ none := fun b hb => by
  by_cases z : b = a
  · obtain ⟨x, y, q, _⟩ := d.fd
    rw [z, q]
    exact fun z => nomatch z
  · cases q : H b with
    | none => exact absurd q (n b hb)
    | some o => rw [d.sm b o z q]; exact fun z => nomatch z
theorem Same.alive (n : ∀ b, B b → H b ≠ none) (s : Same H H') : ∀ b, B b → H' b ≠ none := fun b hb => by
  cases q : H b with
  | none => exact absurd q (n b hb)
  | some o => rw [s b o q]; exact fun z => nomatch z
end
theorem good_tup {ds : List PyData} (g : goods ds = true) (l : ds.length ≤ 1000) : good (.tuple ds) = true := by rw [good, g, decide_eq_true l]; rfl
theorem goods_c {d : PyData} {ds : List PyData} (h : good d = true) (hs : goods ds = true) : goods (d :: ds) = true := by rw [goods, h, hs]; rfl
theorem goods_n : goods [] = true := rfl
/-! ### lores -/
def strD (ts : List Str) : PyData := .list (ts.map .str)
def chD (c : Str × Nat) : PyData := .tuple [.str c.1, .int (c.2 : Int)]
def tbD (t : Str × List Str) : PyData := .tuple [.str t.1, .tuple (t.2.map .str)]
def loreKV (c e d r m t : V) (pl : Bool) : List (Key × V) :=
  [(.inr "choices", c), (.inr "cells", e), (.inr "deeds", d), (.inr "rules", r), (.inr "mine", m), (.inr "tables", t)] ++ if pl = true then [(.inr "plain", .int 1)] else []
structure LoreIs (cs : List (Str × Nat)) (ce : List Str) (tb : List (Str × List Str)) : Prop where
  cs : cs ≠ [] ∧ cs.length ≤ 6 ∧ ∀ c ∈ cs, good (.str c.1) = true ∧ 1 ≤ c.2 ∧ c.2 ≤ 4
  ce : ce ≠ [] ∧ ce.length ≤ 20 ∧ ∀ c ∈ ce, good (.str c) = true
  tb : tb.length ≤ 6 ∧ ∀ t ∈ tb, good (.str t.1) = true ∧ t.2 ≠ [] ∧ t.2.length ≤ 4 ∧ ∀ p ∈ t.2, good (.str p) = true
def mineT : List Str := ["v", "w"]
structure Lore (K : PySem.W.Frag) (B : Addr → Prop) (H : Hp) (L : Addr) (cs : List (Str × Nat)) (ce : List Str) (tb : List (Str × List Str)) (pl : Bool) (c e d r m t : V) : Prop where
  at_ : ∀ H2, Off B H H2 → H2 L = some (.dK (loreKV c e d r m t pl))
  c : ∃ a xs, c = .ref a ∧ (∀ H2, Off B H H2 → H2 a = some (.lst xs)) ∧ SdAll K B H xs (cs.map chD)
  e : ∃ a, e = .ref a ∧ ∀ H2, Off B H H2 → H2 a = some (.lst (ce.map V.str))
  d : Sd K B H d (.list [])
  r : Sd K B H r (.list [])
  m : Sd K B H m (strD mineT)
  t : Sd K B H t (.list (tb.map tbD))
section
variable {K : PySem.W.Frag} {B : Addr → Prop} {H H' : Hp} {L : Addr} {cs : List (Str × Nat)} {ce : List Str} {tb : List (Str × List Str)} {pl : Bool} {c e d r m t : V}
theorem Lore.off (h : Lore K B H L cs ce tb pl c e d r m t) (o : Off B H H') : Lore K B H' L cs ce tb pl c e d r m t :=
  ⟨fun H2 o2 => h.at_ H2 (o.trans o2), (let ⟨a, xs, q1, q2, q3⟩ := h.c; ⟨a, xs, q1, fun H2 o2 => q2 H2 (o.trans o2), SdAll.off o _ _ q3⟩), (let ⟨a, q1, q2⟩ := h.e; ⟨a, q1, fun H2 o2 => q2 H2 (o.trans o2)⟩), Sd.off o _ _ h.d, Sd.off o _ _ h.r, Sd.off o _ _ h.m, Sd.off o _ _ h.t⟩
theorem Lore.more {D : Addr} {u : HO} (hD : H D = none) (h : Lore K B H L cs ce tb pl c e d r m t) : Lore K (And1 B D) (upd H D u) L cs ce tb pl c e d r m t :=
  ⟨fun H2 o2 => h.at_ H2 (off_new hD o2), (let ⟨a, xs, q1, q2, q3⟩ := h.c; ⟨a, xs, q1, fun H2 o2 => q2 H2 (off_new hD o2), SdAll.more hD _ _ q3⟩), (let ⟨a, q1, q2⟩ := h.e; ⟨a, q1, fun H2 o2 => q2 H2 (off_new hD o2)⟩), Sd.more hD _ _ h.d, Sd.more hD _ _ h.r, Sd.more hD _ _ h.m, Sd.more hD _ _ h.t⟩
theorem Lore.get (h : Lore K B H L cs ce tb pl c e d r m t) {k : Str} {v : V} (q : valV (loreKV c e d r m t pl) (.inr k) = some v) : DGet H L (.str k) (some v) := by
  have g := DGet.k (k := Sum.inr k) (h.at_ H (Off.refl B H))
  rw [q] at g
  exact g
theorem Lore.has (h : Lore K B H L cs ce tb pl c e d r m t) (k : Str) : DGet H L (.str k) (valV (loreKV c e d r m t pl) (.inr k)) := DGet.k (k := Sum.inr k) (h.at_ H (Off.refl B H))
theorem Lore.sc (h : Lore K B H L cs ce tb pl c e d r m t) : Sd K B H c (.list (cs.map chD)) := by
  obtain ⟨a, xs, rfl, q2, q3⟩ := h.c
  exact Sd.raw q2 q3
theorem Lore.se (h : Lore K B H L cs ce tb pl c e d r m t) : Sd K B H e (strD ce) := by
  obtain ⟨a, rfl, q2⟩ := h.e
  exact Sd.raw q2 (strs_sd ce)
theorem lore_c : valV (loreKV c e d r m t pl) (.inr "choices") = some c := rfl
theorem lore_e : valV (loreKV c e d r m t pl) (.inr "cells") = some e := rfl
theorem lore_d : valV (loreKV c e d r m t pl) (.inr "deeds") = some d := rfl
theorem lore_r : valV (loreKV c e d r m t pl) (.inr "rules") = some r := rfl
theorem lore_m : valV (loreKV c e d r m t pl) (.inr "mine") = some m := rfl
theorem lore_t : valV (loreKV c e d r m t pl) (.inr "tables") = some t := rfl
theorem lore_p : (valV (loreKV c e d r m t pl) (.inr "plain")).isSome = pl := by cases pl <;> rfl
end
/-! ### statements and expressions that are come to in no run of ours -/
theorem pe_dead {X : Cx} {e : Expr} : PE X e (fun _ _ _ => False) := ⟨fun _ _ _ _ _ _ h => h.elim⟩
theorem ps_dead {X : Cx} {st : Stmt} : PS X st (fun _ _ _ => False) := ⟨fun _ _ _ _ _ _ h => h.elim⟩
theorem pss_dead {X : Cx} {st : List Stmt} : PSs X st (fun _ _ _ => False) := ⟨fun _ _ _ _ _ _ h => h.elim⟩
/-- a def that is called by its name -/
structure Use (P : Program) (w : World) (K : PySem.W.Frag) (mg : Str → Option Value) (base : Heap) (x : Str) (k : Nat) (f : Addr) (fd : FuncData) (ps : List Str) (sp : Sp) : Prop where
  G : FnOk P w K mg base CX0 k f fd ps sp
  g : mg x = some (.ref f)
  kp : PySem.W.keepIn K (.ref f) = true
  b : Binds K fd ps []
/-- the names of built-ins that the module does not hide -/
structure Zn (mg : Str → Option Value) : Prop where
  rng : mg "range" = none
  max_ : mg "max" = none
  min_ : mg "min" = none
  len : mg "len" = none
  isi : mg "isinstance" = none
  int : mg "int" = none
  tup : mg "tuple" = none
  lst : mg "list" = none
  dct : mg "dict" = none
  zip : mg "zip" = none
  str : mg "str" = none
  rep : mg "repr" = none
  abs_ : mg "abs" = none
  all_ : mg "all" = none
end L3


/-! list(zip(xs, ys)): a new list of new pairs -/
namespace L3
open PySem PySem.Spec PyProof.Rows L2
theorem zip_no_len : typeLookup (.type "zip") "__len__" = pure none := am_miss_of_fast (by decide +kernel)
theorem zip_no_hint : typeLookup (.type "zip") "__length_hint__" = pure none := am_miss_of_fast (by decide +kernel)
/-- what has been made: the list at S holds the pairs so far, each at a new address -/
structure Zd (H0 H : Hp) (xs ys : List V) (S : Addr) (ts : List Addr) : Prop where
  st : ∀ b o, H0 b = some o → H b = some o
  at_ : H S = some (.lst (ts.map V.ref))
  pr : ∀ (i : Nat) (t : Addr), ts[i]? = some t → H0 t = none ∧ ∃ x y, xs[i]? = some x ∧ ys[i]? = some y ∧ H t = some (.tup [x, y])
theorem Zd.seq {H0 H : Hp} {xs ys : List V} {S : Addr} {ts : List Addr} (z : Zd H0 H xs ys S ts) {K : PySem.W.Frag} {a : Addr} {us : List V} (h : SqL K H0 a us) : SqL K H a us := by
  rcases h with (h | ⟨o, h⟩) | h
  · exact .inl (.inl (z.st _ _ h))
  · exact .inl (.inr ⟨o, z.st _ _ h⟩)
  · exact .inr h
section
variable {X : Cx} {pins : List (Addr × Obj)} {σ : L2.St} {H0 : Hp} {A : Around} {R : Result → Shared → Prop} {S a b z TI TO i1 i2 : Addr} {xs ys : List V}
theorem zip_loop (hh : A.handled = none) (D : ZipApart z TI TO i1 i2 a b) (hS : S ≠ z ∧ S ≠ TI ∧ S ≠ TO ∧ S ≠ i1 ∧ S ≠ i2) (hS0 : H0 S = none)
    (qa : SqL X.K H0 a xs) (qb : SqL X.K H0 b ys) (hn : xs.length < sizeLine)
    (hend : ∀ s' H' ts, Inv X pins σ H' s' → ts.length = min xs.length ys.length → Zd H0 H' xs ys S ts → R (.ok (.ret .none)) s') :
    ∀ (m i : Nat) (s : Shared) (H : Hp) (ts : List Addr), i + m = min xs.length ys.length → ts.length = i → Inv X pins σ H s → Zd H0 H xs ys S ts → (∀ c ∈ [z, TI, TO, i1, i2], FpOk X pins H c) →
      IsPair s.heap TI (.ref i1) (.ref i2) → (∃ x y, IsPair s.heap TO x y) → s.heap.IsListIter i1 a i → s.heap.IsListIter i2 b i →
      (IsZip s.heap z TI TO .none ∨ ∃ T f oT, IsZipHeld s.heap z TI TO T f ∧ s.heap.get? T = some oT ∧ H T ≠ none ∧ T ≠ S) →
      codeAny (model X.prog X.w) A (.builtin "list.extend.loop" ⟨[.ref S, .ref z, .none], []⟩) R s := by
  intro m
  induction m with
  | zero =>
    intro i s H ts hi hl I hz hf hTI hTO h1 h2 hzz
    obtain ⟨x0, y0, hTO⟩ := hTO
    obtain ⟨its, rv, p, _⟩ := I.list (hz.seq qa)
    obtain ⟨its2, rv2, p2, _⟩ := I.list (hz.seq qb)
    have l1 := rv.length
    have l2 := rv2.length
    have he : its.toArray[i]? = none ∨ its2.toArray[i]? = none := by
      rcases Nat.le_total xs.length ys.length with q | q
      · exact .inl (by simp; omega)
      · exact .inr (by simp; omega)
    have fin : ∀ h', (∀ c o, c ≠ z → c ≠ TO → c ≠ i1 → c ≠ i2 → s.heap.get? c = some o → h'.get? c = some o) → R (.ok (.ret .none)) { s with heap := h' } := fun h' hk =>
      hend _ H ts (I.turnedL (t' := s.toks) (ch := [z, TI, TO, i1, i2]) (fun c o hb q => hk c o (fun q' => hb (by simp [q'])) (fun q' => hb (by simp [q'])) (fun q' => hb (by simp [q'])) (fun q' => hb (by simp [q'])) q) hf) (by omega) hz
    refine codeAny_builtin F.entry_extend_loop ?_
    rw [Around.under_plainId F.plain_extend_loop _]
    show wpAny _ A.in1 (pyNext (.ref z) >>= _) _ _ s
    rcases hzz with hzz | ⟨T, f, oT, hzz, hT, hHT, hTS⟩
    · exact wpAny_bind (wpAny_pyNext_zip_end (A := A.in1) hh D hzz hTI hTO h1 h2 p.isList p2.isList he fun h' hk => wpAny_pure (fin h' hk))
    · exact wpAny_bind (wpAny_pyNext_zip_end_held (A := A.in1) hh D hzz hT hTI h1 h2 p.isList p2.isList he fun h' hk => wpAny_pure (fin h' fun c o c1 _ c3 c4 e => hk c o c1 c3 c4 e))
  | succ m ih =>
    intro i s H ts hi hl I hz hf hTI hTO h1 h2 hzz
    obtain ⟨x0, y0, hTO⟩ := hTO
    have sqa := hz.seq qa
    have sqb := hz.seq qb
    obtain ⟨its, rv, p, _⟩ := I.list sqa
    obtain ⟨its2, rv2, p2, _⟩ := I.list sqb
    have hix : i < xs.length := by omega
    have hiy : i < ys.length := by omega
    obtain ⟨u, hu, ru⟩ := rv.get (List.getElem?_eq_getElem hix)
    obtain ⟨u2, hu2, ru2⟩ := rv2.get (List.getElem?_eq_getElem hiy)
    have hzl : z < s.heap.objs.size := by
      rcases hzz with q | ⟨_, _, _, q, _⟩ <;> exact Heap.lt_size q
    have hTn : H s.heap.objs.size = none := I.hok.fresh (Nat.le_refl _)
    refine codeAny_builtin F.entry_extend_loop ?_
    rw [Around.under_plainId F.plain_extend_loop _]
    show wpAny _ A.in1 (pyNext (.ref z) >>= _) _ _ s
    -- what stands behind the new pair, whatever the zip held
    have go : ∀ h' f, IsZipHeld h' z TI TO s.heap.objs.size f ∨ (∃ T f oT, IsZipHeld h' z TI TO T f ∧ h'.get? T = some oT ∧ H T ≠ none ∧ T ≠ S) → (∃ x y, IsPair h' TO x y) → h'.IsListIter i1 a (i + 1) → h'.IsListIter i2 b (i + 1) → IsPair h' s.heap.objs.size u u2 → h'.objs.size = s.heap.objs.size + 1 →
        (∀ c o, c ≠ z → c ≠ TO → c ≠ i1 → c ≠ i2 → s.heap.get? c = some o → h'.get? c = some o) →
        wpAny (model X.prog X.w) A.in1 (updateSeq S (·.push (.ref s.heap.objs.size)) >>= fun _ => again (.builtin "list.extend.loop" ⟨[.ref S, .ref z, .none], []⟩))
          (fun fin s' => match fin with | .done f => R (.ok f) s' | .again c' => c'.quiet = true ∧ codeAny (model X.prog X.w) A c' R s') (fun e s' => R (.error e) s') { s with heap := h' } := by
      intro h' f0 hz' hTO' h1' h2' hp hsz hk
      have new : ObjOk X.prog X.w (upd H s.heap.objs.size (.tup [xs[i], ys[i]])) h' s.heap.objs.size (.tup [xs[i], ys[i]]) :=
        ⟨by show 2 ≤ sizeLine; decide, [u, u2], .cons ru (.cons ru2 .nil), ⟨_, hp, rfl, _, rfl⟩⟩
      have I1 : Inv X pins σ (upd H s.heap.objs.size (.tup [xs[i], ys[i]])) { s with heap := h' } :=
        I.turnedNew (t' := s.toks) (ch := [z, TI, TO, i1, i2]) (fun c o hb q => hk c o (fun q' => hb (by simp [q'])) (fun q' => hb (by simp [q'])) (fun q' => hb (by simp [q'])) (fun q' => hb (by simp [q'])) q) hf (Nat.le_refl _) new
      have nS : S ≠ s.heap.objs.size := ne_of_none hz.at_ hTn
      have hS1 : upd H s.heap.objs.size (.tup [xs[i], ys[i]]) S = some (.lst (ts.map V.ref)) := by rw [upd_ne nS]; exact hz.at_
      obtain ⟨zl, its', n, r, hl', e⟩ := I1.lstM hS1
      have lt1 : ts.length < sizeLine := by omega
      have tn : ∀ {c o}, s.heap.get? c = some o → c ≠ s.heap.objs.size := fun e => Nat.ne_of_lt (Heap.lt_size e)
      refine wpAny_bind (wpAny_updateSeq e rfl (wpAny_pure ⟨plainId_quiet F.plain_extend_loop _, ?_⟩) ?_ ?_)
      · have I2 := I1.lset (t' := s.toks) (its' := its' ++ [Value.ref s.heap.objs.size]) (ys := ts.map V.ref ++ [V.ref s.heap.objs.size]) hS1 e (f := fun xs => xs.push (.ref s.heap.objs.size)) (by simp) (r.append (.cons rfl .nil)) (by rw [List.length_append, List.length_map, List.length_singleton]; omega)
        have up : ∀ c o, c ≠ S → h'.get? c = some o → (h'.update S (Obj.mapSeq (·.push (.ref s.heap.objs.size)))).get? c = some o := fun c o n q => (Heap.get?_update_other _ _ (Ne.symm n)).trans q
        refine ih (i + 1) _ _ (ts ++ [s.heap.objs.size]) (by omega) (by rw [List.length_append, hl]; rfl) I2 ⟨?_, ?_, ?_⟩ (fun c hc => ⟨?_, (hf c hc).2⟩) ?_ ?_ ?_ ?_ ?_
        · intro c o q
          rw [upd_ne (ne_of_none q hS0), upd_ne (ne_of_none (hz.st c o q) hTn)]
          exact hz.st c o q
        · rw [upd_same, List.map_append]
          rfl
        · intro j t hj
          by_cases hjl : j < ts.length
          · rw [List.getElem?_append_left hjl] at hj
            obtain ⟨q1, x, y, q2, q3, q4⟩ := hz.pr j t hj
            refine ⟨q1, x, y, q2, q3, ?_⟩
            rw [upd_ne (ne_of q4 hz.at_ fun z => nomatch z), upd_ne (ne_of_none q4 hTn)]
            exact q4
          · have hjl2 : j < (ts ++ [s.heap.objs.size]).length := by
              rcases Nat.lt_or_ge j (ts ++ [s.heap.objs.size]).length with q | q
              · exact q
              · rw [List.getElem?_eq_none q] at hj; cases hj
            rw [List.length_append, List.length_singleton] at hjl2
            obtain rfl : j = ts.length := by omega
            rw [List.getElem?_append_right (Nat.le_refl _), Nat.sub_self] at hj
            cases hj
            refine ⟨?_, xs[i], ys[i], by rw [hl]; exact List.getElem?_eq_getElem hix, by rw [hl]; exact List.getElem?_eq_getElem hiy, ?_⟩
            · cases q : H0 s.heap.objs.size with
              | none => rfl
              | some o => have := hz.st _ _ q; rw [hTn] at this; cases this
            · rw [upd_ne (Ne.symm nS)]
              exact upd_same
        · have nc : c ≠ S := fun q => by
            have q2 := (hf c hc).1
            rw [q, hz.at_] at q2
            cases q2
          have nn : c ≠ s.heap.objs.size := by
            have e' : c = z ∨ c = TI ∨ c = TO ∨ c = i1 ∨ c = i2 := by simpa using hc
            rcases e' with q | q | q | q | q
            · rw [q]; exact Nat.ne_of_lt hzl
            · rw [q]; exact tn hTI
            · rw [q]; exact tn hTO
            · rw [q]; obtain ⟨_, e1, _⟩ := h1; exact tn e1
            · rw [q]; obtain ⟨_, e2, _⟩ := h2; exact tn e2
          rw [upd_ne nc, upd_ne nn]
          exact (hf c hc).1
        · exact up _ _ (Ne.symm hS.2.1) (hk _ _ D.TIz D.TITO D.TIi1 D.TIi2 hTI)
        · obtain ⟨x, y, q⟩ := hTO'
          exact ⟨x, y, up _ _ (Ne.symm hS.2.2.1) q⟩
        · exact h1'.at fun o q => up _ _ (Ne.symm hS.2.2.2.1) q
        · exact h2'.at fun o q => up _ _ (Ne.symm hS.2.2.2.2) q
        · rcases hz' with q | ⟨T, f, oT, q, hT, hHT, hTS⟩
          · exact .inr ⟨s.heap.objs.size, f0, _, up _ _ (Ne.symm hS.1) q, up _ _ (Ne.symm nS) hp, by rw [upd_ne (Ne.symm nS), upd_same]; exact fun z => (nomatch z), Ne.symm nS⟩
          · refine .inr ⟨T, f, oT, up _ _ (Ne.symm hS.1) q, up _ _ hTS hT, ?_, hTS⟩
            rw [upd_ne hTS, upd_ne (fun q => hHT (by rw [q]; exact hTn))]
            exact hHT
      · show its'.toArray.size ≤ sizeLine
        rw [List.size_toArray, ← hl', List.length_map]
        omega
      · show (its'.toArray.push _).size ≤ sizeLine + 1
        rw [Array.size_push, List.size_toArray, ← hl', List.length_map]
        omega
    have ex : its.toArray[i]? = some u := by simpa using hu
    have ey : its2.toArray[i]? = some u2 := by simpa using hu2
    rcases hzz with hzz | ⟨T, f, oT, hzz, hT, hHT, hTS⟩
    · exact wpAny_bind (wpAny_pyNext_zip_item (A := A.in1) D hzz hTI hTO h1 h2 p.isList p2.isList ex ey fun h' a1 a2 a3 a4 a5 a6 hk => go h' false (.inl a1) ⟨_, _, a2⟩ a3 a4 a5 a6 hk)
    · have nf : ∀ c ∈ [z, TI, TO, i1, i2], T ≠ c := fun c hc q => hHT (by rw [q]; exact (hf c hc).1)
      exact wpAny_bind (wpAny_pyNext_zip_item_held (A := A.in1) D hzz hT hTI h1 h2 p.isList p2.isList ex ey fun h' a1 a3 a4 a5 a6 hk =>
        go h' false (.inr ⟨T, true, oT, a1, hk _ _ (nf _ (by simp)) (nf _ (by simp)) (nf _ (by simp)) hT, hHT, hTS⟩) ⟨_, _, hk _ _ D.TOz D.TOi1 D.TOi2 hTO⟩ a3 a4 a5 a6 fun c o c1 _ c3 c4 e => hk c o c1 c3 c4 e)
/-- list(z), z a zip of two lists that has given out nothing yet -/
theorem call_list_zip {s : Shared} {H : Hp} {Q : Value → Shared → Prop} {E : Value → Shared → Prop} (hc : X.calm = true) (I : Inv X pins σ H s) (D : ZipApart z TI TO i1 i2 a b) (hz : IsZip s.heap z TI TO .none) (hTI : IsPair s.heap TI (.ref i1) (.ref i2)) (hTO : ∃ x y, IsPair s.heap TO x y)
    (h1 : s.heap.IsListIter i1 a 0) (h2 : s.heap.IsListIter i2 b 0) (qa : SqL X.K H a xs) (qb : SqL X.K H b ys) (hn : xs.length < sizeLine) (hf : ∀ c ∈ [z, TI, TO, i1, i2], FpOk X pins H c)
    (hQ : ∀ S s' H' ts, H S = none → Inv X pins σ H' s' → ts.length = min xs.length ys.length → Zd H H' xs ys S ts → Q (.ref S) s') :
    wpAny (model X.prog X.w) X.A (call (.type "list") [.ref z]) Q E s := by
  have lt : ∀ {c o}, s.heap.get? c = some o → s.heap.objs.size ≠ c := fun e => Nat.ne_of_gt (Heap.lt_size e)
  have hSa : s.heap.objs.size ≠ z := lt hz
  have hSn : H s.heap.objs.size = none := I.hok.fresh (Nat.le_refl _)
  refine callType_codes (Q₁ := fun obj s₁ => obj = .ref s.heap.objs.size ∧ s₁ = { s with heap := s.heap.push { cls := .type "list", data := .seq #[] } }) F.called_list (F.typeCall_list_1 _) F.entry_list_init
    (code_list_new _ ⟨rfl, rfl⟩) fun obj s₁ h₁ => ?_
  obtain ⟨rfl, rfl⟩ := h₁
  have hS : (s.heap.push { cls := .type "list", data := .seq #[] }).get? s.heap.objs.size = some { cls := .type "list", data := .seq #[] } := Heap.get?_push_size _ rfl
  refine ⟨⟨_, hS, rfl⟩, F.args_list_init_2 _ _, ?_⟩
  show wpAny _ X.A.in1.in1 (do let old ← Builtin.List.listItems (.ref s.heap.objs.size); Builtin.List.listUpdate (.ref s.heap.objs.size) (fun _ => #[]); letGo old.toList.reverse; Builtin.List.listExtendWith (.ref s.heap.objs.size) (.ref z) .none) _ _ _
  refine wpAny_bind ?_
  unfold Builtin.List.listItems
  refine wpAny_bind (wpAny_seqItems hS rfl (wpAny_pure ?_))
  show wpAny _ X.A.in1.in1 (updateSeq s.heap.objs.size (fun _ => #[]) >>= fun _ => letGo (#[] : Array Value).toList.reverse >>= fun _ => Builtin.List.listExtendWith (.ref s.heap.objs.size) (.ref z) .none) _ _ _
  refine wpAny_bind (wpAny_updateSeq hS rfl ?_)
  have hS2 := Heap.get?_update_self (Obj.mapSeq (fun _ => (#[] : Array Value))) hS rfl
  refine wpAny_bind (wpAny_letGo ?_)
  unfold Builtin.List.listExtendWith
  have up : ∀ (h : Heap) (f : Obj → Obj), (∀ b o, s.heap.get? b = some o → h.get? b = some o) → ∀ b o, s.heap.get? b = some o → (h.update s.heap.objs.size f).get? b = some o := fun h f q b o e =>
    (Heap.get?_update_other _ _ (Ne.symm (Nat.ne_of_lt (Heap.lt_size e)))).trans (q b o e)
  have k1 : ∀ b o, s.heap.get? b = some o → (s.heap.push { cls := .type "list", data := .seq #[] }).get? b = some o := fun b o e => Heap.get?_push_of_some _ e
  have k2 := up _ (Obj.mapSeq (fun _ => (#[] : Array Value))) k1
  have gty : ∀ {h : Heap}, (∀ b o, s.heap.get? b = some o → h.get? b = some o) → ({ s with heap := h } : Shared).TypeIs (.ref z) "zip" := fun {h} q => ⟨_, q _ _ hz, rfl⟩
  refine wpAny_bind (wpAny_typeOf (gty k2) ?_)
  have e1 : Builtin.List.listSameRef (.ref s.heap.objs.size) (.ref z) = false := by simp [Builtin.List.listSameRef, hSa]
  have e2 : (Value.type "zip" == Value.type "list") = false := by decide
  have e3 : (Value.type "zip" == Value.type "tuple") = false := by decide
  simp only [e1, e2, e3, Bool.or_false, Bool.false_eq_true, if_false]
  refine wpAny_bind (wpAny_pyIter_zip (s := { s with heap := _ }) (k2 _ _ hz) ?_)
  refine wpAny_bind (wpAny_holding ?_)
  unfold Builtin.List.listLengthHint
  refine wpAny_bind (wpAny_specialOf (gty k2) zip_no_len ?_)
  show wpAny _ X.A.in1.in1 (specialOf (Value.ref z) (Str.ofString "__length_hint__") >>= _) _ _ _
  refine wpAny_bind (wpAny_specialOf (gty k2) zip_no_hint ?_)
  refine wpAny_pure ?_
  show wpAny _ X.A.in1.in1 (rule "list.extend.makes-room" >>= fun _ => Builtin.List.listTouch (.ref s.heap.objs.size) >>= fun _ =>
    again (.builtin "list.extend.loop" ⟨[.ref s.heap.objs.size, .ref z, .none], []⟩)) _ _ _
  refine wpAny_bind (wpAny_rule ?_)
  refine wpAny_bind ?_
  show wpAny _ X.A.in1.in1 (updateSeq s.heap.objs.size (·.push .none) >>= fun _ => updateSeq s.heap.objs.size (·.pop)) _ _ _
  refine wpAny_bind (wpAny_updateSeq hS2 rfl ?_)
  have hS3 := Heap.get?_update_self (Obj.mapSeq (·.push Value.none)) hS2 rfl
  refine wpAny_updateSeq (hz := by seq_fits) hS3 rfl ?_
  have hS4 := Heap.get?_update_self (Obj.mapSeq (·.pop)) hS3 rfl
  have k4 := up _ (Obj.mapSeq (·.pop)) (up _ (Obj.mapSeq (·.push Value.none)) k2)
  refine wpAny_pure ⟨plainId_quiet F.plain_extend_loop _, ?_⟩
  obtain ⟨x0, y0, hTO⟩ := hTO
  have n1 : s.heap.objs.size ≠ i1 := let ⟨_, e, _⟩ := h1; lt e
  have n2 : s.heap.objs.size ≠ i2 := let ⟨_, e, _⟩ := h2; lt e
  have I2 : Inv X pins σ (upd H s.heap.objs.size (.lst [])) _ := I.laid (t' := s.toks) k4 (Nat.le_refl _) ⟨Nat.zero_le _, [], _, .nil, hS4⟩
  refine zip_loop (H0 := H) (A := X.A.in1) (I.ok.hd hc) D ⟨hSa, lt hTI, lt hTO, n1, n2⟩ hSn qa qb hn (fun s' H' ts I' hl hz' => ⟨rfl, hQ _ s' H' ts hSn I' hl hz'⟩)
    (min xs.length ys.length) 0 _ _ [] (Nat.zero_add _) rfl I2 ⟨fun c o q => by rw [upd_ne (ne_of_none q hSn)]; exact q, upd_same, fun j t hj => by simp at hj⟩
    (fun c hc' => ⟨?_, (hf c hc').2⟩) (k4 _ _ hTI) ⟨_, _, k4 _ _ hTO⟩ (h1.at fun o q => k4 _ _ q) (h2.at fun o q => k4 _ _ q) (.inl (k4 _ _ hz))
  have ne : c ≠ s.heap.objs.size := by
    have e' : c = z ∨ c = TI ∨ c = TO ∨ c = i1 ∨ c = i2 := by simpa using hc'
    rcases e' with q | q | q | q | q
    · rw [q]; exact Ne.symm hSa
    · rw [q]; exact Ne.symm (lt hTI)
    · rw [q]; exact Ne.symm (lt hTO)
    · rw [q]; exact Ne.symm n1
    · rw [q]; exact Ne.symm n2
  rw [upd_ne ne]
  exact (hf c hc').1
end
def tLstZip (K : PySem.W.Frag) (ta : TA) : TE := fun σ H Q => ta σ H fun vs H1 => ∃ a b xs ys, vs = [.ref a, .ref b] ∧ SqL K H1 a xs ∧ SqL K H1 b ys ∧ xs.length < sizeLine ∧
  ∀ D ts H', H1 D = none → ts.length = min xs.length ys.length → Zd H1 H' xs ys D ts → Q (.ref D) H'
theorem pe_listZip {X : Cx} {e e2 : Expr} {ta : TA} {p p2 pos pos2 : Pos} (hc : X.calm = true) (hg : Gl X "list") (hm : X.mg "list" = none) (hg2 : Gl X "zip") (hm2 : X.mg "zip" = none) (ha : PA X [e, e2] ta)
    (na : starEach [.Call (.Name "zip" p2) [e, e2] [] pos2] X.env = (false, eval (.Call (.Name "zip" p2) [e, e2] [] pos2) X.env) :: starEach [] X.env := by rfl)
    (hs : starEach [e, e2] X.env = (false, eval e X.env) :: starEach [e2] X.env := by rfl) (hpl : (backTo pos2 (starEach [e2] X.env)).any (·.1) = false := by rfl) :
    PE X (.Call (.Name "list" p) [.Call (.Name "zip" p2) [e, e2] [] pos2] [] pos) (tLstZip X.K ta) := by
  refine ⟨fun pins s σ H Q I h => ?_⟩
  have zp : wpAny (model X.prog X.w) X.A (eval (.Call (.Name "zip" p2) [e, e2] [] pos2) X.env) (fun v s1 => wpAny (model X.prog X.w) X.A (call (.type "list") [v]) (EP X pins σ Q) X.xe s1) X.xe s := by
    refine Call_ (ld_blt I hg2 hm2 PyProof.Rows.boot_zip (PyProof.Rows.callWith_type1 (thn (ha.run pos2 pins s σ H _ I h) fun us s1 ⟨vs, H1, I1, r1, q1⟩ => ?_) hs hpl))
    obtain ⟨a, b, xs, ys, rfl, hqx, hqy, hn, q⟩ := q1
    cases r1 with
    | cons r rr =>
      cases rr with
      | cons r' rr =>
        cases rr
        cases r
        cases r'
        obtain ⟨its, rv, p1, _⟩ := I1.list hqx
        obtain ⟨its2, rv2, p2, _⟩ := I1.list hqy
        have la : a < s1.heap.objs.size := p1.lt
        have lb : b < s1.heap.objs.size := p2.lt
        refine call_zip_2 p1.isList p2.isList fun h' hz hTI hTO h1 h2 hsz hk => ?_
        have I2 : Inv X pins σ H1 { s1 with heap := h' } := I1.kept (t' := s1.toks) hk
        refine call_list_zip hc I2 (PySem.W.ktu_apart s1.heap.objs.size a b la lb) hz hTI ⟨_, _, hTO⟩ h1 h2 hqx hqy hn (fun c hcm => ?_) fun S s' H' ts hS I' hl hz' => ⟨.ref S, H', I', rfl, q S ts H' hS hl hz'⟩
        have e' : c = s1.heap.objs.size + 4 ∨ c = s1.heap.objs.size + 2 ∨ c = s1.heap.objs.size + 3 ∨ c = s1.heap.objs.size ∨ c = s1.heap.objs.size + 1 := by simpa using hcm
        have hle : s1.heap.objs.size ≤ c := by
          rcases e' with z | z | z | z | z
          · rw [z]; exact Nat.le_add_right _ _
          · rw [z]; exact Nat.le_add_right _ _
          · rw [z]; exact Nat.le_add_right _ _
          · rw [z]; exact Nat.le_refl _
          · rw [z]; exact Nat.le_add_right _ _
        exact I1.fpOk hle (I1.hok.fresh hle)
  refine Call_ (ld_blt I hg hm boot_list (PyProof.Rows.callWith_type1 (args_cons (thn zp fun x s1 hx => args_nil ?_) na) na))
  exact hx
end L3

/-! t * 0 and t * 1 of a tuple that is not empty -/
namespace L3
open PySem PySem.Spec PyProof.Rows L2
theorem tuple_mul1 (l : Addr) (items : Array Value) (n : Nat) (dd : Option Addr) (sl : Array (Option Value)) (u : Tok) :
    Meets (Builtin.«tuple.__mul__» ⟨[.ref l, .int 1 u], []⟩) (fun _ R s => s.heap.get? l = some { cls := .type "tuple", dict := dd, data := .seq items n, slots := sl } ∧ R (.ok (.ret (Value.ref l))) s) :=
  .of_wp fun prog w A R s h => by
    obtain ⟨hp, g, d, tk, os⟩ := s
    obtain ⟨hl, h⟩ := h
    have f1 := AutoSeq1.idx_int
    have c1 : (items.isEmpty || (1 : Int) == 1) = true := by rw [Bool.or_eq_true]; exact .inr rfl
    have c0 : (decide ((1 : Int) < -(2 ^ 63)) || decide ((1 : Int) ≥ 2 ^ 63)) = false := by decide
    wp_walk using wpAny_loadPart' hl
    repeat (first
      | (refine wpAny_ite_false (decide_eq_false (by rw [c0]; exact Bool.false_ne_true)) ?_; wp_walk using wpAny_loadPart' hl)
      | (refine wpAny_ite_true (decide_eq_true c1) ?_; wp_walk using wpAny_loadPart' hl))
    exact ⟨_, rfl, h⟩
theorem tuple_mul0 (l : Addr) (items : Array Value) (n : Nat) (dd : Option Addr) (sl : Array (Option Value)) (u : Tok) (hi : items.isEmpty = false) :
    Meets (Builtin.«tuple.__mul__» ⟨[.ref l, .int 0 u], []⟩) (fun _ R s => s.heap.get? l = some { cls := .type "tuple", dict := dd, data := .seq items n, slots := sl } ∧
      R (.ok (.ret (Value.ref s.heap.objs.size))) { s with heap := s.heap.push { cls := Value.type "tuple", data := Data.seq #[] }, toks := s.toks }) :=
  .of_wp fun prog w A R s h => by
    obtain ⟨hp, g, d, tk, os⟩ := s
    obtain ⟨hl, h⟩ := h
    have f1 := AutoSeq1.idx_int
    have c1 : (items.isEmpty || (0 : Int) == 1) = false := by rw [hi]; rfl
    have c0 : (decide ((0 : Int) < -(2 ^ 63)) || decide ((0 : Int) ≥ 2 ^ 63)) = false := by decide
    have c2 : (decide ((0 : Int) ≤ 0) || items.isEmpty) = true := by rw [hi]; rfl
    wp_walk using wpAny_loadPart' hl
    repeat (first
      | (refine wpAny_ite_false (decide_eq_false (by rw [c0]; exact Bool.false_ne_true)) ?_; wp_walk using wpAny_loadPart' hl)
      | (refine wpAny_ite_false (decide_eq_false (by rw [c1]; exact Bool.false_ne_true)) ?_; wp_walk using wpAny_loadPart' hl)
      | (refine wpAny_ite_true (decide_eq_true c2) ?_; wp_walk using wpAny_loadPart' hl))
    exact ⟨_, rfl, h⟩
def rRep01 (K : PySem.W.Frag) : R2 := fun x y H Q => ∃ l k xs, x = .ref l ∧ y = .int k ∧ SqT K H l xs ∧ xs ≠ [] ∧ ((k = 1 ∧ Q (.ref l) H) ∨ (k = 0 ∧ ∀ p, H p = none → Q (.ref p) (upd H p (.tup []))))
theorem op_rep01 {X : Cx} : OpR X (binaryOp .Mult) (rRep01 X.K) := by
  intro pins s σ H x y v u Q I rx ry h
  obtain ⟨l, k, xs, rfl, rfl, hT, hne, q⟩ := h
  cases rx
  obtain ⟨t, rfl⟩ := ry
  obtain ⟨its, r, ⟨⟨cls, dd, data, sl⟩, ho, hc, n, hd⟩, hs⟩ := I.tuple hT
  simp only at hc hd
  subst hc hd
  have hi : its.toArray.isEmpty = false := by
    cases its with
    | nil => exact absurd (List.eq_nil_of_length_eq_zero (by rw [r.length]; rfl)) hne
    | cons a b => rfl
  rcases q with ⟨rfl, q⟩ | ⟨rfl, q⟩
  · refine wpAny_binaryOp_repeat_ref (T := "tuple") (U := "int") (by decide) ⟨_, ho, rfl⟩ (fun s' => typeIs_int s' 1 t) noFill_tuple_mul F.fills_int_mul F.slot_int_rmul repeat_tuple F.slot_int_index.lookup
      (call_meets F.slot_int_rmul (typeIs_int s 1 t) F.entry_int_rmul (F.args_int_rmul_2 _ _) (int_rmul_tuple 1 t l its.toArray n dd sl)
        ⟨ho, rfl, ⟨_, ho, rfl⟩, call_meets F.slot_tuple_mul ⟨_, ho, rfl⟩ F.entry_tuple_mul (F.args_tuple_mul_2 _ _) (tuple_mul1 l its.toArray n dd sl t) ⟨ho, ?_⟩⟩)
    exact ⟨.ref l, H, I, rfl, q⟩
  · refine wpAny_binaryOp_repeat_ref (T := "tuple") (U := "int") (by decide) ⟨_, ho, rfl⟩ (fun s' => typeIs_int s' 0 t) noFill_tuple_mul F.fills_int_mul F.slot_int_rmul repeat_tuple F.slot_int_index.lookup
      (call_meets F.slot_int_rmul (typeIs_int s 0 t) F.entry_int_rmul (F.args_int_rmul_2 _ _) (int_rmul_tuple 0 t l its.toArray n dd sl)
        ⟨ho, rfl, ⟨_, ho, rfl⟩, call_meets F.slot_tuple_mul ⟨_, ho, rfl⟩ F.entry_tuple_mul (F.args_tuple_mul_2 _ _) (tuple_mul0 l its.toArray n dd sl t hi) ⟨ho, ?_⟩⟩)
    refine ⟨.ref s.heap.objs.size, _, I.laid (t' := s.toks) (o := .tup []) (fun b ob q => Heap.get?_push_of_some _ q) (Nat.le_refl _) ?_, rfl, q _ (I.hok.fresh (Nat.le_refl _))⟩
    exact ⟨Nat.zero_le _, [], .nil, IsTup.new _ _⟩
end L3

namespace R61
open PySem L2 L3
open C8 (pss_cut tCut)
def top (i : Nat) : Stmt := PySem.Challenge.pw_hadnot_k61_deeds.main.body.getD i (.Pass ⟨0, 0, 0, 0⟩)
abbrev sFeed : Stmt := top 14
abbrev sTake : Stmt := top 15
section
variable {P : Program} {w : World} {K : PySem.W.Frag} {mg : Str → Option Value} {base : Heap}
theorem scF : FnScope ["_law_script", "_law_k", "_law_cell", "_law_own"] ["_law_script", "_law_k"] (defScope sFeed) := ⟨rfl, rfl, rfl, by decide +kernel, rfl, by decide +kernel, by decide +kernel⟩
theorem ok_feed {f : Addr} {fd : FuncData} (F : Fun K "_law_feed" "_law_feed" sFeed f fd) (zLen : mg "len" = none) (zAbs : mg "abs" = none) : FnOk P w K mg base CX0 1 f fd ["_law_script", "_law_k"] (spFeed K) := by
  refine F.ok scF (fun vs H Q E h => ?_) (fun cdv A outer s H vs Q E hr h => ?_)
  · obtain ⟨a, ns, k, rfl, _⟩ := h
    rfl
  · obtain ⟨a, ns, k, rfl, hS, hn, hk, kk⟩ := h
    have sk : Sm 7 (k : Int) := by show (k : Int).natAbs < 128; omega
    have hl : (ns.map V.int).length = ns.length := List.length_map ..
    refine ⟨_, pss_cons (ps_set (i := 2) scF.nd rfl (Or.inl rfl) (pe_op op_add (pe_op op_mulW pe_int (pv 1)) pe_int))
      (pss_cut (ps_if (pt_cmpR op_lt (pv 1) (pe_callB call_len_seq (by rfl) zLen PySem.boot_len (pa_cons (pv 0) pa_nil)) (nomark _))
        (pss_one (ps_set (i := 2) scF.nd rfl (Or.inl rfl) (pe_callB call_abs (by rfl) zAbs PyProof.Rows.boot_abs (pa_cons (pe_ix ix_list (pv 0) (pv 1) (fun _ _ => rfl)) pa_nil))))
        (pss_one (ps_if (pt_cmpR op_gt (pe_callB call_len_seq (by rfl) zLen PySem.boot_len (pa_cons (pv 0) pa_nil)) pe_int (nomark _))
          (pss_one (ps_set (i := 2) scF.nd rfl (Or.inl rfl) (pe_op op_add (pe_op op_mulW (pe_op op_mod (pe_callB call_abs (by rfl) zAbs PyProof.Rows.boot_abs (pa_cons (pe_ix ix_list (pv 0) (pe_op op_mod (pv 1) (pe_callB call_len_seq (by rfl) zLen PySem.boot_len (pa_cons (pv 0) pa_nil))) (fun _ _ => rfl)) pa_nil)) pe_int) pe_int) (pe_op op_mulW pe_int (pv 1))))) pss_nil)))
      (pss_cons (ps_set (i := 3) scF.nd rfl (Or.inl rfl) pe_int)
      (pss_cut (ps_if (pt_cmpR op_ge (pv 2) (pe_op op_pow pe_int pe_int) (nomark _)) (pss_one (ps_set (i := 3) scF.nd rfl (Or.inl rfl) (pv 2))) pss_nil)
      (pss_one (ps_ret (pe_lst (pa_cons (pv 3) (pa_cons (pe_op op_add (pe_op op_mod (pe_op op_add (pe_op op_mulW (pe_op op_mod (pv 2) pe_int) pe_int) (pe_op op_mulW pe_int (pv 1))) pe_int) pe_int) pa_nil)))))))), ?_⟩
    refine ⟨_, rfl, _, _, rfl, rfl, (show Sm 13 7621 by decide).mulW sk (by decide) (by decide) (by decide), _, _, rfl, rfl, ?_⟩
    refine ⟨fun σ H' => ∃ c : Int, σ = [some (.ref a), some (.int k), some (.int c), none] ∧ H' = H, ?_, ?_⟩
    · refine ⟨_, rfl, _, rfl, a, _, rfl, .inl hS, _, _, rfl, rfl, _, rfl, ?_⟩
      rw [hl]
      refine iteD (fun h1 => ?_) (fun h1 => ?_)
      · have hk' : k < ns.length := by omega
        refine ⟨_, rfl, _, rfl, a, _, _, .int ns[k], rfl, rfl, hS, atI_nat (by rw [List.getElem?_map, List.getElem?_eq_getElem hk']; rfl), _, rfl, ?_⟩
        exact ⟨_, rfl, rfl⟩
      · refine ⟨_, rfl, a, _, rfl, .inl hS, _, _, rfl, rfl, _, rfl, ?_⟩
        rw [hl]
        refine iteD (fun h2 => ?_) (fun h2 => ?_)
        · have hlen : 0 < ns.length := by omega
          have hj : k % ns.length < ns.length := Nat.mod_lt _ hlen
          refine ⟨_, rfl, _, rfl, _, rfl, a, _, rfl, .inl hS, _, _, rfl, rfl, ?_, ?_⟩
          · show (0 : Int) < ((ns.map V.int).length : Int)
            rw [hl]
            omega
          · have e : (k : Int) % ((ns.map V.int).length : Int) = ((k % ns.length : Nat) : Int) := by rw [hl]; rfl
            refine ⟨a, _, _, .int ns[k % ns.length], rfl, rfl, hS, at_of e (by rw [List.getElem?_map, List.getElem?_eq_getElem hj]; rfl), _, rfl, _, _, rfl, rfl, (by show (0 : Int) < 2147483629; decide), ?_⟩
            refine ⟨_, _, rfl, rfl, Sm.mulW (n := 31) (m := 6) ?_ (by decide) (by decide) (by decide) (by decide), _, rfl, _, _, rfl, rfl, (show Sm 14 8513 by decide).mulW sk (by decide) (by decide) (by decide), _, _, rfl, rfl, ?_⟩
            · show (_ % (2147483629 : Int)).natAbs < 2147483648
              omega
            · exact ⟨_, rfl, rfl⟩
        · exact ⟨_, rfl, rfl⟩
    · rintro σ' H' ⟨c, rfl, rfl⟩
      refine ⟨fun σ H1 => ∃ o : Int, σ = [some (.ref a), some (.int k), some (.int c), some (.int o)] ∧ H1 = H', ?_, ?_⟩
      · refine ⟨_, rfl, _, _, rfl, rfl, ⟨by decide, by decide, by decide⟩, _, _, rfl, rfl, _, rfl, ?_⟩
        refine iteD (fun h1 => ?_) (fun h1 => ?_)
        · exact ⟨_, rfl, _, rfl, rfl⟩
        · exact ⟨_, rfl, rfl⟩
      · rintro σ' H1 ⟨o, rfl, rfl⟩
        refine ⟨_, rfl, _, rfl, _, _, rfl, rfl, (by show (0 : Int) < 2147483629; decide), _, _, rfl, rfl, Sm.mulW (n := 31) (m := 16) ?_ (by decide) (by decide) (by decide) (by decide), ?_⟩
        · show (_ % (2147483629 : Int)).natAbs < 2147483648
          omega
        · refine ⟨_, rfl, _, _, rfl, rfl, (show Sm 16 50021 by decide).mulW sk (by decide) (by decide) (by decide), _, _, rfl, rfl, _, _, rfl, rfl, (by show (0 : Int) < 2147483629; decide), _, _, rfl, rfl, (by show 2 ≤ sizeLine; decide), fun p hp => ?_⟩
          refine kk p _ hp (same_new hp) ⟨_, _, upd_same, ?_, ?_⟩ <;> omega
theorem scT : FnScope ["_law_feed_here", "_law_many", "_law_digit", "_law_one"] ["_law_feed_here", "_law_many"] (defScope sTake) := ⟨rfl, rfl, rfl, by decide +kernel, rfl, by decide +kernel, by decide +kernel⟩
theorem ok_take {f : Addr} {fd : FuncData} (F : Fun K "_law_take" "_law_take" sTake f fd) : FnOk P w K mg base CX0 1 f fd ["_law_feed_here", "_law_many"] spTake := by
  refine F.ok scT (fun vs H Q E h => ?_) (fun cdv A outer s H vs Q E hr h => ?_)
  · obtain ⟨a, m, rfl, _⟩ := h
    rfl
  · obtain ⟨a, m, rfl, ⟨x, y, hH, y0, y1⟩, m0, sm, k⟩ := h
    refine ⟨_, pss_cons (ps_if (pt_cmpR op_gt (pe_ix ix_list (pv 0) pe_int (fun _ _ => rfl)) pe_int (nomark _))
        (pss_cons (ps_set (i := 2) scT.nd rfl (Or.inl rfl) (pe_op op_mod (pe_ix ix_list (pv 0) pe_int (fun _ _ => rfl)) (pv 1)))
        (pss_cons (ps_asg (pe_op op_fdivW (pe_ix ix_list (pv 0) pe_int (fun _ _ => rfl)) (pv 1)) (pg_sub (pv 0) pe_int set_list))
        (pss_one (ps_ret (pv 2))))) pss_nil)
      (pss_cons (ps_set (i := 3) scT.nd rfl (Or.inl rfl) (pe_op op_mod (pe_op op_mulW (pe_ix ix_list (pv 0) pe_int (fun _ _ => rfl)) pe_int) pe_int))
      (pss_cons (ps_asg (pe_op op_add (pe_op op_mod (pe_op op_add (pe_op op_mulW (pv 3) pe_int) pe_int) pe_int) pe_int) (pg_sub (pv 0) pe_int set_list))
      (pss_one (ps_ret (pe_op op_mod (pe_op op_fdivW (pe_op op_add (pe_op op_mulW (pv 3) pe_int) (pe_ix ix_list (pv 0) pe_int (fun _ _ => rfl))) pe_int) (pv 1)))))), ?_⟩
    have q0 : ∀ {u v : V} {H' : Hp}, H' a = some (.lst [u, v]) → SqL K H' a [u, v] := fun h => SqL.of h
    have keep : ∀ o, ∀ b u, b ≠ a → H b = some u → upd H a o b = some u := fun o b u n e => by rw [upd_ne n]; exact e
    refine ⟨_, rfl, a, _, 0, .int x, rfl, rfl, SqL.of hH, rfl, _, _, rfl, rfl, _, rfl, ?_⟩
    refine iteD (fun hx => ?_) (fun hx => ?_)
    · refine ⟨_, rfl, a, _, 0, .int x, rfl, rfl, SqL.of hH, rfl, _, rfl, _, _, rfl, rfl, m0, ?_⟩
      refine ⟨_, rfl, a, _, 0, .int x, rfl, rfl, SqL.of hH, rfl, _, rfl, _, _, rfl, rfl, ⟨m0, Sm.log sm (by decide) (by decide)⟩, _, rfl, a, _, _, 0, rfl, rfl, hH, rfl, _, rfl, ?_⟩
      exact k _ _ (Int.emod_nonneg _ (by omega)) (Int.emod_lt_of_pos _ m0) ⟨⟨_, _, upd_same, y0, y1⟩, keep _⟩
    · refine ⟨_, rfl, a, _, 1, .int y, rfl, rfl, SqL.of hH, rfl, _, _, rfl, rfl, Sm.mulW (n := 32) (m := 16) (by show y.natAbs < 4294967296; omega) (by decide) (by decide) (by decide) (by decide), _, _, rfl, rfl, (by show (0 : Int) < 2147483647; decide), ?_⟩
      have s31 : ∀ z : Int, Sm 31 (z % 2147483647) := fun z => by show (z % 2147483647).natAbs < 2147483648; omega
      refine ⟨_, rfl, _, _, rfl, rfl, (s31 _).mulW (m := 16) (by decide) (by decide) (by decide) (by decide), _, _, rfl, rfl, _, _, rfl, rfl, (by show (0 : Int) < 2147483399; decide), _, _, rfl, rfl, _, rfl, a, _, _, 1, rfl, rfl, hH, rfl, ?_⟩
      refine ⟨_, rfl, _, _, rfl, rfl, (s31 _).mulW (m := 31) (by decide) (by decide) (by decide) (by decide), _, rfl, a, _, 1, _, rfl, rfl, SqL.of upd_same, rfl, _, _, rfl, rfl, _, _, rfl, rfl, ⟨by decide, by decide⟩, _, rfl, _, _, rfl, rfl, m0, ?_⟩
      refine k _ _ (Int.emod_nonneg _ (by omega)) (Int.emod_lt_of_pos _ m0) ⟨⟨_, _, upd_same, ?_, ?_⟩, keep _⟩ <;> omega
end
end R61

namespace R61
open PySem L2 L3
open C8 (pss_cut tCut)
abbrev sMixed : Stmt := top 16
abbrev sTitles : Stmt := top 17
def spMixed (K : PySem.W.Frag) : Sp := fun vs H Q _ => ∃ (a l : Addr) (xs : List V), vs = [.ref a, .ref l] ∧ FeedAt H a ∧ (SqL K H l xs ∨ SqT K H l xs) ∧ xs.length ≤ 1000 ∧
  ∀ (p : Addr) (ys : List V) (H' : Hp), H p = none → Dr a H H' → H' p = some (.lst ys) → ys.Perm xs → Q (.ref p) H'
theorem erase_perm {α : Type} : ∀ (l : List α) (i : Nat) (h : i < l.length), (l[i] :: l.eraseIdx i).Perm l
  | _ :: _, 0, _ => .refl _
  | x :: l, i + 1, h => (List.Perm.swap _ _ _).trans (.cons x (erase_perm l i (Nat.lt_of_succ_lt_succ h)))
section
variable {P : Program} {w : World} {K : PySem.W.Frag} {mg : Str → Option Value} {base : Heap}
theorem scMi : FnScope ["_law_feed_here", "_law_some", "_law_left", "_law_found", "_law_k"] ["_law_feed_here", "_law_some"] (defScope sMixed) := ⟨rfl, rfl, rfl, by decide +kernel, rfl, by decide +kernel, by decide +kernel⟩
theorem ok_mixed {f fT : Addr} {fd fdT : FuncData} (F : Fun K "_law_mixed" "_law_mixed" sMixed f fd) (FT : Fun K "_law_take" "_law_take" sTake fT fdT) (bT : Binds K fdT ["_law_feed_here", "_law_many"] []) (gT : mg "_law_take" = some (.ref fT)) (zList : mg "list" = none) (zRng : mg "range" = none) (zLen : mg "len" = none) :
    FnOk P w K mg base CX0 2 f fd ["_law_feed_here", "_law_some"] (spMixed K) := by
  have GT : FnOk P w K mg base CX0 1 fT fdT ["_law_feed_here", "_law_many"] spTake := ok_take FT
  refine F.ok scMi (fun vs H Q E h => ?_) (fun cdv A outer s H vs Q E hr h => ?_)
  · obtain ⟨a, l, xs, rfl, _⟩ := h
    rfl
  · obtain ⟨a, l, xs, rfl, hf, hx, hn, k⟩ := h
    have nd := scMi.nd
    refine ⟨_, pss_cons (ps_par (i := 2) (j := 3) (by rfl) nd rfl rfl (by decide) rfl rfl (pa_cons (pe_callTy call_list_of (by rfl) zList PyProof.Rows.boot_list (pa_cons (pv 1) pa_nil)) (pa_cons (pe_lst pa_nil) pa_nil)) (by rfl))
      (pss_cons (ps_for PassesOwn.never rfl (pi_range1 (by rfl) zRng (pa_cons (pe_callB call_len_seq (by rfl) zLen PySem.boot_len (pa_cons (pv 2) pa_nil)) pa_nil)) (pg_name (i := 4) nd rfl (.inl rfl))
        (pss_one (ps_expr (pe_bm PySem.F.plainAttrs_list PySem.F.slot_list_append PySem.F.type_list_append mt_append (pv 3) (pa_cons (pe_bm (r := rPopAt) PySem.F.plainAttrs_list PySem.F.slot_list_pop PySem.F.type_list_pop (by exact mt_popAt) (pv 2)
          (pa_cons (pe_call GT hr (by rfl) gT FT.kp bT .nil pass0 (pa_cons (pv 0) (pa_cons (pe_callB call_len_seq (by rfl) zLen PySem.boot_len (pa_cons (pv 2) pa_nil)) pa_nil))) pa_nil)) pa_nil)))))
      (pss_one (ps_ret (pv 3)))), ?_⟩
    obtain ⟨fx, fy, ha, hfy⟩ := id hf
    refine ⟨_, rfl, l, xs, rfl, hx, fun q hq => ⟨(show 0 ≤ sizeLine by decide), fun p hp => ⟨_, _, rfl, ?_⟩⟩⟩
    have s1 := same_new (o := .lst xs) hq
    have s2 := same_new (o := .lst []) hp
    have nqa : q ≠ a := (ne_of_none ha hq).symm
    have npa : p ≠ a := (ne_of_none (s1 _ _ ha) hp).symm
    have npq : p ≠ q := (ne_of_none (show upd H q (.lst xs) q = _ from upd_same) hp).symm
    have hpH : H p = none := s1.free hp
    refine ⟨_, rfl, q, xs, rfl, .inl (SqL.of (s2 _ _ upd_same)), _, rfl, ?_, ?_, for_range (fun j σ H' => ∃ (v : Option V) (rest ys : List V), σ = [some (.ref a), some (.ref l), some (.ref q), some (.ref p), v] ∧ rest.length + j = xs.length ∧ (ys ++ rest).Perm xs ∧ H' q = some (.lst rest) ∧ H' p = some (.lst ys) ∧ ys.length ≤ 1000 ∧ Dr a H H')
      ⟨none, xs, [], rfl, rfl, .refl _, s2 _ _ upd_same, upd_same, by decide, ⟨⟨fx, fy, (s1.trans s2) _ _ ha, hfy⟩, fun b o _ e => (s1.trans s2) _ _ e⟩⟩ ?_ ?_⟩
    · omega
    · omega
    · rintro j σ H2 hj ⟨v, rest, ys, rfl, hlr, hperm, eq, ep, hy, dr⟩
      have hj' : j < xs.length := by omega
      have hrl : 0 < rest.length := by omega
      refine ⟨_, rfl, .inl ⟨rfl, _, SqL.of ep⟩, _, rfl, .inl ⟨rfl, _, SqL.of eq⟩, _, rfl, _, rfl, q, rest, rfl, .inl (SqL.of eq), a, (rest.length : Int), rfl, dr.fd, by omega, (by show (rest.length : Int).natAbs < 2 ^ 200; exact Nat.lt_of_le_of_lt (by omega : (rest.length : Int).natAbs ≤ 1000) (by decide)), fun r H3 r0 r1 d3 => ?_⟩
      have eq3 := d3.sm _ _ nqa eq
      have ep3 := d3.sm _ _ npa ep
      have hk : r.toNat < rest.length := by omega
      have hsi : seqIndex? r rest.length = some r.toNat := by
        unfold seqIndex?
        have e1 : ¬ r < 0 := by omega
        have e2 : (decide (0 ≤ r) && decide (r < (rest.length : Int))) = true := by rw [Bool.and_eq_true]; exact ⟨decide_eq_true r0, decide_eq_true r1⟩
        rw [if_neg e1]
        exact if_pos e2
      refine ⟨q, rest, r, r.toNat, rest[r.toNat], rfl, rfl, eq3, by omega, by omega, hsi, List.getElem?_eq_getElem hk, p, ys, _, rfl, rfl, by rw [upd_ne npq]; exact ep3, by have := sizeLine_eq; omega, ?_⟩
      obtain ⟨gx, gy, ga, gb⟩ := d3.fd
      have npq' : q ≠ p := Ne.symm npq
      refine ⟨_, rest.eraseIdx r.toNat, ys ++ [rest[r.toNat]], rfl, ?_, ?_, ?_, upd_same, ?_, ⟨gx, gy, ?_, gb⟩, fun b o nb e => ?_⟩
      · rw [List.length_eraseIdx_of_lt hk]
        omega
      · refine List.Perm.trans ?_ hperm
        rw [List.append_assoc]
        exact List.Perm.append_left _ (erase_perm _ _ hk)
      · rw [upd_ne npq']
        exact upd_same
      · rw [List.length_append]
        have := hperm.length_eq
        rw [List.length_append] at this
        simp only [List.length_cons, List.length_nil]
        omega
      · rw [upd_ne (Ne.symm npa), upd_ne (Ne.symm nqa)]
        exact ga
      · have n1 : b ≠ p := fun z => by rw [z, hpH] at e; cases e
        have n2 : b ≠ q := fun z => by rw [z, hq] at e; cases e
        rw [upd_ne n1, upd_ne n2]
        exact d3.sm _ _ nb (dr.sm _ _ nb e)
    · rintro σ H2 ⟨v, rest, ys, rfl, hlr, hperm, eq, ep, hy, dr⟩
      have hr0 : rest = [] := List.length_eq_zero_iff.mp (by omega)
      subst hr0
      rw [List.append_nil] at hperm
      exact ⟨_, rfl, k p ys _ hpH dr ep hperm⟩
end
end R61

namespace R61
open PySem L2 L3
open C8 (pss_cut tCut)
section
variable {P : Program} {w : World} {K : PySem.W.Frag} {mg : Str → Option Value} {base : Heap}
abbrev NT : List Str := ["_law_feed_here", "_law_many", "_law_signs", "_law_start", "_law_form", "_law_k"]
theorem scTi : FnScope NT ["_law_feed_here", "_law_many"] (defScope sTitles) := ⟨rfl, rfl, rfl, by decide +kernel, rfl, by decide +kernel, by decide +kernel⟩
def signs : Str := "abcdefghijklmnopqrstuvwxyz0123456789"
def sg (i : Nat) : Str := ⟨#[signs.cps.toList.getD i 0]⟩
theorem signs_len : signs.cps.toList.length = 36 := by decide +kernel
theorem sg_get {i : Nat} (h : i < 36) : signs.cps.toList[i]? = some (signs.cps.toList.getD i 0) := by
  have h2 : i < signs.cps.toList.length := by rw [signs_len]; exact h
  rw [List.getElem?_eq_getElem h2, List.getD_eq_getElem?_getD, List.getElem?_eq_getElem h2]
  rfl
theorem atN {α : Type} {xs : List α} {z : Int} {j : Nat} {v : α} (e : z = (j : Int)) (h : xs[j]? = some v) : atI xs z = some v := by
  rw [e]
  exact atI_nat h
theorem signs_size : signs.length ≤ sizeLine := by decide +kernel
def unstr : V → Str
  | .str t => t
  | _ => Str.empty
theorem perm_strs {ys : List V} {ts : List Str} (h : ys.Perm (ts.map V.str)) : ∃ zs : List Str, zs.Perm ts ∧ ys = zs.map V.str := by
  refine ⟨ys.map unstr, ?_, ?_⟩
  · have e : (ts.map V.str).map unstr = ts := by
      rw [List.map_map]
      exact List.map_id ts
    have q := h.map unstr
    rw [e] at q
    exact q
  · have p : ∀ y ∈ ys, V.str (unstr y) = y := fun y hy => by
      obtain ⟨t, _, rfl⟩ := List.mem_map.mp (h.mem_iff.mp hy)
      rfl
    clear h
    induction ys with
    | nil => rfl
    | cons y r ih =>
      rw [List.map_cons, List.map_cons, p y List.mem_cons_self, ← ih fun z hz => p z (List.mem_cons_of_mem _ hz)]
theorem dr_same {a : Addr} {H H1 H2 : Hp} (d : Dr a H H1) (s : Same H1 H2) : Dr a H H2 := by
  obtain ⟨⟨u, v, hu, hv⟩, sm⟩ := d
  exact ⟨⟨u, v, s _ _ hu, hv⟩, fun b o n e => s _ _ (sm b o n e)⟩
theorem dr_free {a p : Addr} {H H1 : Hp} (d : Dr a H H1) (h : H1 p = none) : H p = none := by
  cases q : H p with
  | none => rfl
  | some o =>
    obtain ⟨⟨u, v, hu, _⟩, sm⟩ := d
    rw [sm p o (fun z => by rw [z, hu] at h; cases h) q] at h
    cases h
theorem cut_strs (zs : List Str) (m : Nat) : cutV (zs.map V.str) none (some (m : Int)) = (zs.take m).map V.str := by
  unfold cutV
  rw [HT.sIx_nat, HT.sIx_none, List.drop_zero, Nat.sub_zero, List.length_map, List.map_take]
  by_cases h : m ≤ zs.length
  · rw [Nat.min_eq_left h]
  · rw [Nat.min_eq_right (by omega), List.take_of_length_le (by rw [List.length_map]; exact Nat.le_refl _), List.take_of_length_le (by rw [List.length_map]; omega)]
theorem strs_succ (f : Nat → Str) (q : Nat) : ((List.range (q + 1)).map f).map V.str = ((List.range q).map f).map V.str ++ [V.str (f q)] := by
  rw [List.range_succ, List.map_append, List.map_append]
  rfl
theorem strs_len (f : Nat → Str) (q : Nat) : (((List.range q).map f).map V.str).length = q := by
  rw [List.length_map, List.length_map, List.length_range]
theorem upd_two (H : Hp) (D : Addr) (o u : HO) : upd (upd H D o) D u = upd H D u := by
  funext b
  by_cases h : b = D
  · rw [h, upd_same, upd_same]
  · rw [upd_ne h, upd_ne h, upd_ne h]
def tx0 (s k : Nat) : Str := sg ((s + k) % 26) ++ Str.ofString (toString ((s : Int) * 7 + (k : Int)))
def tx1 (s k : Nat) : Str := Str.ofString "k" ++ sg ((s + 5 * k) % 36)
def tx2 (s k : Nat) : Str := (Str.ofString "q0zz" ++ sg ((s + k) % 36)) ++ Str.ofString "b"
def tx3 (s k : Nat) : Str := timesS (sg (k % 26)) (1 + (k : Int) / 26 + (s : Int) % 3)
theorem form_fin {m : Nat} {r : Int} (h0 : 0 ≤ r) (h5 : r < 5) : ∃ fm : Nat, fm < 5 ∧ (37 ≤ m → fm = 0) ∧ r * (if decide ((m : Int) < 37) = true then 1 else 0) = (fm : Int) := by
  by_cases h : (m : Int) < 37
  · exact ⟨r.toNat, by omega, fun z => by omega, by rw [decide_eq_true h, if_pos rfl]; omega⟩
  · exact ⟨0, by decide, fun _ => rfl, by rw [decide_eq_false h, if_neg (by decide)]; omega⟩
theorem ifT {c : Bool} {A B : Prop} (h : c = true) (a : A) : if c = true then A else B := by rw [if_pos h]; exact a
theorem ifF {c : Bool} {A B : Prop} (h : c = false) (b : B) : if c = true then A else B := by rw [if_neg (by rw [h]; decide)]; exact b
/-- the promise in general: G says what the texts are -/
def spTitles (G : Nat → List Str → Prop) : Sp := fun vs H Q _ => ∃ (a : Addr) (m : Nat), vs = [.ref a, .int m] ∧ FeedAt H a ∧ m ≤ 40 ∧ ∀ (p : Addr) (ts : List Str) (H' : Hp), H p = none → Dr a H H' → H' p = some (.lst (ts.map V.str)) → G m ts → Q (.ref p) H'
theorem ok_titles {f fT fM : Addr} {fd fdT fdM : FuncData} {G : Nat → List Str → Prop} (F : Fun K "_law_titles" "_law_titles" sTitles f fd) (FT : Fun K "_law_take" "_law_take" sTake fT fdT) (bT : Binds K fdT ["_law_feed_here", "_law_many"] []) (gT : mg "_law_take" = some (.ref fT))
    (FM : Fun K "_law_mixed" "_law_mixed" sMixed fM fdM) (bM : Binds K fdM ["_law_feed_here", "_law_some"] []) (gM : mg "_law_mixed" = some (.ref fM)) (zList : mg "list" = none) (zRng : mg "range" = none) (zLen : mg "len" = none) (zInt : mg "int" = none) (zStr : mg "str" = none)
    (G4 : ∀ (m : Nat) (ts : List Str), m < 5 → ts.Perm [Str.ofString "word", Str.ofString "truth", Str.ofString "number", Str.ofString "none"] → G m (ts.take m)) (G0 : ∀ m s, m ≤ 40 → s < 26 → G m ((List.range m).map (tx0 s)))
    (G1 : ∀ (m s : Nat) (ts : List Str), m < 37 → s < 26 → ts.Perm ((List.range m).map (tx1 s)) → G m ts) (G2 : ∀ (m s : Nat) (ts : List Str), m < 37 → s < 26 → ts.Perm ((List.range m).map (tx2 s)) → G m ts) (G3 : ∀ (m s : Nat) (ts : List Str), m < 37 → s < 26 → ts.Perm ((List.range m).map (tx3 s)) → G m ts) :
    FnOk P w K mg base CX0 3 f fd ["_law_feed_here", "_law_many"] (spTitles G) := by
  have GT : FnOk P w K mg base CX0 1 fT fdT ["_law_feed_here", "_law_many"] spTake := ok_take FT
  have GM : FnOk P w K mg base CX0 2 fM fdM ["_law_feed_here", "_law_some"] (spMixed K) := ok_mixed FM FT bT gT zList zRng zLen
  refine F.ok scTi (fun vs H Q E h => ?_) (fun cdv A outer s H vs Q E hr h => ?_)
  · obtain ⟨a, m, rfl, _⟩ := h
    rfl
  · obtain ⟨a, m, rfl, hf, hm, k⟩ := h
    have R1 : Room 1 _ := hr.mono (by decide)
    have nd := scTi.nd
    refine ⟨_, pss_cons (ps_asg (pe_tup (pa_cons pe_str (pa_cons (pe_call GT R1 (by rfl) gT FT.kp bT .nil pass0 (pa_cons (pv 0) (pa_cons pe_int pa_nil))) pa_nil))) (pg_tup (by rfl) (pgs_cons (pg_name (i := 2) nd rfl (.inr rfl)) (pgs_cons (pg_name (i := 3) nd rfl (.inr rfl)) pgs_nil))))
      (pss_cut (ps_set (i := 4) nd rfl (.inl rfl) (pe_op op_mulW (pe_call GT R1 (by rfl) gT FT.kp bT .nil pass0 (pa_cons (pv 0) (pa_cons pe_int pa_nil))) (pe_callTy call_int1 (by rfl) zInt PyProof.Rows.boot_int (pa_cons (pe_cmpR op_lt (pv 1) pe_int (nomark _)) pa_nil))))
      (pss_cut (ps_if (PW.pt (pw_and (pt_cmpR op_eq (pv 4) pe_int (nomark _)) (pw_and1 (pt_cmpR op_lt (pv 1) pe_int (nomark _))))) (pss_one (ps_ret (pe_slice sl_list (pe_call GM hr (by rfl) gM FM.kp bM .nil pass0 (pa_cons (pv 0) (pa_cons (pe_lst (pa_cons pe_str (pa_cons pe_str (pa_cons pe_str (pa_cons pe_str pa_nil))))) pa_nil))) po_none (po_some (pv 1))))) pss_nil)
      (pss_cons (ps_if (pt_cmpR op_eq (pv 4) pe_int (nomark _)) (pss_one (ps_ret (pe_lc (own := [("_law_k", 5)]) (g := gName 5) (tt := tYes) rfl nd (pi_range1 (by rfl) zRng (pa_cons (pv 1) pa_nil)) (blkOk_by (N := NT) (sc := defScope sTitles) (by decide +kernel)) (fun _ _ _ _ _ => pg_name (i := 5) nd rfl (.inl rfl)) (fun _ _ _ _ _ => pts_nil)
          (fun _ _ _ _ _ => pe_op op_add_str (pe_ix ix_str (pv 2) (pe_op op_mod (pe_op op_add (pv 3) (pv 5)) pe_int) (fun _ _ => rfl)) (pe_callTy call_str_int (by rfl) zStr PyProof.Rows.boot_str (pa_cons (pe_op op_add (pe_op op_mulW (pv 3) pe_int) (pv 5)) pa_nil)))))) pss_nil)
      (pss_cons (ps_if (pt_cmpR op_eq (pv 4) pe_int (nomark _)) (pss_one (ps_ret (pe_call GM hr (by rfl) gM FM.kp bM .nil pass0 (pa_cons (pv 0) (pa_cons (pe_lc (own := [("_law_k", 5)]) (g := gName 5) (tt := tYes) rfl nd (pi_range1 (by rfl) zRng (pa_cons (pv 1) pa_nil)) (blkOk_by (N := NT) (sc := defScope sTitles) (by decide +kernel)) (fun _ _ _ _ _ => pg_name (i := 5) nd rfl (.inl rfl)) (fun _ _ _ _ _ => pts_nil)
          (fun _ _ _ _ _ => pe_op op_add_str pe_str (pe_ix ix_str (pv 2) (pe_op op_mod (pe_op op_add (pv 3) (pe_op op_mulW pe_int (pv 5))) pe_int) (fun _ _ => rfl)))) pa_nil))))) pss_nil)
      (pss_cons (ps_if (pt_cmpR op_eq (pv 4) pe_int (nomark _)) (pss_one (ps_ret (pe_call GM hr (by rfl) gM FM.kp bM .nil pass0 (pa_cons (pv 0) (pa_cons (pe_lc (own := [("_law_k", 5)]) (g := gName 5) (tt := tYes) rfl nd (pi_range1 (by rfl) zRng (pa_cons (pv 1) pa_nil)) (blkOk_by (N := NT) (sc := defScope sTitles) (by decide +kernel)) (fun _ _ _ _ _ => pg_name (i := 5) nd rfl (.inl rfl)) (fun _ _ _ _ _ => pts_nil)
          (fun _ _ _ _ _ => pe_op op_add_str (pe_op op_add_str pe_str (pe_ix ix_str (pv 2) (pe_op op_mod (pe_op op_add (pv 3) (pv 5)) pe_int) (fun _ _ => rfl))) pe_str)) pa_nil))))) pss_nil)
      (pss_one (ps_ret (pe_call GM hr (by rfl) gM FM.kp bM .nil pass0 (pa_cons (pv 0) (pa_cons (pe_lc (own := [("_law_k", 5)]) (g := gName 5) (tt := tYes) rfl nd (pi_range1 (by rfl) zRng (pa_cons (pv 1) pa_nil)) (blkOk_by (N := NT) (sc := defScope sTitles) (by decide +kernel)) (fun _ _ _ _ _ => pg_name (i := 5) nd rfl (.inl rfl)) (fun _ _ _ _ _ => pts_nil)
          (fun _ _ _ _ _ => pe_op op_mulS (pe_ix ix_str (pv 2) (pe_op op_mod (pv 5) pe_int) (fun _ _ => rfl)) (pe_op op_add (pe_op op_add pe_int (pe_op op_fdivW (pv 5) pe_int)) (pe_op op_mod (pv 3) pe_int)))) pa_nil)))))))))), ?_⟩
    refine ⟨_, rfl, a, 26, rfl, hf, by decide, (by show (26 : Int).natAbs < 2 ^ 200; decide), fun st H1 s0 s1 d1 => ⟨(show 2 ≤ sizeLine by decide), fun T hT => ⟨T, _, rfl, SqT.of upd_same, rfl, _, _, rfl, _, _, rfl, rfl, ?_⟩⟩⟩
    have e1 := same_new (o := .tup [.str signs, .int st]) hT
    have d1' : Dr a H (upd H1 T (.tup [.str signs, .int st])) := by
      obtain ⟨u, v, hu, hv⟩ := d1.fd
      exact ⟨⟨u, v, e1 _ _ hu, hv⟩, fun b o n e => e1 _ _ (d1.sm b o n e)⟩
    obtain ⟨S, rfl⟩ : ∃ S : Nat, st = (S : Int) := ⟨st.toNat, by omega⟩
    have hS : S < 26 := by omega
    refine ⟨fun σ H' => ∃ fm : Nat, fm < 5 ∧ (37 ≤ m → fm = 0) ∧ σ = [some (.ref a), some (.int m), some (.str signs), some (.int (S : Int)), some (.int (fm : Int)), none] ∧ Dr a H H', ?_, ?_⟩
    · refine ⟨_, rfl, a, 5, rfl, d1'.fd, by decide, (by show (5 : Int).natAbs < 2 ^ 200; decide), fun r H2 r0 r1 d2 => ?_⟩
      obtain ⟨fm, hf5, h37, efm⟩ := form_fin (m := m) r0 r1
      refine ⟨_, rfl, _, _, rfl, rfl, .inr ⟨_, rfl, _, _, rfl, rfl, Sm.mulW (n := 3) (m := 1) (by show r.natAbs < 8; omega) (by show (ite _ _ _ : Int).natAbs < 2; split <;> decide) (by decide) (by decide) (by decide), fm, hf5, h37, ?_, ⟨d2.fd, fun b o n e => d2.sm b o n (d1'.sm b o n e)⟩⟩⟩
      exact congrArg (fun z : Int => ([some (.ref a), some (.int m), some (.str signs), some (.int (S : Int)), some (.int z), none] : List (Option V))) efm
    · rintro σ H2 ⟨fm, hfm, h37, rfl, d2⟩
      refine ⟨fun σ H' => σ = [some (.ref a), some (.int m), some (.str signs), some (.int (S : Int)), some (.int (fm : Int)), none] ∧ H' = H2, ?_, ?_⟩
      · refine ⟨_, rfl, rfl, _, rfl, ?_⟩
        by_cases h4 : fm = 4
        · subst h4
          refine ifT (by decide) ⟨_, rfl, _, _, rfl, rfl, _, rfl, ?_⟩
          by_cases h5 : (m : Int) < 5
          · refine ifT (decide_eq_true h5) ?_
            refine ⟨_, rfl, (show 4 ≤ sizeLine by decide), fun l hl => ⟨a, l, _, rfl, (dr_same d2 (same_new hl)).fd, .inl (SqL.of upd_same), (show 4 ≤ 1000 by decide), fun p ys H4 hp d4 ep pm => ?_⟩⟩
            obtain ⟨zs, hz, rfl⟩ := perm_strs (ts := [Str.ofString "word", Str.ofString "truth", Str.ofString "number", Str.ofString "none"]) pm
            refine ⟨_, rfl, _, rfl, p, _, rfl, SqL.of ep, fun p2 hp2 => ?_⟩
            have dA : Dr a H H4 := (dr_same d2 (same_new hl)).trans d4
            exact k p2 (zs.take m) _ (dr_free dA hp2) (dr_same dA (same_new hp2)) (by rw [upd_same, cut_strs]) (G4 m zs (by omega) hz)
          · exact ifF (decide_eq_false h5) ⟨rfl, rfl⟩
        · refine ifF (decide_eq_false fun e => h4 (by injection e with e; omega)) ?_
          exact ifF rfl ⟨rfl, rfl⟩
      · rintro σ H3 ⟨rfl, rfl⟩
        refine ⟨_, rfl, rfl, _, rfl, ?_⟩
        by_cases h0 : fm = 0
        · refine ifT (decide_eq_true (by rw [h0]; rfl)) ?_
          refine ⟨_, rfl, (m : Int), rfl, by omega, by omega, fun D hD => lc_range (fun q H' => H' = upd H3 D (.lst (((List.range q).map (tx0 S)).map V.str))) rfl ?_ ?_⟩
          · rintro q H7 hq rfl
            have hq' : q < 40 := by omega
            have hlog : ((S : Int) * 7 + (0 + (q : Int))).natAbs.log2 < 1920 := Sm.log (n := 10) (by show Int.natAbs _ < 1024; omega) (by decide) (by decide)
            refine ⟨rfl, _, rfl, _, rfl, _, rfl, _, _, rfl, rfl, _, _, rfl, rfl, (by show (0 : Int) < 26; decide), signs, _, _, rfl, rfl, signs_size, atN (j := (S + q) % 26) (by omega) (sg_get (by omega)), _, rfl, _, _, rfl, rfl, (show Sm 5 (S : Int) by show (S : Int).natAbs < 32; omega).mulW (m := 3) (by decide) (by decide) (by decide) (by decide), _, rfl, _, _, rfl, rfl, _, rfl, hlog, _, _, rfl, rfl, Nat.le_trans (Nat.add_le_add (show (sg ((S + q) % 26)).length ≤ 1 from Nat.le_refl 1) (PyProof.Rows.int_text_len_1921 hlog)) (show 1 + 1921 ≤ sizeLine by decide), _, upd_same, by rw [strs_len]; exact Nat.lt_of_lt_of_le hq' (by decide), ?_⟩
            rw [upd_two, strs_succ]
            show upd H3 D (.lst (_ ++ [V.str (sg ((S + q) % 26) ++ Str.ofString (toString ((S : Int) * 7 + (0 + (q : Int)))))])) = _
            rw [Int.zero_add]
            rfl
          · rintro H7 rfl
            exact k D _ _ (dr_free d2 hD) (dr_same d2 (same_new hD)) upd_same (G0 m S hm hS)
        refine ifF (decide_eq_false fun e => h0 (by injection e with e; omega)) ⟨_, rfl, rfl, _, rfl, ?_⟩
        have hm37 : m < 37 := by omega
        by_cases h1 : fm = 1
        · refine ifT (decide_eq_true (by rw [h1]; rfl)) ?_
          refine ⟨_, rfl, _, rfl, (m : Int), rfl, by omega, by omega, fun D hD => lc_range (fun q H' => H' = upd H3 D (.lst (((List.range q).map (tx1 S)).map V.str))) rfl ?_ ?_⟩
          · rintro q H7 hq rfl
            have hq' : q < 40 := by omega
            refine ⟨rfl, _, rfl, _, rfl, _, rfl, _, _, rfl, rfl, (show Sm 3 5 by decide).mulW (m := 6) (show (0 + (q : Int)).natAbs < 64 by omega) (by decide) (by decide) (by decide), _, _, rfl, rfl, _, _, rfl, rfl, (by show (0 : Int) < 36; decide), signs, _, _, rfl, rfl, signs_size, atN (j := (S + 5 * q) % 36) (by omega) (sg_get (by omega)), _, _, rfl, rfl, (show (Str.ofString "k").length + 1 ≤ sizeLine by decide +kernel), _, upd_same, by rw [strs_len]; exact Nat.lt_of_lt_of_le hq' (by decide), ?_⟩
            rw [upd_two, strs_succ]
            rfl
          · rintro H7 rfl
            refine ⟨a, D, _, rfl, (dr_same d2 (same_new hD)).fd, .inl (SqL.of upd_same), Nat.le_trans (Nat.le_of_eq (strs_len _ _)) (by omega), fun p ys H4 hp d4 ep pm => ?_⟩
            obtain ⟨zs, hz, rfl⟩ := perm_strs pm
            have dA : Dr a H H4 := (dr_same d2 (same_new hD)).trans d4
            exact k p zs _ (dr_free (dr_same d2 (same_new hD)) hp) dA ep (G1 m S zs hm37 hS hz)
        refine ifF (decide_eq_false fun e => h1 (by injection e with e; omega)) ⟨_, rfl, rfl, _, rfl, ?_⟩
        by_cases h2 : fm = 2
        · refine ifT (decide_eq_true (by rw [h2]; rfl)) ?_
          refine ⟨_, rfl, _, rfl, (m : Int), rfl, by omega, by omega, fun D hD => lc_range (fun q H' => H' = upd H3 D (.lst (((List.range q).map (tx2 S)).map V.str))) rfl ?_ ?_⟩
          · rintro q H7 hq rfl
            have hq' : q < 40 := by omega
            have len2 : (Str.ofString "q0zz" ++ sg ((S + q) % 36)).length + (Str.ofString "b").length ≤ sizeLine := by
              rw [len_app]
              show (Str.ofString "q0zz").length + 1 + (Str.ofString "b").length ≤ sizeLine
              decide +kernel
            refine ⟨rfl, _, rfl, _, rfl, _, rfl, _, _, rfl, rfl, _, _, rfl, rfl, (by show (0 : Int) < 36; decide), signs, _, _, rfl, rfl, signs_size, atN (j := (S + q) % 36) (by omega) (sg_get (by omega)), _, _, rfl, rfl, (show (Str.ofString "q0zz").length + 1 ≤ sizeLine by decide +kernel), _, _, rfl, rfl, len2, _, upd_same, by rw [strs_len]; exact Nat.lt_of_lt_of_le hq' (by decide), ?_⟩
            rw [upd_two, strs_succ]
            rfl
          · rintro H7 rfl
            refine ⟨a, D, _, rfl, (dr_same d2 (same_new hD)).fd, .inl (SqL.of upd_same), Nat.le_trans (Nat.le_of_eq (strs_len _ _)) (by omega), fun p ys H4 hp d4 ep pm => ?_⟩
            obtain ⟨zs, hz, rfl⟩ := perm_strs pm
            have dA : Dr a H H4 := (dr_same d2 (same_new hD)).trans d4
            exact k p zs _ (dr_free (dr_same d2 (same_new hD)) hp) dA ep (G2 m S zs hm37 hS hz)
        refine ifF (decide_eq_false fun e => h2 (by injection e with e; omega)) ?_
        refine ⟨_, rfl, _, rfl, (m : Int), rfl, by omega, by omega, fun D hD => lc_range (fun q H' => H' = upd H3 D (.lst (((List.range q).map (tx3 S)).map V.str))) rfl ?_ ?_⟩
        · rintro q H7 hq rfl
          have hq' : q < 40 := by omega
          have low1 : -(2 ^ 62) < 1 + (0 + (q : Int)) / 26 + (S : Int) % 3 := by omega
          have hhi : 1 + (0 + (q : Int)) / 26 + (S : Int) % 3 < 2 ^ 20 := by omega
          have one16 : (sg (q % 26)).length < 16 := Nat.lt_of_le_of_lt (Nat.le_refl 1) (by decide)
          refine ⟨rfl, _, rfl, _, rfl, _, _, rfl, rfl, (by show (0 : Int) < 26; decide), signs, _, _, rfl, rfl, signs_size, atN (j := q % 26) (by omega) (sg_get (by omega)), _, rfl, _, _, rfl, rfl, ⟨by decide, by decide⟩, _, _, rfl, rfl, _, rfl, _, _, rfl, rfl, (by show (0 : Int) < 3; decide), _, _, rfl, rfl, _, _, rfl, rfl, low1, .inr ⟨hhi, one16⟩, _, upd_same, by rw [strs_len]; exact Nat.lt_of_lt_of_le hq' (by decide), ?_⟩
          rw [upd_two, strs_succ]
          show upd H3 D (.lst (_ ++ [V.str (timesS (sg (q % 26)) (1 + (0 + (q : Int)) / 26 + (S : Int) % 3))])) = _
          rw [Int.zero_add]
          rfl
        · rintro H7 rfl
          refine ⟨a, D, _, rfl, (dr_same d2 (same_new hD)).fd, .inl (SqL.of upd_same), Nat.le_trans (Nat.le_of_eq (strs_len _ _)) (by omega), fun p ys H4 hp d4 ep pm => ?_⟩
          obtain ⟨zs, hz, rfl⟩ := perm_strs pm
          have dA : Dr a H H4 := (dr_same d2 (same_new hD)).trans d4
          exact k p zs _ (dr_free (dr_same d2 (same_new hD)) hp) dA ep (G3 m S zs hm37 hS hz)
end
end R61

namespace R61
open PySem L2 L3
open C8 (pss_cut tCut pe_gc)
abbrev sIsName : Stmt := top 8
/-! ### is_name -/
def letters : Str := "abcdefghijklmnopqrstuvwxyz"
def digits : Str := "0123456789"
def isNameS (z : Str) : Bool := (decide (1 ≤ z.cps.toList.length) && decide (z.cps.toList.length ≤ 6)) && ((match z.cps.toList with | c :: _ => decide (c ∈ letters.cps.toList) | [] => false) && z.cps.toList.all fun c => decide (c ∈ letters.cps.toList) || decide (c ∈ digits.cps.toList))
/-- what the values' defs may be asked: a text, or what is no text by its class -/
def spIsName (K : PySem.W.Frag) : Sp := fun vs H Q _ => ∃ x : V, vs = [x] ∧ ((∃ z, x = .str z ∧ z.length ≤ 100000 ∧ ∀ H', Same H H' → Q (.bl (isNameS z)) H') ∨ (∃ t, TyX K H x t ∧ PySem.W.kitOne K t (.type "str") = some false ∧ Q (.bl false) H))
def signB (c : Nat) : Bool := decide (c ∈ letters.cps.toList) || decide (c ∈ digits.cps.toList)
theorem bl_take {l : List Nat} {i c : Nat} (h : l[i]? = some c) : ((l.take (i + 1)).map signB).map V.bl = ((l.take i).map signB).map V.bl ++ [V.bl (signB c)] := by
  rw [List.take_add_one, h, List.map_append, List.map_append]
  rfl
section
variable {P : Program} {w : World} {K : PySem.W.Frag} {mg : Str → Option Value} {base : Heap}
abbrev NN : List Str := ["value", "sign"]
theorem scNa : FnScope NN ["value"] (defScope sIsName) := ⟨rfl, rfl, rfl, by decide +kernel, rfl, by decide +kernel, by decide +kernel⟩
theorem ok_isname {f : Addr} {fd : FuncData} (F : Fun K "is_name" "is_name" sIsName f fd) (zIsi : mg "isinstance" = none) (zStr : mg "str" = none) (zLen : mg "len" = none) (zAll : mg "all" = none) (gL : ∃ u, mg "LETTERS" = some u ∧ RelV (.str letters) u) (gD : ∃ u, mg "DIGITS" = some u ∧ RelV (.str digits) u)
    (gM : ∃ u, mg "MOST_SIGNS" = some u ∧ RelV (.int 6) u) (kS : PySem.W.kitOne K (.type "str") (.type "str") = some true) : FnOk P w K mg base CX0 1 f fd ["value"] (spIsName K) := by
  refine F.ok scNa (fun vs H Q E h => ?_) (fun cdv A outer s H vs Q E hr h => ?_)
  · obtain ⟨x, rfl, _⟩ := h
    rfl
  · obtain ⟨x, rfl, h⟩ := h
    have nd := scNa.nd
    refine ⟨_, pss_cons (ps_if (PW.pt (pw_or (pt_not (pt_val (pe_callB call_isi (by rfl) zIsi PyProof.Rows.boot_isinstance (pa_cons (pv 0) (pa_cons (pe_bltn (v := .ty "str") (by rfl) zStr PyProof.Rows.boot_str rfl) pa_nil)))))
        (pw_or1 (pt_not (pt_chain op_le op_le pe_int (pe_callB call_len (by rfl) zLen PySem.boot_len (pa_cons (pv 0) pa_nil)) (pe_gc (v := .int 6) (by rfl) gM)))))) (pss_one (ps_ret pe_bl)) pss_nil)
      (pss_one (ps_ret (pe_and (pe_cmpR op_in_sign (pe_ix ix_str (pv 0) pe_int (fun _ _ => rfl)) (pe_gc (v := .str letters) (by rfl) gL) (by rfl))
        (pe_one (pe_callB (cr_all rfl) (by rfl) zAll (by decide +kernel) (pa_cons (pe_lc (own := [("sign", 1)]) (g := gName 1) (tt := tYes) rfl nd (pi_str (pv 0)) (blkOk_by (N := NN) (sc := defScope sIsName) (by decide +kernel)) (fun _ _ _ _ _ => pg_name (i := 1) nd rfl (.inl rfl)) (fun _ _ _ _ _ => pts_nil)
          (fun _ _ _ _ _ => pe_or (pe_cmpR op_in_sign (pv 1) (pe_gc (v := .str letters) (by rfl) gL) (by rfl)) (pe_one (pe_cmpR op_in_sign (pv 1) (pe_gc (v := .str digits) (by rfl) gD) (by rfl))))) pa_nil)))))), ?_⟩
    rcases h with ⟨z, rfl, hz, k⟩ | ⟨t, ty, kt, k⟩
    · have hsz : z.length ≤ sizeLine := size_ok hz
      have hl : z.cps.toList.length = z.length := Array.length_toList
      refine ⟨_, rfl, .str z, .ty "str", .type "str", .type "str", true, rfl, .ty _, .base (.str z), kS, _, rfl, ifF rfl ?_⟩
      refine ⟨_, rfl, _, _, rfl, ⟨hsz, rfl⟩, _, _, rfl, rfl, _, rfl, ?_⟩
      by_cases h1 : (1 : Int) ≤ (z.length : Int)
      · refine ifT (decide_eq_true h1) ⟨_, _, rfl, rfl, _, rfl, ?_⟩
        by_cases h6 : (z.length : Int) ≤ 6
        · refine ifF (by rw [decide_eq_true h6]; rfl) ?_
          have hpos : 0 < z.cps.toList.length := by omega
          obtain ⟨c, r, hcr⟩ : ∃ c r, z.cps.toList = c :: r := by
            cases q : z.cps.toList with
            | nil => rw [q] at hpos; cases hpos
            | cons c r => exact ⟨c, r, rfl⟩
          have hc0 : z.cps.toList[0]? = some c := by rw [hcr]; rfl
          have en : isNameS z = (decide (c ∈ letters.cps.toList) && z.cps.toList.all signB) := by
            unfold isNameS
            rw [hl, decide_eq_true (by omega : 1 ≤ z.length), decide_eq_true (by omega : z.length ≤ 6), Bool.true_and, Bool.true_and]
            rw [hcr]
            rfl
          refine ⟨_, rfl, z, 0, c, rfl, rfl, hsz, atN (j := 0) rfl hc0, _, _, rfl, rfl, _, rfl, ?_⟩
          by_cases hc : c ∈ letters.cps.toList
          · refine ifT (decide_eq_true hc) ⟨_, rfl, z, rfl, fun D hD => lc_it walk_str (fun i H' => H' = upd H D (.lst (((z.cps.toList.take i).map signB).map V.bl))) rfl (fun _ _ _ _ => True.intro) ?_ ?_⟩
            · rintro i x H7 H8 hi rfl ⟨rfl, d, hd, rfl⟩
              have hd2 : z.cps.toList[i]? = some d := by rw [Array.getElem?_toList]; exact hd
              have fin : ∀ y : V, y = V.bl (signB d) → ∃ acc, (upd H D (.lst (((z.cps.toList.take i).map signB).map V.bl))) D = some (.lst acc) ∧ acc.length < sizeLine ∧ upd (upd H D (.lst (((z.cps.toList.take i).map signB).map V.bl))) D (.lst (acc ++ [y])) = upd H D (.lst (((z.cps.toList.take (i + 1)).map signB).map V.bl)) := by
                rintro y rfl
                refine ⟨_, upd_same, ?_, by rw [upd_two, bl_take hd2]⟩
                rw [List.length_map, List.length_map, List.length_take]
                have := sizeLine_eq
                omega
              refine ⟨rfl, _, rfl, d, letters, rfl, rfl, _, rfl, ?_⟩
              by_cases hd3 : d ∈ letters.cps.toList
              · exact ifT (decide_eq_true hd3) (fin _ (by unfold signB; rw [decide_eq_true hd3, Bool.true_or]))
              · refine ifF (decide_eq_false hd3) ⟨_, rfl, d, digits, rfl, rfl, fin _ ?_⟩
                unfold signB
                rw [decide_eq_false hd3, Bool.false_or]
            · rintro H7 rfl
              have et : (z.cps.toList.take z.cps.size) = z.cps.toList := List.take_of_length_le (by rw [Array.length_toList]; exact Nat.le_refl _)
              rw [et]
              refine ⟨D, _, rfl, SqL.of upd_same, ?_⟩
              have q := k _ (same_new (o := .lst ((z.cps.toList.map signB).map V.bl)) hD)
              rw [en, decide_eq_true hc, Bool.true_and] at q
              have ea : (z.cps.toList.map signB).all id = z.cps.toList.all signB := by rw [List.all_map]; rfl
              rw [ea]
              exact q
          · refine ifF (decide_eq_false hc) ?_
            have q := k H (Same.refl H)
            rw [en, decide_eq_false hc, Bool.false_and] at q
            exact q
        · refine ifT (by rw [decide_eq_false h6]; rfl) ?_
          have e : isNameS z = false := by
            unfold isNameS
            rw [hl, decide_eq_false (by omega : ¬ z.length ≤ 6), Bool.and_false, Bool.false_and]
          have q := k H (Same.refl H)
          rw [e] at q
          exact q
      · refine ifF (decide_eq_false h1) ⟨_, rfl, ifT rfl ?_⟩
        have e : isNameS z = false := by
          unfold isNameS
          rw [hl, decide_eq_false (by omega : ¬ 1 ≤ z.length), Bool.false_and, Bool.false_and]
        have q := k H (Same.refl H)
        rw [e] at q
        exact q
    · refine ⟨_, rfl, x, .ty "str", t, .type "str", false, rfl, .ty _, ty, kt, _, rfl, ifT rfl ?_⟩
      exact ifT rfl k
end
end R61

namespace R61
open PySem L2 L3
open C8 (pss_cut tCut pe_gc)
abbrev sWith : Stmt := top 10
/-! ### with_tuples: by how deep the data is -/
def spWith (K : PySem.W.Frag) : Nat → Sp
  | 0 => fun _ _ _ _ => False
  | n + 1 => fun vs H Q _ => ∃ (x : V) (d : PyData), vs = [x] ∧ Dp K H x d ∧ d.depth ≤ n ∧ wide d = true ∧ ∀ v H', Same H H' → Dp K H' v (tupD d) → Q v H'
abbrev NW : List Str := ["value", "part"]
structure KitW (K : PySem.W.Frag) : Prop where
  n : PySem.W.kitAny K (.type "NoneType") [.type "list", .type "tuple"] = some false
  b : PySem.W.kitAny K (.type "bool") [.type "list", .type "tuple"] = some false
  i : PySem.W.kitAny K (.type "int") [.type "list", .type "tuple"] = some false
  s : PySem.W.kitAny K (.type "str") [.type "list", .type "tuple"] = some false
  l : PySem.W.kitAny K (.type "list") [.type "list", .type "tuple"] = some true
  t : PySem.W.kitAny K (.type "tuple") [.type "list", .type "tuple"] = some true
section
variable {P : Program} {w : World} {K : PySem.W.Frag} {mg : Str → Option Value} {base : Heap}
theorem scWi : FnScope NW ["value"] (defScope sWith) := ⟨rfl, rfl, rfl, by decide +kernel, rfl, by decide +kernel, by decide +kernel⟩
theorem ok_with {f : Addr} {fd : FuncData} (F : Fun K "with_tuples" "with_tuples" sWith f fd) (b : Binds K fd ["value"] []) (g : mg "with_tuples" = some (.ref f)) (T : KitW K) (zIsi : mg "isinstance" = none) (zTup : mg "tuple" = none) (zLst : mg "list" = none) :
    ∀ n, FnOk P w K mg base CX0 n f fd ["value"] (spWith K n)
  | 0 => ⟨fun _ _ _ _ h => h.elim, fun _ _ _ _ _ _ _ _ _ _ _ _ _ h => h.elim⟩
  | n + 1 => by
    have ih := ok_with F b g T zIsi zTup zLst n
    refine F.ok scWi (fun vs H Q E h => ?_) (fun cdv A outer s H vs Q E hr h => ?_)
    · obtain ⟨x, d, rfl, _⟩ := h
      rfl
    · obtain ⟨x, d, rfl, hd, hn, hw, k⟩ := h
      have nd := scWi.nd
      refine ⟨_, pss_cons (ps_if (pt_val (pe_callB call_isiT (by rfl) zIsi PyProof.Rows.boot_isinstance (pa_cons (pv 0) (pa_cons (pe_tup (pa_cons (pe_bltn (v := .ty "list") (by rfl) zLst PyProof.Rows.boot_list rfl) (pa_cons (pe_bltn (v := .ty "tuple") (by rfl) zTup (by decide +kernel) rfl) pa_nil))) pa_nil))))
          (pss_one (ps_ret (pe_callTy call_tuple_of (by rfl) zTup (by decide +kernel) (pa_cons (pe_lc (own := [("part", 1)]) (g := gName 1) (tt := tYes) rfl nd (pi_seq (pv 0)) (blkOk_by (N := NW) (sc := defScope sWith) (by decide +kernel))
            (fun _ _ _ _ _ => pg_name (i := 1) nd rfl (.inl rfl)) (fun _ _ _ _ _ => pts_nil) (fun _ _ _ _ _ => pe_call ih hr (by rfl) g F.kp b .nil pass0 (pa_cons (pv 1) pa_nil))) pa_nil)))) pss_nil)
        (pss_one (ps_ret (pv 0))), ?_⟩
      refine ⟨_, rfl, (by show 2 ≤ sizeLine; decide), fun tp htp => ?_⟩
      have s1 := same_new (o := .tup [V.ty "list", V.ty "tuple"]) htp
      have hd1 := L3.Dp.same s1 hd
      have etp : (upd H tp (.tup [V.ty "list", V.ty "tuple"])) tp = some (.tup [V.ty "list", V.ty "tuple"]) := upd_same
      generalize upd H tp (.tup [V.ty "list", V.ty "tuple"]) = H1 at s1 hd1 etp ⊢
      -- what a row of either kind becomes
      have rows : ∀ (xs : List V) (ds : List PyData), DpAll K H1 xs ds → PyData.depthAll ds + 1 ≤ n → ds.length ≤ 1000 → wides ds = true → (∀ v H', Same H H' → Dp K H' v (.tuple (tupDs ds)) → Q v H') →
          ∀ D, H1 D = none → ∃ Pv : Nat → Hp → Prop, Pv 0 (upd H1 D (.lst [])) ∧ (∀ j H', Pv j H' → Same H1 H') ∧
            (∀ j x H2, j < xs.length → Pv j H2 → xs[j]? = some x → spWith K n [x] H2 (fun v H3 => ∃ acc, H3 D = some (.lst acc) ∧ acc.length < sizeLine ∧ Pv (j + 1) (upd H3 D (.lst (acc ++ [v])))) E0) ∧
            (∀ H2, Pv xs.length H2 → ∃ ys, SqL K H2 D ys ∧ ∀ l, H2 l = none → Q (.ref l) (upd H2 l (.tup ys))) := by
        intro xs ds ha hn hl hw k D hD
        obtain ⟨lx, gx⟩ := L3.DpAll.get ha
        have lsz := sizeLine_eq
        refine ⟨fun j H' => ∃ vs, H' D = some (.lst vs) ∧ DpAll K H' vs (tupDs (ds.take j)) ∧ Same H1 H', ⟨[], upd_same, by rw [List.take_zero, tupDs]; exact .nil, same_new hD⟩, fun j H' h => h.choose_spec.2.2, ?_, ?_⟩
        · rintro j x H2 hj ⟨vs, eD, av, s2⟩ hx
          obtain ⟨d, hd, dx⟩ := gx j x hx
          have md := List.mem_of_getElem? hd
          obtain ⟨m, rfl⟩ : ∃ m, n = m + 1 := ⟨n - 1, by omega⟩
          refine ⟨x, d, rfl, L3.Dp.same s2 dx, depth_mem (n := m) (by omega) d md, wides_mem hw d md, fun v H3 s3 dv => ?_⟩
          have eD3 := s3 _ _ eD
          have lv : vs.length = (ds.take j).length := by
            have := (L3.DpAll.get av).1
            rw [tupDs_map, List.length_map] at this
            exact this
          rw [List.length_take] at lv
          have off := sqT_off (K := K) (u := .lst (vs ++ [v])) eD3
          have av3 : DpAll K H3 vs (tupDs (ds.take j)) := dpTs_keep (fun _ _ q => L3.Same.seqT s3 q) _ _ av
          have av4 := dpTs_keep off _ _ av3
          have dv4 := dpT_keep off d v dv
          refine ⟨vs, eD3, by omega, vs ++ [v], upd_same, ?_, fun b o e => ?_⟩
          · rw [List.take_add_one, hd]
            have e : tupDs (ds.take j ++ [d]) = tupDs (ds.take j) ++ [tupD d] := by rw [tupDs_map, tupDs_map, List.map_append]; rfl
            show DpAll K _ (vs ++ [v]) (tupDs (ds.take j ++ [d]))
            rw [e]
            exact L3.DpAll.snoc av4 dv4
          · rw [upd_ne (ne_of_none e hD)]
            exact s3 _ _ (s2 _ _ e)
        · rintro H2 ⟨vs, eD, av, s2⟩
          rw [lx, List.take_of_length_le (Nat.le_refl ds.length)] at av
          refine ⟨vs, SqL.of eD, fun l hl => ?_⟩
          have sl := same_new (o := .tup vs) hl
          exact k _ _ ((s1.trans s2).trans sl) (.tup (SqT.of upd_same) (dpTs_keep (fun _ _ q => L3.Same.seqT sl q) _ _ av))
      have two : Paired ClsV [V.ty "list", V.ty "tuple"] [.type "list", .type "tuple"] := .cons (.ty _) (.cons (.ty _) .nil)
      have ty := ty_dp hd1
      cases hd1 with
      | non => exact ⟨_, tp, _, _, _, false, rfl, etp, two, ty, T.n, _, rfl, ifF rfl ⟨_, rfl, k _ _ s1 .non⟩⟩
      | bl b => exact ⟨_, tp, _, _, _, false, rfl, etp, two, ty, T.b, _, rfl, ifF rfl ⟨_, rfl, k _ _ s1 (.bl b)⟩⟩
      | int i => exact ⟨_, tp, _, _, _, false, rfl, etp, two, ty, T.i, _, rfl, ifF rfl ⟨_, rfl, k _ _ s1 (.int i)⟩⟩
      | str z => exact ⟨_, tp, _, _, _, false, rfl, etp, two, ty, T.s, _, rfl, ifF rfl ⟨_, rfl, k _ _ s1 (.str z)⟩⟩
      | @lst a xs ds hs ha =>
        rw [PyData.depth] at hn
        rw [wide, Bool.and_eq_true, decide_eq_true_eq] at hw
        refine ⟨_, tp, _, _, _, true, rfl, etp, two, ty, T.l, _, rfl, ifT rfl ⟨_, rfl, a, rfl, .inl ⟨⟨xs, hs⟩, fun D hD => ?_⟩⟩⟩
        obtain ⟨Pv, p0, ps, pn, pe⟩ := rows xs ds ha (by omega) hw.1 hw.2 (fun v H' s' q => k v H' s' (by rw [tupD]; exact q)) D hD
        refine lc_it walk_list Pv p0 (fun j H' _ h => (ps j H' h).seq hs) (fun j x H2 H3 hj h y => ?_) (fun H2 h => ?_)
        · obtain ⟨rfl, hx⟩ := y
          exact ⟨rfl, _, rfl, pn j x _ hj h hx⟩
        · obtain ⟨ys, e, q⟩ := pe H2 h
          exact ⟨D, ys, rfl, .inl ⟨e, q⟩⟩
      | @tup a xs ds hs ha =>
        rw [PyData.depth] at hn
        rw [wide, Bool.and_eq_true, decide_eq_true_eq] at hw
        refine ⟨_, tp, _, _, _, true, rfl, etp, two, ty, T.t, _, rfl, ifT rfl ⟨_, rfl, a, rfl, .inr ⟨⟨xs, hs⟩, fun D hD => ?_⟩⟩⟩
        obtain ⟨Pv, p0, ps, pn, pe⟩ := rows xs ds ha (by omega) hw.1 hw.2 (fun v H' s' q => k v H' s' (by rw [tupD]; exact q)) D hD
        refine lc_it walk_tup Pv p0 (fun j H' _ h => L3.Same.seqT (ps j H' h) hs) (fun j x H2 H3 hj h y => ?_) (fun H2 h => ?_)
        · obtain ⟨rfl, hx⟩ := y
          exact ⟨rfl, _, rfl, pn j x _ hj h hx⟩
        · obtain ⟨ys, e, q⟩ := pe H2 h
          exact ⟨D, ys, rfl, .inl ⟨e, q⟩⟩
end
end R61

namespace R61
open PySem L2 L3
open C8 (pss_cut tCut pe_gc)
abbrev sPick : Stmt := top 20
abbrev sThaw : Stmt := top 25



section
variable {P : Program} {w : World} {K : PySem.W.Frag} {mg : Str → Option Value} {base : Heap}
@[irreducible] def spPick (K : PySem.W.Frag) : Sp := fun vs H Q _ => ∃ (a l : Addr) (xs : List V), vs = [.ref a, .ref l] ∧ FeedAt H a ∧ Ls K (fun b => b = a) H l xs ∧ xs ≠ [] ∧ xs.length ≤ 1000 ∧ ∀ (i : Nat) (x : V) (H' : Hp), xs[i]? = some x → Dr a H H' → Q x H'
theorem scPi : FnScope ["_law_feed_here", "_law_some"] ["_law_feed_here", "_law_some"] (defScope sPick) := ⟨rfl, rfl, rfl, by decide +kernel, rfl, by decide +kernel, by decide +kernel⟩
theorem ok_pick {f fT : Addr} {fd fdT : FuncData} (F : Fun K "_law_pick" "_law_pick" sPick f fd) (FT : Fun K "_law_take" "_law_take" sTake fT fdT) (bT : Binds K fdT ["_law_feed_here", "_law_many"] []) (gT : mg "_law_take" = some (.ref fT)) (zLen : mg "len" = none) :
    FnOk P w K mg base CX0 2 f fd ["_law_feed_here", "_law_some"] (spPick K) := by
  have GT : FnOk P w K mg base CX0 1 fT fdT ["_law_feed_here", "_law_many"] spTake := ok_take FT
  refine F.ok scPi (fun vs H Q E h => ?_) (fun cdv A outer s H vs Q E hr h => ?_)
  · unfold spPick at h
    obtain ⟨a, l, xs, rfl, _⟩ := h
    rfl
  · unfold spPick at h
    obtain ⟨a, l, xs, rfl, hf, hl, hx, hn, k⟩ := h
    refine ⟨_, pss_one (ps_ret (pe_ix ix_list (pv 1) (pe_call GT hr (by rfl) gT FT.kp bT .nil pass0 (pa_cons (pv 0) (pa_cons (pe_callB call_len_seq (by rfl) zLen PySem.boot_len (pa_cons (pv 1) pa_nil)) pa_nil))) (fun _ _ => rfl))), ?_⟩
    have pos : 0 < xs.length := List.length_pos_iff.mpr hx
    refine ⟨_, rfl, _, rfl, _, rfl, l, xs, rfl, .inl (hl H (Off.refl _ H)), a, _, rfl, hf, by omega, Nat.lt_of_le_of_lt (show ((xs.length : Int)).natAbs ≤ 1000 by omega) (by decide), fun r H1 r0 r1 d => ?_⟩
    obtain ⟨n, rfl⟩ : ∃ n : Nat, r = n := ⟨r.toNat, by omega⟩
    have hi : n < xs.length := by omega
    exact ⟨l, xs, _, xs[n], rfl, rfl, hl H1 (dr_off rfl d), atI_nat (List.getElem?_eq_getElem hi), k n _ H1 (List.getElem?_eq_getElem hi) d⟩
/-! ### tuples thawed: some of them made lists -/
def spThaw (K : PySem.W.Frag) : Nat → Sp
  | 0 => fun _ _ _ _ => False
  | n + 1 => fun vs H Q _ => ∃ (a : Addr) (B : Addr → Prop) (x : V) (d : PyData), vs = [.ref a, x] ∧ FeedAt H a ∧ B a ∧ (∀ b, B b → H b ≠ none) ∧ Sd K B H x d ∧ good d = true ∧ d.depth ≤ n ∧
      ∀ v e H', Dr a H H' → Sd K B H' v e → tupD e = d → e.depth ≤ d.depth → wide e = true → (∀ ds, d = .tuple ds → ∃ p vs es, v = .ref p ∧ H p = none ∧ SdAll K B H' vs es ∧ tupDs es = ds ∧ (H' p = some (.tup vs) ∨ H' p = some (.lst vs))) → Q v H'
abbrev NTh : List Str := ["_law_feed_here", "_law_thing", "_law_found", "_law_inner"]
theorem scTh : FnScope NTh ["_law_feed_here", "_law_thing"] (defScope sThaw) := ⟨rfl, rfl, rfl, by decide +kernel, rfl, by decide +kernel, by decide +kernel⟩
theorem ok_thaw {f fT : Addr} {fd fdT : FuncData} (F : Fun K "_law_thawed" "_law_thawed" sThaw f fd) (b : Binds K fd ["_law_feed_here", "_law_thing"] []) (g : mg "_law_thawed" = some (.ref f))
    (FT : Fun K "_law_take" "_law_take" sTake fT fdT) (bT : Binds K fdT ["_law_feed_here", "_law_many"] []) (gT : mg "_law_take" = some (.ref fT)) (zIsi : mg "isinstance" = none) (zTup : mg "tuple" = none) :
    ∀ n, FnOk P w K mg base CX0 (n + 1) f fd ["_law_feed_here", "_law_thing"] (spThaw K n)
  | 0 => ⟨fun _ _ _ _ h => h.elim, fun _ _ _ _ _ _ _ _ _ _ _ _ _ h => h.elim⟩
  | n + 1 => by
    have ih := ok_thaw F b g FT bT gT zIsi zTup n
    have GT : FnOk P w K mg base CX0 1 fT fdT ["_law_feed_here", "_law_many"] spTake := ok_take FT
    refine F.ok scTh (fun vs H Q E h => ?_) (fun cdv A outer s H vs Q E hr h => ?_)
    · obtain ⟨a, B, x, d, rfl, _⟩ := h
      rfl
    · obtain ⟨a, B, x, d, rfl, hf, hB, hBn, hd, hg, hn, k⟩ := h
      have nd := scTh.nd
      have R1 : Room 1 _ := hr.mono (by omega)
      refine ⟨_, pss_cons (ps_if (pt_not (pt_val (pe_callB call_isi (by rfl) zIsi PyProof.Rows.boot_isinstance (pa_cons (pv 1) (pa_cons (pe_bltn (v := .ty "tuple") (by rfl) zTup (by decide +kernel) rfl) pa_nil))))) (pss_one (ps_ret (pv 1))) pss_nil)
        (pss_cons (ps_setLc (i := 2) (own := [("_law_inner", 3)]) (g := gName 3) (tt := tYes) rfl nd rfl rfl (sw_true rfl rfl rfl (by decide +kernel)) (pi_tup (pv 1)) (blkOk_by (N := NTh) (sc := defScope sThaw) (by decide +kernel))
          (fun _ _ _ _ _ => pg_name (i := 3) nd rfl (.inl rfl)) (fun _ _ _ _ _ => pts_nil) (fun _ _ _ _ _ => pe_call ih hr (by rfl) g F.kp b .nil pass0 (pa_cons (pv 0) (pa_cons (pv 3) pa_nil))))
        (pss_one (ps_ret (pe_ifExp (pt_cmpR op_eq (pe_call GT R1 (by rfl) gT FT.kp bT .nil pass0 (pa_cons (pv 0) (pa_cons pe_int pa_nil))) pe_int (nomark _)) (pv 2) (pe_callTy call_tuple_of (by rfl) zTup (by decide +kernel) (pa_cons (pv 2) pa_nil)))))), ?_⟩
      have d0 : Dr a H H := ⟨hf, fun b o _ e => e⟩
      have gd := good_ok d hg
      have ty := ty_dp hd.dp
      have atom : tupD d = d → (∀ ds, d ≠ .tuple ds) → Q x H := fun e nt => k x d H d0 hd e (Nat.le_refl _) gd.wide fun ds q => absurd q (nt ds)
      cases hd with
      | non => exact ⟨_, rfl, .non, .ty "tuple", _, .type "tuple", false, rfl, .ty _, ty, kit_ty (by decide +kernel), _, rfl, ifT rfl ⟨_, rfl, atom rfl fun ds q => nomatch q⟩⟩
      | int i => exact ⟨_, rfl, .int i, .ty "tuple", _, .type "tuple", false, rfl, .ty _, ty, kit_ty (by decide +kernel), _, rfl, ifT rfl ⟨_, rfl, atom rfl fun ds q => nomatch q⟩⟩
      | str z => exact ⟨_, rfl, .str z, .ty "tuple", _, .type "tuple", false, rfl, .ty _, ty, kit_ty (by decide +kernel), _, rfl, ifT rfl ⟨_, rfl, atom rfl fun ds q => nomatch q⟩⟩
      | lst _ _ => cases hg
      | @tup t xs ds hs ha =>
        refine ⟨_, rfl, .ref t, .ty "tuple", _, .type "tuple", true, rfl, .ty _, ty, kit_ty (by decide +kernel), _, rfl, ifF rfl ?_⟩
        rw [good, Bool.and_eq_true, decide_eq_true_eq] at hg
        rw [PyData.depth] at hn
        have lx := ha.len
        have lsz := sizeLine_eq
        refine ⟨_, rfl, t, rfl, ⟨xs, hs H (Off.refl B H)⟩, fun D hD => lc_it (walk_tup (K := K) (a := t) (xs := xs)) (fun j H' => ∃ vs es, H' D = some (.lst vs) ∧ SdAll K (fun b => B b ∨ b = D) H' vs es ∧ tupDs es = ds.take j ∧ PyData.depthAll es ≤ PyData.depthAll ds ∧ wides es = true ∧ Dr a H H')
          ⟨[], [], upd_same, .nil, rfl, Nat.zero_le _, rfl, dr_same d0 (same_new hD)⟩ (fun j H' _ h => ?_) ?_ ?_⟩
        · obtain ⟨_, _, _, _, _, _, _, d2⟩ := h
          exact hs H' (dr_off hB d2)
        · rintro j x H3 H2 hj ⟨vs, es, eD, sa, te, de, we, d2⟩ ⟨rfl, hx⟩
          obtain ⟨dx, hdx, sx⟩ := ha.get j x hx
          have mdx := List.mem_of_getElem? hdx
          have nDa : D ≠ a := fun z => hBn a hB (z ▸ hD)
          obtain ⟨m, rfl⟩ : ∃ m, n = m + 1 := ⟨n - 1, by omega⟩
          have offD : Off (fun b => B b ∨ b = D) (upd H D (.lst [])) H2 := fun b u nb e => by
            rw [upd_ne (fun z => nb (.inr z))] at e
            exact d2.sm b u (fun z => nb (.inl (by rw [z]; exact hB))) e
          have ln : vs.length = es.length := sa.len
          have le : es.length = (ds.take j).length := by
            have := congrArg List.length te
            rw [tupDs_map, List.length_map] at this
            exact this
          rw [List.length_take] at le
          refine ⟨rfl, _, rfl, _, rfl, a, (fun b => B b ∨ b = D), x, dx, rfl, d2.fd, .inl hB, fun b hb => ?_, Sd.off offD dx x (Sd.more hD dx x sx), goods_mem hg.2 dx mdx, depth_mem (n := m) (by omega) dx mdx, fun v e H4 d4 sv te4 de4 we4 _ => ?_⟩
          · rcases hb with hb | rfl
            · by_cases z : b = a
              · obtain ⟨x1, y1, q, _⟩ := d2.fd
                rw [z, q]
                exact fun z => nomatch z
              · cases q : H b with
                | none => exact absurd q (hBn b hb)
                | some o => rw [d2.sm b o z q]; exact fun z => nomatch z
            · rw [eD]
              exact fun z => nomatch z
          have eD4 := d4.sm _ _ nDa eD
          refine ⟨vs, eD4, by omega, vs ++ [v], es ++ [e], upd_same, ?_, ?_, depth_snoc de (Nat.le_trans de4 (depth_mem (Nat.le_refl _) dx mdx)), wides_snoc we we4, ?_⟩
          · have o1 : Off (fun b => B b ∨ b = D) H2 H4 := dr_off (.inl hB) d4
            have o2 : Off (fun b => B b ∨ b = D) H4 (upd H4 D (.lst (vs ++ [v]))) := off_at (.inr rfl)
            exact SdAll.off o2 _ _ (SdAll.snoc (SdAll.off o1 _ _ sa) sv)
          · rw [tupDs_map, List.map_append, ← tupDs_map, te, List.take_add_one, hdx]
            show ds.take j ++ [tupD e] = ds.take j ++ [dx]
            rw [te4]
          · obtain ⟨⟨x1, y1, q1, q2⟩, sm⟩ := d2.trans d4
            refine ⟨⟨x1, y1, by rw [upd_ne (Ne.symm nDa)]; exact q1, q2⟩, fun b o nb eb => ?_⟩
            rw [upd_ne (ne_of_none eb hD)]
            exact sm b o nb eb
        · rintro H2 ⟨vs, es, eD, sa, te, de, we, d2⟩
          rw [lx, List.take_of_length_le (Nat.le_refl ds.length)] at te
          have nDa : D ≠ a := fun z => hBn a hB (z ▸ hD)
          have le : es.length = ds.length := by
            have := congrArg List.length te
            rw [tupDs_map, List.length_map] at this
            exact this
          have le2 : es.length ≤ 1000 := by omega
          refine ⟨_, rfl, a, 2, rfl, d2.fd, (by decide), (by decide), fun r H3 r0 r1 d3 => ⟨rfl, _, rfl, ?_⟩⟩
          have eD3 := d3.sm _ _ nDa eD
          have sB : SdAll K B H3 vs es := SdAll.less (fun b h => .inl h) es vs (SdAll.off (dr_off (.inl hB) d3) es vs sa)
          have dd := d2.trans d3
          have dep : PyData.depthAll es + 1 ≤ PyData.depthAll ds + 1 := by omega
          refine iteD (fun _ => ?_) (fun _ => ?_)
          · refine ⟨_, rfl, k (.ref D) (.list es) H3 dd (.lst (fun H4 o => SqL.of (o D _ (fun z => hBn D z hD) eD3)) sB) (by rw [tupD, te]) (by rw [PyData.depth, PyData.depth]; omega) (by rw [wide, we, decide_eq_true le2]; rfl) fun ds' q => ?_⟩
            cases q
            exact ⟨D, vs, es, rfl, hD, sB, te, .inr eD3⟩
          · refine ⟨_, rfl, D, vs, rfl, .inl ⟨SqL.of eD3, fun p hp => ?_⟩⟩
            have nB : ∀ b, B b → H3 b ≠ none := fun b hb => by
              by_cases z : b = a
              · obtain ⟨x1, y1, q, _⟩ := d3.fd
                rw [z, q]
                exact fun z => nomatch z
              · cases q : H b with
                | none => exact absurd q (hBn b hb)
                | some o => rw [dd.sm b o z q]; exact fun z => nomatch z
            have sp : SdAll K B (upd H3 p (.tup vs)) vs es := SdAll.off (Same.off (same_new hp)) es vs sB
            refine k (.ref p) (.tuple es) _ (dr_same dd (same_new hp)) (Sd.newT nB hp sB) (by rw [tupD, te]) (by rw [PyData.depth, PyData.depth]; omega) (by rw [wide, we, decide_eq_true le2]; rfl) fun ds' q => ?_
            cases q
            exact ⟨p, vs, es, rfl, dr_free dd hp, sp, te, .inl upd_same⟩
end
end R61

namespace R61
open PySem L2 L3
open C8 (pss_cut tCut pe_gc)
abbrev sNum : Stmt := top 21
abbrev sTru : Stmt := top 22
abbrev sRows : Stmt := top 23
abbrev sRow : Stmt := top 24
/-- a drawn number, a drawn truth, at a depth -/
@[irreducible] def spDraw (K : PySem.W.Frag) (z : Nat) (dep cst : Nat) : Sp := fun vs H Q _ => ∃ (a L : Addr) (B : Addr → Prop) (cs : List (Str × Nat)) (ce : List Str) (tb : List (Str × List Str)) (pl : Bool) (c e d r m t : V),
  vs = [.ref a, .ref L, .int (z : Int)] ∧ FeedAt H a ∧ B a ∧ (∀ b, B b → H b ≠ none) ∧ LoreIs cs ce tb ∧ Lore K B H L cs ce tb pl c e d r m t ∧
  ∀ v x H', Dr a H H' → Sd K B H' v x → good x = true → x.depth ≤ dep → cost x ≤ cst → Q v H'
def cNT : Nat → Nat × Nat
  | 0 => (100, 300)
  | d + 1 => (800 + (cNT d).2 + 2 * (cNT d).1, 200 + (800 + (cNT d).2 + 2 * (cNT d).1) + 2 * (cNT d).2)
abbrev cN (d : Nat) : Nat := (cNT d).1
abbrev cT (d : Nat) : Nat := (cNT d).2
abbrev dN (d : Nat) : Nat := 2 * d + 1
abbrev dT (d : Nat) : Nat := 2 * d + 2
section
variable {P : Program} {w : World} {K : PySem.W.Frag} {mg : Str → Option Value} {base : Heap}
theorem feed_same {a : Addr} {H H' : Hp} (s : Same H H') (f : FeedAt H a) : FeedAt H' a := by
  obtain ⟨x, y, h, k⟩ := f
  exact ⟨x, y, s _ _ h, k⟩
theorem dr_of {a : Addr} {H H' : Hp} (s : Same H H') (f : FeedAt H a) : Dr a H H' := ⟨feed_same s f, fun b o _ e => s b o e⟩
theorem dr_new {a l : Addr} {H : Hp} {o : HO} (hf : FeedAt H a) (hl : H l = none) : Dr a H (upd H l o) := by
  obtain ⟨x, y, h, q⟩ := hf
  exact ⟨⟨x, y, same_new hl _ _ h, q⟩, fun b u _ e => same_new hl b u e⟩
theorem dr_refl {a : Addr} {H : Hp} (hf : FeedAt H a) : Dr a H H := ⟨hf, fun _ _ _ e => e⟩
theorem pick_sd {a : Addr} {v : V} {ds : List PyData} {Q : VK} {B : Addr → Prop} {H : Hp} (hf : FeedAt H a) (hB : B a) (hd : Sd K B H v (.list ds)) (ne : ds ≠ []) (le : ds.length ≤ 1000)
    (k : ∀ x d H', d ∈ ds → Sd K B H' x d → Dr a H H' → Q x H') : spPick K [.ref a, v] H Q E0 := by
  obtain ⟨l, xs, rfl, hl, ha⟩ := hd.inL
  unfold spPick
  refine ⟨a, l, xs, rfl, hf, hl.one hB, fun z => ne ?_, by rw [ha.len]; exact le, fun i x H' hx dr => ?_⟩
  · have := ha.len
    rw [z] at this
    exact List.eq_nil_of_length_eq_zero this.symm
  · obtain ⟨d, hd, sx⟩ := ha.get i x hx
    exact k x d H' (List.mem_of_getElem? hd) (Sd.off (dr_off hB dr) d x sx) dr
theorem pick_new {a l : Addr} {xs : List V} {ds : List PyData} {Q : VK} {B : Addr → Prop} {H : Hp} (hf : FeedAt H a) (hB : B a) (hn : ∀ b, B b → H b ≠ none) (hl : H l = none) (sa : SdAll K B H xs ds) (ne : ds ≠ []) (le : ds.length ≤ 1000)
    (k : ∀ x d H', d ∈ ds → Sd K B H' x d → Dr a H H' → Q x H') : spPick K [.ref a, .ref l] (upd H l (.lst xs)) Q E0 :=
  pick_sd (dr_new hf hl).fd hB (Sd.newL hn hl sa) ne le fun x d H' m sx dr => k x d H' m sx ((dr_new hf hl).trans dr)
/-- a new tuple of what was drawn -/
theorem mk_tup {a : Addr} {vs : List V} {ds : List PyData} {B : Addr → Prop} {H H1 : Hp} {dep cst : Nat} {Q : VK} (hn : ∀ b, B b → H b ≠ none) (d : Dr a H H1) (sa : SdAll K B H1 vs ds) (g : goods ds = true) (len : ds.length ≤ 1000) (hd : (PyData.tuple ds).depth ≤ dep) (hc : cost (.tuple ds) ≤ cst)
    (k : ∀ v x H', Dr a H H' → Sd K B H' v x → good x = true → x.depth ≤ dep → cost x ≤ cst → Q v H') : ∀ p, H1 p = none → Q (.ref p) (upd H1 p (.tup vs)) := fun p hp =>
  k _ _ _ (d.trans (dr_new d.fd hp)) (Sd.newT (Dr.alive hn d) hp sa) (good_tup g len) hd hc
def myD (z : Str) : PyData := .tuple [.str "my", .str z]
theorem my_good : ∀ x ∈ mineT.map myD, good x = true ∧ x.depth ≤ 1 ∧ cost x ≤ 100 := by
  have q : (mineT.map myD).all (fun x => good x && decide (x.depth ≤ 1) && decide (cost x ≤ 100)) = true := by decide +kernel
  intro x m
  have := List.all_eq_true.mp q x m
  rw [Bool.and_eq_true, Bool.and_eq_true, decide_eq_true_eq, decide_eq_true_eq] at this
  exact ⟨this.1.1, this.1.2, this.2⟩
abbrev NNum : List Str := ["_law_feed_here", "_law_lore_here", "_law_deep", "_law_form", "_law_title", "_law_word", "_law_case", "_law_many", "_law_turn", "_law_parts_here", "_law_part"]
abbrev pFL : List Str := ["_law_feed_here", "_law_lore_here", "_law_deep"]
theorem scNu : FnScope NNum pFL (defScope sNum) := ⟨rfl, rfl, rfl, by decide +kernel, rfl, by decide +kernel, by decide +kernel⟩
theorem ok_num0 {f fP fT : Addr} {fd fdP fdT : FuncData} (F : Fun K "_law_number_of" "_law_number_of" sNum f fd) (UP : Use P w K mg base "_law_pick" 2 fP fdP ["_law_feed_here", "_law_some"] (spPick K)) (UT : Use P w K mg base "_law_take" 1 fT fdT ["_law_feed_here", "_law_many"] spTake) :
    FnOk P w K mg base CX0 3 f fd pFL (spDraw K 0 (dN 0) (cN 0)) := by
  refine F.ok scNu (fun vs H Q E h => ?_) (fun cdv A outer s H vs Q E hr h => ?_)
  · unfold spDraw at h
    obtain ⟨a, L, B, cs, ce, tb, pl, c, e, d, r, m, t, rfl, _⟩ := h
    rfl
  · unfold spDraw at h
    obtain ⟨a, L, B, cs, ce, tb, pl, c, e, d, r, m, t, rfl, hf, hB, hn, li, lo, k⟩ := h
    have nd := scNu.nd
    have hu := hr.units
    have hu1 := hu_of hr
    refine ⟨_, (pss_cons (ps_set (i := 3) nd rfl (.inl rfl) (pe_ifExp (pt_cmpR op_gt (pv 2) pe_int (nomark _)) (pe_call UT.G (hr.mono (by omega)) (by rfl) UT.g UT.kp UT.b .nil pass0 (pa_cons (pv 0) (pa_cons pe_int pa_nil))) (pe_call UT.G (hr.mono (by omega)) (by rfl) UT.g UT.kp UT.b .nil pass0 (pa_cons (pv 0) (pa_cons pe_int pa_nil)))))
      (pss_cons (ps_if (pt_cmpR op_lt (pv 3) pe_int (nomark _)) (pss_one (ps_ret (pe_call UP.G (hr.mono (by omega)) (by rfl) UP.g UP.kp UP.b .nil pass0 (pa_cons (pv 0) (pa_cons (pe_lst (pa_cons pe_int (pa_cons pe_int (pa_cons pe_int (pa_cons pe_int (pa_cons (pe_un un_neg pe_int) (pa_cons pe_int (pa_cons (pe_op op_pow pe_int pe_int) (pa_cons (pe_op op_pow pe_int pe_int) pa_nil))))))))) pa_nil))))) pss_nil)
      (pss_cons (ps_if (pt_cmpR op_lt (pv 3) pe_int (nomark _)) (pss_one (ps_ret (pe_call UP.G (hr.mono (by omega)) (by rfl) UP.g UP.kp UP.b .nil pass0 (pa_cons (pv 0) (pa_cons (pe_op op_cat (pe_dget hu1 (pv 1) pe_str (fun _ _ => rfl)) (pe_lc (own := [("_law_title", 4)]) (g := gName 4) (tt := tYes) rfl nd (pi_list (pe_dget hu1 (pv 1) pe_str (fun _ _ => rfl))) (blkOk_by (N := NNum) (sc := defScope sNum) (by decide +kernel)) (fun _ _ _ _ _ => pg_name (i := 4) nd rfl (.inl rfl)) (fun _ _ _ _ _ => pts_nil) (fun _ _ _ _ _ => (pe_tup (pa_cons pe_str (pa_cons (pv 4) pa_nil)))))) pa_nil))))) pss_nil) pss_dead))), ?_⟩
    have inb : ∀ x : PyData, x ∈ ([0, 1, 2, 3, -1, 7, 10 ^ 17, 10 ^ 9] : List Int).map PyData.int → good x = true ∧ x.depth ≤ dN 0 ∧ cost x ≤ cN 0 := by
      have q : (([0, 1, 2, 3, -1, 7, 10 ^ 17, 10 ^ 9] : List Int).map PyData.int).all (fun x => good x && decide (x.depth ≤ dN 0) && decide (cost x ≤ cN 0)) = true := by decide +kernel
      intro x m
      have := List.all_eq_true.mp q x m
      rw [Bool.and_eq_true, Bool.and_eq_true, decide_eq_true_eq, decide_eq_true_eq] at this
      exact ⟨this.1.1, this.1.2, this.2⟩
    refine ⟨_, rfl, _, _, rfl, rfl, _, rfl, ifF rfl ?_⟩
    refine ⟨_, rfl, a, 4, rfl, hf, by decide, by decide, fun r H1 r0 r1 d1 => ?_⟩
    refine ⟨_, rfl, _, _, rfl, rfl, _, rfl, iteD (fun h1 => ?_) (fun h1 => ?_)⟩
    · refine ⟨_, rfl, _, rfl, _, _, rfl, rfl, ⟨by decide, by decide, by decide⟩, _, _, rfl, rfl, ⟨by decide, by decide, by decide⟩, (by show 8 ≤ sizeLine; decide), fun l hl => ?_⟩
      refine pick_new (ds := ([0, 1, 2, 3, -1, 7, 10 ^ 17, 10 ^ 9] : List Int).map PyData.int) d1.fd hB (Dr.alive hn d1) hl ?_ (fun z => by cases z) (by decide) fun x y H2 my sx d2 => ?_
      · exact .cons (.int _) (.cons (.int _) (.cons (.int _) (.cons (.int _) (.cons (.int _) (.cons (.int _) (.cons (.int _) (.cons (.int _) .nil)))))))
      · obtain ⟨g1, g2, g3⟩ := inb y my
        exact k x y H2 (d1.trans d2) sx g1 g2 g3
    · refine ⟨_, rfl, _, _, rfl, rfl, _, rfl, ifT (decide_eq_true (by omega)) ?_⟩
      have lo1 := lo.off (dr_off hB d1)
      obtain ⟨aE, rfl, eR⟩ := lo1.e
      obtain ⟨aM, ms, rfl, mL, mA⟩ := lo1.m.inL
      obtain rfl := sd_strs mA
      refine ⟨_, rfl, _, rfl, L, _, rfl, lo1.get lore_e, _, rfl, L, _, rfl, lo1.get lore_m, aM, rfl, ⟨_, mL.now⟩, fun D hD => lc_list (K := K) (a := aM) (xs := mineT.map V.str)
        (fun j H' => ∃ vs, H' D = some (.lst vs) ∧ SdAll K (And1 B D) H' vs ((mineT.take j).map myD) ∧ Same H1 H')
        ⟨[], upd_same, .nil, same_new hD⟩ (fun j H' _ h => ?_) ?_ ?_⟩
      · obtain ⟨vs, _, _, s2⟩ := h
        exact s2.seq mL.now
      · rintro j x H2 hx ⟨vs, eD, sa, s2⟩
        rw [List.getElem?_map] at hx
        obtain ⟨z, hz, rfl⟩ := Option.map_eq_some_iff.mp hx
        have lsz := sizeLine_eq
        have ln := sa.len
        rw [List.length_map, List.length_take] at ln
        have l2 : mineT.length = 2 := rfl
        refine ⟨rfl, _, rfl, (by show 2 ≤ sizeLine; decide), fun t ht => ⟨vs, same_new ht _ _ eD, by omega, vs ++ [.ref t], upd_same, ?_, ?_⟩⟩
        · have al : ∀ b, And1 B D b → H2 b ≠ none := fun b hb => by
            rcases hb with hb | rfl
            · exact L3.Same.alive (Dr.alive hn d1) s2 b hb
            · rw [eD]; exact fun z => nomatch z
          have st := same_new (o := .tup [V.str "my", V.str z]) ht
          have sn : Sd K (And1 B D) (upd H2 t (.tup [V.str "my", V.str z])) (.ref t) (myD z) := Sd.newT al ht (.cons (.str _) (.cons (.str _) .nil))
          have o2 : Off (And1 B D) (upd H2 t (.tup [V.str "my", V.str z])) (upd (upd H2 t (.tup [V.str "my", V.str z])) D (.lst (vs ++ [.ref t]))) := off_at (.inr rfl)
          rw [List.take_add_one, hz, List.map_append]
          exact SdAll.off o2 _ _ (SdAll.snoc (SdAll.off (Same.off st) _ _ sa) sn)
        · exact fun b o e => by
            rw [upd_ne (ne_of_none e hD)]
            exact same_new ht b o (s2 b o e)
      · rintro H2 ⟨vs, eD, sa, s2⟩
        have e2 := eR H2 (Same.off s2)
        have sB : SdAll K B H2 vs ((mineT.take (mineT.map V.str).length).map myD) := SdAll.less (fun b h => .inl h) _ _ sa
        have ln := sB.len
        rw [List.length_map, List.take_of_length_le (by rw [List.length_map]; exact Nat.le_refl _)] at ln
        rw [List.take_of_length_le (by rw [List.length_map]; exact Nat.le_refl _)] at sB
        have lsz := sizeLine_eq
        have l2 : mineT.length = 2 := rfl
        refine ⟨aE, D, _, _, rfl, rfl, e2, eD, by rw [List.length_map]; have := li.ce.2.1; omega, fun p hp => ?_⟩
        have d2 : Dr a H1 H2 := dr_of s2 d1.fd
        refine pick_new (ds := ce.map .str ++ mineT.map myD) d2.fd hB (Dr.alive hn (d1.trans d2)) hp ((strs_sd ce).app sB) (fun z => li.ce.1 (List.map_eq_nil_iff.mp (List.append_eq_nil_iff.mp z).1)) (by rw [List.length_append, List.length_map, List.length_map]; have := li.ce.2.1; omega) fun x y H3 my sx d3 => ?_
        have dd := d1.trans (d2.trans d3)
        rcases List.mem_append.mp my with my | my
        · obtain ⟨z, mz, rfl⟩ := List.mem_map.mp my
          exact k x _ H3 dd sx (li.ce.2.2 z mz) (Nat.zero_le _) (by show 40 ≤ 100; omega)
        · obtain ⟨g1, g2, g3⟩ := my_good y my
          exact k x y H3 dd sx g1 g2 g3
end
/-- the promise of _law_take, not to be looked into -/
@[irreducible] def spTk : Sp := spTake
theorem spTk_eq : spTk = spTake := by
  unfold spTk
  rfl
/-- what stands where something is drawn: the feed, the lore, what may change -/
structure Sc (K : PySem.W.Frag) (B : Addr → Prop) (a L : Addr) (cs : List (Str × Nat)) (ce : List Str) (tb : List (Str × List Str)) (pl : Bool) (c e d r m t : V) (H : Hp) : Prop where
  fd : FeedAt H a
  hB : B a
  al : ∀ b, B b → H b ≠ none
  li : LoreIs cs ce tb
  lo : Lore K B H L cs ce tb pl c e d r m t
section
variable {K : PySem.W.Frag} {B : Addr → Prop} {a L p : Addr} {cs : List (Str × Nat)} {ce : List Str} {tb : List (Str × List Str)} {pl : Bool} {c e d r m t v : V} {H H' : Hp} {o : HO} {z : Nat} {i : Int} {dep cst : Nat} {Q : VK} {ds : List PyData} {xs : List V}
theorem Sc.dr (s : Sc K B a L cs ce tb pl c e d r m t H) (x : Dr a H H') : Sc K B a L cs ce tb pl c e d r m t H' := ⟨x.fd, s.hB, Dr.alive s.al x, s.li, s.lo.off (dr_off s.hB x)⟩
theorem Sc.new (s : Sc K B a L cs ce tb pl c e d r m t H) (hp : H p = none) : Sc K B a L cs ce tb pl c e d r m t (upd H p o) := s.dr (dr_new s.fd hp)
theorem Sc.ask (s : Sc K B a L cs ce tb pl c e d r m t H) (hi : i = (z : Int)) (k : ∀ v x H', Dr a H H' → Sd K B H' v x → good x = true → x.depth ≤ dep → cost x ≤ cst → Q v H') : spDraw K z dep cst [.ref a, .ref L, .int i] H Q E0 :=
  by
    unfold spDraw
    exact ⟨a, L, B, cs, ce, tb, pl, c, e, d, r, m, t, by rw [hi], s.fd, s.hB, s.al, s.li, s.lo, k⟩
theorem Sc.pick (s : Sc K B a L cs ce tb pl c e d r m t H) (hd : Sd K B H v (.list ds)) (ne : ds ≠ []) (le : ds.length ≤ 1000) (k : ∀ x d H', d ∈ ds → Sd K B H' x d → Dr a H H' → Q x H') : spPick K [.ref a, v] H Q E0 := pick_sd s.fd s.hB hd ne le k
theorem Sc.pickN (s : Sc K B a L cs ce tb pl c e d r m t H) (hp : H p = none) (sa : SdAll K B H xs ds) (ne : ds ≠ []) (le : ds.length ≤ 1000) (k : ∀ x d H', d ∈ ds → Sd K B H' x d → Dr a H H' → Q x H') : spPick K [.ref a, .ref p] (upd H p (.lst xs)) Q E0 := pick_new s.fd s.hB s.al hp sa ne le k
theorem Sc.take {j : Int} (s : Sc K B a L cs ce tb pl c e d r m t H) (h0 : 0 < j) (h1 : Sm 200 j) (k : ∀ (q : Int) H', 0 ≤ q → q < j → Dr a H H' → Q (.int q) H') : spTk [.ref a, .int j] H Q E0 := by
  unfold spTk
  exact ⟨a, j, rfl, s.fd, h0, h1, k⟩
theorem Sc.tup (s : Sc K B a L cs ce tb pl c e d r m t H) (sa : SdAll K B H xs ds) (g : goods ds = true) (len : ds.length ≤ 1000) (hd : (PyData.tuple ds).depth ≤ dep) (hc : cost (.tuple ds) ≤ cst)
    (k : ∀ v x H', Dr a H H' → Sd K B H' v x → good x = true → x.depth ≤ dep → cost x ≤ cst → Q v H') : ∀ p, H p = none → Q (.ref p) (upd H p (.tup xs)) := mk_tup s.al (dr_refl s.fd) sa g len hd hc k
end
theorem word_get {ts : List Str} (h : ts.all (fun t => good (.str t)) = true) {i : Int} (h0 : 0 ≤ i) (h1 : i < (ts.length : Int)) : ∃ z, atI (ts.map V.str) i = some (.str z) ∧ good (.str z) = true := by
  obtain ⟨n, rfl⟩ : ∃ n : Nat, i = n := ⟨i.toNat, by omega⟩
  have hn : n < ts.length := by omega
  refine ⟨ts[n], atI_nat (by rw [List.getElem?_map, List.getElem?_eq_getElem hn]; rfl), ?_⟩
  exact List.all_eq_true.mp h _ (List.getElem_mem hn)
theorem Sd.step {K : PySem.W.Frag} {B : Addr → Prop} {a : Addr} {H H' : Hp} {v : V} {x : PyData} (h : Sd K B H v x) (hB : B a) (d : Dr a H H') : Sd K B H' v x := Sd.off (dr_off hB d) x v h
theorem draw_inv {K : PySem.W.Frag} {z dep cst : Nat} {vs : List V} {H : Hp} {Q : VK} {E : XK} (h : spDraw K z dep cst vs H Q E) : ∃ (a L : Addr) (B : Addr → Prop) (cs : List (Str × Nat)) (ce : List Str) (tb : List (Str × List Str)) (pl : Bool) (c e d r m t : V),
  vs = [.ref a, .ref L, .int (z : Int)] ∧ Sc K B a L cs ce tb pl c e d r m t H ∧ ∀ v x H', Dr a H H' → Sd K B H' v x → good x = true → x.depth ≤ dep → cost x ≤ cst → Q v H' := by
  unfold spDraw at h
  obtain ⟨a, L, B, cs, ce, tb, pl, c, e, d, r, m, t, q, hf, hB, hn, li, lo, k⟩ := h
  exact ⟨a, L, B, cs, ce, tb, pl, c, e, d, r, m, t, q, ⟨hf, hB, hn, li, lo⟩, k⟩
theorem shp {ds : List PyData} (g : goods ds = true) (h : PyData.depthAll ds ≤ 4) : SeqAt.shaped (.list ds) = true := by
  unfold SeqAt.shaped
  rw [Bool.and_eq_true]
  refine ⟨?_, decide_eq_true ?_⟩
  · rw [PyData.canLay0]
    exact (goods_ok ds g).can
  · rw [PyData.depth]
    omega
theorem cs_dep : ∀ cs : List (Str × Nat), PyData.depthAll (cs.map chD) ≤ 1
  | [] => Nat.zero_le _
  | c :: cs => by
    have := cs_dep cs
    simp only [List.map_cons, PyData.depthAll, chD, PyData.depth]
    omega
theorem str_dep : ∀ ts : List Str, PyData.depthAll (ts.map .str) ≤ 0
  | [] => Nat.le_refl _
  | t :: ts => by
    have := str_dep ts
    simp only [List.map_cons, PyData.depthAll, PyData.depth]
    omega
theorem tb_dep : ∀ tb : List (Str × List Str), PyData.depthAll (tb.map tbD) ≤ 2
  | [] => Nat.zero_le _
  | t :: ts => by
    have := tb_dep ts
    have := str_dep t.2
    simp only [List.map_cons, PyData.depthAll, tbD, PyData.depth]
    omega
theorem good_small {i : Int} (h0 : 0 ≤ i) (h1 : i < 20) : good (.int i) = true := by
  have q : (List.range 20).all (fun n => good (.int (n : Int))) = true := by decide +kernel
  obtain ⟨n, rfl⟩ : ∃ n : Nat, i = n := ⟨i.toNat, by omega⟩
  exact List.all_eq_true.mp q n (List.mem_range.mpr (by omega))
theorem goods_of {ds : List PyData} (h : ∀ d ∈ ds, good d = true) : goods ds = true := by
  induction ds with
  | nil => rfl
  | cons d ds ih => exact goods_c (h d List.mem_cons_self) (ih fun x m => h x (List.mem_cons_of_mem _ m))
theorem cs_good {cs : List (Str × Nat)} (h : ∀ c ∈ cs, good (.str c.1) = true ∧ 1 ≤ c.2 ∧ c.2 ≤ 4) : goods (cs.map chD) = true := goods_of fun d m => by
  obtain ⟨c, mc, rfl⟩ := List.mem_map.mp m
  obtain ⟨h1, h2, h3⟩ := h c mc
  exact good_tup (goods_c h1 (goods_c (good_small (by omega) (by omega)) rfl)) (by simp)
theorem tb_good {tb : List (Str × List Str)} (h : ∀ t ∈ tb, good (.str t.1) = true ∧ t.2 ≠ [] ∧ t.2.length ≤ 4 ∧ ∀ p ∈ t.2, good (.str p) = true) : goods (tb.map tbD) = true := goods_of fun d m => by
  obtain ⟨t, mt, rfl⟩ := List.mem_map.mp m
  obtain ⟨h1, _, h3, h4⟩ := h t mt
  refine good_tup (goods_c h1 (goods_c (good_tup (goods_of fun x mx => ?_) (by rw [List.length_map]; omega)) rfl)) (by simp)
  obtain ⟨p, mp, rfl⟩ := List.mem_map.mp mx
  exact h4 p mp
theorem eqv_nil (ds : List PyData) : PyData.eqv (.list ds) (.list []) = ds.isEmpty := by
  cases ds <;> rfl
theorem Sd.inCh {K : PySem.W.Frag} {B : Addr → Prop} {H : Hp} {v : V} {c : Str × Nat} (h : Sd K B H v (chD c)) : ∃ p, v = .ref p ∧ Ts K B H p [.str c.1, .int (c.2 : Int)] := by
  obtain ⟨p, xs, rfl, ts, sa⟩ := L3.Sd.inT h
  cases sa with
  | cons h1 hs =>
    cases hs with
    | cons h2 hs =>
      cases hs
      cases h1
      cases h2
      exact ⟨p, rfl, ts⟩
theorem Sd.inTb {K : PySem.W.Frag} {B : Addr → Prop} {H : Hp} {v : V} {t : Str × List Str} (h : Sd K B H v (tbD t)) : ∃ p q, v = .ref p ∧ Ts K B H p [.str t.1, .ref q] ∧ Ts K B H q (t.2.map V.str) := by
  obtain ⟨p, xs, rfl, ts, sa⟩ := L3.Sd.inT h
  cases sa with
  | cons h1 hs =>
    cases hs with
    | cons h2 hs =>
      cases hs
      cases h1
      obtain ⟨q, ys, rfl, tq, sb⟩ := L3.Sd.inT h2
      obtain rfl := sd_strs sb
      exact ⟨p, q, rfl, ts, tq⟩
end R61

namespace R61
open PySem L2 L3
open C8 (pss_cut tCut pe_gc)
def spPrev (sp : Nat → Sp) : Nat → Sp
  | 0 => fun _ _ _ _ => False
  | n + 1 => sp n
theorem cT_ge : ∀ z, 200 + cN z ≤ cT z
  | 0 => by decide
  | d + 1 => by simp only [cN, cT, cNT]; omega
theorem cN_ge : ∀ z, 100 ≤ cN z
  | 0 => by decide
  | d + 1 => by simp only [cN, cNT]; omega
section
variable {P : Program} {w : World} {K : PySem.W.Frag} {mg : Str → Option Value} {base : Heap}
abbrev NTru : List Str := ["_law_feed_here", "_law_lore_here", "_law_deep", "_law_form", "_law_title", "_law_many", "_law_word"]
theorem scTr : FnScope NTru pFL (defScope sTru) := ⟨rfl, rfl, rfl, by decide +kernel, rfl, by decide +kernel, by decide +kernel⟩
theorem ok_tru {f fP fT fN : Addr} {fd fdP fdT fdN : FuncData} (z : Nat) (F : Fun K "_law_truth_of" "_law_truth_of" sTru f fd) (UP : Use P w K mg base "_law_pick" 2 fP fdP ["_law_feed_here", "_law_some"] (spPick K)) (UT : Use P w K mg base "_law_take" 1 fT fdT ["_law_feed_here", "_law_many"] spTk)
    (UN0 : Use P w K mg base "_law_number_of" 3 fN fdN pFL (spDraw K 0 (dN 0) (cN 0))) (UNs : Use P w K mg base "_law_number_of" (3 + 2 * z) fN fdN pFL (spDraw K z (dN z) (cN z))) (UNp : Use P w K mg base "_law_number_of" (3 + 2 * z) fN fdN pFL (spDraw K (z - 1) (dN (z - 1)) (cN (z - 1))))
    (UB : Use P w K mg base "_law_truth_of" (3 + 2 * z) f fd pFL (spPrev (fun n => spDraw K n (dT n) (cT n)) z)) : FnOk P w K mg base CX0 (3 + 2 * z + 1) f fd pFL (spDraw K z (dT z) (cT z)) := by
  refine F.ok scTr (fun vs H Q E h => ?_) (fun cdv A outer s H vs Q E hr h => ?_)
  · obtain ⟨a, L, B, cs, ce, tb, pl, c, e, d, r, m, t, rfl, _⟩ := draw_inv h
    rfl
  · obtain ⟨a, L, B, cs, ce, tb, pl, c, e, d, r, m, t, rfl, s, k⟩ := draw_inv h
    have nd := scTr.nd
    have hu := hr.units
    have hu1 := hu_of hr
    have cg := cT_ge z
    have cg0 := cN_ge z
    have s0z : 0 ≤ sizeLine := Nat.zero_le _
    refine ⟨_, (pss_cut (ps_set (i := 3) nd rfl (.inl rfl) (pe_ifExp (pt_cmpR op_gt (pv 2) pe_int (nomark _)) (pe_call UT.G (hr.mono (by omega)) (by rfl) UT.g UT.kp UT.b .nil pass0 (pa_cons (pv 0) (pa_cons pe_int pa_nil))) (pe_call UT.G (hr.mono (by omega)) (by rfl) UT.g UT.kp UT.b .nil pass0 (pa_cons (pv 0) (pa_cons pe_int pa_nil)))))
      (pss_cons (ps_if (pt_cmpR op_lt (pv 3) pe_int (nomark _)) (pss_one (ps_ret (pe_tup (pa_cons (pe_ix (r := rIxL K) (by exact ix_list) (pe_lst (pa_cons pe_str (pa_cons pe_str pa_nil))) (pv 3) (fun _ _ => rfl)) (pa_cons (pe_call UN0.G (hr.mono (by omega)) (by rfl) UN0.g UN0.kp UN0.b .nil pass0 (pa_cons (pv 0) (pa_cons (pv 1) (pa_cons pe_int pa_nil)))) (pa_cons (pe_call UNs.G (hr.mono (by omega)) (by rfl) UNs.g UNs.kp UNs.b .nil pass0 (pa_cons (pv 0) (pa_cons (pv 1) (pa_cons (pv 2) pa_nil)))) pa_nil)))))) pss_nil)
      (pss_cons (ps_if (pt_cmpR op_eq (pv 3) pe_int (nomark _)) (pss_one (ps_ret (pe_tup (pa_cons pe_str (pa_cons (pe_call UP.G (hr.mono (by omega)) (by rfl) UP.g UP.kp UP.b .nil pass0 (pa_cons (pv 0) (pa_cons (pe_dget hu1 (pv 1) pe_str (fun _ _ => rfl)) pa_nil))) pa_nil))))) pss_nil)
      (pss_cons (ps_if (PW.pt (pw_and (pt_cmpR op_lt (pv 3) pe_int (nomark _)) (pw_and1 (pt_cmpR (op_neD hu) (pe_dget hu1 (pv 1) pe_str (fun _ _ => rfl)) (pe_lst pa_nil) (nomark _))))) (pss_cons (ps_asg (pe_call UP.G (hr.mono (by omega)) (by rfl) UP.g UP.kp UP.b .nil pass0 (pa_cons (pv 0) (pa_cons (pe_dget hu1 (pv 1) pe_str (fun _ _ => rfl)) pa_nil))) (pg_tup (by rfl) (pgs_cons (pg_name (i := 4) nd rfl (.inl rfl)) (pgs_cons (pg_name (i := 5) nd rfl (.inl rfl)) pgs_nil))))
      (pss_one (ps_ret (pe_tup (pa_cons pe_str (pa_cons (pv 4) (pa_cons (pe_call UT.G (hr.mono (by omega)) (by rfl) UT.g UT.kp UT.b .nil pass0 (pa_cons (pv 0) (pa_cons (pv 5) pa_nil))) pa_nil))))))) pss_nil)
      (pss_cut (ps_if (PW.pt (pw_and (pt_cmpR op_eq (pv 3) pe_int (nomark _)) (pw_and1 (pt_cmpR (op_neD hu) (pe_dget hu1 (pv 1) pe_str (fun _ _ => rfl)) (pe_lst pa_nil) (nomark _))))) pss_dead pss_nil)
      (pss_cut (ps_if (PW.pt (pw_and (pt_cmpR op_eq (pv 3) pe_int (nomark _)) (pw_and1 (pt_cmpR (op_neD hu) (pe_dget hu1 (pv 1) pe_str (fun _ _ => rfl)) (pe_lst pa_nil) (nomark _))))) (pss_one (ps_ret (pe_tup (pa_cons pe_str (pa_cons (pe_ix (r := rIxT K) (by exact ix_tup) (pe_call UP.G (hr.mono (by omega)) (by rfl) UP.g UP.kp UP.b .nil pass0 (pa_cons (pv 0) (pa_cons (pe_dget hu1 (pv 1) pe_str (fun _ _ => rfl)) pa_nil))) pe_int (fun _ _ => rfl)) (pa_cons (pe_call UN0.G (hr.mono (by omega)) (by rfl) UN0.g UN0.kp UN0.b .nil pass0 (pa_cons (pv 0) (pa_cons (pv 1) (pa_cons pe_int pa_nil)))) pa_nil)))))) pss_nil)
      (pss_cons (ps_if (pt_cmpR op_lt (pv 3) pe_int (nomark _)) (pss_one (ps_ret (pe_tup (pa_cons pe_str (pa_cons pe_int (pa_cons (pe_call UNp.G (hr.mono (by omega)) (by rfl) UNp.g UNp.kp UNp.b .nil pass0 (pa_cons (pv 0) (pa_cons (pv 1) (pa_cons (pe_ifExp (pt_cmpR op_gt (pv 2) pe_int (nomark _)) (pe_op op_sub (pv 2) pe_int) pe_int) pa_nil)))) pa_nil)))))) pss_nil)
      (pss_cons (ps_if (pt_cmpR op_eq (pv 3) pe_int (nomark _)) (pss_one (ps_ret (pe_tup (pa_cons pe_str (pa_cons (pe_call UB.G (hr.mono (by omega)) (by rfl) UB.g UB.kp UB.b .nil pass0 (pa_cons (pv 0) (pa_cons (pv 1) (pa_cons (pe_op op_sub (pv 2) pe_int) pa_nil)))) pa_nil))))) pss_nil)
      (pss_cons (ps_set (i := 6) nd rfl (.inl rfl) (pe_ix (r := rIxL K) (by exact ix_list) (pe_lst (pa_cons pe_str (pa_cons pe_str pa_nil))) (pe_op op_sub (pv 3) pe_int) (fun _ _ => rfl)))
      (pss_one (ps_ret (pe_tup (pa_cons (pv 6) (pa_cons (pe_call UB.G (hr.mono (by omega)) (by rfl) UB.g UB.kp UB.b .nil pass0 (pa_cons (pv 0) (pa_cons (pv 1) (pa_cons (pe_op op_sub (pv 2) pe_int) pa_nil)))) (pa_cons (pe_call UB.G (hr.mono (by omega)) (by rfl) UB.g UB.kp UB.b .nil pass0 (pa_cons (pv 0) (pa_cons (pv 1) (pa_cons (pe_op op_sub (pv 2) pe_int) pa_nil)))) pa_nil))))))))))))))), ?_⟩
    refine ⟨fun σ H' => ∃ q : Int, σ = [some (.ref a), some (.ref L), some (.int (z : Int)), some (.int q), none, none, none] ∧ 0 ≤ q ∧ q < 12 ∧ (z = 0 → q < 7) ∧ Dr a H H', ?_, ?_⟩
    · refine ⟨_, rfl, _, _, rfl, rfl, _, rfl, iteD (fun hz => ⟨_, rfl, ?_⟩) (fun hz => ⟨_, rfl, ?_⟩)⟩
      · refine s.take (j := 12) (by decide) (by decide) fun q H1 q0 q1 d1 => ⟨_, rfl, q0, q1, fun z => by omega, d1⟩
      · refine s.take (j := 7) (by decide) (by decide) fun q H1 q0 q1 d1 => ⟨_, rfl, q0, by omega, fun _ => q1, d1⟩
    rintro σ H1 ⟨q, rfl, q0, q12, qz, d1⟩
    have s1 := s.dr d1
    refine ⟨_, rfl, _, _, rfl, rfl, _, rfl, iteD (fun h1 => ?_) (fun h1 => ?_)⟩
    · refine ⟨(by show 2 ≤ sizeLine; decide), fun l hl => ?_⟩
      obtain ⟨wd, hw, gw⟩ := word_get (ts := ["<", "="]) (by decide +kernel) q0 (show q < 2 by omega)
      refine ⟨_, rfl, l, _, _, _, rfl, rfl, SqL.of upd_same, hw, ?_⟩
      have s2 := s1.new (o := .lst [V.str "<", V.str "="]) hl
      refine ⟨_, rfl, _, rfl, ?_⟩
      refine s2.ask rfl fun v x H3 d3 sv gv dv cv => ⟨_, rfl, _, rfl, _, rfl, ?_⟩
      refine (s2.dr d3).ask rfl fun v' x' H4 d4 sv' gv' dv' cv' => ⟨(by show 3 ≤ sizeLine; decide), ?_⟩
      refine mk_tup s.al (d1.trans ((dr_new s1.fd hl).trans (d3.trans d4))) (.cons (.str _) (.cons (Sd.step sv s.hB d4) (.cons sv' .nil))) (goods_c gw (goods_c gv (goods_c gv' rfl))) (by simp) ?_ ?_ k
      · simp only [PyData.depth, PyData.depthAll, dN, dT] at *; omega
      · have : cN 0 = 100 := rfl
        simp only [cost, costs] at *; omega
    refine ⟨_, rfl, rfl, _, rfl, iteD (fun h2 => ?_) (fun h2 => ?_)⟩
    · refine ⟨_, rfl, _, rfl, L, _, rfl, s1.lo.get lore_e, ?_⟩
      refine s1.pick s1.lo.se (fun z => s.li.ce.1 (List.map_eq_nil_iff.mp z)) (by rw [List.length_map]; have := s.li.ce.2.1; omega) fun x y H2 my sx d2 => ⟨(by show 2 ≤ sizeLine; decide), ?_⟩
      obtain ⟨z0, mz, rfl⟩ := List.mem_map.mp my
      refine mk_tup s.al (d1.trans d2) (.cons (.str _) (.cons sx .nil)) (goods_c (by decide +kernel) (goods_c (s.li.ce.2.2 z0 mz) rfl)) (by simp) ?_ ?_ k
      · simp only [PyData.depth, PyData.depthAll, dT] at *; omega
      · simp only [cost, costs] at *; omega
    have shC := shp (cs_good s.li.cs.2.2) (by have := cs_dep cs; omega)
    have shT := shp (tb_good s.li.tb.2) (by have := tb_dep tb; omega)
    have sh0 : SeqAt.shaped (.list []) = true := by decide +kernel
    refine ⟨_, rfl, _, _, rfl, rfl, _, rfl, iteD (fun h5 => ⟨_, rfl, L, _, rfl, s1.lo.get lore_c, s0z, fun l hl => ?_⟩) (fun h5 => ?_)⟩
    · have s2 := s1.new (o := .lst []) hl
      refine ⟨.list (cs.map chD), .list [], s2.lo.sc.dp, .lst (SqL.of upd_same) .nil, shC, sh0, _, rfl, ifT ?_ ?_⟩
      · rw [eqv_nil]
        cases hcs : cs with
        | nil => exact absurd hcs s.li.cs.1
        | cons c0 cr => rfl
      refine ⟨_, rfl, _, rfl, L, _, rfl, s2.lo.get lore_c, ?_⟩
      refine s2.pick s2.lo.sc (fun z => s.li.cs.1 (List.map_eq_nil_iff.mp z)) (by rw [List.length_map]; have := s.li.cs.2.1; omega) fun x y H2 my sx d2 => ?_
      obtain ⟨cc, mc, rfl⟩ := List.mem_map.mp my
      obtain ⟨p, rfl, tp⟩ := Sd.inCh sx
      obtain ⟨gc, c1, c4⟩ := s.li.cs.2.2 cc mc
      refine ⟨p, _, rfl, tp.now, rfl, _, _, rfl, _, _, rfl, rfl, _, rfl, _, rfl, _, rfl, ?_⟩
      refine (s2.dr d2).take (j := (cc.2 : Int)) (by omega) (by show ((cc.2 : Int)).natAbs < 2 ^ 200; exact Nat.lt_of_le_of_lt (show _ ≤ 4 by omega) (by decide)) fun r H3 r0 r1 d3 => ⟨(by show 3 ≤ sizeLine; decide), ?_⟩
      refine mk_tup s.al (d1.trans ((dr_new s1.fd hl).trans (d2.trans d3))) (.cons (.str _) (.cons (.str _) (.cons (.int _) .nil))) (goods_c (by decide +kernel) (goods_c gc (goods_c (good_small r0 (by omega)) rfl))) (by simp) ?_ ?_ k
      · simp only [PyData.depth, PyData.depthAll, dT] at *; omega
      · simp only [cost, costs] at *; omega
    refine ifF rfl ?_
    refine ⟨fun σ H' => σ = [some (.ref a), some (.ref L), some (.int (z : Int)), some (.int q), none, none, none] ∧ Dr a H H', ?_, ?_⟩
    · refine ⟨_, rfl, rfl, _, rfl, iteD (fun h6 => ⟨_, rfl, L, _, rfl, s1.lo.get lore_d, s0z, fun l hl => ?_⟩) (fun h6 => ifF rfl ⟨rfl, d1⟩)⟩
      have s2 := s1.new (o := .lst []) hl
      exact ⟨.list [], .list [], s2.lo.d.dp, .lst (SqL.of upd_same) .nil, sh0, sh0, _, rfl, ifF rfl ⟨rfl, d1.trans (dr_new s1.fd hl)⟩⟩
    rintro σ H2 ⟨rfl, d2⟩
    have s2 := s.dr d2
    refine ⟨fun σ H' => σ = [some (.ref a), some (.ref L), some (.int (z : Int)), some (.int q), none, none, none] ∧ Dr a H H', ?_, ?_⟩
    · refine ⟨_, rfl, rfl, _, rfl, iteD (fun h6 => ⟨_, rfl, L, _, rfl, s2.lo.get lore_t, s0z, fun l hl => ?_⟩) (fun h6 => ifF rfl ⟨rfl, d2⟩)⟩
      have s3 := s2.new (o := .lst []) hl
      have d3 := d2.trans (dr_new (o := .lst []) s2.fd hl)
      refine ⟨.list (tb.map tbD), .list [], s3.lo.t.dp, .lst (SqL.of upd_same) .nil, shT, sh0, _, rfl, ?_⟩
      rw [eqv_nil]
      by_cases htb : tb = []
      · rw [htb]
        exact ifF rfl ⟨rfl, d3⟩
      · refine ifT (by cases tb with | nil => exact absurd rfl htb | cons _ _ => rfl) ?_
        refine ⟨_, rfl, _, rfl, L, _, rfl, s3.lo.get lore_t, ?_⟩
        refine s3.pick s3.lo.t (fun z => htb (List.map_eq_nil_iff.mp z)) (by rw [List.length_map]; have := s.li.tb.1; omega) fun x y H4 my sx d4 => ?_
        obtain ⟨tt, mt, rfl⟩ := List.mem_map.mp my
        obtain ⟨p, pq, rfl, tp, tq⟩ := Sd.inTb sx
        refine ⟨p, _, _, _, rfl, rfl, tp.now, rfl, _, rfl, _, rfl, ?_⟩
        refine (s3.dr d4).ask rfl fun v x H5 d5 sv gv dv cv => ⟨(by show 3 ≤ sizeLine; decide), ?_⟩
        refine mk_tup s.al (d3.trans (d4.trans d5)) (.cons (.str _) (.cons (.str _) (.cons sv .nil))) (goods_c (by decide +kernel) (goods_c (s.li.tb.2 tt mt).1 (goods_c gv rfl))) (by simp) ?_ ?_ k
        · simp only [PyData.depth, PyData.depthAll, dN, dT] at *; omega
        · have : cN 0 = 100 := rfl
          simp only [cost, costs] at *; omega
    rintro σ H3 ⟨rfl, d3⟩
    have s3 := s.dr d3
    refine ⟨_, rfl, _, _, rfl, rfl, _, rfl, iteD (fun h9 => ?_) (fun h9 => ?_)⟩
    · have cp : cN (z - 1) ≤ cN z := by
        cases z with
        | zero => exact Nat.le_refl _
        | succ n => show cN n ≤ cN (n + 1); simp only [cN, cNT]; omega
      refine ⟨_, rfl, _, rfl, _, rfl, _, _, rfl, rfl, _, rfl, iteD (fun hz => ⟨_, rfl, _, _, rfl, rfl, ?_⟩) (fun hz => ?_)⟩
      all_goals
        refine s3.ask (z := z - 1) (by omega) fun v x H4 d4 sv gv dv cv => ⟨(by show 3 ≤ sizeLine; decide), ?_⟩
        refine mk_tup s.al (d3.trans d4) (.cons (.str _) (.cons (.int _) (.cons sv .nil))) (goods_c (by decide +kernel) (goods_c (by decide +kernel) (goods_c gv rfl))) (by simp) ?_ ?_ k
        · simp only [PyData.depth, PyData.depthAll, dN, dT] at *; omega
        · simp only [cost, costs] at *; omega
    obtain ⟨n, rfl⟩ : ∃ n, z = n + 1 := ⟨z - 1, by omega⟩
    have cb : cT (n + 1) = 200 + (800 + cT n + 2 * cN n) + 2 * cT n := rfl
    refine ⟨_, rfl, rfl, _, rfl, iteD (fun h10 => ?_) (fun h10 => ?_)⟩
    · refine ⟨_, rfl, _, rfl, _, rfl, _, _, rfl, rfl, ?_⟩
      refine s3.ask (z := n) (by omega) fun v x H4 d4 sv gv dv cv => ⟨(by show 2 ≤ sizeLine; decide), ?_⟩
      refine mk_tup s.al (d3.trans d4) (.cons (.str _) (.cons sv .nil)) (goods_c (by decide +kernel) (goods_c gv rfl)) (by simp) ?_ ?_ k
      · simp only [PyData.depth, PyData.depthAll, dT] at *; omega
      · simp only [cost, costs] at *; omega
    · have n9 : q ≠ 9 := fun z => h10 (by rw [z])
      refine ⟨(by show 2 ≤ sizeLine; decide), fun l hl => ?_⟩
      obtain ⟨wd, hw, gw⟩ := word_get (ts := ["and", "or"]) (by decide +kernel) (show 0 ≤ q - 10 by omega) (show q - 10 < 2 by omega)
      refine ⟨_, rfl, _, _, rfl, rfl, l, _, _, _, rfl, rfl, SqL.of upd_same, hw, ?_⟩
      have s4 := s3.new (o := .lst [V.str "and", V.str "or"]) hl
      refine ⟨_, rfl, _, rfl, _, rfl, _, rfl, _, _, rfl, rfl, ?_⟩
      refine s4.ask (z := n) (by omega) fun v x H5 d5 sv gv dv cv => ⟨_, rfl, _, rfl, _, rfl, _, _, rfl, rfl, ?_⟩
      refine (s4.dr d5).ask (z := n) (by omega) fun v' x' H6 d6 sv' gv' dv' cv' => ⟨(by show 3 ≤ sizeLine; decide), ?_⟩
      refine mk_tup s.al (d3.trans ((dr_new s3.fd hl).trans (d5.trans d6))) (.cons (.str _) (.cons (Sd.step sv s.hB d6) (.cons sv' .nil))) (goods_c gw (goods_c gv (goods_c gv' rfl))) (by simp) ?_ ?_ k
      · simp only [PyData.depth, PyData.depthAll, dT] at *; omega
      · simp only [cost, costs] at *; omega
end
end R61

namespace R61
open PySem L2 L3
open C8 (pss_cut tCut pe_gc)
section
variable {P : Program} {w : World} {K : PySem.W.Frag} {mg : Str → Option Value} {base : Heap}
theorem ok_numS {f fP fT fB : Addr} {fd fdP fdT fdB : FuncData} (n : Nat) (z : Zn mg) (F : Fun K "_law_number_of" "_law_number_of" sNum f fd) (UP : Use P w K mg base "_law_pick" 2 fP fdP ["_law_feed_here", "_law_some"] (spPick K)) (UT : Use P w K mg base "_law_take" 1 fT fdT ["_law_feed_here", "_law_many"] spTk)
    (UN0 : Use P w K mg base "_law_number_of" 3 f fd pFL (spDraw K 0 (dN 0) (cN 0))) (UB0 : Use P w K mg base "_law_truth_of" 4 fB fdB pFL (spDraw K 0 (dT 0) (cT 0)))
    (UN : Use P w K mg base "_law_number_of" (3 + 2 * n) f fd pFL (spDraw K n (dN n) (cN n))) (UB : Use P w K mg base "_law_truth_of" (4 + 2 * n) fB fdB pFL (spDraw K n (dT n) (cT n))) : FnOk P w K mg base CX0 (4 + 2 * n + 1) f fd pFL (spDraw K (n + 1) (dN (n + 1)) (cN (n + 1))) := by
  refine F.ok scNu (fun vs H Q E h => ?_) (fun cdv A outer s H vs Q E hr h => ?_)
  · obtain ⟨a, L, B, cs, ce, tb, pl, c, e, d, r, m, t, rfl, _⟩ := draw_inv h
    rfl
  · obtain ⟨a, L, B, cs, ce, tb, pl, c, e, d, r, m, t, rfl, s, k⟩ := draw_inv h
    have nd := scNu.nd
    have hu := hr.units
    have hu1 := hu_of hr
    have s0z : 0 ≤ sizeLine := Nat.zero_le _
    have cb : cN (n + 1) = 800 + cT n + 2 * cN n := rfl
    have cg := cT_ge n
    have cg0 := cN_ge n
    refine ⟨_, (pss_cons (ps_set (i := 3) nd rfl (.inl rfl) (pe_ifExp (pt_cmpR op_gt (pv 2) pe_int (nomark _)) (pe_call UT.G (hr.mono (by omega)) (by rfl) UT.g UT.kp UT.b .nil pass0 (pa_cons (pv 0) (pa_cons pe_int pa_nil))) (pe_call UT.G (hr.mono (by omega)) (by rfl) UT.g UT.kp UT.b .nil pass0 (pa_cons (pv 0) (pa_cons pe_int pa_nil)))))
      (pss_cons (ps_if (pt_cmpR op_lt (pv 3) pe_int (nomark _)) (pss_one (ps_ret (pe_call UP.G (hr.mono (by omega)) (by rfl) UP.g UP.kp UP.b .nil pass0 (pa_cons (pv 0) (pa_cons (pe_lst (pa_cons pe_int (pa_cons pe_int (pa_cons pe_int (pa_cons pe_int (pa_cons (pe_un un_neg pe_int) (pa_cons pe_int (pa_cons (pe_op op_pow pe_int pe_int) (pa_cons (pe_op op_pow pe_int pe_int) pa_nil))))))))) pa_nil))))) pss_nil)
      (pss_cons (ps_if (pt_cmpR op_lt (pv 3) pe_int (nomark _)) (pss_one (ps_ret (pe_call UP.G (hr.mono (by omega)) (by rfl) UP.g UP.kp UP.b .nil pass0 (pa_cons (pv 0) (pa_cons (pe_op op_cat (pe_dget hu1 (pv 1) pe_str (fun _ _ => rfl)) (pe_lc (own := [("_law_title", 4)]) (g := gName 4) (tt := tYes) rfl nd (pi_list (pe_dget hu1 (pv 1) pe_str (fun _ _ => rfl))) (blkOk_by (N := NNum) (sc := defScope sNum) (by decide +kernel)) (fun _ _ _ _ _ => pg_name (i := 4) nd rfl (.inl rfl)) (fun _ _ _ _ _ => pts_nil) (fun _ _ _ _ _ => (pe_tup (pa_cons pe_str (pa_cons (pv 4) pa_nil)))))) pa_nil))))) pss_nil)
      (pss_cons (ps_if (pt_cmpR op_lt (pv 3) pe_int (nomark _)) (pss_cons (ps_set (i := 5) nd rfl (.inl rfl) (pe_ix (r := rIxL K) (by exact ix_list) (pe_lst (pa_cons pe_str (pa_cons pe_str (pa_cons pe_str (pa_cons pe_str (pa_cons pe_str pa_nil)))))) (pe_op op_sub (pv 3) pe_int) (fun _ _ => rfl)))
      (pss_one (ps_ret (pe_tup (pa_cons (pv 5) (pa_cons (pe_call UN.G (hr.mono (by omega)) (by rfl) UN.g UN.kp UN.b .nil pass0 (pa_cons (pv 0) (pa_cons (pv 1) (pa_cons (pe_op op_sub (pv 2) pe_int) pa_nil)))) (pa_cons (pe_call UN.G (hr.mono (by omega)) (by rfl) UN.g UN.kp UN.b .nil pass0 (pa_cons (pv 0) (pa_cons (pv 1) (pa_cons (pe_op op_sub (pv 2) pe_int) pa_nil)))) pa_nil))))))) pss_nil)
      (pss_cons (ps_if (pt_cmpR op_eq (pv 3) pe_int (nomark _)) (pss_cons (ps_set (i := 6) nd rfl (.inl rfl) (pe_call UB.G (hr.mono (by omega)) (by rfl) UB.g UB.kp UB.b .nil pass0 (pa_cons (pv 0) (pa_cons (pv 1) (pa_cons (pe_op op_sub (pv 2) pe_int) pa_nil)))))
      (pss_one (ps_ret (pe_tup (pa_cons pe_str (pa_cons (pv 6) (pa_cons (pe_call UN.G (hr.mono (by omega)) (by rfl) UN.g UN.kp UN.b .nil pass0 (pa_cons (pv 0) (pa_cons (pv 1) (pa_cons (pe_op op_sub (pv 2) pe_int) pa_nil)))) (pa_cons (pe_call UN.G (hr.mono (by omega)) (by rfl) UN.g UN.kp UN.b .nil pass0 (pa_cons (pv 0) (pa_cons (pv 1) (pa_cons (pe_op op_sub (pv 2) pe_int) pa_nil)))) pa_nil)))))))) pss_nil)
      (pss_cut (ps_if (PW.pt (pw_and (pt_cmpR op_eq (pv 3) pe_int (nomark _)) (pw_and1 (pt_cmpR (op_neD hu) (pe_dget hu1 (pv 1) pe_str (fun _ _ => rfl)) (pe_lst pa_nil) (nomark _))))) pss_dead pss_nil)
      (pss_cons (ps_if (pt_cmpR op_eq (pv 3) pe_int (nomark _)) (pss_one (ps_ret (pe_tup (pa_cons pe_str (pa_cons (pe_call UP.G (hr.mono (by omega)) (by rfl) UP.g UP.kp UP.b .nil pass0 (pa_cons (pv 0) (pa_cons (pe_lst (pa_cons pe_str (pa_cons pe_str pa_nil))) pa_nil))) pa_nil))))) pss_nil)
      (pss_cons (ps_if (pt_cmpR (op_eqD hu) (pe_dget hu1 (pv 1) pe_str (fun _ _ => rfl)) (pe_lst pa_nil) (nomark _)) (pss_one (ps_ret (pe_call UP.G (hr.mono (by omega)) (by rfl) UP.g UP.kp UP.b .nil pass0 (pa_cons (pv 0) (pa_cons (pe_dget hu1 (pv 1) pe_str (fun _ _ => rfl)) pa_nil))))) pss_nil)
      (pss_cons (ps_asg (pe_call UP.G (hr.mono (by omega)) (by rfl) UP.g UP.kp UP.b .nil pass0 (pa_cons (pv 0) (pa_cons (pe_dget hu1 (pv 1) pe_str (fun _ _ => rfl)) pa_nil))) (pg_tup (by rfl) (pgs_cons (pg_name (i := 4) nd rfl (.inl rfl)) (pgs_cons (pg_name (i := 9) nd rfl (.inl rfl)) pgs_nil))))
      (pss_cons (ps_if (PW.pt (pw_or (pt_cmpR op_eq (pv 3) pe_int (nomark _)) (pw_or1 (pt_cmp (pc_din hu1 pe_str (pv 1)))))) (pss_one (ps_ret (pe_tup (pa_cons pe_str (pa_cons (pv 4) (pa_cons (pe_call UN0.G (hr.mono (by omega)) (by rfl) UN0.g UN0.kp UN0.b .nil pass0 (pa_cons (pv 0) (pa_cons (pv 1) (pa_cons pe_int pa_nil)))) (pa_cons (pe_call UP.G (hr.mono (by omega)) (by rfl) UP.g UP.kp UP.b .nil pass0 (pa_cons (pv 0) (pa_cons (pe_callTy call_list_of (by rfl) z.lst PyProof.Rows.boot_list (pa_cons (pv 9) pa_nil)) pa_nil))) pa_nil))))))) pss_nil)
      (pss_cons (ps_par (i := 5) (j := 10) (by rfl) nd rfl rfl (by decide) rfl rfl (pa_cons (pe_call UP.G (hr.mono (by omega)) (by rfl) UP.g UP.kp UP.b .nil pass0 (pa_cons (pv 0) (pa_cons (pe_lst (pa_cons pe_str (pa_cons pe_str (pa_cons pe_str (pa_cons pe_str pa_nil))))) pa_nil))) (pa_cons (pe_call UP.G (hr.mono (by omega)) (by rfl) UP.g UP.kp UP.b .nil pass0 (pa_cons (pv 0) (pa_cons (pe_callTy call_list_of (by rfl) z.lst PyProof.Rows.boot_list (pa_cons (pv 9) pa_nil)) pa_nil))) pa_nil)) (by rfl))
      (pss_cons (ps_set (i := 6) nd rfl (.inl rfl) (pe_call UP.G (hr.mono (by omega)) (by rfl) UP.g UP.kp UP.b .nil pass0 (pa_cons (pv 0) (pa_cons (pe_lst (pa_cons (pe_tup (pa_cons pe_str (pa_cons pe_int (pa_cons (pe_tup (pa_cons pe_str (pa_cons pe_str pa_nil))) pa_nil)))) (pa_cons (pe_tup (pa_cons pe_str (pa_cons pe_int (pa_cons pe_int pa_nil)))) (pa_cons (pe_call UB0.G (hr.mono (by omega)) (by rfl) UB0.g UB0.kp UB0.b .nil pass0 (pa_cons (pv 0) (pa_cons (pv 1) (pa_cons pe_int pa_nil)))) pa_nil)))) pa_nil))))
      (pss_one (ps_ret (pe_op op_catT (pe_tup (pa_cons (pv 5) (pa_cons pe_str (pa_cons (pv 4) (pa_cons (pv 6) pa_nil))))) (pe_op op_rep01 (pe_tup (pa_cons (pe_tup (pa_cons pe_str (pa_cons (pv 4) (pa_cons (pe_tup (pa_cons pe_str (pa_cons pe_str pa_nil))) (pa_cons (pv 10) pa_nil))))) pa_nil)) (pe_callTy call_int1 (by rfl) z.int PyProof.Rows.boot_int (pa_cons (pe_cmpR op_ne (pv 5) pe_str (nomark _)) pa_nil)))))))))))))))))), ?_⟩
    refine ⟨_, rfl, _, _, rfl, rfl, _, rfl, ifT (decide_eq_true (by omega)) ⟨_, rfl, ?_⟩⟩
    refine s.take (j := 14) (by decide) (by decide) fun q H1 q0 q1 d1 => ?_
    have s1 := s.dr d1
    have inb : ∀ x : PyData, x ∈ ([0, 1, 2, 3, -1, 7, 10 ^ 17, 10 ^ 9] : List Int).map PyData.int → good x = true ∧ x.depth ≤ 1 ∧ cost x ≤ 100 := by
      have q : (([0, 1, 2, 3, -1, 7, 10 ^ 17, 10 ^ 9] : List Int).map PyData.int).all (fun x => good x && decide (x.depth ≤ 1) && decide (cost x ≤ 100)) = true := by decide +kernel
      intro x m
      have := List.all_eq_true.mp q x m
      rw [Bool.and_eq_true, Bool.and_eq_true, decide_eq_true_eq, decide_eq_true_eq] at this
      exact ⟨this.1.1, this.1.2, this.2⟩
    refine ⟨_, rfl, _, _, rfl, rfl, _, rfl, iteD (fun h1 => ?_) (fun h1 => ?_)⟩
    · refine ⟨_, rfl, _, rfl, _, _, rfl, rfl, ⟨by decide, by decide, by decide⟩, _, _, rfl, rfl, ⟨by decide, by decide, by decide⟩, (by show 8 ≤ sizeLine; decide), fun l hl => ?_⟩
      refine pick_new (B := B) (ds := ([0, 1, 2, 3, -1, 7, 10 ^ 17, 10 ^ 9] : List Int).map PyData.int) d1.fd s.hB s1.al hl ?_ (fun z => by cases z) (by decide) fun x y H2 my sx d2 => ?_
      · exact .cons (.int _) (.cons (.int _) (.cons (.int _) (.cons (.int _) (.cons (.int _) (.cons (.int _) (.cons (.int _) (.cons (.int _) .nil)))))))
      · obtain ⟨g1, g2, g3⟩ := inb y my
        exact k x y H2 (d1.trans d2) sx g1 (by show _ ≤ 2 * (n + 1) + 1; omega) (by omega)
    refine ⟨_, rfl, _, _, rfl, rfl, _, rfl, iteD (fun h4 => ?_) (fun h4 => ?_)⟩
    · skip
      have lo1 := s1.lo
      obtain ⟨aE, rfl, eR⟩ := lo1.e
      obtain ⟨aM, ms, rfl, mL, mA⟩ := lo1.m.inL
      obtain rfl := sd_strs mA
      refine ⟨_, rfl, _, rfl, L, _, rfl, lo1.get lore_e, _, rfl, L, _, rfl, lo1.get lore_m, aM, rfl, ⟨_, mL.now⟩, fun D hD => lc_list (K := K) (a := aM) (xs := mineT.map V.str)
        (fun j H' => ∃ vs, H' D = some (.lst vs) ∧ SdAll K (And1 B D) H' vs ((mineT.take j).map myD) ∧ Same H1 H')
        ⟨[], upd_same, .nil, same_new hD⟩ (fun j H' _ h => ?_) ?_ ?_⟩
      · obtain ⟨vs, _, _, s2⟩ := h
        exact s2.seq mL.now
      · rintro j x H2 hx ⟨vs, eD, sa, s2⟩
        rw [List.getElem?_map] at hx
        obtain ⟨z, hz, rfl⟩ := Option.map_eq_some_iff.mp hx
        have lsz := sizeLine_eq
        have ln := sa.len
        rw [List.length_map, List.length_take] at ln
        have l2 : mineT.length = 2 := rfl
        refine ⟨rfl, _, rfl, (by show 2 ≤ sizeLine; decide), fun t ht => ⟨vs, same_new ht _ _ eD, by omega, vs ++ [.ref t], upd_same, ?_, ?_⟩⟩
        · have al : ∀ b, And1 B D b → H2 b ≠ none := fun b hb => by
            rcases hb with hb | rfl
            · exact L3.Same.alive (s1.al) s2 b hb
            · rw [eD]; exact fun z => nomatch z
          have st := same_new (o := .tup [V.str "my", V.str z]) ht
          have sn : Sd K (And1 B D) (upd H2 t (.tup [V.str "my", V.str z])) (.ref t) (myD z) := Sd.newT al ht (.cons (.str _) (.cons (.str _) .nil))
          have o2 : Off (And1 B D) (upd H2 t (.tup [V.str "my", V.str z])) (upd (upd H2 t (.tup [V.str "my", V.str z])) D (.lst (vs ++ [.ref t]))) := off_at (.inr rfl)
          rw [List.take_add_one, hz, List.map_append]
          exact SdAll.off o2 _ _ (SdAll.snoc (SdAll.off (Same.off st) _ _ sa) sn)
        · exact fun b o e => by
            rw [upd_ne (ne_of_none e hD)]
            exact same_new ht b o (s2 b o e)
      · rintro H2 ⟨vs, eD, sa, s2⟩
        have e2 := eR H2 (Same.off s2)
        have sB : SdAll K B H2 vs ((mineT.take (mineT.map V.str).length).map myD) := SdAll.less (fun b h => .inl h) _ _ sa
        have ln := sB.len
        rw [List.length_map, List.take_of_length_le (by rw [List.length_map]; exact Nat.le_refl _)] at ln
        rw [List.take_of_length_le (by rw [List.length_map]; exact Nat.le_refl _)] at sB
        have lsz := sizeLine_eq
        have l2 : mineT.length = 2 := rfl
        refine ⟨aE, D, _, _, rfl, rfl, e2, eD, by rw [List.length_map]; have := s.li.ce.2.1; omega, fun p hp => ?_⟩
        have d2 : Dr a H1 H2 := dr_of s2 d1.fd
        refine pick_new (B := B) (ds := ce.map .str ++ mineT.map myD) d2.fd s.hB (Dr.alive s.al (d1.trans d2)) hp ((strs_sd ce).app sB) (fun z => s.li.ce.1 (List.map_eq_nil_iff.mp (List.append_eq_nil_iff.mp z).1)) (by rw [List.length_append, List.length_map, List.length_map]; have := s.li.ce.2.1; omega) fun x y H3 my sx d3 => ?_
        have dd := d1.trans (d2.trans d3)
        rcases List.mem_append.mp my with my | my
        · obtain ⟨z, mz, rfl⟩ := List.mem_map.mp my
          exact k x _ H3 dd sx (s.li.ce.2.2 z mz) (Nat.zero_le _) (by show 40 ≤ _; omega)
        · obtain ⟨g1, g2, g3⟩ := my_good y my
          exact k x y H3 dd sx g1 (by show _ ≤ 2 * (n + 1) + 1; omega) (by omega)
    refine ⟨_, rfl, _, _, rfl, rfl, _, rfl, iteD (fun h9 => ?_) (fun h9 => ?_)⟩
    · refine ⟨(by show 5 ≤ sizeLine; decide), fun l hl => ?_⟩
      obtain ⟨wd, hw, gw⟩ := word_get (ts := ["+", "-", "*", "least", "most"]) (by decide +kernel) (show 0 ≤ q - 4 by omega) (show q - 4 < 5 by omega)
      refine ⟨_, rfl, _, _, rfl, rfl, l, _, _, _, rfl, rfl, SqL.of upd_same, hw, ?_⟩
      have s4 := s1.new (o := .lst [V.str "+", V.str "-", V.str "*", V.str "least", V.str "most"]) hl
      refine ⟨_, rfl, _, rfl, _, rfl, _, rfl, _, _, rfl, rfl, ?_⟩
      refine s4.ask (z := n) (by omega) fun v x H5 d5 sv gv dv cv => ⟨_, rfl, _, rfl, _, rfl, _, _, rfl, rfl, ?_⟩
      refine (s4.dr d5).ask (z := n) (by omega) fun v' x' H6 d6 sv' gv' dv' cv' => ⟨(by show 3 ≤ sizeLine; decide), ?_⟩
      refine mk_tup s.al (d1.trans ((dr_new s1.fd hl).trans (d5.trans d6))) (.cons (.str _) (.cons (Sd.step sv s.hB d6) (.cons sv' .nil))) (goods_c gw (goods_c gv (goods_c gv' rfl))) (by simp) ?_ ?_ k
      · simp only [PyData.depth, PyData.depthAll, dN] at *; omega
      · simp only [cost, costs] at *; omega
    refine ⟨_, rfl, rfl, _, rfl, iteD (fun hx9 => ?_) (fun hx9 => ?_)⟩
    · refine ⟨_, rfl, _, rfl, _, rfl, _, _, rfl, rfl, ?_⟩
      refine s1.ask (z := n) (by omega) fun v x H4 d4 sv gv dv cv => ⟨_, rfl, _, rfl, _, rfl, _, rfl, _, _, rfl, rfl, ?_⟩
      refine (s1.dr d4).ask (z := n) (by omega) fun v' x' H5 d5 sv' gv' dv' cv' => ⟨_, rfl, _, rfl, _, rfl, _, _, rfl, rfl, ?_⟩
      refine ((s1.dr d4).dr d5).ask (z := n) (by omega) fun v2 x2 H6 d6 sv2 gv2 dv2 cv2 => ⟨(by show 4 ≤ sizeLine; decide), ?_⟩
      refine mk_tup s.al (d1.trans (d4.trans (d5.trans d6))) (.cons (.str _) (.cons (Sd.step (Sd.step sv s.hB d5) s.hB d6) (.cons (Sd.step sv' s.hB d6) (.cons sv2 .nil)))) (goods_c (by decide +kernel) (goods_c gv (goods_c gv' (goods_c gv2 rfl)))) (by simp) ?_ ?_ k
      · simp only [PyData.depth, PyData.depthAll, dN, dT] at *; omega
      · simp only [cost, costs] at *; omega
    have sh0 : SeqAt.shaped (.list []) = true := by decide +kernel
    have shT := shp (tb_good s.li.tb.2) (by have := tb_dep tb; omega)
    refine ⟨fun σ H' => σ = [some (.ref a), some (.ref L), some (.int ((n + 1 : Nat) : Int)), some (.int q), none, none, none, none, none, none, none] ∧ Dr a H H', ?_, ?_⟩
    · refine ⟨_, rfl, rfl, _, rfl, iteD (fun h6 => ⟨_, rfl, L, _, rfl, s1.lo.get lore_r, s0z, fun l hl => ?_⟩) (fun h6 => ifF rfl ⟨rfl, d1⟩)⟩
      have s2 := s1.new (o := .lst []) hl
      exact ⟨.list [], .list [], s2.lo.r.dp, .lst (SqL.of upd_same) .nil, sh0, sh0, _, rfl, ifF rfl ⟨rfl, d1.trans (dr_new s1.fd hl)⟩⟩
    rintro σ H2 ⟨rfl, d2⟩
    have s2 := s.dr d2
    refine ⟨_, rfl, rfl, _, rfl, iteD (fun h11 => ?_) (fun h11 => ?_)⟩
    · refine ⟨_, rfl, (by show 2 ≤ sizeLine; decide), fun l hl => ?_⟩
      refine s2.pickN (ds := [.str "a", .str "b"]) hl (.cons (.str _) (.cons (.str _) .nil)) (by simp) (by simp) fun x y H3 my sx d3 => ⟨(by show 2 ≤ sizeLine; decide), ?_⟩
      have gy : good y = true ∧ cost y = 40 ∧ y.depth = 0 := by
        simp only [List.mem_cons, List.not_mem_nil, or_false] at my
        rcases my with rfl | rfl <;> exact ⟨by decide +kernel, rfl, rfl⟩
      refine mk_tup s.al (d2.trans d3) (.cons (.str _) (.cons sx .nil)) (goods_c (by decide +kernel) (goods_c gy.1 rfl)) (by simp) ?_ ?_ k
      · simp only [PyData.depth, PyData.depthAll, gy.2.2, dN]; omega
      · simp only [cost, costs, gy.2.1]; omega
    refine ⟨_, rfl, L, _, rfl, s2.lo.get lore_t, s0z, fun l hl => ?_⟩
    have s3 := s2.new (o := .lst []) hl
    have d3 := d2.trans (dr_new (o := .lst []) s2.fd hl)
    refine ⟨.list (tb.map tbD), .list [], s3.lo.t.dp, .lst (SqL.of upd_same) .nil, shT, sh0, _, rfl, ?_⟩
    rw [eqv_nil]
    by_cases htb : tb = []
    · refine ifT (by rw [htb]; rfl) ?_
      refine ⟨_, rfl, _, rfl, L, _, rfl, s3.lo.get lore_e, ?_⟩
      refine s3.pick s3.lo.se (fun z => s.li.ce.1 (List.map_eq_nil_iff.mp z)) (by rw [List.length_map]; have := s.li.ce.2.1; omega) fun x y H4 my sx d4 => ?_
      obtain ⟨z0, mz, rfl⟩ := List.mem_map.mp my
      exact k x _ H4 (d3.trans d4) sx (s.li.ce.2.2 z0 mz) (Nat.zero_le _) (by show 40 ≤ _; omega)
    refine ifF (by cases tb with | nil => exact absurd rfl htb | cons _ _ => rfl) ?_
    refine ⟨_, rfl, _, rfl, L, _, rfl, s3.lo.get lore_t, ?_⟩
    refine s3.pick s3.lo.t (fun z => htb (List.map_eq_nil_iff.mp z)) (by rw [List.length_map]; have := s.li.tb.1; omega) fun x y H4 my sx d4 => ?_
    obtain ⟨tt, mt, rfl⟩ := List.mem_map.mp my
    obtain ⟨p, pq, rfl, tp, tq⟩ := Sd.inTb sx
    obtain ⟨gt, tne, tl, gps⟩ := s.li.tb.2 tt mt
    have s4 := s3.dr d4
    have d5 := d3.trans d4
    have c0 : cN 0 = 100 := rfl
    have cT0 : cT 0 = 300 := rfl
    refine ⟨p, _, rfl, tp.now, rfl, _, _, rfl, _, _, rfl, rfl, ?_⟩
    refine ⟨_, rfl, rfl, _, rfl, iteD (fun h12 => ifT rfl ?_) (fun h12 => ⟨_, rfl, L, _, rfl, s4.lo.has "plain", _, rfl, ?_⟩)⟩
    · skip
      refine ⟨_, rfl, _, rfl, _, rfl, ?_⟩
      refine s4.ask rfl fun v x H5 d6 sv gv dv cv => ⟨_, rfl, _, rfl, pq, _, rfl, .inr ((tq.off (dr_off s.hB d6)).now), fun l hl => ?_⟩
      refine (s4.dr d6).pickN (ds := tt.2.map .str) hl (strs_sd _) (fun z => tne (List.map_eq_nil_iff.mp z)) (by rw [List.length_map]; omega) fun y yd H6 my sy d7 => ⟨(by show 4 ≤ sizeLine; decide), ?_⟩
      obtain ⟨z0, mz, rfl⟩ := List.mem_map.mp my
      refine mk_tup s.al (d5.trans (d6.trans d7)) (.cons (.str _) (.cons (.str _) (.cons (Sd.step sv s.hB d7) (.cons sy .nil)))) (goods_c (by decide +kernel) (goods_c gt (goods_c gv (goods_c (gps z0 mz) rfl)))) (by simp) ?_ ?_ k
      · simp only [PyData.depth, PyData.depthAll, dN] at *; omega
      · simp only [cost, costs] at *; omega
    rw [lore_p]
    cases pl with
    | true =>
      refine ifT rfl ?_
      refine ⟨_, rfl, _, rfl, _, rfl, ?_⟩
      refine s4.ask rfl fun v x H5 d6 sv gv dv cv => ⟨_, rfl, _, rfl, pq, _, rfl, .inr ((tq.off (dr_off s.hB d6)).now), fun l hl => ?_⟩
      refine (s4.dr d6).pickN (ds := tt.2.map .str) hl (strs_sd _) (fun z => tne (List.map_eq_nil_iff.mp z)) (by rw [List.length_map]; omega) fun y yd H6 my sy d7 => ⟨(by show 4 ≤ sizeLine; decide), ?_⟩
      obtain ⟨z0, mz, rfl⟩ := List.mem_map.mp my
      refine mk_tup s.al (d5.trans (d6.trans d7)) (.cons (.str _) (.cons (.str _) (.cons (Sd.step sv s.hB d7) (.cons sy .nil)))) (goods_c (by decide +kernel) (goods_c gt (goods_c gv (goods_c (gps z0 mz) rfl)))) (by simp) ?_ ?_ k
      · simp only [PyData.depth, PyData.depthAll, dN] at *; omega
      · simp only [cost, costs] at *; omega
    | false =>
      refine ifF rfl ?_
      refine ⟨_, rfl, (by show 4 ≤ sizeLine; decide), fun l hl => ?_⟩
      refine s4.pickN (ds := [.str "count", .str "sum", .str "low", .str "high"]) hl (.cons (.str _) (.cons (.str _) (.cons (.str _) (.cons (.str _) .nil)))) (by simp) (by simp) fun x y H5 my sx d6 => ?_
      obtain ⟨wd, rfl, gw⟩ : ∃ wd, y = PyData.str wd ∧ good (.str wd) = true := by
        simp only [List.mem_cons, List.not_mem_nil, or_false] at my
        rcases my with rfl | rfl | rfl | rfl <;> exact ⟨_, rfl, by decide +kernel⟩
      obtain rfl := sx.isStr
      have s5 := s4.dr d6
      refine ⟨_, rfl, _, rfl, pq, _, rfl, .inr ((tq.off (dr_off s.hB d6)).now), fun l2 hl2 => ?_⟩
      refine s5.pickN (ds := tt.2.map .str) hl2 (strs_sd _) (fun z => tne (List.map_eq_nil_iff.mp z)) (by rw [List.length_map]; omega) fun y yd H6 my sy d7 => ?_
      obtain ⟨z0, mz, rfl⟩ := List.mem_map.mp my
      obtain rfl := sy.isStr
      have s6 := s5.dr d7
      refine ⟨_, _, rfl, _, rfl, (by show 2 ≤ sizeLine; decide), fun p1 hp1 => ⟨(by show 3 ≤ sizeLine; decide), fun p2 hp2 => ⟨(by show 3 ≤ sizeLine; decide), fun p3 hp3 => ⟨_, rfl, _, rfl, ?_⟩⟩⟩⟩
      have s7 := s6.new (o := .tup [V.str "my", V.str "k"]) hp1
      have s8 := s7.new (o := .tup [V.str "<", V.int 0, V.ref p1]) hp2
      have s9 := s8.new (o := .tup [V.str "=", V.int 1, V.int 1]) hp3
      have S1 : Sd K B _ (.ref p1) (.tuple [.str "my", .str "k"]) := Sd.newT s6.al hp1 (.cons (.str "my") (.cons (.str "k") .nil))
      have S2 : Sd K B _ (.ref p2) (.tuple [.str "<", .int 0, .tuple [.str "my", .str "k"]]) := Sd.newT s7.al hp2 (.cons (.str "<") (.cons (.int 0) (.cons S1 .nil)))
      have S3 : Sd K B _ (.ref p3) (.tuple [.str "=", .int 1, .int 1]) := Sd.newT s8.al hp3 (.cons (.str "=") (.cons (.int 1) (.cons (.int 1) .nil)))
      have dp := (dr_new (o := .tup [V.str "my", V.str "k"]) s6.fd hp1).trans ((dr_new (o := .tup [V.str "<", V.int 0, V.ref p1]) s7.fd hp2).trans (dr_new (o := .tup [V.str "=", V.int 1, V.int 1]) s8.fd hp3))
      have d23 := dr_new (o := .tup [V.str "=", V.int 1, V.int 1]) s8.fd hp3
      refine s9.ask rfl fun v x H7 d8 sv gv dv cv => ⟨(by show 3 ≤ sizeLine; decide), fun l3 hl3 => ?_⟩
      refine (s9.dr d8).pickN (ds := [.tuple [.str "<", .int 0, .tuple [.str "my", .str "k"]], .tuple [.str "=", .int 1, .int 1], x]) hl3 (.cons (Sd.step S2 s.hB (d23.trans d8)) (.cons (Sd.step S3 s.hB d8) (.cons sv .nil))) (by simp) (by simp) fun w wx H8 mw sw d9 => ?_
      have hw : good wx = true ∧ wx.depth ≤ 2 ∧ cost wx ≤ 300 := by
        simp only [List.mem_cons, List.not_mem_nil, or_false] at mw
        rcases mw with rfl | rfl | rfl
        · exact ⟨by decide +kernel, by decide, by decide⟩
        · exact ⟨by decide +kernel, by decide, by decide⟩
        · exact ⟨gv, dv, cv⟩
      obtain ⟨gw2, dw2, cw2⟩ := hw
      have dd := d5.trans (d6.trans (d7.trans (dp.trans (d8.trans d9))))
      have sA := s.dr dd
      clear S1 S2 S3 s9 s8 s7 s6 d23 dp
      refine ⟨_, rfl, _, rfl, _, rfl, (by show 4 ≤ sizeLine; decide), fun p5 hp5 => ⟨_, rfl, (by show 2 ≤ sizeLine; decide), fun p6 hp6 => ⟨_, rfl, (by show 4 ≤ sizeLine; decide), fun p7 hp7 => ⟨(by show 1 ≤ sizeLine; decide), fun p8 hp8 => ⟨_, rfl, rfl, .inr ⟨_, rfl, ?_⟩⟩⟩⟩⟩⟩
      have sB1 := sA.new (o := .tup [V.str wd, V.str "k", V.str tt.1, w]) hp5
      have sB2 := sB1.new (o := .tup [V.str "my", V.str "k"]) hp6
      have sB3 := sB2.new (o := .tup [V.str "part", V.str tt.1, V.ref p6, V.str z0]) hp7
      have sB4 := sB3.new (o := .tup [V.ref p7]) hp8
      have R5 : Sd K B _ (.ref p5) (.tuple [.str wd, .str "k", .str tt.1, wx]) := Sd.newT sA.al hp5 (.cons (.str wd) (.cons (.str "k") (.cons (.str tt.1) (.cons sw .nil))))
      have R6 : Sd K B _ (.ref p6) (.tuple [.str "my", .str "k"]) := Sd.newT sB1.al hp6 (.cons (.str "my") (.cons (.str "k") .nil))
      have R7 : Sd K B _ (.ref p7) (.tuple [.str "part", .str tt.1, .tuple [.str "my", .str "k"], .str z0]) := Sd.newT sB2.al hp7 (.cons (.str "part") (.cons (.str tt.1) (.cons R6 (.cons (.str z0) .nil))))
      have e5 := dr_new (o := .tup [V.str wd, V.str "k", V.str tt.1, w]) sA.fd hp5
      have e6 := dr_new (o := .tup [V.str "my", V.str "k"]) sB1.fd hp6
      have e7 := dr_new (o := .tup [V.str "part", V.str tt.1, V.ref p6, V.str z0]) sB2.fd hp7
      have e8 := dr_new (o := .tup [V.ref p7]) sB3.fd hp8
      have t5 := same_new (o := .tup [V.ref p7]) hp8 _ _ (same_new (o := .tup [V.str "part", V.str tt.1, V.ref p6, V.str z0]) hp7 _ _ (same_new (o := .tup [V.str "my", V.str "k"]) hp6 _ _ (upd_same (H := H8) (a := p5) (o := .tup [V.str wd, V.str "k", V.str tt.1, w]))))
      have gp : good (.tuple [.str "part", .str tt.1, .tuple [.str "my", .str "k"], .str z0]) = true := good_tup (goods_c (by decide +kernel) (goods_c gt (goods_c (by decide +kernel) (goods_c (gps z0 mz) rfl)))) (by simp)
      by_cases hc : wd = Str.ofString "count"
      · refine ⟨p8, _, [.ref p7], rfl, rfl, SqT.of upd_same, (by simp), .inr ⟨?_, fun p9 hp9 => ?_⟩⟩
        · subst hc; rfl
        · refine ⟨p5, p9, _, [], rfl, rfl, SqT.of (same_new hp9 _ _ t5), SqT.of upd_same, (by simp), (by show 4 ≤ sizeLine; decide), fun _ => ?_, fun z => absurd rfl z⟩
          have e9 := dr_new (o := .tup []) sB4.fd hp9
          refine k _ _ _ (dd.trans (e5.trans (e6.trans (e7.trans (e8.trans e9))))) (Sd.step R5 s.hB (e6.trans (e7.trans (e8.trans e9)))) (good_tup (goods_c gw (goods_c (by decide +kernel) (goods_c gt (goods_c gw2 rfl)))) (by simp)) ?_ ?_
          · simp only [PyData.depth, PyData.depthAll, dN] at *; omega
          · simp only [cost, costs] at *; omega
      · refine ⟨p8, _, [.ref p7], rfl, rfl, SqT.of upd_same, (by simp), .inl ⟨?_, ?_⟩⟩
        · rw [decide_eq_false (fun z => hc (V.str.inj z))]; rfl
        · refine ⟨p5, p8, _, [.ref p7], rfl, rfl, SqT.of t5, SqT.of upd_same, (by simp), (by show 5 ≤ sizeLine; decide), fun z => by (cases z), fun _ => ?_⟩
          refine mk_tup (ds := [.str wd, .str "k", .str tt.1, wx, .tuple [.str "part", .str tt.1, .tuple [.str "my", .str "k"], .str z0]]) s.al (dd.trans (e5.trans (e6.trans (e7.trans e8)))) (.cons (.str _) (.cons (.str _) (.cons (.str _) (.cons (Sd.step sw s.hB (e5.trans (e6.trans (e7.trans e8)))) (.cons (Sd.step R7 s.hB e8) .nil))))) (goods_c gw (goods_c (by decide +kernel) (goods_c gt (goods_c gw2 (goods_c gp rfl))))) (by simp) ?_ ?_ k
          · simp only [PyData.depth, PyData.depthAll, dN] at *; omega
          · simp only [cost, costs] at *; omega
end
end R61

namespace R61
open PySem L2 L3
open C8 (pss_cut tCut pe_gc)
section
variable {K : PySem.W.Frag} {B : Addr → Prop} {a L p D : Addr} {cs : List (Str × Nat)} {ce : List Str} {tb : List (Str × List Str)} {pl : Bool} {c e d r m t v : V} {H H0 H4 : Hp} {o : HO} {ds : List PyData} {vs : List V} {x : PyData} {N M : Nat}
theorem Sc.more (s : Sc K B a L cs ce tb pl c e d r m t H) (hD : H D = none) : Sc K (And1 B D) a L cs ce tb pl c e d r m t (upd H D o) :=
  ⟨(dr_new s.fd hD).fd, .inl s.hB, fun b hb => by
    rcases hb with hb | rfl
    · exact L3.Same.alive s.al (same_new hD) b hb
    · rw [upd_same]; exact fun z => (nomatch z), s.li, s.lo.more hD⟩
theorem costs_snoc : ∀ {ds : List PyData} {x : PyData}, costs (ds ++ [x]) = costs ds + cost x + 2
  | [], x => by simp only [List.nil_append, costs]; omega
  | d :: ds, x => by simp only [List.cons_append, costs, costs_snoc]; omega
theorem goods_snoc : ∀ {ds : List PyData} {x : PyData}, goods ds = true → good x = true → goods (ds ++ [x]) = true
  | [], x, _, h => goods_c h rfl
  | d :: ds, x, h1, h2 => by
    rw [goods, Bool.and_eq_true] at h1
    exact goods_c h1.1 (goods_snoc h1.2 h2)
/-- a list at D of what has been drawn so far, D new since H0 -/
structure Acc (K : PySem.W.Frag) (B : Addr → Prop) (a L : Addr) (cs : List (Str × Nat)) (ce : List Str) (tb : List (Str × List Str)) (pl : Bool) (c e d r m t : V) (D : Addr) (N M : Nat) (H0 H : Hp) (vs : List V) (ds : List PyData) : Prop where
  at_ : H D = some (.lst vs)
  sc : Sc K (And1 B D) a L cs ce tb pl c e d r m t H
  sa : SdAll K (And1 B D) H vs ds
  g : goods ds = true
  dr : Dr a H0 H
  hD : H0 D = none
  dp : PyData.depthAll ds ≤ N
  ct : costs ds ≤ ds.length * (M + 2)
theorem Acc.start (s : Sc K B a L cs ce tb pl c e d r m t H) (hD : H D = none) : Acc K B a L cs ce tb pl c e d r m t D N M H (upd H D (.lst [])) [] [] :=
  ⟨upd_same, s.more hD, .nil, rfl, dr_new s.fd hD, hD, Nat.zero_le _, Nat.zero_le _⟩
theorem Acc.ne (k : Acc K B a L cs ce tb pl c e d r m t D N M H0 H vs ds) (s : Sc K B a L cs ce tb pl c e d r m t H0) : D ≠ a := fun z => s.al a s.hB (by rw [← z]; exact k.hD)
theorem Acc.step (k : Acc K B a L cs ce tb pl c e d r m t D N M H0 H vs ds) (s : Sc K B a L cs ce tb pl c e d r m t H0) (q : Dr a H H4) : Acc K B a L cs ce tb pl c e d r m t D N M H0 H4 vs ds :=
  ⟨q.sm _ _ (k.ne s) k.at_, k.sc.dr q, SdAll.off (dr_off k.sc.hB q) _ _ k.sa, k.g, k.dr.trans q, k.hD, k.dp, k.ct⟩
theorem Acc.push (k : Acc K B a L cs ce tb pl c e d r m t D N M H0 H vs ds) (s : Sc K B a L cs ce tb pl c e d r m t H0) (sv : Sd K (And1 B D) H v x) (gx : good x = true) (hd : x.depth ≤ N) (hc : cost x ≤ M) :
    Acc K B a L cs ce tb pl c e d r m t D N M H0 (upd H D (.lst (vs ++ [v]))) (vs ++ [v]) (ds ++ [x]) := by
  have ne := k.ne s
  have o2 : Off (And1 B D) H (upd H D (.lst (vs ++ [v]))) := off_at (.inr rfl)
  obtain ⟨x1, y1, q1, q2⟩ := k.sc.fd
  have fd : FeedAt (upd H D (.lst (vs ++ [v]))) a := ⟨x1, y1, by rw [upd_ne (Ne.symm ne)]; exact q1, q2⟩
  refine ⟨upd_same, ⟨fd, k.sc.hB, fun b hb => ?_, k.sc.li, k.sc.lo.off o2⟩, SdAll.off o2 _ _ (SdAll.snoc k.sa sv), goods_snoc k.g gx, ⟨fd, fun b o nb e => ?_⟩, k.hD, depth_snoc k.dp hd, ?_⟩
  · by_cases z : b = D
    · rw [z, upd_same]; exact fun z => nomatch z
    · rw [upd_ne z]; exact k.sc.al b hb
  · rw [upd_ne (ne_of_none e k.hD)]
    exact k.dr.sm b o nb e
  · have := k.ct
    rw [costs_snoc, List.length_append, List.length_singleton, Nat.add_mul]
    omega
theorem Acc.out (k : Acc K B a L cs ce tb pl c e d r m t D N M H0 H vs ds) : SdAll K B H vs ds := SdAll.less (fun b h => .inl h) _ _ k.sa
theorem Acc.scB (k : Acc K B a L cs ce tb pl c e d r m t D N M H0 H vs ds) (s : Sc K B a L cs ce tb pl c e d r m t H0) : Sc K B a L cs ce tb pl c e d r m t H := s.dr k.dr
theorem Acc.len (k : Acc K B a L cs ce tb pl c e d r m t D N M H0 H vs ds) : vs.length = ds.length := k.sa.len
end
/-- a drawn row of a table -/
@[irreducible] def spRow (K : PySem.W.Frag) : Sp := fun vs H Q _ => ∃ (a L : Addr) (i : Int) (B : Addr → Prop) (cs : List (Str × Nat)) (ce : List Str) (tb : List (Str × List Str)) (pl : Bool) (c e d r m t : V),
  vs = [.ref a, .ref L, .int i] ∧ Sc K B a L cs ce tb pl c e d r m t H ∧ tb ≠ [] ∧ ∀ v x H', Dr a H H' → Sd K B H' v x → good x = true → x.depth ≤ 5 → cost x ≤ 6000 → Q v H'
section
variable {P : Program} {w : World} {K : PySem.W.Frag} {mg : Str → Option Value} {base : Heap}
abbrev NRow : List Str := ["_law_feed_here", "_law_lore_here", "_law_form", "_law_title", "_law_parts_here", "_law_key", "_law_part"]
abbrev pRow : List Str := ["_law_feed_here", "_law_lore_here", "_law_form"]
theorem scRw : FnScope NRow pRow (defScope sRow) := ⟨rfl, rfl, rfl, by decide +kernel, rfl, by decide +kernel, by decide +kernel⟩
theorem ok_row {f fP fT fN : Addr} {fd fdP fdT fdN : FuncData} (z : Zn mg) (F : Fun K "_law_table_row" "_law_table_row" sRow f fd) (UP : Use P w K mg base "_law_pick" 2 fP fdP ["_law_feed_here", "_law_some"] (spPick K)) (UT : Use P w K mg base "_law_take" 1 fT fdT ["_law_feed_here", "_law_many"] spTk)
    (UN0 : Use P w K mg base "_law_number_of" 3 fN fdN pFL (spDraw K 0 (dN 0) (cN 0))) (UN1 : Use P w K mg base "_law_number_of" 5 fN fdN pFL (spDraw K 1 (dN 1) (cN 1))) : FnOk P w K mg base CX0 6 f fd pRow (spRow K) := by
  refine F.ok scRw (fun vs H Q E h => ?_) (fun cdv A outer s H vs Q E hr h => ?_)
  · unfold spRow at h
    obtain ⟨a, L, i, B, cs, ce, tb, pl, c, e, d, r, m, t, rfl, _⟩ := h
    rfl
  · unfold spRow at h
    obtain ⟨a, L, i, B, cs, ce, tb, pl, c, e, d, r, m, t, rfl, s, htb, k⟩ := h
    have nd := scRw.nd
    have hu1 := hu_of hr
    have lsz := sizeLine_eq
    have c0 : cN 0 = 100 := rfl
    have c1 : cN 1 = 1300 := rfl
    refine ⟨_, (pss_cons (ps_asg (pe_call UP.G (hr.mono (by omega)) (by rfl) UP.g UP.kp UP.b .nil pass0 (pa_cons (pv 0) (pa_cons (pe_dget hu1 (pv 1) pe_str (fun _ _ => rfl)) pa_nil))) (pg_tup (by rfl) (pgs_cons (pg_name (i := 3) nd rfl (.inl rfl)) (pgs_cons (pg_name (i := 4) nd rfl (.inl rfl)) pgs_nil))))
      (pss_cons (ps_set (i := 5) nd rfl (.inl rfl) (pe_call UP.G (hr.mono (by omega)) (by rfl) UP.g UP.kp UP.b .nil pass0 (pa_cons (pv 0) (pa_cons (pe_lst (pa_cons pe_int (pa_cons pe_int (pa_cons pe_int (pa_cons (pe_tup (pa_cons pe_str (pa_cons pe_str pa_nil))) (pa_cons (pe_call UN0.G (hr.mono (by omega)) (by rfl) UN0.g UN0.kp UN0.b .nil pass0 (pa_cons (pv 0) (pa_cons (pv 1) (pa_cons pe_int pa_nil)))) (pa_cons (pe_tup (pa_cons pe_str (pa_cons pe_str pa_nil))) pa_nil))))))) pa_nil))))
      (pss_cons (ps_set (i := 2) nd rfl (.inl rfl) (pe_call UT.G (hr.mono (by omega)) (by rfl) UT.g UT.kp UT.b .nil pass0 (pa_cons (pv 0) (pa_cons pe_int pa_nil))))
      (pss_cons (ps_if (pt_cmpR op_lt (pv 2) pe_int (nomark _)) (pss_one (ps_ret (pe_tup (pa_cons pe_str (pa_cons (pv 3) (pa_cons (pv 5) (pa_cons (pe_callTy call_tuple_of (by rfl) z.tup (by decide +kernel) (pa_cons (pe_lc (own := [("_law_part", 6)]) (g := gName 6) (tt := tYes) rfl nd (pi_tup (pv 4)) (blkOk_by (N := NRow) (sc := defScope sRow) (by decide +kernel)) (fun _ _ _ _ _ => pg_name (i := 6) nd rfl (.inl rfl)) (fun _ _ _ _ _ => pts_nil) (fun _ _ _ _ _ => (pe_call UN1.G (hr.mono (by omega)) (by rfl) UN1.g UN1.kp UN1.b .nil pass0 (pa_cons (pv 0) (pa_cons (pv 1) (pa_cons pe_int pa_nil)))))) pa_nil)) pa_nil))))))) pss_nil)
      (pss_cons (ps_if (pt_cmpR op_eq (pv 2) pe_int (nomark _)) (pss_one (ps_ret (pe_tup (pa_cons pe_str (pa_cons (pv 3) (pa_cons (pv 5) (pa_cons (pe_call UP.G (hr.mono (by omega)) (by rfl) UP.g UP.kp UP.b .nil pass0 (pa_cons (pv 0) (pa_cons (pe_callTy call_list_of (by rfl) z.lst PyProof.Rows.boot_list (pa_cons (pv 4) pa_nil)) pa_nil))) (pa_cons (pe_call UN1.G (hr.mono (by omega)) (by rfl) UN1.g UN1.kp UN1.b .nil pass0 (pa_cons (pv 0) (pa_cons (pv 1) (pa_cons pe_int pa_nil)))) pa_nil)))))))) pss_nil)
      (pss_one (ps_ret (pe_tup (pa_cons pe_str (pa_cons (pv 3) (pa_cons (pv 5) pa_nil))))))))))), ?_⟩
    refine ⟨_, rfl, _, rfl, L, _, rfl, s.lo.get lore_t, ?_⟩
    refine s.pick s.lo.t (fun z => htb (List.map_eq_nil_iff.mp z)) (by rw [List.length_map]; have := s.li.tb.1; omega) fun x y H1 my sx d1 => ?_
    obtain ⟨tt, mt, rfl⟩ := List.mem_map.mp my
    obtain ⟨p, pq, rfl, tp, tq⟩ := Sd.inTb sx
    obtain ⟨gt, tne, tl, gps⟩ := s.li.tb.2 tt mt
    have s1 := s.dr d1
    refine ⟨p, _, rfl, tp.now, rfl, _, _, rfl, _, _, rfl, rfl, ?_⟩
    refine ⟨_, rfl, (by show 2 ≤ sizeLine; decide), fun p1 hp1 => ⟨_, rfl, _, rfl, ?_⟩⟩
    have s2 := s1.new (o := .tup [V.str "word", V.str "a"]) hp1
    have S1 : Sd K B _ (.ref p1) (.tuple [.str "word", .str "a"]) := Sd.newT s1.al hp1 (.cons (.str "word") (.cons (.str "a") .nil))
    refine s2.ask rfl fun v x H2 d2 sv gv dv cv => ⟨(by show 2 ≤ sizeLine; decide), fun p2 hp2 => ⟨(by show 6 ≤ sizeLine; decide), fun l hl => ?_⟩⟩
    have s3 := (s2.dr d2).new (o := .tup [V.str "my", V.str "k"]) hp2
    have S2 : Sd K B _ (.ref p2) (.tuple [.str "my", .str "k"]) := Sd.newT (s2.dr d2).al hp2 (.cons (.str "my") (.cons (.str "k") .nil))
    have dn := dr_new (o := .tup [V.str "my", V.str "k"]) (s2.dr d2).fd hp2
    refine s3.pickN (ds := [.int 1, .int 2, .int 3, .tuple [.str "word", .str "a"], x, .tuple [.str "my", .str "k"]]) hl (.cons (.int 1) (.cons (.int 2) (.cons (.int 3) (.cons (Sd.step S1 s.hB (d2.trans dn)) (.cons (Sd.step sv s.hB dn) (.cons S2 .nil)))))) (by simp) (by simp) fun ky kd H3 mk sk d3 => ?_
    have hk : good kd = true ∧ kd.depth ≤ 1 ∧ cost kd ≤ 100 := by
      simp only [List.mem_cons, List.not_mem_nil, or_false] at mk
      rcases mk with rfl | rfl | rfl | rfl | rfl | rfl
      · exact ⟨by decide +kernel, by decide, by decide⟩
      · exact ⟨by decide +kernel, by decide, by decide⟩
      · exact ⟨by decide +kernel, by decide, by decide⟩
      · exact ⟨by decide +kernel, by decide, by decide⟩
      · exact ⟨gv, dv, cv⟩
      · exact ⟨by decide +kernel, by decide, by decide⟩
    have dd := d1.trans ((dr_new s1.fd hp1).trans (d2.trans (dn.trans d3)))
    have dk := (dr_new (o := .tup [V.str "word", V.str "a"]) s1.fd hp1).trans (d2.trans (dn.trans d3))
    have tq3 := tq.off (dr_off s.hB dk)
    have s4 := s3.dr d3
    clear S1 S2 s2 s3 dn
    refine ⟨_, rfl, ?_⟩
    refine s4.take (j := 4) (by decide) (by decide) fun q H4 q0 q1 d4 => ?_
    have s5 := s4.dr d4
    have tq4 := tq3.off (dr_off s.hB d4)
    refine ⟨_, rfl, _, _, rfl, rfl, _, rfl, iteD (fun h1 => ?_) (fun h1 => ?_)⟩
    · refine ⟨_, rfl, _, rfl, _, rfl, pq, rfl, ⟨_, tq4.now⟩, fun D hD => lc_it (walk_tup (K := K) (a := pq) (xs := tt.2.map V.str)) (fun j H' => ∃ vs ds, ds.length = j ∧ Acc K B a L cs ce tb pl c e d r m t D (dN 1) (cN 1) H4 H' vs ds)
        ⟨[], [], rfl, Acc.start s5 hD⟩ (fun j H' _ h => ?_) ?_ ?_⟩
      · obtain ⟨vs, ds, _, k⟩ := h
        exact tq4 H' (dr_off s.hB k.dr)
      · rintro j x5 H5 H6 hj ⟨vs, ds, ej, ka⟩ ⟨rfl, hx⟩
        rw [List.length_map] at hj
        refine ⟨rfl, _, rfl, _, rfl, ?_⟩
        refine ka.sc.ask rfl fun v5 x5 H6 d6 sv5 gv5 dv5 cv5 => ?_
        have k6 := ka.step s5 d6
        exact ⟨vs, k6.at_, by rw [k6.len]; omega, vs ++ [v5], ds ++ [x5], by rw [List.length_append, ej]; rfl, k6.push s5 sv5 gv5 dv5 cv5⟩
      · rintro H5 ⟨vs, ds, ej, ka⟩
        rw [List.length_map] at ej
        refine ⟨D, vs, rfl, .inl ⟨SqL.of ka.at_, fun p5 hp5 => ?_⟩⟩
        refine ⟨(by show 4 ≤ sizeLine; decide), ?_⟩
        have sT : Sd K B _ (.ref p5) (.tuple ds) := Sd.newT (ka.scB s5).al hp5 ka.out
        have dn5 := dr_new (o := .tup vs) ka.dr.fd hp5
        have ct := ka.ct
        have dp := ka.dp
        have m4 : ds.length * (cN 1 + 2) ≤ 4 * (cN 1 + 2) := Nat.mul_le_mul_right _ (by omega)
        refine mk_tup s.al (dd.trans (d4.trans (ka.dr.trans dn5))) (.cons (.str _) (.cons (.str _) (.cons (Sd.step sk s.hB (d4.trans (ka.dr.trans dn5))) (.cons sT .nil)))) (goods_c (by decide +kernel) (goods_c gt (goods_c hk.1 (goods_c (good_tup ka.g (by omega)) rfl)))) (by simp) ?_ ?_ k
        · have := hk.2.1
          simp only [PyData.depth, PyData.depthAll, dN] at *; omega
        · have := hk.2.2
          simp only [cost, costs] at *; omega
    refine ⟨_, rfl, rfl, _, rfl, iteD (fun h2 => ?_) (fun h2 => ?_)⟩
    · refine ⟨_, rfl, _, rfl, _, rfl, _, rfl, pq, _, rfl, .inr tq4.now, fun l2 hl2 => ?_⟩
      refine s5.pickN (ds := tt.2.map .str) hl2 (strs_sd _) (fun z => tne (List.map_eq_nil_iff.mp z)) (by rw [List.length_map]; omega) fun y yd H5 my sy d5 => ⟨_, rfl, _, rfl, ?_⟩
      obtain ⟨z0, mz, rfl⟩ := List.mem_map.mp my
      refine (s5.dr d5).ask rfl fun v6 x6 H6 d6 sv6 gv6 dv6 cv6 => ⟨(by show 5 ≤ sizeLine; decide), ?_⟩
      refine mk_tup s.al (dd.trans (d4.trans (d5.trans d6))) (.cons (.str _) (.cons (.str _) (.cons (Sd.step sk s.hB (d4.trans (d5.trans d6))) (.cons (Sd.step sy s.hB d6) (.cons sv6 .nil))))) (goods_c (by decide +kernel) (goods_c gt (goods_c hk.1 (goods_c (gps z0 mz) (goods_c gv6 rfl))))) (by simp) ?_ ?_ k
      · have := hk.2.1
        simp only [PyData.depth, PyData.depthAll, dN] at *; omega
      · have := hk.2.2
        simp only [cost, costs] at *; omega
    · refine ⟨_, rfl, _, rfl, (by show 3 ≤ sizeLine; decide), ?_⟩
      refine mk_tup s.al (dd.trans d4) (.cons (.str _) (.cons (.str _) (.cons (Sd.step sk s.hB d4) .nil))) (goods_c (by decide +kernel) (goods_c gt (goods_c hk.1 rfl))) (by simp) ?_ ?_ k
      · have := hk.2.1
        simp only [PyData.depth, PyData.depthAll, dN] at *; omega
      · have := hk.2.2
        simp only [cost, costs] at *; omega
end
end R61

namespace R61
open PySem L2 L3
open C8 (pss_cut tCut pe_gc)
def RC : Nat → Nat
  | 0 => 10000
  | d + 1 => 12200 + 2 * (4 + 3 * (RC d + 2))
abbrev cR (d : Nat) : Nat := 4 + 3 * (RC d + 2)
abbrev dR (d : Nat) : Nat := 2 * d + 8
theorem RC_ge : ∀ z, 10000 ≤ RC z
  | 0 => by decide
  | d + 1 => by simp only [RC]; omega
/-- drawn rows -/
@[irreducible] def spRows (K : PySem.W.Frag) (z : Nat) : Sp := fun vs H Q _ => ∃ (a L : Addr) (mn : Int) (B : Addr → Prop) (cs : List (Str × Nat)) (ce : List Str) (tb : List (Str × List Str)) (pl : Bool) (c e d r m t : V),
  vs = [.ref a, .ref L, .int mn, .int (z : Int)] ∧ 0 ≤ mn ∧ mn ≤ 3 ∧ Sc K B a L cs ce tb pl c e d r m t H ∧ ∀ v x H', Dr a H H' → Sd K B H' v x → good x = true → x.depth ≤ dR z → cost x ≤ cR z → Q v H'
def spPos (sp : Sp) : Nat → Sp
  | 0 => fun _ _ _ _ => False
  | _ + 1 => sp
section
variable {K : PySem.W.Frag} {B : Addr → Prop} {a L p D : Addr} {cs : List (Str × Nat)} {ce : List Str} {tb : List (Str × List Str)} {pl : Bool} {c e d r m t v : V} {H H0 H4 : Hp} {o : HO} {ds wd : List PyData} {vs ws : List V} {x : PyData} {N M z : Nat} {mn i : Int} {Q : VK}
theorem Acc.fin (k : Acc K B a L cs ce tb pl c e d r m t D N M H0 H vs ds) (s : Sc K B a L cs ce tb pl c e d r m t H0) (sa : SdAll K (And1 B D) H ws wd) (g : goods wd = true) (len : wd.length ≤ 1000) (hd : (PyData.tuple wd).depth ≤ N) (hc : cost (.tuple wd) ≤ M) (hp : H p = none) :
    (upd H p (.tup ws)) D = some (.lst vs) ∧ Acc K B a L cs ce tb pl c e d r m t D N M H0 (upd (upd H p (.tup ws)) D (.lst (vs ++ [.ref p]))) (vs ++ [.ref p]) (ds ++ [.tuple wd]) := by
  have k2 := k.step s (dr_new (o := .tup ws) k.sc.fd hp)
  exact ⟨k2.at_, k2.push s (Sd.newT k.sc.al hp sa) (good_tup g len) hd hc⟩
theorem Sc.rows (s : Sc K B a L cs ce tb pl c e d r m t H) (hi : i = (z : Int)) (m0 : 0 ≤ mn) (m3 : mn ≤ 3) (k : ∀ v x H', Dr a H H' → Sd K B H' v x → good x = true → x.depth ≤ dR z → cost x ≤ cR z → Q v H') : spRows K z [.ref a, .ref L, .int mn, .int i] H Q E0 :=
  by
    unfold spRows
    exact ⟨a, L, mn, B, cs, ce, tb, pl, c, e, d, r, m, t, by rw [hi], m0, m3, s, k⟩
theorem Sc.row (s : Sc K B a L cs ce tb pl c e d r m t H) (hb : tb ≠ []) (k : ∀ v x H', Dr a H H' → Sd K B H' v x → good x = true → x.depth ≤ 5 → cost x ≤ 6000 → Q v H') : spRow K [.ref a, .ref L, .int i] H Q E0 :=
  by
    unfold spRow
    exact ⟨a, L, i, B, cs, ce, tb, pl, c, e, d, r, m, t, rfl, s, hb, k⟩
theorem rows_inv {vs : List V} {E : XK} (h : spRows K z vs H Q E) : ∃ (a L : Addr) (mn : Int) (B : Addr → Prop) (cs : List (Str × Nat)) (ce : List Str) (tb : List (Str × List Str)) (pl : Bool) (c e d r m t : V),
  vs = [.ref a, .ref L, .int mn, .int (z : Int)] ∧ 0 ≤ mn ∧ mn ≤ 3 ∧ Sc K B a L cs ce tb pl c e d r m t H ∧ ∀ v x H', Dr a H H' → Sd K B H' v x → good x = true → x.depth ≤ dR z → cost x ≤ cR z → Q v H' := by
  unfold spRows at h
  exact h
end
theorem lore_merge {r' : V} : mergeK [] (loreKV c e d r m t pl ++ [(.inr "rules", r'), (.inr "plain", .int 1)]) = loreKV c e d r' m t true := by cases pl <;> rfl
theorem Sc.inner {l1 L2 : Addr} {kvs : List (Key × V)} (s : Sc K B a L cs ce tb pl c e d r m t H) (hr : Sd K B H (.ref l1) (.list [])) (h2 : H L2 = none) (q : kvs = loreKV c e d (.ref l1) m t true) : Sc K B a L2 cs ce tb true c e d (.ref l1) m t (upd H L2 (.dK kvs)) := by
  have s2 := s.new (o := .dK kvs) h2
  exact ⟨s2.fd, s.hB, s2.al, s.li, ⟨fun H2 o => by rw [← q]; exact o L2 _ (fun z => s.al L2 z h2) upd_same, s2.lo.c, s2.lo.e, s2.lo.d, Sd.step hr s.hB (dr_new s.fd h2), s2.lo.m, s2.lo.t⟩⟩
theorem paired_app {α β : Type} {F : α → β → Prop} : ∀ {xs xs' : List α} {ys ys' : List β}, Paired F xs ys → Paired F xs' ys' → Paired F (xs ++ xs') (ys ++ ys')
  | _, _, _, _, .nil, h => h
  | _, _, _, _, .cons x xs, h => .cons x (paired_app xs h)
theorem paired_imp {α β : Type} {F G : α → β → Prop} (i : ∀ a b, F a b → G a b) : ∀ {xs : List α} {ys : List β}, Paired F xs ys → Paired G xs ys
  | _, _, .nil => .nil
  | _, _, .cons x xs => .cons (i _ _ x) (paired_imp i xs)
theorem paired_len {α β : Type} {F : α → β → Prop} : ∀ {xs : List α} {ys : List β}, Paired F xs ys → xs.length = ys.length
  | _, _, .nil => rfl
  | _, _, .cons _ xs => by rw [List.length_cons, List.length_cons, paired_len xs]
theorem kv_len : (loreKV c e d r m t pl).length ≤ 7 := by cases pl <;> exact (by simp [loreKV])
section
variable {P : Program} {w : World} {K : PySem.W.Frag} {mg : Str → Option Value} {base : Heap}
abbrev NRs : List Str := ["_law_feed_here", "_law_lore_here", "_law_many", "_law_deep", "_law_found", "_law_turn", "_law_form", "_law_title", "_law_inner", "_law_first", "_law_second"]
abbrev pRs : List Str := ["_law_feed_here", "_law_lore_here", "_law_many", "_law_deep"]
theorem scRs : FnScope NRs pRs (defScope sRows) := ⟨rfl, rfl, rfl, by decide +kernel, rfl, by decide +kernel, by decide +kernel⟩
theorem ok_rows {f fP fT fN fB fR : Addr} {fd fdP fdT fdN fdB fdR : FuncData} (zd : Nat) (z : Zn mg) (F : Fun K "_law_rows_of" "_law_rows_of" sRows f fd) (UP : Use P w K mg base "_law_pick" 2 fP fdP ["_law_feed_here", "_law_some"] (spPick K)) (UT : Use P w K mg base "_law_take" 1 fT fdT ["_law_feed_here", "_law_many"] spTk)
    (UN1 : Use P w K mg base "_law_number_of" 5 fN fdN pFL (spDraw K 1 (dN 1) (cN 1))) (UN2 : Use P w K mg base "_law_number_of" 7 fN fdN pFL (spDraw K 2 (dN 2) (cN 2)))
    (UB1 : Use P w K mg base "_law_truth_of" 6 fB fdB pFL (spDraw K 1 (dT 1) (cT 1))) (UB2 : Use P w K mg base "_law_truth_of" 8 fB fdB pFL (spDraw K 2 (dT 2) (cT 2)))
    (UR : Use P w K mg base "_law_table_row" 6 fR fdR pRow (spRow K)) (US : Use P w K mg base "_law_rows_of" (8 + zd) f fd pRs (spPrev (spRows K) zd)) (US0 : Use P w K mg base "_law_rows_of" (8 + zd) f fd pRs (spPos (spRows K 0) zd)) : FnOk P w K mg base CX0 (8 + zd + 1) f fd pRs (spRows K zd) := by
  refine F.ok scRs (fun vs H Q E h => ?_) (fun cdv A outer s H vs Q E hr h => ?_)
  · obtain ⟨a, L, mn, B, cs, ce, tb, pl, c, e, d, r, m, t, rfl, _⟩ := rows_inv h
    rfl
  · obtain ⟨a, L, mn, B, cs, ce, tb, pl, c, e, d, r, m, t, rfl, mn0, mn3, s, k⟩ := rows_inv h
    have nd := scRs.nd
    have hu := hr.units
    have hu1 := hu_of hr
    have lsz := sizeLine_eq
    have s0z : 0 ≤ sizeLine := Nat.zero_le _
    have sh0 : SeqAt.shaped (.list []) = true := by decide +kernel
    have shT := shp (tb_good s.li.tb.2) (by have := tb_dep tb; omega)
    have rg := RC_ge zd
    have n1 : cN 1 = 1300 := rfl
    have n2 : cN 2 = 5500 := rfl
    have t1 : cT 1 = 2100 := rfl
    have t2 : cT 2 = 9900 := rfl
    refine ⟨_, (pss_cons (ps_set (i := 4) nd rfl (.inl rfl) (pe_lst pa_nil))
      (pss_cons (ps_for PassesOwn.never rfl (pi_range1 (by rfl) z.rng (pa_cons (pe_call UT.G (hr.mono (by omega)) (by rfl) UT.g UT.kp UT.b .nil pass0 (pa_cons (pv 0) (pa_cons (pe_op op_add (pv 2) pe_int) pa_nil))) pa_nil)) (pg_name (i := 5) nd rfl (.inl rfl)) (pss_cons (ps_par (i := 6) (j := 7) (by rfl) nd rfl rfl (by decide) rfl rfl (pa_cons (pe_call UT.G (hr.mono (by omega)) (by rfl) UT.g UT.kp UT.b .nil pass0 (pa_cons (pv 0) (pa_cons pe_int pa_nil))) (pa_cons (pe_call UP.G (hr.mono (by omega)) (by rfl) UP.g UP.kp UP.b .nil pass0 (pa_cons (pv 0) (pa_cons (pe_dget hu1 (pv 1) pe_str (fun _ _ => rfl)) pa_nil))) pa_nil)) (by rfl))
      (pss_cut (ps_if (PW.pt (pw_and (pt_cmpR op_gt (pv 6) pe_int (nomark _)) (pw_and1 (pt_cmpR (op_eqD hu) (pe_dget hu1 (pv 1) pe_str (fun _ _ => rfl)) (pe_lst pa_nil) (nomark _))))) (pss_one (ps_set (i := 6) nd rfl (.inl rfl) (pe_op op_sub (pv 6) pe_int))) pss_nil)
      (pss_one (ps_if (PW.pt (pw_and (pt_cmpR op_eq (pv 6) pe_int (nomark _)) (pw_and1 (pt_cmpR op_gt (pv 3) pe_int (nomark _))))) (pss_cons (ps_set (i := 8) nd rfl (.inl rfl) (pe_callTy (call_dictP rfl) (by rfl) z.dct (by decide +kernel) (pa_cons (pe_op op_cat (LiI.pe_listItems (by rfl) (pv 1) (by rfl) z.lst PyProof.Rows.boot_list) (pe_lst (pa_cons (pe_tup (pa_cons pe_str (pa_cons (pe_lst pa_nil) pa_nil))) (pa_cons (pe_tup (pa_cons pe_str (pa_cons pe_int pa_nil))) pa_nil)))) pa_nil)))
      (pss_one (ps_expr (pe_bm PySem.F.plainAttrs_list PySem.F.slot_list_append PySem.F.type_list_append mt_append (pv 4) (pa_cons (pe_tup (pa_cons pe_str (pa_cons pe_str (pa_cons (pe_ix (r := rIxT K) (by exact ix_tup) (pe_call UP.G (hr.mono (by omega)) (by rfl) UP.g UP.kp UP.b .nil pass0 (pa_cons (pv 0) (pa_cons (pe_dget hu1 (pv 1) pe_str (fun _ _ => rfl)) pa_nil))) pe_int (fun _ _ => rfl)) (pa_cons (pe_call US0.G (hr.mono (by omega)) (by rfl) US0.g US0.kp US0.b .nil pass0 (pa_cons (pv 0) (pa_cons (pv 8) (pa_cons pe_int (pa_cons pe_int pa_nil))))) pa_nil))))) pa_nil))))) (pss_one (ps_if (pt_cmpR op_gt (pv 6) pe_int (nomark _)) (pss_one (ps_expr (pe_bm PySem.F.plainAttrs_list PySem.F.slot_list_append PySem.F.type_list_append mt_append (pv 4) (pa_cons (pe_call UR.G (hr.mono (by omega)) (by rfl) UR.g UR.kp UR.b .nil pass0 (pa_cons (pv 0) (pa_cons (pv 1) (pa_cons pe_int pa_nil)))) pa_nil)))) (pss_one (ps_if (pt_cmpR op_lt (pv 6) pe_int (nomark _)) (pss_one (ps_expr (pe_bm PySem.F.plainAttrs_list PySem.F.slot_list_append PySem.F.type_list_append mt_append (pv 4) (pa_cons (pe_tup (pa_cons pe_str (pa_cons (pv 7) (pa_cons (pe_call UN2.G (hr.mono (by omega)) (by rfl) UN2.g UN2.kp UN2.b .nil pass0 (pa_cons (pv 0) (pa_cons (pv 1) (pa_cons pe_int pa_nil)))) pa_nil)))) pa_nil)))) (pss_one (ps_if (pt_cmpR op_eq (pv 6) pe_int (nomark _)) (pss_one (ps_expr (pe_bm PySem.F.plainAttrs_list PySem.F.slot_list_append PySem.F.type_list_append mt_append (pv 4) (pa_cons (pe_tup (pa_cons pe_str (pa_cons (pe_call UP.G (hr.mono (by omega)) (by rfl) UP.g UP.kp UP.b .nil pass0 (pa_cons (pv 0) (pa_cons (pe_dget hu1 (pv 1) pe_str (fun _ _ => rfl)) pa_nil))) (pa_cons (pe_call UN2.G (hr.mono (by omega)) (by rfl) UN2.g UN2.kp UN2.b .nil pass0 (pa_cons (pv 0) (pa_cons (pv 1) (pa_cons pe_int pa_nil)))) pa_nil)))) pa_nil)))) (pss_one (ps_if (PW.pt (pw_and (pt_cmpR op_eq (pv 6) pe_int (nomark _)) (pw_and1 (pt_cmpR op_gt (pv 3) pe_int (nomark _))))) (pss_cons (ps_par (i := 9) (j := 10) (by rfl) nd rfl rfl (by decide) rfl rfl (pa_cons (pe_call US.G (hr.mono (by omega)) (by rfl) US.g US.kp US.b .nil pass0 (pa_cons (pv 0) (pa_cons (pv 1) (pa_cons pe_int (pa_cons (pe_op op_sub (pv 3) pe_int) pa_nil))))) (pa_cons (pe_call US.G (hr.mono (by omega)) (by rfl) US.g US.kp US.b .nil pass0 (pa_cons (pv 0) (pa_cons (pv 1) (pa_cons pe_int (pa_cons (pe_op op_sub (pv 3) pe_int) pa_nil))))) pa_nil)) (by rfl))
      (pss_one (ps_expr (pe_bm PySem.F.plainAttrs_list PySem.F.slot_list_append PySem.F.type_list_append mt_append (pv 4) (pa_cons (pe_tup (pa_cons pe_str (pa_cons (pe_call UB1.G (hr.mono (by omega)) (by rfl) UB1.g UB1.kp UB1.b .nil pass0 (pa_cons (pv 0) (pa_cons (pv 1) (pa_cons pe_int pa_nil)))) (pa_cons (pv 9) (pa_cons (pv 10) pa_nil))))) pa_nil))))) (pss_one (ps_if (pt_cmpR op_eq (pv 6) pe_int (nomark _)) (pss_one (ps_expr (pe_bm PySem.F.plainAttrs_list PySem.F.slot_list_append PySem.F.type_list_append mt_append (pv 4) (pa_cons (pe_tup (pa_cons pe_str (pa_cons (pe_call UB2.G (hr.mono (by omega)) (by rfl) UB2.g UB2.kp UB2.b .nil pass0 (pa_cons (pv 0) (pa_cons (pv 1) (pa_cons pe_int pa_nil)))) pa_nil))) pa_nil)))) (pss_one (ps_if (PW.pt (pw_and (pt_cmpR op_eq (pv 6) pe_int (nomark _)) (pw_and1 (pt_cmpR op_eq (pe_call UT.G (hr.mono (by omega)) (by rfl) UT.g UT.kp UT.b .nil pass0 (pa_cons (pv 0) (pa_cons pe_int pa_nil))) pe_int (nomark _))))) (pss_one (ps_expr (pe_bm PySem.F.plainAttrs_list PySem.F.slot_list_append PySem.F.type_list_append mt_append (pv 4) (pa_cons (pe_tup (pa_cons pe_str (pa_cons (pv 7) pa_nil))) pa_nil)))) (pss_one (ps_expr (pe_bm PySem.F.plainAttrs_list PySem.F.slot_list_append PySem.F.type_list_append mt_append (pv 4) (pa_cons (pe_tup (pa_cons pe_str (pa_cons (pe_call UN1.G (hr.mono (by omega)) (by rfl) UN1.g UN1.kp UN1.b .nil pass0 (pa_cons (pv 0) (pa_cons (pv 1) (pa_cons pe_int pa_nil)))) pa_nil))) pa_nil)))))))))))))))))))))
      (pss_one (ps_ret (pe_callTy call_tuple_of (by rfl) z.tup (by decide +kernel) (pa_cons (pv 4) pa_nil)))))), ?_⟩
    refine ⟨s0z, fun D hD => ?_⟩
    have k0 : Acc K B a L cs ce tb pl c e d r m t D (2 * zd + 7) (RC zd) H (upd H D (.lst [])) [] [] := Acc.start s hD
    refine ⟨_, rfl, _, rfl, _, _, rfl, rfl, ?_⟩
    refine k0.sc.take (j := mn + 1) (by omega) (by show (mn + 1).natAbs < 2 ^ 200; exact Nat.lt_of_le_of_lt (show _ ≤ 4 by omega) (by decide)) fun rr H1 r0 r1 d1 => ?_
    obtain ⟨nr, rfl⟩ : ∃ n : Nat, rr = n := ⟨rr.toNat, by omega⟩
    have k1 := k0.step s d1
    refine ⟨(nr : Int), rfl, by omega, by omega, for_range (fun i σ H' => ∃ (vs : List V) (ds : List PyData) (w5 w6 w7 w8 w9 w10 : Option V), σ = [some (.ref a), some (.ref L), some (.int mn), some (.int (zd : Int)), some (.ref D), w5, w6, w7, w8, w9, w10] ∧ ds.length ≤ i ∧ Acc K B a L cs ce tb pl c e d r m t D (2 * zd + 7) (RC zd) H H' vs ds)
      ⟨[], [], none, none, none, none, none, none, rfl, Nat.le_refl _, k1⟩ ?_ ?_⟩
    · rintro i σ H2 hi ⟨vs, ds, w5, w6, w7, w8, w9, w10, rfl, li, ka⟩
      refine ⟨_, rfl, ?_⟩
      refine ka.sc.take (j := 13) (by decide) (by decide) fun q' H3 q0 q1 d3 => ⟨_, rfl, _, rfl, L, _, rfl, (ka.step s d3).sc.lo.get lore_e, ?_⟩
      have kb := ka.step s d3
      refine kb.sc.pick kb.sc.lo.se (fun z => s.li.ce.1 (List.map_eq_nil_iff.mp z)) (by rw [List.length_map]; have := s.li.ce.2.1; omega) fun x y H4 my sx d4 => ?_
      obtain ⟨zc, mz, rfl⟩ := List.mem_map.mp my
      obtain rfl := sx.isStr
      have gz := s.li.ce.2.2 zc mz
      replace kb := kb.step s d4
      refine ⟨_, _, rfl, ?_⟩
      refine ⟨fun σ H' => ∃ q : Int, σ = [some (.ref a), some (.ref L), some (.int mn), some (.int (zd : Int)), some (.ref D), some (.int (0 + (i : Int))), some (.int q), some (.str zc), w8, w9, w10] ∧ 0 ≤ q ∧ q < 13 ∧ (9 < q → tb ≠ []) ∧ Acc K B a L cs ce tb pl c e d r m t D (2 * zd + 7) (RC zd) H H' vs ds, ?_, ?_⟩
      · refine ⟨_, rfl, _, _, rfl, rfl, _, rfl, iteD (fun hg => ⟨_, rfl, L, _, rfl, kb.sc.lo.get lore_t, s0z, fun l hl => ?_⟩) (fun hg => ifF rfl ⟨q', rfl, q0, q1, fun z => by omega, kb⟩)⟩
        have kc := kb.step s (dr_new (o := .lst []) kb.sc.fd hl)
        refine ⟨.list (tb.map tbD), .list [], kc.sc.lo.t.dp, .lst (SqL.of upd_same) .nil, shT, sh0, _, rfl, ?_⟩
        rw [eqv_nil]
        by_cases htb : tb = []
        · refine ifT (by rw [htb]; rfl) ⟨_, rfl, _, _, rfl, rfl, q' - 10, rfl, by omega, by omega, fun z => by omega, kc⟩
        · refine ifF (by cases tb with | nil => exact absurd rfl htb | cons _ _ => rfl) ⟨q', rfl, q0, q1, fun _ => htb, kc⟩
      rintro σ H5 ⟨q, rfl, q0, q1, qt, kb⟩
      have lenv : vs.length < sizeLine := by have := ka.len; omega
      by_cases hA : q = 12 ∧ 0 < zd
      · obtain ⟨rfl, hz⟩ := hA
        obtain ⟨n, rfl⟩ : ∃ n, zd = n + 1 := ⟨zd - 1, by omega⟩
        have rc : RC (n + 1) = 12200 + 2 * (4 + 3 * (RC n + 2)) := rfl
        have rcn := RC_ge n
        have r00 : RC 0 = 10000 := rfl
        have htb := qt (by decide)
        refine ⟨_, rfl, rfl, _, rfl, ifT (decide_eq_true rfl) ⟨_, rfl, _, _, rfl, rfl, _, rfl, ifT (decide_eq_true (by omega)) ?_⟩⟩
        refine ⟨_, rfl, L, _, rfl, kb.sc.lo.at_ H5 (Off.refl _ H5), fun H6 p6 ts6 same6 hp6 hts6 hnot6 at6 pr6 => ⟨s0z, fun l1 hl1 => ⟨(by show 2 ≤ sizeLine; decide), fun t1 ht1 => ⟨(by show 2 ≤ sizeLine; decide), fun t2 ht2 => ⟨(by show 2 ≤ sizeLine; decide), fun l2 hl2 => ?_⟩⟩⟩⟩⟩
        have sA := same_new (o := .lst []) hl1
        have sB := same_new (o := .tup [V.str "rules", V.ref l1]) ht1
        have sC := same_new (o := .tup [V.str "plain", V.int 1]) ht2
        have sD := same_new (o := .lst [V.ref t1, V.ref t2]) hl2
        have lk := paired_len pr6
        have lk7 := kv_len (c := c) (e := e) (d := d) (r := r) (m := m) (t := t) (pl := pl)
        refine ⟨p6, l2, _, _, rfl, rfl, sD _ _ (sC _ _ (sB _ _ (sA _ _ at6))), upd_same, (by rw [List.length_map, List.length_cons, List.length_singleton]; omega), fun pc hpc => ?_⟩
        have sE := same_new (o := .lst (ts6.map V.ref ++ [V.ref t1, V.ref t2])) hpc
        refine ⟨pc, ts6 ++ [t1, t2], loreKV c e d r m t pl ++ [(.inr "rules", .ref l1), (.inr "plain", .int 1)], rfl, ?_, ?_, fun L2 hL2 => ?_⟩
        · rw [List.map_append]
          exact SqL.of upd_same
        · refine paired_app (paired_imp (fun t q h => SqT.of (sE _ _ (sD _ _ (sC _ _ (sB _ _ (sA _ _ h)))))) pr6) (.cons (SqT.of (sE _ _ (sD _ _ (sC _ _ upd_same)))) (.cons (SqT.of (sE _ _ (sD _ _ upd_same))) .nil))
        have k6 := kb.step s (dr_of same6 kb.sc.fd)
        have RL : Sd K (And1 B D) _ (.ref l1) (.list []) := Sd.newL k6.sc.al hl1 .nil
        have s7e := sB.trans (sC.trans (sD.trans sE))
        have kE := k6.step s (dr_of (sA.trans s7e) k6.sc.fd)
        have sI := kE.sc.inner (Sd.off (Same.off s7e) _ _ RL) hL2 (lore_merge (c := c) (e := e) (d := d) (r := r) (m := m) (t := t) (pl := pl) (r' := .ref l1))
        have kc := kE.step s (dr_new (o := .dK (mergeK [] (loreKV c e d r m t pl ++ [(.inr "rules", .ref l1), (.inr "plain", .int 1)]))) kE.sc.fd hL2)
        clear RL s7e kE k6 sA sB sC sD sE
        refine ⟨_, rfl, .inl ⟨rfl, _, SqL.of kc.at_⟩, _, rfl, _, rfl, L, _, rfl, kc.sc.lo.get lore_t, ?_⟩
        refine kc.sc.pick kc.sc.lo.t (fun z => htb (List.map_eq_nil_iff.mp z)) (by rw [List.length_map]; have := s.li.tb.1; omega) fun x y H13 my sx d13 => ?_
        obtain ⟨tt, mt, rfl⟩ := List.mem_map.mp my
        obtain ⟨p, pq, rfl, tp, tq⟩ := Sd.inTb sx
        have gt := (s.li.tb.2 tt mt).1
        refine ⟨p, _, _, _, rfl, rfl, tp.now, rfl, _, rfl, _, rfl, ?_⟩
        refine (sI.dr d13).rows (z := 0) rfl (by decide) (by decide) fun v x H14 d14 sv gv dv cv => ⟨(by show 4 ≤ sizeLine; decide), fun p hp => ?_⟩
        obtain ⟨fa, fk⟩ := Acc.fin (wd := [.str "each", .str "k", .str tt.1, x]) ((kc.step s d13).step s d14) s (.cons (.str _) (.cons (.str _) (.cons (.str _) (.cons sv .nil)))) (goods_c (by decide +kernel) (goods_c (by decide +kernel) (goods_c gt (goods_c gv rfl)))) (by simp) (by simp only [PyData.depth, PyData.depthAll, dN, dT, dR] at *; omega) (by simp only [cost, costs, cR] at *; omega) hp
        exact ⟨D, vs, _, rfl, rfl, fa, by have := ka.len; omega, vs ++ [.ref p], _, _, _, _, _, _, _, rfl, by rw [List.length_append, List.length_singleton]; omega, fk⟩
      by_cases hB : 9 < q
      · have htb := qt hB
        have go : q = 12 ∨ q ≠ 12 := by omega
        rcases go with hq | hq
        · skip
          refine ⟨_, rfl, rfl, _, rfl, ifT (decide_eq_true (by rw [hq])) ⟨_, rfl, _, _, rfl, rfl, _, rfl, ifF (decide_eq_false (by omega)) ?_⟩⟩
          refine ⟨_, rfl, _, _, rfl, rfl, _, rfl, ifT (decide_eq_true (by omega)) ?_⟩
          refine ⟨_, rfl, .inl ⟨rfl, _, SqL.of kb.at_⟩, _, rfl, _, rfl, ?_⟩
          refine kb.sc.row htb fun v x H6 d6 sv gv dv cv => ?_
          have kc := kb.step s d6
          exact ⟨D, vs, _, rfl, rfl, kc.at_, lenv, vs ++ [v], _, _, _, _, _, _, _, rfl, by rw [List.length_append, List.length_singleton]; omega, kc.push s sv gv (by omega) (by omega)⟩
        · skip
          refine ⟨_, rfl, rfl, _, rfl, ifF (decide_eq_false (fun e => by have := V.int.inj e; omega)) (ifF rfl ?_)⟩
          refine ⟨_, rfl, _, _, rfl, rfl, _, rfl, ifT (decide_eq_true (by omega)) ?_⟩
          refine ⟨_, rfl, .inl ⟨rfl, _, SqL.of kb.at_⟩, _, rfl, _, rfl, ?_⟩
          refine kb.sc.row htb fun v x H6 d6 sv gv dv cv => ?_
          have kc := kb.step s d6
          exact ⟨D, vs, _, rfl, rfl, kc.at_, lenv, vs ++ [v], _, _, _, _, _, _, _, rfl, by rw [List.length_append, List.length_singleton]; omega, kc.push s sv gv (by omega) (by omega)⟩
      by_cases hC : q < 4
      · skip
        refine ⟨_, rfl, rfl, _, rfl, ifF (decide_eq_false (fun e => by have := V.int.inj e; omega)) (ifF rfl ?_)⟩
        refine ⟨_, rfl, _, _, rfl, rfl, _, rfl, ifF (decide_eq_false (by omega)) ?_⟩
        refine ⟨_, rfl, _, _, rfl, rfl, _, rfl, ifT (decide_eq_true (by omega)) ?_⟩
        refine ⟨_, rfl, .inl ⟨rfl, _, SqL.of kb.at_⟩, _, rfl, _, rfl, _, rfl, ?_⟩
        refine kb.sc.ask (z := 2) rfl fun v x H6 d6 sv gv dv cv => ⟨(by show 3 ≤ sizeLine; decide), fun p hp => ?_⟩
        obtain ⟨fa, fk⟩ := Acc.fin (wd := [.str "put", .str zc, x]) (kb.step s d6) s (.cons (.str _) (.cons (.str _) (.cons sv .nil))) (goods_c (by decide +kernel) (goods_c gz (goods_c gv rfl))) (by simp) (by simp only [PyData.depth, PyData.depthAll, dN, dT, dR] at *; omega) (by simp only [cost, costs, cR] at *; omega) hp
        exact ⟨D, vs, _, rfl, rfl, fa, by have := ka.len; omega, vs ++ [.ref p], _, _, _, _, _, _, _, rfl, by rw [List.length_append, List.length_singleton]; omega, fk⟩
      by_cases hD4 : q = 4
      · have hq := hD4
        refine ⟨_, rfl, rfl, _, rfl, ifF (decide_eq_false (fun e => by have := V.int.inj e; omega)) (ifF rfl ?_)⟩
        refine ⟨_, rfl, _, _, rfl, rfl, _, rfl, ifF (decide_eq_false (by omega)) ?_⟩
        refine ⟨_, rfl, _, _, rfl, rfl, _, rfl, ifF (decide_eq_false (by omega)) ?_⟩
        refine ⟨_, rfl, rfl, _, rfl, ifT (decide_eq_true (by rw [hq])) ?_⟩
        obtain ⟨aM, ms, rfl, mL, mA⟩ := kb.sc.lo.m.inL
        refine ⟨_, rfl, .inl ⟨rfl, _, SqL.of kb.at_⟩, _, rfl, _, rfl, L, _, rfl, kb.sc.lo.get lore_m, ?_⟩
        refine kb.sc.pick kb.sc.lo.m (fun z => by cases z) (by decide) fun x y H6 my sx d6 => ⟨_, rfl, _, rfl, ?_⟩
        obtain ⟨z1, mz1, rfl⟩ := List.mem_map.mp my
        have g1 : good (.str z1) = true := List.all_eq_true.mp (show mineT.all (fun t => good (.str t)) = true by decide +kernel) z1 mz1
        refine (kb.step s d6).sc.ask (z := 2) rfl fun v x H7 d7 sv gv dv cv => ⟨(by show 3 ≤ sizeLine; decide), fun p hp => ?_⟩
        obtain ⟨fa, fk⟩ := Acc.fin (wd := [.str "let", .str z1, x]) ((kb.step s d6).step s d7) s (.cons (.str _) (.cons (Sd.step sx kb.sc.hB d7) (.cons sv .nil))) (goods_c (by decide +kernel) (goods_c g1 (goods_c gv rfl))) (by simp) (by simp only [PyData.depth, PyData.depthAll, dN, dT, dR] at *; omega) (by simp only [cost, costs, cR] at *; omega) hp
        exact ⟨D, vs, _, rfl, rfl, fa, by have := ka.len; omega, vs ++ [.ref p], _, _, _, _, _, _, _, rfl, by rw [List.length_append, List.length_singleton]; omega, fk⟩
      by_cases hE : q = 5 ∧ 0 < zd
      · obtain ⟨hq, hz⟩ := hE
        obtain ⟨n, rfl⟩ : ∃ n, zd = n + 1 := ⟨zd - 1, by omega⟩
        have rc : RC (n + 1) = 12200 + 2 * (4 + 3 * (RC n + 2)) := rfl
        refine ⟨_, rfl, rfl, _, rfl, ifF (decide_eq_false (fun e => by have := V.int.inj e; omega)) (ifF rfl ?_)⟩
        refine ⟨_, rfl, _, _, rfl, rfl, _, rfl, ifF (decide_eq_false (by omega)) ?_⟩
        refine ⟨_, rfl, _, _, rfl, rfl, _, rfl, ifF (decide_eq_false (by omega)) ?_⟩
        refine ⟨_, rfl, rfl, _, rfl, ifF (decide_eq_false (fun e => by have := V.int.inj e; omega)) ?_⟩
        refine ⟨_, rfl, rfl, _, rfl, ifT (decide_eq_true (by rw [hq])) ⟨_, rfl, _, _, rfl, rfl, _, rfl, ifT (decide_eq_true (by omega)) ?_⟩⟩
        refine ⟨_, rfl, _, rfl, _, rfl, _, _, rfl, rfl, ?_⟩
        refine kb.sc.rows (z := n) (by omega) (by decide) (by decide) fun v x H6 d6 sv gv dv cv => ⟨_, rfl, _, rfl, _, rfl, _, _, rfl, rfl, ?_⟩
        refine (kb.step s d6).sc.rows (z := n) (by omega) (by decide) (by decide) fun v1 x1 H7 d7 sv1 gv1 dv1 cv1 => ⟨_, _, rfl, ?_⟩
        have kc := (kb.step s d6).step s d7
        refine ⟨_, rfl, .inl ⟨rfl, _, SqL.of kc.at_⟩, _, rfl, _, rfl, ?_⟩
        refine kc.sc.ask (z := 1) rfl fun v2 x2 H8 d8 sv2 gv2 dv2 cv2 => ⟨_, rfl, _, rfl, ?_⟩
        refine ⟨(by show 4 ≤ sizeLine; decide), fun p hp => ?_⟩
        obtain ⟨fa, fk⟩ := Acc.fin (wd := [.str "if", x2, x, x1]) (kc.step s d8) s (.cons (.str _) (.cons sv2 (.cons (Sd.step (Sd.step sv kb.sc.hB d7) kb.sc.hB d8) (.cons (Sd.step sv1 kb.sc.hB d8) .nil)))) (goods_c (by decide +kernel) (goods_c gv2 (goods_c gv (goods_c gv1 rfl)))) (by simp) (by simp only [PyData.depth, PyData.depthAll, dN, dT, dR] at *; omega) (by simp only [cost, costs, cR] at *; omega) hp
        exact ⟨D, vs, _, rfl, rfl, fa, by have := ka.len; omega, vs ++ [.ref p], _, _, _, _, _, _, _, rfl, by rw [List.length_append, List.length_singleton]; omega, fk⟩
      by_cases hF : q = 6
      · have hq := hF
        refine ⟨_, rfl, rfl, _, rfl, ifF (decide_eq_false (fun e => by have := V.int.inj e; omega)) (ifF rfl ?_)⟩
        refine ⟨_, rfl, _, _, rfl, rfl, _, rfl, ifF (decide_eq_false (by omega)) ?_⟩
        refine ⟨_, rfl, _, _, rfl, rfl, _, rfl, ifF (decide_eq_false (by omega)) ?_⟩
        refine ⟨_, rfl, rfl, _, rfl, ifF (decide_eq_false (fun e => by have := V.int.inj e; omega)) ?_⟩
        refine ⟨_, rfl, rfl, _, rfl, ifF (decide_eq_false (fun e => by have := V.int.inj e; omega)) (ifF rfl ?_)⟩
        refine ⟨_, rfl, rfl, _, rfl, ifT (decide_eq_true (by rw [hq])) ?_⟩
        refine ⟨_, rfl, .inl ⟨rfl, _, SqL.of kb.at_⟩, _, rfl, _, rfl, ?_⟩
        refine kb.sc.ask (z := 2) rfl fun v x H6 d6 sv gv dv cv => ⟨(by show 2 ≤ sizeLine; decide), fun p hp => ?_⟩
        obtain ⟨fa, fk⟩ := Acc.fin (wd := [.str "need", x]) (kb.step s d6) s (.cons (.str _) (.cons sv .nil)) (goods_c (by decide +kernel) (goods_c gv rfl)) (by simp) (by simp only [PyData.depth, PyData.depthAll, dN, dT, dR] at *; omega) (by simp only [cost, costs, cR] at *; omega) hp
        exact ⟨D, vs, _, rfl, rfl, fa, by have := ka.len; omega, vs ++ [.ref p], _, _, _, _, _, _, _, rfl, by rw [List.length_append, List.length_singleton]; omega, fk⟩
      by_cases hG : q = 7
      · have hq := hG
        refine ⟨_, rfl, rfl, _, rfl, ifF (decide_eq_false (fun e => by have := V.int.inj e; omega)) (ifF rfl ?_)⟩
        refine ⟨_, rfl, _, _, rfl, rfl, _, rfl, ifF (decide_eq_false (by omega)) ?_⟩
        refine ⟨_, rfl, _, _, rfl, rfl, _, rfl, ifF (decide_eq_false (by omega)) ?_⟩
        refine ⟨_, rfl, rfl, _, rfl, ifF (decide_eq_false (fun e => by have := V.int.inj e; omega)) ?_⟩
        refine ⟨_, rfl, rfl, _, rfl, ifF (decide_eq_false (fun e => by have := V.int.inj e; omega)) (ifF rfl ?_)⟩
        refine ⟨_, rfl, rfl, _, rfl, ifF (decide_eq_false (fun e => by have := V.int.inj e; omega)) ?_⟩
        refine ⟨_, rfl, rfl, _, rfl, ifT (decide_eq_true (by rw [hq])) ⟨_, rfl, ?_⟩⟩
        refine kb.sc.take (j := 3) (by decide) (by decide) fun q3 H7 q30 q31 d7 => ⟨rfl, _, rfl, iteD (fun h3 => ?_) (fun h3 => ?_)⟩
        · have kc := kb.step s d7
          refine ⟨_, rfl, .inl ⟨rfl, _, SqL.of kc.at_⟩, _, rfl, ?_⟩
          refine ⟨(by show 2 ≤ sizeLine; decide), fun p hp => ?_⟩
          obtain ⟨fa, fk⟩ := Acc.fin (wd := [.str "drop", .str zc]) kc s (.cons (.str _) (.cons (.str _) .nil)) (goods_c (by decide +kernel) (goods_c gz rfl)) (by simp) (by simp only [PyData.depth, PyData.depthAll, dN, dT, dR] at *; omega) (by simp only [cost, costs, cR] at *; omega) hp
          exact ⟨D, vs, _, rfl, rfl, fa, by have := ka.len; omega, vs ++ [.ref p], _, _, _, _, _, _, _, rfl, by rw [List.length_append, List.length_singleton]; omega, fk⟩
        · have kc := kb.step s d7
          refine ⟨_, rfl, .inl ⟨rfl, _, SqL.of kc.at_⟩, _, rfl, _, rfl, ?_⟩
          refine kc.sc.ask (z := 1) rfl fun v x H6 d6 sv gv dv cv => ⟨(by show 2 ≤ sizeLine; decide), fun p hp => ?_⟩
          obtain ⟨fa, fk⟩ := Acc.fin (wd := [.str "tell", x]) (kc.step s d6) s (.cons (.str _) (.cons sv .nil)) (goods_c (by decide +kernel) (goods_c gv rfl)) (by simp) (by simp only [PyData.depth, PyData.depthAll, dN, dT, dR] at *; omega) (by simp only [cost, costs, cR] at *; omega) hp
          exact ⟨D, vs, _, rfl, rfl, fa, by have := ka.len; omega, vs ++ [.ref p], _, _, _, _, _, _, _, rfl, by rw [List.length_append, List.length_singleton]; omega, fk⟩
      by_cases h5 : q = 5
      · have hq := h5
        refine ⟨_, rfl, rfl, _, rfl, ifF (decide_eq_false (fun e => by have := V.int.inj e; omega)) (ifF rfl ?_)⟩
        refine ⟨_, rfl, _, _, rfl, rfl, _, rfl, ifF (decide_eq_false (by omega)) ?_⟩
        refine ⟨_, rfl, _, _, rfl, rfl, _, rfl, ifF (decide_eq_false (by omega)) ?_⟩
        refine ⟨_, rfl, rfl, _, rfl, ifF (decide_eq_false (fun e => by have := V.int.inj e; omega)) ?_⟩
        refine ⟨_, rfl, rfl, _, rfl, ifT (decide_eq_true (by rw [hq])) ⟨_, rfl, _, _, rfl, rfl, _, rfl, ifF (decide_eq_false (by omega)) ?_⟩⟩
        refine ⟨_, rfl, rfl, _, rfl, ifF (decide_eq_false (fun e => by have := V.int.inj e; omega)) ?_⟩
        refine ⟨_, rfl, rfl, _, rfl, ifF (decide_eq_false (fun e => by have := V.int.inj e; omega)) (ifF rfl ?_)⟩
        refine ⟨_, rfl, .inl ⟨rfl, _, SqL.of kb.at_⟩, _, rfl, _, rfl, ?_⟩
        refine kb.sc.ask (z := 1) rfl fun v x H6 d6 sv gv dv cv => ⟨(by show 2 ≤ sizeLine; decide), fun p hp => ?_⟩
        obtain ⟨fa, fk⟩ := Acc.fin (wd := [.str "tell", x]) (kb.step s d6) s (.cons (.str _) (.cons sv .nil)) (goods_c (by decide +kernel) (goods_c gv rfl)) (by simp) (by simp only [PyData.depth, PyData.depthAll, dN, dT, dR] at *; omega) (by simp only [cost, costs, cR] at *; omega) hp
        exact ⟨D, vs, _, rfl, rfl, fa, by have := ka.len; omega, vs ++ [.ref p], _, _, _, _, _, _, _, rfl, by rw [List.length_append, List.length_singleton]; omega, fk⟩
      · skip
        refine ⟨_, rfl, rfl, _, rfl, ifF (decide_eq_false (fun e => by have := V.int.inj e; omega)) (ifF rfl ?_)⟩
        refine ⟨_, rfl, _, _, rfl, rfl, _, rfl, ifF (decide_eq_false (by omega)) ?_⟩
        refine ⟨_, rfl, _, _, rfl, rfl, _, rfl, ifF (decide_eq_false (by omega)) ?_⟩
        refine ⟨_, rfl, rfl, _, rfl, ifF (decide_eq_false (fun e => by have := V.int.inj e; omega)) ?_⟩
        refine ⟨_, rfl, rfl, _, rfl, ifF (decide_eq_false (fun e => by have := V.int.inj e; omega)) (ifF rfl ?_)⟩
        refine ⟨_, rfl, rfl, _, rfl, ifF (decide_eq_false (fun e => by have := V.int.inj e; omega)) ?_⟩
        refine ⟨_, rfl, rfl, _, rfl, ifF (decide_eq_false (fun e => by have := V.int.inj e; omega)) (ifF rfl ?_)⟩
        refine ⟨_, rfl, .inl ⟨rfl, _, SqL.of kb.at_⟩, _, rfl, _, rfl, ?_⟩
        refine kb.sc.ask (z := 1) rfl fun v x H6 d6 sv gv dv cv => ⟨(by show 2 ≤ sizeLine; decide), fun p hp => ?_⟩
        obtain ⟨fa, fk⟩ := Acc.fin (wd := [.str "tell", x]) (kb.step s d6) s (.cons (.str _) (.cons sv .nil)) (goods_c (by decide +kernel) (goods_c gv rfl)) (by simp) (by simp only [PyData.depth, PyData.depthAll, dN, dT, dR] at *; omega) (by simp only [cost, costs, cR] at *; omega) hp
        exact ⟨D, vs, _, rfl, rfl, fa, by have := ka.len; omega, vs ++ [.ref p], _, _, _, _, _, _, _, rfl, by rw [List.length_append, List.length_singleton]; omega, fk⟩
    · rintro σ H2 ⟨vs, ds, w5, w6, w7, w8, w9, w10, rfl, li, ka⟩
      have l3 : ds.length ≤ 3 := by omega
      have ct := ka.ct
      have dp := ka.dp
      have m3 : ds.length * (RC zd + 2) ≤ 3 * (RC zd + 2) := Nat.mul_le_mul_right _ l3
      refine ⟨_, rfl, D, vs, rfl, .inl ⟨SqL.of ka.at_, fun p hp => ?_⟩⟩
      refine mk_tup s.al ka.dr ka.out ka.g (by omega) ?_ ?_ k p hp
      · simp only [PyData.depth, dR]; omega
      · simp only [cost, cR]; omega
end
end R61

namespace R61
open PySem L2 L3
/-- so many titles, each of them good -/
def G12 (m : Nat) (ts : List Str) : Prop := m = 12 → ts.length = 12 ∧ ∀ t ∈ ts, good (.str t) = true
theorem tb0 : (List.range 26).all (fun s => ((List.range 12).map (tx0 s)).all fun t => good (.str t)) = true := by decide +kernel
theorem tb1 : (List.range 26).all (fun s => ((List.range 12).map (tx1 s)).all fun t => good (.str t)) = true := by decide +kernel
theorem tb2 : (List.range 26).all (fun s => ((List.range 12).map (tx2 s)).all fun t => good (.str t)) = true := by decide +kernel
theorem tb3 : (List.range 26).all (fun s => ((List.range 12).map (tx3 s)).all fun t => good (.str t)) = true := by decide +kernel
theorem g_of {f : Nat → Nat → Str} (h : (List.range 26).all (fun s => ((List.range 12).map (f s)).all fun t => good (.str t)) = true) (m s : Nat) (hs : s < 26) (ts : List Str) (p : ts.Perm ((List.range m).map (f s))) : G12 m ts := fun e => by
  subst e
  refine ⟨by rw [p.length_eq, List.length_map, List.length_range], fun t mt => ?_⟩
  exact List.all_eq_true.mp (List.all_eq_true.mp h s (List.mem_range.mpr hs)) t (p.mem_iff.mp mt)
end R61

namespace R61
open PySem L2 L3
open C8 (pss_cut tCut pe_gc)
abbrev sLore : Stmt := top 19
theorem sdall_ix {K : PySem.W.Frag} {B : Addr → Prop} {H : Hp} : ∀ {vs : List V} {ds : List PyData}, vs.length = ds.length → (∀ (i : Nat) (v : V) (x : PyData), vs[i]? = some v → ds[i]? = some x → Sd K B H v x) → SdAll K B H vs ds
  | [], [], _, _ => .nil
  | [], _ :: _, h, _ => by simp at h
  | _ :: _, [], h, _ => by simp at h
  | v :: vs, x :: ds, h, f => .cons (f 0 v x rfl rfl) (sdall_ix (by simpa using h) fun i v x h1 h2 => f (i + 1) v x (by simpa using h1) (by simpa using h2))
theorem cut_gen (ts : List Str) (lo hi : Option Int) : cutV (ts.map V.str) lo hi = ((ts.drop (HT.sIx ts.length 0 lo)).take (HT.sIx ts.length ts.length hi - HT.sIx ts.length 0 lo)).map V.str := by
  unfold cutV
  rw [List.length_map, List.map_take, List.map_drop]
/-- a lore whose tables are still being drawn -/
structure Pre (K : PySem.W.Frag) (B : Addr → Prop) (H : Hp) (L : Addr) (cs : List (Str × Nat)) (ce : List Str) (c e d r m t : V) : Prop where
  at_ : ∀ H2, Off B H H2 → H2 L = some (.dK (loreKV c e d r m t false))
  c : ∃ a xs, c = .ref a ∧ (∀ H2, Off B H H2 → H2 a = some (.lst xs)) ∧ SdAll K B H xs (cs.map chD)
  e : ∃ a, e = .ref a ∧ ∀ H2, Off B H H2 → H2 a = some (.lst (ce.map V.str))
  d : Sd K B H d (.list [])
  r : Sd K B H r (.list [])
  m : Sd K B H m (strD mineT)
theorem Pre.off {K : PySem.W.Frag} {B : Addr → Prop} {H H' : Hp} {L : Addr} {cs : List (Str × Nat)} {ce : List Str} {c e d r m t : V} (h : Pre K B H L cs ce c e d r m t) (o : Off B H H') : Pre K B H' L cs ce c e d r m t :=
  ⟨fun H2 o2 => h.at_ H2 (o.trans o2), (let ⟨a, xs, q1, q2, q3⟩ := h.c; ⟨a, xs, q1, fun H2 o2 => q2 H2 (o.trans o2), SdAll.off o _ _ q3⟩), (let ⟨a, q1, q2⟩ := h.e; ⟨a, q1, fun H2 o2 => q2 H2 (o.trans o2)⟩), Sd.off o _ _ h.d, Sd.off o _ _ h.r, Sd.off o _ _ h.m⟩
theorem Pre.lore {K : PySem.W.Frag} {B : Addr → Prop} {H : Hp} {L l7 : Addr} {cs : List (Str × Nat)} {ce : List Str} {tb : List (Str × List Str)} {c e d r m t : V} (h : Pre K (And1 B l7) H L cs ce c e d r m t) (ht : Sd K B H t (.list (tb.map tbD))) : Lore K B H L cs ce tb false c e d r m t :=
  have less : ∀ H2, Off B H H2 → Off (And1 B l7) H H2 := fun H2 o => off_less (B := B) (C := And1 B l7) (fun b h => .inl h) o
  ⟨fun H2 o2 => h.at_ H2 (less H2 o2), (let ⟨a, xs, q1, q2, q3⟩ := h.c; ⟨a, xs, q1, fun H2 o2 => q2 H2 (less H2 o2), SdAll.less (fun b h => .inl h) _ _ q3⟩), (let ⟨a, q1, q2⟩ := h.e; ⟨a, q1, fun H2 o2 => q2 H2 (less H2 o2)⟩), Sd.less (fun b h => .inl h) _ _ h.d, Sd.less (fun b h => .inl h) _ _ h.r, Sd.less (fun b h => .inl h) _ _ h.m, ht⟩
theorem dr_put {a D : Addr} {H1 H : Hp} {o : HO} (d : Dr a H1 H) (n : D ≠ a) (h : H1 D = none) : Dr a H1 (upd H D o) := by
  obtain ⟨⟨x, y, q1, q2⟩, sm⟩ := d
  refine ⟨⟨x, y, by rw [upd_ne (Ne.symm n)]; exact q1, q2⟩, fun b u nb e => ?_⟩
  rw [upd_ne (ne_of_none e h)]
  exact sm b u nb e
theorem feed_ne {a D : Addr} {H : Hp} (f : FeedAt H a) (h : H D = none) : D ≠ a := fun q => by
  obtain ⟨x, y, e, _⟩ := f
  rw [q, e] at h
  cases h
def someT : List (List Str) := [["p"], ["p", "q"], ["q", "p"], ["q", "r", "p", "s"]]
def someD : List PyData := someT.map fun ps => .tuple (ps.map .str)
def spLore (K : PySem.W.Frag) : Sp := fun vs H Q _ => ∃ a : Addr, vs = [.ref a, .int 3] ∧ FeedAt H a ∧
  ∀ (L : Addr) (H' : Hp) (cs : List (Str × Nat)) (ce : List Str) (tb : List (Str × List Str)) (c e d r m t : V), Dr a H H' → Sc K (fun b => b = a) a L cs ce tb false c e d r m t H' → Q (.ref L) H'
section
variable {P : Program} {w : World} {K : PySem.W.Frag} {mg : Str → Option Value} {base : Heap}
abbrev NLo : List Str := ["_law_feed_here", "_law_most", "_law_titles_here", "_law_sizes", "_law_lore_here", "_law_some", "_law_title", "_law_turn"]
abbrev pLo : List Str := ["_law_feed_here", "_law_most"]
theorem scLo : FnScope NLo pLo (defScope sLore) := ⟨rfl, rfl, rfl, by decide +kernel, rfl, by decide +kernel, by decide +kernel⟩
theorem ok_lore {f fP fT fL : Addr} {fd fdP fdT fdL : FuncData} (z : Zn mg) (F : Fun K "_law_lore" "_law_lore" sLore f fd) (UP : Use P w K mg base "_law_pick" 2 fP fdP ["_law_feed_here", "_law_some"] (spPick K)) (UT : Use P w K mg base "_law_take" 1 fT fdT ["_law_feed_here", "_law_many"] spTake)
    (UL : Use P w K mg base "_law_titles" 3 fL fdL ["_law_feed_here", "_law_many"] (spTitles G12)) : FnOk P w K mg base CX0 4 f fd pLo (spLore K) := by
  refine F.ok scLo (fun vs H Q E h => ?_) (fun cdv A outer s H vs Q E hr h => ?_)
  · obtain ⟨a, rfl, _⟩ := h
    rfl
  · obtain ⟨a, rfl, hf, k⟩ := h
    have nd := scLo.nd
    have hu1 := hu_of hr
    have lsz := sizeLine_eq
    have s0z : 0 ≤ sizeLine := Nat.zero_le _
    refine ⟨_, (pss_cons (ps_set (i := 2) nd rfl (.inl rfl) (pe_call UL.G (hr.mono (by omega)) (by rfl) UL.g UL.kp UL.b .nil pass0 (pa_cons (pv 0) (pa_cons pe_int pa_nil))))
      (pss_cons (ps_setLc (i := 3) (own := [("_law_turn", 7)]) (g := gName 7) (tt := tYes) rfl nd rfl rfl (sw_true rfl rfl rfl (by decide +kernel)) (pi_range1 (by rfl) z.rng (pa_cons (pe_op op_add pe_int (pe_call UT.G (hr.mono (by omega)) (by rfl) UT.g UT.kp UT.b .nil pass0 (pa_cons (pv 0) (pa_cons (pv 1) pa_nil)))) pa_nil)) (blkOk_by (N := NLo) (sc := defScope sLore) (by decide +kernel)) (fun _ _ _ _ _ => pg_name (i := 7) nd rfl (.inl rfl)) (fun _ _ _ _ _ => pts_nil) (fun _ _ _ _ _ => (pe_op op_add pe_int (pe_callTy call_int1 (by rfl) z.int PyProof.Rows.boot_int (pa_cons (pe_cmpR op_eq (pe_call UT.G (hr.mono (by omega)) (by rfl) UT.g UT.kp UT.b .nil pass0 (pa_cons (pv 0) (pa_cons pe_int pa_nil))) pe_int (nomark _)) pa_nil)))))
      (pss_cons (ps_set (i := 4) nd rfl (.inl rfl) (pe_disp (pps_cons pe_str (pe_listZip (by rfl) (by rfl) z.lst (by rfl) z.zip (pa_cons (pe_slice sl_list (pv 2) po_none (po_some pe_int)) (pa_cons (pv 3) pa_nil))) (pps_cons pe_str (pe_slice sl_list (pv 2) (po_some pe_int) (po_some pe_int)) (pps_cons pe_str (pe_lst pa_nil) (pps_cons pe_str (pe_lst pa_nil) (pps_cons pe_str (pe_lst (pa_cons pe_str (pa_cons pe_str pa_nil))) pps_nil))))) (by rfl) (by rfl) (fun z => by cases z) (by decide)))
      (pss_cons (ps_asg (pe_tup (pa_cons (pe_lst pa_nil) (pa_cons (pe_lst (pa_cons (pe_tup (pa_cons pe_str pa_nil)) (pa_cons (pe_tup (pa_cons pe_str (pa_cons pe_str pa_nil))) (pa_cons (pe_tup (pa_cons pe_str (pa_cons pe_str pa_nil))) (pa_cons (pe_tup (pa_cons pe_str (pa_cons pe_str (pa_cons pe_str (pa_cons pe_str pa_nil))))) pa_nil))))) pa_nil))) (pg_tup (by rfl) (pgs_cons (pg_sub (pv 4) pe_str (set_dict hu1)) (pgs_cons (pg_name (i := 5) nd rfl (.inl rfl)) pgs_nil))))
      (pss_cons (ps_for PassesOwn.never rfl (pi_list (pe_slice sl_list (pv 2) (po_some pe_int) (po_some (pe_op op_add pe_int (pe_call UT.G (hr.mono (by omega)) (by rfl) UT.g UT.kp UT.b .nil pass0 (pa_cons (pv 0) (pa_cons pe_int pa_nil))))))) (pg_name (i := 6) nd rfl (.inl rfl)) (pss_one (ps_expr (pe_bm PySem.F.plainAttrs_list PySem.F.slot_list_append PySem.F.type_list_append mt_append (pe_dget hu1 (pv 4) pe_str (fun _ _ => rfl)) (pa_cons (pe_tup (pa_cons (pv 6) (pa_cons (pe_call UP.G (hr.mono (by omega)) (by rfl) UP.g UP.kp UP.b .nil pass0 (pa_cons (pv 0) (pa_cons (pv 5) pa_nil))) pa_nil))) pa_nil)))))
      (pss_one (ps_ret (pv 4)))))))), ?_⟩
    refine ⟨_, rfl, a, 12, rfl, hf, by decide, fun T ts H1 hT d1 eT gT => ?_⟩
    obtain ⟨l12, gts⟩ := gT rfl
    have nT : T ≠ a := fun q => by
      obtain ⟨x, y, h, _⟩ := hf
      rw [q, h] at hT
      cases hT
    refine ⟨_, rfl, _, rfl, a, 3, rfl, d1.fd, by decide, by decide, fun r H2 r0 r3 d2 => ⟨_, _, rfl, rfl, (1 + r : Int), rfl, by omega, by omega, fun D hD => lc_range (fun q H' => ∃ zs : List Int, H' D = some (.lst (zs.map V.int)) ∧ zs.length = q ∧ (∀ z ∈ zs, 2 ≤ z ∧ z ≤ 3) ∧ Dr a H1 H')
      ⟨[], upd_same, rfl, fun z m => (nomatch m), d2.trans (dr_new d2.fd hD)⟩ ?_ ?_⟩⟩
    · rintro q H3 hq ⟨zs, eD, lz, gz, d3⟩
      have nD := feed_ne d2.fd hD
      refine ⟨rfl, _, rfl, a, 4, rfl, d3.fd, by decide, by decide, fun r5 H5 r50 r51 d5 => ⟨rfl, .inr ⟨_, rfl, _, _, rfl, rfl, zs.map V.int, d5.sm _ _ nD eD, by rw [List.length_map]; omega, zs ++ [2 + (if decide (V.int r5 = V.int 0) = true then 1 else 0)], ?_, ?_, ?_, ?_⟩⟩⟩
      · rw [upd_same, List.map_append]
        rfl
      · rw [List.length_append, lz]
        rfl
      · intro z mz
        rcases List.mem_append.mp mz with mz | mz
        · exact gz z mz
        · obtain rfl := List.mem_singleton.mp mz
          split <;> omega
      · exact dr_put (d3.trans d5) nD (dr_free d2 hD)
    · rintro H3 ⟨zs, eD, lz, gz, d3⟩
      have eT3 := d3.sm _ _ nT eT
      have z1 : 1 ≤ zs.length := by omega
      have z3 : zs.length ≤ 3 := by omega
      refine fun Ld hLd => ⟨_, rfl, _, rfl, T, _, rfl, SqL.of (same_new hLd _ _ eT3), fun p1 hp1 => ⟨_, rfl, ?_⟩⟩
      have sL := same_new (o := .dK []) hLd
      have s1 := same_new (o := .lst (cutV (ts.map V.str) none (some 6))) hp1
      refine ⟨p1, D, _, _, rfl, SqL.of upd_same, SqL.of (s1 _ _ (sL _ _ eD)), Nat.lt_of_le_of_lt (cutV_length _ _ _) (by rw [List.length_map]; omega), fun D2 t2 H5 hD2 hlen hz => ?_⟩
      have sZ : Same _ H5 := hz.st
      refine ⟨_, rfl, _, rfl, _, rfl, T, _, rfl, SqL.of (sZ _ _ (s1 _ _ (sL _ _ eT3))), fun p3 hp3 => ⟨s0z, fun l4 hl4 => ⟨s0z, fun l5 hl5 => ⟨(by show 2 ≤ sizeLine; decide), fun l6 hl6 => ?_⟩⟩⟩⟩
      have s3 := same_new (o := .lst (cutV (ts.map V.str) (some 6) (some 9))) hp3
      have s4 := same_new (o := .lst []) hl4
      have s5 := same_new (o := .lst []) hl5
      have s6 := same_new (o := .lst [V.str "v", V.str "w"]) hl6
      have s36 := s3.trans (s4.trans (s5.trans s6))
      refine ⟨s36 _ _ (sZ _ _ (s1 _ _ upd_same)), [(.inr "choices", .ref D2), (.inr "cells", .ref p3), (.inr "deeds", .ref l4), (.inr "rules", .ref l5), (.inr "mine", .ref l6)], rfl, (by simp), ?_⟩
      have al3 : FeedAt H3 a := d3.fd
      have fL := (dr_new (o := .dK []) al3 hLd)
      have f1 := (dr_new (o := .lst (cutV (ts.map V.str) none (some 6))) fL.fd hp1)
      have fZ := dr_of sZ f1.fd
      have f3 := dr_new (o := .lst (cutV (ts.map V.str) (some 6) (some 9))) fZ.fd hp3
      have f4 := dr_new (o := .lst []) f3.fd hl4
      have f5 := dr_new (o := .lst []) f4.fd hl5
      have f6 := dr_new (o := .lst [V.str "v", V.str "w"]) f5.fd hl6
      have aLd : Ld ≠ a := feed_ne al3 hLd
      have eL9 := s36 _ _ (sZ _ _ (s1 _ _ (upd_same (H := H3) (a := Ld) (o := .dK []))))
      have e3 := (s4.trans (s5.trans s6)) _ _ (upd_same (H := H5) (a := p3) (o := .lst (cutV (ts.map V.str) (some 6) (some 9))))
      have e4 := (s5.trans s6) _ _ (upd_same (H := upd H5 p3 (.lst (cutV (ts.map V.str) (some 6) (some 9)))) (a := l4) (o := .lst []))
      have e5 := s6 _ _ (upd_same (H := upd (upd H5 p3 (.lst (cutV (ts.map V.str) (some 6) (some 9)))) l4 (.lst [])) (a := l5) (o := .lst []))
      have e6 := upd_same (H := upd (upd (upd H5 p3 (.lst (cutV (ts.map V.str) (some 6) (some 9)))) l4 (.lst [])) l5 (.lst [])) (a := l6) (o := .lst [V.str "v", V.str "w"])
      have eD2 := s36 _ _ hz.at_
      have eT9 := s36 _ _ (sZ _ _ (s1 _ _ (sL _ _ eT3)))
      have n3 : p3 ≠ Ld := Ne.symm (ne_of_none (sZ _ _ (s1 _ _ (upd_same (H := H3) (a := Ld) (o := .dK [])))) hp3)
      have nD2 : D2 ≠ Ld := Ne.symm (ne_of_none (s1 _ _ (upd_same (H := H3) (a := Ld) (o := .dK []))) hD2)
      have n4 : l4 ≠ Ld := Ne.symm (ne_of_none (s3 _ _ (sZ _ _ (s1 _ _ (upd_same (H := H3) (a := Ld) (o := .dK []))))) hl4)
      have n5 : l5 ≠ Ld := Ne.symm (ne_of_none ((s3.trans s4) _ _ (sZ _ _ (s1 _ _ (upd_same (H := H3) (a := Ld) (o := .dK []))))) hl5)
      have n6 : l6 ≠ Ld := Ne.symm (ne_of_none ((s3.trans (s4.trans s5)) _ _ (sZ _ _ (s1 _ _ (upd_same (H := H3) (a := Ld) (o := .dK []))))) hl6)
      have nTL : T ≠ Ld := ne_of_none eT3 hLd
      have a3 : p3 ≠ a := feed_ne fZ.fd hp3
      have aD2 : D2 ≠ a := feed_ne f1.fd hD2
      have a4 : l4 ≠ a := feed_ne f3.fd hl4
      have a5 : l5 ≠ a := feed_ne f4.fd hl5
      have a6 : l6 ≠ a := feed_ne f5.fd hl6
      have pairs9 : ∀ i t, t2[i]? = some t → t ≠ Ld ∧ t ≠ a ∧ ∃ x y, (cutV (ts.map V.str) none (some 6))[i]? = some x ∧ (zs.map V.int)[i]? = some y ∧ upd (upd (upd (upd H5 p3 (.lst (cutV (ts.map V.str) (some 6) (some 9)))) l4 (.lst [])) l5 (.lst [])) l6 (.lst [V.str "v", V.str "w"]) t = some (.tup [x, y]) := fun i t hi => by
        obtain ⟨q1, x, y, q2, q3, q4⟩ := hz.pr i t hi
        exact ⟨Ne.symm (ne_of_none (s1 _ _ (upd_same (H := H3) (a := Ld) (o := .dK []))) q1), feed_ne f1.fd q1, x, y, q2, q3, s36 _ _ q4⟩
      have d9 : Dr a H3 (upd (upd (upd (upd H5 p3 (.lst (cutV (ts.map V.str) (some 6) (some 9)))) l4 (.lst [])) l5 (.lst [])) l6 (.lst [V.str "v", V.str "w"])) := fL.trans (f1.trans (fZ.trans (f3.trans (f4.trans (f5.trans f6)))))
      generalize upd (upd (upd (upd H5 p3 (.lst (cutV (ts.map V.str) (some 6) (some 9)))) l4 (.lst [])) l5 (.lst [])) l6 (.lst [V.str "v", V.str "w"]) = H9 at d9 pairs9 eT9 eD2 e6 e5 e4 e3 eL9 f6 s6 s36 ⊢
      clear s36 s3 s4 s5 s6 f3 f4 f5 f6 fZ f1 fL sZ s1 sL hl6 hl5 hl4 hp3 hz hD2 hp1
      have d10 := dr_put (o := .dK (mergeK [] [(.inr "choices", .ref D2), (.inr "cells", .ref p3), (.inr "deeds", .ref l4), (.inr "rules", .ref l5), (.inr "mine", .ref l6)])) d9 aLd hLd
      refine ⟨s0z, fun l7 hl7 => ⟨(by show 1 ≤ sizeLine; decide), fun u1 hu1 => ⟨(by show 2 ≤ sizeLine; decide), fun u2 hu2 => ⟨(by show 2 ≤ sizeLine; decide), fun u3 hu3 => ⟨(by show 4 ≤ sizeLine; decide), fun u4 hu4 => ⟨(by show 4 ≤ sizeLine; decide), fun l8 hl8 => ⟨(by show 2 ≤ sizeLine; decide), fun tt htt => ?_⟩⟩⟩⟩⟩⟩⟩
      have q7 := same_new (o := .lst []) hl7
      have q1 := same_new (o := .tup [V.str "p"]) hu1
      have q2 := same_new (o := .tup [V.str "p", V.str "q"]) hu2
      have q3 := same_new (o := .tup [V.str "q", V.str "p"]) hu3
      have q4 := same_new (o := .tup [V.str "q", V.str "r", V.str "p", V.str "s"]) hu4
      have q8 := same_new (o := .lst [V.ref u1, V.ref u2, V.ref u3, V.ref u4]) hl8
      have qt := same_new (o := .tup [V.ref l7, V.ref l8]) htt
      have q18 := q1.trans (q2.trans (q3.trans (q4.trans (q8.trans qt))))
      have eL10 := (q7.trans q18) Ld _ upd_same
      refine ⟨tt, _, rfl, SqT.of upd_same, rfl, _, _, rfl, _, rfl, Ld, _, rfl, DPut.k (k := Sum.inr "tables") eL10 (show 5 < sizeLine by decide), _, _, rfl, rfl, ?_⟩
      -- what stands behind these steps
      have a7 : l7 ≠ a := feed_ne d10.fd hl7
      have n7 : l7 ≠ Ld := Ne.symm (ne_of_none upd_same hl7)
      have F7 := dr_new (o := .lst []) d10.fd hl7
      have F1 := dr_new (o := .tup [V.str "p"]) F7.fd hu1
      have F2 := dr_new (o := .tup [V.str "p", V.str "q"]) F1.fd hu2
      have F3 := dr_new (o := .tup [V.str "q", V.str "p"]) F2.fd hu3
      have F4 := dr_new (o := .tup [V.str "q", V.str "r", V.str "p", V.str "s"]) F3.fd hu4
      have F8 := dr_new (o := .lst [V.ref u1, V.ref u2, V.ref u3, V.ref u4]) F4.fd hl8
      have FT := dr_new (o := .tup [V.ref l7, V.ref l8]) F8.fd htt
      have d17 := d10.trans (F7.trans (F1.trans (F2.trans (F3.trans (F4.trans (F8.trans FT))))))
      have eTb := q18 _ _ (upd_same (H := upd H9 Ld (.dK (mergeK [] [(.inr "choices", .ref D2), (.inr "cells", .ref p3), (.inr "deeds", .ref l4), (.inr "rules", .ref l5), (.inr "mine", .ref l6)]))) (a := l7) (o := .lst []))
      let B' : Addr → Prop := And1 (fun b => b = a) l7
      let B2 : Addr → Prop := And1 B' Ld
      have alB : ∀ b, B2 b → upd (upd H9 Ld (.dK (mergeK [] [(.inr "choices", .ref D2), (.inr "cells", .ref p3), (.inr "deeds", .ref l4), (.inr "rules", .ref l5), (.inr "mine", .ref l6)]))) l7 (.lst []) b ≠ none := fun b hb => by
        rcases hb with (rfl | rfl) | rfl
        · obtain ⟨x, y, q, _⟩ := F7.fd
          rw [q]; exact fun z => nomatch z
        · rw [upd_same]; exact fun z => nomatch z
        · rw [q7 _ _ upd_same]; exact fun z => nomatch z
      have S1 : Sd K B2 _ (.ref u1) (.tuple [.str "p"]) := Sd.newT alB hu1 (.cons (.str "p") .nil)
      have alB1 := L3.Same.alive alB q1
      have S2 : Sd K B2 _ (.ref u2) (.tuple [.str "p", .str "q"]) := Sd.newT alB1 hu2 (.cons (.str "p") (.cons (.str "q") .nil))
      have alB2 := L3.Same.alive alB1 q2
      have S3 : Sd K B2 _ (.ref u3) (.tuple [.str "q", .str "p"]) := Sd.newT alB2 hu3 (.cons (.str "q") (.cons (.str "p") .nil))
      have alB3 := L3.Same.alive alB2 q3
      have S4 : Sd K B2 _ (.ref u4) (.tuple [.str "q", .str "r", .str "p", .str "s"]) := Sd.newT alB3 hu4 (.cons (.str "q") (.cons (.str "r") (.cons (.str "p") (.cons (.str "s") .nil))))
      have alB4 := L3.Same.alive alB3 q4
      have S8 : Sd K B2 _ (.ref l8) (.list someD) := Sd.newL alB4 hl8 (.cons (Sd.off (Same.off (q2.trans (q3.trans q4))) _ _ S1) (.cons (Sd.off (Same.off (q3.trans q4)) _ _ S2) (.cons (Sd.off (Same.off q4) _ _ S3) (.cons S4 .nil))))
      have S17 : Sd K B2 (upd (upd (upd (upd (upd (upd (upd (upd H9 Ld (.dK (mergeK [] [(.inr "choices", .ref D2), (.inr "cells", .ref p3), (.inr "deeds", .ref l4), (.inr "rules", .ref l5), (.inr "mine", .ref l6)]))) l7 (.lst [])) u1 (.tup [V.str "p"])) u2 (.tup [V.str "p", V.str "q"])) u3 (.tup [V.str "q", V.str "p"])) u4 (.tup [V.str "q", V.str "r", V.str "p", V.str "s"])) l8 (.lst [V.ref u1, V.ref u2, V.ref u3, V.ref u4])) tt (.tup [V.ref l7, V.ref l8])) (.ref l8) (.list someD) := Sd.off (Same.off qt) _ _ S8
      have f7 : ∀ b o, b ≠ Ld → H9 b = some o → b ≠ l7 := fun b o n e => ne_of_none ((upd_ne n).trans e) hl7
      have keep7 : ∀ b o, b ≠ Ld → H9 b = some o → (upd (upd (upd (upd (upd (upd (upd (upd H9 Ld (.dK (mergeK [] [(.inr "choices", .ref D2), (.inr "cells", .ref p3), (.inr "deeds", .ref l4), (.inr "rules", .ref l5), (.inr "mine", .ref l6)]))) l7 (.lst [])) u1 (.tup [V.str "p"])) u2 (.tup [V.str "p", V.str "q"])) u3 (.tup [V.str "q", V.str "p"])) u4 (.tup [V.str "q", V.str "r", V.str "p", V.str "s"])) l8 (.lst [V.ref u1, V.ref u2, V.ref u3, V.ref u4])) tt (.tup [V.ref l7, V.ref l8])) b = some o := fun b o n e => q18 b o (q7 b o ((upd_ne n).trans e))
      generalize (upd (upd (upd (upd (upd (upd (upd (upd H9 Ld (.dK (mergeK [] [(.inr "choices", .ref D2), (.inr "cells", .ref p3), (.inr "deeds", .ref l4), (.inr "rules", .ref l5), (.inr "mine", .ref l6)]))) l7 (.lst [])) u1 (.tup [V.str "p"])) u2 (.tup [V.str "p", V.str "q"])) u3 (.tup [V.str "q", V.str "p"])) u4 (.tup [V.str "q", V.str "r", V.str "p", V.str "s"])) l8 (.lst [V.ref u1, V.ref u2, V.ref u3, V.ref u4])) tt (.tup [V.ref l7, V.ref l8])) = H17 at S17 keep7 eTb d17 eL10 ⊢
      have fr7 : H1 l7 = none := dr_free (d3.trans d10) hl7
      clear S8 S4 S3 S2 S1 alB4 alB3 alB2 alB1 alB q18 q8 q7 q4 q3 q2 q1 qt F7 F1 F2 F3 F4 F8 FT hl8 hu1 hu2 hu3 hu4 htt hl7
      have d18 := dr_put (o := .dK (putK (mergeK [] [(.inr "choices", .ref D2), (.inr "cells", .ref p3), (.inr "deeds", .ref l4), (.inr "rules", .ref l5), (.inr "mine", .ref l6)]) (.inr "tables") (.ref l7))) d17 aLd hLd
      have S18 := Sd.less (B := B') (fun b h => .inl h) _ _ (Sd.off (off_at (o := .dK (putK (mergeK [] [(.inr "choices", .ref D2), (.inr "cells", .ref p3), (.inr "deeds", .ref l4), (.inr "rules", .ref l5), (.inr "mine", .ref l6)]) (.inr "tables") (.ref l7))) (show B2 Ld from .inr rfl)) _ _ S17)
      have e7 : upd H17 Ld (.dK (putK (mergeK [] [(.inr "choices", .ref D2), (.inr "cells", .ref p3), (.inr "deeds", .ref l4), (.inr "rules", .ref l5), (.inr "mine", .ref l6)]) (.inr "tables") (.ref l7))) l7 = some (.lst []) := (upd_ne n7).trans eTb
      have eL18 : upd H17 Ld (.dK (putK (mergeK [] [(.inr "choices", .ref D2), (.inr "cells", .ref p3), (.inr "deeds", .ref l4), (.inr "rules", .ref l5), (.inr "mine", .ref l6)]) (.inr "tables") (.ref l7))) Ld = some (.dK (loreKV (.ref D2) (.ref p3) (.ref l4) (.ref l5) (.ref l6) (.ref l7) false)) := upd_same
      have keep : ∀ b o, b ≠ Ld → H9 b = some o → upd H17 Ld (.dK (putK (mergeK [] [(.inr "choices", .ref D2), (.inr "cells", .ref p3), (.inr "deeds", .ref l4), (.inr "rules", .ref l5), (.inr "mine", .ref l6)]) (.inr "tables") (.ref l7))) b = some o := fun b o n e => (upd_ne n).trans (keep7 b o n e)
      generalize upd H17 Ld (.dK (putK (mergeK [] [(.inr "choices", .ref D2), (.inr "cells", .ref p3), (.inr "deeds", .ref l4), (.inr "rules", .ref l5), (.inr "mine", .ref l6)]) (.inr "tables") (.ref l7))) = H18 at d18 S18 e7 eL18 keep ⊢
      have nB : ∀ b, b ≠ a → b ≠ l7 → ¬ B' b := fun b n1 n2 h => h.elim n1 n2
      have st : ∀ b o, H9 b = some o → b ≠ Ld → b ≠ a → ∀ H2, Off B' H18 H2 → H2 b = some o := fun b o e n1 n2 H2 of => of b o (nB b n2 (f7 b o n1 e)) (keep b o n1 e)
      have ecut : cutV (ts.map V.str) none (some 6) = (ts.take 6).map V.str := by rw [cut_gen, l12]; rfl
      have ecut2 : cutV (ts.map V.str) (some 6) (some 9) = ((ts.drop 6).take 3).map V.str := by rw [cut_gen, l12]; rfl
      obtain ⟨cs, hcs⟩ : ∃ cs, cs = List.zip (ts.take 6) (zs.map Int.toNat) := ⟨_, rfl⟩
      have lcs : cs.length = min 6 zs.length := by rw [hcs, List.length_zip, List.length_take, List.length_map, l12]; omega
      have SC : SdAll K B' H18 (t2.map V.ref) (cs.map chD) := sdall_ix (by rw [List.length_map, List.length_map, lcs, hlen, ecut, List.length_map, List.length_map, List.length_take, l12]; omega) (fun i v x hv hx => by
        rw [List.getElem?_map] at hv hx
        obtain ⟨t, ht, rfl⟩ := Option.map_eq_some_iff.mp hv
        obtain ⟨cc, hc, rfl⟩ := Option.map_eq_some_iff.mp hx
        obtain ⟨n1, n2, x, y, q1, q2, q3⟩ := pairs9 i t ht
        rw [ecut, List.getElem?_map] at q1
        obtain ⟨s, hs, rfl⟩ := Option.map_eq_some_iff.mp q1
        rw [List.getElem?_map] at q2
        obtain ⟨zz, hz, rfl⟩ := Option.map_eq_some_iff.mp q2
        have e1 : cs[i]? = some (s, zz.toNat) := by
          rw [hcs]
          exact List.getElem?_zip_eq_some.mpr ⟨hs, by rw [List.getElem?_map, hz]; rfl⟩
        rw [e1] at hc
        cases hc
        have e : (zz.toNat : Int) = zz := by have := gz zz (List.mem_of_getElem? hz); omega
        show Sd K B' H18 (.ref t) (.tuple [.str s, .int (zz.toNat : Int)])
        rw [e]
        exact .tup (fun H2 o => SqT.of (st t _ q3 n1 n2 H2 o)) (.cons (.str _) (.cons (.int _) .nil)))
      have pre : Pre K B' H18 Ld cs ((ts.drop 6).take 3) (.ref D2) (.ref p3) (.ref l4) (.ref l5) (.ref l6) (.ref l7) :=
        ⟨fun H2 o => o Ld _ (nB Ld aLd (Ne.symm n7)) eL18, ⟨D2, _, rfl, st D2 _ eD2 nD2 aD2, SC⟩, ⟨p3, rfl, fun H2 o => by rw [← ecut2]; exact st p3 _ e3 n3 a3 H2 o⟩, Sd.raw (st l4 _ e4 n4 a4) .nil, Sd.raw (st l5 _ e5 n5 a5) .nil, Sd.raw (st l6 _ e6 n6 a6) (.cons (.str _) (.cons (.str _) .nil))⟩
      have eT18 := keep T _ nTL eT9
      have d18' := d3.trans d18
      have gcs : ∀ c ∈ cs, good (.str c.1) = true ∧ 1 ≤ c.2 ∧ c.2 ≤ 4 := fun c mc => by
        rw [hcs] at mc
        obtain ⟨m1, m2⟩ := List.of_mem_zip (a := c.1) (b := c.2) mc
        obtain ⟨zz, mz, ez⟩ := List.mem_map.mp m2
        have := gz zz mz
        exact ⟨gts _ (List.mem_of_mem_take m1), by omega, by omega⟩
      clear pairs9 SC st keep eD2 e6 e5 e4 e3 d17 d10 d9 S17 keep7 f7 eTb eL10 eL9 eT9 gz hcs
      refine ⟨_, rfl, _, rfl, _, rfl, a, 3, rfl, d18.fd, by decide, by decide, fun r9 H19 r90 r93 d19 => ⟨_, _, rfl, rfl, _, rfl, T, _, rfl, SqL.of (d19.sm _ _ nT eT18), fun p9 hp9 => ?_⟩⟩
      have o19 : Off B' H18 H19 := dr_off (.inl rfl) d19
      have s9 := same_new (o := .lst (cutV (ts.map V.str) (some 9) (some (9 + r9)))) hp9
      have e9 := upd_same (H := H19) (a := p9) (o := .lst (cutV (ts.map V.str) (some 9) (some (9 + r9))))
      have a9 : p9 ≠ a := feed_ne d19.fd hp9
      have n97 : p9 ≠ l7 := Ne.symm (ne_of_none (d19.sm _ _ a7 e7) hp9)
      have d20 := d18'.trans (d19.trans (dr_new (o := .lst (cutV (ts.map V.str) (some 9) (some (9 + r9)))) d19.fd hp9))
      have o20 := o19.trans (Same.off (B := B') s9)
      have e20 := s9 _ _ (d19.sm _ _ a7 e7)
      obtain ⟨xs9, ex9, lx9, gx9⟩ : ∃ l9 : List Str, cutV (ts.map V.str) (some 9) (some (9 + r9)) = l9.map V.str ∧ l9.length ≤ 3 ∧ ∀ t ∈ l9, good (.str t) = true := by
        refine ⟨_, cut_gen _ _ _, ?_, fun t mt => gts t (List.mem_of_mem_drop (List.mem_of_mem_take mt))⟩
        rw [List.length_take, List.length_drop, l12]
        have : HT.sIx 12 0 (some 9) = 9 := rfl
        omega
      generalize upd H19 p9 (.lst (cutV (ts.map V.str) (some 9) (some (9 + r9)))) = H20 at d20 o20 e20 e9 ⊢
      rw [ex9] at e9
      have pre20 := pre.off o20
      have S20 := Sd.off o20 _ _ S18
      refine ⟨p9, rfl, ⟨_, SqL.of e9⟩, for_list (K := K) (a := p9) (xs := xs9.map V.str) (fun j σ H' => ∃ (us : List V) (tb : List (Str × List Str)) (w6 w7 : Option V), σ = [some (.ref a), some (.int 3), some (.ref T), some (.ref D), some (.ref Ld), some (.ref l8), w6, w7] ∧ H' l7 = some (.lst us) ∧ SdAll K B' H' us (tb.map tbD) ∧ tb.length ≤ j ∧ (∀ t ∈ tb, good (.str t.1) = true ∧ t.2 ≠ [] ∧ t.2.length ≤ 4 ∧ ∀ p ∈ t.2, good (.str p) = true) ∧ Dr a H1 H' ∧ Off B' H20 H')
        ⟨[], [], none, none, rfl, e20, .nil, Nat.le_refl _, fun t m => (nomatch m), d20, Off.refl _ _⟩ ?_ ?_ ?_⟩
      · rintro j σ H' hj ⟨us, tb, w6, w7, rfl, e', sa, lt, gt, dd, oo⟩
        exact SqL.of (oo p9 _ (nB p9 a9 n97) e9)
      · rintro j x σ H' hx ⟨us, tb, w6, w7, rfl, e', sa, lt, gt, dd, oo⟩
        rw [List.getElem?_map] at hx
        obtain ⟨tz, htz, rfl⟩ := Option.map_eq_some_iff.mp hx
        have gz := gx9 tz (List.mem_of_getElem? htz)
        have hj9 : j < xs9.length := (List.getElem?_eq_some_iff.mp htz).1
        have pre' := pre20.off oo
        have lus := sa.len
        rw [List.length_map] at lus
        refine ⟨_, rfl, Ld, _, rfl, DGet.k (k := Sum.inr "tables") (pre'.at_ H' (Off.refl _ _)), .inl ⟨rfl, us, SqL.of e'⟩, _, rfl, _, rfl, _, rfl, ?_⟩
        refine pick_sd (B := B') dd.fd (.inl rfl) (Sd.off oo _ _ S20) (fun z => by cases z) (by decide) fun y yd H5 my sy d5 => ⟨(by show 2 ≤ sizeLine; decide), fun p hp => ?_⟩
        obtain ⟨ps, mps, rfl⟩ := List.mem_map.mp my
        have gps : ps ≠ [] ∧ ps.length ≤ 4 ∧ ∀ p ∈ ps, good (.str p) = true := by
          have q : someT.all (fun ps => (!ps.isEmpty && decide (ps.length ≤ 4)) && ps.all fun p => good (.str p)) = true := by decide +kernel
          have := List.all_eq_true.mp q ps mps
          rw [Bool.and_eq_true, Bool.and_eq_true, decide_eq_true_eq] at this
          exact ⟨fun z => by rw [z] at this; exact absurd this.1.1 (by decide), this.1.2, fun p mp => List.all_eq_true.mp this.2 p mp⟩
        have al : ∀ b, B' b → H5 b ≠ none := fun b hb => by
          rcases hb with rfl | rfl
          · obtain ⟨x, y, q, _⟩ := d5.fd
            rw [q]; exact fun z => nomatch z
          · rw [d5.sm _ _ a7 e']; exact fun z => nomatch z
        have sp := same_new (o := .tup [V.str tz, y]) hp
        have SN : Sd K B' (upd H5 p (.tup [V.str tz, y])) (.ref p) (tbD (tz, ps)) := Sd.newT al hp (.cons (.str _) (.cons sy .nil))
        have o5 : Off B' H' (upd H5 p (.tup [V.str tz, y])) := (dr_off (.inl rfl) d5).trans (Same.off sp)
        have o6 : Off B' (upd H5 p (.tup [V.str tz, y])) (upd (upd H5 p (.tup [V.str tz, y])) l7 (.lst (us ++ [.ref p]))) := off_at (.inr rfl)
        refine ⟨l7, us, _, rfl, rfl, sp _ _ (d5.sm _ _ a7 e'), by omega, us ++ [.ref p], tb ++ [(tz, ps)], _, _, rfl, upd_same, ?_, ?_, ?_, ?_, ?_⟩
        · rw [List.map_append]
          exact SdAll.off o6 _ _ (SdAll.snoc (SdAll.off o5 _ _ sa) SN)
        · rw [List.length_append, List.length_singleton]; omega
        · intro t mt
          rcases List.mem_append.mp mt with mt | mt
          · exact gt t mt
          · obtain rfl := List.mem_singleton.mp mt
            exact ⟨gz, gps⟩
        · exact dr_put (dd.trans (d5.trans (dr_new d5.fd hp))) a7 fr7
        · exact oo.trans (o5.trans o6)
      · rintro σ H' ⟨us, tb, w6, w7, rfl, e', sa, lt, gt, dd, oo⟩
        rw [List.length_map] at lt
        have pre' := pre20.off oo
        refine ⟨_, rfl, k Ld H' cs ((ts.drop 6).take 3) tb _ _ _ _ _ _ (d1.trans dd) ⟨dd.fd, rfl, fun b hb => ?_, ⟨⟨fun z => ?_, by omega, gcs⟩, ⟨fun z => ?_, by rw [List.length_take]; omega, fun t mt => gts t (List.mem_of_mem_drop (List.mem_of_mem_take mt))⟩, ⟨by omega, gt⟩⟩, pre'.lore (.lst (fun H2 o => SqL.of (o l7 _ a7 e')) (SdAll.less (fun b h => .inl h) _ _ sa))⟩⟩
        · obtain rfl : b = a := hb
          obtain ⟨x, y, q, _⟩ := dd.fd
          rw [q]; exact fun z => nomatch z
        · rw [z] at lcs
          simp at lcs
          omega
        · have := congrArg List.length z
          rw [List.length_take, List.length_drop, l12] at this
          simp at this
end
end R61

namespace R61
open PySem L2 L3
open C8 (pss_cut tCut pe_gc)
abbrev sParts : Stmt := top 27
/-- what a deed is made of -/
structure PartsAt (K : PySem.W.Frag) (B : Addr → Prop) (H : Hp) (nm : Str) (S W R : V) (dS dW dR' : PyData) : Prop where
  nm : nm ∈ (["d", "e1", "zzzzzz"] : List Str)
  s : Sd K B H S dS
  w : Sd K B H W dW
  r : Sd K B H R dR'
  isT : ∃ ds, dS = .tuple ds
  isR : ∃ ds, dR' = .tuple ds
  isW : dW = .none ∨ ∃ s, dW = .str s
  gs : good dS = true ∧ dS.depth ≤ 20 ∧ cost dS ≤ 6000000
  gw : good dW = true
  gr : good dR' = true ∧ dR'.depth ≤ 20 ∧ cost dR' ≤ 1000
theorem PartsAt.off {K : PySem.W.Frag} {B : Addr → Prop} {H H' : Hp} {nm : Str} {S W R : V} {dS dW dR' : PyData} (h : PartsAt K B H nm S W R dS dW dR') (o : Off B H H') : PartsAt K B H' nm S W R dS dW dR' :=
  ⟨h.nm, Sd.off o _ _ h.s, Sd.off o _ _ h.w, Sd.off o _ _ h.r, h.isT, h.isR, h.isW, h.gs, h.gw, h.gr⟩
def spParts (K : PySem.W.Frag) : Sp := fun vs H Q _ => ∃ (a L : Addr) (B : Addr → Prop) (cs : List (Str × Nat)) (ce : List Str) (tb : List (Str × List Str)) (pl : Bool) (c e d r m t : V),
  vs = [.ref a, .ref L] ∧ Sc K B a L cs ce tb pl c e d r m t H ∧ ∀ (p : Addr) (nm : Str) (S W R : V) (dS dW dR' : PyData) (H' : Hp), H p = none → Dr a H H' → H' p = some (.lst [.str nm, S, W, R]) → PartsAt K B H' nm S W R dS dW dR' → Q (.ref p) H'
theorem c2 : cR 2 = 1336630 := by decide
section
variable {P : Program} {w : World} {K : PySem.W.Frag} {mg : Str → Option Value} {base : Heap}
abbrev NPa : List Str := ["_law_feed_here", "_law_lore_here", "_law_spot", "_law_many", "_law_sayings", "_law_pairs", "_law_option", "_law_other", "_law_more"]
abbrev pPa : List Str := ["_law_feed_here", "_law_lore_here"]
theorem scPa : FnScope NPa pPa (defScope sParts) := ⟨rfl, rfl, rfl, by decide +kernel, rfl, by decide +kernel, by decide +kernel⟩
theorem ok_parts {f fP fT fR : Addr} {fd fdP fdT fdR : FuncData} (z : Zn mg) (F : Fun K "_law_parts" "_law_parts" sParts f fd) (UP : Use P w K mg base "_law_pick" 2 fP fdP ["_law_feed_here", "_law_some"] (spPick K)) (UT : Use P w K mg base "_law_take" 1 fT fdT ["_law_feed_here", "_law_many"] spTk)
    (US : Use P w K mg base "_law_rows_of" 11 fR fdR pRs (spRows K 2)) : FnOk P w K mg base CX0 12 f fd pPa (spParts K) := by
  refine F.ok scPa (fun vs H Q E h => ?_) (fun cdv A outer s H vs Q E hr h => ?_)
  · obtain ⟨a, L, B, cs, ce, tb, pl, c, e, d, r, m, t, rfl, _⟩ := h
    rfl
  · obtain ⟨a, L, B, cs, ce, tb, pl, c, e, d, r, m, t, rfl, s, k⟩ := h
    have nd := scPa.nd
    have hu1 := hu_of hr
    have lsz := sizeLine_eq
    have l6 := s.li.cs.2.1
    refine ⟨_, (pss_cons (ps_asg (pe_call UP.G (hr.mono (by omega)) (by rfl) UP.g UP.kp UP.b .nil pass0 (pa_cons (pv 0) (pa_cons (pe_op op_cat (pe_dget hu1 (pv 1) pe_str (fun _ _ => rfl)) (pe_lst (pa_cons (pe_tup (pa_cons pe_non (pa_cons pe_int pa_nil))) pa_nil))) pa_nil))) (pg_tup (by rfl) (pgs_cons (pg_name (i := 2) nd rfl (.inl rfl)) (pgs_cons (pg_name (i := 3) nd rfl (.inl rfl)) pgs_nil))))
      (pss_cons (ps_set (i := 4) nd rfl (.inl rfl) (pe_callTy call_tuple_of (by rfl) z.tup (by decide +kernel) (pa_cons (pe_lc (own := [("_law_option", 6)]) (g := gName 6) (tt := tYes) rfl nd (pi_range1 (by rfl) z.rng (pa_cons (pv 3) pa_nil)) (blkOk_by (N := NPa) (sc := defScope sParts) (by decide +kernel)) (fun _ _ _ _ _ => pg_name (i := 6) nd rfl (.inl rfl)) (fun _ _ _ _ _ => pts_nil) (fun _ _ _ _ _ => (pe_call US.G (hr.mono (by omega)) (by rfl) US.g US.kp US.b .nil pass0 (pa_cons (pv 0) (pa_cons (pv 1) (pa_cons pe_int (pa_cons pe_int pa_nil))))))) pa_nil)))
      (pss_cons (ps_set (i := 5) nd rfl (.inl rfl) (pe_callTy call_tuple_of (by rfl) z.tup (by decide +kernel) (pa_cons (pe_lc (own := [("_law_other", 7), ("_law_more", 8)]) (g := gTup K 2 (gCons (gName 7) (gCons (gName 8) gNil))) rfl nd (pi_list (pe_dget hu1 (pv 1) pe_str (fun _ _ => rfl))) (blkOk_by (N := NPa) (sc := defScope sParts) (by decide +kernel)) (fun _ _ _ _ _ => pg_tup (by rfl) (pgs_cons (pg_name (i := 7) nd rfl (.inl rfl)) (pgs_cons (pg_name (i := 8) nd rfl (.inl rfl)) pgs_nil))) (fun _ _ _ _ _ => pts_one (pt_cmpR op_eq (pe_call UT.G (hr.mono (by omega)) (by rfl) UT.g UT.kp UT.b .nil pass0 (pa_cons (pv 0) (pa_cons pe_int pa_nil))) pe_int (nomark _))) (fun _ _ _ _ _ => (pe_tup (pa_cons (pv 7) (pa_cons (pe_call UT.G (hr.mono (by omega)) (by rfl) UT.g UT.kp UT.b .nil pass0 (pa_cons (pv 0) (pa_cons (pv 8) pa_nil))) pa_nil))))) pa_nil)))
      (pss_one (ps_ret (pe_lst (pa_cons (pe_call UP.G (hr.mono (by omega)) (by rfl) UP.g UP.kp UP.b .nil pass0 (pa_cons (pv 0) (pa_cons (pe_lst (pa_cons pe_str (pa_cons pe_str (pa_cons pe_str pa_nil)))) pa_nil))) (pa_cons (pv 4) (pa_cons (pv 2) (pa_cons (pv 5) pa_nil)))))))))), ?_⟩
    obtain ⟨aC, xs, rfl, rC, sC⟩ := s.lo.c
    have lx := sC.len
    rw [List.length_map] at lx
    refine ⟨_, rfl, _, rfl, L, _, rfl, s.lo.get lore_c, (by show 2 ≤ sizeLine; decide), fun t1 ht1 => ⟨(by show 1 ≤ sizeLine; decide), fun l1 hl1 => ?_⟩⟩
    have s1 := s.new (o := .tup [V.non, V.int 1]) ht1
    have s2 := s1.new (o := .lst [V.ref t1]) hl1
    have g1 := dr_new (o := .tup [V.non, V.int 1]) s.fd ht1
    have g2 := dr_new (o := .lst [V.ref t1]) s1.fd hl1
    have d2 := g1.trans g2
    refine ⟨aC, l1, xs, _, rfl, rfl, rC _ (dr_off s.hB d2), upd_same, (by show xs.length + 1 ≤ sizeLine; omega), fun pc hpc => ?_⟩
    have S1 : Sd K B (upd H t1 (.tup [V.non, V.int 1])) (.ref t1) (.tuple [.none, .int 1]) := Sd.newT s.al ht1 (.cons .non (.cons (.int 1) .nil))
    refine s2.pickN (ds := cs.map chD ++ [.tuple [.none, .int 1]]) hpc ((SdAll.off (dr_off s.hB d2) _ _ sC).app (.cons (Sd.step S1 s.hB g2) .nil)) (by simp) (by rw [List.length_append, List.length_map]; simp; omega) fun x y H3 my sx d3 => ?_
    obtain ⟨pt, W, dW, n, rfl, tS, sW, iW, gW, n1, n4⟩ : ∃ (pt : Addr) (W : V) (dW : PyData) (n : Nat), x = .ref pt ∧ Ts K B H3 pt [W, .int (n : Int)] ∧ Sd K B H3 W dW ∧ (dW = .none ∨ ∃ s, dW = .str s) ∧ good dW = true ∧ 1 ≤ n ∧ n ≤ 4 := by
      rcases List.mem_append.mp my with my | my
      · obtain ⟨cc, mc, rfl⟩ := List.mem_map.mp my
        obtain ⟨p, rfl, tp⟩ := Sd.inCh sx
        obtain ⟨q1, q2, q3⟩ := s.li.cs.2.2 cc mc
        exact ⟨p, .str cc.1, .str cc.1, cc.2, rfl, tp, .str _, .inr ⟨_, rfl⟩, q1, q2, q3⟩
      · obtain rfl := List.mem_singleton.mp my
        obtain ⟨p, ys, rfl, tp, sa⟩ := L3.Sd.inT sx
        cases sa with
        | cons h1 hs =>
          cases hs with
          | cons h2 hs =>
            cases hs
            cases h1
            cases h2
            exact ⟨p, .non, .none, 1, rfl, tp, .non, .inl rfl, rfl, by decide, by decide⟩
    have dd3 := d2.trans d3
    have s3 := s.dr dd3
    clear S1 s1 s2 g1 g2
    refine ⟨pt, _, rfl, tS.now, rfl, _, _, rfl, _, _, rfl, rfl, ?_⟩
    refine ⟨_, rfl, (n : Int), rfl, by omega, by omega, fun D hD => lc_range (fun q H' => ∃ vs ds, ds.length = q ∧ Acc K B a L cs ce tb pl (.ref aC) e d r m t D (dR 2) (cR 2) H3 H' vs ds)
      ⟨[], [], rfl, Acc.start s3 hD⟩ ?_ ?_⟩
    · rintro q H4 hq ⟨vs, ds, eq, ka⟩
      refine ⟨rfl, _, rfl, _, rfl, ?_⟩
      refine ka.sc.rows (z := 2) rfl (by decide) (by decide) fun v x H5 d5 sv gv dv cv => ?_
      have kb := ka.step s3 d5
      exact ⟨vs, kb.at_, by rw [kb.len]; omega, vs ++ [v], ds ++ [x], by rw [List.length_append, eq]; rfl, kb.push s3 sv gv dv cv⟩
    · rintro H4 ⟨vs, ds, eq, ka⟩
      have l4 : ds.length ≤ 4 := by omega
      refine ⟨D, vs, rfl, .inl ⟨SqL.of ka.at_, fun pS hpS => ?_⟩⟩
      have s4 := ka.scB s3
      have SS : Sd K B _ (.ref pS) (.tuple ds) := Sd.newT s4.al hpS ka.out
      have gS := good_tup ka.g (by omega)
      have ct := ka.ct
      have dp := ka.dp
      have dd5 := dd3.trans (ka.dr.trans (dr_new (o := .tup vs) s4.fd hpS))
      have s5 := s4.new (o := .tup vs) hpS
      have sW5 := Sd.step sW s.hB (ka.dr.trans (dr_new (o := .tup vs) s4.fd hpS))
      have rC5 : ∀ H2, Off B _ H2 → H2 aC = some (.lst xs) := fun H2 o => rC H2 ((dr_off s.hB dd5).trans o)
      have sC5 := SdAll.off (dr_off s.hB dd5) _ _ sC
      generalize upd H4 pS (.tup vs) = H5 at SS dd5 s5 sW5 rC5 sC5 ⊢
      clear sC rC s4 ka tS sW sx dd3 d3 d2
      refine ⟨_, rfl, L, _, rfl, s5.lo.get lore_c, aC, rfl, ⟨xs, SqL.of (rC5 H5 (Off.refl _ _))⟩, fun D2 hD2 => lc_list (K := K) (a := aC) (xs := xs) (fun q H' => ∃ vs ds, ds.length ≤ q ∧ Acc K B a L cs ce tb pl (.ref aC) e d r m t D2 1 90 H5 H' vs ds)
        ⟨[], [], Nat.le_refl _, Acc.start s5 hD2⟩ (fun q H' _ h => ?_) ?_ ?_⟩
      · obtain ⟨vs, ds, _, ka⟩ := h
        exact SqL.of (rC5 H' (dr_off s.hB ka.dr))
      · rintro q x H6 hx ⟨vs, ds, lq, ka⟩
        obtain ⟨xd, hxd, sx⟩ := sC5.get q x hx
        rw [List.getElem?_map] at hxd
        obtain ⟨cc, hcc, rfl⟩ := Option.map_eq_some_iff.mp hxd
        have hq := (List.getElem?_eq_some_iff.mp hcc).1
        obtain ⟨q1, q2, q3⟩ := s.li.cs.2.2 cc (List.mem_of_getElem? hcc)
        obtain ⟨p, rfl, tp⟩ := Sd.inCh (Sd.step sx s.hB ka.dr)
        refine ⟨p, _, rfl, tp.now, rfl, _, _, rfl, _, _, rfl, rfl, rfl, _, rfl, ?_⟩
        refine ka.sc.take (j := 3) (by decide) (by decide) fun r3 H7 r30 r31 d7 => ⟨rfl, _, rfl, iteD (fun h3 => ?_) (fun h3 => ?_)⟩
        · have kb := ka.step s5 d7
          refine ⟨_, rfl, _, rfl, _, rfl, ?_⟩
          refine kb.sc.take (j := (cc.2 : Int)) (by omega) (by show ((cc.2 : Int)).natAbs < 2 ^ 200; exact Nat.lt_of_le_of_lt (show _ ≤ 4 by omega) (by decide)) fun r4 H8 r40 r41 d8 => ⟨(by show 2 ≤ sizeLine; decide), fun p2 hp2 => ?_⟩
          obtain ⟨fa, fk⟩ := Acc.fin (wd := [.str cc.1, .int r4]) (kb.step s5 d8) s5 (.cons (.str _) (.cons (.int _) .nil)) (goods_c q1 (goods_c (good_small r40 (by omega)) rfl)) (by simp) (by simp only [PyData.depth, PyData.depthAll]; omega) (by simp only [cost, costs]; omega) hp2
          exact ⟨vs, fa, by rw [ka.len]; omega, vs ++ [.ref p2], _, by rw [List.length_append, List.length_singleton]; omega, fk⟩
        · exact ⟨vs, ds, by omega, ka.step s5 d7⟩
      · rintro H6 ⟨vs2, ds2, l2, kb⟩
        refine ⟨D2, vs2, rfl, .inl ⟨SqL.of kb.at_, fun pR hpR => ?_⟩⟩
        have s6 := kb.scB s5
        have SR : Sd K B _ (.ref pR) (.tuple ds2) := Sd.newT s6.al hpR kb.out
        have gR := good_tup kb.g (by omega)
        have ct2 := kb.ct
        have dp2 := kb.dp
        have s7 := s6.new (o := .tup vs2) hpR
        have d57 := kb.dr.trans (dr_new (o := .tup vs2) s6.fd hpR)
        refine ⟨_, rfl, (by show 3 ≤ sizeLine; decide), fun l9 hl9 => ?_⟩
        refine s7.pickN (ds := [.str "d", .str "e1", .str "zzzzzz"]) hl9 (.cons (.str _) (.cons (.str _) (.cons (.str _) .nil))) (by simp) (by simp) fun x y H9 my sx9 d9 => ?_
        obtain ⟨nm, rfl, mn⟩ : ∃ nm, y = PyData.str nm ∧ nm ∈ (["d", "e1", "zzzzzz"] : List Str) := by
          simp only [List.mem_cons, List.not_mem_nil, or_false] at my
          rcases my with rfl | rfl | rfl
          · exact ⟨_, rfl, by simp⟩
          · exact ⟨_, rfl, by simp⟩
          · exact ⟨_, rfl, by simp⟩
        obtain rfl := sx9.isStr
        refine ⟨_, rfl, _, rfl, _, rfl, (by show 4 ≤ sizeLine; decide), fun p hp => ?_⟩
        have d59 := d57.trans d9
        have f10 := dr_new (o := .lst [V.str nm, .ref pS, W, .ref pR]) d59.fd hp
        have m4 : ds.length * (cR 2 + 2) ≤ 4 * (cR 2 + 2) := Nat.mul_le_mul_right _ l4
        have m6 : ds2.length * (90 + 2) ≤ 6 * (90 + 2) := Nat.mul_le_mul_right _ (by omega)
        have cc2 := c2
        refine k p nm (.ref pS) W (.ref pR) (.tuple ds) dW (.tuple ds2) _ (dr_free (dd5.trans d59) hp) (dd5.trans (d59.trans f10)) upd_same
          ⟨mn, Sd.step SS s.hB (d59.trans f10), Sd.step sW5 s.hB (d59.trans f10), Sd.step SR s.hB (d9.trans f10), ⟨_, rfl⟩, ⟨_, rfl⟩, iW, ⟨gS, ?_, ?_⟩, gW, ⟨gR, ?_, ?_⟩⟩
        · simp only [PyData.depth, dR] at *; omega
        · simp only [cost] at *; omega
        · simp only [PyData.depth] at *; omega
        · simp only [cost] at *; omega
end
end R61

/-! deeds -/
namespace R61
open PySem L2 L3
open C8 (pss_cut tCut pe_gc)
abbrev sDInit : Stmt := inClass (top 12) 0
abbrev sDEq : Stmt := inClass (top 12) 1
structure Txt (P : Program) (K : PySem.W.Frag) (mg : Str → Option Value) (C CI fi : Addr) : Prop where
  cl : Cls K C
  nn : NoAttr K C "name"
  ns : NoAttr K C "sayings"
  nc : NoAttr K C "choice"
  no : NoAttr K C "only"
  np : NoAttr K C "opened"
  gC : mg "Deed" = some (.ref C)
  eI : ErrF P K mg CI fi "InvalidName" ["name"]
  tI : PySem.W.typeIn K (.ref CI) = some (.type "type")
abbrev dfl (n s w r : V) : List (Str × V) := [("name", n), ("sayings", s), ("choice", w), ("only", r), ("opened", .non)]
/-- the error, newly made -/
def ErrNew (H H' : Hp) (d : Addr) (z : Str) : Prop := Same H H' ∧ H d = none ∧ H' d = some (.xd [("name", .str z)])
theorem dp_ins {K : PySem.W.Frag} {H : Hp} {p C dx : Addr} {fs : List (Str × V)} {u : HO} (h : H p = some (.ins C dx fs)) {v : V} {d : PyData} (x : Dp K H v d) : Dp K (upd H p u) v d := by
  have off : ∀ a o, H a = some o → o ≠ .ins C dx fs → upd H p u a = some o := fun a o e n => by
    rw [upd_ne (ne_of e h n)]
    exact e
  refine dp_keep (fun a xs q => ?_) (fun a xs q => ?_) d v x
  · rcases q with (e | ⟨o, e⟩) | q
    · exact .inl (.inl (off _ _ e fun z => nomatch z))
    · exact .inl (.inr ⟨o, off _ _ e fun z => nomatch z⟩)
    · exact .inr q
  · rcases q with (e | ⟨o, e⟩) | q
    · exact .inl (.inl (off _ _ e fun z => nomatch z))
    · exact .inl (.inr ⟨o, off _ _ e fun z => nomatch z⟩)
    · exact .inr q
section
variable {P : Program} {w : World} {K : PySem.W.Frag} {mg : Str → Option Value} {base : Heap} {C CI fi : Addr}
def spDInit (K : PySem.W.Frag) (C CI : Addr) : Sp := fun vs H Q E => ∃ (p dx : Addr) (z : Str) (S W R : V) (dS dR' : PyData), vs = [.ref p, .str z, S, W, R] ∧ H p = some (.ins C dx []) ∧ z.length ≤ 1000 ∧ Dp K H S dS ∧ Dp K H R dR' ∧ dS.depth ≤ 21 ∧ wide dS = true ∧ dR'.depth ≤ 21 ∧ wide dR' = true ∧
  (isNameS z = false → ∀ d H', ErrNew H H' d z → E (.ref CI) (some d) H') ∧
  (isNameS z = true → ∀ S' R' H', (∀ b o, b ≠ p → H b = some o → H' b = some o) → H' p = some (.ins C dx (dfl (.str z) S' W R')) → Dp K H' S' (tupD dS) → Dp K H' R' (tupD dR') → Q .non H')
abbrev ND : List Str := ["self", "name", "sayings", "choice", "only"]
theorem scDI : FnScope ND ND (defScope sDInit) := ⟨rfl, rfl, rfl, by decide +kernel, rfl, by decide +kernel, by decide +kernel⟩
theorem ok_dinit {f fN fW aE : Addr} {fd fdN fdW : FuncData} (F : FunD K "__init__" "Deed.__init__" (defArgs sDInit) (defBody sDInit) (defScope sDInit) [.non, .ref aE] [] f fd) (T : Txt P K mg C CI fi) (UN : Use P w K mg base "is_name" 1 fN fdN ["value"] (spIsName K)) (UW : Use P w K mg base "with_tuples" 22 fW fdW ["value"] (spWith K 22)) :
    FnOk P w K mg base (L2.CX P w) 23 f fd ND (spDInit K C CI) := by
  refine FunD.ok F scDI (fun vs H Q E h => ?_) (fun cdv A outer s H vs Q E hr h => ?_)
  · obtain ⟨p, dx, z, S, W, R, dS, dR', rfl, _⟩ := h
    rfl
  · obtain ⟨p, dx, z, S, W, R, dS, dR', rfl, hp, hz, hS, hR, pS, wS, pR, wR, kE, k⟩ := h
    have R1 : Room 1 _ := hr.mono (by decide)
    refine ⟨_, pss_cons (ps_if (pt_not (pt_val (pe_call UN.G R1 (by rfl) UN.g UN.kp UN.b .nil pass0 (pa_cons (pv 1) pa_nil)))) (pss_one (ps_raise rfl (takes_of rfl rfl rfl rfl) (pmk_err T.eI T.tI R1 (by exact rfl) (pa_cons (pv 1) pa_nil)))) pss_nil)
      (PSs.nox (pss_cons (ps_fld (pv 0) (pv 1) rfl) (pss_cons (ps_fld (pv 0) (pe_call UW.G hr (by rfl) UW.g UW.kp UW.b .nil pass0 (pa_cons (pv 2) pa_nil)) rfl) (pss_cons (ps_fld (pv 0) (pv 3) rfl) (pss_cons (ps_fld (pv 0) (pe_call UW.G hr (by rfl) UW.g UW.kp UW.b .nil pass0 (pa_cons (pv 4) pa_nil)) rfl) (pss_one (ps_fld (pv 0) pe_non rfl))))))), ?_⟩
    refine ⟨_, rfl, .str z, rfl, .inl ⟨z, rfl, by omega, fun H1 s1 => ⟨_, rfl, ?_⟩⟩⟩
    have hp1 := s1 _ _ hp
    cases e : isNameS z with
    | false => exact ifT rfl ⟨_, rfl, rfl, (by show 1 ≤ 900; decide), fun d hd => kE e d _ ⟨s1.trans (same_new hd), s1.free hd, upd_same⟩⟩
    | true =>
      refine ifF rfl ⟨_, rfl, _, rfl, p, C, dx, _, rfl, hp1, T.cl, T.nn, (by show 0 < 1000; decide), ?_⟩
      refine ⟨_, rfl, S, dS, rfl, dp_ins hp1 (L3.Dp.same s1 hS), pS, wS, fun S' H3 s3 dS' => ?_⟩
      have e3 := s3 _ _ (upd_same (H := H1) (a := p) (o := .ins C dx (putF "name" (.str z) [])))
      refine ⟨_, rfl, p, C, dx, _, rfl, e3, T.cl, T.ns, (by show 1 < 1000; decide), ?_⟩
      refine ⟨_, rfl, _, rfl, p, C, dx, _, rfl, upd_same, T.cl, T.nc, (by show 2 < 1000; decide), ?_⟩
      refine ⟨_, rfl, R, dR', rfl, dp_ins upd_same (dp_ins e3 (L3.Dp.same s3 (dp_ins hp1 (L3.Dp.same s1 hR)))), pR, wR, fun R' H6 s6 dR6 => ?_⟩
      have e6 := s6 _ _ upd_same
      refine ⟨_, rfl, p, C, dx, _, rfl, e6, T.cl, T.no, (by show 3 < 1000; decide), ?_⟩
      refine ⟨_, rfl, p, C, dx, _, rfl, upd_same, T.cl, T.np, (by show 4 < 1000; decide), ?_⟩
      refine k e S' R' _ (fun b o n eb => ?_) upd_same ?_ ?_
      · rw [upd_ne n, upd_ne n]
        refine s6 _ _ ?_
        rw [upd_ne n, upd_ne n]
        refine s3 _ _ ?_
        rw [upd_ne n]
        exact s1 _ _ eb
      · exact dp_ins upd_same (dp_ins e6 (L3.Dp.same s6 (dp_ins upd_same (dp_ins e3 dS'))))
      · exact dp_ins upd_same (dp_ins e6 dR6)
end
end R61

namespace R61
open PySem L2 L3
open C8 (pss_cut tCut pe_gc)
structure TxE (K : PySem.W.Frag) (mg : Str → Option Value) (C : Addr) : Prop where
  cA : PySem.W.findIn K (.ref C) "__class__" = some (some (.builtin "object.__class__"))
  cG : PySem.W.specialIn K (.builtin "object.__class__") "__get__" = some (some (.builtin "getset_descriptor.__get__"))
  cT : PySem.W.takesIn K (.builtin "object.__class__") = some true
  cM : PySem.W.mroIn K C (.type "object") = some true
  kCC : PySem.W.kitOne K (.ref C) (.ref C) = some true
  kL : PySem.W.kitOne K (.type "list") (.ref C) = some false
  kS : PySem.W.kitOne K (.type "str") (.ref C) = some false
  zIsi : mg "isinstance" = none
section
variable {P : Program} {w : World} {K : PySem.W.Frag} {mg : Str → Option Value} {base : Heap} {C CI fi : Addr}
/-- a deed, by its parts -/
structure DeedAt (K : PySem.W.Frag) (C : Addr) (H : Hp) (c : Addr) (z : Str) (S W R : V) (dS dW dR' : PyData) : Prop where
  at_ : ∃ dx, H c = some (.ins C dx (dfl (.str z) S W R))
  s : Dp K H S dS
  w : Dp K H W dW
  r : Dp K H R dR'
  hz : SeqAt.shaped (.str z) = true
  hs : SeqAt.shaped dS = true
  hw : SeqAt.shaped dW = true
  hr : SeqAt.shaped dR' = true
theorem DeedAt.same {H H' : Hp} {c : Addr} {z : Str} {S W R : V} {dS dW dR' : PyData} (h : DeedAt K C H c z S W R dS dW dR') (s : Same H H') : DeedAt K C H' c z S W R dS dW dR' :=
  ⟨let ⟨dx, e⟩ := h.at_; ⟨dx, s _ _ e⟩, L3.Dp.same s h.s, L3.Dp.same s h.w, L3.Dp.same s h.r, h.hz, h.hs, h.hw, h.hr⟩
abbrev partsD (z : Str) (dS dW dR' : PyData) : PyData := .list [.str z, dS, dW, dR']
def spDEq (K : PySem.W.Frag) (C : Addr) : Sp := fun vs H Q _ => ∃ (c : Addr) (y : V) (z : Str) (S W R : V) (dS dW dR' : PyData), vs = [.ref c, y] ∧ DeedAt K C H c z S W R dS dW dR' ∧
  ((∃ c2 z2 S2 W2 R2 dS2 dW2 dR2, y = .ref c2 ∧ DeedAt K C H c2 z2 S2 W2 R2 dS2 dW2 dR2 ∧ Q (.bl (PyData.eqv (partsD z dS dW dR') (partsD z2 dS2 dW2 dR2))) H) ∨ (∃ t, TyX K H y t ∧ PySem.W.kitOne K t (.ref C) = some false ∧ Q (.bl false) H))
theorem scDE : FnScope ["self", "other"] ["self", "other"] (defScope sDEq) := ⟨rfl, rfl, rfl, by decide +kernel, rfl, by decide +kernel, by decide +kernel⟩
theorem eqv_parts (z z2 : Str) (a b c a2 b2 c2 : PyData) : PyData.eqv (partsD z a b c) (partsD z2 a2 b2 c2) = (PyData.eqv (.str z) (.str z2) && (PyData.eqv a a2 && (PyData.eqv b b2 && (PyData.eqv c c2 && true)))) := rfl
theorem ok_deq {f : Addr} {fd : FuncData} (F : Fun K "__eq__" "Deed.__eq__" sDEq f fd) (T : Txt P K mg C CI fi) (TE : TxE K mg C) : FnOk P w K mg base CX0 1 f fd ["self", "other"] (spDEq K C) := by
  refine F.ok scDE (fun vs H Q E h => ?_) (fun cdv A outer s H vs Q E hr h => ?_)
  · obtain ⟨c, y, z, S, W, R, dS, dW, dR', rfl, _⟩ := h
    rfl
  · obtain ⟨c, y, z, S, W, R, dS, dW, dR', rfl, h1, k⟩ := h
    have hu := hr.units
    have sN : SeqAt.shaped .none = true := by decide +kernel
    refine ⟨_, pss_cons (ps_if (pt_not (pt_val (pe_callB call_isi (by rfl) TE.zIsi PyProof.Rows.boot_isinstance (pa_cons (pv 1) (pa_cons (pe_glob (v := .ref C) rfl T.gC rfl) pa_nil))))) (pss_one (ps_ret pe_bl)) pss_nil)
      (pss_cons (ps_if (PW.pt (pw_or (pt_cmpR (op_neD hu) (pe_fld (pv 0) rfl) (pe_fld (pv 1) rfl) (nomark _)) (pw_or (pt_cmpR (op_neD hu) (pe_fld (pv 0) rfl) (pe_fld (pv 1) rfl) (nomark _)) (pw_or1 (pt_cmpR (op_neD hu) (pe_fld (pv 0) rfl) (pe_fld (pv 1) rfl) (nomark _)))))) (pss_one (ps_ret pe_bl)) pss_nil)
      (pss_one (ps_ret (pe_and (pe_cmpR (op_eqD hu) (pe_fld (pv 0) rfl) (pe_fld (pv 1) rfl) (nomark _)) (pe_one (pe_cmpR (op_eqD hu) (pe_fld (pv 0) rfl) (pe_fld (pv 1) rfl) (nomark _))))))), ?_⟩
    obtain ⟨dx, e1⟩ := h1.at_
    rcases k with ⟨c2, z2, S2, W2, R2, dS2, dW2, dR2, rfl, h2, k⟩ | ⟨t, ty, kt, k⟩
    · obtain ⟨dx2, e2⟩ := h2.at_
      rw [eqv_parts] at k
      refine ⟨_, rfl, _, _, _, _, true, rfl, .own C, .base (.ins e2 T.cl TE.cA TE.cG TE.cT TE.cM), TE.kCC, _, rfl, ifF rfl ?_⟩
      refine ⟨_, rfl, c, C, dx, _, _, rfl, e1, T.cl, T.nn, rfl, _, rfl, c2, C, dx2, _, _, rfl, e2, T.cl, T.nn, rfl, .str z, .str z2, .str _, .str _, h1.hz, h2.hz, _, rfl, ?_⟩
      cases q1 : PyData.eqv (.str z) (.str z2) with
      | false =>
        rw [q1] at k
        exact ifT rfl (ifT rfl k)
      | true =>
        rw [q1] at k
        refine ifF rfl ⟨_, rfl, c, C, dx, _, _, rfl, e1, T.cl, T.nc, rfl, _, rfl, c2, C, dx2, _, _, rfl, e2, T.cl, T.nc, rfl, dW, dW2, h1.w, h2.w, h1.hw, h2.hw, _, rfl, ?_⟩
        cases q2 : PyData.eqv dW dW2 with
        | false =>
          rw [q2] at k
          refine ifT rfl (ifT rfl ?_)
          have : (true && (PyData.eqv dS dS2 && (false && (PyData.eqv dR' dR2 && true)))) = false := by cases PyData.eqv dS dS2 <;> rfl
          rw [this] at k
          exact k
        | true =>
          rw [q2] at k
          refine ifF rfl ⟨_, rfl, c, C, dx, _, _, rfl, e1, T.cl, T.no, rfl, _, rfl, c2, C, dx2, _, _, rfl, e2, T.cl, T.no, rfl, dR', dR2, h1.r, h2.r, h1.hr, h2.hr, _, rfl, ?_⟩
          cases q3 : PyData.eqv dR' dR2 with
          | false =>
            rw [q3] at k
            refine ifT rfl ?_
            have : (true && (PyData.eqv dS dS2 && (true && (false && true)))) = false := by cases PyData.eqv dS dS2 <;> rfl
            rw [this] at k
            exact k
          | true =>
            rw [q3] at k
            refine ifF rfl ⟨_, rfl, c, C, dx, _, _, rfl, e1, T.cl, T.ns, rfl, _, rfl, c2, C, dx2, _, _, rfl, e2, T.cl, T.ns, rfl, dS, dS2, h1.s, h2.s, h1.hs, h2.hs, _, rfl, ?_⟩
            cases q4 : PyData.eqv dS dS2 with
            | false =>
              rw [q4] at k
              exact ifF rfl k
            | true =>
              rw [q4] at k
              exact ifT rfl ⟨_, rfl, c, C, dx, _, _, rfl, e1, T.cl, T.np, rfl, _, rfl, c2, C, dx2, _, _, rfl, e2, T.cl, T.np, rfl, .none, .none, .non, .non, sN, sN, k⟩
    · exact ⟨_, rfl, y, _, t, _, false, rfl, .own C, ty, kt, _, rfl, ifT rfl k⟩
end
end R61

namespace R61
open PySem L2 L3
open C8 (pss_cut tCut pe_gc)
abbrev sRef : Stmt := top 26
abbrev sKept : Stmt := top 28
/-- C(e, ..) where __init__ may raise to a try around it -/
theorem mk_at {X : Cx} {CXo : CXT} {n : Nat} {g D : Addr} {fi : FuncData} {pn : List Str} {sp : Sp} {dv : List V} {dz : List Value} {EX : XK} {pins : List (Addr × Obj)} {σ : L2.St} {H : Hp} {s : Shared} {Q : VK} {us : List Value} {vs : List V}
    (M : Mk X.K D g) (F : FnOk X.prog X.w X.K X.mg X.base CXo n g fi pn sp) (room : Room (n + 1) X.A) (bd : Binds X.K fi pn dz) (vd : Vals dv dz) (px : PassesAt CXo X σ EX) (I : Inv X pins σ H s) (r : Vals vs us)
    (hs : ∀ o dx, H o = none → H dx = none → dx ≠ o → sp (.ref o :: (vs ++ dv)) (upd (upd H dx (.own o)) o (.ins D dx [])) (fun v H2 => v = .non ∧ Q (.ref o) H2) EX) :
    wpAny (model X.prog X.w) X.A (call (.ref D) us) (EP X pins σ Q) X.xe s := by
  let m := s.heap.objs.size
  have go := hs (m + 1) m (I.hok.fresh (Nat.le_succ m)) (I.hok.fresh (Nat.le_refl m)) (Nat.ne_of_lt (Nat.lt_succ_self m))
  have IM := Inv.made (C := D) I
  have vv : Vals (V.ref (m + 1) :: (vs ++ dv)) (Value.ref (m + 1) :: (us ++ dz)) := .cons rfl (r.append vd)
  have ll : (Value.ref (m + 1) :: us ++ dz).length = pn.length := (F.len _ _ _ _ go ▸ vv.length).symm
  have run := F.run _ X.stack _ _ ⟨Value.ref (m + 1) :: us, []⟩ (Value.ref (m + 1) :: (us ++ dz)) _ _ EX (room.make D us []) (IM.env0.make D us []) (bd _ (Value.ref (m + 1) :: us) IM.kIn ll) vv go
  refine wpAny_call (make_map (f := g) I.kIn M.makes M.init (beq_iff_eq.mp M.fn) (codeAny_mono run fun res s2 hr => ?_))
  match res, hr with
  | .error e, hr => exact px pins _ _ e s2 IM hr
  | .ok (.ret u), hr =>
    obtain ⟨v, H2, I2, rv, e1, q⟩ := IM.after hr
    subst e1
    exact ⟨rv, ⟨V.ref (m + 1), H2, I2, rfl, q⟩⟩
theorem pe_fldK {X : Cx} {K0 : PySem.W.Frag} {o : Expr} {ta : TE} {x : Str} {pos : Pos} (hK : X.K = K0) (h : PE X (.Attribute o x pos) (tFld X.K ta x)) : PE X (.Attribute o x pos) (tFld K0 ta x) := by
  subst hK
  exact h
theorem pe_makeS {X : Cx} {CXo : CXT} {n : Nat} {g D : Addr} {fi : FuncData} {pn : List Str} {sp : Sp} {dv : List V} {dz : List Value} {ES : L2.St → XK} {x : Str} {p pos : Pos} {e : Expr} {es : List Expr} {t : TA}
    (M : Mk X.K D g) (F : FnOk X.prog X.w X.K X.mg X.base CXo n g fi pn sp) (room : Room (n + 1) X.A) (hg : Gl X x) (hm : X.mg x = some (.ref D)) (bd : Binds X.K fi pn dz) (vd : Vals dv dz) (px : ∀ σ, PassesAt CXo X σ (ES σ)) (ha : PA X (e :: es) t)
    (hdb : (x == ("__debug__" : Str)) = false := by decide) (st : starEach (e :: es) X.env = (false, eval e X.env) :: starEach es X.env := by rfl) (pl : (backTo pos (starEach es X.env)).any (·.1) = false := by rfl) :
    PE X (.Call (.Name x p) (e :: es) [] pos) (fun σ H Q => tMake D sp dv (ES σ) t σ H Q) := by
  constructor
  intro pins s σ H Q I h
  exact wpAny_Call_Name_kw (ld_glob I hg hm (PySem.W.callWith_K (h₀ := X.base) I.ok.mod.kin M.kp (thn (ha.run pos pins s σ H _ I h) fun us s1 ⟨vs, H1, I1, r, q⟩ => ⟨I1.kIn, mk_at M F room bd vd (px σ) I1 r q⟩) st pl) hdb)
section
variable {P : Program} {w : World} {K : PySem.W.Frag} {mg : Str → Option Value} {base : Heap} {C CI fi aE : Addr}
def spKept (C : Addr) : Sp := fun vs H Q _ => ∃ (c dx : Addr) (z : Str) (S W R : V), vs = [.ref c] ∧ H c = some (.ins C dx (dfl (.str z) S W R)) ∧ ∀ p, H p = none → Q (.ref p) (upd H p (.lst [.str z, S, W, R]))
theorem scKe : FnScope ["_law_deed"] ["_law_deed"] (defScope sKept) := ⟨rfl, rfl, rfl, by decide +kernel, rfl, by decide +kernel, by decide +kernel⟩
theorem ok_kept {f : Addr} {fd : FuncData} (F : Fun K "_law_kept" "_law_kept" sKept f fd) (T : Txt P K mg C CI fi) : FnOk P w K mg base CX0 1 f fd ["_law_deed"] (spKept C) := by
  refine F.ok scKe (fun vs H Q E h => ?_) (fun cdv A outer s H vs Q E hr h => ?_)
  · obtain ⟨c, dx, z, S, W, R, rfl, _⟩ := h
    rfl
  · obtain ⟨c, dx, z, S, W, R, rfl, hc, k⟩ := h
    refine ⟨_, pss_one (ps_ret (pe_lst (pa_cons (pe_fld (pv 0) rfl) (pa_cons (pe_fld (pv 0) rfl) (pa_cons (pe_fld (pv 0) rfl) (pa_cons (pe_fld (pv 0) rfl) pa_nil)))))), ?_⟩
    exact ⟨_, rfl, c, C, dx, _, _, rfl, hc, T.cl, T.nn, rfl, _, rfl, c, C, dx, _, _, rfl, hc, T.cl, T.ns, rfl, _, rfl, c, C, dx, _, _, rfl, hc, T.cl, T.nc, rfl, _, rfl, c, C, dx, _, _, rfl, hc, T.cl, T.no, rfl, (by show 4 ≤ sizeLine; decide), k⟩
def spRef : Sp := fun vs H Q _ => ∃ z : Str, vs = [.str z] ∧ isNameS z = false ∧ z.length ≤ 1000 ∧ ∀ H', Same H H' → Q (.str z) H'
abbrev NR : List Str := ["_law_title", "_law_found", "e"]
theorem scRf : FnScope NR ["_law_title"] (defScope sRef) := ⟨rfl, rfl, rfl, by decide +kernel, rfl, by decide +kernel, by decide +kernel⟩
theorem ok_ref {f fI : Addr} {fd fdI : FuncData} {ds2 : List Value} (F : Fun K "_law_refused" "_law_refused" sRef f fd) (T : Txt P K mg C CI fi) (exI : PySem.W.exmOne K (.ref CI) (.ref CI) = some true) (M : Mk K C fI) (GI : FnOk P w K mg base (L2.CX P w) 23 fI fdI ND (spDInit K C CI))
    (b2 : Binds K fdI ND ds2) (v2 : Vals [V.non, V.ref aE] ds2) (qE : ∀ H, SqT K H aE []) : FnOk P w K mg base CX0 25 f fd ["_law_title"] spRef := by
  refine F.ok scRf (fun vs H Q E h => ?_) (fun cdv A outer s H vs Q E hr h => ?_)
  · obtain ⟨z, rfl, _⟩ := h
    rfl
  · obtain ⟨z, rfl, hn, hz, k⟩ := h
    have nd := scRf.nd
    refine ⟨_, pss_cons (ps_set (i := 1) nd rfl (.inl rfl) pe_non)
      (pss_cons (ps_tryCl (Wo := fun _ _ _ _ => False) rfl rfl nd takes0
          (fun W pn xe tk _ => pss_one (ps_set (i := 1) nd rfl (.inl rfl) (pe_op op_mulW (pe_fldK (K0 := K) rfl (pe_fld (pe_makeS M GI hr (by rfl) T.gC b2 v2 (fun σ => passAt tk σ) (pa_cons (pv 0) (pa_cons (pe_lst (pa_cons (pe_tup pa_nil) pa_nil)) pa_nil))) rfl)) pe_int)))
          (.clause (i := 2) rfl rfl ⟨rfl, by decide, .inl T.eI.g⟩ (fun q oq cls d pn zc dat => pss_one (ps_set (i := 1) nd rfl (.inl rfl) (pe_xf T.eI.xf (T.eI.no "name" (List.mem_singleton.mpr rfl)) zc dat (pv 2)))) .done))
      (pss_one (ps_ret (pv 1)))), ?_⟩
    refine ⟨_, rfl, (Nat.zero_le _), fun t ht => ⟨(by show 1 ≤ sizeLine; decide), fun l hl x dx hx hdx ne => ?_⟩⟩
    have s1 := (same_new (o := .tup []) ht).trans (same_new (o := .lst [V.ref t]) hl)
    have el : (upd (upd H t (.tup [])) l (.lst [V.ref t])) l = some (.lst [V.ref t]) := upd_same
    have et : (upd (upd H t (.tup [])) l (.lst [V.ref t])) t = some (.tup []) := same_new hl _ _ upd_same
    have s2 : ∀ (oo : HO), Same (upd (upd H t (.tup [])) l (.lst [V.ref t])) (upd (upd (upd (upd H t (.tup [])) l (.lst [V.ref t])) dx oo) x (.ins C dx [])) := fun oo b o eb => by
      rw [upd_ne (ne_of_none eb hx), upd_ne (ne_of_none eb hdx)]; exact eb
    refine ⟨x, dx, z, .ref l, .non, .ref aE, .list [.tuple []], .tuple [], rfl, upd_same, hz, .lst (SqL.of (s2 _ _ _ el)) (.cons (.tup (SqT.of (s2 _ _ _ et)) .nil) .nil), .tup (qE _) .nil, by decide, by decide, by decide, by decide, fun _ d H1 en => ?_, fun e => absurd (hn.symm.trans e) (by decide)⟩
    exact ⟨true, exI, fun _ q hq => ⟨_, rfl, rfl, rfl, d, _, .str z, rfl, en.2.2, rfl, _, rfl, k _ ((s1.trans (s2 _)).trans en.1)⟩, fun e => nomatch e⟩
end
end R61

namespace R61
open PySem L2 L3
open C8 (pss_cut tCut pe_gc)
abbrev sSame : Stmt := top 18
/-! ### texts of the lists that the law compares -/
theorem listFine {ds : List PyData} (g : goods ds = true) (hd : PyData.depthAll ds ≤ 50) (hc : costs ds ≤ 10000000) : Fine (.list ds) := by
  have q := goods_ok ds g
  have c := costs_ok ds g
  have z := sizeLine_eq
  refine ⟨by rw [PyData.showable]; exact q.sh, by rw [PyData.hasDict]; exact q.nd, by rw [PyData.depth]; omega, ?_⟩
  rw [PyData.shown_list, len_app, len_app]
  have e1 : (Str.ofString "[").length = 1 := rfl
  have e2 : (Str.ofString "]").length = 1 := rfl
  by_cases h : PyData.shownAll ds = []
  · rw [h]
    show 1 + 0 + 1 ≤ _
    omega
  · have := PySem.join_length_add _ h
    show 1 + (Str.join ", " (PyData.shownAll ds)).length + 1 ≤ _
    omega
theorem parts_goods {z : Str} {a b c : PyData} (hz : good (.str z) = true) (ha : good a = true) (hb : good b = true) (hc : good c = true) : goods [.str z, a, b, c] = true := goods_c hz (goods_c ha (goods_c hb (goods_c hc rfl)))
theorem nm_good {nm : Str} (h : nm ∈ (["d", "e1", "zzzzzz"] : List Str)) : good (.str nm) = true ∧ isNameS nm = true ∧ nm.length ≤ 1000 := by
  have q : (["d", "e1", "zzzzzz"] : List Str).all (fun t => good (.str t) && (isNameS t && decide (t.length ≤ 1000))) = true := by decide +kernel
  have := List.all_eq_true.mp q nm h
  rw [Bool.and_eq_true, Bool.and_eq_true, decide_eq_true_eq] at this
  exact this
section
variable {K : PySem.W.Frag} {B : Addr → Prop} {H H' : Hp} {nm : Str} {S W R : V} {dS dW dR' : PyData} {C c a l : Addr} {z : Str} {xs ys : List V}
theorem atom_dp (h : Sd K B H W dW) (i : dW = .none ∨ ∃ s, dW = .str s) (H2 : Hp) : Dp K H2 W dW := by
  rcases i with rfl | ⟨s, rfl⟩
  · obtain rfl := h.isNon
    exact .non
  · obtain rfl := h.isStr
    exact .str s
theorem w_cost (i : dW = .none ∨ ∃ s, dW = .str s) : cost dW = 40 ∧ dW.depth = 0 := by
  rcases i with rfl | ⟨s, rfl⟩ <;> exact ⟨rfl, rfl⟩
theorem PartsAt.goods (h : PartsAt K B H nm S W R dS dW dR') : goods [.str nm, dS, dW, dR'] = true := parts_goods (nm_good h.nm).1 h.gs.1 h.gw h.gr.1
theorem PartsAt.fine (h : PartsAt K B H nm S W R dS dW dR') : Fine (partsD nm dS dW dR') := by
  obtain ⟨w1, w2⟩ := w_cost h.isW
  have h1 := h.gs.2
  have h2 := h.gr.2
  refine listFine h.goods ?_ ?_
  · simp only [PyData.depthAll, PyData.depth, w2]; omega
  · simp only [costs, cost, w1]; omega
theorem shD {d : PyData} (g : good d = true) (h : d.depth ≤ 50) : SeqAt.shaped d = true := by
  unfold SeqAt.shaped
  rw [Bool.and_eq_true]
  exact ⟨(good_ok d g).can, decide_eq_true (by omega)⟩
theorem PartsAt.dw (h : PartsAt K B H nm S W R dS dW dR') : dW.depth ≤ 50 := by rw [(w_cost h.isW).2]; omega
/-- tuples all through stand when a list changes -/
theorem tup_put {d : PyData} {v : V} {o : HO} (t : tupD d = d) (e : H l = some (.lst xs)) (h : Dp K H v d) : Dp K (upd H l o) v d := by
  rw [← t] at h ⊢
  exact dpT_keep (sqT_off e) d v h
theorem tup_dr {d : PyData} {v : V} (t : tupD d = d) (f : FeedAt H a) (q : Dr a H H') (h : Dp K H v d) : Dp K H' v d := by
  rw [← t] at h ⊢
  obtain ⟨x, y, e, _⟩ := f
  have off : ∀ b o, H b = some o → o ≠ .lst [.int x, .int y] → H' b = some o := fun b o eb n => q.sm b o (ne_of eb e n) eb
  refine dpT_keep (fun b us s => ?_) d v h
  rcases s with (eb | ⟨o, eb⟩) | s
  · exact .inl (.inl (off _ _ eb fun z => nomatch z))
  · exact .inl (.inr ⟨o, off _ _ eb fun z => nomatch z⟩)
  · exact .inr s
theorem DeedAt.put {o : HO} (h : DeedAt K C H c z S W R dS dW dR') (ts : tupD dS = dS) (tw : tupD dW = dW) (tr : tupD dR' = dR') (e : H l = some (.lst xs)) : DeedAt K C (upd H l o) c z S W R dS dW dR' := by
  obtain ⟨dx, ec⟩ := h.at_
  exact ⟨⟨dx, by rw [upd_ne (ne_of ec e fun z => nomatch z)]; exact ec⟩, tup_put ts e h.s, tup_put tw e h.w, tup_put tr e h.r, h.hz, h.hs, h.hw, h.hr⟩
theorem DeedAt.dr (h : DeedAt K C H c z S W R dS dW dR') (ts : tupD dS = dS) (tw : tupD dW = dW) (tr : tupD dR' = dR') (f : FeedAt H a) (q : Dr a H H') : DeedAt K C H' c z S W R dS dW dR' := by
  obtain ⟨dx, ec⟩ := h.at_
  refine ⟨⟨dx, ?_⟩, tup_dr ts f q h.s, tup_dr tw f q h.w, tup_dr tr f q h.r, h.hz, h.hs, h.hw, h.hr⟩
  obtain ⟨x, y, e, _⟩ := f
  exact q.sm _ _ (ne_of ec e fun z => nomatch z) ec
theorem PartsAt.less {B2 : Addr → Prop} (i : ∀ b, B b → B2 b) (h : PartsAt K B2 H nm S W R dS dW dR') : PartsAt K B H nm S W R dS dW dR' :=
  ⟨h.nm, Sd.less i _ _ h.s, Sd.less i _ _ h.w, Sd.less i _ _ h.r, h.isT, h.isR, h.isW, h.gs, h.gw, h.gr⟩
theorem PartsAt.more {D : Addr} {u : HO} (hD : H D = none) (h : PartsAt K B H nm S W R dS dW dR') : PartsAt K (And1 B D) (upd H D u) nm S W R dS dW dR' :=
  ⟨h.nm, Sd.more hD _ _ h.s, Sd.more hD _ _ h.w, Sd.more hD _ _ h.r, h.isT, h.isR, h.isW, h.gs, h.gw, h.gr⟩
end
section
variable {P : Program} {w : World} {K : PySem.W.Frag} {mg : Str → Option Value} {base : Heap}
theorem scSm : FnScope ["_law_one", "_law_other"] ["_law_one", "_law_other"] (defScope sSame) := ⟨rfl, rfl, rfl, by decide +kernel, rfl, by decide +kernel, by decide +kernel⟩
theorem ok_same {f : Addr} {fd : FuncData} (F : Fun K "_law_same" "_law_same" sSame f fd) (zRepr : mg "repr" = none) : FnG P w K mg base CX0 1 f fd ["_law_one", "_law_other"] (spSame K) := by
  refine gok F scSm (fun vs H Q E h => ?_) (fun cdv A outer s H vs Q E g hr h => ?_)
  · obtain ⟨x, y, d, e, rfl, _⟩ := h
    rfl
  · obtain ⟨x, y, d, e, rfl, h1, h2, f1, f2, k⟩ := h
    have hu := hr.units
    refine ⟨_, pss_one (ps_ret (pe_cmpR op_eq (pe_callB (call_repr g hu) (by rfl) zRepr PyProof.Rows.boot_repr (pa_cons (pv 0) pa_nil)) (pe_callB (call_repr g hu) (by rfl) zRepr PyProof.Rows.boot_repr (pa_cons (pv 1) pa_nil)) (nomark _))), ?_⟩
    exact ⟨_, rfl, _, d, rfl, h1, f1, _, rfl, _, e, rfl, h2, f2, rfl, k⟩
end
end R61

namespace R61
open PySem L2 L3
open C8 (pss_cut tCut pe_gc)
theorem take_at {a : Addr} {j : Int} {H : Hp} {Q : VK} (f : FeedAt H a) (h0 : 0 < j) (h1 : Sm 200 j) (k : ∀ (q : Int) H', 0 ≤ q → q < j → Dr a H H' → Q (.int q) H') : spTk [.ref a, .int j] H Q E0 := by
  unfold spTk
  exact ⟨a, j, rfl, f, h0, h1, k⟩
theorem feed_al {a : Addr} {H : Hp} (f : FeedAt H a) : ∀ b, b = a → H b ≠ none := fun b e => by
  obtain ⟨x, y, q, _⟩ := f
  rw [e, q]
  exact fun z => nomatch z
/-- a tuple or a list of at most n items -/
def TL (H : Hp) (r : Addr) (n : Nat) : Prop := ∃ us : List V, us.length ≤ n ∧ (H r = some (.tup us) ∨ H r = some (.lst us))
theorem TL.same {H H' : Hp} {r : Addr} {n : Nat} (h : TL H r n) (s : Same H H') : TL H' r n := by
  obtain ⟨us, l, e | e⟩ := h
  · exact ⟨us, l, .inl (s _ _ e)⟩
  · exact ⟨us, l, .inr (s _ _ e)⟩
theorem TL.put {H : Hp} {r q : Addr} {n : Nat} {us : List V} {v : V} (h : TL H r n) (l : us.length ≤ n) : TL (upd H q (.lst (us ++ [v]))) r (n + 1) := by
  by_cases z : r = q
  · rw [z]
    exact ⟨us ++ [v], by rw [List.length_append, List.length_singleton]; omega, .inr upd_same⟩
  · obtain ⟨xs, lx, e | e⟩ := h
    · exact ⟨xs, by omega, .inl (by rw [upd_ne z]; exact e)⟩
    · exact ⟨xs, by omega, .inr (by rw [upd_ne z]; exact e)⟩
theorem TL.mono {H : Hp} {r : Addr} {n m : Nat} (h : TL H r n) (l : n ≤ m) : TL H r m := by
  obtain ⟨us, k, e⟩ := h
  exact ⟨us, by omega, e⟩
/-- what no deed is called -/
def badT (nm : Str) : List Str := [Str.ofString "", Str.ofString "A", Str.ofString "1a", Str.ofString "abcdefg", Str.ofString "a b", Str.ofString "a.0", Str.ofString "d-", nm ++ Str.ofString "Z"]
theorem bad_len (nm : Str) : ((badT nm).map PyData.str).length ≤ 1000 := by
  rw [List.length_map]
  show 8 ≤ 1000
  decide
theorem bad_no {nm : Str} (h : nm ∈ (["d", "e1", "zzzzzz"] : List Str)) : ∀ zz ∈ badT nm, isNameS zz = false ∧ zz.length ≤ 1000 := by
  have q : (["d", "e1", "zzzzzz"] : List Str).all (fun nm => (badT nm).all fun zz => !isNameS zz && decide (zz.length ≤ 1000)) = true := by decide +kernel
  intro zz mz
  have := List.all_eq_true.mp (List.all_eq_true.mp q nm h) zz mz
  rw [Bool.and_eq_true, decide_eq_true_eq, Bool.not_eq_true'] at this
  exact this
abbrev sLaw : Stmt := top 29
def spLaw (K : PySem.W.Frag) : Sp := fun vs H Q _ => ∃ (a : Addr) (ns : List Int), vs = [.ref a] ∧ SqL K H a (ns.map V.int) ∧ ns.length ≤ 63 ∧ ∀ H', Q (.bl true) H'
structure OwnEq (P : Program) (w : World) (K : PySem.W.Frag) (mg : Str → Option Value) (base : Heap) (C fE : Addr) (fdE : FuncData) : Prop where
  GE : FnOk P w K mg base CX0 1 fE fdE ["self", "other"] (spDEq K C)
  bE : Binds K fdE ["self", "other"] []
  sE : PySem.W.findIn K (.ref C) "__eq__" = some (some (.ref fE))
  fE : PySem.W.isFn K (.ref fE) = true
  nC : PySem.W.notFirst K C (.ref C) = true
  nL : PySem.W.notFirst K C (.type "list") = true
  nS : PySem.W.notFirst K C (.type "str") = true
section
variable {P : Program} {w : World} {K : PySem.W.Frag} {mg : Str → Option Value} {base : Heap} {C CI fi aE : Addr}
abbrev NLa : List Str := ["_law_script", "_law_k", "_law_feed_here", "_law_lore_here", "_law_one", "_law_other", "_law_beside", "_law_at", "_law_rows", "_law_pairs", "_law_deed", "_law_thing", "_law_twin", "_law_alone", "_law_title"]
theorem scLa : FnScope NLa ["_law_script"] (defScope sLaw) := ⟨rfl, rfl, rfl, by decide +kernel, rfl, by decide +kernel, by decide +kernel⟩
theorem same_dr {a : Addr} {H H1 H2 : Hp} (n : H a = none) (s : Same H H1) (d : Dr a H1 H2) : Same H H2 := fun b u e => d.sm b u (fun z => by rw [z, n] at e; cases e) (s b u e)
theorem ok_law {f fF fL fA fT fP fTh fK fR fM fI fE : Addr} {fd fdF fdL fdA fdT fdP fdTh fdK fdR fdM fdI fdE : FuncData} {ds2 : List Value} (F : Fun K "law" "law" sLaw f fd) (T : Txt P K mg C CI fi) (TE : TxE K mg C) (z : Zn mg)
    (UF : Use P w K mg base "_law_feed" 1 fF fdF ["_law_script", "_law_k"] (spFeed K)) (ULo : Use P w K mg base "_law_lore" 4 fL fdL pLo (spLore K)) (UPa : Use P w K mg base "_law_parts" 12 fA fdA pPa (spParts K))
    (UT : Use P w K mg base "_law_take" 1 fT fdT ["_law_feed_here", "_law_many"] spTk) (UP : Use P w K mg base "_law_pick" 2 fP fdP ["_law_feed_here", "_law_some"] (spPick K)) (UTh : Use P w K mg base "_law_thawed" 22 fTh fdTh ["_law_feed_here", "_law_thing"] (spThaw K 21))
    (UK : Use P w K mg base "_law_kept" 1 fK fdK ["_law_deed"] (spKept C)) (URe : Use P w K mg base "_law_refused" 25 fR fdR ["_law_title"] spRef)
    (GM : FnG P w K mg base CX0 1 fM fdM ["_law_one", "_law_other"] (spSame K)) (kM : PySem.W.keepIn K (.ref fM) = true) (bM : Binds K fdM ["_law_one", "_law_other"] []) (gM : mg "_law_same" = some (.ref fM))
    (M : Mk K C fI) (GI : FnOk P w K mg base (L2.CX P w) 23 fI fdI ND (spDInit K C CI)) (b4 : Binds K fdI ND []) (b2 : Binds K fdI ND ds2) (v2 : Vals [V.non, V.ref aE] ds2) (qE : ∀ H, SqT K H aE []) (OE : OwnEq P w K mg base C fE fdE) :
    FnG P w K mg base CX0 26 f fd ["_law_script"] (spLaw K) := by
  refine gok F scLa (fun vs H Q E h => ?_) (fun cdv A outer s H vs Q E g hr h => ?_)
  · obtain ⟨a, ns, rfl, _⟩ := h
    rfl
  · obtain ⟨s0, ns, rfl, hS, hn, k⟩ := h
    have nd := scLa.nd
    have gA : Calm _ := g
    -- TERM
    refine ⟨_, (pss_cons (ps_for PassesOwn.never rfl (pi_range1 (by rfl) z.rng (pa_cons (pe_callB (call_max2 rfl) (by rfl) z.max_ PyProof.Rows.boot_max (pa_cons pe_int (pa_cons (pe_callB (call_min2 rfl) (by rfl) z.min_ PyProof.Rows.boot_min (pa_cons pe_int (pa_cons (pe_callB call_len_seq (by rfl) z.len PySem.boot_len (pa_cons (pv 0) pa_nil)) pa_nil))) pa_nil))) pa_nil)) (pg_name (i := 1) nd rfl (.inl rfl)) (pss_cons (ps_set (i := 2) nd rfl (.inl rfl) (pe_call UF.G (hr.mono (by decide)) (by rfl) UF.g UF.kp UF.b .nil pass0 (pa_cons (pv 0) (pa_cons (pv 1) pa_nil))))
      (pss_cons (ps_set (i := 3) nd rfl (.inl rfl) (pe_call ULo.G (hr.mono (by decide)) (by rfl) ULo.g ULo.kp ULo.b .nil pass0 (pa_cons (pv 2) (pa_cons pe_int pa_nil))))
      (pss_cons (ps_set (i := 4) nd rfl (.inl rfl) (pe_call UPa.G (hr.mono (by decide)) (by rfl) UPa.g UPa.kp UPa.b .nil pass0 (pa_cons (pv 2) (pa_cons (pv 3) pa_nil))))
      (pss_cons (ps_par (i := 5) (j := 6) (by rfl) nd rfl rfl (by decide) rfl rfl (pa_cons (pe_callTy call_list_of (by rfl) z.lst PyProof.Rows.boot_list (pa_cons (pv 4) pa_nil)) (pa_cons (pe_call UPa.G (hr.mono (by decide)) (by rfl) UPa.g UPa.kp UPa.b .nil pass0 (pa_cons (pv 2) (pa_cons (pv 3) pa_nil))) pa_nil)) (by rfl))
      (pss_cons (ps_for PassesOwn.never rfl (pi_range1 (by rfl) z.rng (pa_cons pe_int pa_nil)) (pg_name (i := 7) nd rfl (.inl rfl)) (pss_one (ps_if (pt_cmpR op_eq (pe_call UT.G (hr.mono (by decide)) (by rfl) UT.g UT.kp UT.b .nil pass0 (pa_cons (pv 2) (pa_cons pe_int pa_nil))) pe_int (nomark _)) (pss_one (ps_asg (pe_ix (r := rIxL K) (by exact ix_list) (pv 6) (pv 7) (fun _ _ => rfl)) (pg_sub (pv 5) (pv 7) set_list))) pss_nil)))
      (pss_cons (ps_par (i := 8) (j := 9) (by rfl) nd rfl rfl (by decide) rfl rfl (pa_cons (pe_call UTh.G (hr.mono (by decide)) (by rfl) UTh.g UTh.kp UTh.b .nil pass0 (pa_cons (pv 2) (pa_cons (pe_ix (r := rIxL K) (by exact ix_list) (pv 4) pe_int (fun _ _ => rfl)) pa_nil))) (pa_cons (pe_call UTh.G (hr.mono (by decide)) (by rfl) UTh.g UTh.kp UTh.b .nil pass0 (pa_cons (pv 2) (pa_cons (pe_ix (r := rIxL K) (by exact ix_list) (pv 4) pe_int (fun _ _ => rfl)) pa_nil))) pa_nil)) (by rfl))
      (pss_cons (ps_set (i := 10) nd rfl (.inl rfl) (pe_makeS (ES := fun _ => E0) M GI (hr.mono (by decide)) (by rfl) T.gC b4 .nil (fun σ pins H s e s' I c => passL pins σ H s e s' I c) (pa_cons (pe_ix (r := rIxL K) (by exact ix_list) (pv 4) pe_int (fun _ _ => rfl)) (pa_cons (pv 8) (pa_cons (pe_ix (r := rIxL K) (by exact ix_list) (pv 4) pe_int (fun _ _ => rfl)) (pa_cons (pv 9) pa_nil))))))
      (pss_cons (ps_for PassesOwn.never rfl (pi_tup (pe_tup (pa_cons (pv 8) (pa_cons (pv 9) pa_nil)))) (pg_name (i := 11) nd rfl (.inl rfl)) (pss_one (ps_if (pt_val (pe_callB call_isi (by rfl) z.isi PyProof.Rows.boot_isinstance (pa_cons (pv 11) (pa_cons (pe_bltn (v := .ty "list") (by rfl) z.lst PyProof.Rows.boot_list rfl) pa_nil)))) (pss_one (ps_expr (pe_bm PySem.F.plainAttrs_list PySem.F.slot_list_append PySem.F.type_list_append mt_append (pv 11) (pa_cons pe_int pa_nil)))) pss_nil)))
      (pss_cons (ps_if (PW.pt (pw_or (pt_not (pt_val (pe_callG GM gA (hr.mono (by decide)) (by rfl) gM kM bM .nil pass0 (pa_cons (pe_call UK.G (hr.mono (by decide)) (by rfl) UK.g UK.kp UK.b .nil pass0 (pa_cons (pv 10) pa_nil)) (pa_cons (pv 4) pa_nil))))) (pw_or1 (pt_cmpR op_notN (pe_fld (pv 10) rfl) pe_non (nomark _))))) (pss_one (ps_ret pe_bl)) pss_nil)
      (pss_cons (ps_set (i := 12) nd rfl (.inl rfl) (pe_makeS (ES := fun _ => E0) M GI (hr.mono (by decide)) (by rfl) T.gC b4 .nil (fun σ pins H s e s' I c => passL pins σ H s e s' I c) (pa_cons (pe_ix (r := rIxL K) (by exact ix_list) (pv 5) pe_int (fun _ _ => rfl)) (pa_cons (pe_ix (r := rIxL K) (by exact ix_list) (pv 5) pe_int (fun _ _ => rfl)) (pa_cons (pe_ix (r := rIxL K) (by exact ix_list) (pv 5) pe_int (fun _ _ => rfl)) (pa_cons (pe_ix (r := rIxL K) (by exact ix_list) (pv 5) pe_int (fun _ _ => rfl)) pa_nil))))))
      (pss_cons (ps_if (PW.pt (pw_or (pt_cmpR op_ne (pe_cmpR (op_ownEq OE.GE (hr.mono (by decide)) OE.bE (E := E0) pass0 OE.sE OE.fE) (pv 10) (pv 12) (nomark _)) (pe_callG GM gA (hr.mono (by decide)) (by rfl) gM kM bM .nil pass0 (pa_cons (pv 4) (pa_cons (pv 5) pa_nil))) (nomark _)) (pw_or (pt_cmpR (op_ownEq OE.GE (hr.mono (by decide)) OE.bE (E := E0) pass0 OE.sE OE.fE) (pv 10) (pv 4) (nomark _)) (pw_or1 (pt_cmpR (op_ownEq OE.GE (hr.mono (by decide)) OE.bE (E := E0) pass0 OE.sE OE.fE) (pv 10) (pe_ix (r := rIxL K) (by exact ix_list) (pv 4) pe_int (fun _ _ => rfl)) (nomark _)))))) (pss_one (ps_ret pe_bl)) pss_nil)
      (pss_cons (ps_set (i := 13) nd rfl (.inl rfl) (pe_makeS (ES := fun _ => E0) M GI (hr.mono (by decide)) (by rfl) T.gC b2 v2 (fun σ pins H s e s' I c => passL pins σ H s e s' I c) (pa_cons (pe_ix (r := rIxL K) (by exact ix_list) (pv 4) pe_int (fun _ _ => rfl)) (pa_cons (pe_ix (r := rIxL K) (by exact ix_list) (pv 4) pe_int (fun _ _ => rfl)) pa_nil))))
      (pss_cons (ps_if (pt_not (pt_val (pe_callG GM gA (hr.mono (by decide)) (by rfl) gM kM bM .nil pass0 (pa_cons (pe_call UK.G (hr.mono (by decide)) (by rfl) UK.g UK.kp UK.b .nil pass0 (pa_cons (pv 13) pa_nil)) (pa_cons (pe_lst (pa_cons (pe_ix (r := rIxL K) (by exact ix_list) (pv 4) pe_int (fun _ _ => rfl)) (pa_cons (pe_ix (r := rIxL K) (by exact ix_list) (pv 4) pe_int (fun _ _ => rfl)) (pa_cons pe_non (pa_cons (pe_tup pa_nil) pa_nil))))) pa_nil))))) (pss_one (ps_ret pe_bl)) pss_nil)
      (pss_cons (ps_set (i := 14) nd rfl (.inl rfl) (pe_call UP.G (hr.mono (by decide)) (by rfl) UP.g UP.kp UP.b .nil pass0 (pa_cons (pv 2) (pa_cons (pe_lst (pa_cons pe_str (pa_cons pe_str (pa_cons pe_str (pa_cons pe_str (pa_cons pe_str (pa_cons pe_str (pa_cons pe_str (pa_cons (pe_op op_add_str (pe_ix (r := rIxL K) (by exact ix_list) (pv 4) pe_int (fun _ _ => rfl)) pe_str) pa_nil))))))))) pa_nil))))
      (pss_one (ps_if (pt_cmpR op_ne (pe_call URe.G hr (by rfl) URe.g URe.kp URe.b .nil pass0 (pa_cons (pv 14) pa_nil)) (pv 14) (nomark _)) (pss_one (ps_ret pe_bl)) pss_nil)))))))))))))))))
      (pss_one (ps_ret pe_bl))), ?_⟩
    have lsz := sizeLine_eq
    have s2z : 2 ≤ sizeLine := by decide
    have s4z : 4 ≤ sizeLine := by decide
    refine ⟨_, rfl, s0, _, rfl, .inl hS, _, _, rfl, _, _, rfl, _, rfl, ?_, ?_, for_range (fun i σ H' => ∃ v1 v2 v3 v4 v5 v6 v7 v8 v9 v10 v11 v12 v13 v14 : Option V, σ = [some (.ref s0), v1, v2, v3, v4, v5, v6, v7, v8, v9, v10, v11, v12, v13, v14] ∧ Same H H')
      ⟨none, none, none, none, none, none, none, none, none, none, none, none, none, none, rfl, Same.refl H⟩ ?_ ?_⟩
    · split <;> omega
    · split <;> (try split) <;> omega
    · rintro i σ Hs hi ⟨v1, v2, v3, v4, v5, v6, v7, v8, v9, v10, v11, v12, v13, v14, rfl, sH⟩
      have hi3 : i < 3 := by
        refine Nat.lt_of_lt_of_le hi ?_
        split <;> (try split) <;> omega
      refine ⟨_, rfl, _, rfl, s0, ns, i, (by rw [Int.zero_add]; rfl), sH.seq hS, hn, by omega, fun a H1 ha S1 fd1 => ?_⟩
      refine ⟨_, rfl, a, rfl, fd1, fun L H2 cs ce tb c e d r m t d2 s2 => ?_⟩
      refine ⟨_, rfl, _, rfl, a, L, (fun b => b = a), cs, ce, tb, false, c, e, d, r, m, t, rfl, s2, fun p1 nm S W R dS dW dR H3 hp1 d3 e3 P1 => ?_⟩
      have s3 := s2.dr d3
      refine ⟨_, rfl, p1, _, rfl, .inl (SqL.of e3), fun q1 hq1 => ⟨_, rfl, _, rfl, a, L, And1 (fun b => b = a) q1, cs, ce, tb, false, c, e, d, r, m, t, rfl, s3.more hq1, fun p2 nm2 S2 W2 R2 dS2 dW2 dR2 H4 hp2 d4 e4 P2 => ⟨_, _, rfl, ?_⟩⟩⟩
      have q1a : q1 ≠ a := feed_ne d3.fd hq1
      have p1a : p1 ≠ a := feed_ne d2.fd hp1
      have f3' := (dr_new (o := .lst [V.str nm, S, W, R]) d3.fd hq1)
      have p2a : p2 ≠ a := feed_ne f3'.fd hp2
      have p1q : p1 ≠ q1 := ne_of_none e3 hq1
      have p2q : p2 ≠ q1 := Ne.symm (ne_of_none upd_same hp2)
      have P14 := (P1.more (u := .lst [V.str nm, S, W, R]) hq1).off (dr_off (.inl rfl) d4)
      have eq4 := d4.sm _ _ q1a (upd_same (H := H3) (a := q1) (o := .lst [V.str nm, S, W, R]))
      have ep4 := d4.sm _ _ p1a (same_new (o := .lst [V.str nm, S, W, R]) hq1 _ _ e3)
      have sH4 : Same Hs H4 := same_dr ha (same_dr ha (same_dr ha (same_dr ha S1 d2) d3) f3') d4
      have q1s : Hs q1 = none := S1.free (dr_free (d2.trans d3) hq1)
      have nB : ∀ b, b ≠ a → b ≠ q1 → ¬ And1 (fun b => b = a) q1 b := fun b n1 n2 h => h.elim n1 n2
      refine ⟨4, rfl, by decide, by decide, for_range (fun j σ H' => ∃ (nmo : Str) (So Wo Ro : V) (dSo dWo dRo : PyData) (w7 : Option V), σ = [some (.ref s0), some (.int (0 + (i : Int))), some (.ref a), some (.ref L), some (.ref p1), some (.ref q1), some (.ref p2), w7, v8, v9, v10, v11, v12, v13, v14] ∧
          H' q1 = some (.lst [.str nmo, So, Wo, Ro]) ∧ PartsAt K (And1 (fun b => b = a) q1) H' nmo So Wo Ro dSo dWo dRo ∧ Off (And1 (fun b => b = a) q1) H4 H' ∧ FeedAt H' a)
        ⟨nm, S, W, R, dS, dW, dR, v7, rfl, eq4, P14, Off.refl _ _, d4.fd⟩ ?_ ?_⟩
      · rintro j σ H5 hj ⟨nmo, So, Wo, Ro, dSo, dWo, dRo, w7, rfl, eqo, Po, of5, f5⟩
        refine ⟨_, rfl, ?_⟩
        refine take_at f5 (by decide) (by decide) fun q H6 q0 q4 d6 => ⟨rfl, _, rfl, iteD (fun h0 => ?_) (fun h0 => ?_)⟩
        · have o6 := of5.trans (dr_off (B := And1 (fun b => b = a) q1) (.inl rfl) d6)
          have ep2 := o6 p2 _ (nB p2 p2a p2q) e4
          have eq6 := d6.sm _ _ q1a eqo
          have Po6 := Po.off (dr_off (.inl rfl) d6)
          have P26 := P2.off o6
          have fin : ∀ (xs : List V), FeedAt (upd H6 q1 (.lst xs)) a ∧ Off (And1 (fun b => b = a) q1) H6 (upd H6 q1 (.lst xs)) := fun xs => by
            obtain ⟨x, y, e1, e2⟩ := d6.fd
            exact ⟨⟨x, y, by rw [upd_ne (Ne.symm q1a)]; exact e1, e2⟩, off_at (.inr rfl)⟩
          obtain rfl | rfl | rfl | rfl : j = 0 ∨ j = 1 ∨ j = 2 ∨ j = 3 := by omega
          · have Pn : PartsAt K (And1 (fun b => b = a) q1) H6 nm2 So Wo Ro dSo dWo dRo := ⟨P26.nm, Po6.s, Po6.w, Po6.r, Po6.isT, Po6.isR, Po6.isW, Po6.gs, Po6.gw, Po6.gr⟩
            exact ⟨_, rfl, _, rfl, p2, _, _, _, rfl, rfl, SqL.of ep2, rfl, _, rfl, _, rfl, q1, _, _, 0, rfl, rfl, eq6, rfl, nm2, So, Wo, Ro, dSo, dWo, dRo, _, rfl, upd_same, Pn.off (fin _).2, o6.trans (fin _).2, (fin _).1⟩
          · have Pn : PartsAt K (And1 (fun b => b = a) q1) H6 nmo S2 Wo Ro dS2 dWo dRo := ⟨Po6.nm, P26.s, Po6.w, Po6.r, P26.isT, Po6.isR, Po6.isW, P26.gs, Po6.gw, Po6.gr⟩
            exact ⟨_, rfl, _, rfl, p2, _, _, _, rfl, rfl, SqL.of ep2, rfl, _, rfl, _, rfl, q1, _, _, 1, rfl, rfl, eq6, rfl, nmo, S2, Wo, Ro, dS2, dWo, dRo, _, rfl, upd_same, Pn.off (fin _).2, o6.trans (fin _).2, (fin _).1⟩
          · have Pn : PartsAt K (And1 (fun b => b = a) q1) H6 nmo So W2 Ro dSo dW2 dRo := ⟨Po6.nm, Po6.s, P26.w, Po6.r, Po6.isT, Po6.isR, P26.isW, Po6.gs, P26.gw, Po6.gr⟩
            exact ⟨_, rfl, _, rfl, p2, _, _, _, rfl, rfl, SqL.of ep2, rfl, _, rfl, _, rfl, q1, _, _, 2, rfl, rfl, eq6, rfl, nmo, So, W2, Ro, dSo, dW2, dRo, _, rfl, upd_same, Pn.off (fin _).2, o6.trans (fin _).2, (fin _).1⟩
          · have Pn : PartsAt K (And1 (fun b => b = a) q1) H6 nmo So Wo R2 dSo dWo dR2 := ⟨Po6.nm, Po6.s, Po6.w, P26.r, Po6.isT, P26.isR, Po6.isW, Po6.gs, Po6.gw, P26.gr⟩
            exact ⟨_, rfl, _, rfl, p2, _, _, _, rfl, rfl, SqL.of ep2, rfl, _, rfl, _, rfl, q1, _, _, 3, rfl, rfl, eq6, rfl, nmo, So, Wo, R2, dSo, dWo, dR2, _, rfl, upd_same, Pn.off (fin _).2, o6.trans (fin _).2, (fin _).1⟩
        · exact ⟨nmo, So, Wo, Ro, dSo, dWo, dRo, _, rfl, d6.sm _ _ q1a eqo, Po.off (dr_off (.inl rfl) d6), of5.trans (dr_off (.inl rfl) d6), d6.fd⟩
      · rintro σ H5 ⟨nmo, So, Wo, Ro, dSo, dWo, dRo, w7, rfl, eqo, Po, of5, f5⟩
        have P15 := (P14.off of5).less (B := fun b => b = a) (fun b h => .inl h)
        have Po5 := Po.less (B := fun b => b = a) (fun b h => .inl h)
        have ep5 := of5 p1 _ (nB p1 p1a p1q) ep4
        have sH5 : Same Hs H5 := fun b u eb => of5 b u (nB b (ne_of_none eb ha) (ne_of_none eb q1s)) (sH4 b u eb)
        clear P14 Po P2 e4 eq4 ep4 sH4 of5 d4 P1 e3 d3 d2 s3 s2 f3'
        have gN := nm_good P15.nm
        have gS := good_ok dS P15.gs.1
        have gW := good_ok dW P15.gw
        have gR := good_ok dR P15.gr.1
        refine ⟨_, rfl, _, rfl, p1, _, _, _, rfl, rfl, SqL.of ep5, rfl, a, (fun b => b = a), S, dS, rfl, f5, rfl, feed_al f5, P15.s, P15.gs.1, P15.gs.2.1, fun y1 e1 H6 d6 sv1 t1 dp1 wd1 fr1 => ?_⟩
        refine ⟨_, rfl, _, rfl, p1, _, _, _, rfl, rfl, SqL.of (d6.sm _ _ p1a ep5), rfl, a, (fun b => b = a), R, dR, rfl, d6.fd, rfl, feed_al d6.fd, Sd.step P15.r rfl d6, P15.gr.1, P15.gr.2.1, fun y2 e2 H7 d7 sv2 t2 dp2 wd2 fr2 => ⟨_, _, rfl, ?_⟩⟩
        obtain ⟨ds0, rfl⟩ := P15.isT
        obtain ⟨ds1, rfl⟩ := P15.isR
        obtain ⟨r1, us1, es1, rfl, hr1, sa1, ts1, at1⟩ := fr1 ds0 rfl
        obtain ⟨r2, us2, es2, rfl, hr2, sa2, ts2, at2⟩ := fr2 ds1 rfl
        have r1a : r1 ≠ a := feed_ne f5 hr1
        have r2a : r2 ≠ a := feed_ne d6.fd hr2
        have r2n : H5 r2 = none := dr_free d6 hr2
        have l0 : ds0.length ≤ 1000 := by
          have := P15.gs.1
          rw [good, Bool.and_eq_true, decide_eq_true_eq] at this
          exact this.1
        have l1 : ds1.length ≤ 1000 := by
          have := P15.gr.1
          rw [good, Bool.and_eq_true, decide_eq_true_eq] at this
          exact this.1
        have lu1 : us1.length ≤ 1000 := by
          have q1 := sa1.len
          have q2 := congrArg List.length ts1
          rw [tupDs_map, List.length_map] at q2
          omega
        have lu2 : us2.length ≤ 1000 := by
          have q1 := sa2.len
          have q2 := congrArg List.length ts2
          rw [tupDs_map, List.length_map] at q2
          omega
        have tl1 : TL H7 r1 1000 := ⟨us1, lu1, at1.elim (fun e => .inl (d7.sm _ _ r1a e)) (fun e => .inr (d7.sm _ _ r1a e))⟩
        have tl2 : TL H7 r2 1000 := ⟨us2, lu2, at2⟩
        have d57 := d6.trans d7
        have ep7 := d57.sm _ _ p1a ep5
        refine ⟨_, rfl, p1, _, _, _, rfl, rfl, SqL.of ep7, rfl, _, rfl, _, rfl, p1, _, _, _, rfl, rfl, SqL.of ep7, rfl, _, rfl, fun x dx hx hdx ne => ?_⟩
        have sN : ∀ oo oo2, Same H7 (upd (upd H7 dx oo) x oo2) := fun oo oo2 b o eb => by
          rw [upd_ne (ne_of_none eb hx), upd_ne (ne_of_none eb hdx)]; exact eb
        refine ⟨x, dx, nm, .ref r1, W, .ref r2, e1, e2, rfl, upd_same, gN.2.2, L3.Dp.same (sN _ _) (L3.Sd.dp (Sd.step sv1 rfl d7)), L3.Dp.same (sN _ _) (L3.Sd.dp sv2), by have := P15.gs.2.1; omega, wd1, by have := P15.gr.2.1; omega, wd2, fun e => absurd (gN.2.1.symm.trans e) (by decide), fun _ S' R' H8 keep ex dS' dR' => ⟨rfl, ?_⟩⟩
        have s78 : Same H7 H8 := fun b o eb => keep b o (ne_of_none eb hx) (sN _ _ b o eb)
        rw [t1] at dS'
        rw [t2] at dR'
        have D8 : DeedAt K C H8 x nm S' W R' (.tuple ds0) dW (.tuple ds1) := ⟨⟨dx, ex⟩, dS', atom_dp P15.w P15.isW _, dR', shD gN.1 (Nat.zero_le _), shD P15.gs.1 (by have := P15.gs.2.1; omega), shD P15.gw P15.dw, shD P15.gr.1 (by have := P15.gr.2.1; omega)⟩
        have d58 := dr_same d57 s78
        have tl18 := tl1.same s78
        have tl28 := tl2.same s78
        clear keep sN hx hdx dS' dR' tl1 tl2 sv1 sv2 fr1 fr2 at1 at2 sa1 sa2 ep7 s78 d57 d6 d7
        refine ⟨_, rfl, _, rfl, s2z, fun tp htp => ⟨tp, rfl, ⟨_, SqT.of upd_same⟩, for_tup (K := K) (a := tp) (xs := [V.ref r1, V.ref r2]) (fun j σ H' => ∃ w11 : Option V, σ = [some (.ref s0), some (.int (0 + (i : Int))), some (.ref a), some (.ref L), some (.ref p1), some (.ref q1), some (.ref p2), w7, some (.ref r1), some (.ref r2), some (.ref x), w11, v12, v13, v14] ∧
            DeedAt K C H' x nm S' W R' (.tuple ds0) dW (.tuple ds1) ∧ Dr a H5 H' ∧ H' tp = some (.tup [.ref r1, .ref r2]) ∧ TL H' r1 (1000 + j) ∧ TL H' r2 (1000 + j))
          ⟨v11, rfl, D8.same (same_new htp), dr_same d58 (same_new htp), upd_same, tl18.same (same_new htp), tl28.same (same_new htp)⟩ ?_ ?_ ?_⟩⟩
        · rintro j σ H' hj ⟨w11, rfl, D', dd, et, q1', q2'⟩
          exact SqT.of et
        · rintro j x5 σ H' hj ⟨w11, rfl, D', dd, et, q1', q2'⟩
          obtain ⟨rr, rfl, ra, rn, tl⟩ : ∃ rr, x5 = V.ref rr ∧ rr ≠ a ∧ H5 rr = none ∧ TL H' rr (1000 + j) := by
            match j, hj with
            | 0, hj => cases hj; exact ⟨r1, rfl, r1a, hr1, q1'⟩
            | 1, hj => cases hj; exact ⟨r2, rfl, r2a, r2n, q2'⟩
            | n + 2, hj => simp at hj
          have hj2 : j < 2 := (List.getElem?_eq_some_iff.mp hj).1
          obtain ⟨us, lu, e | e⟩ := tl
          · exact ⟨_, rfl, .ref rr, .ty "list", _, .type "list", false, rfl, .ty _, .base (.tup e), kit_ty (by decide +kernel), _, rfl, ifF rfl ⟨_, rfl, D', dd, et, q1'.mono (by omega), q2'.mono (by omega)⟩⟩
          · refine ⟨_, rfl, .ref rr, .ty "list", _, .type "list", true, rfl, .ty _, .base (.lst e), kit_ty (by decide +kernel), _, rfl, ifT rfl ⟨_, rfl, .inl ⟨rfl, us, SqL.of e⟩, rr, us, _, rfl, rfl, e, by omega, ?_⟩⟩
            have ntp : tp ≠ rr := ne_of et e fun z => nomatch z
            refine ⟨_, rfl, D'.put gS.tup gW.tup gR.tup e, dr_put dd ra rn, by rw [upd_ne ntp]; exact et, ?_, ?_⟩
            · exact q1'.put (v := .int 5) lu
            · exact q2'.put (v := .int 5) lu
        · rintro σ H9 ⟨w11, rfl, D9, d9, et9, _, _⟩
          obtain ⟨dx9, ex9⟩ := D9.at_
          have ep9 := d9.sm _ _ p1a ep5
          refine ⟨_, rfl, x, dx9, nm, S', W, R', rfl, ex9, fun pk hpk => ?_⟩
          have sk := same_new (o := .lst [V.str nm, S', W, R']) hpk
          have d10 := dr_same d9 sk
          have D10 := D9.same sk
          have P10 := P15.off (dr_off (B := fun b => b = a) rfl d10)
          refine ⟨_, rfl, .ref pk, .ref p1, partsD nm (.tuple ds0) dW (.tuple ds1), partsD nm (.tuple ds0) dW (.tuple ds1), rfl, .lst (SqL.of upd_same) (.cons (.str _) (.cons D10.s (.cons D10.w (.cons D10.r .nil)))), .lst (SqL.of (sk _ _ ep9)) (.cons (.str _) (.cons (L3.Sd.dp P10.s) (.cons (L3.Sd.dp P10.w) (.cons (L3.Sd.dp P10.r) .nil)))), P15.fine, P15.fine, _, rfl, ifF (by rw [decide_eq_true rfl]; rfl) ?_⟩
          refine ⟨_, rfl, x, C, dx9, _, _, rfl, sk _ _ ex9, T.cl, T.np, rfl, rfl, _, rfl, ifF rfl ?_⟩
          have ep10 := sk _ _ ep9
          have eo10 := d10.sm _ _ q1a eqo
          have Po10 := Po5.off (dr_off (B := fun b => b = a) rfl d10)
          have gNo := nm_good Po5.nm
          have gSo := good_ok dSo Po5.gs.1
          have gWo := good_ok dWo Po5.gw
          have gRo := good_ok dRo Po5.gr.1
          generalize upd H9 pk (.lst [V.str nm, S', W, R']) = H10 at d10 D10 P10 ep10 eo10 Po10 ⊢
          clear sk D9 ex9 ep9 et9
          refine ⟨_, rfl, q1, _, _, _, rfl, rfl, SqL.of eo10, rfl, _, rfl, q1, _, _, _, rfl, rfl, SqL.of eo10, rfl, _, rfl, q1, _, _, _, rfl, rfl, SqL.of eo10, rfl, _, rfl, q1, _, _, _, rfl, rfl, SqL.of eo10, rfl, fun x2 dx2 hx2 hdx2 ne2 => ?_⟩
          have sN2 : ∀ oo oo2, Same H10 (upd (upd H10 dx2 oo) x2 oo2) := fun oo oo2 b o eb => by
            rw [upd_ne (ne_of_none eb hx2), upd_ne (ne_of_none eb hdx2)]; exact eb
          refine ⟨x2, dx2, nmo, So, Wo, Ro, dSo, dRo, rfl, upd_same, gNo.2.2, L3.Dp.same (sN2 _ _) (L3.Sd.dp Po10.s), L3.Dp.same (sN2 _ _) (L3.Sd.dp Po10.r), by have := Po5.gs.2.1; omega, gSo.wide, by have := Po5.gr.2.1; omega, gRo.wide, fun e => absurd (gNo.2.1.symm.trans e) (by decide), fun _ S2' R2' H12 keep2 ex2 dS2' dR2' => ⟨rfl, ?_⟩⟩
          have s12 : Same H10 H12 := fun b o eb => keep2 b o (ne_of_none eb hx2) (sN2 _ _ b o eb)
          rw [gSo.tup] at dS2'
          rw [gRo.tup] at dR2'
          have Dt : DeedAt K C H12 x2 nmo S2' Wo R2' dSo dWo dRo := ⟨⟨dx2, ex2⟩, dS2', atom_dp Po5.w Po5.isW _, dR2', shD gNo.1 (Nat.zero_le _), shD Po5.gs.1 (by have := Po5.gs.2.1; omega), shD Po5.gw Po5.dw, shD Po5.gr.1 (by have := Po5.gr.2.1; omega)⟩
          have d12 := dr_same d10 s12
          have D12 := D10.same s12
          have P12 := P15.off (dr_off (B := fun b => b = a) rfl d12)
          have Po12 := Po5.off (dr_off (B := fun b => b = a) rfl d12)
          have ep12 := s12 _ _ ep10
          have eo12 := s12 _ _ eo10
          obtain ⟨dx12, ex12⟩ := id D12.at_
          clear keep2 sN2 dS2' dR2' s12 D10 P10 Po10 ep10 eo10
          refine ⟨_, rfl, _, rfl, x, dx12, _, .ref C, rfl, ex12, .base (.ins ex2 T.cl TE.cA TE.cG TE.cT TE.cM), OE.nC, x, .ref x2, nm, S', W, R', _, dW, _, rfl, D12, .inl ⟨x2, nmo, S2', Wo, R2', dSo, dWo, dRo, rfl, Dt, ?_⟩⟩
          refine ⟨_, rfl, _, rfl, .ref p1, .ref q1, partsD nm (.tuple ds0) dW (.tuple ds1), partsD nmo dSo dWo dRo, rfl, .lst (SqL.of ep12) (.cons (.str _) (.cons (L3.Sd.dp P12.s) (.cons (L3.Sd.dp P12.w) (.cons (L3.Sd.dp P12.r) .nil)))), .lst (SqL.of eo12) (.cons (.str _) (.cons (L3.Sd.dp Po12.s) (.cons (L3.Sd.dp Po12.w) (.cons (L3.Sd.dp Po12.r) .nil)))), P15.fine, Po5.fine, rfl, _, rfl, ifF ?_ ?_⟩
          · have G1 := goods_ok _ P15.goods
            have G2 := goods_ok _ Po5.goods
            rw [text_eqv (d := partsD nm (.tuple ds0) dW (.tuple ds1)) (e := partsD nmo dSo dWo dRo) G1.easy G2.easy G1.noB G2.noB]
            rw [decide_eq_true rfl]
            rfl
          refine ⟨_, rfl, _, rfl, x, dx12, _, .type "list", rfl, ex12, .base (.lst ep12), OE.nL, x, .ref p1, nm, S', W, R', _, dW, _, rfl, D12, .inr ⟨_, .base (.lst ep12), TE.kL, _, rfl, ifF rfl ?_⟩⟩
          refine ⟨_, rfl, _, rfl, p1, _, _, _, rfl, rfl, SqL.of ep12, rfl, x, dx12, _, .type "str", rfl, ex12, .base (.str _), OE.nS, x, .str nm, nm, S', W, R', _, dW, _, rfl, D12, .inr ⟨_, .base (.str _), TE.kS, _, rfl, ifF rfl ?_⟩⟩
          clear Dt D12 ex12 Po12 eo12
          -- the deed of the first two parts
          refine ⟨_, rfl, p1, _, _, _, rfl, rfl, SqL.of ep12, rfl, _, rfl, p1, _, _, _, rfl, rfl, SqL.of ep12, rfl, fun x3 dx3 hx3 hdx3 ne3 => ?_⟩
          have sN3 : ∀ oo oo2, Same H12 (upd (upd H12 dx3 oo) x3 oo2) := fun oo oo2 b o eb => by
            rw [upd_ne (ne_of_none eb hx3), upd_ne (ne_of_none eb hdx3)]; exact eb
          refine ⟨x3, dx3, nm, S, .non, .ref aE, .tuple ds0, .tuple [], rfl, upd_same, gN.2.2, L3.Dp.same (sN3 _ _) (L3.Sd.dp P12.s), .tup (qE _) .nil, by have := P15.gs.2.1; omega, gS.wide, by decide, by decide, fun e => absurd (gN.2.1.symm.trans e) (by decide), fun _ S3' R3' H14 keep3 ex3 dS3' dR3' => ⟨rfl, ?_⟩⟩
          have s14 : Same H12 H14 := fun b o eb => keep3 b o (ne_of_none eb hx3) (sN3 _ _ b o eb)
          rw [gS.tup] at dS3'
          have d14 := dr_same d12 s14
          have ep14 := s14 _ _ ep12
          refine ⟨_, rfl, x3, dx3, nm, S3', .non, R3', rfl, ex3, fun pk hpk => ?_⟩
          have sk := same_new (o := .lst [V.str nm, S3', .non, R3']) hpk
          have ep15 := sk _ _ ep14
          refine ⟨_, rfl, p1, _, _, _, rfl, rfl, SqL.of ep15, rfl, _, rfl, p1, _, _, _, rfl, rfl, SqL.of ep15, rfl, Nat.zero_le _, fun t0 ht0 => ⟨s4z, fun l0 hl0 => ?_⟩⟩
          have st := same_new (o := .tup []) ht0
          have sl := same_new (o := .lst [V.str nm, S, .non, .ref t0]) hl0
          have s16 := sk.trans (st.trans sl)
          have d16 := dr_same d14 s16
          have P16 := P15.off (dr_off (B := fun b => b = a) rfl d16)
          have fA : Fine (partsD nm (.tuple ds0) .none (.tuple [])) := by
            have g1 := P15.gs.2
            refine listFine (parts_goods gN.1 P15.gs.1 (by decide +kernel) (by decide +kernel)) ?_ ?_
            · simp only [PyData.depthAll, PyData.depth] at *; omega
            · simp only [costs, cost] at *; omega
          have epk := (st.trans sl) pk _ (upd_same (H := H14) (a := pk) (o := .lst [V.str nm, S3', .non, R3']))
          have et0 := sl t0 _ (upd_same (H := upd H14 pk (.lst [V.str nm, S3', .non, R3'])) (a := t0) (o := .tup []))
          have el0 := upd_same (H := upd (upd H14 pk (.lst [V.str nm, S3', .non, R3'])) t0 (.tup [])) (a := l0) (o := .lst [V.str nm, S, .non, .ref t0])
          have DA : Dp K _ (.ref pk) (partsD nm (.tuple ds0) .none (.tuple [])) := .lst (SqL.of epk) (.cons (.str nm) (.cons (L3.Dp.same s16 dS3') (.cons .non (.cons (L3.Dp.same s16 dR3') .nil))))
          have DB : Dp K _ (.ref l0) (partsD nm (.tuple ds0) .none (.tuple [])) := .lst (SqL.of el0) (.cons (.str nm) (.cons (L3.Sd.dp P16.s) (.cons .non (.cons (.tup (SqT.of et0) .nil) .nil))))
          obtain ⟨dA, hdA⟩ : ∃ dA, dA = partsD nm (.tuple ds0) .none (.tuple []) := ⟨_, rfl⟩
          rw [← hdA] at DA DB fA
          refine ⟨.ref pk, .ref l0, dA, dA, rfl, DA, DB, fA, fA, _, rfl, ifF (by rw [decide_eq_true rfl]; rfl) ?_⟩
          have ep16 := (st.trans sl) _ _ ep15
          generalize upd (upd (upd H14 pk (.lst [V.str nm, S3', .non, R3'])) t0 (.tup [])) l0 (.lst [V.str nm, S, .non, .ref t0]) = H16 at d16 P16 ep16 ⊢
          clear s16 sl st sk s14 d14 d12 keep3 dS3' dR3' ex3 ep15 ep14 ep12 sN3
          refine ⟨_, rfl, _, rfl, p1, _, _, _, rfl, rfl, SqL.of ep16, rfl, _, _, rfl, rfl, by rw [lsz]; have := gN.2.2; show nm.length + 1 ≤ 16777216; omega, (by show 8 ≤ sizeLine; decide), fun l8 hl8 => ?_⟩
          have sa : SdAll K (fun b => b = a) H16 [V.str (Str.ofString ""), V.str (Str.ofString "A"), V.str (Str.ofString "1a"), V.str (Str.ofString "abcdefg"), V.str (Str.ofString "a b"), V.str (Str.ofString "a.0"), V.str (Str.ofString "d-"), V.str (nm ++ Str.ofString "Z")] ((badT nm).map .str) :=
            .cons (.str _) (.cons (.str _) (.cons (.str _) (.cons (.str _) (.cons (.str _) (.cons (.str _) (.cons (.str _) (.cons (.str _) .nil)))))))
          have pk8 := fun Q k => pick_new (K := K) (B := fun b => b = a) (Q := Q) d16.fd rfl (feed_al d16.fd) hl8 sa (List.cons_ne_nil _ _) (bad_len nm) k
          refine pk8 _ fun y yd H17 my sy d17 => ?_
          obtain ⟨zz, mz, rfl⟩ := List.mem_map.mp my
          obtain rfl := sy.isStr
          obtain ⟨n1, n2⟩ := bad_no P15.nm zz mz
          refine ⟨_, rfl, zz, rfl, n1, n2, fun H18 s18 => ⟨_, rfl, rfl, _, rfl, ifF (by rw [decide_eq_true rfl]; rfl) ?_⟩⟩
          exact ⟨_, _, _, _, _, _, _, _, _, _, _, _, _, _, rfl, sH.trans ((same_dr ha sH5 (d16.trans d17)).trans s18)⟩
    · rintro σ H' ⟨v1, v2, v3, v4, v5, v6, v7, v8, v9, v10, v11, v12, v13, v14, rfl, sH⟩
      exact k H'
end
end R61

namespace R61
open PySem L2 L3
open PySem.HandSPX (refsVE)
section
variable {P : Program} {K : PySem.W.Frag} {mg : Str → Option Value} {C f cc cda : Addr} {kV doc pm ct : Value} {an : Option Addr} {nm q : Str} {N : Addr} {bs bm : List Value} {sn : List Str} {sub : List Value} {ab : Bool} {col : Option Bool} {dd : Option Addr} {k0 k1 k2 k3 k5 : Option Value}
abbrev st0 : Stmt := inClass (top 3) 0
abbrev fn0 (kV doc pm : Value) (an : Option Addr) (cda : Addr) (ct : Value) (cc : Addr) : FuncData := initFn "InvalidName.__init__" (defArgs st0) (defBody st0) (defScope st0) .none kV doc pm an cda ct cc
theorem err0 (I : InK K P C f cc cda (fn0 kV doc pm an cda ct cc) "InvalidName.__init__") (hs : supB K C f "ValueError" "ValueError.__init__" ["name"] = true) (he : excB K C = true) (hC : K.lookup C = some (PySem.excClassObj nm q C N bs bm true sn sub ab col dd k0 k1 k2 k3 k5 "ValueError.__new__")) (hb : refsVE bm = true) (noS : mg "super" = none) (g : mg "InvalidName" = some (.ref C)) :
    ErrF P K mg C f "InvalidName" ["name"] := by
  have S := supB_ok hs
  obtain ⟨E, X⟩ := excB_ok he
  have V := over_of hC hb
  have St : Sto K C := sto_ve V S.sa
  have M := supK_of I S hC St noS
  exact ⟨g, fun w => init1 (initF_of PySem.F.excBase_ValueError.toExcCallFacts) PySem.W.kxs_ValueError M rfl (S.no _ (by simp)) rfl rfl rfl rfl rfl rfl rfl rfl (by decide +kernel) (by decide +kernel) (by decide +kernel) (fun _ _ => rfl) (fun _ => rfl) (fun _ => rfl) (fun _ => rfl) (fun _ => rfl),
    ⟨"ValueError", _, _, _, bm, PySem.F.excBase_ValueError, above_ve hb, nm, q, N, bs, true, sn, sub, ab, col, dd, k0, k1, k2, k3, k5, hC⟩, S.kC, S.iC, S.tI, E, X, S.no⟩
end
end R61

namespace R61
open PySem L2 L3
section
variable {P : Program} {w : World} {K : PySem.W.Frag} {mg : Str → Option Value} {base : Heap}
theorem _root_.L3.Use.mono {x : Str} {j k : Nat} {f : Addr} {fd : FuncData} {ps : List Str} {sp : Sp} (U : Use P w K mg base x j f fd ps sp) (h : j ≤ k) : Use P w K mg base x k f fd ps sp := ⟨U.G.mono h, U.g, U.kp, U.b⟩
theorem none_fn {k : Nat} {f : Addr} {fd : FuncData} {ps : List Str} : FnOk P w K mg base CX0 k f fd ps (fun _ _ _ _ => False) := ⟨fun _ _ _ _ h => h.elim, fun _ _ _ _ _ _ _ _ _ _ _ _ _ h => h.elim⟩
end
theorem all_mk {l : PySem.W.OpenLaw} {w : World} {K : PySem.W.Frag} {h : Heap} {mg : Str → Option Value} {fa C tDf aE c0 f0 da0 cc0 N0 fE fN fW fF fT fMi fL fM fLo fP fNu fTr fRs fRw fTh fRf fPa fKe fZ fI : Addr} {tL tD tM tf0 : Tok} {od0 an0 odD0 odC0 dd0 odT0 odE0 odE anE odN anN odW anW odF anF odT anT odMi anMi odL anL odM anM odLo anLo odP anP odNu anNu odTr anTr odRs anRs odRw anRw odTh anTh odRf anRf odPa anPa odKe anKe odZ anZ odI anI : Option Addr} {sl0 slD0 slC0 slT0 slE0 slE slN slW slF slT slMi slL slM slLo slP slNu slTr slRs slRw slTh slRf slPa slKe slZ slI : Array (Option Value)} {vs0 : Array Value} {nT0 nE0 : Nat} {oc0 kV0 dc0 pm0 ct0 ocD0 ocC0 ocT0 ocE kVE dcE pmE cdE ctE ocN kVN dcN pmN cdN ctN ocW kVW dcW pmW cdW ctW ocF kVF dcF pmF cdF ctF ocT kVT dcT pmT cdT ctT ocMi kVMi dcMi pmMi cdMi ctMi ocL kVL dcL pmL cdL ctL ocM kVM dcM pmM cdM ctM ocLo kVLo dcLo pmLo cdLo ctLo ocP kVP dcP pmP cdP ctP ocNu kVNu dcNu pmNu cdNu ctNu ocTr kVTr dcTr pmTr cdTr ctTr ocRs kVRs dcRs pmRs cdRs ctRs ocRw kVRw dcRw pmRw cdRw ctRw ocTh kVTh dcTh pmTh cdTh ctTh ocRf kVRf dcRf pmRf cdRf ctRf ocPa kVPa dcPa pmPa cdPa ctPa ocKe kVKe dcKe pmKe cdKe ctKe ocZ kVZ dcZ pmZ cdZ ctZ ocI kVI dcI pmI cdI ctI : Value} {file0 nm0 q0 : Str} {bs0 bm0 sub0 : List Value} {sn0 : List Str} {ab0 : Bool} {col0 : Option Bool} {k00 k10 k20 k30 k50 : Option Value} (X : K.In h) (G : h.Ns mainGlobals mg) (hfa : mg "law" = some (.ref fa))
    (a0 : PySem.W.nsIn K mainGlobals "InvalidName" = some (some (.ref c0)))
    (n0 : PySem.W.findIn K (.ref c0) "__init__" = some (some (.ref f0)))
    (l0 : K.lookup f0 = some ⟨oc0, od0, .func (fn0 kV0 dc0 pm0 an0 da0 ct0 cc0), sl0⟩)
    (o0 : K.lookup da0 = some ⟨ocD0, odD0, .fields vs0, slD0⟩)
    (v0 : vs0[2]? = some (.str file0 tf0))
    (p0 : ((l.prog.main.file : Str) == file0) = true)
    (d0 : PySem.W.codeIn K (.ref da0) "InvalidName.__init__" = true)
    (x0 : K.lookup cc0 = some ⟨ocC0, odC0, .cell (some (.ref c0)), slC0⟩)
    (h0 : K.lookup c0 = some (PySem.excClassObj nm0 q0 c0 N0 bs0 bm0 true sn0 sub0 ab0 col0 dd0 k00 k10 k20 k30 k50 "ValueError.__new__"))
    (r0 : PySem.HandSPX.refsVE bm0 = true)
    (s0 : supB K c0 f0 "ValueError" "ValueError.__init__" ["name"] = true)
    (e0 : excB K c0 = true)
    (t0 : PySem.W.typeIn K (.ref c0) = some (.type "type"))
    (top : (l.prog.main.scope.names.lookup ("super" : Str)).isSome = false)
    (x0_0 : PySem.W.exmOne K (.ref c0) (.ref c0) = some true)
    (aCc : PySem.W.nsIn K mainGlobals "Deed" = some (some (.ref C)))
    (pgC : PySem.W.plainGet K C Str.empty = true)
    (hdC : PySem.W.hasDictIn K C = true)
    (poC : PySem.W.plainOver K C = true)
    (saC : PySem.W.findIn K (.ref C) "__setattr__" = some (some (.builtin "object.__setattr__")))
    (mkC : PySem.W.makesIn K C = true)
    (kcC : PySem.W.keepIn K (.ref C) = true)
    (n_name : PySem.W.findIn K (.ref C) "name" = some none)
    (n_sayings : PySem.W.findIn K (.ref C) "sayings" = some none)
    (n_choice : PySem.W.findIn K (.ref C) "choice" = some none)
    (n_only : PySem.W.findIn K (.ref C) "only" = some none)
    (n_opened : PySem.W.findIn K (.ref C) "opened" = some none)
    (attA : PySem.W.findIn K (.ref C) "__class__" = some (some (.builtin "object.__class__")))
    (attG : PySem.W.specialIn K (.builtin "object.__class__") "__get__" = some (some (.builtin "getset_descriptor.__get__")))
    (attT : PySem.W.takesIn K (.builtin "object.__class__") = some true)
    (attM : PySem.W.mroIn K C (.type "object") = some true)
    (kCC : PySem.W.kitOne K (.ref C) (.ref C) = some true)
    (kLi : PySem.W.kitOne K (.type "list") (.ref C) = some false)
    (kSt : PySem.W.kitOne K (.type "str") (.ref C) = some false)
    (nfC : PySem.W.notFirst K C (.ref C) = true)
    (nfL : PySem.W.notFirst K C (.type "list") = true)
    (nfS : PySem.W.notFirst K C (.type "str") = true)
    (w_n : PySem.W.kitAny K (.type "NoneType") [.type "list", .type "tuple"] = some false)
    (w_b : PySem.W.kitAny K (.type "bool") [.type "list", .type "tuple"] = some false)
    (w_i : PySem.W.kitAny K (.type "int") [.type "list", .type "tuple"] = some false)
    (w_s : PySem.W.kitAny K (.type "str") [.type "list", .type "tuple"] = some false)
    (w_l : PySem.W.kitAny K (.type "list") [.type "list", .type "tuple"] = some true)
    (w_t : PySem.W.kitAny K (.type "tuple") [.type "list", .type "tuple"] = some true)
    (aI : PySem.W.findIn K (.ref C) "__init__" = some (some (.ref fI)))
    (iI : PySem.W.isFn K (.ref fI) = true)
    (lI : K.lookup fI = some ⟨ocI, odI, .func (PySem.W.fnOf "__init__" "Deed.__init__" (defArgs sDInit) (defBody sDInit) (defScope sDInit) (.ref tDf) kVI dcI pmI anI cdI ctI), slI⟩)
    (cI : PySem.W.codeIn K cdI "Deed.__init__" = true)
    (kI : PySem.W.keepIn K (.ref fI) = true)
    (lDf : K.lookup tDf = some ⟨ocT0, odT0, .seq #[Value.none, Value.ref aE] nT0, slT0⟩)
    (lE0 : K.lookup aE = some ⟨.type "tuple", odE0, .seq #[] nE0, slE0⟩)
    (aE' : PySem.W.findIn K (.ref C) "__eq__" = some (some (.ref fE)))
    (iE : PySem.W.isFn K (.ref fE) = true)
    (lE : K.lookup fE = some ⟨ocE, odE, .func (PySem.W.fnOf "__eq__" "Deed.__eq__" (defArgs sDEq) (defBody sDEq) (defScope sDEq) .none kVE dcE pmE anE cdE ctE), slE⟩)
    (cE : PySem.W.codeIn K cdE "Deed.__eq__" = true)
    (kE : PySem.W.keepIn K (.ref fE) = true)
    (aN : PySem.W.nsIn K mainGlobals "is_name" = some (some (.ref fN)))
    (lN : K.lookup fN = some ⟨ocN, odN, .func (PySem.W.fnOf "is_name" "is_name" (defArgs sIsName) (defBody sIsName) (defScope sIsName) .none kVN dcN pmN anN cdN ctN), slN⟩)
    (cN : PySem.W.codeIn K cdN "is_name" = true)
    (kN : PySem.W.keepIn K (.ref fN) = true)
    (aW : PySem.W.nsIn K mainGlobals "with_tuples" = some (some (.ref fW)))
    (lW : K.lookup fW = some ⟨ocW, odW, .func (PySem.W.fnOf "with_tuples" "with_tuples" (defArgs sWith) (defBody sWith) (defScope sWith) .none kVW dcW pmW anW cdW ctW), slW⟩)
    (cW : PySem.W.codeIn K cdW "with_tuples" = true)
    (kW : PySem.W.keepIn K (.ref fW) = true)
    (aF : PySem.W.nsIn K mainGlobals "_law_feed" = some (some (.ref fF)))
    (lF : K.lookup fF = some ⟨ocF, odF, .func (PySem.W.fnOf "_law_feed" "_law_feed" (defArgs sFeed) (defBody sFeed) (defScope sFeed) .none kVF dcF pmF anF cdF ctF), slF⟩)
    (cF : PySem.W.codeIn K cdF "_law_feed" = true)
    (kF : PySem.W.keepIn K (.ref fF) = true)
    (aT : PySem.W.nsIn K mainGlobals "_law_take" = some (some (.ref fT)))
    (lT : K.lookup fT = some ⟨ocT, odT, .func (PySem.W.fnOf "_law_take" "_law_take" (defArgs sTake) (defBody sTake) (defScope sTake) .none kVT dcT pmT anT cdT ctT), slT⟩)
    (cT : PySem.W.codeIn K cdT "_law_take" = true)
    (kT : PySem.W.keepIn K (.ref fT) = true)
    (aMi : PySem.W.nsIn K mainGlobals "_law_mixed" = some (some (.ref fMi)))
    (lMi : K.lookup fMi = some ⟨ocMi, odMi, .func (PySem.W.fnOf "_law_mixed" "_law_mixed" (defArgs sMixed) (defBody sMixed) (defScope sMixed) .none kVMi dcMi pmMi anMi cdMi ctMi), slMi⟩)
    (cMi : PySem.W.codeIn K cdMi "_law_mixed" = true)
    (kMi : PySem.W.keepIn K (.ref fMi) = true)
    (aL : PySem.W.nsIn K mainGlobals "_law_titles" = some (some (.ref fL)))
    (lL : K.lookup fL = some ⟨ocL, odL, .func (PySem.W.fnOf "_law_titles" "_law_titles" (defArgs sTitles) (defBody sTitles) (defScope sTitles) .none kVL dcL pmL anL cdL ctL), slL⟩)
    (cL : PySem.W.codeIn K cdL "_law_titles" = true)
    (kL : PySem.W.keepIn K (.ref fL) = true)
    (aM : PySem.W.nsIn K mainGlobals "_law_same" = some (some (.ref fM)))
    (lM : K.lookup fM = some ⟨ocM, odM, .func (PySem.W.fnOf "_law_same" "_law_same" (defArgs sSame) (defBody sSame) (defScope sSame) .none kVM dcM pmM anM cdM ctM), slM⟩)
    (cM : PySem.W.codeIn K cdM "_law_same" = true)
    (kM : PySem.W.keepIn K (.ref fM) = true)
    (aLo : PySem.W.nsIn K mainGlobals "_law_lore" = some (some (.ref fLo)))
    (lLo : K.lookup fLo = some ⟨ocLo, odLo, .func (PySem.W.fnOf "_law_lore" "_law_lore" (defArgs sLore) (defBody sLore) (defScope sLore) .none kVLo dcLo pmLo anLo cdLo ctLo), slLo⟩)
    (cLo : PySem.W.codeIn K cdLo "_law_lore" = true)
    (kLo : PySem.W.keepIn K (.ref fLo) = true)
    (aP : PySem.W.nsIn K mainGlobals "_law_pick" = some (some (.ref fP)))
    (lP : K.lookup fP = some ⟨ocP, odP, .func (PySem.W.fnOf "_law_pick" "_law_pick" (defArgs sPick) (defBody sPick) (defScope sPick) .none kVP dcP pmP anP cdP ctP), slP⟩)
    (cP : PySem.W.codeIn K cdP "_law_pick" = true)
    (kP : PySem.W.keepIn K (.ref fP) = true)
    (aNu : PySem.W.nsIn K mainGlobals "_law_number_of" = some (some (.ref fNu)))
    (lNu : K.lookup fNu = some ⟨ocNu, odNu, .func (PySem.W.fnOf "_law_number_of" "_law_number_of" (defArgs sNum) (defBody sNum) (defScope sNum) .none kVNu dcNu pmNu anNu cdNu ctNu), slNu⟩)
    (cNu : PySem.W.codeIn K cdNu "_law_number_of" = true)
    (kNu : PySem.W.keepIn K (.ref fNu) = true)
    (aTr : PySem.W.nsIn K mainGlobals "_law_truth_of" = some (some (.ref fTr)))
    (lTr : K.lookup fTr = some ⟨ocTr, odTr, .func (PySem.W.fnOf "_law_truth_of" "_law_truth_of" (defArgs sTru) (defBody sTru) (defScope sTru) .none kVTr dcTr pmTr anTr cdTr ctTr), slTr⟩)
    (cTr : PySem.W.codeIn K cdTr "_law_truth_of" = true)
    (kTr : PySem.W.keepIn K (.ref fTr) = true)
    (aRs : PySem.W.nsIn K mainGlobals "_law_rows_of" = some (some (.ref fRs)))
    (lRs : K.lookup fRs = some ⟨ocRs, odRs, .func (PySem.W.fnOf "_law_rows_of" "_law_rows_of" (defArgs sRows) (defBody sRows) (defScope sRows) .none kVRs dcRs pmRs anRs cdRs ctRs), slRs⟩)
    (cRs : PySem.W.codeIn K cdRs "_law_rows_of" = true)
    (kRs : PySem.W.keepIn K (.ref fRs) = true)
    (aRw : PySem.W.nsIn K mainGlobals "_law_table_row" = some (some (.ref fRw)))
    (lRw : K.lookup fRw = some ⟨ocRw, odRw, .func (PySem.W.fnOf "_law_table_row" "_law_table_row" (defArgs sRow) (defBody sRow) (defScope sRow) .none kVRw dcRw pmRw anRw cdRw ctRw), slRw⟩)
    (cRw : PySem.W.codeIn K cdRw "_law_table_row" = true)
    (kRw : PySem.W.keepIn K (.ref fRw) = true)
    (aTh : PySem.W.nsIn K mainGlobals "_law_thawed" = some (some (.ref fTh)))
    (lTh : K.lookup fTh = some ⟨ocTh, odTh, .func (PySem.W.fnOf "_law_thawed" "_law_thawed" (defArgs sThaw) (defBody sThaw) (defScope sThaw) .none kVTh dcTh pmTh anTh cdTh ctTh), slTh⟩)
    (cTh : PySem.W.codeIn K cdTh "_law_thawed" = true)
    (kTh : PySem.W.keepIn K (.ref fTh) = true)
    (aRf : PySem.W.nsIn K mainGlobals "_law_refused" = some (some (.ref fRf)))
    (lRf : K.lookup fRf = some ⟨ocRf, odRf, .func (PySem.W.fnOf "_law_refused" "_law_refused" (defArgs sRef) (defBody sRef) (defScope sRef) .none kVRf dcRf pmRf anRf cdRf ctRf), slRf⟩)
    (cRf : PySem.W.codeIn K cdRf "_law_refused" = true)
    (kRf : PySem.W.keepIn K (.ref fRf) = true)
    (aPa : PySem.W.nsIn K mainGlobals "_law_parts" = some (some (.ref fPa)))
    (lPa : K.lookup fPa = some ⟨ocPa, odPa, .func (PySem.W.fnOf "_law_parts" "_law_parts" (defArgs sParts) (defBody sParts) (defScope sParts) .none kVPa dcPa pmPa anPa cdPa ctPa), slPa⟩)
    (cPa : PySem.W.codeIn K cdPa "_law_parts" = true)
    (kPa : PySem.W.keepIn K (.ref fPa) = true)
    (aKe : PySem.W.nsIn K mainGlobals "_law_kept" = some (some (.ref fKe)))
    (lKe : K.lookup fKe = some ⟨ocKe, odKe, .func (PySem.W.fnOf "_law_kept" "_law_kept" (defArgs sKept) (defBody sKept) (defScope sKept) .none kVKe dcKe pmKe anKe cdKe ctKe), slKe⟩)
    (cKe : PySem.W.codeIn K cdKe "_law_kept" = true)
    (kKe : PySem.W.keepIn K (.ref fKe) = true)
    (aZ : PySem.W.nsIn K mainGlobals "law" = some (some (.ref fZ)))
    (lZ : K.lookup fZ = some ⟨ocZ, odZ, .func (PySem.W.fnOf "law" "law" (defArgs sLaw) (defBody sLaw) (defScope sLaw) .none kVZ dcZ pmZ anZ cdZ ctZ), slZ⟩)
    (cZ : PySem.W.codeIn K cdZ "law" = true)
    (kZ : PySem.W.keepIn K (.ref fZ) = true)
    (z_super : PySem.W.nsIn K mainGlobals "super" = some none)
    (z_range : PySem.W.nsIn K mainGlobals "range" = some none)
    (z_max : PySem.W.nsIn K mainGlobals "max" = some none)
    (z_min : PySem.W.nsIn K mainGlobals "min" = some none)
    (z_len : PySem.W.nsIn K mainGlobals "len" = some none)
    (z_isinstance : PySem.W.nsIn K mainGlobals "isinstance" = some none)
    (z_int : PySem.W.nsIn K mainGlobals "int" = some none)
    (z_tuple : PySem.W.nsIn K mainGlobals "tuple" = some none)
    (z_list : PySem.W.nsIn K mainGlobals "list" = some none)
    (z_dict : PySem.W.nsIn K mainGlobals "dict" = some none)
    (z_zip : PySem.W.nsIn K mainGlobals "zip" = some none)
    (z_str : PySem.W.nsIn K mainGlobals "str" = some none)
    (z_repr : PySem.W.nsIn K mainGlobals "repr" = some none)
    (z_abs : PySem.W.nsIn K mainGlobals "abs" = some none)
    (z_all : PySem.W.nsIn K mainGlobals "all" = some none)
    (gLe : PySem.W.nsIn K mainGlobals "LETTERS" = some (some (.str letters tL)))
    (gDi : PySem.W.nsIn K mainGlobals "DIGITS" = some (some (.str digits tD)))
    (gMo : PySem.W.nsIn K mainGlobals "MOST_SIGNS" = some (some (.int 6 tM))) :
    ∃ fd : FuncData, (∀ (s : Shared) (v : Value), BindsTo s fd ⟨[v], []⟩ [("_law_script", v)]) ∧ ∀ base : Heap, K.In base → base.Ns mainGlobals mg → FnG l.prog w K mg base CX0 26 fa fd ["_law_script"] (spLaw K) := by
  have e := hfa.symm.trans (PySem.W.mg_of X G aZ)
  cases e
  have mS := PySem.W.mg_none_of X G z_super
  have z : Zn mg := ⟨PySem.W.mg_none_of X G z_range, PySem.W.mg_none_of X G z_max, PySem.W.mg_none_of X G z_min, PySem.W.mg_none_of X G z_len, PySem.W.mg_none_of X G z_isinstance, PySem.W.mg_none_of X G z_int, PySem.W.mg_none_of X G z_tuple, PySem.W.mg_none_of X G z_list, PySem.W.mg_none_of X G z_dict, PySem.W.mg_none_of X G z_zip, PySem.W.mg_none_of X G z_str, PySem.W.mg_none_of X G z_repr, PySem.W.mg_none_of X G z_abs, PySem.W.mg_none_of X G z_all⟩
  have I0 : InK K l.prog c0 f0 cc0 da0 (fn0 kV0 dc0 pm0 an0 da0 ct0 cc0) "InvalidName.__init__" := ⟨⟨oc0, od0, sl0, l0⟩, ⟨ocD0, odD0, vs0, slD0, file0, tf0, o0, v0, p0⟩, d0, top, ⟨ocC0, odC0, slC0, x0⟩⟩
  have E0' := err0 I0 s0 e0 h0 r0 mS (PySem.W.mg_of X G a0)
  have FE := fun_mk (st := sDEq) lE cE kE
  have bE := FE.binds (ps := ["self", "other"]) fun _ _ _ _ _ _ us hl => match us, hl with | [_, _], _ => rfl
  have FN := fun_mk (st := sIsName) lN cN kN
  have bN := FN.binds (ps := ["value"]) fun _ _ _ _ _ _ us hl => match us, hl with | [_], _ => rfl
  have FW := fun_mk (st := sWith) lW cW kW
  have bW := FW.binds (ps := ["value"]) fun _ _ _ _ _ _ us hl => match us, hl with | [_], _ => rfl
  have FF := fun_mk (st := sFeed) lF cF kF
  have bF := FF.binds (ps := ["_law_script", "_law_k"]) fun _ _ _ _ _ _ us hl => match us, hl with | [_, _], _ => rfl
  have FT := fun_mk (st := sTake) lT cT kT
  have bT := FT.binds (ps := ["_law_feed_here", "_law_many"]) fun _ _ _ _ _ _ us hl => match us, hl with | [_, _], _ => rfl
  have FMi := fun_mk (st := sMixed) lMi cMi kMi
  have bMi := FMi.binds (ps := ["_law_feed_here", "_law_some"]) fun _ _ _ _ _ _ us hl => match us, hl with | [_, _], _ => rfl
  have FL := fun_mk (st := sTitles) lL cL kL
  have bL := FL.binds (ps := ["_law_feed_here", "_law_many"]) fun _ _ _ _ _ _ us hl => match us, hl with | [_, _], _ => rfl
  have FM := fun_mk (st := sSame) lM cM kM
  have bM := FM.binds (ps := ["_law_one", "_law_other"]) fun _ _ _ _ _ _ us hl => match us, hl with | [_, _], _ => rfl
  have FLo := fun_mk (st := sLore) lLo cLo kLo
  have bLo := FLo.binds (ps := ["_law_feed_here", "_law_most"]) fun _ _ _ _ _ _ us hl => match us, hl with | [_, _], _ => rfl
  have FP := fun_mk (st := sPick) lP cP kP
  have bP := FP.binds (ps := ["_law_feed_here", "_law_some"]) fun _ _ _ _ _ _ us hl => match us, hl with | [_, _], _ => rfl
  have FNu := fun_mk (st := sNum) lNu cNu kNu
  have bNu := FNu.binds (ps := ["_law_feed_here", "_law_lore_here", "_law_deep"]) fun _ _ _ _ _ _ us hl => match us, hl with | [_, _, _], _ => rfl
  have FTr := fun_mk (st := sTru) lTr cTr kTr
  have bTr := FTr.binds (ps := ["_law_feed_here", "_law_lore_here", "_law_deep"]) fun _ _ _ _ _ _ us hl => match us, hl with | [_, _, _], _ => rfl
  have FRs := fun_mk (st := sRows) lRs cRs kRs
  have bRs := FRs.binds (ps := ["_law_feed_here", "_law_lore_here", "_law_many", "_law_deep"]) fun _ _ _ _ _ _ us hl => match us, hl with | [_, _, _, _], _ => rfl
  have FRw := fun_mk (st := sRow) lRw cRw kRw
  have bRw := FRw.binds (ps := ["_law_feed_here", "_law_lore_here", "_law_form"]) fun _ _ _ _ _ _ us hl => match us, hl with | [_, _, _], _ => rfl
  have FTh := fun_mk (st := sThaw) lTh cTh kTh
  have bTh := FTh.binds (ps := ["_law_feed_here", "_law_thing"]) fun _ _ _ _ _ _ us hl => match us, hl with | [_, _], _ => rfl
  have FRf := fun_mk (st := sRef) lRf cRf kRf
  have bRf := FRf.binds (ps := ["_law_title"]) fun _ _ _ _ _ _ us hl => match us, hl with | [_], _ => rfl
  have FPa := fun_mk (st := sParts) lPa cPa kPa
  have bPa := FPa.binds (ps := ["_law_feed_here", "_law_lore_here"]) fun _ _ _ _ _ _ us hl => match us, hl with | [_, _], _ => rfl
  have FKe := fun_mk (st := sKept) lKe cKe kKe
  have bKe := FKe.binds (ps := ["_law_deed"]) fun _ _ _ _ _ _ us hl => match us, hl with | [_], _ => rfl
  have FZ := fun_mk (st := sLaw) lZ cZ kZ
  have gN := PySem.W.mg_of X G aN
  have gW := PySem.W.mg_of X G aW
  have gF := PySem.W.mg_of X G aF
  have gT := PySem.W.mg_of X G aT
  have gMi := PySem.W.mg_of X G aMi
  have gL := PySem.W.mg_of X G aL
  have gM := PySem.W.mg_of X G aM
  have gLo := PySem.W.mg_of X G aLo
  have gP := PySem.W.mg_of X G aP
  have gNu := PySem.W.mg_of X G aNu
  have gTr := PySem.W.mg_of X G aTr
  have gRs := PySem.W.mg_of X G aRs
  have gRw := PySem.W.mg_of X G aRw
  have gTh := PySem.W.mg_of X G aTh
  have gRf := PySem.W.mg_of X G aRf
  have gPa := PySem.W.mg_of X G aPa
  have gKe := PySem.W.mg_of X G aKe
  have gZ := PySem.W.mg_of X G aZ
  have FI : FunD K "__init__" "Deed.__init__" (defArgs sDInit) (defBody sDInit) (defScope sDInit) [.non, .ref aE] [] fI _ := ⟨⟨ocI, odI, .ref tDf, kVI, dcI, pmI, anI, cdI, ctI, slI, rfl, lI, cI, .inr ⟨List.cons_ne_nil _ _, tDf, _, [Value.none, Value.ref aE], nT0, rfl, lDf, rfl, .cons rfl (.cons rfl .nil)⟩, .inl rfl⟩, kI⟩
  obtain ⟨ds4, v4, b4⟩ := FI.binds1 (ps := ND) 5 2 (List.cons_ne_nil _ _) rfl fun T kV doc pm an cdv ct us its h1 h2 => match us, its, h1, h2 with | [_, _, _, _, _], [_, _], _, _ => ⟨_, rfl, rfl⟩
  cases v4
  obtain ⟨ds2, v2, b2⟩ := FI.binds1 (ps := ND) 3 0 (List.cons_ne_nil _ _) rfl fun T kV doc pm an cdv ct us its h1 h2 => match us, its, h1, h2 with | [_, _, _], [_, _], _, _ => ⟨_, rfl, rfl⟩
  have M : Mk K C fI := ⟨mkC, aI, iI, kcC⟩
  have T : Txt l.prog K mg C c0 f0 := ⟨⟨pgC, hdC, poC, saC⟩, n_name, n_sayings, n_choice, n_only, n_opened, PySem.W.mg_of X G aCc, E0', t0⟩
  have TE : TxE K mg C := ⟨attA, attG, attT, attM, kCC, kLi, kSt, z.isi⟩
  have KW : KitW K := ⟨w_n, w_b, w_i, w_s, w_l, w_t⟩
  have qE : ∀ H, SqT K H aE [] := fun H => .inr ⟨_, #[], nE0, lE0, rfl, rfl, Nat.zero_le _, .nil⟩
  refine ⟨PySem.W.fnOf "law" "law" (defArgs sLaw) (defBody sLaw) (defScope sLaw) .none kVZ dcZ pmZ anZ cdZ ctZ, fun s v => .of_eq rfl, fun base _ _ => ?_⟩
  have rL : ∃ u, mg "LETTERS" = some u ∧ RelV (.str letters) u := ⟨_, PySem.W.mg_of X G gLe, ⟨_, rfl⟩⟩
  have rD : ∃ u, mg "DIGITS" = some u ∧ RelV (.str digits) u := ⟨_, PySem.W.mg_of X G gDi, ⟨_, rfl⟩⟩
  have UN : Use l.prog w K mg base "is_name" 1 fN _ ["value"] (spIsName K) := ⟨ok_isname FN z.isi z.str z.len z.all_ rL rD ⟨_, PySem.W.mg_of X G gMo, ⟨_, rfl⟩⟩ (kit_ty (by decide +kernel)), gN, FN.kp, bN⟩
  have UW : Use l.prog w K mg base "with_tuples" 22 fW _ ["value"] (spWith K 22) := ⟨ok_with FW bW gW KW z.isi z.tup z.lst 22, gW, FW.kp, bW⟩
  have GI := ok_dinit FI T UN UW
  have OE : OwnEq l.prog w K mg base C fE _ := ⟨ok_deq FE T TE, bE, aE', iE, nfC, nfL, nfS⟩
  have UF : Use l.prog w K mg base "_law_feed" 1 fF _ ["_law_script", "_law_k"] (spFeed K) := ⟨ok_feed FF z.len z.abs_, gF, FF.kp, bF⟩
  have UT : Use l.prog w K mg base "_law_take" 1 fT _ ["_law_feed_here", "_law_many"] spTake := ⟨ok_take FT, gT, FT.kp, bT⟩
  have UTk : Use l.prog w K mg base "_law_take" 1 fT _ ["_law_feed_here", "_law_many"] spTk := ⟨by rw [spTk_eq]; exact ok_take FT, gT, FT.kp, bT⟩
  have UP : Use l.prog w K mg base "_law_pick" 2 fP _ ["_law_feed_here", "_law_some"] (spPick K) := ⟨ok_pick FP FT bT gT z.len, gP, FP.kp, bP⟩
  have UL : Use l.prog w K mg base "_law_titles" 3 fL _ ["_law_feed_here", "_law_many"] (spTitles G12) := ⟨ok_titles (G := G12) FL FT bT gT FMi bMi gMi z.lst z.rng z.len z.int z.str (fun m ts hm _ e => by omega) (fun m s _ hs => g_of tb0 m s hs _ (List.Perm.refl _)) (fun m s ts _ hs p => g_of tb1 m s hs ts p) (fun m s ts _ hs p => g_of tb2 m s hs ts p) (fun m s ts _ hs p => g_of tb3 m s hs ts p), gL, FL.kp, bL⟩
  have ULo : Use l.prog w K mg base "_law_lore" 4 fLo _ pLo (spLore K) := ⟨ok_lore z FLo UP UT UL, gLo, FLo.kp, bLo⟩
  have UN0 : Use l.prog w K mg base "_law_number_of" 3 fNu _ pFL (spDraw K 0 (R61.dN 0) (R61.cN 0)) := ⟨ok_num0 FNu UP UT, gNu, FNu.kp, bNu⟩
  have UT0 : Use l.prog w K mg base "_law_truth_of" 4 fTr _ pFL (spDraw K 0 (R61.dT 0) (R61.cT 0)) := ⟨ok_tru 0 FTr UP UTk UN0 UN0 UN0 ⟨none_fn, gTr, FTr.kp, bTr⟩, gTr, FTr.kp, bTr⟩
  have UN1 : Use l.prog w K mg base "_law_number_of" 5 fNu _ pFL (spDraw K 1 (R61.dN 1) (R61.cN 1)) := ⟨ok_numS 0 z FNu UP UTk UN0 UT0 UN0 UT0, gNu, FNu.kp, bNu⟩
  have UT1 : Use l.prog w K mg base "_law_truth_of" 6 fTr _ pFL (spDraw K 1 (R61.dT 1) (R61.cT 1)) := ⟨ok_tru 1 FTr UP UTk UN0 UN1 (UN0.mono (by decide)) (UT0.mono (by decide)), gTr, FTr.kp, bTr⟩
  have UN2 : Use l.prog w K mg base "_law_number_of" 7 fNu _ pFL (spDraw K 2 (R61.dN 2) (R61.cN 2)) := ⟨ok_numS 1 z FNu UP UTk UN0 UT0 UN1 UT1, gNu, FNu.kp, bNu⟩
  have UT2 : Use l.prog w K mg base "_law_truth_of" 8 fTr _ pFL (spDraw K 2 (R61.dT 2) (R61.cT 2)) := ⟨ok_tru 2 FTr UP UTk UN0 UN2 (UN1.mono (by decide)) (UT1.mono (by decide)), gTr, FTr.kp, bTr⟩
  have URw : Use l.prog w K mg base "_law_table_row" 6 fRw _ pRow (spRow K) := ⟨ok_row z FRw UP UTk UN0 UN1, gRw, FRw.kp, bRw⟩
  have UR0 : Use l.prog w K mg base "_law_rows_of" 9 fRs _ pRs (spRows K 0) := ⟨ok_rows 0 z FRs UP UTk UN1 UN2 UT1 UT2 URw ⟨none_fn, gRs, FRs.kp, bRs⟩ ⟨none_fn, gRs, FRs.kp, bRs⟩, gRs, FRs.kp, bRs⟩
  have UR1 : Use l.prog w K mg base "_law_rows_of" 10 fRs _ pRs (spRows K 1) := ⟨ok_rows 1 z FRs UP UTk UN1 UN2 UT1 UT2 URw UR0 UR0, gRs, FRs.kp, bRs⟩
  have UR2 : Use l.prog w K mg base "_law_rows_of" 11 fRs _ pRs (spRows K 2) := ⟨ok_rows 2 z FRs UP UTk UN1 UN2 UT1 UT2 URw UR1 (UR0.mono (by decide)), gRs, FRs.kp, bRs⟩
  have UPa : Use l.prog w K mg base "_law_parts" 12 fPa _ pPa (spParts K) := ⟨ok_parts z FPa UP UTk UR2, gPa, FPa.kp, bPa⟩
  have UTh : Use l.prog w K mg base "_law_thawed" 22 fTh _ ["_law_feed_here", "_law_thing"] (spThaw K 21) := ⟨ok_thaw FTh bTh gTh FT bT gT z.isi z.tup 21, gTh, FTh.kp, bTh⟩
  have UK : Use l.prog w K mg base "_law_kept" 1 fKe _ ["_law_deed"] (spKept C) := ⟨ok_kept FKe T, gKe, FKe.kp, bKe⟩
  have URe : Use l.prog w K mg base "_law_refused" 25 fRf _ ["_law_title"] spRef := ⟨ok_ref FRf T x0_0 M GI b2 v2 qE, gRf, FRf.kp, bRf⟩
  have GM := ok_same (P := l.prog) (w := w) (base := base) FM z.rep
  exact ok_law FZ T TE z UF ULo UPa UTk UP UTh UK URe GM FM.kp bM gM M GI b4 b2 v2 qE OE
theorem walk {l : PySem.W.OpenLaw} {q : Program} {loose : List Str} {XP : (Str → Option Value) → Heap → Prop} {YP : World → Heap → Prop} {d : DefRec} {K : Params → PySem.W.Frag} (hn : l.most = some 63) (hdf : d.params.defaults = [])
    (hY : ∀ (w : World) (h : Heap), YP w h → (K w.params).In h)
    (F : ∀ (w : World) (mg : Str → Option Value) (fa : Addr) (h : Heap), (K w.params).In h → h.Ns mainGlobals mg → mg d.name = some (.ref fa) →
      ∃ fd : FuncData, (∀ (s : Shared) (u : Value), BindsTo s fd ⟨[u], []⟩ [("_law_script", u)]) ∧ ∀ base : Heap, (K w.params).In base → base.Ns mainGlobals mg → FnG l.prog w (K w.params) mg base CX0 26 fa fd ["_law_script"] (spLaw (K w.params))) :
    PySem.W.WalkO q loose XP YP l.row.toRowW d [] (fun f vs => PySem.call f vs) :=
  walk_ofG (n := 63) (k := 26) (x := "_law_script") (CX := fun _ => CX0) (sp := fun w => spLaw (K w.params)) hn (by decide) hdf ⟨rfl, by decide, by decide⟩ hY F (fun _ _ a ns hl _ hS => ⟨a, ns, rfl, hS, hl, fun _ => rfl⟩) fun _ _ _ _ _ z => z
end R61

open PySem PySem.W PyProof.Rows
set_option maxRecDepth 100000 in
set_option maxHeartbeats 0 in
theorem PySem.Challenge.cw_hadnot_k61_deeds_holds : PySem.Challenge.rw_hadnot_k61_deeds.Holds := by
  w_on; o_law; k_head; (case hw => w_witness2)
  k_fill
  refine R61.walk (l := PySem.Challenge.rw_hadnot_k61_deeds) rfl rfl (fun w h Y => PySem.W.kIn_of Y) ?F
  case F =>
    intro w mg fa h KX G hmg
    refine' R61.all_mk KX G hmg ?a0 ?n0 ?l0 ?o0 ?v0 ?p0 ?d0 ?x0 ?h0 ?r0 ?s0 ?e0 ?t0 ?top ?x0_0 ?aCc ?pgC ?hdC ?poC ?saC ?mkC ?kcC ?n_name ?n_sayings ?n_choice ?n_only ?n_opened ?attA ?attG ?attT ?attM ?kCC ?kLi ?kSt ?nfC ?nfL ?nfS ?w_n ?w_b ?w_i ?w_s ?w_l ?w_t ?aI ?iI ?lI ?cI ?kI ?lDf ?lE0 ?aE' ?iE ?lE ?cE ?kE ?aN ?lN ?cN ?kN ?aW ?lW ?cW ?kW ?aF ?lF ?cF ?kF ?aT ?lT ?cT ?kT ?aMi ?lMi ?cMi ?kMi ?aL ?lL ?cL ?kL ?aM ?lM ?cM ?kM ?aLo ?lLo ?cLo ?kLo ?aP ?lP ?cP ?kP ?aNu ?lNu ?cNu ?kNu ?aTr ?lTr ?cTr ?kTr ?aRs ?lRs ?cRs ?kRs ?aRw ?lRw ?cRw ?kRw ?aTh ?lTh ?cTh ?kTh ?aRf ?lRf ?cRf ?kRf ?aPa ?lPa ?cPa ?kPa ?aKe ?lKe ?cKe ?kKe ?aZ ?lZ ?cZ ?kZ ?z_super ?z_range ?z_max ?z_min ?z_len ?z_isinstance ?z_int ?z_tuple ?z_list ?z_dict ?z_zip ?z_str ?z_repr ?z_abs ?z_all ?gLe ?gDi ?gMo
    (case a0 => k_is)
    (case n0 => k_is)
    (case l0 => k_is)
    (case o0 => k_is)
    (case v0 => rfl)
    (case p0 => first | rfl | decide +kernel | kernel_rfl)
    (case d0 => k_is)
    (case x0 => k_is)
    (case h0 => k_is)
    (case r0 => first | rfl | decide +kernel)
    (case s0 => kernel_rfl)
    (case e0 => kernel_rfl)
    (case t0 => first | k_is | kernel_rfl | decide +kernel)
    (case top => first | rfl | decide +kernel | kernel_rfl)
    (case x0_0 => kernel_rfl)
    (case aCc => k_is)
    (case pgC => k_is)
    (case hdC => k_is)
    (case poC => k_is)
    (case saC => k_is)
    (case mkC => k_is)
    (case kcC => k_is)
    (case n_name => k_is)
    (case n_sayings => k_is)
    (case n_choice => k_is)
    (case n_only => k_is)
    (case n_opened => k_is)
    (case attA => k_is)
    (case attG => k_is)
    (case attT => k_is)
    (case attM => k_is)
    (case kCC => kernel_rfl)
    (case kLi => kernel_rfl)
    (case kSt => kernel_rfl)
    (case nfC => kernel_rfl)
    (case nfL => kernel_rfl)
    (case nfS => kernel_rfl)
    (case w_n => first | kernel_rfl | k_is | decide +kernel)
    (case w_b => first | kernel_rfl | k_is | decide +kernel)
    (case w_i => first | kernel_rfl | k_is | decide +kernel)
    (case w_s => first | kernel_rfl | k_is | decide +kernel)
    (case w_l => first | kernel_rfl | k_is | decide +kernel)
    (case w_t => first | kernel_rfl | k_is | decide +kernel)
    (case aI => k_is)
    (case iI => k_is)
    (case lI => k_is)
    (case cI => k_is)
    (case kI => k_is)
    (case lDf => k_is)
    (case lE0 => k_is)
    (case aE' => k_is)
    (case iE => k_is)
    (case lE => k_is)
    (case cE => k_is)
    (case kE => k_is)
    (case aN => k_is)
    (case lN => k_is)
    (case cN => k_is)
    (case kN => k_is)
    (case aW => k_is)
    (case lW => k_is)
    (case cW => k_is)
    (case kW => k_is)
    (case aF => k_is)
    (case lF => k_is)
    (case cF => k_is)
    (case kF => k_is)
    (case aT => k_is)
    (case lT => k_is)
    (case cT => k_is)
    (case kT => k_is)
    (case aMi => k_is)
    (case lMi => k_is)
    (case cMi => k_is)
    (case kMi => k_is)
    (case aL => k_is)
    (case lL => k_is)
    (case cL => k_is)
    (case kL => k_is)
    (case aM => k_is)
    (case lM => k_is)
    (case cM => k_is)
    (case kM => k_is)
    (case aLo => k_is)
    (case lLo => k_is)
    (case cLo => k_is)
    (case kLo => k_is)
    (case aP => k_is)
    (case lP => k_is)
    (case cP => k_is)
    (case kP => k_is)
    (case aNu => k_is)
    (case lNu => k_is)
    (case cNu => k_is)
    (case kNu => k_is)
    (case aTr => k_is)
    (case lTr => k_is)
    (case cTr => k_is)
    (case kTr => k_is)
    (case aRs => k_is)
    (case lRs => k_is)
    (case cRs => k_is)
    (case kRs => k_is)
    (case aRw => k_is)
    (case lRw => k_is)
    (case cRw => k_is)
    (case kRw => k_is)
    (case aTh => k_is)
    (case lTh => k_is)
    (case cTh => k_is)
    (case kTh => k_is)
    (case aRf => k_is)
    (case lRf => k_is)
    (case cRf => k_is)
    (case kRf => k_is)
    (case aPa => k_is)
    (case lPa => k_is)
    (case cPa => k_is)
    (case kPa => k_is)
    (case aKe => k_is)
    (case lKe => k_is)
    (case cKe => k_is)
    (case kKe => k_is)
    (case aZ => k_is)
    (case lZ => k_is)
    (case cZ => k_is)
    (case kZ => k_is)
    (case z_super => k_is)
    (case z_range => k_is)
    (case z_max => k_is)
    (case z_min => k_is)
    (case z_len => k_is)
    (case z_isinstance => k_is)
    (case z_int => k_is)
    (case z_tuple => k_is)
    (case z_list => k_is)
    (case z_dict => k_is)
    (case z_zip => k_is)
    (case z_str => k_is)
    (case z_repr => k_is)
    (case z_abs => k_is)
    (case z_all => k_is)
    (case gLe => k_is)
    (case gDi => k_is)
    (case gMo => k_is)
