import PyProof.Rows.All
import Wide.All
import OpenK.AllK
import Wide.FinOn
import HandS.ForMost
import HandS.ForExc
import HandS.Wide
import HandS.Gcd
import HandS.FStr
import HandS.StrMore
import HandS.IsInst
import HandS.Small
import HandS.CallSlots
import HandS.Flow
import HandS.Codes
import PyProof.ReprRoads
import HandS.RaiseMore
import HandS.ExcInit
import HandS.ExcIs
import HandS.ExcSuper
import KE.KExcSuper
import KE.KSuper
import HandS.ExcValue
import HandS.ExcField
import OpenK.KMeth
import OpenK.KOps
import HandS.TryMany
import HandS.DictComp
import HandS.Walk
import HandS.Star
import HandS.DictEq
import HandS.Defaults
import HandS.JoinGen
import HandS.List
import HandS.Conv
import HandS.Style
import PySem.Challenge.RW_hadnot_k04_choices
set_option Elab.async false
set_option linter.all false
set_option maxRecDepth 100000
set_option maxHeartbeats 4000000
namespace L3
open PySem PySem.Spec PyProof.Rows L2

/-! ### numbers -/
def CDivNW (_ j : Int) : Prop := j ≠ 0 ∧ j.natAbs.log2 < 9000
theorem op_fdivNW {X : Cx} : OpR X (binaryOp .FloorDiv) (rI CDivNW fun i j => .int (i.fdiv j)) :=
  opI fun _ _ _ _ _ _ _ hc q => floordiv_int hc.1 q (.inl (PyProof.noPylong_of_log2 hc.2))

/-! ### operators of an own class -/
section
variable {X : Cx} {CX : CXT} {C f : Addr} {fd : FuncData} {ps : List Str} {sp : Sp} {E : XK} {n : Nat} {pins : List (Addr × Obj)} {σ : L2.St}
theorem back_of {Q : VK} {v : Value} {s' : Shared} (h : EP X pins σ Q v s') : PySem.W.CmpBack (EP X pins σ Q) v s' := by
  obtain ⟨x, H', I, r, q⟩ := id h
  cases x with
  | non => cases r; exact h
  | bl b => cases r; exact h
  | int i => obtain ⟨t, rfl⟩ := r; exact h
  | str i => obtain ⟨t, rfl⟩ := r; exact h
  | byt i => obtain ⟨t, rfl⟩ := r; exact h
  | flt i => obtain ⟨t, rfl⟩ := r; exact h
  | ref a => cases r; exact h
  | ty n => cases r; exact h
/-- one op other, both instances of the class at C -/
def rOwn2 (C : Addr) (sp : Sp) (E : XK) : R2 := fun x y H Q => ∃ a b dx dy fs gs, x = .ref a ∧ y = .ref b ∧ H a = some (.ins C dx fs) ∧ H b = some (.ins C dy gs) ∧ sp [x, y] H Q E
theorem op_own2 {op : Operator} (F : FnOk X.prog X.w X.K X.mg X.base CX n f fd ps sp) (hr : Room n X.A) (hb : Binds X.K fd ps []) (hx : Passes CX X E)
    (hc : PySem.W.selfFirst X.K C = true) (hs : PySem.W.findIn X.K (.ref C) (PySem.dunder op.info.2) = some (some (.ref f))) (hf : PySem.W.isFn X.K (.ref f) = true) :
    OpR X (binaryOp op) (rOwn2 C sp E) := by
  intro pins s σ H x y v u Q I rx ry h
  obtain ⟨a, b, dx, dy, fs, gs, rfl, rfl, ha, hb', hq⟩ := h
  cases rx
  cases ry
  obtain ⟨mA, J, _⟩ := ins_get I.hok ha
  obtain ⟨mB, J', _⟩ := ins_get I.hok hb'
  obtain ⟨od, J, _⟩ := J.look
  obtain ⟨od', J', _⟩ := J'.look
  obtain ⟨m, hF⟩ := I.fr
  refine PySem.W.binop_K hF I.ok.mod.kin J J'.type hc hs hf ?_
  exact wpAny_mono (run_fn (us := [.ref a, .ref b]) (vs := [.ref a, .ref b]) F hr hb .nil hx I (.cons rfl (.cons rfl .nil)) (by simpa using hq)) (fun v s' hv => back_of hv) fun _ _ e => e
/-- -one -/
def rOwn1 (C : Addr) (sp : Sp) (E : XK) : V → Hp → VK → Prop := fun x H Q => ∃ a dx fs, x = .ref a ∧ H a = some (.ins C dx fs) ∧ sp [x] H Q E
theorem un_ownNeg (F : FnOk X.prog X.w X.K X.mg X.base CX n f fd ps sp) (hr : Room n X.A) (hb : Binds X.K fd ps []) (hx : Passes CX X E)
    (hs : PySem.W.findIn X.K (.ref C) "__neg__" = some (some (.ref f))) (hf : PySem.W.isFn X.K (.ref f) = true) : UnR X (unaryOp .USub) (rOwn1 C sp E) := by
  intro pins s σ H x v Q I rx h
  obtain ⟨a, dx, fs, rfl, ha, hq⟩ := h
  cases rx
  obtain ⟨mA, J, _⟩ := ins_get I.hok ha
  obtain ⟨od, J, _⟩ := J.look
  obtain ⟨m, hF⟩ := I.fr
  exact PySem.W.ksp_neg hF I.ok.mod.kin J hs hf (run_fn (us := [.ref a]) (vs := [.ref a]) F hr hb .nil hx I (.cons rfl .nil) (by simpa using hq))
/-- one == other by the own __eq__, whatever the other is -/
def rOwnEq (K : PySem.W.Frag) (C : Addr) (sp : Sp) (E : XK) : R2 := fun x y H Q => ∃ a dx fs t, x = .ref a ∧ H a = some (.ins C dx fs) ∧ TyX K H y t ∧ PySem.W.notFirst K C t = true ∧ sp [x, y] H Q E
theorem op_ownEq (F : FnOk X.prog X.w X.K X.mg X.base CX n f fd ps sp) (hr : Room n X.A) (hb : Binds X.K fd ps []) (hx : Passes CX X E)
    (hs : PySem.W.findIn X.K (.ref C) "__eq__" = some (some (.ref f))) (hf : PySem.W.isFn X.K (.ref f) = true) : OpR X (compareOp .Eq) (rOwnEq X.K C sp E) := by
  intro pins s σ H x y v u Q I rx ry h
  obtain ⟨a, dx, fs, t, rfl, ha, ty, hn, hq⟩ := h
  cases rx
  obtain ⟨mA, J, _⟩ := ins_get I.hok ha
  obtain ⟨od, J, _⟩ := J.look
  obtain ⟨m, hF⟩ := I.fr
  obtain ⟨P, Z, p, _⟩ := kit_of I ry ty
  show wpAny (model X.prog X.w) X.A (richCompare .Eq (.ref a) u) (EP X pins σ Q) X.xe s
  refine PySem.W.cmp_K (op := .Eq) hr.units0 hF I.ok.mod.kin J (Z.ty _ _ I.kIn p) hn hs hf ?_
  exact wpAny_mono (run_fn (us := [.ref a, u]) (vs := [.ref a, y]) F hr hb .nil hx I (.cons rfl (.cons ry .nil)) (by simpa using hq)) (fun v s' hv => back_of hv) fun _ _ e => e
/-- the callee runs, a few levels below the body -/
theorem run_fnA {A : Around} {s : Shared} {H : Hp} {Q : VK} {us : List Value} {vs : List V} (F : FnOk X.prog X.w X.K X.mg X.base CX n f fd ps sp) (hr : Room n A) (hfr : A.frames = X.A.frames) (hb : Binds X.K fd ps []) (hx : Passes CX X E)
    (I : Inv X pins σ H s) (r : Vals vs us) (h : sp vs H Q E) : wpAny (model X.prog X.w) A (call (.ref f) us) (EP X pins σ Q) X.xe s := by
  have e0 : Env0 X.prog X.w X.K X.mg X.base A X.stack s H := by
    have e := I.env0
    exact ⟨hfr.trans e.frames, e.mod, e.bs, e.bsz, e.funs, e.frf, e.hok, e.bare⟩
  have hl : us.length = ps.length := r.length.symm.trans (F.len _ _ _ _ h)
  have bb := hb s us I.kIn (by simpa using hl)
  rw [List.append_nil] at bb
  refine wpAny_call (codeAny_mono (F.run A X.stack s H ⟨us, []⟩ us vs Q E hr e0 bb r h) fun res s' hq => ?_)
  match res, hq with
  | .error e, hq => exact hx pins σ H s e s' I hq
  | .ok (.ret w), hq => exact I.after hq
  | .ok .next, hq => exact False.elim hq
  | .ok .brk, hq => exact False.elim hq
  | .ok .cont, hq => exact False.elim hq
end
end L3

namespace L3
open PySem PySem.Spec PyProof.Rows L2
theorem iteB {b : Bool} {A B : Prop} (h1 : b = true → A) (h2 : b = false → B) : if b = true then A else B := by
  cases b with
  | true => exact h1 rfl
  | false => exact iteF (h2 rfl)
theorem iteD {c A B : Prop} [Decidable c] (h1 : c → A) (h2 : ¬ c → B) : if decide c = true then A else B :=
  iteB (fun h => h1 (of_decide_eq_true h)) fun h => h2 (of_decide_eq_false h)
theorem iteN {b : Bool} {A B : Prop} (h1 : b = false → A) (h2 : b = true → B) : if (!b) = true then A else B := by
  cases b with
  | true => exact iteF (h2 rfl)
  | false => exact h1 rfl
theorem bool_call {prog : Program} {w : World} {A : Around} {E : Value → Shared → Prop} {s : Shared} {x : Value} {Q : Value → Shared → Prop}
    (h : wpAny (model prog w) A.in1.in1 (truthy x) (fun b s' => Q (.bool b) s') E s) : wpAny (model prog w) A (call (.type "bool") [x]) Q E s := by
  refine callType_codes (T := "bool") (Bi := Builtin.«object.__init__») (Q₁ := fun r s₁ => ∃ y, r = .bool y ∧ Q r s₁) PySem.F.called_bool (PySem.F.typeCall_bool_1 _) PySem.F.entry_object_init ?_ ?_
  · refine codeAny_of_tree ?_
    show wpAny _ A.in1.in1 (do checkBuiltinCall "bool.__new__" ⟨[.type "bool", x], []⟩; again (.builtin "bool.__new__" ⟨[.type "bool", x], []⟩)) _ _ s
    refine wpAny_bind (wpAny_of_eq (PySem.F.newCall_bool_1 _) (wpAny_pure ⟨plainId_quiet (by decide +kernel) _, codeAny_builtin PySem.F.entry_bool_new ?_⟩))
    rw [Around.under_plainId (by decide +kernel) _]
    unfold Builtin.«bool.__new__»
    have f1 := F.conv_sub_bool
    have h2 : wpAny (model prog w) A.in1.in1 (truthy x) (fun b s' => ∃ y, Value.bool b = .bool y ∧ Q (.bool b) s') E s := wpAny_mono h (fun b s' q => ⟨b, rfl, q⟩) fun _ _ e => e
    obtain ⟨hp, g, d, tk, os⟩ := s
    repeat (any_goals (first | (with_reducible refine wpAny_mono h2 (fun b s' q => ?_) fun _ _ e => e) | wp_step))
    all_goals exact q
  · rintro obj s₁ ⟨y, rfl, hq⟩
    exact ⟨PySem.typeIs_bool _ _, PySem.F.args_object_init_2 _ _, object_init_meets PySem.F.called_bool.init.lookup PySem.F.called_bool.made (by decide) prog w A.in1 _ s₁ ⟨PySem.typeIs_bool _ _, rfl, hq⟩⟩
section
variable {X : Cx} {CX : CXT} {C f : Addr} {fd : FuncData} {ps : List Str} {sp : Sp} {E : XK} {n : Nat}
theorem room2 {A : Around} (h : Room (n + 1) A) : Room n A.in1.in1 :=
  ⟨h.hd, by have := h.dp; show A.depth + 3 * n + 5 < _; omega, by have := h.un; show A.units + 1 + 1 + 16 * n + 200 < _; omega⟩
/-- bool(x), str(x) by the own special method -/
theorem call_boolOwn (F : FnOk X.prog X.w X.K X.mg X.base CX n f fd ps sp) (hr : Room (n + 1) X.A) (hb : Binds X.K fd ps []) (hx : Passes CX X E)
    (hs : PySem.W.findIn X.K (.ref C) "__bool__" = some (some (.ref f))) (hf : PySem.W.isFn X.K (.ref f) = true) :
    CallR X (.type "bool") (fun xs H Q => ∃ a dx fs, xs = [.ref a] ∧ H a = some (.ins C dx fs) ∧ sp [.ref a] H (fun v H' => ∃ b, v = .bl b ∧ Q (.bl b) H') E) := by
  intro pins s σ H xs us Q I r h
  obtain ⟨a, dx, fs, rfl, ha, hq⟩ := h
  obtain ⟨u, rfl, rx⟩ := vals1 r
  cases rx
  obtain ⟨mA, J, _⟩ := ins_get I.hok ha
  obtain ⟨od, J, _⟩ := J.look
  obtain ⟨m, hF⟩ := I.fr
  refine bool_call (PySem.W.truthy_K hF I.ok.mod.kin J hs hf ?_)
  refine wpAny_mono (run_fnA (us := [.ref a]) (vs := [.ref a]) F (room2 hr) rfl hb hx I (.cons rfl .nil) hq) (fun v s' hv => ?_) fun _ _ e => e
  obtain ⟨x, H', I', rx, b, rfl, q⟩ := hv
  cases rx
  exact ⟨.bl b, H', I', rfl, q⟩
theorem call_strOwn (F : FnOk X.prog X.w X.K X.mg X.base CX n f fd ps sp) (hr : Room (n + 1) X.A) (hb : Binds X.K fd ps []) (hx : Passes CX X E)
    (hs : PySem.W.findIn X.K (.ref C) "__str__" = some (some (.ref f))) (hf : PySem.W.isFn X.K (.ref f) = true) :
    CallR X (.type "str") (fun xs H Q => ∃ a dx fs, xs = [.ref a] ∧ H a = some (.ins C dx fs) ∧ sp [.ref a] H (fun v H' => ∃ b, v = .str b ∧ Q (.str b) H') E) := by
  intro pins s σ H xs us Q I r h
  obtain ⟨a, dx, fs, rfl, ha, hq⟩ := h
  obtain ⟨u, rfl, rx⟩ := vals1 r
  cases rx
  obtain ⟨mA, J, _⟩ := ins_get I.hok ha
  obtain ⟨od, J, _⟩ := J.look
  refine PySem.W.kso_call (by have := hr.un; show X.A.units + 1 + 1 < cLine; omega) I.kIn J hs hf ?_
  refine wpAny_mono (run_fnA (us := [.ref a]) (vs := [.ref a]) F (room2 hr) rfl hb hx I (.cons rfl .nil) hq) (fun v s' hv => ?_) fun _ _ e => e
  obtain ⟨x, H', I', rx, b, rfl, q⟩ := hv
  obtain ⟨t, rfl⟩ := rx
  exact ⟨.str b, H', I', ⟨t, rfl⟩, q⟩
/-- repr of a bool -/
def boolText (b : Bool) : Str := if b = true then Str.ofString "True" else Str.ofString "False"
theorem call_reprB : CallR X (.builtin "repr") (fun xs H Q => ∃ b, xs = [.bl b] ∧ Q (.str (boolText b)) H) := by
  intro pins s σ H xs us Q I r h
  obtain ⟨b, rfl, q⟩ := h
  obtain ⟨u, rfl, rx⟩ := vals1 r
  cases rx
  exact PySem.P.repr_of_bool ⟨.str (boolText b), H, I.tok _, ⟨_, rfl⟩, q⟩
theorem foldRep (c : Array Nat) : ∀ (n : Nat) (acc : Array Nat), (List.foldl (· ++ ·) acc (List.replicate n c)).toList = acc.toList ++ (List.replicate n c.toList).flatten
  | 0, acc => by simp
  | n + 1, acc => by
    rw [List.replicate_succ, List.foldl_cons, foldRep c n, Array.toList_append, List.replicate_succ, List.flatten_cons, List.append_assoc]
theorem foldRep_len (c : Array Nat) (n : Nat) : (List.foldl (· ++ ·) #[] (List.replicate n c)).size = n * c.size := by
  have e := congrArg List.length (foldRep c n #[])
  simpa using e
/-- a text a few times -/
def timesS (x : Str) (n : Int) : Str := if n < 1 then Str.empty else ⟨(List.replicate n.toNat x.cps).foldl (· ++ ·) #[]⟩
theorem op_mulS : OpR X (binaryOp .Mult) (fun x y H Q => ∃ a k, x = .str a ∧ y = .int k ∧ -(2 ^ 62) < k ∧ (k ≤ 1 ∨ k < 2 ^ 20 ∧ a.length < 16) ∧ Q (.str (timesS a k)) H) := by
  intro pins s σ H x y v u Q I rx ry h
  obtain ⟨a, k, rfl, rfl, h0, h12, q⟩ := h
  obtain ⟨t, rfl⟩ := rx
  obtain ⟨t', rfl⟩ := ry
  have hl : sizeLine = 16777216 := sizeLine_eq
  refine PySem.P.mul_str (by rw [decide_eq_false (by omega), decide_eq_false (by omega)]; rfl) (fun hk hk1 z => ?_) (fun hk hk1 => ?_) ?_
  · have hk1' : k ≠ 1 := fun e => by rw [e] at hk1; simp at hk1
    obtain ⟨h1, h2⟩ := h12.resolve_left (by omega)
    have z1 : (2 ^ 63 - 1 : Int) / k ≥ 16 := by
      rw [ge_iff_le, Int.le_ediv_iff_mul_le (by omega)]
      omega
    omega
  · have hk1' : k ≠ 1 := fun e => by rw [e] at hk1; simp at hk1
    obtain ⟨h1, h2⟩ := h12.resolve_left (by omega)
    unfold Builtin.Str.tooLong
    have : a.length * k.toNat ≤ 16 * 1048576 := Nat.mul_le_mul (by omega) (by omega)
    rw [decide_eq_false]
    rw [hl]
    omega
  · unfold timesS at q
    by_cases hk : k < 1
    · rw [if_pos hk] at q ⊢
      exact ⟨by decide, .str _, H, I.tok _, ⟨_, rfl⟩, q⟩
    · rw [if_neg hk] at q ⊢
      by_cases h3 : (k == 1 || a.length == 0) = true
      · rw [if_pos h3]
        have e : (⟨(List.replicate k.toNat a.cps).foldl (· ++ ·) #[]⟩ : Str) = a := by
          rcases Bool.or_eq_true_iff.mp h3 with e | e
          · have e' : k = 1 := by simpa using e
            subst e'
            simp
          · have e' : a.length = 0 := by simpa using e
            have e2 : a.cps = #[] := by
              have : a.cps.size = 0 := e'
              exact Array.eq_empty_of_size_eq_zero this
            have g : ∀ n : Nat, (List.replicate n a.cps).foldl (· ++ ·) #[] = #[] := by
              intro n
              rw [e2]
              induction n with
              | zero => rfl
              | succ n ih => simpa [List.replicate_succ] using ih
            rw [g]
            cases a
            simp at e2
            rw [e2]
        rw [e] at q
        exact ⟨.str _, H, I, ⟨_, rfl⟩, q⟩
      · rw [if_neg h3]
        refine ⟨?_, .str _, H, I.tok _, ⟨_, rfl⟩, q⟩
        show (List.foldl (· ++ ·) #[] (List.replicate k.toNat a.cps)).size ≤ sizeLine
        rw [foldRep_len, hl]
        have hk1' : k ≠ 1 := fun e => h3 (by rw [e]; rfl)
        obtain ⟨h1, h2⟩ := h12.resolve_left (by omega)
        have h4 : a.cps.size < 16 := h2
        have : k.toNat * a.cps.size ≤ 1048576 * 16 := Nat.mul_le_mul (by omega) (by omega)
        omega
/-- X(), X an own exception class without own __init__ -/
theorem pmk_own0 {bmB : List Value} {B newId initId : String} {x : Str} {p pos : Pos} (F : ExcBaseFacts B newId initId bmB) (q : PySem.W.excIn X.K C bmB newId = true) (gC : X.mg x = some (.ref C))
    (kC : PySem.W.keepIn X.K (.ref C) = true) (r : Raises X (.ref C)) (hg : Gl X x) (hdb : (x == ("__debug__" : Str)) = false := by decide) :
    PMk X (.Call (.Name x p) [] [] pos) (fun _ H Q => Q (.ref C) none H) := by
  intro pins s σ H Q I h
  refine wpAny_Call_Name_kw (ld_glob I hg gC ?_ hdb)
  refine PySem.W.callWith_K0 I.kIn kC ?_
  obtain ⟨bm, N, nm, qn, bs, hdct, sn, sub, ab, col, dd, k0, k1, k2, k3, k5, mN, hC, hN, hni, T⟩ := exc_obj I.kIn q
  exact wpAny_call_exc_subT F T hC hN hni (fun h' e hm => mk_of I hm r h (I.hok.gone hm.new)) (Nat.zero_le _)
/-- C(..) where what __init__ raises is wished for at the caller's slots -/
def tMakeS (C : Addr) (sp : Sp) (dvs : List V) (E : L2.St → XK) (t : TA) : TE := fun σ H Q => t σ H fun vs H1 => ∀ x dx, H1 x = none → H1 dx = none → dx ≠ x →
  sp (.ref x :: (vs ++ dvs)) (upd (upd H1 dx (.own x)) x (.ins C dx [])) (fun v H2 => v = .non ∧ Q (.ref x) H2) (E σ)
theorem pe_makeS {E : L2.St → XK} {dvs : List V} {ds : List Value} {k : Nat} {x : Str} {p pos : Pos} {e : Expr} {es : List Expr} {t : TA} (M : Mk X.K C f) (F : FnOk X.prog X.w X.K X.mg X.base CX k f fd ps sp) (hr : Room (k + 1) X.A) (hg : Gl X x)
    (hm : X.mg x = some (.ref C)) (hb : Binds X.K fd ps ds) (hd : Vals dvs ds) (hx : ∀ σ, PassesAt CX X σ (E σ))
    (ha : PA X (e :: es) t) (hdb : (x == ("__debug__" : Str)) = false := by decide) (he : starEach (e :: es) X.env = (false, eval e X.env) :: starEach es X.env := by rfl) (hpl : (backTo pos (starEach es X.env)).any (·.1) = false := by rfl) :
    PE X (.Call (.Name x p) (e :: es) [] pos) (tMakeS C sp dvs E t) := by
  refine ⟨fun pins s0 σ H0 Q I0 h0 => ?_⟩
  refine wpAny_Call_Name_kw (ld_glob I0 hg hm ?_ hdb)
  refine PySem.W.callWith_K (h₀ := X.base) I0.ok.mod.kin M.kp (thn (ha.run pos pins s0 σ H0 _ I0 h0) fun us s ⟨vs, H, I, r, h⟩ => ⟨I.kIn, ?_⟩) he hpl
  have q0 := h (s.heap.objs.size + 1) s.heap.objs.size (I.hok.fresh (Nat.le_succ _)) (I.hok.fresh (Nat.le_refl _)) (Nat.ne_of_lt (Nat.lt_succ_self _))
  have J := Inv.made (C := C) I
  have rr : Vals (V.ref (s.heap.objs.size + 1) :: (vs ++ dvs)) (Value.ref (s.heap.objs.size + 1) :: (us ++ ds)) := .cons rfl (r.append hd)
  have hl : (Value.ref (s.heap.objs.size + 1) :: us ++ ds).length = ps.length := rr.length.symm.trans (F.len _ _ _ _ q0)
  refine wpAny_call (make_map (f := f) I.kIn M.makes M.init (beq_iff_eq.mp M.fn) (codeAny_mono
    (F.run _ X.stack _ _ ⟨Value.ref (s.heap.objs.size + 1) :: us, []⟩ (Value.ref (s.heap.objs.size + 1) :: (us ++ ds)) _ _ (E σ) (hr.make C us []) (J.env0.make C us []) (hb _ (Value.ref (s.heap.objs.size + 1) :: us) J.kIn hl) rr q0) fun res s' hq => ?_))
  match res, hq with
  | .error e, hq => exact hx σ pins _ _ e s' J hq
  | .ok (.ret u), hq =>
    obtain ⟨v, H', I3, rv, ev, q3⟩ := J.after hq
    subst ev
    exact ⟨rv, ⟨V.ref (s.heap.objs.size + 1), H', I3, rfl, q3⟩⟩
  | .ok .next, hq => exact False.elim hq
  | .ok .brk, hq => exact False.elim hq
  | .ok .cont, hq => exact False.elim hq
end
end L3

/-! defs that ask for the texts of lists and tuples: no such text is under way where they are called -/
namespace L3
open PySem PySem.Spec PyProof.Rows L2

/-- no repr is under way -/
abbrev Calm (A : Around) : Prop := A.guards = some []
structure FnG (P : Program) (w : World) (K : PySem.W.Frag) (mg : Str → Option Value) (base : Heap) (CX : CXT) (k : Nat) (f : Addr) (fd : FuncData) (ps : List Str) (sp : Sp) : Prop where
  len : ∀ vs H Q E, sp vs H Q E → vs.length = ps.length
  run : ∀ (A : Around) (outer : List Env) (s : Shared) (H : Hp) (args : Args) (us : List Value) (vs : List V) (Q : VK) (E : XK), Calm A → Room k A → Env0 P w K mg base A outer s H → BindsTo s fd args (ps.zip us) → Vals vs us → sp vs H Q E →
    codeAny (model P w) A (.call (.ref f) args) (CR CX outer P w H s Q E) s
section
variable {P : Program} {w : World} {K : PySem.W.Frag} {mg : Str → Option Value} {base : Heap} {CX : CXT} {j k : Nat} {f : Addr} {fd : FuncData} {ps : List Str} {sp sp' : Sp}
theorem FnG.of (F : FnOk P w K mg base CX k f fd ps sp) : FnG P w K mg base CX k f fd ps sp :=
  ⟨F.len, fun A outer s H args us vs Q E _ => F.run A outer s H args us vs Q E⟩
theorem FnG.mono (F : FnG P w K mg base CX j f fd ps sp) (h : j ≤ k) : FnG P w K mg base CX k f fd ps sp :=
  ⟨F.len, fun A outer s H args us vs Q E g hr => F.run A outer s H args us vs Q E g (hr.mono h)⟩
/-- a def by its body, where no repr is under way -/
theorem gfn_of {name qual : Str} {params : Arguments} {body : List Stmt} {scope : Scope} {dV kV doc pm cdv ct oc : Value} {an od : Option Addr} {osl : Array (Option Value)} {N : List Str}
    (lk : K.lookup f = some ⟨oc, od, .func (PySem.W.fnOf name qual params body scope dV kV doc pm an cdv ct), osl⟩) (hcd : PySem.W.codeIn K cdv qual = true) (S : FnScope N ps scope)
    (len : ∀ vs H Q E, sp vs H Q E → vs.length = ps.length)
    (hbody : ∀ (A : Around) (outer : List Env) (s : Shared) (H : Hp) (vs : List V) (Q : VK) (E : XK), Calm A → Room k (A.deeper (envOfC qual scope s.heap.objs.size f cdv)) → sp vs H Q E →
      ∃ t, PSs (cxOf CX P w K mg base N qual scope f cdv A outer s H E) body t ∧ t { nx := fun _ H' => Q .non H', rt := Q } (L2.start N vs) H) :
    FnG P w K mg base CX (k + 1) f (PySem.W.fnOf name qual params body scope dV kV doc pm an cdv ct) ps sp := by
  constructor
  · exact len
  intro A outer s H args us vs Q E g hr e0 hb r hsp
  have old : ∀ b o, base.get? b = some o → s.heap.get? b = some o := fun b o e => (e0.bs b o e).1
  have KX : K.In s.heap := e0.mod.kin.keeps old
  have lim : s.heap.NoLimit := e0.mod.nolimit.keeps old
  have kinds : ∀ y ∈ ps.zip us, scope.names.lookup y.1 = some .local ∨ (scope.names.lookup y.1 = some .cell ∧ ((cellsFrom (s.heap.objs.size + 1) scope.names []).lookup y.1).isSome = true) := by
    intro y hy
    rcases S.par y.1 (List.of_mem_zip (a := y.1) (b := y.2) hy).1 with q | q
    · exact .inl q
    · exact .inr ⟨q, PySem.W.cellsFrom_some _ _ _ (.inl q)⟩
  obtain ⟨t, ht, hq⟩ := hbody A outer s H vs Q E g (hr.deeper _) hsp
  refine codeAny_call_function hr.depth (KX _ _ lk) rfl S.co S.gen rfl (PySem.W.codeRec_of KX hcd) (hb _ _ _ _ (wpAny_newFunctionEnv_cells S.kind kinds fun env he s1 x => ?_))
  subst he
  refine ⟨lim.keeps x.toInCall.keep, codeAny_func (wpAny_mono (ht.run [] s1 (L2.start N vs) H _ (inv_start S hr.hd e0 (len _ _ _ _ hsp) r x) hq) (fun fl s' hs => ?_) fun e s' hs => hs)⟩
  match fl, hs with
  | .ret _, ⟨v, σ', H', J, rv, q⟩ => exact ⟨v, H', J.os, J.bare, J.base, J.hok, rv, q⟩
  | .next, ⟨σ', H', J, q⟩ => exact ⟨.non, H', J.os, J.bare, J.base, J.hok, rfl, q⟩
  | .brk, ⟨_, _, _, q⟩ => exact q.elim
  | .cont, ⟨_, _, _, q⟩ => exact q.elim
theorem gok {x qual : Str} {st : Stmt} {N : List Str} (F : Fun K x qual st f fd) (S : FnScope N ps (defScope st)) (len : ∀ vs H Q E, sp vs H Q E → vs.length = ps.length)
    (hbody : ∀ (cdv : Value) (A : Around) (outer : List Env) (s : Shared) (H : Hp) (vs : List V) (Q : VK) (E : XK), Calm A → Room k (A.deeper (envOfC qual (defScope st) s.heap.objs.size f cdv)) → sp vs H Q E →
      ∃ t, PSs (cxOf CX0 P w K mg base N qual (defScope st) f cdv A outer s H E).nox (defBody st) t ∧ t { nx := fun _ H' => Q .non H', rt := Q } (L2.start N vs) H) : FnG P w K mg base CX0 (k + 1) f fd ps sp := by
  obtain ⟨oc, od, kV, doc, pm, an, cdv, ct, osl, rfl, lk, hcd⟩ := F.ex
  exact gfn_of lk hcd S len fun A outer s H vs Q E g hr hsp => let ⟨t, h, q⟩ := hbody cdv A outer s H vs Q E g hr hsp; ⟨t, h.nox, q⟩
theorem gokX {x qual : Str} {st : Stmt} {N : List Str} (F : Fun K x qual st f fd) (S : FnScope N ps (defScope st)) (len : ∀ vs H Q E, sp vs H Q E → vs.length = ps.length)
    (hbody : ∀ (cdv : Value) (A : Around) (outer : List Env) (s : Shared) (H : Hp) (vs : List V) (Q : VK) (E : XK), Calm A → Room k (A.deeper (envOfC qual (defScope st) s.heap.objs.size f cdv)) → sp vs H Q E →
      ∃ t, PSs (cxOf (L2.CX P w) P w K mg base N qual (defScope st) f cdv A outer s H E) (defBody st) t ∧ t { nx := fun _ H' => Q .non H', rt := Q } (L2.start N vs) H) : FnG P w K mg base (L2.CX P w) (k + 1) f fd ps sp := by
  obtain ⟨oc, od, kV, doc, pm, an, cdv, ct, osl, rfl, lk, hcd⟩ := F.ex
  exact gfn_of lk hcd S len fun A outer s H vs Q E g hr hsp => hbody cdv A outer s H vs Q E g hr hsp
end

/-! ### calls of such defs -/
section
variable {X : Cx} {CX : CXT} {k : Nat} {f : Addr} {fd : FuncData} {ps : List Str} {sp : Sp} {dvs : List V} {ds : List Value} {E : XK} {x : Str} {p pos : Pos} {e : Expr} {es : List Expr} {t : TA}
theorem run_fnG {pins : List (Addr × Obj)} {σ : L2.St} {H : Hp} {s : Shared} {Q : VK} {us : List Value} {vs : List V} (F : FnG X.prog X.w X.K X.mg X.base CX k f fd ps sp) (g : Calm X.A) (hr : Room k X.A) (hb : Binds X.K fd ps ds) (hd : Vals dvs ds) (hx : Passes CX X E)
    (I : Inv X pins σ H s) (r : Vals vs us) (h : sp (vs ++ dvs) H Q E) : wpAny (model X.prog X.w) X.A (call (.ref f) us) (EP X pins σ Q) X.xe s := by
  have r2 := r.append hd
  refine wpAny_call (codeAny_mono (F.run X.A X.stack s H ⟨us, []⟩ (us ++ ds) (vs ++ dvs) Q E g hr I.env0 (hb s us I.kIn (r2.length.symm.trans (F.len _ _ _ _ h))) r2 h) fun res s' hq => ?_)
  match res, hq with
  | .error e, hq => exact hx pins σ H s e s' I hq
  | .ok (.ret u), hq => exact I.after hq
  | .ok .next, hq => exact hq.elim
  | .ok .brk, hq => exact hq.elim
  | .ok .cont, hq => exact hq.elim
theorem pe_callG (F : FnG X.prog X.w X.K X.mg X.base CX k f fd ps sp) (g : Calm X.A) (hr : Room k X.A) (hg : Gl X x) (hm : X.mg x = some (.ref f)) (hk : PySem.W.keepIn X.K (.ref f) = true) (hb : Binds X.K fd ps ds) (hd : Vals dvs ds) (hx : Passes CX X E)
    (ha : PA X (e :: es) t) (hdb : (x == ("__debug__" : Str)) = false := by decide) (he : starEach (e :: es) X.env = (false, eval e X.env) :: starEach es X.env := by rfl) (hpl : (backTo pos (starEach es X.env)).any (·.1) = false := by rfl) :
    PE X (.Call (.Name x p) (e :: es) [] pos) (tCall sp dvs E t) :=
  ⟨fun pins s σ H Q I h => wpAny_Call_Name_kw (ld_glob I hg hm (PySem.W.callWith_K (h₀ := X.base) I.ok.mod.kin hk (thn (ha.run pos pins s σ H _ I h) fun us s1 ⟨vs, H1, I1, r, q⟩ => ⟨I1.kIn, run_fnG F g hr hb hd hx I1 r q⟩) he hpl) hdb)⟩
end

/-! ### texts of lists and tuples -/
theorem calm_deeper {A : Around} (env : Env) (h : Calm A) : Calm (A.deeper env) := h
/-- repr(x), x data laid out in the heap -/
def rReprD (K : PySem.W.Frag) : List V → Hp → VK → Prop := fun xs H Q => ∃ (x : V) (d : PyData), xs = [x] ∧ Dp K H x d ∧ (∃ a, x = .ref a) ∧ d.showable = true ∧ d.hasDict = false ∧ d.depth ≤ 60 ∧ d.shown.length ≤ sizeLine ∧ Q (.str d.shown) H
theorem call_reprD {X : Cx} (g : Calm X.A) (hu : X.A.units + 64 < cLine) : CallR X (.builtin "repr") (rReprD X.K) := by
  intro pins s σ H xs us Q I rx h
  obtain ⟨x, d, rfl, hd, ⟨a, rfl⟩, hs, hnd, hdep, hsz, q⟩ := h
  cases rx with
  | @cons _ u _ _ ra rw' =>
    cases rw'
    obtain rfl : u = Value.ref a := ra
    obtain ⟨as, r⟩ := Dp.reads I d _ _ hd rfl
    exact PySem.repr_of_reads' r hs (fun z => by rw [hnd] at z; cases z) g (by omega) (fun _ _ e => e) (fun h' u tk k => ⟨.str d.shown, H, I.kept k, ⟨u, rfl⟩, q⟩) hsz
end L3

namespace L3
open PySem PySem.Spec PyProof.Rows L2

/-- the script's list as it is tracked at the law's entry -/
def hScript (a : Addr) (vs : List Value) (ns : List Int) (own : Bool) : Hp := fun b => if own = false ∧ b = a then some (.frz { cls := .type "list", data := .seq vs.toArray } (.lst (ns.map V.int))) else none
section
variable {P : Program} {w : World} {K : PySem.W.Frag} {mg mb : Str → Option Value} {CX : CXT} {k : Nat} {fa a : Addr} {fd : FuncData} {x : Str} {sp : Sp} {s : Shared} {vs : List Value} {ns : List Int} {own : Bool}
theorem hs_some {b : Addr} {o : HO} (h : hScript a vs ns own b = some o) : own = false ∧ b = a ∧ o = .frz { cls := .type "list", data := .seq vs.toArray } (.lst (ns.map V.int)) := by
  unfold hScript at h
  split at h
  · rename_i c
    exact ⟨c.1, c.2, (Option.some.inj h).symm⟩
  · cases h
theorem hs_none {b : Addr} (h : own = true ∨ b ≠ a) : hScript a vs ns own b = none := by
  cases q : hScript a vs ns own b with
  | none => rfl
  | some o =>
    obtain ⟨h1, h2, _⟩ := hs_some q
    rcases h with h | h
    · rw [h] at h1; cases h1
    · exact absurd h2 h
theorem hs_only : Only (hScript a vs ns own) := fun b => by
  cases q : hScript a vs ns own b with
  | none => exact .inl rfl
  | some o =>
    obtain ⟨_, _, e⟩ := hs_some q
    exact .inr ⟨_, _, by rw [e]⟩
theorem hs_ok (ha : s.heap.get? a = some { cls := .type "list", data := .seq vs.toArray }) (hi : IntsAre vs ns) (hl : ns.length ≤ sizeLine) : HOk P w (hScript a vs ns own) s.heap := fun b o q => by
  obtain ⟨_, rfl, rfl⟩ := hs_some q
  exact ⟨ha, by rw [List.length_map]; exact hl, vs, _, vals_ints hi, ha⟩
theorem hs_seq (ha : s.heap.get? a = some { cls := .type "list", data := .seq vs.toArray }) (hi : IntsAre vs ns) (hl : ns.length ≤ sizeLine) (KX : K.In s.heap) (hk : own = (K.lookup a).isSome) : SqL K (hScript a vs ns own) a (ns.map V.int) := by
  cases q : K.lookup a with
  | some o =>
    have e := KX a o q
    rw [ha] at e
    cases e
    exact .inr ⟨_, vs.toArray, _, q, rfl, rfl, rfl, by rw [List.size_toArray, hi.length]; exact hl, by simpa using vals_ints hi⟩
  | none =>
    refine .inl (.inr ⟨{ cls := .type "list", data := .seq vs.toArray }, ?_⟩)
    unfold hScript
    exact if_pos ⟨by rw [hk, q]; rfl, rfl⟩
/-- the law's def at the entry, its promise by FnG -/
theorem law_callG (KX : K.In s.heap) (hns : s.heap.Ns mainGlobals mg) (hb : s.heap.Ns builtinsNs mb) (hbb : ∀ x : Str, x ≠ "__name__" → mb x = bootBuiltins x) (hlim : s.heap.NoLimit) (hg : s.gens = #[])
    (ha : s.heap.get? a = some { cls := .type "list", data := .seq vs.toArray }) (hi : IntsAre vs ns) (hl : ns.length ≤ sizeLine) (hr : Room k callerA)
    (F : ∀ base : Heap, K.In base → base.Ns mainGlobals mg → FnG P w K mg base CX k fa fd [x] sp) (hbind : ∀ (s : Shared) (u : Value), BindsTo s fd ⟨[u], []⟩ [(x, u)])
    (hsp : ∀ H : Hp, Only H → SqL K H a (ns.map V.int) → sp [.ref a] H (fun v _ => v = .bl true) fun _ _ _ => False) (hCX : ∀ H e s', CX [] H s (fun _ _ _ => False) e s' → False) :
    codeAny (model P w) callerA (.call (.ref fa) ⟨[.ref a], []⟩) (fun r s' => r = .ok (.ret (.bool true)) ∧ OldK s.heap s'.heap ∧ s'.os = s.os ∧ AllBare s'.gens) s := by
  let own := (K.lookup a).isSome
  have hok : HOk P w (hScript a vs ns own) s.heap := hs_ok ha hi hl
  -- an object of the module, or a namespace, is not the tracked script
  have offK : ∀ {b : Addr} {o : Obj}, K.lookup b = some o → hScript a vs ns own b = none := fun {b o} e => by
    by_cases hb : b = a
    · refine hs_none (.inl ?_)
      show (K.lookup a).isSome = true
      rw [← hb, e]
      rfl
    · exact hs_none (.inr hb)
  have offD : ∀ {b : Addr} {o : Obj} {es : Array DictEntry} {ep : Nat}, s.heap.get? b = some o → o.data = .dict es ep → hScript a vs ns own b = none := fun {b o es ep} e d => by
    refine hs_none (.inr fun z => ?_)
    rw [z, ha] at e
    cases e
    cases (show Data.seq vs.toArray _ = Data.dict es ep from d)
  have nsK : ∀ {b : Addr} {m : Str → Option Value}, s.heap.Ns b m → (hidT s.heap (hScript a vs ns own)).Ns b m := fun {b m} ⟨o, es, ep, e, d, r⟩ => ⟨o, es, ep, hidT_get e (offD e d), d, r⟩
  have hKb : K.In (hidT s.heap (hScript a vs ns own)) := fun b o e => hidT_get (KX b o e) (offK e)
  obtain ⟨mc, c1, c2⟩ := hlim
  have hM : Mod K mg (hidT s.heap (hScript a vs ns own)) := ⟨hKb, nsK hns, ⟨mb, nsK hb, hbb⟩, mc, nsK c1, c2⟩
  have e0 : Env0 P w K mg (hidT s.heap (hScript a vs ns own)) callerA [] s (hScript a vs ns own) :=
    ⟨rfl, hM, fun b o e => of_hidT e, Nat.le_of_eq (hidT_size _ _), trivial, fun b hb => absurd (show b ∈ ([] : List Addr) from hb) (by simp), hok, .of_eq hg⟩
  refine codeAny_mono ((F _ hKb (nsK hns)).run callerA [] s (hScript a vs ns own) ⟨[.ref a], []⟩ [.ref a] [.ref a] _ _ rfl hr e0 (hbind s (.ref a)) (.cons rfl .nil) (hsp _ hs_only (hs_seq ha hi hl KX rfl))) fun r s' h => ?_
  match r, h with
  | .error e, h => exact (hCX _ e s' h).elim
  | .ok .next, h => exact h.elim
  | .ok .brk, h => exact h.elim
  | .ok .cont, h => exact h.elim
  | .ok (.ret u), ⟨v, H', os, bare, un, hok', rv, q⟩ =>
    cases (show v = .bl true from q)
    obtain rfl : u = Value.bool true := rv
    refine ⟨rfl, OldK.of_keep fun b o e => ?_, os, bare⟩
    cases z : hScript a vs ns own b with
    | none => exact un.keep b o e z (fun z => absurd (show b ∈ ([] : List Addr) from z) (by simp)) (by simp)
    | some u =>
      obtain ⟨_, _, rfl⟩ := hs_some z
      have y := (hok' b _ (un.frzs b _ _ z)).1
      have y0 := (hok b _ z).1
      rw [e] at y0
      cases y0
      exact y
end
/-- the goal behind the head, from the law's promise by FnG -/
theorem walk_ofG {l : PySem.W.OpenLaw} {n k : Nat} {q : Program} {loose : List Str} {XP : (Str → Option Value) → Heap → Prop} {YP : World → Heap → Prop} {d : DefRec} {K : Params → PySem.W.Frag} {CX : World → CXT} {sp : World → Sp} {x : Str}
    (hn : l.most = some n) (hn2 : n ≤ sizeLine) (hdf : d.params.defaults = []) (hr : Room k callerA) (hY : ∀ (w : World) (h : Heap), YP w h → (K w.params).In h)
    (F : ∀ (w : World) (mg : Str → Option Value) (fa : Addr) (h : Heap), (K w.params).In h → h.Ns mainGlobals mg → mg d.name = some (.ref fa) →
      ∃ fd : FuncData, (∀ (s : Shared) (u : Value), BindsTo s fd ⟨[u], []⟩ [(x, u)]) ∧ ∀ base : Heap, (K w.params).In base → base.Ns mainGlobals mg → FnG l.prog w (K w.params) mg base (CX w) k fa fd [x] (sp w))
    (hsp : ∀ (w : World) (H : Hp) (a : Addr) (ns : List Int), ns.length ≤ n → Only H → SqL (K w.params) H a (ns.map V.int) → sp w [.ref a] H (fun v _ => v = .bl true) fun _ _ _ => False)
    (hCX : ∀ (w : World) (H : Hp) (s : Shared) (e : Value) (s' : Shared), CX w [] H s (fun _ _ _ => False) e s' → False) :
    PySem.W.WalkO q loose XP YP l.row.toRowW d [] (fun f vs => PySem.call f vs) := by
  refine Att.attach_call hn hdf fun w s₀ s₁ mg mb fa o pm cd doc a vs ns G Y ho hd hcd hmg hobj hints hlen hg => ?_
  obtain ⟨fd, hb, hF⟩ := F w mg fa _ (hY w _ Y) G.T.g hmg
  exact law_callG (hY w _ Y) G.T.g G.T.b G.T.builtins G.T.nolimit hg hobj hints (Nat.le_trans hlen hn2) hr hF hb (fun H hO hS => hsp w H a ns hlen hO hS) fun H e s' => hCX w H s₁ e s'
end L3

namespace L3
open PySem PySem.Spec PyProof.Rows L2
abbrev Sm (n : Nat) (x : Int) : Prop := x.natAbs < 2 ^ n
theorem Sm.mono {n m : Nat} {x : Int} (h : Sm n x) (l : n ≤ m) : Sm m x := Nat.lt_of_lt_of_le h (Nat.pow_le_pow_right (by decide) l)
theorem Sm.le {n : Nat} {x y : Int} (h : Sm n y) (l : x.natAbs ≤ y.natAbs) : Sm n x := Nat.lt_of_le_of_lt l h
theorem Sm.mul {n m : Nat} {x y : Int} (h : Sm n x) (k : Sm m y) : Sm (n + m) (x * y) := wide_lt h k
theorem Sm.add {n : Nat} {x y : Int} (h : Sm n x) (k : Sm n y) : Sm (n + 1) (x + y) := by
  have e : (2 : Nat) ^ (n + 1) = 2 ^ n + 2 ^ n := by rw [Nat.pow_succ]; omega
  show (x + y).natAbs < 2 ^ (n + 1)
  rw [e]
  have h1 : x.natAbs < 2 ^ n := h
  have h2 : y.natAbs < 2 ^ n := k
  omega
theorem Sm.neg {n : Nat} {x : Int} (h : Sm n x) : Sm n (-x) := by
  show (-x).natAbs < 2 ^ n
  rw [Int.natAbs_neg]
  exact h
theorem Sm.sub {n : Nat} {x y : Int} (h : Sm n x) (k : Sm n y) : Sm (n + 1) (x - y) := by
  rw [Int.sub_eq_add_neg]
  exact h.add k.neg
theorem Sm.log {n k : Nat} {x : Int} (h : Sm n x) (h0 : 0 < n) (hk : n ≤ k) : x.natAbs.log2 < k := Nat.lt_of_lt_of_le (PySem.Flt.log2_lt_of h0 h) hk
theorem Sm.mulW {n m : Nat} {x y : Int} (h : Sm n x) (k : Sm m y) (h0 : 0 < n) (h1 : 0 < m) (hl : n + m ≤ 1000000) : CMulW x y := wide_mul h k h0 h1 hl
theorem len_app (x y : Str) : (x ++ y).length = x.length + y.length := by
  obtain ⟨a⟩ := x
  obtain ⟨b⟩ := y
  show (a ++ b).size = _
  simp [Str.length]
theorem size_ok {n : Nat} (h : n ≤ 100000) : n ≤ sizeLine := by rw [sizeLine_eq]; omega
def FeedAt (H : Hp) (a : Addr) : Prop := ∃ x y : Int, H a = some (.lst [.int x, .int y]) ∧ 0 ≤ y ∧ y ≤ 2147483648
/-- behind a draw: all but the feed stands -/
structure Dr (a : Addr) (H H' : Hp) : Prop where
  fd : FeedAt H' a
  sm : ∀ b o, b ≠ a → H b = some o → H' b = some o
theorem Dr.trans {a : Addr} {H H1 H2 : Hp} (x : Dr a H H1) (y : Dr a H1 H2) : Dr a H H2 := ⟨y.fd, fun b o n e => y.sm b o n (x.sm b o n e)⟩
def spFeed (K : PySem.W.Frag) : Sp := fun vs H Q _ => ∃ (a : Addr) (ns : List Int) (k : Nat), vs = [.ref a, .int k] ∧ SqL K H a (ns.map V.int) ∧ ns.length ≤ 63 ∧ k < 64 ∧
  ∀ (p : Addr) (H' : Hp), H p = none → Same H H' → FeedAt H' p → Q (.ref p) H'
def spTake : Sp := fun vs H Q _ => ∃ (a : Addr) (m : Int), vs = [.ref a, .int m] ∧ FeedAt H a ∧ 0 < m ∧ Sm 200 m ∧ ∀ (r : Int) (H' : Hp), 0 ≤ r → r < m → Dr a H H' → Q (.int r) H'
theorem same_new {H : Hp} {p : Addr} {o : HO} (h : H p = none) : Same H (upd H p o) := fun b u e => by
  rw [upd_ne (ne_of_none e h)]
  exact e
end L3

/-! repr of data of any kind; data in a heap that has grown -/
namespace L3
open PySem PySem.Spec PyProof.Rows L2
def rtext : PyData → Str
  | .none => "None"
  | .bool b => boolText b
  | .int i => Str.ofString (toString i)
  | .str x => reprText x
  | d => d.shown
structure FineB (d : PyData) : Prop where
  sh : d.showable = true
  nd : d.hasDict = false
  dp : d.depth ≤ 60
  sz : d.shown.length ≤ sizeLine
def Fine : PyData → Prop
  | .none => True
  | .bool _ => True
  | .int i => i.natAbs.log2 < 1920
  | .str x => (reprText x).length ≤ sizeLine
  | d => FineB d
def rRepr (K : PySem.W.Frag) : List V → Hp → VK → Prop := fun xs H Q => ∃ (x : V) (d : PyData), xs = [x] ∧ Dp K H x d ∧ Fine d ∧ Q (.str (rtext d)) H
theorem call_repr {X : Cx} (g : Calm X.A) (hu : X.A.units + 64 < cLine) : CallR X (.builtin "repr") (rRepr X.K) := by
  intro pins s σ H xs us Q I rx h
  obtain ⟨x, d, rfl, hd, hf, q⟩ := h
  cases hd with
  | non =>
    obtain ⟨u, rfl, r⟩ := vals1 rx
    cases r
    exact PySem.P.repr_of_none ⟨.str "None", H, I.tok _, ⟨_, rfl⟩, q⟩
  | bl b =>
    obtain ⟨u, rfl, r⟩ := vals1 rx
    cases r
    exact PySem.P.repr_of_bool ⟨.str (boolText b), H, I.tok _, ⟨_, rfl⟩, q⟩
  | int i =>
    obtain ⟨u, rfl, t, rfl⟩ := vals1 rx
    exact PySem.P.repr_of_int hf ⟨.str _, H, I.tok _, ⟨_, rfl⟩, q⟩
  | str y =>
    obtain ⟨u, rfl, t, rfl⟩ := vals1 rx
    exact PySem.P.repr_of_str ⟨.str _, H, I.tok _, ⟨_, rfl⟩, q⟩ hf
  | @lst a ys ds hs ha =>
    have f : FineB (.list ds) := hf
    exact call_reprD g hu pins s σ H _ us Q I rx ⟨_, _, rfl, .lst hs ha, ⟨a, rfl⟩, f.sh, f.nd, f.dp, f.sz, q⟩
  | @tup a ys ds hs ha =>
    have f : FineB (.tuple ds) := hf
    exact call_reprD g hu pins s σ H _ us Q I rx ⟨_, _, rfl, .tup hs ha, ⟨a, rfl⟩, f.sh, f.nd, f.dp, f.sz, q⟩
theorem Same.seqT {K : PySem.W.Frag} {H H' : Hp} {a : Addr} {xs : List V} (e : Same H H') (h : SqT K H a xs) : SqT K H' a xs := by
  rcases h with (h | ⟨o, h⟩) | h
  · exact .inl (.inl (e _ _ h))
  · exact .inl (.inr ⟨o, e _ _ h⟩)
  · exact .inr h
mutual
theorem dp_keep {K : PySem.W.Frag} {H H' : Hp} (k : ∀ a xs, SqL K H a xs → SqL K H' a xs) (kt : ∀ a xs, SqT K H a xs → SqT K H' a xs) : ∀ (d : PyData) (v : V), Dp K H v d → Dp K H' v d
  | .none, _, .non => .non
  | .bool b, _, .bl _ => .bl b
  | .int i, _, .int _ => .int i
  | .str x, _, .str _ => .str x
  | .list ds, _, .lst hs ha => .lst (k _ _ hs) (dpAll_keep k kt ds _ ha)
  | .tuple ds, _, .tup hs ha => .tup (kt _ _ hs) (dpAll_keep k kt ds _ ha)
theorem dpAll_keep {K : PySem.W.Frag} {H H' : Hp} (k : ∀ a xs, SqL K H a xs → SqL K H' a xs) (kt : ∀ a xs, SqT K H a xs → SqT K H' a xs) : ∀ (ds : List PyData) (vs : List V), DpAll K H vs ds → DpAll K H' vs ds
  | [], _, .nil => .nil
  | d :: ds, _, .cons h hs => .cons (dp_keep k kt d _ h) (dpAll_keep k kt ds _ hs)
end
theorem Dp.same {K : PySem.W.Frag} {H H' : Hp} {v : V} {d : PyData} (e : Same H H') (h : Dp K H v d) : Dp K H' v d := dp_keep (fun _ _ => e.seq) (fun _ _ => Same.seqT e) d v h
/-- a reading may ask for more than the rule does -/
theorem pe_imp {X : Cx} {e : Expr} {t t' : TE} (h : PE X e t) (i : ∀ σ H Q, t' σ H Q → t σ H Q) : PE X e t' := ⟨fun pins s σ H Q I q => h.run pins s σ H Q I (i σ H Q q)⟩
theorem pa_imp {X : Cx} {es : List Expr} {t t' : TA} (h : PA X es t) (i : ∀ σ H Q, t' σ H Q → t σ H Q) : PA X es t' := ⟨fun pos pins s σ H Q I q => h.run pos pins s σ H Q I (i σ H Q q)⟩
/-- _law_same -/
def spSame (K : PySem.W.Frag) : Sp := fun vs H Q _ => ∃ (x y : V) (d e : PyData), vs = [x, y] ∧ Dp K H x d ∧ Dp K H y e ∧ Fine d ∧ Fine e ∧ Q (.bl (decide (V.str (rtext d) = V.str (rtext e)))) H
end L3

/-! own exceptions over ValueError or KeyError: called; their built-in __init__ by super(); their first field. KeyError's __new__ is LookupError's, its __init__ its own -/
namespace L3
open PySem PySem.Spec PySem.W PySem.Calls
open PySem.HandSPX (excO)
abbrev keTail : List Value := [.type "KeyError", .type "LookupError", .type "Exception", .type "BaseException", .type "object"]
theorem kxs_KeyError : KxsFacts "KeyError" "KeyError.__init__" := ⟨by show builtinType _ = _; rw [builtinType_eq_fast]; kernel_rfl, by first | kernel_rfl | rfl⟩
theorem pass_KeyError (self : Value) : refuseLoop self "__setattr__" keTail = pure () := by kernel_rfl
/-- a built-in exception's __init__ -/
structure InitF (T i : String) : Prop where
  kind : builtinKind i = some .slot
  row : Manifest.signature? i = some ⟨.positional, "*", T, .self, [⟨"args", .varPos, false⟩]⟩
  star : (T != "*") = true
  plain : plainId i = true
  entry : entryFor table i = some Builtin.«BaseException.__init__»
theorem initF_of {T n i : String} (F : ExcCallFacts T n i) : InitF T i := ⟨F.initKind, F.initRow, F.noStar, F.init.plain, F.initEntry⟩
theorem initF_KeyError : InitF "KeyError" "KeyError.__init__" where
  kind := by kernel_rfl
  row := by kernel_rfl
  star := by decide +kernel
  plain := by decide +kernel
  entry := entryFor_alias (id' := "BaseException.__init__") (by rw [fastTable_eq_tree]; kernel_rfl) (by first | rfl | decide +kernel) (by decide +kernel) (by rw [fastTable_eq_tree]; kernel_rfl)
section
variable {prog : Program} {w : World} {A : Around} {E : Value → Shared → Prop} {h : Heap} {g : Array GenState} {d : Drawn} {t : Nat} {os : OsState} {nm q : Str} {C N : Addr} {bs bm : List Value} {hdct : Bool} {sn : List Str} {sub : List Value} {ab : Bool} {col : Option Bool} {dd : Option Addr} {k0 k1 k2 k3 k5 : Option Value} {T newId i : String} {us : List Value}
theorem bound_check (F : InitF T i) {e : Addr} {oe : Obj} {Q : Unit → Shared → Prop} (hC : h.get? C = some (excClassObj nm q C N bs bm hdct sn sub ab col dd k0 k1 k2 k3 k5 newId)) (he : h.get? e = some oe) (hcls : oe.cls = .ref C) (hq : Q () ⟨h, g, d, t, os⟩) :
    wpAny (model prog w) A (checkBoundCall i ⟨.ref e :: us, []⟩) Q E ⟨h, g, d, t, os⟩ := by
  have star := F.star
  simp only [checkBoundCall, F.kind, F.row]
  repeat (first
    | (with_reducible refine wpAny_loadPart_at he ?_
       rw [hcls])
    | with_reducible refine wpAny_loadPart_at hC ?_
    | wp_step)
  refine wpAny_onRaise ?_
  have e0 : ∀ (a b : String) (n : Nat), Bind.check ⟨.positional, "*", T, .self, [⟨"args", .varPos, false⟩]⟩ a b n (List.map (fun x => x.fst) ({ pos := Value.ref e :: us } : Args).kw) = pure () := fun a b n => check_star_args _ _ _ _ _ _
  rw [e0]
  exact wpAny_pure hq
/-- the built-in __init__, bound to the exception, called -/
theorem call_mw (F : InitF T i) {u e t0 : Addr} {Q : Value → Shared → Prop} (hC : h.get? C = some (excClassObj nm q C N bs bm hdct sn sub ab col dd k0 k1 k2 k3 k5 newId)) (he : h.get? e = some (excO C t0)) (hu : h.get? u = some (kxs_mw i e)) (hus : us.length ≤ sizeLine)
    (hq : ∀ h' t1, (∀ b o, b ≠ e → h.get? b = some o → h'.get? b = some o) → h'.get? e = some (excO C t1) → Q .none ⟨h', g, d, t, os⟩) : wpAny (model prog w) A (call (.ref u) us) Q E ⟨h, g, d, t, os⟩ := by
  have mw : (Value.type "method-wrapper" == Value.type "method" || Value.type "method-wrapper" == Value.type "builtin_function_or_method" || Value.type "method-wrapper" == Value.type "method-wrapper") = true := by decide
  refine wpAny_call (codeAny_of_tree ?_)
  show wpAny _ A.in1 (callAny (.ref u) ⟨us, []⟩) _ _ _
  simp only [callAny]
  refine wpAny_bind (wpAny_load hu ?_)
  simp only [kxs_mw, mw, if_true]
  refine KFB.if_so (by decide) (wpAny_bind (bound_check F hC he rfl (wpAny_bind (wpAny_pure (wpAny_pure ⟨plainId_quiet F.plain _, codeAny_builtin F.entry ?_⟩)))))
  exact exc_init_tree (cls := .ref C) (t0 := t0) (dv := none) (c2 := .none) (c3 := .none) (b4 := .bool false) he hus fun h' k e' _ => hq h' _ k e'
end
/-- what is asked of the built-in classes above an own one, when it is called -/
structure Above (B : String) (bm : List Value) : Prop where
  yes : bm.contains (.type B) = true
  noA : bm.contains (.type "AttributeError") = false
  noN : bm.contains (.type "NameError") = false
theorem above_ke : Above "LookupError" keTail := ⟨by decide +kernel, by decide +kernel, by decide +kernel⟩
section
variable {prog : Program} {w : World} {A : Around} {E : Value → Shared → Prop} {R : Result → Shared → Prop} {h : Heap} {g : Array GenState} {d : Drawn} {t : Nat} {os : OsState}
variable {nm q : Str} {C N : Addr} {bs bm bmB : List Value} {hdct : Bool} {sn : List Str} {sub : List Value} {ab : Bool} {col : Option Bool} {dd : Option Addr} {k0 k1 k2 k3 k5 : Option Value} {B newId initId : String} {us : List Value}
theorem with_own {v : Value} {b : Bool} (C : Addr) (hne : (v == Value.ref C) = false) (hb : bm.contains v = b) : (Value.ref C :: bm).contains v = b := by
  rw [List.contains_cons, hb, hne, Bool.false_or]
theorem above_check (F : ExcBaseFacts B newId initId bmB) (T : Above B bm) {Q : Unit → Shared → Prop} (hC : h.get? C = some (excClassObj nm q C N bs bm hdct sn sub ab col dd k0 k1 k2 k3 k5 newId)) (hq : Q () ⟨h, g, d, t, os⟩) :
    wpAny (model prog w) A (checkBuiltinCall newId ⟨.ref C :: us, []⟩) Q E ⟨h, g, d, t, os⟩ := by
  have c1 := with_own C rfl T.yes
  have star := F.noStar
  simp only [checkBuiltinCall, F.newKind, F.newSplit, F.newRow]
  repeat (first
    | refine wpAny_loadPart_at hC ?_
    | (refine wpAny_isSubtype_exc hC ?_
       rw [c1])
    | refine wpAny_staticBase_exc hC ?_
    | refine wpAny_madeBy_exc hC ?_
    | simp only [bne_self_eq_false, Bool.false_eq_true, if_false]
    | wp_step)
  exact hq
theorem above_new (F : ExcBaseFacts B newId initId bmB) (T : Above B bm) (hC : h.get? C = some (excClassObj nm q C N bs bm hdct sn sub ab col dd k0 k1 k2 k3 k5 newId)) (hus : us.length ≤ sizeLine)
    (hq : R (.ok (.ret (.ref (h.objs.size + 1)))) ⟨(h.push (W.kdv_tup us)).push (excO C h.objs.size), g, d, t, os⟩) : codeAny (model prog w) A (.builtin newId ⟨.ref C :: us, []⟩) R ⟨h, g, d, t, os⟩ := by
  have ends := F.ends
  have c1 := with_own C rfl T.yes
  have c2 := with_own C rfl T.noA
  have c3 := with_own C rfl T.noN
  refine codeAny_builtinAt F.entry ?_
  unfold Builtin.«BaseException.__new__»
  refine wpAt_bind ?_
  show wpAt _ _ _ (stack >>= _) _ _ _
  refine wpAt_bind (wpAt_stack fun p below => wpAt_of_wpAny ?_)
  wp_walk
  refine wpAt_of_wpAny ?_
  rw [F.owner]
  repeat (first
    | with_reducible refine wpAny_madeHere_exc F.canon hC ?_
    | with_reducible refine wpAny_loadPart_at hC ?_
    | (with_reducible refine wpAny_isSubtype_exc hC ?_
       first | rw [c1] | rw [c2] | rw [c3])
    | wp_step)
  show R _ _
  rw [Heap.size_push]
  exact hq
theorem above_type (F : ExcBaseFacts B newId initId bmB) (T : Above B bm) {fI : Addr} {Q : Fin → Shared → Prop} (hC : h.get? C = some (excClassObj nm q C N bs bm hdct sn sub ab col dd k0 k1 k2 k3 k5 newId)) (hi : Looks (model prog w) h (typeLookup (.ref C) "__init__") (some (.ref fI)))
    (hb : ∀ self, Looks (model prog w) h (bindSpecial (.ref fI) self) (.ref fI, [self])) (hus : us.length ≤ sizeLine)
    (hq : codeAny (model prog w) A (.call (.ref fI) ⟨.ref (h.objs.size + 1) :: us, []⟩)
      (fun r s' => match r with | .ok (.ret v) => v = .none ∧ Q (.done (.ret (.ref (h.objs.size + 1)))) s' | .ok _ => False | .error e => E e s') ⟨(h.push (W.kdv_tup us)).push (excO C h.objs.size), g, d, t, os⟩) :
    wpAny (model prog w) A (Builtin.«type.__call__» ⟨.ref C :: us, []⟩) Q E ⟨h, g, d, t, os⟩ := by
  repeat (first | with_reducible refine wpAny_loadPart_at hC ?_ | with_reducible refine wpAny_madeBy_exc hC ?_ | wp_step)
  refine codeAny_call_builtin_code (Code.quiet_builtin _ F.quiet) (above_check F T hC (above_new F T hC hus ?_))
  show wpAny _ _ _ _ _ _
  have up : ∀ b o, h.get? b = some o → ((h.push (W.kdv_tup us)).push (excO C h.objs.size)).get? b = some o := fun b o e => Heap.get?_push_of_some _ (Heap.get?_push_of_some _ e)
  have there : ((h.push (W.kdv_tup us)).push (excO C h.objs.size)).get? (h.objs.size + 1) = some (excO C h.objs.size) := by heap_get
  have cC := up _ _ hC
  have c0 : (Value.ref C :: bm).contains (.ref C) = true := by simp
  have look := hi.keeps up
  have bind := (hb (.ref (h.objs.size + 1))).keeps up
  unfold isInstance
  repeat (first
    | with_reducible refine wpAny_loadPart_at there ?_
    | (with_reducible refine wpAny_isSubtype_exc cC ?_
       rw [c0])
    | wp_step)
  show wpAny _ _ (typeLookup (.ref C) _) _ _ _
  refine look.at (wpAny_holding (wpAny_bind (bind.at (wpAny_bind (wpAny_call (codeAny_mono hq fun r s' z => ?_))))))
  match r, z with
  | .error e, z => exact z
  | .ok .next, z => exact z.elim
  | .ok .brk, z => exact z.elim
  | .ok .cont, z => exact z.elim
  | .ok (.ret v), ⟨hv, z⟩ =>
    subst hv
    first
      | exact wpAny_pure (wpAny_pure z)
      | (wp_walk; exact z)
theorem above_call (F : ExcBaseFacts B newId initId bmB) (T : Above B bm) {fI : Addr} (hC : h.get? C = some (excClassObj nm q C N bs bm hdct sn sub ab col dd k0 k1 k2 k3 k5 newId)) (hi : Looks (model prog w) h (typeLookup (.ref C) "__init__") (some (.ref fI)))
    (hb : ∀ self, Looks (model prog w) h (bindSpecial (.ref fI) self) (.ref fI, [self])) (hus : us.length ≤ sizeLine)
    (hq : codeAny (model prog w) (A.under (.builtin "type.__call__" ⟨.ref C :: us, []⟩)) (.call (.ref fI) ⟨.ref (h.objs.size + 1) :: us, []⟩) (W.InitBack (h.objs.size + 1) R) ⟨(h.push (W.kdv_tup us)).push (excO C h.objs.size), g, d, t, os⟩) :
    codeAny (model prog w) A (.call (.ref C) ⟨us, []⟩) R ⟨h, g, d, t, os⟩ := by
  have look := tc_lookup
  have bind := tc_bind (.ref C)
  have isT : (⟨h, g, d, t, os⟩ : Shared).TypeIs (.ref C) "type" := ⟨_, hC, rfl⟩
  refine codeAny_of_tree ?_
  show wpAny _ _ (callAny (.ref C) _) _ _ _
  repeat (any_goals (first | assumption | with_reducible refine wpAny_loadPart_at hC ?_ | wp_step))
  refine ⟨rfl, codeAny_call_builtin_at (Code.quiet_builtin _ (by decide +kernel)) entry_typeCall (wpAny_check_type_call_sub hC (above_type F T hC hi hb hus (codeAny_mono hq fun r s' z => ?_)))⟩
  match r, z with
  | .error e, z => exact z
  | .ok .next, z => exact z
  | .ok .brk, z => exact z
  | .ok .cont, z => exact z
  | .ok (.ret v), z => exact z
end

section
open Builtin Builtin.ObjectAttr
variable {prog : Program} {w : World} {A : Around} {E : Value → Shared → Prop} {R : Result → Shared → Prop} {hp : Heap} {g : Array GenState} {d : Drawn} {t : Nat} {os : OsState} {K : Frag} {name : Str} {tk : Tok} {v : Value} {x C : Addr} {fv : Array Value} {cd : ClassData}
/-- the first field of an own exception, whatever built-in class stands above -/
theorem first_field (X : K.In hp) (hx : hp.get? x = some { cls := .ref C, data := .fields fv }) (hcd : clsIn K C = some cd) (pass : refuseLoop (.ref x) "__setattr__" cd.mro = pure ()) (hne : cd.mro.isEmpty = false) (hob : cd.mro.contains (.type "object") = true) (hh : cd.hasDict = true)
    (ha : findIn K (.ref C) name = some none)
    (hq : ∀ h' tk' dx, (∀ b o, b ≠ x → hp.get? b = some o → h'.get? b = some o) → hp.objs.size ≤ dx → dx ≠ x → h'.get? x = some { cls := .ref C, dict := some dx, data := .fields fv } → h'.Ns1 dx (fun y => if y = name then some v else none) →
      R (.ok (.ret .none)) ⟨h', g, d, tk', os⟩) : codeAny (model prog w) A (.call (.builtin "object.__setattr__") ⟨[.ref x, .str name tk, v], []⟩) R ⟨hp, g, d, t, os⟩ := by
  have SF := F.store_object
  have J : InstAt hp x { cls := .ref C, data := .fields fv } C none := ⟨hx, rfl, rfl, trivial⟩
  have xs : x ≠ hp.objs.size := Nat.ne_of_lt (Heap.lt_size hx)
  have isO : Looks (model prog w) hp (isInstance (.ref x) (.type "object")) true := J.type.andThen (looks_mroIn X (by unfold mroIn; rw [hcd, Option.bind_some, if_neg (by rw [hne]; decide), hob]))
  have mro : Looks (model prog w) hp (mroOf (.ref C)) cd.mro := (looks_clsIn X hcd).andThen .now
  have noT : Looks (model prog w) hp (storeTaker? none) none := .now
  have data : Looks (model prog w) hp (classData C) cd := looks_clsIn X hcd
  refine codeAny_call_builtin SF.slot.plain SF.entry (@check_slot (model prog w) _ _ ⟨hp, g, d, t, os⟩ "object.__setattr__" "object" "__setattr__" (.ref x) [.str name tk, v] [] _ SF.kind SF.split isO (SF.args (.ref x) (.str name tk) v) ?_)
  rw [osa_eq, refuse_eq]
  refine wpAny_bind (wpAny_bind (J.type.at (wpAny_bind (mro.at ?_))))
  rw [pass]
  refine wpAny_pure (wpAny_bind (J.type.at (wpAny_bind ((looks_findIn X ha).at (wpAny_bind (noT.at ?_))))))
  show wpAny _ _ (storeInOwnDict (.ref x) (.ref C) (.str name tk) name v false) _ _ _
  obtain ⟨nm, bs, mr, ns, qn, hd, sn, sb, ab, col, del⟩ := cd
  dsimp only at hh
  subst hh
  unfold storeInOwnDict ownDictForStores
  repeat (first
    | with_reducible refine PySem.HandSPX.store_in_new ?_ ?_
    | with_reducible refine wpAny_loadPart_at hx ?_
    | with_reducible refine data.at ?_
    | wp_step)
  · exact ⟨_, #[], _, (Heap.get?_update_ne _ _ _ _ xs.symm).trans (Heap.get?_push_at rfl rfl), rfl, fun e he => absurd he (by simp), fun _ => rfl⟩
  · intro h' tk' hn hs
    have hx1 : (hp.push { cls := .type "dict", data := .dict #[] }).get? x = some { cls := .ref C, data := .fields fv } := Heap.get?_push_of_some _ hx
    exact hq h' tk' hp.objs.size (fun b o hb ho => (hs.2 b (Nat.ne_of_lt (Heap.lt_size ho))).trans ((Heap.get?_update_ne _ _ _ _ hb).trans (Heap.get?_push_of_some _ ho))) (Nat.le_refl _) xs.symm ((hs.2 x xs).trans (Heap.get?_update_self _ hx1 rfl)) hn
end
end L3

/-! own exceptions whose __init__ says super().__init__('..') and then stores fields -/
namespace L3
open PySem PySem.Spec PySem.W PySem.Calls PyProof.Rows
open PySem.HandSPX (excO refsVE refsVE_contains veTail)

/-- what stands around the line super().__init__('..') in the __init__ of the class at C, for the object at x -/
structure Sup (K : Frag) (prog : Program) (mg : Str → Option Value) (T i newId : String) (env : Env) (fI cda cc C x : Addr) (fd : FuncData) (h : Heap) : Prop where
  kin : K.In h
  glob : h.Ns mainGlobals mg
  blt : ∃ mb, h.Ns builtinsNs mb ∧ ∀ x : Str, x ≠ "__name__" → mb x = bootBuiltins x
  noS : mg "super" = none
  ks : env.kindOf "super" = some .globalImplicit
  kc : env.kindOf "__class__" = some .free
  kk : env.scope.kind = .function
  fu : env.func = some fI
  co : env.code = .ref cda
  gl : env.globals = mainGlobals
  bl : env.builtins = builtinsNs
  cell : env.cells.lookup ("__class__" : Str) = some cc
  fO : ∃ of, h.get? fI = some of ∧ of.data = .func fd
  ar : ∃ ar : Arg, (fd.params.posonlyargs ++ fd.params.args).head? = some ar ∧ env.kindOf ar.arg = some .local ∧ ∃ m, h.Ns env.locals m ∧ m ar.arg = some (.ref x)
  cO : ∃ oc vs file tf, h.get? cda = some oc ∧ oc.data = .fields vs ∧ vs[2]? = some (.str file tf) ∧ ((prog.main.file : Str) == file) = true
  top : (prog.main.scope.names.lookup ("super" : Str)).isSome = false
  ccO : h.IsCell cc (some (.ref C))
  cls : ∃ cd, clsIn K C = some cd ∧ alongIn K "__init__" ((cd.mro.dropWhile (· != .ref C)).drop 1) = some (some (.builtin i))
  obj : ∃ nm q N bs bm hdct sn sub ab col dd k0 k1 k2 k3 k5, h.get? C = some (excClassObj nm q C N bs bm hdct sn sub ab col dd k0 k1 k2 k3 k5 newId)
  subT : subIn K (.ref C) (.type T) = some true
  subC : subIn K (.ref C) (.ref C) = some true
  opq : nsIn K cStatics "thirdparty.any" = some none
  exO : ∃ t0, h.get? x = some (excO C t0)
section
variable {prog : Program} {w : World} {A : Around} {E : Value → Shared → Prop} {K : Frag} {mg : Str → Option Value} {env : Env} {fI cda cc C x : Addr} {fd : FuncData} {s : Shared} {body : List Stmt} {m : Str} {j : Nat} {pl : Sem Bool} {p0 p1 p2 p3 p4 p5 : Pos} {T i newId : String}
theorem sup_step (FB : InitF T i) (KF : KxsFacts T i) (S : Sup K prog mg T i newId env fI cda cc C x fd s.heap) {Q : Flow → Shared → Prop}
    (hq : ∀ h' tk t1, (∀ b o, b ≠ x → s.heap.get? b = some o → h'.get? b = some o) → h'.get? x = some (excO C t1) → Q .next { s with heap := h', toks := tk }) 
    (hi : interactive env = false := by rfl) (hs : swapsWith (.Call (.Attribute (.Call (.Name "super" p0) [] [] p1) "__init__" p2) [.Constant (.str m) j p3] [] p4) none p5.line env = pure false := by rfl)
    (he : eval (.Call (.Attribute (.Call (.Name "super" p0) [] [] p1) "__init__" p2) [.Constant (.str m) j p3] [] p4) env = (do
      let ov ← attributeBase (.Call (.Name "super" p0) [] [] p1) "__init__" env (eval (.Call (.Name "super" p0) [] [] p1) env)
      standAt p2.atName
      let (f, first) ← holding [ov] (getMethod ov "__init__" pl)
      callWith p4 f first (backTo p4 (starEach [.Constant (.str m) j p3] env)) []) := by rfl) :
    PySem.wpAt (model prog w) A (.func body env) (exec (.Expr (.Call (.Attribute (.Call (.Name "super" p0) [] [] p1) "__init__" p2) [.Constant (.str m) j p3] [] p4) p5) env) Q E s := by
  obtain ⟨of, hf, hfd⟩ := S.fO
  obtain ⟨ar, har, hka, ml, hnl, hml⟩ := S.ar
  obtain ⟨oc, vs, file, tf, hc1, hc2, hc3, hc4⟩ := S.cO
  obtain ⟨mb, hb, hbb⟩ := S.blt
  obtain ⟨cd, hcd, hal⟩ := S.cls
  obtain ⟨nm, q, N, bs, bm, hdct, sn, sub, ab, col, dd, k0, k1, k2, k3, k5, hC⟩ := S.obj
  obtain ⟨t0, hx⟩ := S.exO
  have kin := S.kin
  have hgl := S.glob
  have S_gl := S.gl
  have S_bl := S.bl
  have S_cc := S.ccO
  obtain ⟨hh, g, d, t, os⟩ := s
  dsimp only at *
  refine ks_wpAt_Expr_any ?_ hi hs
  refine ks_wpAt_MethodCall (pl := pl) ?_ he
  refine ks_wpAt_super_base S.ks S.kc (by decide) S.fu hf hfd har S.co hc1 hc2 hc3 hc4 S.top ?_
  refine ks_loadName_global S.kk S.ks (loadGlobal_builtin (env := env) (by rw [S_gl]; exact hgl) S.noS (by rw [S_bl]; exact hb) ((hbb _ (by decide +kernel)).trans (by decide +kernel : bootBuiltins "super" = some (.type "super"))) ⟨rfl, ?_⟩)
  refine wpAny_loadName_free S.kk S.kc S.cell S_cc ?_
  refine wpAny_loadName_local S.kk hka hnl hml ?_
  refine ks_wpAny_isType_cls hC rfl ⟨rfl, ?_⟩
  refine ks_wpAny_call_super hC rfl hx rfl (fun c e => by cases e) (looks_subIn kin S.subC) (fun h1 e1 k1' => ?_)
  have hx1 := k1' _ _ hx
  have kin1 : K.In h1 := kin.keeps k1'
  have hI1 : Looks (model prog w) h1 (isInstance (.ref x) (.type T)) true := by
    have I : InstAt h1 x (excO C t0) C none := ⟨hx1, rfl, rfl, trivial⟩
    exact I.type.andThen (looks_subIn kin1 S.subT)
  have hxC : x ≠ C := by
    rintro rfl
    rw [hC] at hx
    have y := Option.some.inj hx
    cases congrArg Obj.data y
  refine kxs_getMethod KF e1 (looks_opaque kin1 S.opq) (l₀ := cd.mro) ((looks_clsIn kin1 hcd).andThen .now) rfl kin1 hal hI1 hxC (by decide) ?_
  have hu : (h1.push (kxs_mw i x)).get? h1.objs.size = some (kxs_mw i x) := Heap.get?_push_at rfl rfl
  have k2' : ∀ b o, hh.get? b = some o → (h1.push (kxs_mw i x)).get? b = some o := fun b o e => Heap.get?_push_of_some _ (k1' b o e)
  refine kxs_callWith (i := i) (x := x) rfl ?_
  refine evalArgs_plain (spliced_cons (Constant_str (k := j) (pos := p3) (spliced_nil ⟨hu, ?_⟩)))
  refine call_mw FB (k2' _ _ hC) (k2' _ _ hx) hu (show 1 ≤ sizeLine by decide) (fun h' t1 k3' e3 => ?_)
  refine hq h' _ t1 (fun b o hb ho => k3' b o hb (k2' b o ho)) e3
end

/-- a class over ValueError -/
def OverVE (K : Frag) (C : Addr) : Prop := ∃ cd, clsIn K C = some cd ∧ refsVE cd.mro = true ∧ cd.hasDict = true
/-- the object with its fields' dict -/
abbrev excD (C t dx : Addr) : Obj := { cls := .ref C, dict := some dx, data := .fields #[.ref t, .none, .none, .none, .bool false, .none] }
/-- what the class says of stores -/
structure Sto (K : Frag) (C : Addr) : Prop where
  cls : ∃ cd, clsIn K C = some cd ∧ (∀ self, refuseLoop self "__setattr__" cd.mro = pure ()) ∧ cd.mro.isEmpty = false ∧ cd.mro.contains (.type "object") = true ∧ cd.hasDict = true
  sa : findIn K (.ref C) "__setattr__" = some (some (.builtin "object.__setattr__"))
section
variable {prog : Program} {w : World} {A : Around} {E : Value → Shared → Prop} {K : Frag} {env : Env} {C x t dx : Addr} {s : Shared} {body : List Stmt} {f y : Str} {u : Value} {p5 p6 p7 p8 : Pos} {ml m0 : Str → Option Value} {nl : List Str}
theorem fld_eval {Q : Value → Shared → Prop} {c : Code} (hk : env.scope.kind = .function) (hy : env.kindOf y = some .local) (hn : s.heap.Ns env.locals ml) (hv : ml y = some u) (hd : (y == ("__debug__" : Str)) = false) (h : Q u s) : PySem.wpAt (model prog w) A c (eval (.Name y p7) env) Q E s :=
  wpAt_of_wpAny (wpAny_Name (wpAny_loadName_local hk hy hn hv h) hd)
theorem sto_ve (h : OverVE K C) (sa : findIn K (.ref C) "__setattr__" = some (some (.builtin "object.__setattr__"))) : Sto K C := by
  obtain ⟨cd, h1, h2, h3⟩ := h
  exact ⟨⟨cd, h1, fun self => PySem.HandSPX.refsVE_pass self _ h2, PySem.HandSPX.refsVE_ne h2, (refsVE_contains "object" _ h2).trans (by decide +kernel), h3⟩, sa⟩
/-- self.f = y, the first field -/
theorem fld1 {Q : Flow → Shared → Prop} (T : Sto K C) (kin : K.In s.heap) (hx : s.heap.get? x = some (excO C t)) (hno : findIn K (.ref C) f = some none) (hk : env.scope.kind = .function) (hS : env.kindOf "self" = some .local) (hy : env.kindOf y = some .local)
    (hn : s.heap.Ns env.locals ml) (hself : ml "self" = some (.ref x)) (hv : ml y = some u) (hd : (y == ("__debug__" : Str)) = false)
    (hq : ∀ h' tk dx, (∀ b o, b ≠ x → s.heap.get? b = some o → h'.get? b = some o) → s.heap.objs.size ≤ dx → dx ≠ x → h'.get? x = some (excD C t dx) → h'.Ns1 dx (fun z => if z = f then some u else none) → Q .next { s with heap := h', toks := tk })
    (hs : swapsWith (.Name y p7) (some (.Attribute (.Name "self" p5) f p6)) p8.line env = pure false := by rfl) :
    PySem.wpAt (model prog w) A (.func body env) (exec (.Assign [.Attribute (.Name "self" p5) f p6] (.Name y p7) p8) env) Q E s := by
  obtain ⟨cd, hcd, hpa, hem, hob, hdi⟩ := T.cls
  refine ks_wpAt_Assign_Attr (fld_eval hk hy hn hv hd ?_) hs
  refine wpAny_Name (wpAny_loadName_local hk hS hn hself ?_) (by decide)
  refine set_plain kin (ox := excO C t) (od := none) ⟨hx, rfl, rfl, trivial⟩ T.sa ?_
  obtain ⟨hh, g, d, tk0, os⟩ := s
  exact first_field kin hx hcd (hpa _) hem hob hdi hno fun h' tk' dx k n1 n2 e1 e2 => hq h' tk' dx k n1 n2 e1 e2
/-- self.f = y, a further field -/
theorem fld2 {Q : Flow → Shared → Prop} (T : Sto K C) (V : OverVE K C) (kin : K.In s.heap) (hx : s.heap.get? x = some (excD C t dx)) (hns : s.heap.Ns1 dx m0) (hw : Within m0 nl) (hz : nl.length ≤ 1000) (hno : findIn K (.ref C) f = some none) (hk : env.scope.kind = .function) (hS : env.kindOf "self" = some .local) (hy : env.kindOf y = some .local)
    (hn : s.heap.Ns env.locals ml) (hself : ml "self" = some (.ref x)) (hv : ml y = some u) (hd : (y == ("__debug__" : Str)) = false)
    (hq : ∀ h' tk, (∀ b o, b ≠ dx → s.heap.get? b = some o → h'.get? b = some o) → h'.Ns1 dx (fun z => if z = f then some u else m0 z) → Q .next { s with heap := h', toks := tk })
    (hs : swapsWith (.Name y p7) (some (.Attribute (.Name "self" p5) f p6)) p8.line env = pure false := by rfl) :
    PySem.wpAt (model prog w) A (.func body env) (exec (.Assign [.Attribute (.Name "self" p5) f p6] (.Name y p7) p8) env) Q E s := by
  obtain ⟨cd, hcd, hre, hdi⟩ := V
  obtain ⟨oD, _, _, hoD, _, _⟩ := hns.count hw
  refine ks_wpAt_Assign_Attr (fld_eval hk hy hn hv hd ?_) hs
  refine wpAny_Name (wpAny_loadName_local hk hS hn hself ?_) (by decide)
  refine set_plain kin (ox := excD C t dx) (od := some oD) ⟨hx, rfl, rfl, hoD⟩ T.sa ?_
  obtain ⟨hh, g, d, tk0, os⟩ := s
  exact PySem.OEX.osa_old kin hx hns hw hz hcd hre hdi hno fun h' tk' k n => hq h' tk' k n
end
end L3

namespace L3
open PySem PySem.Spec PySem.W PySem.Calls PyProof.Rows L2
open PySem.HandSPX (excO refsVE refsVE_contains veTail)

theorem lk_cons {α : Type} (f g : Str) (y : α) (l : List (Str × α)) : ((f, y) :: l).lookup g = if g = f then some y else l.lookup g := by
  by_cases h : g = f
  · rw [if_pos h, h, List.lookup_cons]
    simp
  · have e : (g == f) = false := by simp [h]
    rw [List.lookup_cons, e, if_neg h]
/-- what the written part says of an __init__ that closes over __class__ -/
structure SupK (K : Frag) (prog : Program) (mg : Str → Option Value) (T i newId : String) (C fI cc cda : Addr) (fd : FuncData) (qual : Str) : Prop where
  noS : mg "super" = none
  fO : ∃ oc od osl, K.lookup fI = some ⟨oc, od, .func fd, osl⟩
  cO : ∃ oc od vs osl file tf, K.lookup cda = some ⟨oc, od, .fields vs, osl⟩ ∧ vs[2]? = some (.str file tf) ∧ ((prog.main.file : Str) == file) = true
  cIn : codeIn K (.ref cda) qual = true
  top : (prog.main.scope.names.lookup ("super" : Str)).isSome = false
  ccO : ∃ oc od osl, K.lookup cc = some ⟨oc, od, .cell (some (.ref C)), osl⟩
  cls : ∃ cd, clsIn K C = some cd ∧ alongIn K "__init__" ((cd.mro.dropWhile (· != .ref C)).drop 1) = some (some (.builtin i))
  obj : ∃ nm q N bs bm hdct sn sub ab col dd k0 k1 k2 k3 k5, K.lookup C = some (excClassObj nm q C N bs bm hdct sn sub ab col dd k0 k1 k2 k3 k5 newId)
  subT : subIn K (.ref C) (.type T) = some true
  subC : subIn K (.ref C) (.ref C) = some true
  opq : nsIn K cStatics "thirdparty.any" = some none
  sto : Sto K C
/-- the module's facts at a state -/
structure Gnd (K : Frag) (mg : Str → Option Value) (h : Heap) : Prop where
  kin : K.In h
  glob : h.Ns mainGlobals mg
  blt : ∃ mb, h.Ns builtinsNs mb ∧ ∀ x : Str, x ≠ "__name__" → mb x = bootBuiltins x
  lim : h.NoLimit
theorem Gnd.keeps {K : Frag} {mg : Str → Option Value} {h h' : Heap} (x : Gnd K mg h) (k : ∀ b o, h.get? b = some o → h'.get? b = some o) : Gnd K mg h' :=
  let ⟨mb, b1, b2⟩ := x.blt
  ⟨x.kin.keeps k, x.glob.keeps k, ⟨mb, b1.keeps k, b2⟩, x.lim.keeps k⟩
theorem Gnd.of {X : Cx} {pins : List (Addr × Obj)} {σ : L2.St} {H : Hp} {s : Shared} (I : Inv X pins σ H s) : Gnd X.K X.mg s.heap :=
  let ⟨mb, b1, b2⟩ := I.mod.blt
  ⟨I.kIn, I.mod.glob.keeps I.bk, ⟨mb, b1.keeps I.bk, b2⟩, I.nolimit⟩
/-- an __init__ that stores its arguments in the fields fs of the exception it is called on -/
def InitOk (P : Program) (w : World) (K : Frag) (mg : Str → Option Value) (C fI : Addr) (fs : List Str) : Prop :=
  ∀ (A : Around) (hb : Heap) (s : Shared) (x t0 : Addr) (us : List Value) (R : Result → Shared → Prop), A.depth < recursionLimit → Gnd K mg hb → (∀ b o, hb.get? b = some o → s.heap.get? b = some o) → hb.get? x = none → s.heap.get? x = some (excO C t0) → us.length = fs.length →
    (∀ h' tk t1 dx m, (∀ b o, b ≠ x → s.heap.get? b = some o → h'.get? b = some o) → s.heap.get? dx = none → dx ≠ x → h'.get? x = some (excD C t1 dx) → h'.Ns1 dx m → (∀ z, m z = (fs.zip us).reverse.lookup z) → R (.ok (.ret .none)) { s with heap := h', toks := tk }) →
    codeAny (model P w) A (.call (.ref fI) ⟨.ref x :: us, []⟩) R s
section
variable {P : Program} {w : World} {K : Frag} {mg : Str → Option Value} {C fI cc cda : Addr} {qual : Str} {params : Arguments} {body : List Stmt} {scope : Scope} {dV kV doc pm ct : Value} {an : Option Addr} {T i newId : String}
abbrev initFn (qual : Str) (params : Arguments) (body : List Stmt) (scope : Scope) (dV kV doc pm : Value) (an : Option Addr) (cda : Addr) (ct : Value) (cc : Addr) : FuncData := ksFn "__init__" qual params body scope dV kV doc pm an (.ref cda) ct cc
/-- the environment of such a def's body -/
abbrev initEnv (qual : Str) (scope : Scope) (L f cda cc : Addr) : Env := ksEnv qual scope L f (.ref cda) cc
theorem sup_of {h : Heap} {L x t0 : Addr} {ml : Str → Option Value} (S : SupK K P mg T i newId C fI cc cda (initFn qual params body scope dV kV doc pm an cda ct cc) qual) (G : Gnd K mg h) (hn : h.Ns L ml) (hs : ml "self" = some (.ref x)) (hx : h.get? x = some (excO C t0))
    (ar : (params.posonlyargs ++ params.args).head?.map (·.arg) = some ("self" : Str)) (k1 : scope.names.lookup ("super" : Str) = some .globalImplicit) (k2 : scope.names.lookup ("__class__" : Str) = some .free) (k3 : scope.names.lookup ("self" : Str) = some .local) (k4 : scope.kind = .function) :
    Sup K P mg T i newId (initEnv qual scope L fI cda cc) fI cda cc C x (initFn qual params body scope dV kV doc pm an cda ct cc) h := by
  obtain ⟨oc, od, osl, fO⟩ := S.fO
  obtain ⟨oc2, od2, vs, osl2, file, tf, c1, c2, c3⟩ := S.cO
  obtain ⟨oc3, od3, osl3, ccO⟩ := S.ccO
  obtain ⟨nm, q, N, bs, bm, hdct, sn, sub, ab, col, dd, j0, j1, j2, j3, j5, hC⟩ := S.obj
  refine ⟨G.kin, G.glob, G.blt, S.noS, k1, k2, k4, rfl, rfl, rfl, rfl, rfl, ⟨_, G.kin _ _ fO, rfl⟩, ?_, ⟨_, vs, file, tf, G.kin _ _ c1, rfl, c2, c3⟩, S.top, ⟨_, G.kin _ _ ccO, rfl⟩, S.cls, ⟨nm, q, N, bs, bm, hdct, sn, sub, ab, col, dd, j0, j1, j2, j3, j5, G.kin _ _ hC⟩, S.subT, S.subC, S.opq, ⟨t0, hx⟩⟩
  show ∃ a : Arg, (params.posonlyargs ++ params.args).head? = some a ∧ _
  cases e : (params.posonlyargs ++ params.args).head? with
  | none => rw [e] at ar; cases ar
  | some a =>
    rw [e] at ar
    have ea : a.arg = "self" := Option.some.inj ar
    exact ⟨a, rfl, by rw [ea]; exact k3, ml, hn, by rw [ea]; exact hs⟩
/-- __init__(self, y): super().__init__('..'); self.f = y -/
theorem init1 {m f y : Str} {j : Nat} {pl : Sem Bool} {p0 p1 p2 p3 p4 p5 q5 q6 q7 q8 : Pos} (FB : InitF T i) (KF : KxsFacts T i)
    (S : SupK K P mg T i newId C fI cc cda (initFn qual params body scope dV kV doc pm an cda ct cc) qual)
    (hb : body = [.Expr (.Call (.Attribute (.Call (.Name "super" p0) [] [] p1) "__init__" p2) [.Constant (.str m) j p3] [] p4) p5, .Assign [.Attribute (.Name "self" q5) f q6] (.Name y q7) q8])
    (hf : findIn K (.ref C) f = some none) (ar : (params.posonlyargs ++ params.args).head?.map (·.arg) = some ("self" : Str))
    (k1 : scope.names.lookup ("super" : Str) = some .globalImplicit) (k2 : scope.names.lookup ("__class__" : Str) = some .free) (k3 : scope.names.lookup ("self" : Str) = some .local) (k4 : scope.kind = .function)
    (k5 : scope.names.lookup y = some .local) (k6 : scope.isCoroutine = false) (k7 : scope.isGenerator = false) (k8 : ∀ z ∈ scope.names, z.2 ≠ .cell) (ny : (y == ("self" : Str)) = false) (hd : (y == ("__debug__" : Str)) = false)
    (hbind : ∀ a u, bindArgs (initFn qual params body scope dV kV doc pm an cda ct cc) ⟨[a, u], []⟩ = pure [(("self" : Str), a), (y, u)])
    (hi : ∀ L, interactive (initEnv qual scope L fI cda cc) = false) (hs : ∀ L, swapsWith (.Call (.Attribute (.Call (.Name "super" p0) [] [] p1) "__init__" p2) [.Constant (.str m) j p3] [] p4) none p5.line (initEnv qual scope L fI cda cc) = pure false)
    (he : ∀ L, eval (.Call (.Attribute (.Call (.Name "super" p0) [] [] p1) "__init__" p2) [.Constant (.str m) j p3] [] p4) (initEnv qual scope L fI cda cc) = (do
      let ov ← attributeBase (.Call (.Name "super" p0) [] [] p1) "__init__" (initEnv qual scope L fI cda cc) (eval (.Call (.Name "super" p0) [] [] p1) (initEnv qual scope L fI cda cc))
      standAt p2.atName
      let (g, first) ← holding [ov] (getMethod ov "__init__" pl)
      callWith p4 g first (backTo p4 (starEach [.Constant (.str m) j p3] (initEnv qual scope L fI cda cc))) []))
    (hs2 : ∀ L, swapsWith (.Name y q7) (some (.Attribute (.Name "self" q5) f q6)) q8.line (initEnv qual scope L fI cda cc) = pure false) : InitOk P w K mg C fI [f] := by
  intro A hB s x t0 us R hr GB kB nB hx hl hq
  have G := GB.keeps kB
  match us, hl with
  | [u], _ =>
  obtain ⟨oc, od, osl, fO⟩ := S.fO
  refine ks_codeAny_call_defAt (fd := initFn qual params body scope dV kV doc pm an cda ct cc) (body := body) (binds := [(("self" : Str), .ref x), (y, u)]) hr (G.kin _ _ fO) rfl G.lim (codeRec_of G.kin S.cIn) rfl (.of_eq (hbind _ _)) k8 ?_ (fun h₀ hn k => ?_) k6 k7 k4
  · intro z hz
    rcases List.mem_cons.mp hz with rfl | hz
    · exact k3
    · rcases List.mem_cons.mp hz with rfl | hz
      · exact k5
      · cases hz
  · have hn' : h₀.Ns s.heap.objs.size (fun z => if z = y then some u else if z = "self" then some (.ref x) else none) := by
      have e : (fun z => List.lookup z [(("self" : Str), Value.ref x), (y, u)].reverse) = (fun z => if z = y then some u else if z = "self" then some (.ref x) else none) := by
        funext z
        show List.lookup z [(y, u), (("self" : Str), Value.ref x)] = _
        rw [lk_cons, lk_cons, List.lookup_nil]
      rw [← e]
      exact hn
    have ne : ¬ (("self" : Str) = y) := fun z => by rw [← z] at ny; simp at ny
    have G0 := G.keeps k
    have xL : x ≠ s.heap.objs.size := Nat.ne_of_lt (Heap.lt_size hx)
    have vS : (if (("self" : Str) = y) then some u else if (("self" : Str) = "self") then some (.ref x) else none) = some (.ref x) := by rw [if_neg ne, if_pos rfl]
    have bx : ∀ {b : Addr} {o : Obj}, hB.get? b = some o → b ≠ x := fun {b o} e z => by rw [z, nB] at e; cases e
    rw [hb]
    refine ks_wpAt_execs_cons (sup_step FB KF (sup_of S G0 hn' vS (k _ _ hx) ar k1 k2 k3 k4) (fun h1 tk1 t1 kk1 e1 => ?_) (hi _) (hs _) (he _))
    have G1 : Gnd K mg h1 := GB.keeps fun b o e => kk1 b o (bx e) (k b o (kB b o e))
    have n1 : h1.Ns s.heap.objs.size (fun z => if z = y then some u else if z = "self" then some (.ref x) else none) := hn'.at fun o e => kk1 _ o (Ne.symm xL) e
    refine ks_wpAt_execs_cons (fld1 (y := y) S.sto G1.kin e1 hf k4 k3 k5 n1 vS (by rw [if_pos rfl]) hd (fun h2 tk2 dx kk2 n2 ne2 e2 e3 => ?_) (hs2 _))
    refine wpAt_of_wpAny (wpAny_execs_nil ?_)
    refine hq h2 tk2 t1 dx _ (fun b o hb' ho => kk2 b o hb' (kk1 b o hb' (k b o ho))) ?_ ne2 e2 e3 (fun z => ?_)
    · cases q : s.heap.get? dx with
      | none => rfl
      | some o => exact absurd (Heap.lt_size (kk1 dx o ne2 (k dx o q))) (Nat.not_lt.mpr n2)
    · show _ = List.lookup z [(f, u)]
      rw [lk_cons, List.lookup_nil]
/-- __init__(self, y, y2): super().__init__('..'); self.f = y; self.f2 = y2 -/
theorem init2 {m f y f2 y2 : Str} {j : Nat} {pl : Sem Bool} {p0 p1 p2 p3 p4 p5 q5 q6 q7 q8 r5 r6 r7 r8 : Pos} (FB : InitF T i) (KF : KxsFacts T i)
    (S : SupK K P mg T i newId C fI cc cda (initFn qual params body scope dV kV doc pm an cda ct cc) qual)
    (hb : body = [.Expr (.Call (.Attribute (.Call (.Name "super" p0) [] [] p1) "__init__" p2) [.Constant (.str m) j p3] [] p4) p5, .Assign [.Attribute (.Name "self" q5) f q6] (.Name y q7) q8, .Assign [.Attribute (.Name "self" r5) f2 r6] (.Name y2 r7) r8])
    (V : OverVE K C) (hf : findIn K (.ref C) f = some none) (hf2 : findIn K (.ref C) f2 = some none) (ar : (params.posonlyargs ++ params.args).head?.map (·.arg) = some ("self" : Str))
    (k1 : scope.names.lookup ("super" : Str) = some .globalImplicit) (k2 : scope.names.lookup ("__class__" : Str) = some .free) (k3 : scope.names.lookup ("self" : Str) = some .local) (k4 : scope.kind = .function)
    (k5 : scope.names.lookup y = some .local) (k52 : scope.names.lookup y2 = some .local) (k6 : scope.isCoroutine = false) (k7 : scope.isGenerator = false) (k8 : ∀ z ∈ scope.names, z.2 ≠ .cell) (ny : (y == ("self" : Str)) = false) (hd : (y == ("__debug__" : Str)) = false) (ny2 : (y2 == ("self" : Str)) = false) (hd2 : (y2 == ("__debug__" : Str)) = false) (nyy : (y == y2) = false)
    (hbind : ∀ a u u2, bindArgs (initFn qual params body scope dV kV doc pm an cda ct cc) ⟨[a, u, u2], []⟩ = pure [(("self" : Str), a), (y, u), (y2, u2)])
    (hi : ∀ L, interactive (initEnv qual scope L fI cda cc) = false) (hs : ∀ L, swapsWith (.Call (.Attribute (.Call (.Name "super" p0) [] [] p1) "__init__" p2) [.Constant (.str m) j p3] [] p4) none p5.line (initEnv qual scope L fI cda cc) = pure false)
    (he : ∀ L, eval (.Call (.Attribute (.Call (.Name "super" p0) [] [] p1) "__init__" p2) [.Constant (.str m) j p3] [] p4) (initEnv qual scope L fI cda cc) = (do
      let ov ← attributeBase (.Call (.Name "super" p0) [] [] p1) "__init__" (initEnv qual scope L fI cda cc) (eval (.Call (.Name "super" p0) [] [] p1) (initEnv qual scope L fI cda cc))
      standAt p2.atName
      let (g, first) ← holding [ov] (getMethod ov "__init__" pl)
      callWith p4 g first (backTo p4 (starEach [.Constant (.str m) j p3] (initEnv qual scope L fI cda cc))) []))
    (hs2 : ∀ L, swapsWith (.Name y q7) (some (.Attribute (.Name "self" q5) f q6)) q8.line (initEnv qual scope L fI cda cc) = pure false)
    (hs3 : ∀ L, swapsWith (.Name y2 r7) (some (.Attribute (.Name "self" r5) f2 r6)) r8.line (initEnv qual scope L fI cda cc) = pure false) : InitOk P w K mg C fI [f, f2] := by
  intro A hB s x t0 us R hr GB kB nB hx hl hq
  have G := GB.keeps kB
  match us, hl with
  | [u, u2], _ =>
  obtain ⟨oc, od, osl, fO⟩ := S.fO
  refine ks_codeAny_call_defAt (fd := initFn qual params body scope dV kV doc pm an cda ct cc) (body := body) (binds := [(("self" : Str), .ref x), (y, u), (y2, u2)]) hr (G.kin _ _ fO) rfl G.lim (codeRec_of G.kin S.cIn) rfl (.of_eq (hbind _ _ _)) k8 ?_ (fun h₀ hn k => ?_) k6 k7 k4
  · intro z hz
    rcases List.mem_cons.mp hz with rfl | hz
    · exact k3
    · rcases List.mem_cons.mp hz with rfl | hz
      · exact k5
      · rcases List.mem_cons.mp hz with rfl | hz
        · exact k52
        · cases hz
  · have hn' : h₀.Ns s.heap.objs.size (fun z => if z = y2 then some u2 else if z = y then some u else if z = "self" then some (.ref x) else none) := by
      have e : (fun z => List.lookup z [(("self" : Str), Value.ref x), (y, u), (y2, u2)].reverse) = (fun z => if z = y2 then some u2 else if z = y then some u else if z = "self" then some (.ref x) else none) := by
        funext z
        show List.lookup z [(y2, u2), (y, u), (("self" : Str), Value.ref x)] = _
        rw [lk_cons, lk_cons, lk_cons, List.lookup_nil]
      rw [← e]
      exact hn
    have ne : ¬ (("self" : Str) = y) := fun z => by rw [← z] at ny; simp at ny
    have ne2 : ¬ (("self" : Str) = y2) := fun z => by rw [← z] at ny2; simp at ny2
    have neyy : ¬ (y = y2) := fun z => by rw [← z] at nyy; simp at nyy
    have G0 := G.keeps k
    have xL : x ≠ s.heap.objs.size := Nat.ne_of_lt (Heap.lt_size hx)
    have vS : (if (("self" : Str) = y2) then some u2 else if (("self" : Str) = y) then some u else if (("self" : Str) = "self") then some (.ref x) else none) = some (.ref x) := by rw [if_neg ne2, if_neg ne, if_pos rfl]
    have bx : ∀ {b : Addr} {o : Obj}, hB.get? b = some o → b ≠ x := fun {b o} e z => by rw [z, nB] at e; cases e
    rw [hb]
    refine ks_wpAt_execs_cons (sup_step FB KF (sup_of S G0 hn' vS (k _ _ hx) ar k1 k2 k3 k4) (fun h1 tk1 t1 kk1 e1 => ?_) (hi _) (hs _) (he _))
    have G1 : Gnd K mg h1 := GB.keeps fun b o e => kk1 b o (bx e) (k b o (kB b o e))
    have n1 : h1.Ns s.heap.objs.size (fun z => if z = y2 then some u2 else if z = y then some u else if z = "self" then some (.ref x) else none) := hn'.at fun o e => kk1 _ o (Ne.symm xL) e
    refine ks_wpAt_execs_cons (fld1 (y := y) S.sto G1.kin e1 hf k4 k3 k5 n1 vS (by rw [if_neg neyy, if_pos rfl]) hd (fun h2 tk2 dx kk2 n2 ndx e2 e3 => ?_) (hs2 _))
    have fr : s.heap.get? dx = none := by
      cases q : s.heap.get? dx with
      | none => rfl
      | some o => exact absurd (Heap.lt_size (kk1 dx o ndx (k dx o q))) (Nat.not_lt.mpr n2)
    have kx : ∀ b o, b ≠ x → s.heap.get? b = some o → h2.get? b = some o := fun b o hb' ho => kk2 b o hb' (kk1 b o hb' (k b o ho))
    have G2 : Gnd K mg h2 := GB.keeps fun b o e => kx b o (bx e) (kB b o e)
    have n3 : h2.Ns s.heap.objs.size (fun z => if z = y2 then some u2 else if z = y then some u else if z = "self" then some (.ref x) else none) := n1.at fun o e => kk2 _ o (Ne.symm xL) e
    have wi : Within (fun z => if z = f then some u else none) [f] := fun z hz => by
      by_cases e : z = f
      · rw [e]; exact List.mem_cons_self ..
      · exact absurd (if_neg e) hz
    refine ks_wpAt_execs_cons (fld2 (y := y2) S.sto V G2.kin e2 e3 wi (show 1 ≤ 1000 by decide) hf2 k4 k3 k52 n3 vS (by rw [if_pos rfl]) hd2 (fun h3 tk3 kk3 e4 => ?_) (hs3 _))
    refine wpAt_of_wpAny (wpAny_execs_nil ?_)
    refine hq h3 tk3 t1 dx _ (fun b o hb' ho => ?_) fr ndx (kk3 _ _ (Ne.symm ndx) e2) e4 (fun z => ?_)
    · exact kk3 b o (fun z => by rw [z, fr] at ho; cases ho) (kx b o hb' ho)
    · show _ = List.lookup z [(f2, u2), (f, u)]
      rw [lk_cons, lk_cons, List.lookup_nil]

end
end L3

namespace L3
open PySem PySem.Spec PyProof.Rows L2
open PySem.HandSPX (excO refsVE refsVE_contains veTail)

section
variable {fs ex : List Addr} {H : Hp} {h h' : Heap} {a d : Addr} {o u : HO}
theorem un_two (k : ∀ b z, h.get? b = some z → h'.get? b = some z) (ga : h.get? a = none) (gd : h.get? d = none) (na : H a = none) (nd : H d = none) : Un fs ex H (upd (upd H d u) a o) h h' where
  keep := fun b z q _ _ _ => k b z q
  slot := fun b z q _ _ _ => ⟨z.slots, k b z q⟩
  free := fun b z q n _ => by rw [upd_ne (fun y => by rw [y, ga] at q; cases q), upd_ne (fun y => by rw [y, gd] at q; cases q)]; exact n
  there := fun b z q _ => ⟨z, k b z q⟩
  tups := fun b xs q => by rw [upd_ne (ne_of_none q na), upd_ne (ne_of_none q nd)]; exact q
  frzs := fun b z xs q => by rw [upd_ne (ne_of_none q na), upd_ne (ne_of_none q nd)]; exact q
  tbls := fun b ps q => ⟨#[], by rw [upd_ne (ne_of_none q na), upd_ne (ne_of_none q nd), q]; simp⟩
end
def excFields (fs : List Str) (vs : List V) : List (Str × V) := (fs.zip vs).reverse
theorem rel_look {l : List (Str × V)} {r : List (Str × Value)} (h : Paired (fun (p : Str × V) (q : Str × Value) => p.1 = q.1 ∧ RelV p.2 q.2) l r) (z : Str) : RelO (l.lookup z) (r.lookup z) := by
  induction h with
  | nil => exact True.intro
  | @cons p q l r h _ ih =>
    obtain ⟨f, v⟩ := p
    obtain ⟨g, u⟩ := q
    obtain ⟨e, rv⟩ := h
    dsimp only at e rv
    subst e
    rw [lk_cons, lk_cons]
    by_cases hz : z = f
    · rw [if_pos hz, if_pos hz]
      exact rv
    · rw [if_neg hz, if_neg hz]
      exact ih
theorem rel_zip {vs : List V} {us : List Value} (h : Vals vs us) : ∀ (fs : List Str), Paired (fun (p : Str × V) (q : Str × Value) => p.1 = q.1 ∧ RelV p.2 q.2) (fs.zip vs) (fs.zip us) := by
  induction h with
  | nil => intro fs; simp; exact .nil
  | cons r _ ih =>
    intro fs
    cases fs with
    | nil => exact .nil
    | cons f fs => exact .cons ⟨rfl, r⟩ (ih fs)
theorem pair_app {α β : Type} {R : α → β → Prop} {l1 l2 : List α} {r1 r2 : List β} (h : Paired R l1 r1) (k : Paired R l2 r2) : Paired R (l1 ++ l2) (r1 ++ r2) := by
  induction h with
  | nil => exact k
  | cons a _ ih => exact .cons a ih
theorem pair_rev {α β : Type} {R : α → β → Prop} {l : List α} {r : List β} (h : Paired R l r) : Paired R l.reverse r.reverse := by
  induction h with
  | nil => exact .nil
  | cons a _ ih =>
    rw [List.reverse_cons, List.reverse_cons]
    exact pair_app ih (.cons a .nil)
theorem exc_rel {fs : List Str} {vs : List V} {us : List Value} {m : Str → Option Value} (h : Vals vs us) (hm : ∀ z, m z = (fs.zip us).reverse.lookup z) (z : Str) : RelO ((excFields fs vs).lookup z) (m z) := by
  rw [hm]
  exact rel_look (pair_rev (rel_zip h fs)) z

/-- an exception that is held as a value, with its fields -/
def ExAt (H : Hp) (a C : Addr) : Option (List (Str × V)) → Prop
  | none => H a = some (exo a C none)
  | some l => ∃ d, H a = some (exo a C (some d)) ∧ H d = some (exd d l)
/-- C(e, ..), C's own __init__ storing the arguments in the fields fs -/
def tMkV (C : Addr) (fs : List Str) (ta : TA) : TE := fun σ H Q => ta σ H fun vs H1 => vs.length = fs.length ∧ vs.length ≤ 900 ∧ ∀ a d, H1 a = none → H1 d = none → d ≠ a → Q (.ref a) (upd (upd H1 d (exd d (excFields fs vs))) a (exo a C (some d)))
section
variable {X : Cx} {x : Str} {C fI : Addr} {fs : List Str} {e : Expr} {es : List Expr} {ta : TA} {p pos : Pos}
theorem pe_mkV (J : InitOk X.prog X.w X.K X.mg C fI fs) {B newId initId : String} {bmB bm : List Value} (F : ExcBaseFacts B newId initId bmB) (T : Above B bm) (V : ∃ nm q N bs hdct sn sub ab col dd k0 k1 k2 k3 k5, X.K.lookup C = some (excClassObj nm q C N bs bm hdct sn sub ab col dd k0 k1 k2 k3 k5 newId)) (kC : PySem.W.keepIn X.K (.ref C) = true) (iC : PySem.W.findIn X.K (.ref C) "__init__" = some (some (.ref fI))) (tI : PySem.W.typeIn X.K (.ref fI) = some (.type "function")) (hr : Room 1 X.A) (hg : Gl X x) (hm : X.mg x = some (.ref C)) (ha : PA X (e :: es) ta)
    (hdb : (x == ("__debug__" : Str)) = false := by decide) (he : starEach (e :: es) X.env = (false, eval e X.env) :: starEach es X.env := by rfl) (hpl : (backTo pos (starEach es X.env)).any (·.1) = false := by rfl) :
    PE X (.Call (.Name x p) (e :: es) [] pos) (tMkV C fs ta) := by
  refine ⟨fun pins s σ H Q I h => ?_⟩
  obtain ⟨nm, q, N, bs, hdct, sn, sub, ab, col, dd, k0, k1, k2, k3, k5, hC⟩ := V
  refine wpAny_Call_Name_kw (ld_glob I hg hm ?_ hdb)
  refine PySem.W.callWith_K (h₀ := X.base) I.ok.mod.kin kC (thn (ha.run pos pins s σ H _ I h) fun us s1 ⟨vs, H1, I1, r1, hl, hz, q1⟩ => ⟨I1.kIn, ?_⟩) he hpl
  show wpAny _ _ (call (.ref C) us) _ _ _
  have G := Gnd.of I1
  obtain ⟨hp, g, dr, tk, os⟩ := s1
  have ul : us.length = vs.length := (Paired.length r1).symm
  have hus : us.length ≤ sizeLine := Nat.le_trans (show us.length ≤ 900 by omega) (show 900 ≤ sizeLine by decide)
  have kk : ∀ b o, hp.get? b = some o → ((hp.push (PySem.W.kdv_tup us)).push (excO C hp.objs.size)).get? b = some o := fun b o e => Heap.get?_push_of_some _ (Heap.get?_push_of_some _ e)
  have hget : ((hp.push (PySem.W.kdv_tup us)).push (excO C hp.objs.size)).get? (hp.objs.size + 1) = some (excO C hp.objs.size) := by heap_get
  have nx : hp.get? (hp.objs.size + 1) = none := by
    cases q : hp.get? (hp.objs.size + 1) with
    | none => rfl
    | some o => exact absurd (Heap.lt_size q) (Nat.not_lt.mpr (Nat.le_succ _))
  refine wpAny_call (above_call F T (I1.kIn _ _ hC) (PySem.W.looks_findIn I1.kIn iC) (fun self => PySem.W.bind_fn I1.kIn self tI) hus ?_)
  refine J _ hp _ (hp.objs.size + 1) hp.objs.size us _ (hr.make C us []).depth G kk nx hget (ul.trans hl) fun h' tk' t1 dx m k fr ne e1 e2 e3 => ⟨rfl, ?_⟩
  have kall : ∀ b o, hp.get? b = some o → h'.get? b = some o := fun b o e => k b o (fun z => by rw [z, nx] at e; cases e) (kk b o e)
  have nd : hp.get? dx = none := by
    cases q : hp.get? dx with
    | none => rfl
    | some o => rw [kk dx o q] at fr; cases fr
  have na1 := I1.hok.gone nx
  have nd1 := I1.hok.gone nd
  have ok1 : HOk X.prog X.w (upd H1 dx (exd dx (excFields fs vs))) h' := I1.hok.laidN kall nd1 (exd_ok e2 (exc_rel r1 e3))
  have na2 : upd H1 dx (exd dx (excFields fs vs)) (hp.objs.size + 1) = none := by rw [upd_ne (Ne.symm ne)]; exact na1
  have ok2 := ok1.laidN (o := exo (hp.objs.size + 1) C (some dx)) (fun _ _ e => e) na2 (exo_ok e1)
  exact ⟨.ref (hp.objs.size + 1), _, I1.un (t' := tk') (un_two kall nx nd na1 nd1) ok2, rfl, q1 _ _ na1 nd1 ne⟩
/-- C(), an own exception class without own __init__ -/
theorem pe_mkV0 {bmB : List Value} {B newId initId : String} (F : ExcBaseFacts B newId initId bmB) (q : PySem.W.excIn X.K C bmB newId = true) (gC : X.mg x = some (.ref C)) (kC : PySem.W.keepIn X.K (.ref C) = true) (hg : Gl X x) (hdb : (x == ("__debug__" : Str)) = false := by decide) :
    PE X (.Call (.Name x p) [] [] pos) (fun _ H Q => ∀ a, H a = none → Q (.ref a) (upd H a (exo a C none))) := by
  refine ⟨fun pins s σ H Q I h => ?_⟩
  refine wpAny_Call_Name_kw (ld_glob I hg gC ?_ hdb)
  refine PySem.W.callWith_K0 I.kIn kC ?_
  obtain ⟨bm, N, nm, qn, bs, hdct, sn, sub, ab, col, dd, k0, k1, k2, k3, k5, mN, hC, hN, hni, T⟩ := exc_obj I.kIn q
  refine wpAny_call_exc_subT F T hC hN hni (fun h' a hm => ?_) (Nat.zero_le _)
  have hn : H a = none := I.hok.gone hm.new
  obtain ⟨t, ht, _, _⟩ := hm.there
  exact ⟨.ref a, upd H a (exo a C none), I.laidN hm.keeps hm.new hn (exo_ok ht), rfl, h a hn⟩
end
end L3

namespace PySem.W
open PySem PySem.Spec PySem.Calls PyProof.Rows
section
variable {prog : Program} {w : World} {A : Around} {E : Value → Shared → Prop} {s : Shared} {K : Frag} {x D : Addr} {ox : Obj} {od : Option Obj}
theorem l3_findObj {C : Addr} {name : Str} {a g : Value} (hc : (clsIn K C).isSome = true) (ha : findIn K (.ref C) name = some (some a)) (hg : specialIn K a "__get__" = some (some g)) (ht : takesIn K a = some true) : findObj K C od name = some (.bind g a) := by
  cases od with
  | none => exact findObj_dataN hc ha hg ht
  | some o => exact findObj_data hc ha hg ht
/-- e.__class__ of an own exception, whether it has its dict or not -/
theorem l3_class {Q : Option Value → Shared → Prop} (T : L2.ExcC K D) (X : K.In s.heap) (I : InstAt s.heap x ox D od) (h : Q (some (.ref D)) { s with toks := s.toks + 1 }) : wpAny (model prog w) A (getAttr? (.ref x) "__class__") Q E s := by
  have hcd : (clsIn K D).isSome = true := by
    obtain ⟨cd, hc, _⟩ := any_some T.hd
    rw [hc]
    rfl
  obtain ⟨hp, g, d, t, os⟩ := s
  have ty := I.type (M := model prog w)
  have find := looks_find (M := model prog w) X I (l3_findObj (od := od) hcd T.ha T.hn T.ht)
  have isB : Looks (model prog w) hp (isInstance (.ref x) (.type "BaseException")) true := ty.andThen (looks_subIn X T.hs)
  have n2 : (Value.builtin "BaseException.__getattribute__" == Value.builtin "object.__getattribute__") = false := by decide +kernel
  have n1 : (onTheHeap (Value.ref D) && Value.builtin "BaseException.__getattribute__" == Value.builtin "object.__getattribute__") = false := by rw [n2]; rfl
  unfold getAttr? getAttrBy? getAttrBy
  refine wpAny_bind (wpAny_mkText (wpAny_bind (wpAny_attempt (wpAny_holding (wpAny_bind (ty.at (wpAny_bind ((looks_findIn (M := model prog w) X T.hg).at ?_))))))))
  show wpAny _ _ (if (onTheHeap (Value.ref D) && Value.builtin "BaseException.__getattribute__" == Value.builtin "object.__getattribute__") = true then _ else _) _ _ _
  rw [n1, if_neg Bool.false_ne_true]
  unfold getAttrByItsOwn hookBefore
  refine wpAny_bind ?_
  rw [if_pos (show onTheHeap (Value.ref D) = true from rfl)]
  refine (looks_findIn (M := model prog w) X T.hk).at (wpAny_bind (wpAny_attempt (wpAny_holding ?_)))
  unfold callGetattribute
  rw [show (false && onTheHeap (Value.builtin "BaseException.__getattribute__")) = false from rfl, if_neg Bool.false_ne_true]
  unfold boundAndCalled
  rw [PySem.F.excAttr_ValueError.ga.bind (.ref x)]
  refine wpAny_bind (wpAny_pure ?_)
  show wpAny _ _ (call (.builtin "BaseException.__getattribute__") [.ref x, .str "__class__" t]) _ _ _
  refine wpAny_call (codeAny_call_builtin PySem.F.excAttr_ValueError.ga.plain PySem.F.entry_bexc_ga ?_)
  refine @check_slot (model prog w) _ _ ⟨hp, g, d, t + 1, os⟩ "BaseException.__getattribute__" "BaseException" "__getattribute__" (.ref x) [.str "__class__" t] [] _ (by decide +kernel) (by decide +kernel) isB (PySem.F.args_bexc_ga (.ref x) (.str "__class__" t)) ?_
  unfold Builtin.«object.__getattribute__»
  refine wpAny_bind (wpAny_of_eq (a := ((Value.ref x : Value), [Value.str "__class__" t])) (by first | rfl | (simp only [slotArgs]; rfl)) ?_)
  refine wpAny_bind (wpAny_pure (wpAny_bind (ty.at (wpAny_bind (find.at ?_)))))
  show wpAny _ _ (holding [Value.builtin "object.__class__"] (call (.builtin "getset_descriptor.__get__") [.builtin "object.__class__", .ref x, .ref D]) >>= ret) _ _ _
  refine wpAny_bind (wpAny_holding (wpAny_call (class_get (s := ⟨hp, g, d, t + 1, os⟩) (ox := ox) (od := od) X I T.hm ?_)))
  refine wpAny_pure ?_
  show wpAny _ _ (handedOut (.ref D)) _ _ _
  rw [handedOut_of (v := .ref D) rfl]
  first
    | exact wpAny_pure (wpAny_pure h)
    | exact wpAny_pure h
    | exact wpAny_pure (wpAny_bind (wpAny_pure (wpAny_pure h)))
theorem l3_cls {M : Model} {h : Heap} (X : K.In h) (hd : hasDictIn K D = true) : Looks M h (isType (.ref D)) true := by
  obtain ⟨cd, hc, _⟩ := any_some hd
  unfold clsIn at hc
  split at hc
  · rename_i ho
    intro A' Q' E' s' k q
    unfold isType loadHead
    exact wpAny_bind (wpAny_loadPart (k _ _ (X _ _ ho)) (wpAny_pure q))
  · cases hc
theorem l3_kit (T : L2.ExcC K D) : KitX K (.ref x) (.ref D) (fun h => ∃ ox od, InstAt h x ox D od) where
  ty := fun _ _ _ ⟨_, _, I⟩ => I.type
  it := fun _ _ X _ => l3_cls X T.hd
  ne := fun h tp dd its n sl X htp => by
    obtain ⟨cd, hc, _⟩ := any_some T.hd
    refine Bool.eq_false_iff.mpr fun q => ?_
    have e : D = tp := Value.ref.inj (beq_iff_eq.mp q)
    subst e
    unfold clsIn at hc
    split at hc
    · rename_i ho
      have z := (X _ _ ho).symm.trans htp
      cases z
    · cases hc
  ca := fun X ⟨_, _, I⟩ k => l3_class T X I k
end
end PySem.W
namespace L3
open PySem PySem.Spec PyProof.Rows L2
section
variable {X : Cx} {pins : List (Addr × Obj)} {σ : L2.St} {H : Hp} {s : Shared}
theorem exat_inst {a C : Addr} {fs : Option (List (Str × V))} (I : Inv X pins σ H s) (h : ExAt H a C fs) : ∃ ox od, PySem.W.InstAt s.heap a ox C od := by
  cases fs with
  | none =>
    obtain ⟨t1, e⟩ := exo_at I.hok h
    exact ⟨_, none, e, rfl, rfl, trivial⟩
  | some l =>
    obtain ⟨d, h1, h2⟩ := h
    obtain ⟨t1, e⟩ := exo_at I.hok h1
    obtain ⟨mA, hns, _⟩ := exd_at I.hok h2
    obtain ⟨o, _, _, ho, _⟩ := hns
    exact ⟨_, some o, e, rfl, rfl, ho⟩
end
/-- isinstance(e, c), e an own exception that is held as a value -/
def rIsX (K : PySem.W.Frag) : List V → Hp → VK → Prop := fun xs H Q => ∃ (a D : Addr) (fs : Option (List (Str × V))) (c : V) (u : Value) (b : Bool), xs = [.ref a, c] ∧ ExAt H a D fs ∧ ExcC K D ∧ ClsV c u ∧ PySem.W.kitOne K (.ref D) u = some b ∧ Q (.bl b) H
theorem call_isX {X : Cx} : CallR X (.builtin "isinstance") (rIsX X.K) := by
  intro pins s σ H xs us Q I r h
  obtain ⟨a, D, fs, c, u, b, rfl, he, T, k, e, q⟩ := h
  obtain ⟨u1, u2, rfl, r1, r2⟩ := vals2 r
  have e2 := k.eq r2
  subst e2
  obtain rfl : u1 = Value.ref a := r1
  exact PySem.W.kia_one (PySem.W.l3_kit T) I.kIn (exat_inst I he) e (fun z => nomatch z) fun tk => ⟨.bl b, H, I.tok tk, rfl, q⟩
/-- e.f, e an own exception that is held as a value -/
def tXv (K : PySem.W.Frag) (f : Str) (te : TE) : TE := fun σ H Q => te σ H fun x H1 => ∃ (a C : Addr) (fs : List (Str × V)) (v : V), x = .ref a ∧ ExAt H1 a C (some fs) ∧ XfC K C ∧ PySem.W.findIn K (.ref C) f = some none ∧ fs.lookup f = some v ∧ Q v H1
theorem pe_xv {X : Cx} {e : Expr} {te : TE} {pos : Pos} {n : Str} (he : PE X e te) (hb : attributeBase e n X.env (eval e X.env) = eval e X.env := by rfl) : PE X (.Attribute e n pos) (tXv X.K n te) := by
  refine ⟨fun pins s σ H Q I h => ?_⟩
  refine attr_of hb (thn (he.run pins s σ H _ I h) fun u s1 hh => ?_)
  obtain ⟨x, H1, I1, rx, a, C, fs, v, ex, ⟨d, h1, h2⟩, T, hno, l, q⟩ := hh
  subst ex
  obtain rfl : u = Value.ref a := rx
  obtain ⟨t1, e1⟩ := exo_at I1.hok h1
  obtain ⟨mA, hns, hr⟩ := exd_at I1.hok h2
  obtain ⟨od, ho, hl⟩ := lookIn_ns hns
  obtain ⟨u, hu, ru⟩ := RelO.some_of (v := v) (o := mA n) (by rw [← l]; exact hr n)
  exact HandSPX.exc_get I1.kIn (ox := _) (od := some od) ⟨e1, rfl, rfl, ho⟩ T.ga T.gg T.exC (PySem.W.findObj_own T.hdC hno rfl (by rw [hl, hu])) (handed_of ru) ⟨v, H1, I1.tok _, ru, q⟩
end L3

/-! what the written part says of own exceptions' classes, looked at at once -/
namespace L3
open PySem PySem.Spec PySem.W PyProof.Rows L2
open PySem.HandSPX (refsVE refsVE_contains veTail)
def excB (K : Frag) (D : Addr) : Bool := xfB K D && (decide (findIn K (.ref D) "__class__" = some (some (.builtin "object.__class__"))) && (decide (specialIn K (.builtin "object.__class__") "__get__" = some (some (.builtin "getset_descriptor.__get__"))) &&
  (decide (takesIn K (.builtin "object.__class__") = some true) && decide (mroIn K D (.type "object") = some true))))
theorem excB_ok {K : Frag} {D : Addr} (h : excB K D = true) : ExcC K D ∧ XfC K D := by
  unfold excB at h
  simp only [Bool.and_eq_true, decide_eq_true_eq] at h
  obtain ⟨h1, h2, h3, h4, h5⟩ := h
  have x := xfB_ok h1
  exact ⟨⟨x.ga, x.gg, x.exC, x.hdC, h2, h3, h4, h5⟩, x⟩
/-- a class whose __init__ at f says super().__init__ of the built-in class T -/
def supB (K : Frag) (C f : Addr) (T i : String) (fs : List Str) : Bool := keepIn K (.ref C) && (decide (findIn K (.ref C) "__init__" = some (some (.ref f))) && (decide (typeIn K (.ref f) = some (.type "function")) && (decide (findIn K (.ref C) "__setattr__" = some (some (.builtin "object.__setattr__"))) &&
  (decide (subIn K (.ref C) (.type T) = some true) && (decide (subIn K (.ref C) (.ref C) = some true) && (decide (nsIn K cStatics "thirdparty.any" = some none) && (decide (ks_superIn K C C "__init__" = some (some (.builtin i))) && fs.all fun g => decide (findIn K (.ref C) g = some none))))))))
structure SupF (K : Frag) (C f : Addr) (T i : String) (fs : List Str) : Prop where
  kC : keepIn K (.ref C) = true
  iC : findIn K (.ref C) "__init__" = some (some (.ref f))
  tI : typeIn K (.ref f) = some (.type "function")
  sa : findIn K (.ref C) "__setattr__" = some (some (.builtin "object.__setattr__"))
  subT : subIn K (.ref C) (.type T) = some true
  subC : subIn K (.ref C) (.ref C) = some true
  opq : nsIn K cStatics "thirdparty.any" = some none
  cls : ∃ cd, clsIn K C = some cd ∧ alongIn K "__init__" ((cd.mro.dropWhile (· != .ref C)).drop 1) = some (some (.builtin i))
  no : ∀ g ∈ fs, findIn K (.ref C) g = some none
theorem supB_ok {K : Frag} {C f : Addr} {T i : String} {fs : List Str} (h : supB K C f T i fs = true) : SupF K C f T i fs := by
  unfold supB at h
  simp only [Bool.and_eq_true, decide_eq_true_eq, List.all_eq_true] at h
  obtain ⟨h1, h2, h3, h4, h5, h6, h7, h8, h9⟩ := h
  refine ⟨h1, h2, h3, h4, h5, h6, h7, ?_, h9⟩
  unfold ks_superIn at h8
  obtain ⟨cd, e1, e2⟩ := Option.bind_eq_some_iff.mp h8
  exact ⟨cd, e1, e2⟩
theorem above_ve {bm : List Value} (h : refsVE bm = true) : Above "ValueError" bm :=
  ⟨(refsVE_contains "ValueError" bm h).trans (by decide +kernel), (refsVE_contains "AttributeError" bm h).trans (by decide +kernel), (refsVE_contains "NameError" bm h).trans (by decide +kernel)⟩
section
variable {K : Frag} {C : Addr} {nm q : Str} {N : Addr} {bs bm : List Value} {sn : List Str} {sub : List Value} {ab : Bool} {col : Option Bool} {dd : Option Addr} {k0 k1 k2 k3 k5 : Option Value} {newId : String}
theorem cls_of (hC : K.lookup C = some (excClassObj nm q C N bs bm true sn sub ab col dd k0 k1 k2 k3 k5 newId)) :
    clsIn K C = some { name := nm, bases := bs, mro := .ref C :: bm, ns := N, qualname := q, hasDict := true, slotNames := sn, subclasses := sub, abstract := ab, collection := col, hasDel := false } := by
  unfold clsIn
  rw [hC] <;> rfl
theorem over_of (hC : K.lookup C = some (excClassObj nm q C N bs bm true sn sub ab col dd k0 k1 k2 k3 k5 newId)) (h : refsVE bm = true) : OverVE K C := ⟨_, cls_of hC, h, rfl⟩
theorem sto_ke (hC : K.lookup C = some (excClassObj nm q C N bs keTail true sn sub ab col dd k0 k1 k2 k3 k5 newId)) (sa : findIn K (.ref C) "__setattr__" = some (some (.builtin "object.__setattr__"))) : Sto K C :=
  ⟨⟨_, cls_of hC, fun self => by rw [show (Value.ref C :: keTail) = Value.ref C :: keTail from rfl, refuseLoop_ref]; exact pass_KeyError self, rfl, by rw [List.contains_cons, show keTail.contains (.type "object") = true by decide +kernel, Bool.or_true], rfl⟩, sa⟩
end
/-- all that the __init__'s own objects must say -/
structure InK (K : Frag) (prog : Program) (C f cc cda : Addr) (fd : FuncData) (qual : Str) : Prop where
  fO : ∃ oc od osl, K.lookup f = some ⟨oc, od, .func fd, osl⟩
  cO : ∃ oc od vs osl file tf, K.lookup cda = some ⟨oc, od, .fields vs, osl⟩ ∧ vs[2]? = some (.str file tf) ∧ ((prog.main.file : Str) == file) = true
  cIn : codeIn K (.ref cda) qual = true
  top : (prog.main.scope.names.lookup ("super" : Str)).isSome = false
  ccO : ∃ oc od osl, K.lookup cc = some ⟨oc, od, .cell (some (.ref C)), osl⟩
theorem supK_of {K : Frag} {prog : Program} {mg : Str → Option Value} {T i newId : String} {C f cc cda : Addr} {fd : FuncData} {qual : Str} {fs : List Str} {nm q : Str} {N : Addr} {bs bm : List Value} {sn : List Str} {sub : List Value} {ab : Bool} {col : Option Bool} {dd : Option Addr} {k0 k1 k2 k3 k5 : Option Value}
    (I : InK K prog C f cc cda fd qual) (S : SupF K C f T i fs) (hC : K.lookup C = some (excClassObj nm q C N bs bm true sn sub ab col dd k0 k1 k2 k3 k5 newId)) (sto : Sto K C) (noS : mg "super" = none) : SupK K prog mg T i newId C f cc cda fd qual :=
  ⟨noS, I.fO, I.cO, I.cIn, I.top, I.ccO, S.cls, ⟨nm, q, N, bs, bm, true, sn, sub, ab, col, dd, k0, k1, k2, k3, k5, hC⟩, S.subT, S.subC, S.opq, sto⟩
end L3

/-! raise C(e, ..), C an own exception whose __init__ says super().__init__ and stores fields -/
namespace L3
open PySem PySem.Spec PyProof.Rows L2
open PySem.HandSPX (excO)
theorem upd_upd (H : Hp) (D : Addr) (o u : HO) : upd (upd H D o) D u = upd H D u := by
  funext b
  by_cases h : b = D
  · rw [h, upd_same, upd_same]
  · rw [upd_ne h, upd_ne h, upd_ne h]
theorem del_upd {H : Hp} {a : Addr} {o : HO} (h : H a = none) : L2.del (upd H a o) a = H := by
  funext b
  by_cases e : b = a
  · rw [e, del_same, h]
  · rw [del_ne e, upd_ne e]
section
variable {fr : List Addr} {H : Hp} {h h' : Heap} {a d C : Addr} {l : List (Str × V)}
/-- behind the __init__: the exception has got its dict -/
theorem un_init (k : ∀ b o, b ≠ a → h.get? b = some o → h'.get? b = some o) (there : ∃ o, h'.get? a = some o) (gd : h.get? d = none) (nd : H d = none) (ne : d ≠ a) :
    Un fr [] (upd H a (exo a C none)) (upd (upd H d (exd d l)) a (exo a C (some d))) h h' := by
  have na : ∀ {b : Addr}, upd H a (exo a C none) b = none → b ≠ a := fun {b} q z => by
    rw [z, upd_same] at q
    cases q
  have nx : ∀ {b : Addr} {o : HO}, upd H a (exo a C none) b = some o → o ≠ exo a C none → b ≠ a ∧ H b = some o := fun {b o} q n => by
    by_cases z : b = a
    · rw [z, upd_same] at q
      exact absurd (Option.some.inj q).symm n
    · rw [upd_ne z] at q
      exact ⟨z, q⟩
  have same : ∀ {b : Addr} {o : HO}, upd H a (exo a C none) b = some o → o ≠ exo a C none → upd (upd H d (exd d l)) a (exo a C (some d)) b = some o := fun {b o} q n => by
    obtain ⟨n1, q1⟩ := nx q n
    rw [upd_ne n1, upd_ne (ne_of_none q1 nd)]
    exact q1
  exact {
    keep := fun b o q n _ _ => k b o (na n) q
    slot := fun b o q n _ _ => ⟨o.slots, k b o (na n) q⟩
    free := fun b o q n _ => by
      rw [upd_ne (na n), upd_ne (fun z => by rw [z, gd] at q; cases q)]
      rw [upd_ne (na n)] at n
      exact n
    there := fun b o q _ => by
      by_cases z : b = a
      · rw [z]
        exact there
      · exact ⟨o, k b o z q⟩
    tups := fun b xs q => same q (Ne.symm exo_tup)
    frzs := fun b o u q => same q (Ne.symm exo_frz)
    tbls := fun b ps q => ⟨#[], by rw [same q (Ne.symm exo_tbl)]; simp⟩ }
end
/-- the reading of what is raised -/
def tSup (C : Addr) (fs : List Str) (ta : TA) : L2.St → Hp → XK → Prop := fun σ H Q => ta σ H fun vs H1 => vs.length = fs.length ∧ vs.length ≤ 900 ∧ ∀ d, H1 d = none → Q (.ref C) (some d) (upd H1 d (.xd (excFields fs vs)))
theorem pmk_sup {X : Cx} {x : Str} {C fI : Addr} {fs : List Str} {e : Expr} {es : List Expr} {ta : TA} {p pos : Pos} {B newId initId : String} {bmB bm : List Value} (J : InitOk X.prog X.w X.K X.mg C fI fs) (F : ExcBaseFacts B newId initId bmB) (T : Above B bm)
    (V : ∃ nm q N bs hdct sn sub ab col dd k0 k1 k2 k3 k5, X.K.lookup C = some (excClassObj nm q C N bs bm hdct sn sub ab col dd k0 k1 k2 k3 k5 newId)) (kC : PySem.W.keepIn X.K (.ref C) = true) (iC : PySem.W.findIn X.K (.ref C) "__init__" = some (some (.ref fI)))
    (tI : PySem.W.typeIn X.K (.ref fI) = some (.type "function")) (exC : PySem.W.subIn X.K (.ref C) (.type "BaseException") = some true) (tyC : PySem.W.typeIn X.K (.ref C) = some (.type "type")) (hr : Room 1 X.A) (hg : Gl X x) (hm : X.mg x = some (.ref C)) (ha : PA X (e :: es) ta)
    (hdb : (x == ("__debug__" : Str)) = false := by decide) (he : starEach (e :: es) X.env = (false, eval e X.env) :: starEach es X.env := by rfl) (hpl : (backTo pos (starEach es X.env)).any (·.1) = false := by rfl) :
    PMk X (.Call (.Name x p) (e :: es) [] pos) (tSup C fs ta) := by
  intro pins s σ H Q I h
  obtain ⟨nm, q, N, bs, hdct, sn, sub, ab, col, dd, k0, k1, k2, k3, k5, hC⟩ := V
  refine wpAny_Call_Name_kw (ld_glob I hg hm (PySem.W.callWith_K (h₀ := X.base) I.ok.mod.kin kC (thn (ha.run pos pins s σ H _ I h) fun us s1 ⟨vs, H1, I1, r1, hl, hz, q1⟩ => ⟨I1.kIn, ?_⟩) he hpl) hdb)
  show wpAny _ _ (call (.ref C) us) _ _ _
  have G := Gnd.of I1
  obtain ⟨hp, g, dr, tk, os⟩ := s1
  have ul : us.length = vs.length := (Paired.length r1).symm
  have hus : us.length ≤ sizeLine := Nat.le_trans (show us.length ≤ 900 by omega) (show 900 ≤ sizeLine by decide)
  have kk : ∀ b o, hp.get? b = some o → ((hp.push (PySem.W.kdv_tup us)).push (excO C hp.objs.size)).get? b = some o := fun b o e => Heap.get?_push_of_some _ (Heap.get?_push_of_some _ e)
  have hget : ((hp.push (PySem.W.kdv_tup us)).push (excO C hp.objs.size)).get? (hp.objs.size + 1) = some (excO C hp.objs.size) := by heap_get
  have nx : hp.get? (hp.objs.size + 1) = none := by
    cases q : hp.get? (hp.objs.size + 1) with
    | none => rfl
    | some o => exact absurd (Heap.lt_size q) (Nat.not_lt.mpr (Nat.le_succ _))
  refine wpAny_call (above_call F T (I1.kIn _ _ hC) (PySem.W.looks_findIn I1.kIn iC) (fun self => PySem.W.bind_fn I1.kIn self tI) hus ?_)
  refine J _ hp _ (hp.objs.size + 1) hp.objs.size us _ (hr.make C us []).depth G kk nx hget (ul.trans hl) fun h' tk' t1 dx m k fr ne e1 e2 e3 => ⟨rfl, ?_⟩
  have kall : ∀ b o, hp.get? b = some o → h'.get? b = some o := fun b o e => k b o (fun z => by rw [z, nx] at e; cases e) (kk b o e)
  have nd : hp.get? dx = none := by
    cases q : hp.get? dx with
    | none => rfl
    | some o => rw [kk dx o q] at fr; cases fr
  have na1 := I1.hok.gone nx
  have nd1 := I1.hok.gone nd
  have ok1 : HOk X.prog X.w (upd H1 dx (exd dx (excFields fs vs))) h' := I1.hok.laidN kall nd1 (exd_ok e2 (exc_rel r1 e3))
  have na2 : upd H1 dx (exd dx (excFields fs vs)) (hp.objs.size + 1) = none := by rw [upd_ne (Ne.symm ne)]; exact na1
  have ok2 := ok1.laidN (o := exo (hp.objs.size + 1) C (some dx)) (fun _ _ e => e) na2 (exo_ok e1)
  have un := un_init (fr := frs X.stack) (C := C) (l := excFields fs vs) k ⟨_, e1⟩ fr nd1 ne
  refine mk_end (d2 := dr) (t2 := tk') (raises_own exC tyC) I1 (Nat.le_succ _) kk un ok2 rfl I1.bare upd_same (by rw [upd_ne ne]; exact upd_same) nd1 ?_
  rw [del_upd na2, upd_upd]
  exact q1 dx nd1
end L3

/-! own __getitem__, __contains__, __len__; method calls that may raise within a try -/
namespace L3
open PySem PySem.Spec PyProof.Rows L2
section
variable {X : Cx} {CX : CXT} {n : Nat} {f C : Addr} {fd : FuncData} {ps : List Str} {sp : Sp} {E : XK} {ES : L2.St → XK} {pins : List (Addr × Obj)} {σ : L2.St}
theorem room1 {A : Around} (h : Room (n + 1) A) : Room n A.in1 :=
  ⟨h.hd, by have := h.dp; show A.depth + 3 * n + 5 < _; omega, by have := h.un; show A.units + 1 + 16 * n + 200 < _; omega⟩
/-- the callee runs, a few levels below the body; what is raised goes by the slots -/
theorem run_fnAS {A : Around} {s : Shared} {H : Hp} {Q : VK} {us : List Value} {vs : List V} (F : FnOk X.prog X.w X.K X.mg X.base CX n f fd ps sp) (hr : Room n A) (hfr : A.frames = X.A.frames) (hb : Binds X.K fd ps []) (hx : PassesAt CX X σ E)
    (I : Inv X pins σ H s) (r : Vals vs us) (h : sp vs H Q E) : wpAny (model X.prog X.w) A (call (.ref f) us) (EP X pins σ Q) X.xe s := by
  have e0 : Env0 X.prog X.w X.K X.mg X.base A X.stack s H := by
    have e := I.env0
    exact ⟨hfr.trans e.frames, e.mod, e.bs, e.bsz, e.funs, e.frf, e.hok, e.bare⟩
  have hl : us.length = ps.length := r.length.symm.trans (F.len _ _ _ _ h)
  have bb := hb s us I.kIn (by simpa using hl)
  rw [List.append_nil] at bb
  refine wpAny_call (codeAny_mono (F.run A X.stack s H ⟨us, []⟩ us vs Q E hr e0 bb r h) fun res s' hq => ?_)
  match res, hq with
  | .error e, hq => exact hx pins H s e s' I hq
  | .ok (.ret w), hq => exact I.after hq
  | .ok .next, hq => exact False.elim hq
  | .ok .brk, hq => exact False.elim hq
  | .ok .cont, hq => exact False.elim hq
/-! ### x in o, len(o), o[i] -/
def rOwnIn (C : Addr) (sp : Sp) (E : XK) (neg : Bool) : R2 := fun x y H Q => ∃ a dx fs, y = .ref a ∧ H a = some (.ins C dx fs) ∧ sp [y, x] H (fun v H' => ∃ b : Bool, v = .bl b ∧ Q (.bl (if neg = true then !b else b)) H') E
theorem op_ownIn (F : FnOk X.prog X.w X.K X.mg X.base CX n f fd ps sp) (hr : Room n X.A) (hb : Binds X.K fd ps []) (hx : Passes CX X E)
    (hs : PySem.W.findIn X.K (.ref C) "__contains__" = some (some (.ref f))) (hf : PySem.W.isFn X.K (.ref f) = true) : OpR X (compareOp .In) (rOwnIn C sp E false) := by
  intro pins s σ H x y v u Q I rx ry h
  obtain ⟨a, dx, fs, rfl, ha, hq⟩ := h
  cases (show u = Value.ref a from ry)
  obtain ⟨mA, J, _⟩ := ins_get I.hok ha
  obtain ⟨od, J, _⟩ := J.look
  obtain ⟨m, hF⟩ := I.fr
  refine PySem.W.in_K hF I.ok.mod.kin J hs hf ?_
  refine wpAny_mono (run_fnA (us := [.ref a, v]) (vs := [.ref a, x]) F hr rfl hb hx I (.cons rfl (.cons rx .nil)) hq) (fun r s' hv => ?_) fun _ _ e => e
  obtain ⟨z, H', I', rz, b, rfl, q⟩ := hv
  cases (show r = Value.bool b from rz)
  exact wpAny_truthy_bool ⟨.bl b, H', I', rfl, q⟩
theorem op_ownNotIn (F : FnOk X.prog X.w X.K X.mg X.base CX n f fd ps sp) (hr : Room n X.A) (hb : Binds X.K fd ps []) (hx : Passes CX X E)
    (hs : PySem.W.findIn X.K (.ref C) "__contains__" = some (some (.ref f))) (hf : PySem.W.isFn X.K (.ref f) = true) : OpR X (compareOp .NotIn) (rOwnIn C sp E true) := by
  intro pins s σ H x y v u Q I rx ry h
  obtain ⟨a, dx, fs, rfl, ha, hq⟩ := h
  cases (show u = Value.ref a from ry)
  obtain ⟨mA, J, _⟩ := ins_get I.hok ha
  obtain ⟨od, J, _⟩ := J.look
  obtain ⟨m, hF⟩ := I.fr
  refine PySem.W.notIn_K hF I.ok.mod.kin J hs hf ?_
  refine wpAny_mono (run_fnA (us := [.ref a, v]) (vs := [.ref a, x]) F hr rfl hb hx I (.cons rfl (.cons rx .nil)) hq) (fun r s' hv => ?_) fun _ _ e => e
  obtain ⟨z, H', I', rz, b, rfl, q⟩ := hv
  cases (show r = Value.bool b from rz)
  exact wpAny_truthy_bool ⟨.bl (!b), H', I', rfl, q⟩
theorem call_lenOwn (F : FnOk X.prog X.w X.K X.mg X.base CX n f fd ps sp) (hr : Room (n + 1) X.A) (hb : Binds X.K fd ps []) (hx : Passes CX X E)
    (hs : PySem.W.findIn X.K (.ref C) "__len__" = some (some (.ref f))) (hf : PySem.W.isFn X.K (.ref f) = true) :
    CallR X (.builtin "len") (fun xs H Q => ∃ a dx fs, xs = [.ref a] ∧ H a = some (.ins C dx fs) ∧ sp [.ref a] H (fun v H' => ∃ i : Int, v = .int i ∧ 0 ≤ i ∧ i < 2 ^ 63 ∧ Q (.int i) H') E) := by
  intro pins s σ H xs us Q I r h
  obtain ⟨a, dx, fs, rfl, ha, hq⟩ := h
  obtain ⟨u, rfl, rx⟩ := vals1 r
  cases (show u = Value.ref a from rx)
  obtain ⟨mA, J, _⟩ := ins_get I.hok ha
  obtain ⟨od, J, _⟩ := J.look
  obtain ⟨m, hF⟩ := I.fr
  refine PySem.W.len_K hF I.ok.mod.kin J hs hf ?_
  refine wpAny_mono (run_fnA (us := [.ref a]) (vs := [.ref a]) F (room1 hr) rfl hb hx I (.cons rfl .nil) hq) (fun r s' hv => ?_) fun _ _ e => e
  obtain ⟨z, H', I', rz, i, rfl, h0, h1, q⟩ := hv
  obtain ⟨t, rfl⟩ := (show ∃ t, r = Value.int i t from rz)
  exact ⟨⟨h0, h1⟩, ⟨.int i, H', I'.tok _, ⟨_, rfl⟩, q⟩⟩
/-- o[i], o an own instance, within a try -/
def tIxOwn (C : Addr) (sp : Sp) (ES : L2.St → XK) (ta tb : TE) : TE := fun σ H Q => ta σ H fun x H1 => tb σ H1 fun y H2 => ∃ a dx fs, x = .ref a ∧ H2 a = some (.ins C dx fs) ∧ sp [x, y] H2 Q (ES σ)
theorem pe_ixOwn {a b : Expr} {ta tb : TE} {pos : Pos} (F : FnOk X.prog X.w X.K X.mg X.base CX n f fd ps sp) (hr : Room (n + 1) X.A) (hb : Binds X.K fd ps []) (hx : ∀ σ, PassesAt CX X σ (ES σ))
    (hs : PySem.W.findIn X.K (.ref C) "__getitem__" = some (some (.ref f))) (hfi : PySem.W.fnIn X.K f = true) (hf : PySem.W.isFn X.K (.ref f) = true) (ha : PE X a ta) (hb2 : PE X b tb)
    (hsl : ∀ x i, subscripted b true (.ref x) i = runValue (.builtin "lifetime.subscript" ⟨[.ref x, i], []⟩) := by intro _ _; with_unfolding_all rfl) : PE X (.Subscript a b pos) (tIxOwn C sp ES ta tb) := by
  refine ⟨fun pins s σ H Q I h => ?_⟩
  refine Subscript_ (binT (R := fun x y H2 => ∃ a dx fs, x = .ref a ∧ H2 a = some (.ins C dx fs) ∧ sp [x, y] H2 Q (ES σ)) ha hb2 I h fun v u s2 x y H2 I2 rx ry q => ?_)
  obtain ⟨o, dx, fs, rfl, ho, hq⟩ := q
  cases (show v = Value.ref o from rx)
  obtain ⟨mA, J, _⟩ := ins_get I2.hok ho
  obtain ⟨od, J, _⟩ := J.look
  obtain ⟨m, hF⟩ := I2.fr
  exact PySem.W.sub_K hF I2.ok.mod.kin J hs hfi hf (run_fnAS (us := [.ref o, u]) (vs := [.ref o, y]) F (room1 hr) rfl hb (hx σ) I2 (.cons rfl (.cons ry .nil)) hq) (hsl _ _)
/-- o.m(e, ..) within a try -/
def tMethX (C : Addr) (m : Str) (sp : Sp) (ES : L2.St → XK) (ta : TE) (t : TA) : TE := fun σ H Q => ta σ H fun x H1 => ∃ a dx fs, x = .ref a ∧ H1 a = some (.ins C dx fs) ∧ fs.lookup m = none ∧ t σ H1 fun vs H2 => sp (x :: vs) H2 Q (ES σ)
theorem pe_methX {o e : Expr} {es : List Expr} {m : Str} {apos pos : Pos} {ta : TE} {t : TA} {pl : Sem Bool} (he : PE X o ta) (c : Cls X.K C) (hm : Meth X.K C m f) (F : FnOk X.prog X.w X.K X.mg X.base CX n f fd ps sp) (hr : Room n X.A) (hb : Binds X.K fd ps []) (hx : ∀ σ, PassesAt CX X σ (ES σ)) (ha : PA X (e :: es) t)
    (hst : starEach (e :: es) X.env = (false, eval e X.env) :: starEach es X.env := by rfl) (hpl : (backTo pos (starEach es X.env)).any (·.1) = false := by rfl)
    (ht : eval (.Call (.Attribute o m apos) (e :: es) [] pos) X.env = (do
      let ov ← eval o X.env
      standAt apos.atName
      let (f, first) ← holding [ov] (getMethod ov m pl)
      callWith pos f first (backTo pos (starEach (e :: es) X.env)) (backToKw pos (keywordEach [] X.env))) := by rfl) :
    PE X (.Call (.Attribute o m apos) (e :: es) [] pos) (tMethX C m sp ES ta t) := by
  refine ⟨fun pins s σ H Q I h => ?_⟩
  refine PySem.W.methodCall_KW (pl := pl) (thn (he.run pins s σ H _ I h) fun u s1 ⟨x, H1, I1, rx, a, dx, fs, ex, ea, l, q⟩ => ?_) ht
  subst ex
  obtain rfl : u = Value.ref a := rx
  refine getmeth_ok I1 ea c hm l ?_
  refine PySem.W.callWith_K (first := [.ref a]) (h₀ := X.base) I.ok.mod.kin hm.kp (thn (ha.run pos pins s1 σ H1 _ I1 q) fun us s2 ⟨vs, H2, I2, r, q2⟩ => ⟨I2.kIn, ?_⟩) hst hpl
  exact run_fnAS (us := .ref a :: us) (vs := .ref a :: vs) F hr rfl hb (hx σ) I2 (.cons rfl r) q2
end
end L3

/-! own exceptions with fields, raised -/
namespace L3
open PySem PySem.Spec PyProof.Rows L2
structure ErrF (P : Program) (K : PySem.W.Frag) (mg : Str → Option Value) (C fI : Addr) (nm : Str) (fs : List Str) : Prop where
  g : mg nm = some (.ref C)
  J : ∀ w, InitOk P w K mg C fI fs
  V : ∃ (B newId initId : String) (bmB bm : List Value), ExcBaseFacts B newId initId bmB ∧ Above B bm ∧ ∃ nm q N bs hdct sn sub ab col dd k0 k1 k2 k3 k5, K.lookup C = some (excClassObj nm q C N bs bm hdct sn sub ab col dd k0 k1 k2 k3 k5 newId)
  kC : PySem.W.keepIn K (.ref C) = true
  iC : PySem.W.findIn K (.ref C) "__init__" = some (some (.ref fI))
  tI : PySem.W.typeIn K (.ref fI) = some (.type "function")
  ex : ExcC K C
  xf : XfC K C
  no : ∀ f ∈ fs, PySem.W.findIn K (.ref C) f = some none
section
variable {X : Cx} {C fI : Addr} {nm : Str} {fs : List Str} {e : Expr} {es : List Expr} {ta : TA} {p pos : Pos}
theorem pmk_err (T : ErrF X.prog X.K X.mg C fI nm fs) (tyC : PySem.W.typeIn X.K (.ref C) = some (.type "type")) (hr : Room 1 X.A) (hg : Gl X nm) (ha : PA X (e :: es) ta) (hdb : (nm == ("__debug__" : Str)) = false := by decide) (he : starEach (e :: es) X.env = (false, eval e X.env) :: starEach es X.env := by rfl) (hpl : (backTo pos (starEach es X.env)).any (·.1) = false := by rfl) :
    PMk X (.Call (.Name nm p) (e :: es) [] pos) (tSup C fs ta) := by
  obtain ⟨B, newId, initId, bmB, bm, F, A, V⟩ := T.V
  exact pmk_sup (T.J X.w) F A V T.kC T.iC T.tI T.ex.hs tyC hr hg T.g ha hdb he hpl
end
end L3

/-! try with several clauses «except x as n» -/
namespace L3
open PySem PySem.Spec PyProof.Rows L2
/-- behind a suite its name is gone -/
def offE (i : Nat) (D : Ends) : Ends := { nx := fun σ H => D.nx (σ.set i none) H, rt := D.rt, bk := fun σ H => D.bk (σ.set i none) H, ct := fun σ H => D.ct (σ.set i none) H }
abbrev Suites := List (Value × Nat × (Addr → Value → Option Addr → TS))
/-- what the clauses wish of an exception, one behind the other -/
def wCl (K : PySem.W.Frag) (Wo : WX) (D : Ends) : Suites → WX
  | [] => Wo
  | (c, i, ts) :: more => fun cls d σ H => ∃ hit, PySem.W.exmOne K cls c = some hit ∧ (hit = true → ∀ q, H q = none → ts q cls d (offE i D) (σ.set i (some (.ref q))) H) ∧ (hit = false → wCl K Wo D more cls d σ H)
inductive ClOk (X : Cx) : List ExceptHandler → Suites → Prop
  | done : ClOk X [] []
  | clause {x n : Str} {c : Value} {i : Nat} {ts : Addr → Value → Option Addr → TS} {st : Stmt} {sts : List Stmt} {p1 p2 : Pos} {more : List ExceptHandler} {ss : Suites} (slot : X.N[i]? = some n) (loc : X.env.kindOf n = some .local) (nm : Names X x c)
      (suite : ∀ (q : Addr) (oq : Obj) (cls : Value) (d : Option Addr) (pn : List (Addr × Obj)), Zc cls d oq → (∃ vs, oq.data = .fields vs) → PSs (X.suite q ((q, oq) :: pn)) (st :: sts) (ts q cls d)) (rest : ClOk X more ss) :
      ClOk X (.ExceptHandler (some (.Name x p1)) (some n) (st :: sts) p2 :: more) ((c, i, ts) :: ss)
/-- an exception on its way, in front of the clauses -/
structure Fallen (X : Cx) (pins : List (Addr × Obj)) (q : Addr) (B : Heap) (sI s1 : Shared) (σ : L2.St) (H : Hp) : Prop where
  inv : Inv X pins σ H sI
  base : ∀ b o, sI.heap.get? b = some o → b ∉ frs X.stack → B.get? b = some o
  free : H q = none
  os : s1.os = sI.os
  bare : AllBare s1.gens
def AtH (X : Cx) (q : Addr) (B : Heap) (sI : Shared) (cls : Value) (d : Option Addr) (h : Heap) : Prop := HandSPX.FlyingZ B (X.env :: X.outer) q (Zc cls d) h ∧ sI.heap.UpToSlots h
section
variable {X : Cx} {pins : List (Addr × Obj)} {q : Addr} {B : Heap} {sI s1 : Shared} {σ : L2.St} {H : Hp} {cls : Value} {d : Option Addr} {h : Heap}
theorem Fallen.here (F : Fallen X pins q B sI s1 σ H) (a : AtH X q B sI cls d h) : Inv X pins σ H { s1 with heap := h } := F.inv.landed F.base a.1.1 a.2 F.os F.bare
theorem Fallen.suite (F : Fallen X pins q B sI s1 σ H) (hf : X.env.frame = some X.env.locals) (a : AtH X q B sI cls d h) :
    ∃ oq, Zc cls d oq ∧ (∃ vs, oq.data = .fields vs) ∧ h.get? q = some oq ∧ Inv (X.suite q ((q, oq) :: (X.pn ++ pins))) [] σ H { s1 with heap := h } := by
  obtain ⟨oq, vs, at_, z, dat⟩ := a.1.there
  have off : q ∉ frs (X.env :: X.outer) := fun m => by
    obtain ⟨_, o2, e2, nf⟩ := a.1.2.2.1.mem m
    cases e2.symm.trans at_
    exact nf _ dat
  refine ⟨oq, z, ⟨vs, dat⟩, at_, (F.here a).suite at_ dat F.free (fun w => ?_) fun m => ?_⟩
  · exact off (List.mem_filterMap.mpr ⟨X.env, List.mem_cons_self, hf.trans (congrArg some w.symm)⟩)
  · obtain ⟨e, me, z2⟩ := List.mem_filterMap.mp m
    exact off (List.mem_filterMap.mpr ⟨e, List.mem_cons_of_mem _ me, z2⟩)
/-- no clause is left: it goes on -/
theorem Fallen.onward (F : Fallen X pins q B sI s1 σ H) (hs : X.stack = X.env :: X.outer) (hf : X.env.frame = some X.env.locals) {Wo : WX} (tk : Takes X Wo) (w : Wo cls d σ H) (a : AtH X q B sI cls d h) {D : Ends} :
    wpAny (model X.prog X.w) X.A (handleBy (.ref q) X.env []) (SP X pins D) X.xe { s1 with heap := h } := by
  have thrown : wpAny (model X.prog X.w) X.A (setFlight (.ref q) X.env.frame) (fun _ s4 => wpAny (model X.prog X.w) X.A (throw (.ref q) : Sem Flow) (SP X pins D) X.xe s4) X.xe { s1 with heap := h } := by
    rw [hf]
    refine HandSPX.setFlight_upZ a.1 fun h4 held up4 => wpAny_throw (tk _ _ ⟨q, B, sI, pins, σ, H, cls, d, rfl, F.inv, F.base, a.2.trans up4, .inr (.inr ?_), F.free, F.os, F.bare, w⟩)
    rw [hs]
    exact held
  refine wpAny_handleBy_nil ?_
  obtain ⟨_, _, _, oq, vs, T, oT, ts, at_, _, dat, tr, _⟩ := id a.1
  unfold PySem.passOn
  refine wpAny_bind (wpAny_field at_ dat tr ?_)
  rw [if_neg (by simp)]
  first
    | exact wpAny_bind thrown
    | exact wpAny_bind (wpAny_pure (wpAny_bind thrown))
theorem Fallen.clauses (F : Fallen X pins q B sI s1 σ H) (hs : X.stack = X.env :: X.outer) (hf : X.env.frame = some X.env.locals) (nodup : X.N.Nodup) {Wo : WX} (tk : Takes X Wo) {D : Ends} (a : AtH X q B sI cls d h) :
    ∀ {hds : List ExceptHandler} {ss : Suites}, ClOk X hds ss → wCl X.K Wo D ss cls d σ H → wpAny (model X.prog X.w) X.A (handleBy (.ref q) X.env hds) (SP X pins D) X.xe { s1 with heap := h } := by
  intro hds ss ok
  induction ok with
  | done => exact fun w => F.onward hs hf tk w a
  | @clause x n c i ts st sts p1 p2 more ss slot loc nm suite rest ih =>
    rintro ⟨hit, ex, yes, no⟩
    obtain ⟨oq, z, dat, at_, S⟩ := F.suite hf a
    refine wpAny_handleBy_cons (codeAny_handlers_test ?_) (fun w => nomatch w)
    have cl : PySem.W.Looks (model X.prog X.w) h (typeOf (.ref q)) cls := fun _ _ _ _ k r => wpAny_typeOf_ref (k _ _ at_) (by rw [z.1]; exact r)
    have mt := PySem.W.exm_one (M := model X.prog X.w) (F.here a).kIn cl ex
    have named : ∀ {R : Value → Shared → Prop} {E : Value → Shared → Prop}, R c { s1 with heap := h } → wpAny (model X.prog X.w) (X.A.mark (some (.ref q))) (eval (.Name x p1) X.env) R E { s1 with heap := h } := fun {R E} r => by
      rcases nm with ⟨gl, dbg, m | ⟨m, v, ne⟩⟩
      · exact ld_glob (X := X.suite q ((q, oq) :: (X.pn ++ pins))) S gl m r dbg
      · exact ld_blt (X := X.suite q ((q, oq) :: (X.pn ++ pins))) S gl m v r ne dbg
    refine named (mt.here ?_)
    cases hit with
    | false =>
      show wpAny _ X.A (handleBy (.ref q) X.env more) _ _ _
      exact ih (no rfl)
    | true =>
      refine codeAny_handlers_suite_as (HandSPX.lands_againZ a.1 fun h4 fl4 up4 => ?_)
      obtain ⟨o4, z4, dat4, _, S4⟩ := F.suite hf (h := h4) ⟨fl4, a.2.trans up4⟩
      refine store_ok (X := X.suite q ((q, o4) :: (X.pn ++ pins))) (v := .ref q) S4 nodup slot (.inl loc) rfl (fun s5 S5 => ?_) (.inr loc)
      refine wpAny_mono ((suite q o4 cls d (X.pn ++ pins) z4 dat4).run [] s5 _ H _ S5 (yes rfl q F.free)) (fun fl s6 r => ?_) (fun _ _ w => w.elim)
      have gone : ∀ {σ6 : L2.St} {H6 : Hp} {R : Shared → Prop}, Inv (X.suite q ((q, o4) :: (X.pn ++ pins))) [] σ6 H6 s6 → (∀ s7, Inv X pins (σ6.set i none) H6 s7 → R s7) → wpAny (model X.prog X.w) X.A (do bindName X.env n .none; unbindBehindTheSuite X.env n p2) (fun _ s7 => R s7) X.xe s6 :=
        fun S6 r6 => gone_ok (S6.unsuite F.inv.ok) nodup slot loc r6
      match fl, r with
      | .next, ⟨_, _, S6, r6⟩ => exact gone S6 fun _ J => ⟨_, _, J, r6⟩
      | .brk, ⟨_, _, S6, r6⟩ => exact gone S6 fun _ J => ⟨_, _, J, r6⟩
      | .cont, ⟨_, _, S6, r6⟩ => exact gone S6 fun _ J => ⟨_, _, J, r6⟩
      | .ret _, ⟨_, _, _, S6, rv, r6⟩ => exact gone S6 fun _ J => ⟨_, _, _, J, rv, r6⟩
end
section
variable {X : Cx} {body : List Stmt} {c0 : ExceptHandler} {cs : List ExceptHandler} {ss : Suites} {pos : Pos} {tb : WX → TS} {Wo : WX}
theorem ps_tryCl (hs : X.stack = X.env :: X.outer) (hf : X.env.frame = some X.env.locals) (nodup : X.N.Nodup) (tk : Takes X Wo)
    (hb : ∀ (W : WX) (pn : List (Addr × Obj)) (xe : Value → Shared → Prop), Takes (X.tr pn xe) W → PassesOwn (model X.prog X.w) X.A X.env xe → PSs (X.tr pn xe) body (tb W)) (cl : ClOk X (c0 :: cs) ss) :
    PS X (.Try body (c0 :: cs) [] [] pos) (fun D σ H => tb (wCl X.K Wo D ss) D σ H) := by
  constructor
  intro pins s σ H D I wish
  have frames : X.A.frames = some (X.env :: X.outer) := I.ok.frames.trans (congrArg some hs)
  let caught : Value → Shared → Prop := fun e s2 => wpAny (model X.prog X.w) X.A (handleBy e X.env (c0 :: cs)) (SP X pins D) X.xe s2
  have run := (hb (wCl X.K Wo D ss) (X.pn ++ pins) (fun e s0 => wpAny (model X.prog X.w) X.A (noteFrame e X.env) (fun _ s1 => wpAny (model X.prog X.w) X.A (setFlight e none) (fun _ s2 => caught e s2) X.xe s1) X.xe s0) (by
    rintro u s1 ⟨q, B, sI, pins1, σ1, H1, cls, d, rfl, J1, nb, up, sky, free, os, bare, w⟩
    rw [show (X.tr (X.pn ++ pins) _).stack = X.env :: X.outer from hs] at sky
    show wpAny (model X.prog X.w) X.A (noteFrame (.ref q) X.env) _ _ _
    refine Sky.land Zc.steady frames hf sky fun h2 fl2 up2 => ?_
    have F : Fallen X pins q B sI s1 σ1 H1 := ⟨J1.ofTry I.ok, nb, free, os, bare⟩
    exact F.clauses hs hf nodup tk (h := h2) ⟨fl2, up.trans up2⟩ cl w) PassesOwn.looking).run [] s σ H D (I.toTry _) wish
  refine wpAny_Try_except (wpAny_mono run (fun fl s1 r => ?_) fun _ _ r => r)
  match fl, r with
  | .next, ⟨σ1, H1, J, r⟩ => exact wpAny_execs_nil ⟨σ1, H1, J.ofTry I.ok, r⟩
  | .brk, ⟨σ1, H1, J, r⟩ => exact ⟨σ1, H1, J.ofTry I.ok, r⟩
  | .cont, ⟨σ1, H1, J, r⟩ => exact ⟨σ1, H1, J.ofTry I.ok, r⟩
  | .ret u, ⟨v, σ1, H1, J, rv, r⟩ => exact ⟨v, σ1, H1, J.ofTry I.ok, rv, r⟩
end
end L3

/-! dict comprehensions whose keys may be tuples -/
namespace L3
open PySem PySem.Spec PyProof.Rows L2
/-- one more entry of a dict that is being made -/
theorem put_run {X : Cx} {pins : List (Addr × Obj)} {σ : L2.St} {H H' : Hp} {s : Shared} {E : Value → Shared → Prop} {D : Addr} {y z : V} {u r : Value} {Q : Unit → Shared → Prop} (hu : X.A.units < cLine) (I : Inv X pins σ H s) (g : DPut H D y z H') (ry : RelV y u) (rz : RelV z r)
    (h : ∀ s', Inv X pins σ H' s' → Q () s') : wpAny (model X.prog X.w) X.A (dictSet D u r) Q E s := by
  rcases g with ⟨kvs, k, e, rfl, l, rfl⟩ | ⟨kvs, k, b, e, rfl, eb, l, rfl⟩
  · exact d_dictSet I e l ry rz h
  · cases (show u = Value.ref b from ry)
    obtain ⟨le, ns, xs, rel, dd⟩ := dt_of I.hok e
    have le2 : xs.length ≤ sizeLine := (Paired.length rel) ▸ le
    have le3 : (putK kvs k z).length ≤ sizeLine := Nat.le_trans (length_putK kvs k z) (by omega)
    refine wpAny_dictSet_heap (hsz := le2) hu (key_of I.hok eb) dd fun h' dd' sb => h _ ?_
    obtain ⟨o, es, ep, g1, g2, g3, g4, _, g5⟩ := dd'
    refine d_write I (by rw [e]; exact True.intro) sb ⟨o, g1⟩ ⟨le3, ns, _, KT.keeps (rel.put k eb rz) fun c ys ec => ?_, o, es, ep, g1, g2, g3, g4, g5⟩
    exact (upd_ne (ne_of ec e (fun q => nomatch q))).trans ec
section
variable {X : Cx}
/-- {key: value for target in iter if ..}; o0 is the new dict as it begins -/
def tDd (o0 : HO) (wi : TI) (g : TG) (tt : TT) (tk tv : TE) (vs : List Nat) : TE := fun σ H Q => wi σ H fun J H1 => ∀ D, H1 D = none → ∃ W : Nat → Nat → Hp → Prop, (∃ m, W 0 m (upd H1 D o0)) ∧ ∀ i m H, W i m H →
  (J.stop i H ∧ Q (.ref D) H) ∨ (J.go i H ∧ ∃ N : Hp → Prop, (∀ H', N H' → ∃ m', m' < m ∧ W (i + 1) m' H') ∧ ∀ x H', J.yld i H x H' → g x (wipe σ vs) H' fun σ2 H2 => wipe σ2 vs = wipe σ vs ∧ tt σ2 H2 fun b H3 =>
    if b = true then tk σ2 H3 fun y H4 => tv σ2 H4 fun z H5 => ∃ H6, DPut H5 D y z H6 ∧ N H6 else N H3)
/-- what holds of the iterator's own objects within the block -/
theorem own_static {Y : Cx} {fp : List Addr} {σ : L2.St} {H : Hp} {s : Shared} (I : Inv Y [] σ H s) (ex : Y.ex = fp) (pn : Y.pn = []) (n : ∀ b ∈ fp, H b = none) : ∀ b ∈ fp, FpOk Y [] H b := fun b m => by
  have m' : b ∈ Y.ex := by rw [ex]; exact m
  refine ⟨n b m, (I.ok.exf b m').1, I.ok.exfs b m', .inl m', (I.ok.exf b m').2, fun p hp => ?_⟩
  rw [pn] at hp
  cases hp
/-- the end of a turn: the iterator's objects as the turn found them -/
theorem turn_end {Y : Cx} {P : Program} {w : World} {K : PySem.W.Frag} {tg : Expr} {J : It} {fp vs} {it : Addr} {tn : Nat → Heap → Prop} {σ τ : L2.St} {H : Hp} {s t : Shared} {i : Nat} (T : Turn P w K tg J fp it tn) (st : tn i s.heap) (I : Inv Y ([] ++ pinsAt fp s.heap) τ H t) (hw : wipe τ vs = wipe σ vs) :
    Inv Y [] (wipe σ vs) H t ∧ tn i t.heap ∧ ∀ b ∈ fp, H b = none := by
  have same : ∀ b ∈ fp, ∀ o, s.heap.get? b = some o → t.heap.get? b = some o ∧ H b = none := fun b m o e => by
    have q := I.pin (b, o) (List.mem_append_right _ (List.mem_append_right _ (mem_pinsAt m e)))
    exact ⟨q.1, q.2.1⟩
  refine ⟨(Inv.unpinned (pins := []) I).weak (by rw [← hw]; exact wipe_length _ _) (fun j v e => ?_), T.keep _ _ _ st fun b m o e => (same b m o e).1, fun b m => ?_⟩
  · rw [← hw] at e
    exact (wipe_some e).1
  · obtain ⟨o, e, _⟩ := T.obj _ _ st b m
    exact (same b m o e).2
/-- one turn of the block -/
theorem dd_turn {Y : Cx} {kx vx tg : Expr} {ifs : List Expr} {J : It} {fp : List Addr} {it D : Addr} {tn : Nat → Heap → Prop} {g : TG} {tt : TT} {tk tv : TE} {σ : L2.St} {vs : List Nat} {Z : Nat → Shared → Prop} {R : Shared → Prop} {n : Nat} {W : Nat → Nat → Hp → Prop} {Qd : Hp → Prop}
    (hu : Y.A.units < cLine) (hc : Y.calm = true) (hex : Y.ex = fp) (hpn : Y.pn = []) (hxe : Y.xe = fun _ _ => False) (pg : PG Y tg g) (pt : PTs Y ifs tt) (pk : PE Y kx tk) (pv : PE Y vx tv) (T : Turn Y.prog Y.w Y.K tg J fp it tn)
    (W' : ∀ i m H, W i m H → (J.stop i H ∧ Qd H) ∨ (J.go i H ∧ ∃ N : Hp → Prop, (∀ H', N H' → ∃ m', m' < m ∧ W (i + 1) m' H') ∧ ∀ x H', J.yld i H x H' → g x (wipe σ vs) H' fun σ2 H2 => wipe σ2 vs = wipe σ vs ∧ tt σ2 H2 fun b H3 =>
      if b = true then tk σ2 H3 fun y H4 => tv σ2 H4 fun z H5 => ∃ H6, DPut H5 D y z H6 ∧ N H6 else N H3))
    (hR : ∀ s H, Inv Y [] (wipe σ vs) H s → Qd H → R s) (hZ : ∀ m, m < n → ∀ s i H, Inv Y [] (wipe σ vs) H s → tn i s.heap → (∀ b ∈ fp, H b = none) → W i m H → Z n s)
    (s : Shared) (i : Nat) (H : Hp) (I : Inv Y [] (wipe σ vs) H s) (st : tn i s.heap) (nn : ∀ b ∈ fp, H b = none) (wn : W i n H) {E : Value → Shared → Prop} :
    wpAny (model Y.prog Y.w) Y.A (pyNext (.ref it)) (fun r s₁ => match r with
      | none => R s₁
      | some v => wpAny (model Y.prog Y.w) Y.A (letOwnedTupleGo tg (.ref it) v) (fun _ s₁' => wpAny (model Y.prog Y.w) Y.A (assign tg Y.env v) (fun _ s₂ =>
          wpAny (model Y.prog Y.w) Y.A (forIn ifs true fun c r => if r = true then do let ok ← isTrue c Y.env (eval c Y.env); pure (ForInStep.yield ok) else pure (ForInStep.yield r)) (fun ok s₃ =>
            if ok = true then wpAny (model Y.prog Y.w) Y.A (eval kx Y.env) (fun kv s₄ => wpAny (model Y.prog Y.w) Y.A (eval vx Y.env) (fun vv s₅ =>
              wpAny (model Y.prog Y.w) Y.A (dictSet D kv vv) (fun _ s₆ => Z n s₆) E s₅) E s₄) E s₃
            else Z n s₃) E s₂) E s₁') E s₁) E s := by
  have sta := own_static I hex hpn nn
  rcases W' i n H wn with ⟨stop, q⟩ | ⟨go, N, hN, step⟩
  · exact thnF (T.done Y rfl rfl rfl hc i [] s _ H (fun _ _ => False) I sta st stop) fun r t ⟨hr, I2⟩ => by
      subst hr
      exact hR t H I2 q
  · refine thnF (T.item Y rfl rfl rfl hc i [] s _ H (fun _ _ => False) I sta st go) fun r t ⟨v, hr, h2⟩ => ?_
    subst hr
    refine thnF h2 fun _ t2 ⟨x, H2, I2, rx, yl, st2, n2⟩ => ?_
    have I3 := I2.pinned (own_static I2 hex hpn n2) (T.obj _ _ st2)
    have fin : ∀ {τ : L2.St} {H' : Hp} {t' : Shared}, wipe τ vs = wipe σ vs → Inv Y ([] ++ pinsAt fp t2.heap) τ H' t' → N H' → Z n t' := fun hw I' nx => by
      obtain ⟨m, hm, wm⟩ := hN _ nx
      obtain ⟨a1, a2, a3⟩ := turn_end (σ := σ) T st2 I' hw
      exact hZ m hm _ _ _ a1 a2 a3 wm
    have low : ∀ {α : Type} {p : Sem α} {q : α → Shared → Prop} {u : Shared}, wpAny (model Y.prog Y.w) Y.A p q Y.xe u → wpAny (model Y.prog Y.w) Y.A p q (fun _ _ => False) u := fun hh => by rw [hxe] at hh; exact hh
    refine thnF (low (pg.run _ t2 _ H2 x v _ I3 rx (step x H2 yl))) fun _ t3 ⟨τ, H3, I4, hw, q3⟩ => ?_
    refine thnF (low (pt.run _ t3 τ H3 _ I4 q3)) fun b t4 ⟨H4, I5, q4⟩ => ?_
    cases b with
    | false => exact fin hw I5 q4
    | true =>
      refine thnF (low (pk.run _ t4 τ H4 _ I5 q4)) fun ku t5 ⟨y, H5, I6, ry, q5⟩ => ?_
      refine thnF (low (pv.run _ t5 τ H5 _ I6 q5)) fun vu t6 ⟨z, H6, I7, rz, H7, gp, q6⟩ => ?_
      exact put_run (X := Y) hu I7 gp ry rz fun t7 I8 => fin hw I8 q6
/-- such a dict over a walk: Pv by the turn and the heap -/
theorem dd_it {o0 : HO} {J : It} {n : Nat} {G : Hp → Prop} {Y : Nat → Hp → V → Hp → Prop} (w : Walk J n G Y) {g : TG} {tt : TT} {tk tv : TE} {vs : List Nat} {σ : L2.St} {H1 : Hp} {D : Addr} {Qd : Hp → Prop} (Pv : Nat → Hp → Prop) (h0 : Pv 0 (upd H1 D o0)) (hG : ∀ i H, i ≤ n → Pv i H → G H)
    (hs : ∀ i x H H', i < n → Pv i H → Y i H x H' → g x (wipe σ vs) H' fun σ2 H2 => wipe σ2 vs = wipe σ vs ∧ tt σ2 H2 fun b H3 => if b = true then tk σ2 H3 fun y H4 => tv σ2 H4 fun z H5 => ∃ H6, DPut H5 D y z H6 ∧ Pv (i + 1) H6 else Pv (i + 1) H3) (hd : ∀ H, Pv n H → Qd H) :
    ∃ W : Nat → Nat → Hp → Prop, (∃ m, W 0 m (upd H1 D o0)) ∧ ∀ i m H, W i m H → (J.stop i H ∧ Qd H) ∨ (J.go i H ∧ ∃ N : Hp → Prop, (∀ H', N H' → ∃ m', m' < m ∧ W (i + 1) m' H') ∧ ∀ x H', J.yld i H x H' → g x (wipe σ vs) H' fun σ2 H2 => wipe σ2 vs = wipe σ vs ∧ tt σ2 H2 fun b H3 =>
      if b = true then tk σ2 H3 fun y H4 => tv σ2 H4 fun z H5 => ∃ H6, DPut H5 D y z H6 ∧ N H6 else N H3) := by
  refine ⟨fun i m H => i ≤ n ∧ m = n - i ∧ Pv i H, ⟨n, Nat.zero_le n, rfl, h0⟩, fun i m H ⟨hi, hm, p⟩ => ?_⟩
  rcases Nat.lt_or_ge i n with lt | ge
  · refine .inr ⟨w.goes i H lt (hG i H hi p), Pv (i + 1), fun H' p' => ⟨n - (i + 1), by omega, by omega, rfl, p'⟩, fun x H' y => hs i x H H' lt p (w.yields i H x H' lt (hG i H hi p) y)⟩
  · obtain rfl : i = n := by omega
    exact .inl ⟨w.stops H (hG _ H hi p), hd H p⟩
section
variable {kx vx tg iter : Expr} {ifs : List Expr} {scope : Scope} {own : List (Str × Nat)} {pos : Pos} {wi : TI} {g : TG} {tt : TT} {tk tv : TE} {o0 : HO}
theorem dd_new (h0 : o0 = .dK [] ∨ o0 = .dT []) {pins : List (Addr × Obj)} {σ : L2.St} {H : Hp} {s : Shared} (I : Inv X pins σ H s) : Inv X pins σ (upd H s.heap.objs.size o0) { s with heap := s.heap.push { cls := .type "dict", data := .dict #[] } } := by
  refine I.laid (t' := s.toks) (fun _ _ e => Heap.get?_push_of_some _ e) (Nat.le_refl _) ?_
  rcases h0 with rfl | rfl
  · exact dk_empty s.heap I.big
  · exact dt_empty s.heap I.big
theorem pe_dd (h0 : o0 = .dK [] ∨ o0 = .dT []) (hu : X.A.units < cLine) (hc : X.calm = true) (hN : X.N.Nodup) (hi : PI X tg iter wi) (ok : BlkOk X.N X.env.scope scope own)
    (hg : ∀ (s : Shared) (H : Hp) (C : Addr) (cl : List (Str × Addr)) (fp : List Addr), PG (X.blk s H scope (compEnvC scope cl C X.env) fp) tg g) (ht : ∀ (s : Shared) (H : Hp) (C : Addr) (cl : List (Str × Addr)) (fp : List Addr), PTs (X.blk s H scope (compEnvC scope cl C X.env) fp) ifs tt)
    (hk : ∀ (s : Shared) (H : Hp) (C : Addr) (cl : List (Str × Addr)) (fp : List Addr), PE (X.blk s H scope (compEnvC scope cl C X.env) fp) kx tk)
    (he : ∀ (s : Shared) (H : Hp) (C : Addr) (cl : List (Str × Addr)) (fp : List Addr), PE (X.blk s H scope (compEnvC scope cl C X.env) fp) vx tv) (hs : ∀ x, foldedSetIterable iter X.env x = pure x := by intro _; rfl) :
    PE X (.DictComp kx vx [⟨tg, iter, ifs, 0⟩] scope pos) (tDd o0 wi g tt tk tv (own.map (·.2))) := by
  refine ⟨fun pins s σ H Q I h => ?_⟩
  rw [arm_eval_DictComp]
  have outer : ∀ y ∈ scope.names, y.2 = .free → ∃ c, X.env.cells.lookup y.1 = some c := fun y m z => (ok.free y m z).elim (fun k => I.ok.has _ (.inl k)) fun k => I.ok.has _ (.inr k)
  refine wpAny_comprehension_free (use := none) rfl hs (closure_ok outer) ok.kind (fun y m z => (ok.uniq y m).trans (congrArg some z)) (thn (hi.run pins s σ H _ I h) fun _ sA hA => thn hA fun itu t hB => ?_)
  obtain ⟨it, fp, tn, J, HB, rfl, IB, T, stB, fB, go⟩ := hB
  refine wpAny_newObj_type (newEnv_comp ?_)
  have free0 : HB t.heap.objs.size = none := IB.hok.fresh (Nat.le_refl _)
  obtain ⟨W, ⟨m0, w0⟩, W'⟩ := go _ free0
  have I1 := dd_new h0 IB
  have young : ∀ b ∈ fp, b < t.heap.objs.size := fun b m => by
    obtain ⟨o, e, _⟩ := T.obj _ _ stB b m
    exact Heap.lt_size e
  have f1 : ∀ b ∈ fp, FpOk X pins (upd HB t.heap.objs.size o0) b := fun b m => ⟨(upd_ne (Nat.ne_of_lt (young b m))).trans (fB b m).1, (fB b m).2⟩
  have push1 : ∀ b o, t.heap.get? b = some o → (t.heap.push { cls := .type "dict", data := .dict #[] }).get? b = some o := fun b o e => Heap.get?_push_of_some _ e
  generalize HB' : upd HB t.heap.objs.size o0 = HC at I1 f1 w0
  generalize hD : t.heap.objs.size = D at free0 W' ⊢
  generalize ht1 : ({ t with heap := t.heap.push { cls := .type "dict", data := .dict #[] } } : Shared) = t1 at I1 ⊢
  have st1 : tn 0 t1.heap := T.keep _ _ _ stB fun b _ o e => by rw [← ht1]; exact push1 b o e
  have f2 : ∀ b ∈ fp, FpOk X pins HC b ∧ b < t1.heap.objs.size := fun b m => ⟨f1 b m, by rw [← ht1]; exact Nat.lt_of_lt_of_le (young b m) (by rw [Heap.size_push]; exact Nat.le_succ _)⟩
  have IC := block_start I1 ok hN f2
  have gs := hg t1 HC t1.heap.objs.size (cellsFrom (t1.heap.objs.size + 1) scope.names (cloFrom X.env.cells scope.names [])) fp
  have ts := ht t1 HC t1.heap.objs.size (cellsFrom (t1.heap.objs.size + 1) scope.names (cloFrom X.env.cells scope.names [])) fp
  have ks := hk t1 HC t1.heap.objs.size (cellsFrom (t1.heap.objs.size + 1) scope.names (cloFrom X.env.cells scope.names [])) fp
  have vs := he t1 HC t1.heap.objs.size (cellsFrom (t1.heap.objs.size + 1) scope.names (cloFrom X.env.cells scope.names [])) fp
  show codeAny _ _ (.compStart (.DictComp kx vx [⟨tg, iter, ifs, 0⟩] scope pos) 0 (.ref it) (.ref D) (compEnvC scope (cellsFrom (t1.heap.objs.size + 1) scope.names (cloFrom X.env.cells scope.names [])) t1.heap.objs.size X.env))
    (compPost (model X.prog X.w) X.A X.xe none _ (.ref D) t1.heap.objs.size) { t1 with heap := pushCells (t1.heap.push { cls := .type "dict", data := .dict #[] }) scope.names }
  generalize hce : compEnvC scope (cellsFrom (t1.heap.objs.size + 1) scope.names (cloFrom X.env.cells scope.names [])) t1.heap.objs.size X.env = ce at IC gs ts ks vs ⊢
  have at1 : ce.locals = t1.heap.objs.size := by rw [← hce]; rfl
  generalize ht2 : ({ t1 with heap := pushCells (t1.heap.push { cls := .type "dict", data := .dict #[] }) scope.names } : Shared) = t2 at IC ⊢
  have st2 : tn 0 t2.heap := T.keep _ _ _ st1 fun b _ o e => by rw [← ht2]; exact pushCells_keeps _ _ _ _ (Heap.get?_push_of_some _ e)
  -- behind the last turn
  have done : ∀ u H', Inv (X.blk t1 HC scope ce fp) [] (wipe σ (own.map (·.2))) H' u → Q (.ref D) H' → compPost (model X.prog X.w) X.A X.xe none (fun v s' => ∃ x H1, Inv X pins σ H1 s' ∧ RelV x v ∧ Q x H1) (.ref D) t1.heap.objs.size (.ok .next) u := fun u H' IU q => by
    have IX : Inv X pins σ H' u := I1.call' (ch := fp) IU.os IU.base IU.hok IU.bare fun b m => ⟨(f2 b m).1.2.2.2.1, (f2 b m).1.2.1, (f2 b m).1.2.2.2.2.1, (f2 b m).1.2.2.2.2.2⟩
    have nL : H' t1.heap.objs.size = none := by rw [← at1]; exact IU.free
    obtain ⟨mL, nsL, _⟩ := IU.loc
    obtain ⟨y0, y1, y2, y3, y4, y5⟩ := I1.fpOk (H' := H') (Nat.le_refl _) nL
    refine ⟨mL, by rw [← at1]; exact nsL, fun h2 sb => ⟨.ref D, H', ?_, rfl, q⟩⟩
    exact IX.turned (t' := u.toks) (fun b o ne e => (sb.2 b ne).trans e) y0 y1 y3 y4 y5
  have loop : codeAny (model X.prog X.w) X.A (.compLoop (.DictComp kx vx [⟨tg, iter, ifs, 0⟩] scope pos) 0 (.ref it) (.ref D) ce) (compPost (model X.prog X.w) X.A X.xe none (fun v s' => ∃ x H1, Inv X pins σ H1 s' ∧ RelV x v ∧ Q x H1) (.ref D) t1.heap.objs.size) t2 := by
    refine compLoop_anyD (fun n u => ∃ i H', Inv (X.blk t1 HC scope ce fp) [] (wipe σ (own.map (·.2))) H' u ∧ tn i u.heap ∧ (∀ b ∈ fp, H' b = none) ∧ W i n H') ?_ m0 ⟨0, HC, IC, st2, fun b m => (f2 b m).1.1, w0⟩
    rintro n u ⟨i, H', IU, su, nu, wu⟩
    exact dd_turn (Y := X.blk t1 HC scope ce fp) (Z := fun n s => ∃ m, m < n ∧ ∃ i H', Inv (X.blk t1 HC scope ce fp) [] (wipe σ (own.map (·.2))) H' s ∧ tn i s.heap ∧ (∀ b ∈ fp, H' b = none) ∧ W i m H') hu hc rfl rfl rfl gs ts ks vs T W' done
      (fun m hm s i H I st nn wn => ⟨m, hm, i, H, I, st, nn, wn⟩) u i H' IU su nu wu
  exact codeAny_compStart_dict loop (T.self X.A 0 _ _ _ st2 loop)
end
end
end L3

/-! {**d, k: v} -/
namespace PySem.MM
open PySem
section
variable {K : Type} [DecidableEq K] {prog : Program} {w : World} {kn : KeyKind prog w K}
theorem in_both {es : List DictEntry} {ps : List (K × Value)} (h : Pairs kn es ps) (k : K) : (es.findIdx? fun e => kn.is k e.key).isSome = ps.any fun kv => decide (kv.1 = k) := by
  rw [h.findIdx k]
  clear h
  induction ps with
  | nil => rfl
  | cons p ps ih => cases c : decide (p.1 = k) <;> simp [List.findIdx?_cons, c, ih]
theorem there {es : List DictEntry} {ps : List (K × Value)} (h : Pairs kn es ps) {k : K} {i : Nat} (e : (es.findIdx? fun e => kn.is k e.key) = some i) (v : Value) : stored ps k v = ps.map fun kv => if kv.1 = k then (kv.1, v) else kv :=
  if_pos ((in_both h k).symm.trans (by rw [e]; rfl))
theorem fresh {es : List DictEntry} {ps : List (K × Value)} (h : Pairs kn es ps) {k : K} (e : (es.findIdx? fun e => kn.is k e.key) = none) (v : Value) : stored ps k v = ps ++ [(k, v)] :=
  if_neg (fun q => nomatch (show (none : Option Nat).isSome = true from e ▸ (in_both h k).trans q))
theorem nod_put (ps : List (K × Value)) (k : K) (v : Value) (n : (ps.map (·.1)).Nodup) : ((stored ps k v).map (·.1)).Nodup := by
  by_cases c : ps.any (fun kv => decide (kv.1 = k)) = true
  · rw [show stored ps k v = _ from if_pos c, keys_map_store]
    exact n
  · rw [show stored ps k v = _ from if_neg c, List.map_append]
    refine (List.perm_append_singleton k _).nodup_iff.mpr (List.nodup_cons.mpr ⟨fun m => c ?_, n⟩)
    obtain ⟨q, m, e⟩ := List.mem_map.mp m
    exact List.any_eq_true.mpr ⟨q, m, decide_eq_true e⟩
variable {A : Around} {E : Value → Shared → Prop}
theorem put1 {s : Shared} {d : Addr} {ps : List (K × Value)} {k : K} {key v : Value} {Q : Unit → Shared → Prop} (hk : kn.is k key = true) (z : ps.length ≤ sizeLine) (D : s.heap.DictOf kn d ps)
    (q : ∀ h, Heap.SameBut d s.heap h → h.DictOf kn d (stored ps k v) → Q () { s with heap := h }) : wpAny (model prog w) A (dictPut d (kn.hash k) key v) Q E s := by
  obtain ⟨ob, ar, ep, g, ex, da, ks, pp, nd⟩ := D
  have al : (ar.findIdx? fun e => kn.is k e.key) = ar.toList.findIdx? fun e => kn.is k e.key := by
    cases ar
    simp
  unfold dictPut
  refine wpAny_bind (wpAny_dictFind_of hk g da ks ?_)
  rw [al]
  cases c : ar.toList.findIdx? fun e => kn.is k e.key with
  | none =>
    have lz : ar.size ≤ sizeLine := by
      rw [← Array.length_toList, pp.length]
      exact z
    refine wpAny_updateDictKeys (hz := lz) g da (q _ (Heap.SameBut.update ..) ⟨_, _, _, Heap.get?_update_self _ g (Obj.isFreed_of_dict (Obj.data_mapDictKeys da _)), ex.mapDictKeys _, Obj.data_mapDictKeys da _, ks.push hk _, ?_, nod_put ps k v nd⟩)
    rw [fresh pp c, Array.toList_push]
    exact pp.append hk _ v
  | some i =>
    refine wpAny_updateDict g da (q _ (Heap.SameBut.update ..) ⟨_, _, _, Heap.get?_update_self _ g (Obj.isFreed_of_dict (Obj.data_mapDict da _)), ex.mapDict _, Obj.data_mapDict da _, ks.modify _ _, ?_, nod_put ps k v nd⟩)
    rw [there pp c, Array.toList_modify]
    exact pp.modify nd c v
/-- A walk over the rows i, i+1, …, of a table `b`, each put into `d`: by induction on how many are left. -/
theorem walk {d b : Addr} {ob : Obj} {more : List (K × Value)} (db : b ≠ d) {f : Nat → PUnit → Sem (ForInStep PUnit)}
    (turn : ∀ (i : Nat) (r : K × Value) (acc : List (K × Value)) (s : Shared), more[i]? = some r → acc.length ≤ sizeLine → s.heap.get? b = some ob → s.heap.DictOf kn d acc →
      wpAny (model prog w) A (f i PUnit.unit) (fun x s' => x = .yield PUnit.unit ∧ ∃ h, s' = { s with heap := h } ∧ Heap.SameBut d s.heap h ∧ h.DictOf kn d (stored acc r.1 r.2)) E s) :
    ∀ (n i : Nat) (acc : List (K × Value)) (s : Shared) (Q : PUnit → Shared → Prop), i + n = more.length → acc.length + n ≤ sizeLine → s.heap.get? b = some ob → s.heap.DictOf kn d acc →
      (∀ h, Heap.SameBut d s.heap h → h.DictOf kn d (merged acc (more.drop i)) → Q PUnit.unit { s with heap := h }) → wpAny (model prog w) A (forIn (List.range' i n) PUnit.unit f) Q E s
  | 0, i, acc, s, Q, hi, _, _, D, q => by
    rw [List.range'_zero, List.forIn_nil]
    refine wpAny_pure (q s.heap (Heap.SameBut.refl _ _) ?_)
    rw [List.drop_of_length_le (by omega)]
    exact D
  | n + 1, i, acc, s, Q, hi, hz, g, D, q => by
    have lt : i < more.length := by omega
    rw [List.range'_succ, List.forIn_cons]
    refine wpAny_bind (wpAny_mono (turn i _ acc s (List.getElem?_eq_getElem lt) (by omega) g D) (fun x s' h => ?_) fun _ _ h => h)
    obtain ⟨rfl, h1, rfl, sb, D1⟩ := h
    have l1 := stored_length_le acc more[i].1 more[i].2
    refine walk db turn n (i + 1) _ { s with heap := h1 } Q (by omega) (by omega) ((sb.2 b db).trans g) D1 fun h2 sb2 D2 => q h2 (sb.trans sb2) ?_
    rw [← List.getElem_cons_drop lt]
    exact D2
theorem merge1 {s : Shared} {d b : Addr} {ps more : List (K × Value)} {Q : Unit → Shared → Prop} (nr : ∀ k a, kn.is k (.ref a) = false) (db : b ≠ d) (ns : (b == sysModules) = false) (z : ps.length + more.length ≤ sizeLine)
    (D : s.heap.DictOf kn d ps) (B : s.heap.DictOf kn b more) (q : ∀ h, Heap.SameBut d s.heap h → h.DictOf kn d (merged ps more) → Q () { s with heap := h }) : wpAny (model prog w) A (mergeMapping d (.ref b) false) Q E s := by
  have tb := B.typeIs
  obtain ⟨oD, aD, eD, gD, _, dD, _⟩ := id D
  obtain ⟨oB, aB, eB, gB, xB, dB, kB, pB, nB⟩ := B
  have lB : aB.size = more.length := by
    rw [← Array.length_toList, pB.length]
  unfold mergeMapping
  refine wpAny_bind (wpAny_isInstance tb isSubtype_dict_dict (show wpAny _ _ (if true = true then _ else _) _ _ _ from ?_))
  rw [if_pos rfl]
  refine wpAny_bind (wpAny_specialOf tb F.slot_dict_iter.lookup (wpAny_bind (wpAny_pure ?_)))
  rw [beq_self_eq_true]
  show wpAny _ _ (if (b == sysModules) = true then _ else _) _ _ _
  rw [ns, if_neg (fun c => nomatch c)]
  refine wpAny_bind (wpAny_dictEntries gD dD ?_)
  dsimp only
  cases aD.isEmpty
  case' true =>
    rw [if_pos rfl]
    refine wpAny_bind (wpAny_dictEntries gB dB ?_)
    refine wpAny_bind (show wpAny _ _ (forIn aB _ _) _ _ _ from ?_)
    rw [← Array.forIn_toList]
    refine wpAny_of_eq (a := PUnit.unit) (forIn_yield_id _ fun e m c => ?_) ?_
    case' refine_1 =>
      obtain ⟨k, hk, _⟩ := kB e (Array.mem_toList_iff.mp m)
      split
      case' h_1 a ea =>
        rw [ea, nr] at hk
        exact nomatch hk
      case' h_2 => rfl
  case' false => rw [if_neg (fun c => nomatch c)]
  all_goals
    refine wpAny_bind (wpAny_dictEntries gB dB ?_)
    refine wpAny_bind (wpAny_dictEpoch gB dB ?_)
    refine wpAny_bind ?_
    rw [List.range_eq_range']
    refine walk db (more := more) (kn := kn) (ob := oB) ?_ aB.size 0 ps s _ (by omega) (by omega) gB D fun h sb D' => wpAny_pure (q h sb D')
    intro i r acc t ei az g D'
    obtain ⟨li, er⟩ := List.getElem?_eq_some_iff.mp ei
    have la : i < aB.size := by omega
    obtain ⟨k1, v1⟩ := pB.get? (e := aB[i]) (by simp [la]) ei
    obtain ⟨k2, h2, hh⟩ := kB aB[i] (Array.getElem_mem la)
    cases kn.inj _ _ _ h2 k1
    refine wpAny_bind (wpAny_dictEntries g dB ?_)
    rw [Array.getElem?_eq_getElem la]
    refine wpAny_bind (wpAny_holding (?_ : wpAny _ _ (if false = true then _ else _) _ _ _))
    rw [if_neg (fun c => nomatch c), hh]
    refine put1 k1 az D' fun h sb D2 => wpAny_bind (wpAny_dictEpoch ((sb.2 b db).trans g) dB ?_)
    rw [if_neg (by simp)]
    exact wpAny_pure ⟨rfl, h, rfl, sb, v1 ▸ D2⟩
end
end PySem.MM
namespace L3
open PySem PySem.Spec PyProof.Rows L2
/-- {**e0, k: v} -/
def tDst (t0 tk tv : TE) : TE := fun σ H Q => ∀ d, H d = none → t0 σ (upd H d (.dK [])) fun x H1 => ∃ a kvs, x = .ref a ∧ Rd H1 a (.dK kvs) ∧ a ≠ d ∧ H1 d = some (.dK []) ∧ kvs.length < sizeLine ∧
  ∀ b, (upd H1 d (.dK kvs)) b = none → tPairs [(tk, tv)] σ (upd (upd H1 d (.dK kvs)) b (.dK [])) fun ps H3 => ∃ k z, ps = [(kV k, z)] ∧ H3 d = some (.dK kvs) ∧ H3 b = some (.dK []) ∧ Q (.ref d) (upd (upd H3 b (.dK [(k, z)])) d (.dK (putK kvs k z)))
section
variable {X : Cx}
theorem pe_dst {e0 ke ve : Expr} {pos : Pos} {t0 tk tv : TE} (h0 : PE X e0 t0) (hk : PE X ke tk) (hv : PE X ve tv) : PE X (.Dict [none, some ke] [e0, ve] pos) (tDst t0 tk tv) := by
  refine ⟨fun pins s σ H Q I h => ?_⟩
  rw [arm_eval_Dict]
  refine wpAny_bind (wpAny_standAt ?_)
  have hz : (evalEachOpt [none, some ke] X.env).zip ((evalEach [e0, ve] X.env).map fun v => do let x ← v; standAt pos; pure x) = [(none, do let x ← eval e0 X.env; standAt pos; pure x), (some (eval ke X.env), do let x ← eval ve X.env; standAt pos; pure x)] := rfl
  rw [hz]
  unfold dictDisplay
  simp only [List.forIn_cons, List.forIn_nil, bind_assoc, pure_bind, List.isEmpty_nil, if_true]
  have hn : H s.heap.objs.size = none := I.hok.fresh (Nat.le_refl _)
  have I1 := I.laid (a := s.heap.objs.size) (o := .dK []) (h' := s.heap.push { cls := .type "dict", data := .dict #[] }) (t' := s.toks) (fun _ _ q => Heap.get?_push_of_some _ q) (Nat.le_refl _) (dk_empty s.heap I.big)
  refine wpAny_bind (wpAny_alloc ?_)
  refine wpAny_bind (wpAny_holding (wpAny_bind (thn (h0.run pins _ σ _ _ I1 (h _ hn)) fun m s2 ⟨x, H2, I2, rx, q⟩ => wpAny_bind (wpAny_standAt (wpAny_pure ?_)))))
  generalize s.heap.objs.size = d at q I2 hn ⊢
  obtain ⟨a, kvs, rfl, hr, had, ed, lz, q⟩ := q
  cases (show m = Value.ref a from rx)
  obtain ⟨z0, hd0, vs0, r0, dd0⟩ := dk_of I2.hok ed
  cases r0
  obtain ⟨z1, hd1, vs1, r1, dd1⟩ := dk_rd I2.hok hr
  have l1 : vs1.length = kvs.length := r1.length.symm
  have nr : ∀ (k : Key) (a : Addr), (mixKind X.prog X.w).is k (.ref a) = false := fun k a => by
    cases k <;> rfl
  refine wpAny_bind (wpAny_onRaise (wpAny_tryCatch (wpAny_onRaise (wpAny_holding (MM.merge1 (kn := mixKind X.prog X.w) nr had hd1 (by rw [List.length_nil]; omega) dd0 dd1 fun h' sb dd' => ?_)))))
  have nod : (vs1.map (·.1)).Nodup := by
    obtain ⟨_, _, _, _, _, _, _, _, hno⟩ := dd1
    exact hno
  rw [merged_nil_of_nodup vs1 nod] at dd'
  have he : ∃ q, h'.get? d = some q := let ⟨q, _, _, hq, _⟩ := dd'; ⟨q, hq⟩
  have I3 := d_write (t' := s2.toks) (ob := .dK kvs) I2 (by rw [ed]; exact True.intro) sb he (dk_new z1 hd0 r1 dd')
  generalize hs3 : ({ s2 with heap := h', toks := s2.toks } : Shared) = s3 at I3
  simp only [List.nil_append, List.length_cons, List.length_nil, List.isEmpty_cons, Bool.false_eq_true, if_false, pure_bind, show ((0 + 1 : Nat) == 17) = false from rfl]
  have hb : (upd H2 d (.dK kvs)) s3.heap.objs.size = none := I3.hok.fresh (Nat.le_refl _)
  have I4 := I3.laid (a := s3.heap.objs.size) (o := .dK []) (h' := s3.heap.push { cls := .type "dict", data := .dict #[] }) (t' := s3.toks) (fun _ _ q => Heap.get?_push_of_some _ q) (Nat.le_refl _) (dk_empty s3.heap I3.big)
  have q2 := q _ hb
  have pr := (pps_cons (pos := pos) hk hv pps_nil).run pins _ σ _ _ I4 q2
  refine wpAny_bind (wpAny_bind (wpAny_holding (wpAny_subDict (knd := mixKind X.prog X.w) (by show 1 ≤ 15; decide) (thn pr fun ws s5 hq => ?_))))
  generalize s3.heap.objs.size = b at hq hb ⊢
  obtain ⟨ps, H5, I5, rel, k, z, rfl, e1, e2, qq⟩ := hq
  obtain ⟨rs, c, rk⟩ := carries_of (P := X.prog) (w := X.w) (kvs := [(k, z)]) rel
  obtain ⟨z3, hd3, vs3, r3, dd3⟩ := dk_of I5.hok e2
  cases r3
  refine ⟨rs, c, dd3, fun h5 dd5 sb5 => ?_⟩
  have he5 : ∃ q, h5.get? b = some q := let ⟨q, _, _, hq, _⟩ := dd5; ⟨q, hq⟩
  have hl1 : (mergeK [] [(k, z)]).length ≤ sizeLine := by
    show 1 ≤ sizeLine
    decide
  have I6 := d_write (t' := s5.toks + ws.length) (ob := .dK (mergeK [] [(k, z)])) I5 (by rw [e2]; exact True.intro) sb5 he5 (dk_new hl1 hd3 (rk.merge .nil) dd5)
  have hdb : d ≠ b := fun e => by
    rw [e, upd_same] at hb
    cases hb
  have e1' : (upd H5 b (.dK (mergeK [] [(k, z)]))) d = some (.dK kvs) := (upd_ne hdb).trans e1
  obtain ⟨z6, hd6, vs6, r6, dd6⟩ := dk_of I6.hok e1'
  have l6 : vs6.length = kvs.length := r6.length.symm
  have lr : (merged ([] : List (Key × Value)) rs).length ≤ 1 := by
    have q1 := merged_length_le ([] : List (Key × Value)) rs
    have q2 : rs.length = 1 := rk.length.symm
    rw [List.length_nil] at q1
    omega
  refine wpAny_bind (wpAny_onRaise (wpAny_holding (MM.merge1 (kn := mixKind X.prog X.w) nr (Ne.symm hdb) hd3 (by omega) dd6 dd5 fun h7 sb7 dd7 => ?_)))
  have he7 : ∃ q, h7.get? d = some q := let ⟨q, _, _, hq, _⟩ := dd7; ⟨q, hq⟩
  have hl2 : (putK kvs k z).length ≤ sizeLine := by
    have := length_putK kvs k z
    omega
  have rr : KV (putK kvs k z) (merged vs6 (merged [] rs)) := by
    have r8 : KV (mergeK [] [(k, z)]) (merged [] rs) := rk.merge .nil
    have r9 := KV.merge r8 r6
    exact r9
  have I7 := d_write (t' := s5.toks + ws.length) (ob := .dK (putK kvs k z)) I6 (by rw [e1']; exact True.intro) sb7 he7 (dk_new hl2 hd6 rr dd7)
  exact wpAny_pure (wpAny_pure ⟨.ref d, _, I7, rfl, qq⟩)
end
end L3

/-! dicts of data compared -/
namespace L3
open PySem PySem.Spec PyProof.Rows L2
/-- whether each entry of the second dict stands in the first one, alike -/
def hitsB (enc : V → PyData) (ls : List (Key × V)) : List (Key × V) → Bool
  | [] => true
  | p :: r => match valV ls p.1 with
    | none => false
    | some y => PyData.eqv (enc p.2) (enc y) && hitsB enc ls r
def rEqDD (K : PySem.W.Frag) : R2 := fun x y H Q => ∃ (a b : Addr) (ks ls : List (Key × V)) (enc : V → PyData), x = .ref a ∧ y = .ref b ∧ Rd H a (.dK ks) ∧ Rd H b (.dK ls) ∧ (∀ p ∈ ks, Dp K H p.2 (enc p.2) ∧ (enc p.2).canLay0 = true ∧ (enc p.2).depth ≤ 10) ∧ (∀ p ∈ ls, Dp K H p.2 (enc p.2) ∧ (enc p.2).canLay0 = true) ∧ Q (.bl (ks.length == ls.length && hitsB enc ls ks)) H
section
variable {X : Cx} {pins : List (Addr × Obj)} {σ : L2.St} {H : Hp} {s : Shared}
theorem valV_some_mem {κ : Type} [DecidableEq κ] {kvs : List (κ × V)} {k : κ} {v : V} (h : valV kvs k = some v) : (k, v) ∈ kvs := by
  unfold valV at h
  cases e : kvs.find? fun kv => decide (kv.1 = k) with
  | none => rw [e] at h; cases h
  | some p =>
    rw [e] at h
    have m := List.mem_of_find?_eq_some e
    have q0 : decide (p.1 = k) = true := List.find?_some (p := fun kv : κ × V => decide (kv.1 = k)) e
    have q := of_decide_eq_true q0
    cases h
    cases q
    exact m
theorem hits_data {A : Around} (hu : A.units + 10 < cLine) (I : Inv X pins σ H s) {enc : V → PyData} {ls : List (Key × V)} {vb : List (Key × Value)} (rb : KV ls vb) (hb : ∀ p ∈ ls, Dp X.K H p.2 (enc p.2) ∧ (enc p.2).canLay0 = true) :
    ∀ {ks : List (Key × V)} {va : List (Key × Value)}, KV ks va → (∀ p ∈ ks, Dp X.K H p.2 (enc p.2) ∧ (enc p.2).canLay0 = true ∧ (enc p.2).depth ≤ 10) → PySem.W.KeqHitsP X.prog X.w A s vb va (hitsB enc ls ks)
  | [], _, .nil, _ => .nil
  | p :: ks, _, .cons (b := q) h t, hp => by
    obtain ⟨h1, h2⟩ := h
    obtain ⟨k, v⟩ := q
    have h1' : p.1 = k := h1
    have ih := hits_data hu I rb hb t fun p m => hp p (List.mem_cons_of_mem _ m)
    obtain ⟨d1, d2, d3⟩ := hp p List.mem_cons_self
    cases e : valV ls p.1 with
    | none =>
      have eb : hitsB enc ls (p :: ks) = false := by rw [hitsB, e]
      rw [eb]
      have rr : RelO none (valueAt vb p.1) := by rw [← e]; exact rb.val p.1
      refine .miss ?_
      rw [← h1']
      cases q : valueAt vb p.1 with
      | none => rfl
      | some y => rw [q] at rr; exact absurd rr (by intro z; cases z)
    | some y =>
      have eb : hitsB enc ls (p :: ks) = (PyData.eqv (enc p.2) (enc y) && hitsB enc ls ks) := by rw [hitsB, e]
      rw [eb]
      have rr : RelO (some y) (valueAt vb p.1) := by rw [← e]; exact rb.val p.1
      obtain ⟨u, hy, ry⟩ := rr.some_of
      obtain ⟨e1, e2⟩ := hb _ (valV_some_mem e)
      obtain ⟨as, r1⟩ := Dp.reads I _ _ v d1 h2
      obtain ⟨bs, r2⟩ := Dp.reads I _ _ u e1 ry
      refine .hit (by rw [← h1']; exact hy) ?_ ih
      refine (PySem.SeqAt.eqAt_reads _ _ A s v u as bs r1 r2 d2 e2 ?_).eqP
      have := Nat.min_le_left (enc p.2).depth (enc y).depth
      omega
theorem op_eqDD (hu : X.A.units + 64 < cLine) : OpR X (compareOp .Eq) (rEqDD X.K) := by
  intro pins s σ H x y v u Q I rx ry h
  obtain ⟨a, b, ks, ls, enc, rfl, rfl, ea, eb, ha, hb, q⟩ := h
  obtain rfl : v = Value.ref a := rx
  obtain rfl : u = Value.ref b := ry
  obtain ⟨_, ya, va, ra, da⟩ := dk_rd I.hok ea
  obtain ⟨_, yb, vb, rb, db⟩ := dk_rd I.hok eb
  have la : va.length = ks.length := ra.length.symm
  have lb : vb.length = ls.length := rb.length.symm
  refine PySem.W.rcP_dicts (knd := mixKind X.prog X.w) (r := hitsB enc ls ks) ya yb da db (by omega) (fun _ => hits_data ?_ I rb hb ra ha) _ _ (fin_bl I q (by rw [la, lb]))
  show X.A.units + 1 + 10 < cLine
  omega
end
end L3

namespace R4
open PySem L2 L3
open C8 (pss_cut tCut)
def top (i : Nat) : Stmt := PySem.Challenge.pw_hadnot_k04_choices.main.body.getD i (.Pass ⟨0, 0, 0, 0⟩)
abbrev sFeed : Stmt := top 16
abbrev sTake : Stmt := top 17
section
variable {P : Program} {w : World} {K : PySem.W.Frag} {mg : Str → Option Value} {base : Heap}
theorem scF : FnScope ["_law_script", "_law_k", "_law_cell", "_law_own"] ["_law_script", "_law_k"] (defScope sFeed) := ⟨rfl, rfl, rfl, by decide +kernel, rfl, by decide +kernel, by decide +kernel⟩
theorem ok_feed {f : Addr} {fd : FuncData} (F : Fun K "_law_feed" "_law_feed" sFeed f fd) (zLen : mg "len" = none) (zAbs : mg "abs" = none) : FnOk P w K mg base CX0 1 f fd ["_law_script", "_law_k"] (spFeed K) := by
  refine F.ok scF (fun vs H Q E h => ?_) (fun cdv A outer s H vs Q E hr h => ?_)
  · obtain ⟨a, ns, k, rfl, _⟩ := h
    rfl
  · obtain ⟨a, ns, k, rfl, hS, hn, hk, kk⟩ := h
    have sk : Sm 7 (k : Int) := by show (k : Int).natAbs < 128; omega
    have hl : (ns.map V.int).length = ns.length := List.length_map ..
    refine ⟨_, pss_cons (ps_set (i := 2) scF.nd rfl (Or.inl rfl) (pe_op op_add (pe_op op_mulW pe_int (pv 1)) pe_int))
      (pss_cut (ps_if (pt_cmpR op_lt (pv 1) (pe_callB call_len_seq (by rfl) zLen PySem.boot_len (pa_cons (pv 0) pa_nil)) (nomark _))
        (pss_one (ps_set (i := 2) scF.nd rfl (Or.inl rfl) (pe_callB call_abs (by rfl) zAbs PyProof.Rows.boot_abs (pa_cons (pe_ix ix_list (pv 0) (pv 1) (fun _ _ => rfl)) pa_nil))))
        (pss_one (ps_if (pt_cmpR op_gt (pe_callB call_len_seq (by rfl) zLen PySem.boot_len (pa_cons (pv 0) pa_nil)) pe_int (nomark _))
          (pss_one (ps_set (i := 2) scF.nd rfl (Or.inl rfl) (pe_op op_add (pe_op op_mulW (pe_op op_mod (pe_callB call_abs (by rfl) zAbs PyProof.Rows.boot_abs (pa_cons (pe_ix ix_list (pv 0) (pe_op op_mod (pv 1) (pe_callB call_len_seq (by rfl) zLen PySem.boot_len (pa_cons (pv 0) pa_nil))) (fun _ _ => rfl)) pa_nil)) pe_int) pe_int) (pe_op op_mulW pe_int (pv 1))))) pss_nil)))
      (pss_cons (ps_set (i := 3) scF.nd rfl (Or.inl rfl) pe_int)
      (pss_cut (ps_if (pt_cmpR op_ge (pv 2) (pe_op op_pow pe_int pe_int) (nomark _)) (pss_one (ps_set (i := 3) scF.nd rfl (Or.inl rfl) (pv 2))) pss_nil)
      (pss_one (ps_ret (pe_lst (pa_cons (pv 3) (pa_cons (pe_op op_add (pe_op op_mod (pe_op op_add (pe_op op_mulW (pe_op op_mod (pv 2) pe_int) pe_int) (pe_op op_mulW pe_int (pv 1))) pe_int) pe_int) pa_nil)))))))), ?_⟩
    refine ⟨_, rfl, _, _, rfl, rfl, (show Sm 13 7621 by decide).mulW sk (by decide) (by decide) (by decide), _, _, rfl, rfl, ?_⟩
    refine ⟨fun σ H' => ∃ c : Int, σ = [some (.ref a), some (.int k), some (.int c), none] ∧ H' = H, ?_, ?_⟩
    · refine ⟨_, rfl, _, rfl, a, _, rfl, .inl hS, _, _, rfl, rfl, _, rfl, ?_⟩
      rw [hl]
      refine iteD (fun h1 => ?_) (fun h1 => ?_)
      · have hk' : k < ns.length := by omega
        refine ⟨_, rfl, _, rfl, a, _, _, .int ns[k], rfl, rfl, hS, atI_nat (by rw [List.getElem?_map, List.getElem?_eq_getElem hk']; rfl), _, rfl, ?_⟩
        exact ⟨_, rfl, rfl⟩
      · refine ⟨_, rfl, a, _, rfl, .inl hS, _, _, rfl, rfl, _, rfl, ?_⟩
        rw [hl]
        refine iteD (fun h2 => ?_) (fun h2 => ?_)
        · have hlen : 0 < ns.length := by omega
          have hj : k % ns.length < ns.length := Nat.mod_lt _ hlen
          refine ⟨_, rfl, _, rfl, _, rfl, a, _, rfl, .inl hS, _, _, rfl, rfl, ?_, ?_⟩
          · show (0 : Int) < ((ns.map V.int).length : Int)
            rw [hl]
            omega
          · have e : (k : Int) % ((ns.map V.int).length : Int) = ((k % ns.length : Nat) : Int) := by rw [hl]; rfl
            refine ⟨a, _, _, .int ns[k % ns.length], rfl, rfl, hS, at_of e (by rw [List.getElem?_map, List.getElem?_eq_getElem hj]; rfl), _, rfl, _, _, rfl, rfl, (by show (0 : Int) < 2147483629; decide), ?_⟩
            refine ⟨_, _, rfl, rfl, Sm.mulW (n := 31) (m := 6) ?_ (by decide) (by decide) (by decide) (by decide), _, rfl, _, _, rfl, rfl, (show Sm 14 8513 by decide).mulW sk (by decide) (by decide) (by decide), _, _, rfl, rfl, ?_⟩
            · show (_ % (2147483629 : Int)).natAbs < 2147483648
              omega
            · exact ⟨_, rfl, rfl⟩
        · exact ⟨_, rfl, rfl⟩
    · rintro σ' H' ⟨c, rfl, rfl⟩
      refine ⟨fun σ H1 => ∃ o : Int, σ = [some (.ref a), some (.int k), some (.int c), some (.int o)] ∧ H1 = H', ?_, ?_⟩
      · refine ⟨_, rfl, _, _, rfl, rfl, ⟨by decide, by decide, by decide⟩, _, _, rfl, rfl, _, rfl, ?_⟩
        refine iteD (fun h1 => ?_) (fun h1 => ?_)
        · exact ⟨_, rfl, _, rfl, rfl⟩
        · exact ⟨_, rfl, rfl⟩
      · rintro σ' H1 ⟨o, rfl, rfl⟩
        refine ⟨_, rfl, _, rfl, _, _, rfl, rfl, (by show (0 : Int) < 2147483629; decide), _, _, rfl, rfl, Sm.mulW (n := 31) (m := 16) ?_ (by decide) (by decide) (by decide) (by decide), ?_⟩
        · show (_ % (2147483629 : Int)).natAbs < 2147483648
          omega
        · refine ⟨_, rfl, _, _, rfl, rfl, (show Sm 16 50021 by decide).mulW sk (by decide) (by decide) (by decide), _, _, rfl, rfl, _, _, rfl, rfl, (by show (0 : Int) < 2147483629; decide), _, _, rfl, rfl, (by show 2 ≤ sizeLine; decide), fun p hp => ?_⟩
          refine kk p _ hp (same_new hp) ⟨_, _, upd_same, ?_, ?_⟩ <;> omega
theorem scT : FnScope ["_law_feed_here", "_law_many", "_law_digit", "_law_one"] ["_law_feed_here", "_law_many"] (defScope sTake) := ⟨rfl, rfl, rfl, by decide +kernel, rfl, by decide +kernel, by decide +kernel⟩
theorem ok_take {f : Addr} {fd : FuncData} (F : Fun K "_law_take" "_law_take" sTake f fd) : FnOk P w K mg base CX0 1 f fd ["_law_feed_here", "_law_many"] spTake := by
  refine F.ok scT (fun vs H Q E h => ?_) (fun cdv A outer s H vs Q E hr h => ?_)
  · obtain ⟨a, m, rfl, _⟩ := h
    rfl
  · obtain ⟨a, m, rfl, ⟨x, y, hH, y0, y1⟩, m0, sm, k⟩ := h
    refine ⟨_, pss_cons (ps_if (pt_cmpR op_gt (pe_ix ix_list (pv 0) pe_int (fun _ _ => rfl)) pe_int (nomark _))
        (pss_cons (ps_set (i := 2) scT.nd rfl (Or.inl rfl) (pe_op op_mod (pe_ix ix_list (pv 0) pe_int (fun _ _ => rfl)) (pv 1)))
        (pss_cons (ps_asg (pe_op op_fdivW (pe_ix ix_list (pv 0) pe_int (fun _ _ => rfl)) (pv 1)) (pg_sub (pv 0) pe_int set_list))
        (pss_one (ps_ret (pv 2))))) pss_nil)
      (pss_cons (ps_set (i := 3) scT.nd rfl (Or.inl rfl) (pe_op op_mod (pe_op op_mulW (pe_ix ix_list (pv 0) pe_int (fun _ _ => rfl)) pe_int) pe_int))
      (pss_cons (ps_asg (pe_op op_add (pe_op op_mod (pe_op op_add (pe_op op_mulW (pv 3) pe_int) pe_int) pe_int) pe_int) (pg_sub (pv 0) pe_int set_list))
      (pss_one (ps_ret (pe_op op_mod (pe_op op_fdivW (pe_op op_add (pe_op op_mulW (pv 3) pe_int) (pe_ix ix_list (pv 0) pe_int (fun _ _ => rfl))) pe_int) (pv 1)))))), ?_⟩
    have q0 : ∀ {u v : V} {H' : Hp}, H' a = some (.lst [u, v]) → SqL K H' a [u, v] := fun h => SqL.of h
    have keep : ∀ o, ∀ b u, b ≠ a → H b = some u → upd H a o b = some u := fun o b u n e => by rw [upd_ne n]; exact e
    refine ⟨_, rfl, a, _, 0, .int x, rfl, rfl, SqL.of hH, rfl, _, _, rfl, rfl, _, rfl, ?_⟩
    refine iteD (fun hx => ?_) (fun hx => ?_)
    · refine ⟨_, rfl, a, _, 0, .int x, rfl, rfl, SqL.of hH, rfl, _, rfl, _, _, rfl, rfl, m0, ?_⟩
      refine ⟨_, rfl, a, _, 0, .int x, rfl, rfl, SqL.of hH, rfl, _, rfl, _, _, rfl, rfl, ⟨m0, Sm.log sm (by decide) (by decide)⟩, _, rfl, a, _, _, 0, rfl, rfl, hH, rfl, _, rfl, ?_⟩
      exact k _ _ (Int.emod_nonneg _ (by omega)) (Int.emod_lt_of_pos _ m0) ⟨⟨_, _, upd_same, y0, y1⟩, keep _⟩
    · refine ⟨_, rfl, a, _, 1, .int y, rfl, rfl, SqL.of hH, rfl, _, _, rfl, rfl, Sm.mulW (n := 32) (m := 16) (by show y.natAbs < 4294967296; omega) (by decide) (by decide) (by decide) (by decide), _, _, rfl, rfl, (by show (0 : Int) < 2147483647; decide), ?_⟩
      have s31 : ∀ z : Int, Sm 31 (z % 2147483647) := fun z => by show (z % 2147483647).natAbs < 2147483648; omega
      refine ⟨_, rfl, _, _, rfl, rfl, (s31 _).mulW (m := 16) (by decide) (by decide) (by decide) (by decide), _, _, rfl, rfl, _, _, rfl, rfl, (by show (0 : Int) < 2147483399; decide), _, _, rfl, rfl, _, rfl, a, _, _, 1, rfl, rfl, hH, rfl, ?_⟩
      refine ⟨_, rfl, _, _, rfl, rfl, (s31 _).mulW (m := 31) (by decide) (by decide) (by decide) (by decide), _, rfl, a, _, 1, _, rfl, rfl, SqL.of upd_same, rfl, _, _, rfl, rfl, _, _, rfl, rfl, ⟨by decide, by decide⟩, _, rfl, _, _, rfl, rfl, m0, ?_⟩
      refine k _ _ (Int.emod_nonneg _ (by omega)) (Int.emod_lt_of_pos _ m0) ⟨⟨_, _, upd_same, ?_, ?_⟩, keep _⟩ <;> omega
end
end R4

namespace R4
open PySem L2 L3
open C8 (pss_cut tCut)
abbrev sMixed : Stmt := top 18
abbrev sTitles : Stmt := top 19
def spMixed (K : PySem.W.Frag) : Sp := fun vs H Q _ => ∃ (a l : Addr) (xs : List V), vs = [.ref a, .ref l] ∧ FeedAt H a ∧ (SqL K H l xs ∨ SqT K H l xs) ∧ xs.length ≤ 1000 ∧
  ∀ (p : Addr) (ys : List V) (H' : Hp), H p = none → Dr a H H' → H' p = some (.lst ys) → ys.Perm xs → Q (.ref p) H'
theorem erase_perm {α : Type} : ∀ (l : List α) (i : Nat) (h : i < l.length), (l[i] :: l.eraseIdx i).Perm l
  | _ :: _, 0, _ => .refl _
  | x :: l, i + 1, h => (List.Perm.swap _ _ _).trans (.cons x (erase_perm l i (Nat.lt_of_succ_lt_succ h)))
section
variable {P : Program} {w : World} {K : PySem.W.Frag} {mg : Str → Option Value} {base : Heap}
theorem scMi : FnScope ["_law_feed_here", "_law_some", "_law_left", "_law_found", "_law_k"] ["_law_feed_here", "_law_some"] (defScope sMixed) := ⟨rfl, rfl, rfl, by decide +kernel, rfl, by decide +kernel, by decide +kernel⟩
theorem ok_mixed {f fT : Addr} {fd fdT : FuncData} (F : Fun K "_law_mixed" "_law_mixed" sMixed f fd) (FT : Fun K "_law_take" "_law_take" sTake fT fdT) (bT : Binds K fdT ["_law_feed_here", "_law_many"] []) (gT : mg "_law_take" = some (.ref fT)) (zList : mg "list" = none) (zRng : mg "range" = none) (zLen : mg "len" = none) :
    FnOk P w K mg base CX0 2 f fd ["_law_feed_here", "_law_some"] (spMixed K) := by
  have GT : FnOk P w K mg base CX0 1 fT fdT ["_law_feed_here", "_law_many"] spTake := ok_take FT
  refine F.ok scMi (fun vs H Q E h => ?_) (fun cdv A outer s H vs Q E hr h => ?_)
  · obtain ⟨a, l, xs, rfl, _⟩ := h
    rfl
  · obtain ⟨a, l, xs, rfl, hf, hx, hn, k⟩ := h
    have nd := scMi.nd
    refine ⟨_, pss_cons (ps_par (i := 2) (j := 3) (by rfl) nd rfl rfl (by decide) rfl rfl (pa_cons (pe_callTy call_list_of (by rfl) zList PyProof.Rows.boot_list (pa_cons (pv 1) pa_nil)) (pa_cons (pe_lst pa_nil) pa_nil)) (by rfl))
      (pss_cons (ps_for PassesOwn.never rfl (pi_range1 (by rfl) zRng (pa_cons (pe_callB call_len_seq (by rfl) zLen PySem.boot_len (pa_cons (pv 2) pa_nil)) pa_nil)) (pg_name (i := 4) nd rfl (.inl rfl))
        (pss_one (ps_expr (pe_bm PySem.F.plainAttrs_list PySem.F.slot_list_append PySem.F.type_list_append mt_append (pv 3) (pa_cons (pe_bm (r := rPopAt) PySem.F.plainAttrs_list PySem.F.slot_list_pop PySem.F.type_list_pop (by exact mt_popAt) (pv 2)
          (pa_cons (pe_call GT hr (by rfl) gT FT.kp bT .nil pass0 (pa_cons (pv 0) (pa_cons (pe_callB call_len_seq (by rfl) zLen PySem.boot_len (pa_cons (pv 2) pa_nil)) pa_nil))) pa_nil)) pa_nil)))))
      (pss_one (ps_ret (pv 3)))), ?_⟩
    obtain ⟨fx, fy, ha, hfy⟩ := id hf
    refine ⟨_, rfl, l, xs, rfl, hx, fun q hq => ⟨(show 0 ≤ sizeLine by decide), fun p hp => ⟨_, _, rfl, ?_⟩⟩⟩
    have s1 := same_new (o := .lst xs) hq
    have s2 := same_new (o := .lst []) hp
    have nqa : q ≠ a := (ne_of_none ha hq).symm
    have npa : p ≠ a := (ne_of_none (s1 _ _ ha) hp).symm
    have npq : p ≠ q := (ne_of_none (show upd H q (.lst xs) q = _ from upd_same) hp).symm
    have hpH : H p = none := s1.free hp
    refine ⟨_, rfl, q, xs, rfl, .inl (SqL.of (s2 _ _ upd_same)), _, rfl, ?_, ?_, for_range (fun j σ H' => ∃ (v : Option V) (rest ys : List V), σ = [some (.ref a), some (.ref l), some (.ref q), some (.ref p), v] ∧ rest.length + j = xs.length ∧ (ys ++ rest).Perm xs ∧ H' q = some (.lst rest) ∧ H' p = some (.lst ys) ∧ ys.length ≤ 1000 ∧ Dr a H H')
      ⟨none, xs, [], rfl, rfl, .refl _, s2 _ _ upd_same, upd_same, by decide, ⟨⟨fx, fy, (s1.trans s2) _ _ ha, hfy⟩, fun b o _ e => (s1.trans s2) _ _ e⟩⟩ ?_ ?_⟩
    · omega
    · omega
    · rintro j σ H2 hj ⟨v, rest, ys, rfl, hlr, hperm, eq, ep, hy, dr⟩
      have hj' : j < xs.length := by omega
      have hrl : 0 < rest.length := by omega
      refine ⟨_, rfl, .inl ⟨rfl, _, SqL.of ep⟩, _, rfl, .inl ⟨rfl, _, SqL.of eq⟩, _, rfl, _, rfl, q, rest, rfl, .inl (SqL.of eq), a, (rest.length : Int), rfl, dr.fd, by omega, (by show (rest.length : Int).natAbs < 2 ^ 200; exact Nat.lt_of_le_of_lt (by omega : (rest.length : Int).natAbs ≤ 1000) (by decide)), fun r H3 r0 r1 d3 => ?_⟩
      have eq3 := d3.sm _ _ nqa eq
      have ep3 := d3.sm _ _ npa ep
      have hk : r.toNat < rest.length := by omega
      have hsi : seqIndex? r rest.length = some r.toNat := by
        unfold seqIndex?
        have e1 : ¬ r < 0 := by omega
        have e2 : (decide (0 ≤ r) && decide (r < (rest.length : Int))) = true := by rw [Bool.and_eq_true]; exact ⟨decide_eq_true r0, decide_eq_true r1⟩
        rw [if_neg e1]
        exact if_pos e2
      refine ⟨q, rest, r, r.toNat, rest[r.toNat], rfl, rfl, eq3, by omega, by omega, hsi, List.getElem?_eq_getElem hk, p, ys, _, rfl, rfl, by rw [upd_ne npq]; exact ep3, by have := sizeLine_eq; omega, ?_⟩
      obtain ⟨gx, gy, ga, gb⟩ := d3.fd
      have npq' : q ≠ p := Ne.symm npq
      refine ⟨_, rest.eraseIdx r.toNat, ys ++ [rest[r.toNat]], rfl, ?_, ?_, ?_, upd_same, ?_, ⟨gx, gy, ?_, gb⟩, fun b o nb e => ?_⟩
      · rw [List.length_eraseIdx_of_lt hk]
        omega
      · refine List.Perm.trans ?_ hperm
        rw [List.append_assoc]
        exact List.Perm.append_left _ (erase_perm _ _ hk)
      · rw [upd_ne npq']
        exact upd_same
      · rw [List.length_append]
        have := hperm.length_eq
        rw [List.length_append] at this
        simp only [List.length_cons, List.length_nil]
        omega
      · rw [upd_ne (Ne.symm npa), upd_ne (Ne.symm nqa)]
        exact ga
      · have n1 : b ≠ p := fun z => by rw [z, hpH] at e; cases e
        have n2 : b ≠ q := fun z => by rw [z, hq] at e; cases e
        rw [upd_ne n1, upd_ne n2]
        exact d3.sm _ _ nb (dr.sm _ _ nb e)
    · rintro σ H2 ⟨v, rest, ys, rfl, hlr, hperm, eq, ep, hy, dr⟩
      have hr0 : rest = [] := List.length_eq_zero_iff.mp (by omega)
      subst hr0
      rw [List.append_nil] at hperm
      exact ⟨_, rfl, k p ys _ hpH dr ep hperm⟩
end
end R4

namespace R4
open PySem L2 L3
open C8 (pss_cut tCut)
section
variable {P : Program} {w : World} {K : PySem.W.Frag} {mg : Str → Option Value} {base : Heap}
abbrev NT : List Str := ["_law_feed_here", "_law_many", "_law_signs", "_law_start", "_law_form", "_law_k"]
theorem scTi : FnScope NT ["_law_feed_here", "_law_many"] (defScope sTitles) := ⟨rfl, rfl, rfl, by decide +kernel, rfl, by decide +kernel, by decide +kernel⟩
def signs : Str := "abcdefghijklmnopqrstuvwxyz0123456789"
def sg (i : Nat) : Str := ⟨#[signs.cps.toList.getD i 0]⟩
theorem signs_len : signs.cps.toList.length = 36 := by decide +kernel
theorem sg_get {i : Nat} (h : i < 36) : signs.cps.toList[i]? = some (signs.cps.toList.getD i 0) := by
  have h2 : i < signs.cps.toList.length := by rw [signs_len]; exact h
  rw [List.getElem?_eq_getElem h2, List.getD_eq_getElem?_getD, List.getElem?_eq_getElem h2]
  rfl
theorem atN {α : Type} {xs : List α} {z : Int} {j : Nat} {v : α} (e : z = (j : Int)) (h : xs[j]? = some v) : atI xs z = some v := by
  rw [e]
  exact atI_nat h
theorem signs_size : signs.length ≤ sizeLine := by decide +kernel
def unstr : V → Str
  | .str t => t
  | _ => Str.empty
theorem perm_strs {ys : List V} {ts : List Str} (h : ys.Perm (ts.map V.str)) : ∃ zs : List Str, zs.Perm ts ∧ ys = zs.map V.str := by
  refine ⟨ys.map unstr, ?_, ?_⟩
  · have e : (ts.map V.str).map unstr = ts := by
      rw [List.map_map]
      exact List.map_id ts
    have q := h.map unstr
    rw [e] at q
    exact q
  · have p : ∀ y ∈ ys, V.str (unstr y) = y := fun y hy => by
      obtain ⟨t, _, rfl⟩ := List.mem_map.mp (h.mem_iff.mp hy)
      rfl
    clear h
    induction ys with
    | nil => rfl
    | cons y r ih =>
      rw [List.map_cons, List.map_cons, p y List.mem_cons_self, ← ih fun z hz => p z (List.mem_cons_of_mem _ hz)]
theorem dr_same {a : Addr} {H H1 H2 : Hp} (d : Dr a H H1) (s : Same H1 H2) : Dr a H H2 := by
  obtain ⟨⟨u, v, hu, hv⟩, sm⟩ := d
  exact ⟨⟨u, v, s _ _ hu, hv⟩, fun b o n e => s _ _ (sm b o n e)⟩
theorem dr_free {a p : Addr} {H H1 : Hp} (d : Dr a H H1) (h : H1 p = none) : H p = none := by
  cases q : H p with
  | none => rfl
  | some o =>
    obtain ⟨⟨u, v, hu, _⟩, sm⟩ := d
    rw [sm p o (fun z => by rw [z, hu] at h; cases h) q] at h
    cases h
theorem cut_strs (zs : List Str) (m : Nat) : cutV (zs.map V.str) none (some (m : Int)) = (zs.take m).map V.str := by
  unfold cutV
  rw [HT.sIx_nat, HT.sIx_none, List.drop_zero, Nat.sub_zero, List.length_map, List.map_take]
  by_cases h : m ≤ zs.length
  · rw [Nat.min_eq_left h]
  · rw [Nat.min_eq_right (by omega), List.take_of_length_le (by rw [List.length_map]; exact Nat.le_refl _), List.take_of_length_le (by rw [List.length_map]; omega)]
theorem strs_succ (f : Nat → Str) (q : Nat) : ((List.range (q + 1)).map f).map V.str = ((List.range q).map f).map V.str ++ [V.str (f q)] := by
  rw [List.range_succ, List.map_append, List.map_append]
  rfl
theorem strs_len (f : Nat → Str) (q : Nat) : (((List.range q).map f).map V.str).length = q := by
  rw [List.length_map, List.length_map, List.length_range]
theorem upd_two (H : Hp) (D : Addr) (o u : HO) : upd (upd H D o) D u = upd H D u := by
  funext b
  by_cases h : b = D
  · rw [h, upd_same, upd_same]
  · rw [upd_ne h, upd_ne h, upd_ne h]
def tx0 (s k : Nat) : Str := sg ((s + k) % 26) ++ Str.ofString (toString ((s : Int) * 7 + (k : Int)))
def tx1 (s k : Nat) : Str := Str.ofString "k" ++ sg ((s + 5 * k) % 36)
def tx2 (s k : Nat) : Str := (Str.ofString "q0zz" ++ sg ((s + k) % 36)) ++ Str.ofString "b"
def tx3 (s k : Nat) : Str := timesS (sg (k % 26)) (1 + (k : Int) / 26 + (s : Int) % 3)
theorem form_fin {m : Nat} {r : Int} (h0 : 0 ≤ r) (h5 : r < 5) : ∃ fm : Nat, fm < 5 ∧ (37 ≤ m → fm = 0) ∧ r * (if decide ((m : Int) < 37) = true then 1 else 0) = (fm : Int) := by
  by_cases h : (m : Int) < 37
  · exact ⟨r.toNat, by omega, fun z => by omega, by rw [decide_eq_true h, if_pos rfl]; omega⟩
  · exact ⟨0, by decide, fun _ => rfl, by rw [decide_eq_false h, if_neg (by decide)]; omega⟩
theorem ifT {c : Bool} {A B : Prop} (h : c = true) (a : A) : if c = true then A else B := by rw [if_pos h]; exact a
theorem ifF {c : Bool} {A B : Prop} (h : c = false) (b : B) : if c = true then A else B := by rw [if_neg (by rw [h]; decide)]; exact b
/-- the promise in general: G says what the texts are -/
def spTitles (G : Nat → List Str → Prop) : Sp := fun vs H Q _ => ∃ (a : Addr) (m : Nat), vs = [.ref a, .int m] ∧ FeedAt H a ∧ m ≤ 40 ∧ ∀ (p : Addr) (ts : List Str) (H' : Hp), H p = none → Dr a H H' → H' p = some (.lst (ts.map V.str)) → G m ts → Q (.ref p) H'
theorem ok_titles {f fT fM : Addr} {fd fdT fdM : FuncData} {G : Nat → List Str → Prop} (F : Fun K "_law_titles" "_law_titles" sTitles f fd) (FT : Fun K "_law_take" "_law_take" sTake fT fdT) (bT : Binds K fdT ["_law_feed_here", "_law_many"] []) (gT : mg "_law_take" = some (.ref fT))
    (FM : Fun K "_law_mixed" "_law_mixed" sMixed fM fdM) (bM : Binds K fdM ["_law_feed_here", "_law_some"] []) (gM : mg "_law_mixed" = some (.ref fM)) (zList : mg "list" = none) (zRng : mg "range" = none) (zLen : mg "len" = none) (zInt : mg "int" = none) (zStr : mg "str" = none)
    (G4 : ∀ (m : Nat) (ts : List Str), m < 5 → ts.Perm [Str.ofString "word", Str.ofString "truth", Str.ofString "number", Str.ofString "none"] → G m (ts.take m)) (G0 : ∀ m s, m ≤ 40 → s < 26 → G m ((List.range m).map (tx0 s)))
    (G1 : ∀ (m s : Nat) (ts : List Str), m < 37 → s < 26 → ts.Perm ((List.range m).map (tx1 s)) → G m ts) (G2 : ∀ (m s : Nat) (ts : List Str), m < 37 → s < 26 → ts.Perm ((List.range m).map (tx2 s)) → G m ts) (G3 : ∀ (m s : Nat) (ts : List Str), m < 37 → s < 26 → ts.Perm ((List.range m).map (tx3 s)) → G m ts) :
    FnOk P w K mg base CX0 3 f fd ["_law_feed_here", "_law_many"] (spTitles G) := by
  have GT : FnOk P w K mg base CX0 1 fT fdT ["_law_feed_here", "_law_many"] spTake := ok_take FT
  have GM : FnOk P w K mg base CX0 2 fM fdM ["_law_feed_here", "_law_some"] (spMixed K) := ok_mixed FM FT bT gT zList zRng zLen
  refine F.ok scTi (fun vs H Q E h => ?_) (fun cdv A outer s H vs Q E hr h => ?_)
  · obtain ⟨a, m, rfl, _⟩ := h
    rfl
  · obtain ⟨a, m, rfl, hf, hm, k⟩ := h
    have R1 : Room 1 _ := hr.mono (by decide)
    have nd := scTi.nd
    refine ⟨_, pss_cons (ps_asg (pe_tup (pa_cons pe_str (pa_cons (pe_call GT R1 (by rfl) gT FT.kp bT .nil pass0 (pa_cons (pv 0) (pa_cons pe_int pa_nil))) pa_nil))) (pg_tup (by rfl) (pgs_cons (pg_name (i := 2) nd rfl (.inr rfl)) (pgs_cons (pg_name (i := 3) nd rfl (.inr rfl)) pgs_nil))))
      (pss_cut (ps_set (i := 4) nd rfl (.inl rfl) (pe_op op_mulW (pe_call GT R1 (by rfl) gT FT.kp bT .nil pass0 (pa_cons (pv 0) (pa_cons pe_int pa_nil))) (pe_callTy call_int1 (by rfl) zInt PyProof.Rows.boot_int (pa_cons (pe_cmpR op_lt (pv 1) pe_int (nomark _)) pa_nil))))
      (pss_cut (ps_if (PW.pt (pw_and (pt_cmpR op_eq (pv 4) pe_int (nomark _)) (pw_and1 (pt_cmpR op_lt (pv 1) pe_int (nomark _))))) (pss_one (ps_ret (pe_slice sl_list (pe_call GM hr (by rfl) gM FM.kp bM .nil pass0 (pa_cons (pv 0) (pa_cons (pe_lst (pa_cons pe_str (pa_cons pe_str (pa_cons pe_str (pa_cons pe_str pa_nil))))) pa_nil))) po_none (po_some (pv 1))))) pss_nil)
      (pss_cons (ps_if (pt_cmpR op_eq (pv 4) pe_int (nomark _)) (pss_one (ps_ret (pe_lc (own := [("_law_k", 5)]) (g := gName 5) (tt := tYes) rfl nd (pi_range1 (by rfl) zRng (pa_cons (pv 1) pa_nil)) (blkOk_by (N := NT) (sc := defScope sTitles) (by decide +kernel)) (fun _ _ _ _ _ => pg_name (i := 5) nd rfl (.inl rfl)) (fun _ _ _ _ _ => pts_nil)
          (fun _ _ _ _ _ => pe_op op_add_str (pe_ix ix_str (pv 2) (pe_op op_mod (pe_op op_add (pv 3) (pv 5)) pe_int) (fun _ _ => rfl)) (pe_callTy call_str_int (by rfl) zStr PyProof.Rows.boot_str (pa_cons (pe_op op_add (pe_op op_mulW (pv 3) pe_int) (pv 5)) pa_nil)))))) pss_nil)
      (pss_cons (ps_if (pt_cmpR op_eq (pv 4) pe_int (nomark _)) (pss_one (ps_ret (pe_call GM hr (by rfl) gM FM.kp bM .nil pass0 (pa_cons (pv 0) (pa_cons (pe_lc (own := [("_law_k", 5)]) (g := gName 5) (tt := tYes) rfl nd (pi_range1 (by rfl) zRng (pa_cons (pv 1) pa_nil)) (blkOk_by (N := NT) (sc := defScope sTitles) (by decide +kernel)) (fun _ _ _ _ _ => pg_name (i := 5) nd rfl (.inl rfl)) (fun _ _ _ _ _ => pts_nil)
          (fun _ _ _ _ _ => pe_op op_add_str pe_str (pe_ix ix_str (pv 2) (pe_op op_mod (pe_op op_add (pv 3) (pe_op op_mulW pe_int (pv 5))) pe_int) (fun _ _ => rfl)))) pa_nil))))) pss_nil)
      (pss_cons (ps_if (pt_cmpR op_eq (pv 4) pe_int (nomark _)) (pss_one (ps_ret (pe_call GM hr (by rfl) gM FM.kp bM .nil pass0 (pa_cons (pv 0) (pa_cons (pe_lc (own := [("_law_k", 5)]) (g := gName 5) (tt := tYes) rfl nd (pi_range1 (by rfl) zRng (pa_cons (pv 1) pa_nil)) (blkOk_by (N := NT) (sc := defScope sTitles) (by decide +kernel)) (fun _ _ _ _ _ => pg_name (i := 5) nd rfl (.inl rfl)) (fun _ _ _ _ _ => pts_nil)
          (fun _ _ _ _ _ => pe_op op_add_str (pe_op op_add_str pe_str (pe_ix ix_str (pv 2) (pe_op op_mod (pe_op op_add (pv 3) (pv 5)) pe_int) (fun _ _ => rfl))) pe_str)) pa_nil))))) pss_nil)
      (pss_one (ps_ret (pe_call GM hr (by rfl) gM FM.kp bM .nil pass0 (pa_cons (pv 0) (pa_cons (pe_lc (own := [("_law_k", 5)]) (g := gName 5) (tt := tYes) rfl nd (pi_range1 (by rfl) zRng (pa_cons (pv 1) pa_nil)) (blkOk_by (N := NT) (sc := defScope sTitles) (by decide +kernel)) (fun _ _ _ _ _ => pg_name (i := 5) nd rfl (.inl rfl)) (fun _ _ _ _ _ => pts_nil)
          (fun _ _ _ _ _ => pe_op op_mulS (pe_ix ix_str (pv 2) (pe_op op_mod (pv 5) pe_int) (fun _ _ => rfl)) (pe_op op_add (pe_op op_add pe_int (pe_op op_fdivW (pv 5) pe_int)) (pe_op op_mod (pv 3) pe_int)))) pa_nil)))))))))), ?_⟩
    refine ⟨_, rfl, a, 26, rfl, hf, by decide, (by show (26 : Int).natAbs < 2 ^ 200; decide), fun st H1 s0 s1 d1 => ⟨(show 2 ≤ sizeLine by decide), fun T hT => ⟨T, _, rfl, SqT.of upd_same, rfl, _, _, rfl, _, _, rfl, rfl, ?_⟩⟩⟩
    have e1 := same_new (o := .tup [.str signs, .int st]) hT
    have d1' : Dr a H (upd H1 T (.tup [.str signs, .int st])) := by
      obtain ⟨u, v, hu, hv⟩ := d1.fd
      exact ⟨⟨u, v, e1 _ _ hu, hv⟩, fun b o n e => e1 _ _ (d1.sm b o n e)⟩
    obtain ⟨S, rfl⟩ : ∃ S : Nat, st = (S : Int) := ⟨st.toNat, by omega⟩
    have hS : S < 26 := by omega
    refine ⟨fun σ H' => ∃ fm : Nat, fm < 5 ∧ (37 ≤ m → fm = 0) ∧ σ = [some (.ref a), some (.int m), some (.str signs), some (.int (S : Int)), some (.int (fm : Int)), none] ∧ Dr a H H', ?_, ?_⟩
    · refine ⟨_, rfl, a, 5, rfl, d1'.fd, by decide, (by show (5 : Int).natAbs < 2 ^ 200; decide), fun r H2 r0 r1 d2 => ?_⟩
      obtain ⟨fm, hf5, h37, efm⟩ := form_fin (m := m) r0 r1
      refine ⟨_, rfl, _, _, rfl, rfl, .inr ⟨_, rfl, _, _, rfl, rfl, Sm.mulW (n := 3) (m := 1) (by show r.natAbs < 8; omega) (by show (ite _ _ _ : Int).natAbs < 2; split <;> decide) (by decide) (by decide) (by decide), fm, hf5, h37, ?_, ⟨d2.fd, fun b o n e => d2.sm b o n (d1'.sm b o n e)⟩⟩⟩
      exact congrArg (fun z : Int => ([some (.ref a), some (.int m), some (.str signs), some (.int (S : Int)), some (.int z), none] : List (Option V))) efm
    · rintro σ H2 ⟨fm, hfm, h37, rfl, d2⟩
      refine ⟨fun σ H' => σ = [some (.ref a), some (.int m), some (.str signs), some (.int (S : Int)), some (.int (fm : Int)), none] ∧ H' = H2, ?_, ?_⟩
      · refine ⟨_, rfl, rfl, _, rfl, ?_⟩
        by_cases h4 : fm = 4
        · subst h4
          refine ifT (by decide) ⟨_, rfl, _, _, rfl, rfl, _, rfl, ?_⟩
          by_cases h5 : (m : Int) < 5
          · refine ifT (decide_eq_true h5) ?_
            refine ⟨_, rfl, (show 4 ≤ sizeLine by decide), fun l hl => ⟨a, l, _, rfl, (dr_same d2 (same_new hl)).fd, .inl (SqL.of upd_same), (show 4 ≤ 1000 by decide), fun p ys H4 hp d4 ep pm => ?_⟩⟩
            obtain ⟨zs, hz, rfl⟩ := perm_strs (ts := [Str.ofString "word", Str.ofString "truth", Str.ofString "number", Str.ofString "none"]) pm
            refine ⟨_, rfl, _, rfl, p, _, rfl, SqL.of ep, fun p2 hp2 => ?_⟩
            have dA : Dr a H H4 := (dr_same d2 (same_new hl)).trans d4
            exact k p2 (zs.take m) _ (dr_free dA hp2) (dr_same dA (same_new hp2)) (by rw [upd_same, cut_strs]) (G4 m zs (by omega) hz)
          · exact ifF (decide_eq_false h5) ⟨rfl, rfl⟩
        · refine ifF (decide_eq_false fun e => h4 (by injection e with e; omega)) ?_
          exact ifF rfl ⟨rfl, rfl⟩
      · rintro σ H3 ⟨rfl, rfl⟩
        refine ⟨_, rfl, rfl, _, rfl, ?_⟩
        by_cases h0 : fm = 0
        · refine ifT (decide_eq_true (by rw [h0]; rfl)) ?_
          refine ⟨_, rfl, (m : Int), rfl, by omega, by omega, fun D hD => lc_range (fun q H' => H' = upd H3 D (.lst (((List.range q).map (tx0 S)).map V.str))) rfl ?_ ?_⟩
          · rintro q H7 hq rfl
            have hq' : q < 40 := by omega
            have hlog : ((S : Int) * 7 + (0 + (q : Int))).natAbs.log2 < 1920 := Sm.log (n := 10) (by show Int.natAbs _ < 1024; omega) (by decide) (by decide)
            refine ⟨rfl, _, rfl, _, rfl, _, rfl, _, _, rfl, rfl, _, _, rfl, rfl, (by show (0 : Int) < 26; decide), signs, _, _, rfl, rfl, signs_size, atN (j := (S + q) % 26) (by omega) (sg_get (by omega)), _, rfl, _, _, rfl, rfl, (show Sm 5 (S : Int) by show (S : Int).natAbs < 32; omega).mulW (m := 3) (by decide) (by decide) (by decide) (by decide), _, rfl, _, _, rfl, rfl, _, rfl, hlog, _, _, rfl, rfl, Nat.le_trans (Nat.add_le_add (show (sg ((S + q) % 26)).length ≤ 1 from Nat.le_refl 1) (PyProof.Rows.int_text_len_1921 hlog)) (show 1 + 1921 ≤ sizeLine by decide), _, upd_same, by rw [strs_len]; exact Nat.lt_of_lt_of_le hq' (by decide), ?_⟩
            rw [upd_two, strs_succ]
            show upd H3 D (.lst (_ ++ [V.str (sg ((S + q) % 26) ++ Str.ofString (toString ((S : Int) * 7 + (0 + (q : Int)))))])) = _
            rw [Int.zero_add]
            rfl
          · rintro H7 rfl
            exact k D _ _ (dr_free d2 hD) (dr_same d2 (same_new hD)) upd_same (G0 m S hm hS)
        refine ifF (decide_eq_false fun e => h0 (by injection e with e; omega)) ⟨_, rfl, rfl, _, rfl, ?_⟩
        have hm37 : m < 37 := by omega
        by_cases h1 : fm = 1
        · refine ifT (decide_eq_true (by rw [h1]; rfl)) ?_
          refine ⟨_, rfl, _, rfl, (m : Int), rfl, by omega, by omega, fun D hD => lc_range (fun q H' => H' = upd H3 D (.lst (((List.range q).map (tx1 S)).map V.str))) rfl ?_ ?_⟩
          · rintro q H7 hq rfl
            have hq' : q < 40 := by omega
            refine ⟨rfl, _, rfl, _, rfl, _, rfl, _, _, rfl, rfl, (show Sm 3 5 by decide).mulW (m := 6) (show (0 + (q : Int)).natAbs < 64 by omega) (by decide) (by decide) (by decide), _, _, rfl, rfl, _, _, rfl, rfl, (by show (0 : Int) < 36; decide), signs, _, _, rfl, rfl, signs_size, atN (j := (S + 5 * q) % 36) (by omega) (sg_get (by omega)), _, _, rfl, rfl, (show (Str.ofString "k").length + 1 ≤ sizeLine by decide +kernel), _, upd_same, by rw [strs_len]; exact Nat.lt_of_lt_of_le hq' (by decide), ?_⟩
            rw [upd_two, strs_succ]
            rfl
          · rintro H7 rfl
            refine ⟨a, D, _, rfl, (dr_same d2 (same_new hD)).fd, .inl (SqL.of upd_same), Nat.le_trans (Nat.le_of_eq (strs_len _ _)) (by omega), fun p ys H4 hp d4 ep pm => ?_⟩
            obtain ⟨zs, hz, rfl⟩ := perm_strs pm
            have dA : Dr a H H4 := (dr_same d2 (same_new hD)).trans d4
            exact k p zs _ (dr_free (dr_same d2 (same_new hD)) hp) dA ep (G1 m S zs hm37 hS hz)
        refine ifF (decide_eq_false fun e => h1 (by injection e with e; omega)) ⟨_, rfl, rfl, _, rfl, ?_⟩
        by_cases h2 : fm = 2
        · refine ifT (decide_eq_true (by rw [h2]; rfl)) ?_
          refine ⟨_, rfl, _, rfl, (m : Int), rfl, by omega, by omega, fun D hD => lc_range (fun q H' => H' = upd H3 D (.lst (((List.range q).map (tx2 S)).map V.str))) rfl ?_ ?_⟩
          · rintro q H7 hq rfl
            have hq' : q < 40 := by omega
            have len2 : (Str.ofString "q0zz" ++ sg ((S + q) % 36)).length + (Str.ofString "b").length ≤ sizeLine := by
              rw [len_app]
              show (Str.ofString "q0zz").length + 1 + (Str.ofString "b").length ≤ sizeLine
              decide +kernel
            refine ⟨rfl, _, rfl, _, rfl, _, rfl, _, _, rfl, rfl, _, _, rfl, rfl, (by show (0 : Int) < 36; decide), signs, _, _, rfl, rfl, signs_size, atN (j := (S + q) % 36) (by omega) (sg_get (by omega)), _, _, rfl, rfl, (show (Str.ofString "q0zz").length + 1 ≤ sizeLine by decide +kernel), _, _, rfl, rfl, len2, _, upd_same, by rw [strs_len]; exact Nat.lt_of_lt_of_le hq' (by decide), ?_⟩
            rw [upd_two, strs_succ]
            rfl
          · rintro H7 rfl
            refine ⟨a, D, _, rfl, (dr_same d2 (same_new hD)).fd, .inl (SqL.of upd_same), Nat.le_trans (Nat.le_of_eq (strs_len _ _)) (by omega), fun p ys H4 hp d4 ep pm => ?_⟩
            obtain ⟨zs, hz, rfl⟩ := perm_strs pm
            have dA : Dr a H H4 := (dr_same d2 (same_new hD)).trans d4
            exact k p zs _ (dr_free (dr_same d2 (same_new hD)) hp) dA ep (G2 m S zs hm37 hS hz)
        refine ifF (decide_eq_false fun e => h2 (by injection e with e; omega)) ?_
        refine ⟨_, rfl, _, rfl, (m : Int), rfl, by omega, by omega, fun D hD => lc_range (fun q H' => H' = upd H3 D (.lst (((List.range q).map (tx3 S)).map V.str))) rfl ?_ ?_⟩
        · rintro q H7 hq rfl
          have hq' : q < 40 := by omega
          have low1 : -(2 ^ 62) < 1 + (0 + (q : Int)) / 26 + (S : Int) % 3 := by omega
          have hhi : 1 + (0 + (q : Int)) / 26 + (S : Int) % 3 < 2 ^ 20 := by omega
          have one16 : (sg (q % 26)).length < 16 := Nat.lt_of_le_of_lt (Nat.le_refl 1) (by decide)
          refine ⟨rfl, _, rfl, _, rfl, _, _, rfl, rfl, (by show (0 : Int) < 26; decide), signs, _, _, rfl, rfl, signs_size, atN (j := q % 26) (by omega) (sg_get (by omega)), _, rfl, _, _, rfl, rfl, ⟨by decide, by decide⟩, _, _, rfl, rfl, _, rfl, _, _, rfl, rfl, (by show (0 : Int) < 3; decide), _, _, rfl, rfl, _, _, rfl, rfl, low1, .inr ⟨hhi, one16⟩, _, upd_same, by rw [strs_len]; exact Nat.lt_of_lt_of_le hq' (by decide), ?_⟩
          rw [upd_two, strs_succ]
          show upd H3 D (.lst (_ ++ [V.str (timesS (sg (q % 26)) (1 + (0 + (q : Int)) / 26 + (S : Int) % 3))])) = _
          rw [Int.zero_add]
          rfl
        · rintro H7 rfl
          refine ⟨a, D, _, rfl, (dr_same d2 (same_new hD)).fd, .inl (SqL.of upd_same), Nat.le_trans (Nat.le_of_eq (strs_len _ _)) (by omega), fun p ys H4 hp d4 ep pm => ?_⟩
          obtain ⟨zs, hz, rfl⟩ := perm_strs pm
          have dA : Dr a H H4 := (dr_same d2 (same_new hD)).trans d4
          exact k p zs _ (dr_free (dr_same d2 (same_new hD)) hp) dA ep (G3 m S zs hm37 hS hz)
end
end R4

namespace R4
open PySem L2 L3
open C8 (pss_cut tCut pe_gc)
abbrev sIsName : Stmt := top 10
/-! ### is_name -/
def letters : Str := "abcdefghijklmnopqrstuvwxyz"
def digits : Str := "0123456789"
def isNameS (z : Str) : Bool := (decide (1 ≤ z.cps.toList.length) && decide (z.cps.toList.length ≤ 6)) && ((match z.cps.toList with | c :: _ => decide (c ∈ letters.cps.toList) | [] => false) && z.cps.toList.all fun c => decide (c ∈ letters.cps.toList) || decide (c ∈ digits.cps.toList))
/-- what the values' defs may be asked: a text, or what is no text by its class -/
def spIsName (K : PySem.W.Frag) : Sp := fun vs H Q _ => ∃ x : V, vs = [x] ∧ ((∃ z, x = .str z ∧ z.length ≤ 100000 ∧ ∀ H', Same H H' → Q (.bl (isNameS z)) H') ∨ (∃ t, TyX K H x t ∧ PySem.W.kitOne K t (.type "str") = some false ∧ Q (.bl false) H))
def signB (c : Nat) : Bool := decide (c ∈ letters.cps.toList) || decide (c ∈ digits.cps.toList)
theorem bl_take {l : List Nat} {i c : Nat} (h : l[i]? = some c) : ((l.take (i + 1)).map signB).map V.bl = ((l.take i).map signB).map V.bl ++ [V.bl (signB c)] := by
  rw [List.take_add_one, h, List.map_append, List.map_append]
  rfl
section
variable {P : Program} {w : World} {K : PySem.W.Frag} {mg : Str → Option Value} {base : Heap}
abbrev NN : List Str := ["value", "sign"]
theorem scNa : FnScope NN ["value"] (defScope sIsName) := ⟨rfl, rfl, rfl, by decide +kernel, rfl, by decide +kernel, by decide +kernel⟩
theorem ok_isname {f : Addr} {fd : FuncData} (F : Fun K "is_name" "is_name" sIsName f fd) (zIsi : mg "isinstance" = none) (zStr : mg "str" = none) (zLen : mg "len" = none) (zAll : mg "all" = none) (gL : ∃ u, mg "LETTERS" = some u ∧ RelV (.str letters) u) (gD : ∃ u, mg "DIGITS" = some u ∧ RelV (.str digits) u)
    (gM : ∃ u, mg "MOST_SIGNS" = some u ∧ RelV (.int 6) u) (kS : PySem.W.kitOne K (.type "str") (.type "str") = some true) : FnOk P w K mg base CX0 1 f fd ["value"] (spIsName K) := by
  refine F.ok scNa (fun vs H Q E h => ?_) (fun cdv A outer s H vs Q E hr h => ?_)
  · obtain ⟨x, rfl, _⟩ := h
    rfl
  · obtain ⟨x, rfl, h⟩ := h
    have nd := scNa.nd
    refine ⟨_, pss_cons (ps_if (PW.pt (pw_or (pt_not (pt_val (pe_callB call_isi (by rfl) zIsi PyProof.Rows.boot_isinstance (pa_cons (pv 0) (pa_cons (pe_bltn (v := .ty "str") (by rfl) zStr PyProof.Rows.boot_str rfl) pa_nil)))))
        (pw_or1 (pt_not (pt_chain op_le op_le pe_int (pe_callB call_len (by rfl) zLen PySem.boot_len (pa_cons (pv 0) pa_nil)) (pe_gc (v := .int 6) (by rfl) gM)))))) (pss_one (ps_ret pe_bl)) pss_nil)
      (pss_one (ps_ret (pe_and (pe_cmpR op_in_sign (pe_ix ix_str (pv 0) pe_int (fun _ _ => rfl)) (pe_gc (v := .str letters) (by rfl) gL) (by rfl))
        (pe_one (pe_callB (cr_all rfl) (by rfl) zAll (by decide +kernel) (pa_cons (pe_lc (own := [("sign", 1)]) (g := gName 1) (tt := tYes) rfl nd (pi_str (pv 0)) (blkOk_by (N := NN) (sc := defScope sIsName) (by decide +kernel)) (fun _ _ _ _ _ => pg_name (i := 1) nd rfl (.inl rfl)) (fun _ _ _ _ _ => pts_nil)
          (fun _ _ _ _ _ => pe_or (pe_cmpR op_in_sign (pv 1) (pe_gc (v := .str letters) (by rfl) gL) (by rfl)) (pe_one (pe_cmpR op_in_sign (pv 1) (pe_gc (v := .str digits) (by rfl) gD) (by rfl))))) pa_nil)))))), ?_⟩
    rcases h with ⟨z, rfl, hz, k⟩ | ⟨t, ty, kt, k⟩
    · have hsz : z.length ≤ sizeLine := size_ok hz
      have hl : z.cps.toList.length = z.length := Array.length_toList
      refine ⟨_, rfl, .str z, .ty "str", .type "str", .type "str", true, rfl, .ty _, .base (.str z), kS, _, rfl, ifF rfl ?_⟩
      refine ⟨_, rfl, _, _, rfl, ⟨hsz, rfl⟩, _, _, rfl, rfl, _, rfl, ?_⟩
      by_cases h1 : (1 : Int) ≤ (z.length : Int)
      · refine ifT (decide_eq_true h1) ⟨_, _, rfl, rfl, _, rfl, ?_⟩
        by_cases h6 : (z.length : Int) ≤ 6
        · refine ifF (by rw [decide_eq_true h6]; rfl) ?_
          have hpos : 0 < z.cps.toList.length := by omega
          obtain ⟨c, r, hcr⟩ : ∃ c r, z.cps.toList = c :: r := by
            cases q : z.cps.toList with
            | nil => rw [q] at hpos; cases hpos
            | cons c r => exact ⟨c, r, rfl⟩
          have hc0 : z.cps.toList[0]? = some c := by rw [hcr]; rfl
          have en : isNameS z = (decide (c ∈ letters.cps.toList) && z.cps.toList.all signB) := by
            unfold isNameS
            rw [hl, decide_eq_true (by omega : 1 ≤ z.length), decide_eq_true (by omega : z.length ≤ 6), Bool.true_and, Bool.true_and]
            rw [hcr]
            rfl
          refine ⟨_, rfl, z, 0, c, rfl, rfl, hsz, atN (j := 0) rfl hc0, _, _, rfl, rfl, _, rfl, ?_⟩
          by_cases hc : c ∈ letters.cps.toList
          · refine ifT (decide_eq_true hc) ⟨_, rfl, z, rfl, fun D hD => lc_it walk_str (fun i H' => H' = upd H D (.lst (((z.cps.toList.take i).map signB).map V.bl))) rfl (fun _ _ _ _ => True.intro) ?_ ?_⟩
            · rintro i x H7 H8 hi rfl ⟨rfl, d, hd, rfl⟩
              have hd2 : z.cps.toList[i]? = some d := by rw [Array.getElem?_toList]; exact hd
              have fin : ∀ y : V, y = V.bl (signB d) → ∃ acc, (upd H D (.lst (((z.cps.toList.take i).map signB).map V.bl))) D = some (.lst acc) ∧ acc.length < sizeLine ∧ upd (upd H D (.lst (((z.cps.toList.take i).map signB).map V.bl))) D (.lst (acc ++ [y])) = upd H D (.lst (((z.cps.toList.take (i + 1)).map signB).map V.bl)) := by
                rintro y rfl
                refine ⟨_, upd_same, ?_, by rw [upd_two, bl_take hd2]⟩
                rw [List.length_map, List.length_map, List.length_take]
                have := sizeLine_eq
                omega
              refine ⟨rfl, _, rfl, d, letters, rfl, rfl, _, rfl, ?_⟩
              by_cases hd3 : d ∈ letters.cps.toList
              · exact ifT (decide_eq_true hd3) (fin _ (by unfold signB; rw [decide_eq_true hd3, Bool.true_or]))
              · refine ifF (decide_eq_false hd3) ⟨_, rfl, d, digits, rfl, rfl, fin _ ?_⟩
                unfold signB
                rw [decide_eq_false hd3, Bool.false_or]
            · rintro H7 rfl
              have et : (z.cps.toList.take z.cps.size) = z.cps.toList := List.take_of_length_le (by rw [Array.length_toList]; exact Nat.le_refl _)
              rw [et]
              refine ⟨D, _, rfl, SqL.of upd_same, ?_⟩
              have q := k _ (same_new (o := .lst ((z.cps.toList.map signB).map V.bl)) hD)
              rw [en, decide_eq_true hc, Bool.true_and] at q
              have ea : (z.cps.toList.map signB).all id = z.cps.toList.all signB := by rw [List.all_map]; rfl
              rw [ea]
              exact q
          · refine ifF (decide_eq_false hc) ?_
            have q := k H (Same.refl H)
            rw [en, decide_eq_false hc, Bool.false_and] at q
            exact q
        · refine ifT (by rw [decide_eq_false h6]; rfl) ?_
          have e : isNameS z = false := by
            unfold isNameS
            rw [hl, decide_eq_false (by omega : ¬ z.length ≤ 6), Bool.and_false, Bool.false_and]
          have q := k H (Same.refl H)
          rw [e] at q
          exact q
      · refine ifF (decide_eq_false h1) ⟨_, rfl, ifT rfl ?_⟩
        have e : isNameS z = false := by
          unfold isNameS
          rw [hl, decide_eq_false (by omega : ¬ 1 ≤ z.length), Bool.false_and, Bool.false_and]
        have q := k H (Same.refl H)
        rw [e] at q
        exact q
    · refine ⟨_, rfl, x, .ty "str", t, .type "str", false, rfl, .ty _, ty, kt, _, rfl, ifT rfl ?_⟩
      exact ifT rfl k
end
end R4

namespace R4
open PySem L2 L3
open C8 (pss_cut tCut pe_gc)
abbrev sIsDec : Stmt := top 11
abbrev sIsCh : Stmt := top 12
/-! ### is_decimal, is_choice_name -/
def digB (c : Nat) : Bool := decide (c ∈ digits.cps.toList)
def isDecS (z : Str) (m : Int) : Bool := (decide (1 ≤ (z.length : Int)) && decide ((z.length : Int) ≤ m)) && (!(decide (V.str (⟨#[z.cps.toList.getD 0 0]⟩ : Str) = V.str (Str.ofString "0")) && decide ((z.length : Int) > 1)) && z.cps.toList.all digB)
def isChS (z : Str) : Bool := isNameS (Txt.partition z (Str.ofString ".")).1 && (decide (V.str (Txt.partition z (Str.ofString ".")).2.1 = V.str (Str.ofString "")) || isDecS (Txt.partition z (Str.ofString ".")).2.2 2)
def spIsDec : Sp := fun vs H Q _ => ∃ (z : Str) (m : Int), vs = [.str z, .int m] ∧ z.length ≤ 100000 ∧ ∀ H', Same H H' → Q (.bl (isDecS z m)) H'
def spIsCh : Sp := fun vs H Q _ => ∃ z : Str, vs = [.str z] ∧ z.length ≤ 1000 ∧ ∀ H', Same H H' → Q (.bl (isChS z)) H'
theorem dig_take {l : List Nat} {i c : Nat} (h : l[i]? = some c) : ((l.take (i + 1)).map digB).map V.bl = ((l.take i).map digB).map V.bl ++ [V.bl (digB c)] := by
  rw [List.take_add_one, h, List.map_append, List.map_append]
  rfl
section
variable {P : Program} {w : World} {K : PySem.W.Frag} {mg : Str → Option Value} {base : Heap}
abbrev ND : List Str := ["text", "most", "sign"]
theorem scDe : FnScope ND ["text", "most"] (defScope sIsDec) := ⟨rfl, rfl, rfl, by decide +kernel, rfl, by decide +kernel, by decide +kernel⟩
theorem ok_isdec {f : Addr} {fd : FuncData} (F : Fun K "is_decimal" "is_decimal" sIsDec f fd) (zLen : mg "len" = none) (zAll : mg "all" = none) (gD : ∃ u, mg "DIGITS" = some u ∧ RelV (.str digits) u) : FnOk P w K mg base CX0 1 f fd ["text", "most"] spIsDec := by
  refine F.ok scDe (fun vs H Q E h => ?_) (fun cdv A outer s H vs Q E hr h => ?_)
  · obtain ⟨z, m, rfl, _⟩ := h
    rfl
  · obtain ⟨z, m, rfl, hz, k⟩ := h
    have nd := scDe.nd
    refine ⟨_, pss_cut (ps_if (PW.pt (pw_or (pt_not (pt_chain op_le op_le pe_int (pe_callB call_len (by rfl) zLen PySem.boot_len (pa_cons (pv 0) pa_nil)) (pv 1)))
        (pw_or1 (PW.pt (pw_and (pt_cmpR op_eq (pe_ix ix_str (pv 0) pe_int (fun _ _ => rfl)) pe_str (nomark _)) (pw_and1 (pt_cmpR op_gt (pe_callB call_len (by rfl) zLen PySem.boot_len (pa_cons (pv 0) pa_nil)) pe_int (nomark _)))))))) (pss_one (ps_ret pe_bl)) pss_nil)
      (pss_one (ps_ret (pe_callB (cr_all rfl) (by rfl) zAll (by decide +kernel) (pa_cons (pe_lc (own := [("sign", 2)]) (g := gName 2) (tt := tYes) rfl nd (pi_str (pv 0)) (blkOk_by (N := ND) (sc := defScope sIsDec) (by decide +kernel)) (fun _ _ _ _ _ => pg_name (i := 2) nd rfl (.inl rfl)) (fun _ _ _ _ _ => pts_nil)
          (fun _ _ _ _ _ => pe_cmpR op_in_sign (pv 2) (pe_gc (v := .str digits) (by rfl) gD) (by rfl))) pa_nil)))), ?_⟩
    have hsz : z.length ≤ sizeLine := size_ok hz
    have hl : z.cps.toList.length = z.length := Array.length_toList
    have goF : isDecS z m = false → Q (.bl false) H := fun e => by
      have q := k H (Same.refl H)
      rw [e] at q
      exact q
    refine ⟨fun σ H' => σ = [some (.str z), some (.int m), none] ∧ H' = H ∧ isDecS z m = z.cps.toList.all digB, ?_, ?_⟩
    · refine ⟨_, rfl, _, _, rfl, ⟨hsz, rfl⟩, _, _, rfl, rfl, _, rfl, ?_⟩
      by_cases h1 : (1 : Int) ≤ (z.length : Int)
      · refine ifT (decide_eq_true h1) ⟨_, rfl, _, _, rfl, rfl, _, rfl, ?_⟩
        by_cases hm : (z.length : Int) ≤ m
        · refine ifF (by rw [decide_eq_true hm]; rfl) ?_
          have hpos : 0 < z.cps.toList.length := by omega
          have hc0 : z.cps.toList[0]? = some (z.cps.toList.getD 0 0) := by
            rw [List.getD_eq_getElem?_getD, List.getElem?_eq_getElem hpos]
            rfl
          have eq0 : isDecS z m = (!(decide (V.str (⟨#[z.cps.toList.getD 0 0]⟩ : Str) = V.str (Str.ofString "0")) && decide ((z.length : Int) > 1)) && z.cps.toList.all digB) := by
            unfold isDecS
            rw [decide_eq_true h1, decide_eq_true hm, Bool.true_and, Bool.true_and]
          refine ⟨_, rfl, z, 0, _, rfl, rfl, hsz, atN (j := 0) rfl hc0, rfl, _, rfl, ?_⟩
          by_cases h0 : V.str (⟨#[z.cps.toList.getD 0 0]⟩ : Str) = V.str (Str.ofString "0")
          · rw [decide_eq_true h0, Bool.true_and] at eq0
            refine ifT (decide_eq_true h0) ⟨_, rfl, _, _, rfl, ⟨hsz, rfl⟩, _, _, rfl, rfl, _, rfl, ?_⟩
            by_cases hg : (z.length : Int) > 1
            · rw [decide_eq_true hg] at eq0
              exact ifT (decide_eq_true hg) (goF (by rw [eq0]; rfl))
            · rw [decide_eq_false hg] at eq0
              exact ifF (decide_eq_false hg) ⟨rfl, rfl, by rw [eq0]; rfl⟩
          · rw [decide_eq_false h0, Bool.false_and] at eq0
            exact ifF (decide_eq_false h0) ⟨rfl, rfl, by rw [eq0]; rfl⟩
        · refine ifT (by rw [decide_eq_false hm]; rfl) (goF ?_)
          unfold isDecS
          rw [decide_eq_false hm, Bool.and_false, Bool.false_and]
      · refine ifF (decide_eq_false h1) ⟨_, rfl, ifT rfl (goF ?_)⟩
        unfold isDecS
        rw [decide_eq_false h1, Bool.false_and, Bool.false_and]
    · rintro σ H' ⟨rfl, rfl, e⟩
      refine ⟨_, rfl, z, rfl, fun D hD => lc_it walk_str (fun i H7 => H7 = upd H' D (.lst (((z.cps.toList.take i).map digB).map V.bl))) rfl (fun _ _ _ _ => True.intro) ?_ ?_⟩
      · rintro i x H7 H8 hi rfl ⟨rfl, d, hd, rfl⟩
        have hd2 : z.cps.toList[i]? = some d := by rw [Array.getElem?_toList]; exact hd
        refine ⟨rfl, _, rfl, d, digits, rfl, rfl, _, upd_same, ?_, by rw [upd_two, dig_take hd2]; rfl⟩
        rw [List.length_map, List.length_map, List.length_take]
        have := sizeLine_eq
        omega
      · rintro H7 rfl
        have et : (z.cps.toList.take z.cps.size) = z.cps.toList := List.take_of_length_le (by rw [Array.length_toList]; exact Nat.le_refl _)
        rw [et]
        refine ⟨D, _, rfl, SqL.of upd_same, ?_⟩
        have q := k _ (same_new (o := .lst ((z.cps.toList.map digB).map V.bl)) hD)
        rw [e] at q
        have ea : (z.cps.toList.map digB).all id = z.cps.toList.all digB := by rw [List.all_map]; rfl
        rw [ea]
        exact q
abbrev NC : List Str := ["text", "name", "point", "row"]
theorem scCh : FnScope NC ["text"] (defScope sIsCh) := ⟨rfl, rfl, rfl, by decide +kernel, rfl, by decide +kernel, by decide +kernel⟩
theorem sub_len (x : Str) (i j : Nat) : (Builtin.Str.strSub x i j).length ≤ x.length := by
  show (x.cps.extract i j).size ≤ x.cps.size
  rw [Array.size_extract]
  omega
theorem part_len (z : Str) : (Txt.partition z (Str.ofString ".")).1.length ≤ z.length ∧ (Txt.partition z (Str.ofString ".")).2.2.length ≤ z.length := by
  unfold Txt.partition
  split
  · exact ⟨sub_len _ _ _, sub_len _ _ _⟩
  · exact ⟨Nat.le_refl _, Nat.zero_le _⟩
theorem ok_isch {f fN fD : Addr} {fd fdN fdD : FuncData} (F : Fun K "is_choice_name" "is_choice_name" sIsCh f fd) (GN : FnOk P w K mg base CX0 1 fN fdN ["value"] (spIsName K)) (kN : PySem.W.keepIn K (.ref fN) = true) (bN : Binds K fdN ["value"] []) (gN : mg "is_name" = some (.ref fN))
    (GD : FnOk P w K mg base CX0 1 fD fdD ["text", "most"] spIsDec) (kD : PySem.W.keepIn K (.ref fD) = true) (bD : Binds K fdD ["text", "most"] []) (gD : mg "is_decimal" = some (.ref fD)) :
    FnOk P w K mg base CX0 2 f fd ["text"] spIsCh := by
  refine F.ok scCh (fun vs H Q E h => ?_) (fun cdv A outer s H vs Q E hr h => ?_)
  · obtain ⟨z, rfl, _⟩ := h
    rfl
  · obtain ⟨z, rfl, hz, k⟩ := h
    have nd := scCh.nd
    refine ⟨_, pss_cons (ps_asg (pe_partition (pv 0) pe_str) (pg_tup (by rfl) (pgs_cons (pg_name (i := 1) nd rfl (.inl rfl)) (pgs_cons (pg_name (i := 2) nd rfl (.inl rfl)) (pgs_cons (pg_name (i := 3) nd rfl (.inl rfl)) pgs_nil)))))
      (pss_one (ps_ret (pe_and (pe_call GN hr (by rfl) gN kN bN .nil pass0 (pa_cons (pv 1) pa_nil)) (pe_one (pe_or (pe_cmpR op_eq (pv 2) pe_str (nomark _)) (pe_one (pe_call GD hr (by rfl) gD kD bD .nil pass0 (pa_cons (pv 3) (pa_cons pe_int pa_nil))))))))), ?_⟩
    have hsz : z.length ≤ sizeLine := size_ok (by omega)
    obtain ⟨l1, l2⟩ := part_len z
    refine ⟨_, rfl, ⟨_, rfl⟩, z, _, rfl, rfl, (by decide +kernel), hsz, fun p hp => ?_⟩
    refine ⟨p, _, rfl, SqT.of upd_same, rfl, _, _, rfl, _, _, rfl, _, _, rfl, rfl, ?_⟩
    have s1 := same_new (o := .tup [.str (Txt.partition z (Str.ofString ".")).1, .str (Txt.partition z (Str.ofString ".")).2.1, .str (Txt.partition z (Str.ofString ".")).2.2]) hp
    have ez : isChS z = (isNameS (Txt.partition z (Str.ofString ".")).1 && (decide (V.str (Txt.partition z (Str.ofString ".")).2.1 = V.str (Str.ofString "")) || isDecS (Txt.partition z (Str.ofString ".")).2.2 2)) := rfl
    refine ⟨_, rfl, _, rfl, .inl ⟨_, rfl, by omega, fun H2 s2 => ⟨_, rfl, ?_⟩⟩⟩
    cases e1 : isNameS (Txt.partition z (Str.ofString ".")).1 with
    | false =>
      rw [e1] at ez
      refine ifF rfl ?_
      have q := k H2 (s1.trans s2)
      rw [ez] at q
      exact q
    | true =>
      rw [e1, Bool.true_and] at ez
      refine ifT rfl ⟨_, rfl, rfl, _, rfl, ?_⟩
      by_cases e2 : V.str (Txt.partition z (Str.ofString ".")).2.1 = V.str (Str.ofString "")
      · rw [decide_eq_true e2, Bool.true_or] at ez
        refine ifT (decide_eq_true e2) ?_
        have q := k H2 (s1.trans s2)
        rw [ez] at q
        exact q
      · rw [decide_eq_false e2, Bool.false_or] at ez
        refine ifF (decide_eq_false e2) ⟨_, rfl, _, 2, rfl, by omega, fun H3 s3 => ?_⟩
        have q := k H3 ((s1.trans s2).trans s3)
        rw [ez] at q
        exact q
end
end R4

namespace R4
open PySem L2 L3
open C8 (pss_cut tCut pe_gc)
/-! ### the twelve titles and what is nearly one -/
def oddS (j : Nat) (t : Str) : Str :=
  match j with
  | 0 => t ++ Str.ofString "A"
  | 1 => Str.ofString ""
  | 2 => Str.ofString "1" ++ cutS t none (some 2)
  | 3 => t ++ Str.ofString "."
  | 4 => Str.ofString "." ++ t
  | 5 => t ++ Str.ofString ".01"
  | 6 => t ++ Str.ofString " "
  | _ => cutS t none (some 1) ++ Str.ofString "-"
def okO (z : Str) : Bool := decide (z.length ≤ 100) && (PyData.strOk z && !isChS z)
def okT (t : Str) : Bool := decide (t.length ≤ 6) && (decide ((reprText t).length ≤ 1000) && (PyData.strOk t && (isChS t && ((List.range 8).all (fun j => okO (oddS j t)) && (!decide (t = Str.ofString "never") && !decide (t = Str.ofString ""))))))
def G12 (m : Nat) (ts : List Str) : Prop := m = 12 → ts.length = 12 ∧ ∀ t ∈ ts, okT t = true
theorem tab0 : (List.range 26).all (fun s => ((List.range 12).map (tx0 s)).all okT) = true := by decide +kernel
theorem tab1 : (List.range 26).all (fun s => ((List.range 12).map (tx1 s)).all okT) = true := by decide +kernel
theorem tab2 : (List.range 26).all (fun s => ((List.range 12).map (tx2 s)).all okT) = true := by decide +kernel
theorem tab3 : (List.range 26).all (fun s => ((List.range 12).map (tx3 s)).all okT) = true := by decide +kernel
theorem okT_d0 : okT (Str.ofString "d.0") = true := by decide +kernel
theorem okT_ab : okT (Str.ofString "ab.17") = true := by decide +kernel
theorem rowT_of {f : Nat → Nat → Str} {s : Nat} (h : (List.range 26).all (fun s => ((List.range 12).map (f s)).all okT) = true) (hs : s < 26) : ∀ t ∈ (List.range 12).map (f s), okT t = true :=
  List.all_eq_true.mp (List.all_eq_true.mp h s (List.mem_range.mpr hs))
theorem gn4 (m : Nat) (ts : List Str) (hm : m < 5) (h : ts.Perm [Str.ofString "word", Str.ofString "truth", Str.ofString "number", Str.ofString "none"]) : G12 m (ts.take m) := fun e => by omega
theorem gn0 (m s : Nat) (hm : m ≤ 40) (hs : s < 26) : G12 m ((List.range m).map (tx0 s)) := fun e => by
  subst e
  exact ⟨by rw [List.length_map, List.length_range], rowT_of tab0 hs⟩
theorem gnP {f : Nat → Nat → Str} (tb : (List.range 26).all (fun s => ((List.range 12).map (f s)).all okT) = true) (m s : Nat) (ts : List Str) (hs : s < 26) (h : ts.Perm ((List.range m).map (f s))) : G12 m ts := fun e => by
  subst e
  exact ⟨by rw [h.length_eq, List.length_map, List.length_range], fun t ht => rowT_of tb hs t (h.mem_iff.mp ht)⟩
end R4

namespace R4
open PySem L2 L3
open C8 (pss_cut tCut pe_gc)
abbrev sInit : Stmt := inClass (top 14) 0
abbrev sPut : Stmt := inClass (top 14) 1
abbrev sWithout : Stmt := inClass (top 14) 2
abbrev sGet : Stmt := inClass (top 14) 3
abbrev sNumber : Stmt := inClass (top 14) 4
abbrev sHas : Stmt := inClass (top 14) 5
abbrev sLen : Stmt := inClass (top 14) 6
abbrev sEq : Stmt := inClass (top 14) 8
structure Txt (P : Program) (K : PySem.W.Frag) (mg : Str → Option Value) (C CI CT CU fi ft fu : Addr) : Prop where
  cl : Cls K C
  nN : NoAttr K C "names"
  nC : NoAttr K C "_choices"
  nX : NoAttr K C "_next"
  gC : mg "Choices" = some (.ref C)
  eI : ErrF P K mg CI fi "InvalidName" ["name"]
  eT : ErrF P K mg CT ft "Taken" ["name"]
  eU : ErrF P K mg CU fu "UnknownName" ["name"]
  tI : PySem.W.typeIn K (.ref CI) = some (.type "type")
  tT : PySem.W.typeIn K (.ref CT) = some (.type "type")
  tU : PySem.W.typeIn K (.ref CU) = some (.type "type")
/-! ### what choices are -/
abbrev Row := Str × Int × Int
abbrev flds (tn td : Addr) (nx : Int) : List (Str × V) := [("names", .ref tn), ("_choices", .ref td), ("_next", .int nx)]
def kvE (es : List (Row × Addr)) : List (Key × V) := es.map fun e => (.inr e.1.1, .ref e.2)
structure ChP (H : Hp) (es : List (Row × Addr)) (tn td : Addr) : Prop where
  tn : H tn = some (.tup (es.map fun e => V.str e.1.1))
  td : H td = some (.dK (kvE es))
  at_ : ∀ e ∈ es, H e.2 = some (.tup [.int e.1.2.1, .int e.1.2.2])
  nd : (es.map fun e => e.1.1).Nodup
  le : es.length ≤ 100
def ChAt (C : Addr) (H : Hp) (c : Addr) (es : List (Row × Addr)) (nx : Int) : Prop := ∃ dx tn td, H c = some (.ins C dx (flds tn td nx)) ∧ ChP H es tn td
theorem ChP.same {H H' : Hp} {es : List (Row × Addr)} {tn td : Addr} (s : Same H H') (h : ChP H es tn td) : ChP H' es tn td :=
  ⟨s _ _ h.tn, s _ _ h.td, fun e m => s _ _ (h.at_ e m), h.nd, h.le⟩
theorem ChAt.same {C c : Addr} {H H' : Hp} {es : List (Row × Addr)} {nx : Int} (s : Same H H') (h : ChAt C H c es nx) : ChAt C H' c es nx := by
  obtain ⟨dx, tn, td, hc, p⟩ := h
  exact ⟨dx, tn, td, s _ _ hc, p.same s⟩
theorem valV_kvE (z : Str) : ∀ es : List (Row × Addr), (es.map fun e => e.1.1).Nodup → (∀ e, e ∈ es → e.1.1 = z → valV (kvE es) (.inr z) = some (.ref e.2)) ∧ ((∀ e ∈ es, e.1.1 ≠ z) → valV (kvE es) (.inr z) = none)
  | [], _ => ⟨fun e m => (nomatch m), fun _ => rfl⟩
  | a :: es, nd => by
    rw [List.map_cons] at nd
    obtain ⟨n1, n2⟩ := List.nodup_cons.mp nd
    obtain ⟨i1, i2⟩ := valV_kvE z es n2
    refine ⟨fun e m h => ?_, fun h => ?_⟩
    · rcases List.mem_cons.mp m with rfl | m
      · exact valV_pos (p := (Sum.inr e.1.1, V.ref e.2)) (congrArg Sum.inr h)
      · have ne : ¬ ((Sum.inr a.1.1 : Key) = Sum.inr z) := fun q => n1 (List.mem_map.mpr ⟨e, m, h.trans (Sum.inr.inj q).symm⟩)
        exact (valV_neg (p := ((Sum.inr a.1.1 : Key), V.ref a.2)) (r := kvE es) ne).trans (i1 e m h)
    · have ne : ¬ ((Sum.inr a.1.1 : Key) = Sum.inr z) := fun q => h a List.mem_cons_self (Sum.inr.inj q)
      exact (valV_neg (p := ((Sum.inr a.1.1 : Key), V.ref a.2)) (r := kvE es) ne).trans (i2 fun e m => h e (List.mem_cons_of_mem _ m))
def hasB (z : Str) (es : List (Row × Addr)) : Bool := es.any fun e => decide (e.1.1 = z)
theorem hasB_some {z : Str} {es : List (Row × Addr)} (h : hasB z es = true) : ∃ e ∈ es, e.1.1 = z := by
  obtain ⟨e, m, q⟩ := List.any_eq_true.mp h
  exact ⟨e, m, of_decide_eq_true q⟩
theorem hasB_none {z : Str} {es : List (Row × Addr)} (h : hasB z es = false) : ∀ e ∈ es, e.1.1 ≠ z := fun e m q => by
  have : hasB z es = true := List.any_eq_true.mpr ⟨e, m, decide_eq_true q⟩
  rw [h] at this
  cases this
theorem isSome_kvE {z : Str} {es : List (Row × Addr)} (nd : (es.map fun e => e.1.1).Nodup) : (valV (kvE es) (.inr z)).isSome = hasB z es := by
  obtain ⟨i1, i2⟩ := valV_kvE z es nd
  cases h : hasB z es with
  | true =>
    obtain ⟨e, m, q⟩ := hasB_some h
    rw [i1 e m q]
    rfl
  | false =>
    rw [i2 (hasB_none h)]
    rfl
section
variable {P : Program} {w : World} {K : PySem.W.Frag} {mg : Str → Option Value} {base : Heap} {C CI CT CU fi ft fu : Addr}
def spInit (C : Addr) : Sp := fun vs H Q _ => ∃ (p dx : Addr), vs = [.ref p] ∧ H p = some (.ins C dx []) ∧ ∀ (H' : Hp) (tn td : Addr), (∀ b o, b ≠ p → H b = some o → H' b = some o) → H' p = some (.ins C dx (flds tn td 0)) → ChP H' [] tn td → H tn = none → H td = none → Q .non H'
theorem scI : FnScope ["self"] ["self"] (defScope sInit) := ⟨rfl, rfl, rfl, by decide +kernel, rfl, by decide +kernel, by decide +kernel⟩
theorem ok_init {f : Addr} {fd : FuncData} (F : Fun K "__init__" "Choices.__init__" sInit f fd) (T : Txt P K mg C CI CT CU fi ft fu) : FnOk P w K mg base CX0 1 f fd ["self"] (spInit C) := by
  refine F.ok scI (fun vs H Q E h => ?_) (fun cdv A outer s H vs Q E hr h => ?_)
  · obtain ⟨p, dx, rfl, _⟩ := h
    rfl
  · obtain ⟨p, dx, rfl, hp, k⟩ := h
    refine ⟨_, pss_cons (ps_fld (pv 0) (pe_tup pa_nil) rfl) (pss_cons (ps_fld (pv 0) pe_dnewK rfl) (pss_one (ps_fld (pv 0) pe_int rfl))), ?_⟩
    refine ⟨(by show 0 ≤ sizeLine; decide), fun tn htn => ⟨_, rfl, p, C, dx, [], rfl, (upd_ne (ne_of_none hp htn)).trans hp, T.cl, T.nN, (by show 0 < 1000; decide), fun td htd => ?_⟩⟩
    have ntp : tn ≠ p := (ne_of_none hp htn).symm
    have e1 : (upd (upd H tn (.tup [])) p (.ins C dx (putF "names" (.ref tn) []))) p = some (.ins C dx (putF "names" (.ref tn) [])) := upd_same
    have etn : (upd (upd H tn (.tup [])) p (.ins C dx (putF "names" (.ref tn) []))) tn = some (.tup []) := by rw [upd_ne ntp]; exact upd_same
    have ndp : td ≠ p := (ne_of_none e1 htd).symm
    have ndt : td ≠ tn := (ne_of_none etn htd).symm
    refine ⟨_, rfl, p, C, dx, _, rfl, (upd_ne (Ne.symm ndp)).trans e1, T.cl, T.nC, (by show 1 < 1000; decide), ?_⟩
    refine ⟨_, rfl, p, C, dx, _, rfl, upd_same, T.cl, T.nX, (by show 2 < 1000; decide), ?_⟩
    have hd0 : H td = none := by
      rw [upd_ne ndp, upd_ne ndt] at htd
      exact htd
    refine k _ tn td (fun b o nb e => ?_) (by rw [upd_same]; rfl) ⟨?_, ?_, fun e m => (nomatch m), .nil, by decide⟩ htn hd0
    · rw [upd_ne nb, upd_ne nb, upd_ne (ne_of_none e hd0), upd_ne nb, upd_ne (ne_of_none e htn)]
      exact e
    · rw [upd_ne ntp, upd_ne ntp, upd_ne (Ne.symm ndt)]
      exact etn
    · rw [upd_ne ndp, upd_ne ndp]
      exact upd_same
end
end R4

namespace R4
open PySem L2 L3
open C8 (pss_cut tCut pe_gc)
/-- the error, newly made -/
def ErrNew (H H' : Hp) (d : Addr) (z : Str) : Prop := Same H H' ∧ H d = none ∧ H' d = some (.xd [("name", .str z)])
theorem same_off {H H' : Hp} (s : Same H H') {p : Addr} {o : HO} (h : H p = none) : Same H (upd H' p o) := fun b u e => by
  rw [upd_ne (ne_of_none e h)]
  exact s b u e
theorem nodup_snoc {es : List (Row × Addr)} {z : Str} (nd : (es.map fun e => e.1.1).Nodup) (h : hasB z es = false) {m n : Int} {p : Addr} : ((es ++ [((z, m, n), p)]).map fun e => e.1.1).Nodup := by
  rw [List.map_append]
  refine List.nodup_append.mpr ⟨nd, by simp, fun u hu v hv => ?_⟩
  simp only [List.map_cons, List.map_nil, List.mem_singleton] at hv
  subst hv
  obtain ⟨e, me, rfl⟩ := List.mem_map.mp hu
  exact hasB_none h e me
section
variable {P : Program} {w : World} {K : PySem.W.Frag} {mg : Str → Option Value} {base : Heap} {C CI CT CU fi ft fu : Addr}
def spPut (C CI CT : Addr) : Sp := fun vs H Q E => ∃ (c : Addr) (z : Str) (m nx : Int) (es : List (Row × Addr)), vs = [.ref c, .str z, .int m] ∧ ChAt C H c es nx ∧ z.length ≤ 1000 ∧ es.length < 100 ∧
  (isChS z = false → ∀ d H', ErrNew H H' d z → E (.ref CI) (some d) H') ∧ (isChS z = true → hasB z es = true → ∀ d H', ErrNew H H' d z → E (.ref CT) (some d) H') ∧
  (isChS z = true → hasB z es = false → ∀ c' p H', Same H H' → H c' = none → ChAt C H' c' (es ++ [((z, m, nx), p)]) (nx + 1) → Q (.ref c') H')
abbrev NP : List Str := ["self", "name", "many", "made"]
theorem scP : FnScope NP ["self", "name", "many"] (defScope sPut) := ⟨rfl, rfl, rfl, by decide +kernel, rfl, by decide +kernel, by decide +kernel⟩
theorem lk_names {tn td : Addr} {nx : Int} : (flds tn td nx).lookup ("names" : Str) = some (V.ref tn) := rfl
theorem lk_ch {tn td : Addr} {nx : Int} : (flds tn td nx).lookup ("_choices" : Str) = some (V.ref td) := rfl
theorem lk_next {tn td : Addr} {nx : Int} : (flds tn td nx).lookup ("_next" : Str) = some (V.int nx) := rfl
theorem pf_names {tn td t : Addr} {nx : Int} : putF "names" (.ref t) (flds tn td nx) = flds t td nx := rfl
theorem pf_ch {tn td t : Addr} {nx : Int} : putF "_choices" (.ref t) (flds tn td nx) = flds tn t nx := rfl
theorem pf_next {tn td : Addr} {nx n : Int} : putF "_next" (.int n) (flds tn td nx) = flds tn td n := rfl
theorem ok_put {f f0 fC : Addr} {fd fd0 fdC : FuncData} (F : Fun K "put" "Choices.put" sPut f fd) (T : Txt P K mg C CI CT CU fi ft fu) (M : Mk K C f0) (F0 : Fun K "__init__" "Choices.__init__" sInit f0 fd0) (b0 : Binds K fd0 ["self"] [])
    (GC : FnOk P w K mg base CX0 2 fC fdC ["text"] spIsCh) (kC : PySem.W.keepIn K (.ref fC) = true) (bC : Binds K fdC ["text"] []) (gC : mg "is_choice_name" = some (.ref fC)) :
    FnOk P w K mg base (L2.CX P w) 3 f fd ["self", "name", "many"] (spPut C CI CT) := by
  have GI : FnOk P w K mg base CX0 1 f0 fd0 ["self"] (spInit C) := ok_init F0 T
  refine F.okX scP (fun vs H Q E h => ?_) (fun cdv A outer s H vs Q E hr h => ?_)
  · obtain ⟨c, z, m, nx, es, rfl, _⟩ := h
    rfl
  · obtain ⟨c, z, m, nx, es, rfl, hc, hz, hl, kI, kT, k⟩ := h
    have nd := scP.nd
    have hu := hu_of hr
    have R1 : Room 1 _ := hr.mono (by decide)
    have R2 : Room 2 _ := hr.mono (by decide)
    refine ⟨_, pss_cons (ps_if (pt_not (pt_val (pe_call GC R2 (by rfl) gC kC bC .nil pass0 (pa_cons (pv 1) pa_nil)))) (pss_one (ps_raise rfl (takes_of rfl rfl rfl rfl) (pmk_err T.eI T.tI R1 (by exact rfl) (pa_cons (pv 1) pa_nil)))) pss_nil)
      (pss_cons (ps_if (pt_cmp (pc_din hu (pv 1) (pe_fld (pv 0) rfl))) (pss_one (ps_raise rfl (takes_of rfl rfl rfl rfl) (pmk_err T.eT T.tT R1 (by exact rfl) (pa_cons (pv 1) pa_nil)))) pss_nil)
      (PSs.nox (pss_cons (ps_set (i := 3) nd rfl (.inl rfl) (pe_make0 M GI R2 (by rfl) T.gC b0 .nil pass0))
      (pss_cons (ps_fld (pv 3) (pe_tup (StX.pa_star (pe_fld (pv 0) rfl) (pa_cons (pv 1) pa_nil))) rfl)
      (pss_cons (ps_fld (pv 3) (pe_dst (pe_fld (pv 0) rfl) (pv 1) (pe_tup (pa_cons (pv 2) (pa_cons (pe_fld (pv 0) rfl) pa_nil)))) rfl)
      (pss_cons (ps_fld (pv 3) (pe_op op_add (pe_fld (pv 0) rfl) pe_int) rfl)
      (pss_one (ps_ret (pv 3))))))))), ?_⟩
    obtain ⟨dx, tn, td, hcc, cp⟩ := hc
    refine ⟨_, rfl, z, rfl, hz, fun H1 s1 => ⟨_, rfl, ?_⟩⟩
    have cp1 := cp.same s1
    have hc1 := s1 _ _ hcc
    cases e : isChS z with
    | false => exact ifT rfl ⟨_, rfl, rfl, (by show 1 ≤ 900; decide), fun d hd => kI e d _ ⟨s1.trans (same_new hd), s1.free hd, upd_same⟩⟩
    | true =>
      refine ifF rfl ⟨_, rfl, _, rfl, c, C, dx, _, _, rfl, hc1, T.cl, T.nC, lk_ch, td, _, rfl, DGet.k (k := .inr z) cp1.td, _, rfl, ?_⟩
      rw [isSome_kvE cp.nd]
      cases e2 : hasB z es with
      | true => exact ifT rfl ⟨_, rfl, rfl, (by show 1 ≤ 900; decide), fun d hd => kT e e2 d _ ⟨s1.trans (same_new hd), s1.free hd, upd_same⟩⟩
      | false =>
        refine ifF rfl fun x dx2 hx hdx ne => ⟨x, dx2, rfl, upd_same, fun H2 tn2 td2 keep ex cp2 h1 h2 => ⟨rfl, ?_⟩⟩
        have s2 : Same H1 H2 := fun b o eb => keep b o (ne_of_none eb hx) (by rw [upd_ne (ne_of_none eb hx), upd_ne (ne_of_none eb hdx)]; exact eb)
        have lsz := sizeLine_eq
        have hle := cp.le
        refine ⟨_, rfl, c, C, dx, _, _, rfl, s2 _ _ hc1, T.cl, T.nN, lk_names, tn, _, rfl, .inl (SqT.of (s2 _ _ cp1.tn)), _, rfl, (by rw [List.length_append, List.length_map]; show es.length + 1 ≤ sizeLine; omega), fun t ht => ?_⟩
        have ht1 : H1 t = none := s2.free ht
        have nxt : x ≠ t := ne_of_none ex ht
        refine ⟨_, rfl, x, C, dx2, _, rfl, (upd_ne nxt).trans ex, T.cl, T.nN, (by show 3 < 1000; decide), ?_⟩
        rw [pf_names]
        have s3 : Same H1 (upd (upd H2 t (.tup ((es.map fun e => V.str e.1.1) ++ [V.str z]))) x (.ins C dx2 (flds t td2 0))) := same_off (same_off s2 ht1) hx
        have ex3 : (upd (upd H2 t (.tup ((es.map fun e => V.str e.1.1) ++ [V.str z]))) x (.ins C dx2 (flds t td2 0))) x = some (.ins C dx2 (flds t td2 0)) := upd_same
        have et3 : (upd (upd H2 t (.tup ((es.map fun e => V.str e.1.1) ++ [V.str z]))) x (.ins C dx2 (flds t td2 0))) t = some (.tup ((es.map fun e => V.str e.1.1) ++ [V.str z])) := by
          rw [upd_ne (Ne.symm nxt)]
          exact upd_same
        generalize upd (upd H2 t (.tup ((es.map fun e => V.str e.1.1) ++ [V.str z]))) x (.ins C dx2 (flds t td2 0)) = H3 at s3 ex3 et3
        refine fun d hd => ?_
        have hd1 : H1 d = none := s3.free hd
        have sd := same_off (o := .dK []) s3 hd1
        refine ⟨_, rfl, c, C, dx, _, _, rfl, sd _ _ hc1, T.cl, T.nC, lk_ch, td, kvE es, rfl, Rd.of (sd _ _ cp1.td), ne_of_none cp1.td hd1, upd_same, (by unfold kvE; rw [List.length_map]; omega), fun b hb => ?_⟩
        have s4 : Same H1 (upd (upd H3 d (.dK [])) d (.dK (kvE es))) := same_off sd hd1
        have ed4 : (upd (upd H3 d (.dK [])) d (.dK (kvE es))) d = some (.dK (kvE es)) := upd_same
        have nxd : x ≠ d := ne_of_none ex3 hd
        have ntd : t ≠ d := ne_of_none et3 hd
        have ex4 : (upd (upd H3 d (.dK [])) d (.dK (kvE es))) x = some (.ins C dx2 (flds t td2 0)) := by rw [upd_ne nxd, upd_ne nxd]; exact ex3
        have et4 : (upd (upd H3 d (.dK [])) d (.dK (kvE es))) t = some (.tup ((es.map fun e => V.str e.1.1) ++ [V.str z])) := by rw [upd_ne ntd, upd_ne ntd]; exact et3
        generalize upd (upd H3 d (.dK [])) d (.dK (kvE es)) = H4 at s4 ed4 ex4 et4 hb
        have hb1 : H1 b = none := s4.free hb
        have sb := same_off (o := .dK []) s4 hb1
        refine ⟨_, rfl, _, rfl, _, rfl, c, C, dx, _, _, rfl, sb _ _ hc1, T.cl, T.nX, lk_next, (by show 2 ≤ sizeLine; decide), fun tp htp => ?_⟩
        have ndb : d ≠ b := ne_of_none ed4 hb
        have nxb : x ≠ b := ne_of_none ex4 hb
        have ntb : t ≠ b := ne_of_none et4 hb
        have eb5 : (upd H4 b (.dK [])) b = some (.dK []) := upd_same
        have ed5 : (upd H4 b (.dK [])) d = some (.dK (kvE es)) := (upd_ne ndb).trans ed4
        have ex5 : (upd H4 b (.dK [])) x = some (.ins C dx2 (flds t td2 0)) := (upd_ne nxb).trans ex4
        have et5 : (upd H4 b (.dK [])) t = some (.tup ((es.map fun e => V.str e.1.1) ++ [V.str z])) := (upd_ne ntb).trans et4
        generalize upd H4 b (.dK []) = H5 at sb eb5 ed5 ex5 et5 htp
        have ht5 : H1 tp = none := sb.free htp
        have n1 : tp ≠ d := (ne_of_none ed5 htp).symm
        have n2 : tp ≠ b := (ne_of_none eb5 htp).symm
        have n3 : tp ≠ x := (ne_of_none ex5 htp).symm
        have n4 : tp ≠ t := (ne_of_none et5 htp).symm
        have kput : putK (kvE es) (.inr z) (.ref tp) = kvE (es ++ [((z, m, nx), tp)]) := by
          rw [putK_new _ ((valV_kvE z es cp.nd).2 (hasB_none e2))]
          unfold kvE
          rw [List.map_append]
          rfl
        refine ⟨.inr z, .ref tp, rfl, (upd_ne (Ne.symm n1)).trans ed5, (upd_ne (Ne.symm n2)).trans eb5, _, rfl, x, C, dx2, flds t td2 0, rfl, ?_, T.cl, T.nC, (by show 3 < 1000; decide), ?_⟩
        · rw [upd_ne nxd, upd_ne nxb, upd_ne (Ne.symm n3)]
          exact ex5
        rw [pf_ch, kput]
        have s6 : Same H1 (upd (upd (upd (upd H5 tp (.tup [.int m, .int nx])) b (.dK [(.inr z, .ref tp)])) d (.dK (kvE (es ++ [((z, m, nx), tp)])))) x (.ins C dx2 (flds t d 0))) := same_off (same_off (same_off (same_off sb ht5) hb1) hd1) hx
        have ex6 : (upd (upd (upd (upd H5 tp (.tup [.int m, .int nx])) b (.dK [(.inr z, .ref tp)])) d (.dK (kvE (es ++ [((z, m, nx), tp)])))) x (.ins C dx2 (flds t d 0))) x = some (.ins C dx2 (flds t d 0)) := upd_same
        have ed6 : (upd (upd (upd (upd H5 tp (.tup [.int m, .int nx])) b (.dK [(.inr z, .ref tp)])) d (.dK (kvE (es ++ [((z, m, nx), tp)])))) x (.ins C dx2 (flds t d 0))) d = some (.dK (kvE (es ++ [((z, m, nx), tp)]))) := by
          rw [upd_ne (Ne.symm nxd)]
          exact upd_same
        have et6 : (upd (upd (upd (upd H5 tp (.tup [.int m, .int nx])) b (.dK [(.inr z, .ref tp)])) d (.dK (kvE (es ++ [((z, m, nx), tp)])))) x (.ins C dx2 (flds t d 0))) t = some (.tup ((es.map fun e => V.str e.1.1) ++ [V.str z])) := by
          rw [upd_ne (Ne.symm nxt), upd_ne ntd, upd_ne ntb, upd_ne (Ne.symm n4)]
          exact et5
        have ep6 : (upd (upd (upd (upd H5 tp (.tup [.int m, .int nx])) b (.dK [(.inr z, .ref tp)])) d (.dK (kvE (es ++ [((z, m, nx), tp)])))) x (.ins C dx2 (flds t d 0))) tp = some (.tup [.int m, .int nx]) := by
          rw [upd_ne n3, upd_ne n1, upd_ne n2]
          exact upd_same
        generalize upd (upd (upd (upd H5 tp (.tup [.int m, .int nx])) b (.dK [(.inr z, .ref tp)])) d (.dK (kvE (es ++ [((z, m, nx), tp)])))) x (.ins C dx2 (flds t d 0)) = H6 at s6 ex6 ed6 et6 ep6
        refine ⟨_, rfl, c, C, dx, _, _, rfl, s6 _ _ hc1, T.cl, T.nX, lk_next, _, _, rfl, rfl, _, rfl, x, C, dx2, _, rfl, ex6, T.cl, T.nX, (by show 3 < 1000; decide), _, rfl, ?_⟩
        rw [pf_next]
        have s7 := same_off (o := .ins C dx2 (flds t d (nx + 1))) s6 hx
        refine k e e2 x tp _ (s1.trans s7) (s1.free hx) ⟨dx2, t, d, upd_same, ?_, ?_, fun e3 m3 => ?_, nodup_snoc cp.nd e2, by rw [List.length_append]; show es.length + 1 ≤ 100; omega⟩
        · rw [upd_ne (Ne.symm nxt), et6, List.map_append]
          rfl
        · rw [upd_ne (Ne.symm nxd)]
          exact ed6
        · rcases List.mem_append.mp m3 with m3 | m3
          · exact s7 _ _ (cp1.at_ e3 m3)
          · cases List.mem_singleton.mp m3
            show upd H6 x _ tp = _
            rw [upd_ne n3]
            exact ep6
end
end R4

namespace R4
open PySem L2 L3
open C8 (pss_cut tCut pe_gc)
def dropE (z : Str) (es : List (Row × Addr)) : List (Row × Addr) := es.filter fun e => !decide (e.1.1 = z)
section
variable {P : Program} {w : World} {K : PySem.W.Frag} {mg : Str → Option Value} {base : Heap} {C CI CT CU fi ft fu : Addr}
def spWithout (C CU : Addr) : Sp := fun vs H Q E => ∃ (c : Addr) (z : Str) (nx : Int) (es : List (Row × Addr)), vs = [.ref c, .str z] ∧ ChAt C H c es nx ∧
  (hasB z es = false → ∀ d H', ErrNew H H' d z → E (.ref CU) (some d) H') ∧ (hasB z es = true → ∀ c' H', Same H H' → H c' = none → ChAt C H' c' (dropE z es) nx → Q (.ref c') H')
abbrev NW : List Str := ["self", "name", "made", "other"]
theorem scW : FnScope NW ["self", "name"] (defScope sWithout) := ⟨rfl, rfl, rfl, by decide +kernel, rfl, by decide +kernel, by decide +kernel⟩
theorem ok_without {f f0 : Addr} {fd fd0 : FuncData} (F : Fun K "without" "Choices.without" sWithout f fd) (T : Txt P K mg C CI CT CU fi ft fu) (M : Mk K C f0) (F0 : Fun K "__init__" "Choices.__init__" sInit f0 fd0) (b0 : Binds K fd0 ["self"] []) (zTup : mg "tuple" = none) :
    FnOk P w K mg base (L2.CX P w) 3 f fd ["self", "name"] (spWithout C CU) := by
  have GI : FnOk P w K mg base CX0 1 f0 fd0 ["self"] (spInit C) := ok_init F0 T
  refine F.okX scW (fun vs H Q E h => ?_) (fun cdv A outer s H vs Q E hr h => ?_)
  · obtain ⟨c, z, nx, es, rfl, _⟩ := h
    rfl
  · obtain ⟨c, z, nx, es, rfl, hc, kU, k⟩ := h
    have nd := scW.nd
    have hu := hu_of hr
    have R1 : Room 1 _ := hr.mono (by decide)
    have R2 : Room 2 _ := hr.mono (by decide)
    refine ⟨_, pss_cons (ps_if (pt_cmp (pc_dnotin hu (pv 1) (pe_fld (pv 0) rfl))) (pss_one (ps_raise rfl (takes_of rfl rfl rfl rfl) (pmk_err T.eU T.tU R1 (by exact rfl) (pa_cons (pv 1) pa_nil)))) pss_nil)
      (PSs.nox (pss_cons (ps_set (i := 2) nd rfl (.inl rfl) (pe_make0 M GI R2 (by rfl) T.gC b0 .nil pass0))
      (pss_cons (ps_fld (pv 2) (pe_callTy call_tuple_of (by rfl) zTup (by decide +kernel) (pa_cons (pe_lc (own := [("other", 3)]) (g := gName 3) rfl nd (pi_tup (pe_fld (pv 0) rfl)) (blkOk_by (N := NW) (sc := defScope sWithout) (by decide +kernel)) (fun _ _ _ _ _ => pg_name (i := 3) nd rfl (.inl rfl))
          (fun _ _ _ _ _ => pts_one (pt_cmpR op_ne (pv 3) (pv 1) (nomark _))) (fun _ _ _ _ _ => pv 3)) pa_nil)) rfl)
      (pss_cons (ps_fld (pv 2) (pe_dd (o0 := .dK []) (own := [("other", 3)]) (g := gName 3) (tt := tYes) (tv := tDGet (tFld K (tVar 0) "_choices") (tVar 3)) (.inl rfl) (by exact hr.units0) rfl nd (pi_tup (pe_fld (pv 2) rfl)) (blkOk_by (N := NW) (sc := defScope sWithout) (by decide +kernel)) (fun _ _ _ _ _ => pg_name (i := 3) nd rfl (.inl rfl)) (fun _ _ _ _ _ => pts_nil)
          (fun _ _ _ _ _ => pv 3) (fun _ _ _ _ _ => pe_dget hu (pe_fld (pv 0) rfl) (pv 3) (fun _ _ => rfl))) rfl)
      (pss_cons (ps_fld (pv 2) (pe_fld (pv 0) rfl) rfl)
      (pss_one (ps_ret (pv 2)))))))), ?_⟩
    obtain ⟨dx, tn, td, hcc, cp⟩ := hc
    have lsz := sizeLine_eq
    have hle := cp.le
    refine ⟨_, rfl, _, rfl, c, C, dx, _, _, rfl, hcc, T.cl, T.nC, lk_ch, td, _, rfl, DGet.k (k := .inr z) cp.td, _, rfl, ?_⟩
    rw [isSome_kvE cp.nd]
    cases e2 : hasB z es with
    | false => exact ifT rfl ⟨_, rfl, rfl, (by show 1 ≤ 900; decide), fun d hd => kU e2 d _ ⟨same_new hd, hd, upd_same⟩⟩
    | true =>
      refine ifF rfl fun x dx2 hx hdx ne => ⟨x, dx2, rfl, upd_same, fun H2 tn2 td2 keep ex cp2 h1 h2 => ⟨rfl, ?_⟩⟩
      have s2 : Same H H2 := fun b o eb => keep b o (ne_of_none eb hx) (by rw [upd_ne (ne_of_none eb hx), upd_ne (ne_of_none eb hdx)]; exact eb)
      have lt : ∀ l : List (Row × Addr), l.length ≤ es.length → ∀ j, (((l.take j).filter fun e => !decide (e.1.1 = z)).map fun e => V.str e.1.1).length < sizeLine := fun l hl j => by
        rw [List.length_map]
        refine Nat.lt_of_le_of_lt (List.length_filter_le _ _) ?_
        rw [List.length_take]
        omega
      -- the names that stay
      refine ⟨_, rfl, c, C, dx, _, _, rfl, s2 _ _ hcc, T.cl, T.nN, lk_names, tn, rfl, ⟨_, SqT.of (s2 _ _ cp.tn)⟩, fun D hD => lc_it walk_tup (fun j H' => H' = upd H2 D (.lst (((es.take j).filter fun e => !decide (e.1.1 = z)).map fun e => V.str e.1.1))) rfl (fun j H' _ h => by rw [h]; exact SqT.of (same_new hD _ _ (s2 _ _ cp.tn))) ?_ ?_⟩
      · rintro j y H3 H4 hj rfl ⟨rfl, hy⟩
        rw [List.getElem?_map] at hy
        obtain ⟨e, he, rfl⟩ := Option.map_eq_some_iff.mp hy
        refine ⟨rfl, _, rfl, _, rfl, rfl, _, rfl, ?_⟩
        have ft : ((es.take (j + 1)).filter fun e => !decide (e.1.1 = z)).map (fun e => V.str e.1.1) = ((es.take j).filter fun e => !decide (e.1.1 = z)).map (fun e => V.str e.1.1) ++ (if e.1.1 = z then [] else [V.str e.1.1]) := by
          rw [List.take_add_one, he, List.filter_append, List.map_append]
          congr 1
          by_cases q : e.1.1 = z <;> simp [q]
        by_cases q : e.1.1 = z
        · refine ifF (by rw [decide_eq_true (congrArg V.str q)]; rfl) ?_
          show upd H2 D _ = upd H2 D _
          rw [ft, if_pos q, List.append_nil]
        · refine ifT (by rw [decide_eq_false fun h => q (V.str.inj h)]; rfl) ⟨_, rfl, _, upd_same, lt es (Nat.le_refl _) j, ?_⟩
          rw [upd_two, ft, if_neg q]
      rintro H3 rfl
      rw [List.length_map, List.take_of_length_le (Nat.le_refl es.length)]
      have edr : ((es.filter fun e => !decide (e.1.1 = z)).map fun e => V.str e.1.1) = (dropE z es).map fun e => V.str e.1.1 := rfl
      rw [edr]
      have hD1 : H D = none := s2.free hD
      have nxD : x ≠ D := ne_of_none ex hD
      have ldr : (dropE z es).length ≤ es.length := List.length_filter_le _ _
      have ndr : ((dropE z es).map fun e => e.1.1).Nodup := (cp.nd).sublist (List.filter_sublist.map _)
      refine ⟨D, _, rfl, .inl ⟨SqL.of upd_same, fun t ht => ⟨_, rfl, x, C, dx2, flds tn2 td2 0, rfl, ?_, T.cl, T.nN, (by show 3 < 1000; decide), ?_⟩⟩⟩
      · have n : x ≠ t := fun q => by rw [← q, upd_ne nxD, ex] at ht; cases ht
        rw [upd_ne n, upd_ne nxD]
        exact ex
      rw [pf_names]
      have sD := same_off (o := .lst ((dropE z es).map fun e => V.str e.1.1)) s2 hD1
      have ht1 : H t = none := sD.free ht
      have nxt : x ≠ t := fun q => by rw [← q, upd_ne nxD, ex] at ht; cases ht
      have s3 : Same H (upd (upd (upd H2 D (.lst ((dropE z es).map fun e => V.str e.1.1))) t (.tup ((dropE z es).map fun e => V.str e.1.1))) x (.ins C dx2 (flds t td2 0))) := same_off (same_off sD ht1) hx
      have ex3 : (upd (upd (upd H2 D (.lst ((dropE z es).map fun e => V.str e.1.1))) t (.tup ((dropE z es).map fun e => V.str e.1.1))) x (.ins C dx2 (flds t td2 0))) x = some (.ins C dx2 (flds t td2 0)) := upd_same
      have et3 : (upd (upd (upd H2 D (.lst ((dropE z es).map fun e => V.str e.1.1))) t (.tup ((dropE z es).map fun e => V.str e.1.1))) x (.ins C dx2 (flds t td2 0))) t = some (.tup ((dropE z es).map fun e => V.str e.1.1)) := by
        rw [upd_ne (Ne.symm nxt)]
        exact upd_same
      generalize upd (upd (upd H2 D (.lst ((dropE z es).map fun e => V.str e.1.1))) t (.tup ((dropE z es).map fun e => V.str e.1.1))) x (.ins C dx2 (flds t td2 0)) = H3 at s3 ex3 et3
      -- the dict of those that stay
      refine ⟨_, rfl, x, C, dx2, _, _, rfl, ex3, T.cl, T.nN, lk_names, t, rfl, ⟨_, SqT.of et3⟩, fun B hB => dd_it walk_tup (fun j H' => H' = upd H3 B (.dK (kvE ((dropE z es).take j)))) rfl (fun j H' _ h => by rw [h]; exact SqT.of (same_new hB _ _ et3)) ?_ ?_⟩
      · rintro j y H4 H5 hj rfl ⟨rfl, hy⟩
        rw [List.getElem?_map] at hy
        obtain ⟨e, he, rfl⟩ := Option.map_eq_some_iff.mp hy
        have me : e ∈ dropE z es := List.mem_of_getElem? he
        have me0 : e ∈ es := (List.mem_filter.mp me).1
        have sB := same_off (o := .dK (kvE ((dropE z es).take j))) s3 (s3.free hB)
        have g := DGet.k (k := .inr e.1.1) (sB _ _ cp.td)
        rw [(valV_kvE e.1.1 es cp.nd).1 e me0 rfl] at g
        have nj : ((dropE z es).take j).length ≤ 100 := by rw [List.length_take]; omega
        refine ⟨rfl, _, rfl, _, rfl, c, C, dx, _, _, rfl, sB _ _ hcc, T.cl, T.nC, lk_ch, _, rfl, td, .ref e.2, rfl, g, _, DPut.k (k := .inr e.1.1) upd_same (by unfold kvE; rw [List.length_map]; omega), ?_⟩
        rw [upd_two, List.take_add_one, he]
        have nin : ∀ e' ∈ (dropE z es).take j, e'.1.1 ≠ e.1.1 := fun e' m' q => by
          have nd2 : ((dropE z es).map fun e => e.1.1).Nodup := ndr
          obtain ⟨i1, h1, rfl⟩ := List.getElem_of_mem m'
          rw [List.length_take] at h1
          rw [List.getElem_take] at q
          have hj2 : j < (dropE z es).length := (List.getElem?_eq_some_iff.mp he).1
          have ej : (dropE z es)[j] = e := (List.getElem?_eq_some_iff.mp he).2
          have pw := List.pairwise_iff_getElem.mp nd2 i1 j (by rw [List.length_map]; omega) (by rw [List.length_map]; omega) (by omega)
          rw [List.getElem_map, List.getElem_map, ej] at pw
          exact pw q
        have ndj : (((dropE z es).take j).map fun e => e.1.1).Nodup := ndr.sublist ((List.take_sublist _ _).map _)
        rw [putK_new _ ((valV_kvE e.1.1 _ ndj).2 nin)]
        show upd H3 B (.dK (kvE ((dropE z es).take j) ++ [(.inr e.1.1, .ref e.2)])) = upd H3 B (.dK (kvE ((dropE z es).take j ++ [e])))
        unfold kvE
        rw [List.map_append]
        rfl
      rintro H4 rfl
      rw [List.length_map, List.take_of_length_le (Nat.le_refl (dropE z es).length)]
      have hB1 : H B = none := s3.free hB
      have nxB : x ≠ B := ne_of_none ex3 hB
      have ntB : t ≠ B := ne_of_none et3 hB
      refine ⟨_, rfl, x, C, dx2, flds t td2 0, rfl, (upd_ne nxB).trans ex3, T.cl, T.nC, (by show 3 < 1000; decide), ?_⟩
      rw [pf_ch]
      have s5 := same_off (o := .ins C dx2 (flds t B 0)) (same_off (o := .dK (kvE (dropE z es))) s3 hB1) hx
      refine ⟨_, rfl, c, C, dx, _, _, rfl, s5 _ _ hcc, T.cl, T.nX, lk_next, _, rfl, x, C, dx2, flds t B 0, rfl, upd_same, T.cl, T.nX, (by show 3 < 1000; decide), _, rfl, ?_⟩
      rw [pf_next]
      have s6 := same_off (o := .ins C dx2 (flds t B nx)) s5 hx
      refine k e2 x _ s6 hx ⟨dx2, t, B, upd_same, ?_, ?_, fun e m => s6 _ _ (cp.at_ e (List.mem_filter.mp m).1), ndr, by omega⟩
      · rw [upd_ne (Ne.symm nxt), upd_ne (Ne.symm nxt), upd_ne ntB]
        exact et3
      · rw [upd_ne (Ne.symm nxB), upd_ne (Ne.symm nxB)]
        exact upd_same
end
end R4

namespace R4
open PySem L2 L3
open C8 (pss_cut tCut pe_gc)
def rowB (es : List (Row × Addr)) (r : Row) : Bool := es.any fun e => decide (e.1 = r)
/-- the same names with the same options and numbers -/
def eqB (es gs : List (Row × Addr)) : Bool := (es.length == gs.length) && es.all fun e => rowB gs e.1
structure TxE (K : PySem.W.Frag) (mg : Str → Option Value) (C : Addr) : Prop where
  cA : PySem.W.findIn K (.ref C) "__class__" = some (some (.builtin "object.__class__"))
  cG : PySem.W.specialIn K (.builtin "object.__class__") "__get__" = some (some (.builtin "getset_descriptor.__get__"))
  cT : PySem.W.takesIn K (.builtin "object.__class__") = some true
  cM : PySem.W.mroIn K C (.type "object") = some true
  kCC : PySem.W.kitOne K (.ref C) (.ref C) = some true
  kL : PySem.W.kitOne K (.type "list") (.ref C) = some false
  zIsi : mg "isinstance" = none
  zLen : mg "len" = none
section
variable {P : Program} {w : World} {K : PySem.W.Frag} {mg : Str → Option Value} {base : Heap} {C CI CT CU fi ft fu : Addr}
/-- choices[name] (j = 0), choices.number(name) (j = 1) -/
def rowI (j : Nat) (r : Row) : Int := if j = 0 then r.2.1 else r.2.2
def spGet (j : Nat) (C CU : Addr) : Sp := fun vs H Q E => ∃ (c : Addr) (z : Str) (nx : Int) (es : List (Row × Addr)), vs = [.ref c, .str z] ∧ ChAt C H c es nx ∧
  (hasB z es = false → ∀ d H', ErrNew H H' d z → E (.ref CU) (some d) H') ∧ (∀ e ∈ es, e.1.1 = z → Q (.int (rowI j e.1)) H)
theorem scG : FnScope ["self", "name"] ["self", "name"] (defScope sGet) := ⟨rfl, rfl, rfl, by decide +kernel, rfl, by decide +kernel, by decide +kernel⟩
theorem scN : FnScope ["self", "name"] ["self", "name"] (defScope sNumber) := ⟨rfl, rfl, rfl, by decide +kernel, rfl, by decide +kernel, by decide +kernel⟩
theorem ok_get {f : Addr} {fd : FuncData} (F : Fun K "__getitem__" "Choices.__getitem__" sGet f fd) (T : Txt P K mg C CI CT CU fi ft fu) : FnOk P w K mg base (L2.CX P w) 2 f fd ["self", "name"] (spGet 0 C CU) := by
  refine F.okX scG (fun vs H Q E h => ?_) (fun cdv A outer s H vs Q E hr h => ?_)
  · obtain ⟨c, z, nx, es, rfl, _⟩ := h
    rfl
  · obtain ⟨c, z, nx, es, rfl, hc, kU, k⟩ := h
    have hu := hu_of hr
    refine ⟨_, pss_cons (ps_if (pt_cmp (pc_dnotin hu (pv 1) (pe_fld (pv 0) rfl))) (pss_one (ps_raise rfl (takes_of rfl rfl rfl rfl) (pmk_err T.eU T.tU hr (by exact rfl) (pa_cons (pv 1) pa_nil)))) pss_nil)
      (PSs.nox (pss_one (ps_ret (pe_ix ix_tup (pe_dget hu (pe_fld (pv 0) rfl) (pv 1) (fun _ _ => rfl)) pe_int (fun _ _ => rfl))))), ?_⟩
    obtain ⟨dx, tn, td, hcc, cp⟩ := hc
    refine ⟨_, rfl, _, rfl, c, C, dx, _, _, rfl, hcc, T.cl, T.nC, lk_ch, td, _, rfl, DGet.k (k := .inr z) cp.td, _, rfl, ?_⟩
    rw [isSome_kvE cp.nd]
    cases e2 : hasB z es with
    | false => exact ifT rfl ⟨_, rfl, rfl, (by show 1 ≤ 900; decide), fun d hd => kU e2 d _ ⟨same_new hd, hd, upd_same⟩⟩
    | true =>
      obtain ⟨e, me, ez⟩ := hasB_some e2
      have g := DGet.k (k := .inr z) cp.td
      rw [(valV_kvE z es cp.nd).1 e me ez] at g
      exact ifF rfl ⟨_, rfl, c, C, dx, _, _, rfl, hcc, T.cl, T.nC, lk_ch, _, rfl, td, .ref e.2, rfl, g, e.2, _, _, .int e.1.2.1, rfl, rfl, SqT.of (cp.at_ e me), atN (j := 0) rfl rfl, k e me ez⟩
theorem ok_number {f : Addr} {fd : FuncData} (F : Fun K "number" "Choices.number" sNumber f fd) (T : Txt P K mg C CI CT CU fi ft fu) : FnOk P w K mg base (L2.CX P w) 2 f fd ["self", "name"] (spGet 1 C CU) := by
  refine F.okX scN (fun vs H Q E h => ?_) (fun cdv A outer s H vs Q E hr h => ?_)
  · obtain ⟨c, z, nx, es, rfl, _⟩ := h
    rfl
  · obtain ⟨c, z, nx, es, rfl, hc, kU, k⟩ := h
    have hu := hu_of hr
    refine ⟨_, pss_cons (ps_if (pt_cmp (pc_dnotin hu (pv 1) (pe_fld (pv 0) rfl))) (pss_one (ps_raise rfl (takes_of rfl rfl rfl rfl) (pmk_err T.eU T.tU hr (by exact rfl) (pa_cons (pv 1) pa_nil)))) pss_nil)
      (PSs.nox (pss_one (ps_ret (pe_ix ix_tup (pe_dget hu (pe_fld (pv 0) rfl) (pv 1) (fun _ _ => rfl)) pe_int (fun _ _ => rfl))))), ?_⟩
    obtain ⟨dx, tn, td, hcc, cp⟩ := hc
    refine ⟨_, rfl, _, rfl, c, C, dx, _, _, rfl, hcc, T.cl, T.nC, lk_ch, td, _, rfl, DGet.k (k := .inr z) cp.td, _, rfl, ?_⟩
    rw [isSome_kvE cp.nd]
    cases e2 : hasB z es with
    | false => exact ifT rfl ⟨_, rfl, rfl, (by show 1 ≤ 900; decide), fun d hd => kU e2 d _ ⟨same_new hd, hd, upd_same⟩⟩
    | true =>
      obtain ⟨e, me, ez⟩ := hasB_some e2
      have g := DGet.k (k := .inr z) cp.td
      rw [(valV_kvE z es cp.nd).1 e me ez] at g
      exact ifF rfl ⟨_, rfl, c, C, dx, _, _, rfl, hcc, T.cl, T.nC, lk_ch, _, rfl, td, .ref e.2, rfl, g, e.2, _, _, .int e.1.2.2, rfl, rfl, SqT.of (cp.at_ e me), atN (j := 1) rfl rfl, k e me ez⟩
def spHas (C : Addr) : Sp := fun vs H Q _ => ∃ (c : Addr) (z : Str) (nx : Int) (es : List (Row × Addr)), vs = [.ref c, .str z] ∧ ChAt C H c es nx ∧ Q (.bl (hasB z es)) H
theorem scHa : FnScope ["self", "name"] ["self", "name"] (defScope sHas) := ⟨rfl, rfl, rfl, by decide +kernel, rfl, by decide +kernel, by decide +kernel⟩
theorem ok_has {f : Addr} {fd : FuncData} (F : Fun K "__contains__" "Choices.__contains__" sHas f fd) (T : Txt P K mg C CI CT CU fi ft fu) : FnOk P w K mg base CX0 1 f fd ["self", "name"] (spHas C) := by
  refine F.ok scHa (fun vs H Q E h => ?_) (fun cdv A outer s H vs Q E hr h => ?_)
  · obtain ⟨c, z, nx, es, rfl, _⟩ := h
    rfl
  · obtain ⟨c, z, nx, es, rfl, hc, k⟩ := h
    have hu := hu_of hr
    refine ⟨_, pss_one (ps_ret (pe_cmp (pc_din hu (pv 1) (pe_fld (pv 0) rfl)) rfl)), ?_⟩
    obtain ⟨dx, tn, td, hcc, cp⟩ := hc
    refine ⟨_, rfl, _, rfl, c, C, dx, _, _, rfl, hcc, T.cl, T.nC, lk_ch, td, _, rfl, DGet.k (k := .inr z) cp.td, ?_⟩
    rw [isSome_kvE cp.nd]
    exact k
def spLen (C : Addr) : Sp := fun vs H Q _ => ∃ (c : Addr) (nx : Int) (es : List (Row × Addr)), vs = [.ref c] ∧ ChAt C H c es nx ∧ Q (.int es.length) H
theorem scLe : FnScope ["self"] ["self"] (defScope sLen) := ⟨rfl, rfl, rfl, by decide +kernel, rfl, by decide +kernel, by decide +kernel⟩
theorem ok_len {f : Addr} {fd : FuncData} (F : Fun K "__len__" "Choices.__len__" sLen f fd) (T : Txt P K mg C CI CT CU fi ft fu) (zLen : mg "len" = none) : FnOk P w K mg base CX0 1 f fd ["self"] (spLen C) := by
  refine F.ok scLe (fun vs H Q E h => ?_) (fun cdv A outer s H vs Q E hr h => ?_)
  · obtain ⟨c, nx, es, rfl, _⟩ := h
    rfl
  · obtain ⟨c, nx, es, rfl, hc, k⟩ := h
    refine ⟨_, pss_one (ps_ret (pe_callB call_len_seq (by rfl) zLen PySem.boot_len (pa_cons (pe_fld (pv 0) rfl) pa_nil))), ?_⟩
    obtain ⟨dx, tn, td, hcc, cp⟩ := hc
    refine ⟨_, rfl, c, C, dx, _, _, rfl, hcc, T.cl, T.nN, lk_names, tn, _, rfl, .inr (SqT.of cp.tn), ?_⟩
    rw [List.length_map]
    exact k
/-! ### == -/
def encR (es gs : List (Row × Addr)) : V → PyData
  | .ref p => match (es ++ gs).find? fun e => decide (e.2 = p) with
    | some e => .tuple [.int e.1.2.1, .int e.1.2.2]
    | none => .none
  | _ => .none
theorem encR_of {H : Hp} {es gs : List (Row × Addr)} (h : ∀ e ∈ es ++ gs, H e.2 = some (.tup [.int e.1.2.1, .int e.1.2.2])) {e : Row × Addr} (m : e ∈ es ++ gs) : encR es gs (.ref e.2) = .tuple [.int e.1.2.1, .int e.1.2.2] := by
  have q00 : encR es gs (.ref e.2) = (match (es ++ gs).find? fun e' => decide (e'.2 = e.2) with
    | some e => PyData.tuple [.int e.1.2.1, .int e.1.2.2]
    | none => .none) := rfl
  rw [q00]
  cases q : (es ++ gs).find? fun e' => decide (e'.2 = e.2) with
  | none => exact absurd (List.find?_eq_none.mp q e m) (by simp)
  | some e' =>
    have m' := List.mem_of_find?_eq_some q
    have q0 : decide (e'.2 = e.2) = true := List.find?_some (p := fun e' : Row × Addr => decide (e'.2 = e.2)) q
    have q1 := of_decide_eq_true q0
    have h1 := h e m
    have h2 := h e' m'
    rw [q1, h1] at h2
    injection h2 with h2
    injection h2 with h2
    injection h2 with h3 h4
    injection h4 with h4 _
    show PyData.tuple [.int e'.1.2.1, .int e'.1.2.2] = _
    rw [V.int.inj h3, V.int.inj h4]
theorem canLay2 (a b : Int) : (PyData.tuple [.int a, .int b]).canLay0 = true := by
  simp [PyData.canLay0, PyData.canLayAll0]
theorem eqv_rows (a b c d : Int) : PyData.eqv (.tuple [.int a, .int b]) (.tuple [.int c, .int d]) = decide ((a, b) = (c, d)) := by
  show ((a == c) && ((b == d) && true)) = _
  by_cases h1 : a = c <;> by_cases h2 : b = d <;> simp [h1, h2]
theorem hits_eq {H : Hp} {es0 gs : List (Row × Addr)} (h : ∀ e ∈ es0 ++ gs, H e.2 = some (.tup [.int e.1.2.1, .int e.1.2.2])) (nd : (gs.map fun e => e.1.1).Nodup) : ∀ es : List (Row × Addr), (∀ e ∈ es, e ∈ es0) → hitsB (encR es0 gs) (kvE gs) (kvE es) = es.all fun e => rowB gs e.1
  | [], _ => rfl
  | e :: es, hs => by
    have ih := hits_eq h nd es fun e' m => hs e' (List.mem_cons_of_mem _ m)
    have e1 : encR es0 gs (.ref e.2) = .tuple [.int e.1.2.1, .int e.1.2.2] := encR_of h (List.mem_append_left _ (hs e List.mem_cons_self))
    show (match valV (kvE gs) (.inr e.1.1) with | none => false | some y => PyData.eqv (encR es0 gs (.ref e.2)) (encR es0 gs y) && hitsB (encR es0 gs) (kvE gs) (kvE es)) = _
    rw [List.all_cons, ih, e1]
    obtain ⟨i1, i2⟩ := valV_kvE e.1.1 gs nd
    cases q : hasB e.1.1 gs with
    | false =>
      rw [i2 (hasB_none q)]
      have : rowB gs e.1 = false := by
        unfold rowB
        rw [List.any_eq_false]
        exact fun g mg z => hasB_none q g mg (congrArg (·.1) (of_decide_eq_true z))
      rw [this]
      rfl
    | true =>
      obtain ⟨g, mg, eg⟩ := hasB_some q
      rw [i1 g mg eg]
      have e2 : encR es0 gs (.ref g.2) = .tuple [.int g.1.2.1, .int g.1.2.2] := encR_of h (List.mem_append_right _ mg)
      show (PyData.eqv _ (encR es0 gs (.ref g.2)) && _) = _
      rw [e2, eqv_rows]
      have : rowB gs e.1 = decide ((e.1.2.1, e.1.2.2) = (g.1.2.1, g.1.2.2)) := by
        unfold rowB
        by_cases z : (e.1.2.1, e.1.2.2) = (g.1.2.1, g.1.2.2)
        · rw [decide_eq_true z, List.any_eq_true]
          refine ⟨g, mg, decide_eq_true ?_⟩
          obtain ⟨⟨a, b, c⟩, p⟩ := e
          obtain ⟨⟨a', b', c'⟩, p'⟩ := g
          obtain rfl : a' = a := eg
          injection z with z1 z2
          have z1 : b = b' := z1
          have z2 : c = c' := z2
          rw [z1, z2]
        · rw [decide_eq_false z, List.any_eq_false]
          intro g' mg' zz
          have eq1 : g'.1 = e.1 := of_decide_eq_true zz
          have same : g' = g := by
            have n1 : g'.1.1 = g.1.1 := (congrArg (·.1) eq1).trans eg.symm
            obtain ⟨a1, h1, r1⟩ := List.getElem_of_mem mg'
            obtain ⟨a2, h2, r2⟩ := List.getElem_of_mem mg
            have pw := List.pairwise_iff_getElem.mp nd
            rcases Nat.lt_trichotomy a1 a2 with l | l | l
            · refine absurd ?_ (pw a1 a2 (by rw [List.length_map]; exact h1) (by rw [List.length_map]; exact h2) l)
              rw [List.getElem_map, List.getElem_map, r1, r2]
              exact n1
            · subst l
              exact r1.symm.trans r2
            · refine absurd ?_ (pw a2 a1 (by rw [List.length_map]; exact h2) (by rw [List.length_map]; exact h1) l)
              rw [List.getElem_map, List.getElem_map, r1, r2]
              exact n1.symm
          rw [same] at eq1
          exact z (by rw [eq1])
      rw [this]
def spEq (C : Addr) : Sp := fun vs H Q _ => ∃ (c : Addr) (y : V) (nx : Int) (es : List (Row × Addr)), vs = [.ref c, y] ∧ ChAt C H c es nx ∧
  ((∃ c2 nx2 gs, y = .ref c2 ∧ ChAt C H c2 gs nx2 ∧ Q (.bl (eqB es gs)) H) ∨ (∃ l xs, y = .ref l ∧ H l = some (.lst xs) ∧ Q (.bl false) H))
theorem scEq : FnScope ["self", "other"] ["self", "other"] (defScope sEq) := ⟨rfl, rfl, rfl, by decide +kernel, rfl, by decide +kernel, by decide +kernel⟩
theorem ok_eq {f : Addr} {fd : FuncData} (F : Fun K "__eq__" "Choices.__eq__" sEq f fd) (T : Txt P K mg C CI CT CU fi ft fu) (TE : TxE K mg C) : FnOk P w K mg base CX0 1 f fd ["self", "other"] (spEq C) := by
  refine F.ok scEq (fun vs H Q E h => ?_) (fun cdv A outer s H vs Q E hr h => ?_)
  · obtain ⟨c, y, nx, es, rfl, _⟩ := h
    rfl
  · obtain ⟨c, y, nx, es, rfl, hc, k⟩ := h
    refine ⟨_, pss_one (ps_ret (pe_and (pe_callB call_isi (by rfl) TE.zIsi PyProof.Rows.boot_isinstance (pa_cons (pv 1) (pa_cons (pe_glob (v := .ref C) rfl T.gC rfl) pa_nil)))
      (pe_one (pe_cmpR (op_eqDD hr.units) (pe_fld (pv 0) rfl) (pe_fld (pv 1) rfl) (nomark _))))), ?_⟩
    obtain ⟨dx, tn, td, hcc, cp⟩ := hc
    rcases k with ⟨c2, nx2, gs, rfl, ⟨dx2, tn2, td2, hc2, cp2⟩, k⟩ | ⟨l, xs, rfl, hl, k⟩
    · refine ⟨_, rfl, _, _, _, _, true, rfl, .own C, .base (.ins hc2 T.cl TE.cA TE.cG TE.cT TE.cM), TE.kCC, _, rfl, iteT ?_⟩
      refine ⟨_, rfl, c, C, dx, _, _, rfl, hcc, T.cl, T.nC, lk_ch, _, rfl, c2, C, dx2, _, _, rfl, hc2, T.cl, T.nC, lk_ch, td, td2, kvE es, kvE gs, encR es gs, rfl, rfl, Rd.of cp.td, Rd.of cp2.td, fun p m => ?_, fun p m => ?_, ?_⟩
      · obtain ⟨e, me, rfl⟩ := List.mem_map.mp m
        have all : ∀ e ∈ es ++ gs, H e.2 = some (.tup [.int e.1.2.1, .int e.1.2.2]) := fun e m => (List.mem_append.mp m).elim (cp.at_ e) (cp2.at_ e)
        show Dp K H (.ref e.2) (encR es gs (.ref e.2)) ∧ (encR es gs (.ref e.2)).canLay0 = true ∧ (encR es gs (.ref e.2)).depth ≤ 10
        rw [encR_of all (List.mem_append_left _ me)]
        exact ⟨.tup (SqT.of (cp.at_ e me)) (.cons (.int _) (.cons (.int _) .nil)), canLay2 _ _, by simp only [PyData.depth, PyData.depthAll]; omega⟩
      · obtain ⟨e, me, rfl⟩ := List.mem_map.mp m
        have all : ∀ e ∈ es ++ gs, H e.2 = some (.tup [.int e.1.2.1, .int e.1.2.2]) := fun e m => (List.mem_append.mp m).elim (cp.at_ e) (cp2.at_ e)
        show Dp K H (.ref e.2) (encR es gs (.ref e.2)) ∧ (encR es gs (.ref e.2)).canLay0 = true
        rw [encR_of all (List.mem_append_right _ me)]
        exact ⟨.tup (SqT.of (cp2.at_ e me)) (.cons (.int _) (.cons (.int _) .nil)), canLay2 _ _⟩
      · have all : ∀ e ∈ es ++ gs, H e.2 = some (.tup [.int e.1.2.1, .int e.1.2.2]) := fun e m => (List.mem_append.mp m).elim (cp.at_ e) (cp2.at_ e)
        rw [hits_eq all cp2.nd es fun e m => m]
        unfold kvE
        rw [List.length_map, List.length_map]
        exact k
    · exact ⟨_, rfl, _, _, _, _, false, rfl, .own C, .base (.lst hl), TE.kL, _, rfl, iteF k⟩
end
end R4

namespace R4
open PySem L2 L3
open C8 (pss_cut tCut pe_gc)
abbrev sSame : Stmt := top 20
abbrev sStep : Stmt := top 21
abbrev sUnk : Stmt := top 22
abbrev sRight : Stmt := top 23
abbrev sOdd : Stmt := top 24
abbrev sLaw : Stmt := top 25
/-! ### a good title -/
structure OkT (t : Str) : Prop where
  le : t.length ≤ 6
  rp : (reprText t).length ≤ 1000
  ok : PyData.strOk t = true
  ch : isChS t = true
  odd : ∀ j, j < 8 → (oddS j t).length ≤ 100 ∧ PyData.strOk (oddS j t) = true ∧ isChS (oddS j t) = false
  nv : t ≠ Str.ofString "never"
  ne : t ≠ Str.ofString ""
theorem okT_of {t : Str} (h : okT t = true) : OkT t := by
  unfold okT at h
  simp only [Bool.and_eq_true, decide_eq_true_eq, Bool.not_eq_true', decide_eq_false_iff_not, List.all_eq_true, List.mem_range, okO] at h
  obtain ⟨h1, h2, h3, h4, h5, h6, h7⟩ := h
  exact ⟨h1, h2, h3, h4, h5, h6, h7⟩
theorem str_all {ts : List Str} (h : ∀ t ∈ ts, (reprText t).length ≤ 1000) : PyData.showableAll (ts.map PyData.str) = true ∧ PyData.hasDictAll (ts.map PyData.str) = false ∧ PyData.depthAll (ts.map PyData.str) ≤ 1 ∧ PySem.piled (PyData.shownAll (ts.map PyData.str)) ≤ 1002 * ts.length := by
  induction ts with
  | nil => exact ⟨rfl, rfl, Nat.zero_le _, Nat.le_refl _⟩
  | cons t ts ih =>
    obtain ⟨i1, i2, i3, i4⟩ := ih fun u m => h u (List.mem_cons_of_mem _ m)
    have l := h t List.mem_cons_self
    rw [List.map_cons]
    refine ⟨?_, ?_, ?_, ?_⟩
    · rw [PyData.showableAll, i1, PyData.showable]; rfl
    · rw [PyData.hasDictAll, i2, PyData.hasDict]; rfl
    · rw [PyData.depthAll, PyData.depth]; omega
    · rw [PyData.shownAll, PySem.piled_cons, List.length_cons, PyData.shown_str]; omega
theorem fine_strs {ts : List Str} (hl : ts.length ≤ 1000) (h : ∀ t ∈ ts, (reprText t).length ≤ 1000) : Fine (.tuple (ts.map PyData.str)) := by
  obtain ⟨i1, i2, i3, i4⟩ := str_all h
  refine ⟨by rw [PyData.showable]; exact i1, by rw [PyData.hasDict]; exact i2, by rw [PyData.depth]; omega, ?_⟩
  rw [PyData.shown_tuple, len_app, len_app]
  have e1 : (Str.ofString "(").length = 1 := rfl
  have e2 : (Str.ofString (if (ts.map PyData.str).length == 1 then ",)" else ")")).length ≤ 2 := by split <;> decide
  have e0 := sizeLine_eq
  by_cases q : PyData.shownAll (ts.map PyData.str) = []
  · rw [q]
    show 1 + 0 + (Str.ofString _).length ≤ sizeLine
    omega
  · have := PySem.join_length_add _ q
    show 1 + (Str.join ", " (PyData.shownAll (ts.map PyData.str))).length + (Str.ofString _).length ≤ sizeLine
    omega
theorem dpAll_strs {K : PySem.W.Frag} {H : Hp} : ∀ ts : List Str, DpAll K H (ts.map V.str) (ts.map PyData.str)
  | [] => .nil
  | t :: ts => .cons (.str t) (dpAll_strs ts)
section
variable {P : Program} {w : World} {K : PySem.W.Frag} {mg : Str → Option Value} {base : Heap} {C CI CT CU fi ft fu : Addr}
theorem scSm : FnScope ["_law_one", "_law_other"] ["_law_one", "_law_other"] (defScope sSame) := ⟨rfl, rfl, rfl, by decide +kernel, rfl, by decide +kernel, by decide +kernel⟩
theorem ok_same {f : Addr} {fd : FuncData} (F : Fun K "_law_same" "_law_same" sSame f fd) (zRepr : mg "repr" = none) : FnG P w K mg base CX0 1 f fd ["_law_one", "_law_other"] (spSame K) := by
  refine gok F scSm (fun vs H Q E h => ?_) (fun cdv A outer s H vs Q E g hr h => ?_)
  · obtain ⟨x, y, d, e, rfl, _⟩ := h
    rfl
  · obtain ⟨x, y, d, e, rfl, h1, h2, f1, f2, k⟩ := h
    have hu := hr.units
    refine ⟨_, pss_one (ps_ret (pe_cmpR op_eq (pe_callB (call_repr g hu) (by rfl) zRepr PyProof.Rows.boot_repr (pa_cons (pv 0) pa_nil)) (pe_callB (call_repr g hu) (by rfl) zRepr PyProof.Rows.boot_repr (pa_cons (pv 1) pa_nil)) (nomark _))), ?_⟩
    exact ⟨_, rfl, _, d, rfl, h1, f1, _, rfl, _, e, rfl, h2, f2, rfl, k⟩
/-! ### what is nearly a title -/
def spOdd : Sp := fun vs H Q _ => ∃ (a : Addr) (t : Str), vs = [.ref a, .str t] ∧ FeedAt H a ∧ t.length ≤ 6 ∧ ∀ (j : Nat) (H' : Hp), j < 8 → Dr a H H' → Q (.str (oddS j t)) H'
theorem scOd : FnScope ["_law_feed_here", "_law_title"] ["_law_feed_here", "_law_title"] (defScope sOdd) := ⟨rfl, rfl, rfl, by decide +kernel, rfl, by decide +kernel, by decide +kernel⟩
theorem ok_odd {f fT : Addr} {fd fdT : FuncData} (F : Fun K "_law_odd" "_law_odd" sOdd f fd) (FT : Fun K "_law_take" "_law_take" sTake fT fdT) (bT : Binds K fdT ["_law_feed_here", "_law_many"] []) (gT : mg "_law_take" = some (.ref fT)) :
    FnOk P w K mg base CX0 2 f fd ["_law_feed_here", "_law_title"] spOdd := by
  have GT : FnOk P w K mg base CX0 1 fT fdT ["_law_feed_here", "_law_many"] spTake := ok_take FT
  refine F.ok scOd (fun vs H Q E h => ?_) (fun cdv A outer s H vs Q E hr h => ?_)
  · obtain ⟨a, t, rfl, _⟩ := h
    rfl
  · obtain ⟨a, t, rfl, hf, ht, k⟩ := h
    refine ⟨_, pss_one (ps_ret (pe_ix ix_list (pe_lst (pa_cons (pe_op op_add_str (pv 1) pe_str) (pa_cons pe_str (pa_cons (pe_op op_add_str pe_str (pe_slice sl_str (pv 1) po_none (po_some pe_int))) (pa_cons (pe_op op_add_str (pv 1) pe_str)
      (pa_cons (pe_op op_add_str pe_str (pv 1)) (pa_cons (pe_op op_add_str (pv 1) pe_str) (pa_cons (pe_op op_add_str (pv 1) pe_str) (pa_cons (pe_op op_add_str (pe_slice sl_str (pv 1) po_none (po_some pe_int)) pe_str) pa_nil)))))))))
      (pe_call GT hr (by rfl) gT FT.kp bT .nil pass0 (pa_cons (pv 0) (pa_cons pe_int pa_nil))) (fun _ _ => rfl))), ?_⟩
    have ts : t.length ≤ sizeLine := size_ok (by omega)
    have lsl := sizeLine_eq
    have c2 := J1.cutS_len_le t none (some 2)
    have c1 := J1.cutS_len_le t none (some 1)
    have q1 : (Str.ofString "A").length = 1 := by decide +kernel
    have q2 : (Str.ofString "1").length = 1 := by decide +kernel
    have q3 : (Str.ofString ".").length = 1 := by decide +kernel
    have q4 : (Str.ofString ".01").length = 3 := by decide +kernel
    have q5 : (Str.ofString " ").length = 1 := by decide +kernel
    have q6 : (Str.ofString "-").length = 1 := by decide +kernel
    refine ⟨_, rfl, _, _, rfl, rfl, ?_, _, rfl, _, rfl, t, rfl, ts, _, _, rfl, rfl, ?_, _, rfl, _, _, rfl, rfl, ?_, _, rfl, _, _, rfl, rfl, ?_, _, rfl, _, _, rfl, rfl, ?_, _, rfl, _, _, rfl, rfl, ?_, _, rfl, _, rfl, t, rfl, ts, _, _, rfl, rfl, ?_, (by show 8 ≤ sizeLine; decide), fun l hl => ?_⟩
    case' refine_8 =>
      have d0 : Dr a H H := ⟨hf, fun b o _ e => e⟩
      have d1 := dr_same d0 (same_new (o := .lst [.str (t ++ Str.ofString "A"), .str (Str.ofString ""), .str (Str.ofString "1" ++ cutS t none (some 2)), .str (t ++ Str.ofString "."), .str (Str.ofString "." ++ t), .str (t ++ Str.ofString ".01"), .str (t ++ Str.ofString " "), .str (cutS t none (some 1) ++ Str.ofString "-")]) hl)
      refine ⟨_, rfl, a, 8, rfl, d1.fd, (by decide), (by decide), fun r H1 r0 r1 d2 => ?_⟩
      obtain ⟨n, rfl⟩ : ∃ n : Nat, r = n := ⟨r.toNat, by omega⟩
      have n8 : n < 8 := by omega
      have nl : l ≠ a := fun z => by
        obtain ⟨x, y, hx, _⟩ := hf
        rw [z, hx] at hl
        cases hl
      have e1 := d2.sm _ _ nl upd_same
      refine ⟨l, _, _, .str (oddS n t), rfl, rfl, SqL.of e1, atI_nat ?_, k n _ n8 (d1.trans d2)⟩
      have hn : n = 0 ∨ n = 1 ∨ n = 2 ∨ n = 3 ∨ n = 4 ∨ n = 5 ∨ n = 6 ∨ n = 7 := by omega
      rcases hn with rfl | rfl | rfl | rfl | rfl | rfl | rfl | rfl <;> rfl
    all_goals
      simp only [len_app, q1, q2, q3, q4, q5, q6]
      omega
end
end R4

namespace R4
open PySem L2 L3
open C8 (pss_cut tCut pe_gc)
/-- which error is due -/
def due (form : Int) (z : Str) (es : List (Row × Addr)) : Option Str :=
  if form = 0 then (if isChS z then (if hasB z es then some (Str.ofString "taken") else none) else some (Str.ofString "invalid"))
  else (if hasB z es then none else some (Str.ofString "unknown"))
def rowsOf (es : List (Row × Addr)) : List Row := es.map (·.1)
/-- the rows behind the deed -/
def behind (form : Int) (z : Str) (m nx : Int) (rs : List Row) : List Row := if form = 0 then rs ++ [(z, m, nx)] else rs.filter fun r => !decide (r.1 = z)
theorem rows_drop (z : Str) (es : List (Row × Addr)) : rowsOf (dropE z es) = (rowsOf es).filter fun r => !decide (r.1 = z) := by
  unfold rowsOf dropE
  rw [List.filter_map]
  rfl
structure Cross (K : PySem.W.Frag) (CI CT CU : Addr) : Prop where
  ii : PySem.W.exmOne K (.ref CI) (.ref CI) = some true
  ti : PySem.W.exmOne K (.ref CT) (.ref CI) = some false
  tt : PySem.W.exmOne K (.ref CT) (.ref CT) = some true
  ui : PySem.W.exmOne K (.ref CU) (.ref CI) = some false
  ut : PySem.W.exmOne K (.ref CU) (.ref CT) = some false
  uu : PySem.W.exmOne K (.ref CU) (.ref CU) = some true
section
variable {P : Program} {w : World} {K : PySem.W.Frag} {mg : Str → Option Value} {base : Heap} {C CI CT CU fi ft fu : Addr}
def spStep (C : Addr) : Sp := fun vs H Q _ => ∃ (c : Addr) (form m nx : Int) (z : Str) (es : List (Row × Addr)), vs = [.ref c, .int form, .str z, .int m] ∧ ChAt C H c es nx ∧ z.length ≤ 1000 ∧ es.length < 100 ∧
  (∀ y, due form z es = some y → ∀ p H', Same H H' → H p = none → H' p = some (.tup [.str y, .str z]) → Q (.ref p) H') ∧
  (due form z es = none → ∀ c' es' p H', Same H H' → H c' = none → H p = none → ChAt C H' c' es' (if form = 0 then nx + 1 else nx) → rowsOf es' = behind form z m nx (rowsOf es) → H' p = some (.tup [.str (Str.ofString "done"), .ref c']) → Q (.ref p) H')
abbrev NS : List Str := ["_law_choices", "_law_form", "_law_title", "_law_many", "_law_found", "e"]
theorem scSt : FnScope NS ["_law_choices", "_law_form", "_law_title", "_law_many"] (defScope sStep) := ⟨rfl, rfl, rfl, by decide +kernel, rfl, by decide +kernel, by decide +kernel⟩
theorem ok_step {f fP fW : Addr} {fd fdP fdW : FuncData} (F : Fun K "_law_step" "_law_step" sStep f fd) (T : Txt P K mg C CI CT CU fi ft fu) (X : Cross K CI CT CU)
    (GP : FnOk P w K mg base (L2.CX P w) 3 fP fdP ["self", "name", "many"] (spPut C CI CT)) (mP : Meth K C "put" fP) (bP : Binds K fdP ["self", "name", "many"] [])
    (GW : FnOk P w K mg base (L2.CX P w) 3 fW fdW ["self", "name"] (spWithout C CU)) (mW : Meth K C "without" fW) (bW : Binds K fdW ["self", "name"] []) :
    FnOk P w K mg base CX0 4 f fd ["_law_choices", "_law_form", "_law_title", "_law_many"] (spStep C) := by
  refine F.ok scSt (fun vs H Q E h => ?_) (fun cdv A outer s H vs Q E hr h => ?_)
  · obtain ⟨c, form, m, nx, z, es, rfl, _⟩ := h
    rfl
  · obtain ⟨c, form, m, nx, z, es, rfl, hc, hz, hl, kd, kn⟩ := h
    have nd := scSt.nd
    have R2 : Room 2 _ := hr.mono (by decide)
    have R3 : Room 3 _ := hr.mono (by decide)
    refine ⟨_, pss_cons (ps_set (i := 4) nd rfl (.inl rfl) (pe_tup (pa_cons pe_str (pa_cons (pv 0) pa_nil))))
      (pss_cons (ps_tryCl (Wo := fun _ _ _ _ => False) rfl rfl nd takes0
          (fun W pn xe tk _ => pss_one (ps_set (i := 4) nd rfl (.inl rfl) (pe_tup (pa_cons pe_str (pa_cons (pe_ifExp (pt_cmpR op_eq (pv 1) pe_int (nomark _)) (pe_methX (pv 0) T.cl mP GP R3 bP (fun σ => passAt tk σ) (pa_cons (pv 2) (pa_cons (pv 3) pa_nil))) (pe_methX (pv 0) T.cl mW GW R3 bW (fun σ => passAt tk σ) (pa_cons (pv 2) pa_nil))) pa_nil)))))
          (.clause (i := 5) rfl rfl ⟨rfl, by decide, .inl T.eI.g⟩ (fun q oq cls d pn zc dat => pss_one (ps_set (i := 4) nd rfl (.inl rfl) (pe_tup (pa_cons pe_str (pa_cons (pe_xf T.eI.xf (T.eI.no "name" (List.mem_singleton.mpr rfl)) zc dat (pv 5)) pa_nil)))))
          (.clause (i := 5) rfl rfl ⟨rfl, by decide, .inl T.eT.g⟩ (fun q oq cls d pn zc dat => pss_one (ps_set (i := 4) nd rfl (.inl rfl) (pe_tup (pa_cons pe_str (pa_cons (pe_xf T.eT.xf (T.eT.no "name" (List.mem_singleton.mpr rfl)) zc dat (pv 5)) pa_nil)))))
          (.clause (i := 5) rfl rfl ⟨rfl, by decide, .inl T.eU.g⟩ (fun q oq cls d pn zc dat => pss_one (ps_set (i := 4) nd rfl (.inl rfl) (pe_tup (pa_cons pe_str (pa_cons (pe_xf T.eU.xf (T.eU.no "name" (List.mem_singleton.mpr rfl)) zc dat (pv 5)) pa_nil))))) .done))))
      (pss_one (ps_ret (pv 4)))), ?_⟩
    have s2z : 2 ≤ sizeLine := by decide
    refine ⟨_, rfl, s2z, fun p0 h0 => ?_⟩
    have sA := same_new (o := .tup [.str (Str.ofString "other"), .ref c]) h0
    have hc0 := hc.same sA
    refine ⟨_, rfl, rfl, _, rfl, ?_⟩
    have err : ∀ (y : Str) (d : Addr) (H1 : Hp), due form z es = some y → ErrNew (upd H p0 (.tup [.str (Str.ofString "other"), .ref c])) H1 d z → ∀ p, H1 p = none → Q (.ref p) (upd H1 p (.tup [.str y, .str z])) := fun y d H1 e en p hp =>
      kd y e p _ ((sA.trans en.1).trans (same_new hp)) ((sA.trans en.1).free hp) upd_same
    obtain ⟨dx, tn, td, hcc, cp⟩ := id hc0
    refine iteD (fun h0 => ?_) (fun h0 => ?_)
    · have f0 : form = 0 := V.int.inj h0
      refine ⟨_, rfl, c, dx, _, rfl, hcc, rfl, _, rfl, _, rfl, ?_⟩
      refine ⟨c, z, m, nx, es, rfl, hc0, hz, hl, fun e1 d H1 en => ?_, fun e1 e2 d H1 en => ?_, fun e1 e2 c' tp H1 s1 nc hc1 => ?_⟩
      · refine ⟨true, X.ii, fun _ q hq => ?_, fun e => nomatch e⟩
        exact ⟨_, rfl, rfl, rfl, d, _, .str z, rfl, en.2.2, rfl, s2z, fun p hp => ⟨_, rfl, err _ d H1 (by unfold due; rw [if_pos f0, e1]; rfl) en p hp⟩⟩
      · refine ⟨false, X.ti, fun e => (nomatch e), fun _ => ⟨true, X.tt, fun _ q hq => ?_, fun e => nomatch e⟩⟩
        exact ⟨_, rfl, rfl, rfl, d, _, .str z, rfl, en.2.2, rfl, s2z, fun p hp => ⟨_, rfl, err _ d H1 (by unfold due; rw [if_pos f0, e1, e2]; rfl) en p hp⟩⟩
      · refine ⟨s2z, fun p hp => ⟨_, rfl, ?_⟩⟩
        have sB := same_new (o := .tup [.str (Str.ofString "done"), .ref c']) hp
        refine kn (by unfold due; rw [if_pos f0, e1, e2]; rfl) c' _ p _ ((sA.trans s1).trans sB) (sA.free nc) ((sA.trans s1).free hp) (by rw [if_pos f0]; exact hc1.same sB) ?_ upd_same
        unfold rowsOf behind
        rw [if_pos f0, List.map_append]
        rfl
    · have f0 : form ≠ 0 := fun e => h0 (congrArg V.int e)
      refine ⟨_, rfl, c, dx, _, rfl, hcc, rfl, _, rfl, ?_⟩
      refine ⟨c, z, nx, es, rfl, hc0, fun e2 d H1 en => ?_, fun e2 c' H1 s1 nc hc1 => ?_⟩
      · refine ⟨false, X.ui, fun e => (nomatch e), fun _ => ⟨false, X.ut, fun e => (nomatch e), fun _ => ⟨true, X.uu, fun _ q hq => ?_, fun e => nomatch e⟩⟩⟩
        exact ⟨_, rfl, rfl, rfl, d, _, .str z, rfl, en.2.2, rfl, s2z, fun p hp => ⟨_, rfl, err _ d H1 (by unfold due; rw [if_neg f0, e2]; rfl) en p hp⟩⟩
      · refine ⟨s2z, fun p hp => ⟨_, rfl, ?_⟩⟩
        have sB := same_new (o := .tup [.str (Str.ofString "done"), .ref c']) hp
        refine kn (by unfold due; rw [if_neg f0, e2]; rfl) c' _ p _ ((sA.trans s1).trans sB) (sA.free nc) ((sA.trans s1).free hp) (by rw [if_neg f0]; exact hc1.same sB) ?_ upd_same
        unfold behind
        rw [if_neg f0, rows_drop]
end
end R4

namespace R4
open PySem L2 L3
open C8 (pss_cut tCut pe_gc)
/-- the law's own rows: a list of tuples -/
structure RowsAt (H : Hp) (l : Addr) (rs : List (Row × Addr)) : Prop where
  l : H l = some (.lst (rs.map fun r => V.ref r.2))
  at_ : ∀ r ∈ rs, H r.2 = some (.tup [.str r.1.1, .int r.1.2.1, .int r.1.2.2])
theorem RowsAt.same {H H' : Hp} {l : Addr} {rs : List (Row × Addr)} (s : Same H H') (h : RowsAt H l rs) : RowsAt H' l rs := ⟨s _ _ h.l, fun r m => s _ _ (h.at_ r m)⟩
section
variable {P : Program} {w : World} {K : PySem.W.Frag} {mg : Str → Option Value} {base : Heap} {C CI CT CU fi ft fu : Addr}
def spUnk (C : Addr) : Sp := fun vs H Q _ => ∃ (c : Addr) (form nx : Int) (z : Str) (es : List (Row × Addr)), vs = [.ref c, .int form, .str z] ∧ ChAt C H c es nx ∧ hasB z es = false ∧ ∀ H', Same H H' → Q (.str z) H'
abbrev NU : List Str := ["_law_choices", "_law_form", "_law_title", "_law_found", "e"]
theorem scUn : FnScope NU ["_law_choices", "_law_form", "_law_title"] (defScope sUnk) := ⟨rfl, rfl, rfl, by decide +kernel, rfl, by decide +kernel, by decide +kernel⟩
/-- a method that finds what it looks for, or raises -/
structure Own (P : Program) (w : World) (K : PySem.W.Frag) (mg : Str → Option Value) (base : Heap) (C CU fG fN : Addr) (fdG fdN : FuncData) : Prop where
  GG : FnOk P w K mg base (L2.CX P w) 2 fG fdG ["self", "name"] (spGet 0 C CU)
  bG : Binds K fdG ["self", "name"] []
  sG : PySem.W.findIn K (.ref C) "__getitem__" = some (some (.ref fG))
  iG : PySem.W.fnIn K fG = true
  fG : PySem.W.isFn K (.ref fG) = true
  GN : FnOk P w K mg base (L2.CX P w) 2 fN fdN ["self", "name"] (spGet 1 C CU)
  bN : Binds K fdN ["self", "name"] []
  mN : Meth K C "number" fN
theorem ok_unk {f fG fN : Addr} {fd fdG fdN : FuncData} (F : Fun K "_law_unknown" "_law_unknown" sUnk f fd) (T : Txt P K mg C CI CT CU fi ft fu) (X : Cross K CI CT CU) (O : Own P w K mg base C CU fG fN fdG fdN) :
    FnOk P w K mg base CX0 4 f fd ["_law_choices", "_law_form", "_law_title"] (spUnk C) := by
  refine F.ok scUn (fun vs H Q E h => ?_) (fun cdv A outer s H vs Q E hr h => ?_)
  · obtain ⟨c, form, nx, z, es, rfl, _⟩ := h
    rfl
  · obtain ⟨c, form, nx, z, es, rfl, hc, hh, k⟩ := h
    have nd := scUn.nd
    have R2 : Room 2 _ := hr.mono (by decide)
    have R3 : Room 3 _ := hr.mono (by decide)
    refine ⟨_, pss_cons (ps_set (i := 3) nd rfl (.inl rfl) pe_non)
      (pss_cons (ps_tryCl (Wo := fun _ _ _ _ => False) rfl rfl nd takes0
          (fun W pn xe tk _ => pss_one (ps_set (i := 3) nd rfl (.inl rfl) (pe_op op_mul (pe_ifExp (pt_cmpR op_eq (pv 1) pe_int (nomark _)) (pe_ixOwn O.GG R3 O.bG (fun σ => passAt tk σ) O.sG O.iG O.fG (pv 0) (pv 2)) (pe_methX (pv 0) T.cl O.mN O.GN R2 O.bN (fun σ => passAt tk σ) (pa_cons (pv 2) pa_nil))) pe_int)))
          (.clause (i := 4) rfl rfl ⟨rfl, by decide, .inl T.eU.g⟩ (fun q oq cls d pn zc dat => pss_one (ps_set (i := 3) nd rfl (.inl rfl) (pe_xf T.eU.xf (T.eU.no "name" (List.mem_singleton.mpr rfl)) zc dat (pv 4)))) .done))
      (pss_one (ps_ret (pv 3)))), ?_⟩
    obtain ⟨dx, tn, td, hcc, cp⟩ := id hc
    have exU : PySem.W.exmOne K (.ref CU) (.ref CU) = some true := X.uu
    refine ⟨_, rfl, rfl, _, rfl, ?_⟩
    refine iteD (fun h0 => ?_) (fun h0 => ?_)
    · refine ⟨_, rfl, _, rfl, c, dx, _, rfl, hcc, c, z, nx, es, rfl, hc, fun _ d H1 en => ?_, fun e m q => absurd q (hasB_none hh e m)⟩
      exact ⟨true, exU, fun _ q hq => ⟨_, rfl, rfl, rfl, d, _, .str z, rfl, en.2.2, rfl, _, rfl, k _ en.1⟩, fun e => nomatch e⟩
    · refine ⟨_, rfl, c, dx, _, rfl, hcc, rfl, _, rfl, c, z, nx, es, rfl, hc, fun _ d H1 en => ?_, fun e m q => absurd q (hasB_none hh e m)⟩
      exact ⟨true, exU, fun _ q hq => ⟨_, rfl, rfl, rfl, d, _, .str z, rfl, en.2.2, rfl, _, rfl, k _ en.1⟩, fun e => nomatch e⟩
end
end R4

namespace R4
open PySem L2 L3
open C8 (pss_cut tCut pe_gc)
section
variable {P : Program} {w : World} {K : PySem.W.Frag} {mg : Str → Option Value} {base : Heap} {C CI CT CU fi ft fu : Addr}
structure Own2 (P : Program) (w : World) (K : PySem.W.Frag) (mg : Str → Option Value) (base : Heap) (C fH fL : Addr) (fdH fdL : FuncData) : Prop where
  GH : FnOk P w K mg base CX0 1 fH fdH ["self", "name"] (spHas C)
  bH : Binds K fdH ["self", "name"] []
  sH : PySem.W.findIn K (.ref C) "__contains__" = some (some (.ref fH))
  fH : PySem.W.isFn K (.ref fH) = true
  GL : FnOk P w K mg base CX0 1 fL fdL ["self"] (spLen C)
  bL : Binds K fdL ["self"] []
  sL : PySem.W.findIn K (.ref C) "__len__" = some (some (.ref fL))
  fL : PySem.W.isFn K (.ref fL) = true
def spRight (C : Addr) : Sp := fun vs H Q _ => ∃ (c l : Addr) (nx : Int) (es rs : List (Row × Addr)), vs = [.ref c, .ref l] ∧ ChAt C H c es nx ∧ RowsAt H l rs ∧ rowsOf rs = rowsOf es ∧ (∀ e ∈ es, OkT e.1.1) ∧ ∀ H', Same H H' → Q (.bl true) H'
abbrev NR : List Str := ["_law_choices", "_law_rows", "_law_titles_here", "_law_title", "_law_many", "_law_number", "_law_row"]
theorem scRi : FnScope NR ["_law_choices", "_law_rows"] (defScope sRight) := ⟨rfl, rfl, rfl, by decide +kernel, rfl, by decide +kernel, by decide +kernel⟩
theorem row_eq {es : List (Row × Addr)} (nd : (es.map fun e => e.1.1).Nodup) {e : Row × Addr} (m : e ∈ es) {r : Row} (h : r ∈ rowsOf es) (n : e.1.1 = r.1) : e.1 = r := by
  obtain ⟨g, mg, rfl⟩ := List.mem_map.mp h
  have := valV_kvE e.1.1 es nd
  have q := (this.1 e m rfl).symm.trans (this.1 g mg n.symm)
  obtain ⟨i, hi, rfl⟩ := List.getElem_of_mem m
  obtain ⟨j, hj, rfl⟩ := List.getElem_of_mem mg
  have pw := List.pairwise_iff_getElem.mp nd
  rcases Nat.lt_trichotomy i j with l | l | l
  · refine absurd ?_ (pw i j (by rw [List.length_map]; exact hi) (by rw [List.length_map]; exact hj) l)
    rw [List.getElem_map, List.getElem_map]
    exact n
  · subst l
    rfl
  · refine absurd ?_ (pw j i (by rw [List.length_map]; exact hj) (by rw [List.length_map]; exact hi) l)
    rw [List.getElem_map, List.getElem_map]
    exact n.symm
theorem hasB_of {z : Str} {es : List (Row × Addr)} (h : ∀ e ∈ es, e.1.1 ≠ z) : hasB z es = false := by
  cases q : hasB z es with
  | false => rfl
  | true =>
    obtain ⟨e, m, n⟩ := hasB_some q
    exact absurd n (h e m)
theorem hasB_mem {z : Str} {es : List (Row × Addr)} {r : Row} (h : r ∈ rowsOf es) (n : r.1 = z) : hasB z es = true := by
  obtain ⟨g, mg, rfl⟩ := List.mem_map.mp h
  exact List.any_eq_true.mpr ⟨g, mg, decide_eq_true n⟩
theorem ok_right {f fG fN fH fL fM : Addr} {fd fdG fdN fdH fdL fdM : FuncData} (F : Fun K "_law_right" "_law_right" sRight f fd) (T : Txt P K mg C CI CT CU fi ft fu) (O : Own P w K mg base C CU fG fN fdG fdN) (O2 : Own2 P w K mg base C fH fL fdH fdL)
    (GM : FnG P w K mg base CX0 1 fM fdM ["_law_one", "_law_other"] (spSame K)) (kM : PySem.W.keepIn K (.ref fM) = true) (bM : Binds K fdM ["_law_one", "_law_other"] []) (gM : mg "_law_same" = some (.ref fM)) (zTup : mg "tuple" = none) (zLen : mg "len" = none) :
    FnG P w K mg base CX0 4 f fd ["_law_choices", "_law_rows"] (spRight C) := by
  refine gok F scRi (fun vs H Q E h => ?_) (fun cdv A outer s H vs Q E g hr h => ?_)
  · obtain ⟨c, l, nx, es, rs, rfl, _⟩ := h
    rfl
  · obtain ⟨c, l, nx, es, rs, rfl, hc, hl, er, ok, k⟩ := h
    have nd := scRi.nd
    have R1 : Room 1 _ := hr.mono (by decide)
    have R2 : Room 2 _ := hr.mono (by decide)
    have R3 : Room 3 _ := hr.mono (by decide)
    have gA : Calm _ := g
    refine ⟨_, pss_cons (ps_set (i := 2) nd rfl (.inl rfl) (pe_callTy call_tuple_of (by rfl) zTup (by decide +kernel) (pa_cons (pe_lc (own := [("_law_row", 6)]) (g := gName 6) (tt := tYes) rfl nd (pi_list (pv 1)) (blkOk_by (N := NR) (sc := defScope sRight) (by decide +kernel))
          (fun _ _ _ _ _ => pg_name (i := 6) nd rfl (.inl rfl)) (fun _ _ _ _ _ => pts_nil) (fun _ _ _ _ _ => pe_ix (r := rIxT K) (by exact ix_tup) (pv 6) pe_int (fun _ _ => rfl))) pa_nil)))
      (pss_cons (ps_if (PW.pt (pw_or (pt_not (pt_val (pe_callG GM gA R1 (by rfl) gM kM bM .nil pass0 (pa_cons (pe_fld (pv 0) rfl) (pa_cons (pv 2) pa_nil))))) (pw_or1 (pt_cmpR op_ne (pe_callB (call_lenOwn O2.GL R2 O2.bL pass0 O2.sL O2.fL) (by rfl) zLen PySem.boot_len (pa_cons (pv 0) pa_nil)) (pe_callB call_len_seq (by rfl) zLen PySem.boot_len (pa_cons (pv 1) pa_nil)) (nomark _))))) (pss_one (ps_ret pe_bl)) pss_nil)
      (pss_cons (ps_for PassesOwn.never rfl (pi_list (pv 1)) (pg_tup (by rfl) (pgs_cons (pg_name (i := 3) nd rfl (.inl rfl)) (pgs_cons (pg_name (i := 4) nd rfl (.inl rfl)) (pgs_cons (pg_name (i := 5) nd rfl (.inl rfl)) pgs_nil))))
        (pss_one (ps_if (PW.pt (pw_or (pt_cmpR op_ne (pe_ixOwn (ES := fun _ => E0) O.GG R3 O.bG (fun σ pins H s e s' I c => passL pins σ H s e s' I c) O.sG O.iG O.fG (pv 0) (pv 3)) (pv 4) (nomark _))
            (pw_or (pt_cmpR op_ne (pe_methX (ES := fun _ => E0) (pv 0) T.cl O.mN O.GN R2 O.bN (fun σ pins H s e s' I c => passL pins σ H s e s' I c) (pa_cons (pv 3) pa_nil)) (pv 5) (nomark _)) (pw_or1 (pt_cmpR (op_ownNotIn O2.GH R1 O2.bH (E := E0) pass0 O2.sH O2.fH) (pv 3) (pv 0) (by rfl))))))
          (pss_one (ps_ret pe_bl)) pss_nil)))
      (pss_one (ps_ret (pe_and (pe_cmpR (op_ownNotIn O2.GH R1 O2.bH (E := E0) pass0 O2.sH O2.fH) pe_str (pv 0) (by rfl)) (pe_one (pe_cmpR (op_ownNotIn O2.GH R1 O2.bH (E := E0) pass0 O2.sH O2.fH) pe_str (pv 0) (by rfl)))))))), ?_⟩
    obtain ⟨dx, tn, td, hcc, cp⟩ := id hc
    have lsz := sizeLine_eq
    have lle := cp.le
    have lr : rs.length = es.length := by
      have := congrArg List.length er
      unfold rowsOf at this
      rw [List.length_map, List.length_map] at this
      exact this
    have tE : (rs.map fun r => r.1.1) = es.map fun e => e.1.1 := by
      have := congrArg (List.map fun r : Row => r.1) er
      unfold rowsOf at this
      rw [List.map_map, List.map_map] at this
      exact this
    have rpE : ∀ z ∈ es.map (fun e => e.1.1), (reprText z).length ≤ 1000 := fun z m => by
      obtain ⟨e, me, rfl⟩ := List.mem_map.mp m
      exact (ok e me).rp
    refine ⟨_, rfl, l, rfl, ⟨_, SqL.of hl.l⟩, fun D hD => lc_list (K := K) (a := l) (xs := rs.map fun r => V.ref r.2) (fun j H' => H' = upd H D (.lst ((rs.take j).map fun r => V.str r.1.1))) rfl (fun j H' _ h => by rw [h]; exact SqL.of (same_new hD _ _ hl.l)) ?_ ?_⟩
    · rintro j x H1 hx rfl
      rw [List.getElem?_map] at hx
      obtain ⟨r, hr1, rfl⟩ := Option.map_eq_some_iff.mp hx
      refine ⟨rfl, _, rfl, r.2, _, _, .str r.1.1, rfl, rfl, SqT.of (same_new hD _ _ (hl.at_ r (List.mem_of_getElem? hr1))), atN (j := 0) rfl rfl, _, upd_same, ?_, ?_⟩
      · rw [List.length_map, List.length_take]
        omega
      · rw [upd_two, List.take_add_one, hr1, List.map_append]
        rfl
    rintro H1 rfl
    rw [List.length_map, List.take_of_length_le (Nat.le_refl rs.length)]
    refine ⟨D, _, rfl, .inl ⟨SqL.of upd_same, fun t ht => ?_⟩⟩
    have sD := same_new (o := .lst (rs.map fun r => V.str r.1.1)) hD
    have sT := sD.trans (same_new (o := .tup (rs.map fun r => V.str r.1.1)) ht)
    have hct := hc.same sT
    have hlt := hl.same sT
    have ett : (upd (upd H D (.lst (rs.map fun r => V.str r.1.1))) t (.tup (rs.map fun r => V.str r.1.1))) t = some (.tup (rs.map fun r => V.str r.1.1)) := upd_same
    generalize upd (upd H D (.lst (rs.map fun r => V.str r.1.1))) t (.tup (rs.map fun r => V.str r.1.1)) = H2 at sT hct hlt ett ⊢
    have hcc2 := sT _ _ hcc
    have cp2 := cp.same sT
    have etn : H2 tn = some (.tup ((es.map fun e => e.1.1).map V.str)) := by rw [List.map_map]; exact cp2.tn
    have ett2 : H2 t = some (.tup ((es.map fun e => e.1.1).map V.str)) := by rw [← tE, List.map_map]; exact ett
    refine ⟨_, rfl, c, C, dx, _, _, rfl, hcc2, T.cl, T.nN, lk_names, _, rfl, .ref tn, .ref t, .tuple ((es.map fun e => e.1.1).map PyData.str), .tuple ((es.map fun e => e.1.1).map PyData.str), rfl, .tup (SqT.of etn) (dpAll_strs _), .tup (SqT.of ett2) (dpAll_strs _), fine_strs (by rw [List.length_map]; omega) rpE, fine_strs (by rw [List.length_map]; omega) rpE, _, rfl, ifF (by rw [decide_eq_true rfl]; rfl) ?_⟩
    refine ⟨_, rfl, c, dx, _, rfl, hcc2, c, nx, es, rfl, hct, _, rfl, by omega, by omega, _, rfl, l, _, rfl, .inl (SqL.of hlt.l), rfl, _, rfl, ifF ?_ ?_⟩
    · rw [List.length_map, lr, decide_eq_true rfl]
      rfl
    refine ⟨_, rfl, l, rfl, ⟨_, SqL.of hlt.l⟩, for_list (K := K) (a := l) (xs := rs.map fun r => V.ref r.2) (fun j σ H' => ∃ v3 v4 v5 : Option V, σ = [some (.ref c), some (.ref l), some (.ref t), v3, v4, v5, none] ∧ Same H2 H')
      ⟨none, none, none, rfl, Same.refl H2⟩ (fun j σ H' _ ⟨_, _, _, _, h⟩ => SqL.of (h _ _ hlt.l)) ?_ ?_⟩
    · rintro j x σ H5 hx ⟨v3, v4, v5, rfl, s5⟩
      rw [List.getElem?_map] at hx
      obtain ⟨r, hr1, rfl⟩ := Option.map_eq_some_iff.mp hx
      have mr := List.mem_of_getElem? hr1
      have mrs : r.1 ∈ rowsOf es := er ▸ List.mem_map.mpr ⟨r, mr, rfl⟩
      have hc5 := hct.same s5
      have hcc5 := s5 _ _ hcc2
      refine ⟨r.2, _, rfl, SqT.of (s5 _ _ (hlt.at_ r mr)), rfl, _, _, rfl, _, _, rfl, _, _, rfl, rfl, ?_⟩
      refine ⟨_, rfl, _, rfl, c, dx, _, rfl, hcc5, c, r.1.1, nx, es, rfl, hc5, fun h => absurd (hasB_mem mrs rfl) (by rw [h]; decide), fun e1 m1 n1 => ?_⟩
      have q1 := row_eq cp.nd m1 mrs n1
      refine ⟨_, rfl, rfl, _, rfl, ifF ?_ ?_⟩
      · rw [q1]
        show (!decide (V.int r.1.2.1 = V.int r.1.2.1)) = false
        rw [decide_eq_true rfl]
        rfl
      refine ⟨_, rfl, c, dx, _, rfl, hcc5, rfl, _, rfl, c, r.1.1, nx, es, rfl, hc5, fun h => absurd (hasB_mem mrs rfl) (by rw [h]; decide), fun e2 m2 n2 => ?_⟩
      have q2 := row_eq cp.nd m2 mrs n2
      refine ⟨_, rfl, rfl, _, rfl, ifF ?_ ?_⟩
      · rw [q2]
        show (!decide (V.int r.1.2.2 = V.int r.1.2.2)) = false
        rw [decide_eq_true rfl]
        rfl
      refine ⟨_, rfl, _, rfl, c, dx, _, rfl, hcc5, c, r.1.1, nx, es, rfl, hc5, _, rfl, _, rfl, ifF ?_ ?_⟩
      · rw [hasB_mem mrs rfl]
        rfl
      exact ⟨_, _, _, rfl, s5⟩
    rintro σ H5 ⟨v3, v4, v5, rfl, s5⟩
    have hc5 := hct.same s5
    have hcc5 := s5 _ _ hcc2
    have nv : hasB (Str.ofString "never") es = false := hasB_of fun e m => (ok e m).nv
    have ne : hasB (Str.ofString "") es = false := hasB_of fun e m => (ok e m).ne
    refine ⟨_, rfl, c, dx, _, rfl, hcc5, c, _, nx, es, rfl, hc5, _, rfl, _, rfl, ifT ?_ ?_⟩
    · rw [nv]
      rfl
    refine ⟨_, rfl, c, dx, _, rfl, hcc5, c, _, nx, es, rfl, hc5, _, rfl, ?_⟩
    rw [ne]
    exact k _ (sT.trans s5)
end
end R4

namespace R4
open PySem L2 L3
/-- what stands at a turn: the feed, the titles, the choices and the law's own rows of them -/
structure Sit (C a T c l : Addr) (ts : List Str) (es rs : List (Row × Addr)) (nx : Int) (H : Hp) : Prop where
  fd : FeedAt H a
  tl : H T = some (.lst (ts.map V.str))
  ch : ChAt C H c es nx
  rw_ : RowsAt H l rs
  eq : rowsOf rs = rowsOf es
  ok : ∀ e ∈ es, OkT e.1.1
  n14 : ts.length = 14
theorem feed_same {a : Addr} {H H' : Hp} (s : Same H H') (f : FeedAt H a) : FeedAt H' a := by
  obtain ⟨x, y, h, k⟩ := f
  exact ⟨x, y, s _ _ h, k⟩
theorem dr_of {a : Addr} {H H' : Hp} (s : Same H H') (f : FeedAt H a) : Dr a H H' := ⟨feed_same s f, fun b o _ e => s b o e⟩
section
variable {C a T c l : Addr} {ts : List Str} {es rs : List (Row × Addr)} {nx : Int} {H H' : Hp}
theorem Sit.same (h : Sit C a T c l ts es rs nx H) (s : Same H H') : Sit C a T c l ts es rs nx H' := ⟨feed_same s h.fd, s _ _ h.tl, h.ch.same s, h.rw_.same s, h.eq, h.ok, h.n14⟩
theorem ChAt.dr (h : ChAt C H c es nx) (f : FeedAt H a) (d : Dr a H H') : ChAt C H' c es nx := by
  obtain ⟨x, y, ha, _⟩ := f
  obtain ⟨dx, tn, td, hc, p⟩ := h
  have off : ∀ b o, H b = some o → o ≠ .lst [.int x, .int y] → H' b = some o := fun b o e n => d.sm b o (ne_of e ha n) e
  exact ⟨dx, tn, td, off _ _ hc (fun z => nomatch z), off _ _ p.tn (fun z => nomatch z), off _ _ p.td (fun z => nomatch z), fun e m => off _ _ (p.at_ e m) (fun z => nomatch z), p.nd, p.le⟩
theorem RowsAt.dr (h : RowsAt H l rs) (f : FeedAt H a) (d : Dr a H H') : RowsAt H' l rs := by
  obtain ⟨x, y, ha, _⟩ := f
  refine ⟨d.sm _ _ (ne_of h.l ha fun z => ?_) h.l, fun r m => d.sm _ _ (ne_of (h.at_ r m) ha fun z => nomatch z) (h.at_ r m)⟩
  injection z with z
  cases rs with
  | nil => cases z
  | cons r rs => injection z with z; cases z
theorem Sit.dr (h : Sit C a T c l ts es rs nx H) (d : Dr a H H') : Sit C a T c l ts es rs nx H' := by
  refine ⟨d.fd, ?_, h.ch.dr h.fd d, h.rw_.dr h.fd d, h.eq, h.ok, h.n14⟩
  obtain ⟨x, y, ha, _⟩ := h.fd
  refine d.sm _ _ (ne_of h.tl ha fun z => ?_) h.tl
  injection z with z
  have q := congrArg List.length z
  rw [List.length_map, h.n14] at q
  cases q
end
theorem tf {α β : Type} (p : α → Bool) (f : α → β) {l : List α} {i : Nat} {c : α} (h : l[i]? = some c) : ((l.take (i + 1)).filter p).map f = ((l.take i).filter p).map f ++ if p c = true then [f c] else [] := by
  rw [List.take_add_one, h, List.filter_append, List.map_append]
  congr 1
  cases e : p c <;> simp [e]
theorem tf_len {α β : Type} (p : α → Bool) (f : α → β) (l : List α) (i : Nat) : (((l.take i).filter p).map f).length ≤ l.length := by
  rw [List.length_map]
  refine Nat.le_trans (List.length_filter_le _ _) ?_
  rw [List.length_take]
  omega
theorem eqv_two (x y : Str) : PyData.eqv (.tuple [.str x, .str y]) (.tuple [.str x, .str y]) = true := by
  show ((x == x) && ((y == y) && true)) = true
  simp
theorem shaped_two {x y : Str} (hx : PyData.strOk x = true) (hy : PyData.strOk y = true) : SeqAt.shaped (.tuple [.str x, .str y]) = true := by
  unfold SeqAt.shaped
  rw [Bool.and_eq_true]
  refine ⟨?_, decide_eq_true ?_⟩
  · simp only [PyData.canLay0, PyData.canLayAll0, hx, hy, Bool.and_self]
  · simp only [PyData.depth, PyData.depthAll]
    omega
/-- the data of the law's rows -/
def rowD (r : Row × Addr) : PyData := .tuple [.str r.1.1, .int r.1.2.1, .int r.1.2.2]
theorem rows_dp {K : PySem.W.Frag} {H : Hp} : ∀ {rs : List (Row × Addr)}, (∀ r ∈ rs, H r.2 = some (.tup [.str r.1.1, .int r.1.2.1, .int r.1.2.2])) → DpAll K H (rs.map fun r => V.ref r.2) (rs.map rowD)
  | [], _ => .nil
  | r :: rs, h => .cons (.tup (SqT.of (h r List.mem_cons_self)) (.cons (.str _) (.cons (.int _) (.cons (.int _) .nil)))) (rows_dp fun x m => h x (List.mem_cons_of_mem _ m))
theorem rows_shaped {rs : List (Row × Addr)} (h : ∀ r ∈ rs, PyData.strOk r.1.1 = true) : SeqAt.shaped (.list (rs.map rowD)) = true := by
  have q : PyData.canLayAll0 (rs.map rowD) = true ∧ PyData.depthAll (rs.map rowD) ≤ 5 := by
    induction rs with
    | nil => exact ⟨rfl, Nat.zero_le _⟩
    | cons r rs ih =>
      obtain ⟨i1, i2⟩ := ih fun x m => h x (List.mem_cons_of_mem _ m)
      have hx := h r List.mem_cons_self
      rw [List.map_cons]
      constructor
      · simp only [PyData.canLayAll0, rowD, PyData.canLay0, hx, i1, Bool.and_self]
      · simp only [PyData.depthAll, rowD, PyData.depth] at i2 ⊢
        omega
  unfold SeqAt.shaped
  rw [Bool.and_eq_true]
  refine ⟨?_, decide_eq_true ?_⟩
  · simp only [PyData.canLay0]
    exact q.1
  · simp only [PyData.depth]
    omega
theorem eqv_nil (ds : List PyData) : PyData.eqv (.list ds) (.list []) = ds.isEmpty := by
  cases ds <;> rfl
/-- the law's own words for what is due -/
theorem due0 {z : Str} {es : List (Row × Addr)} (h : isChS z = false) : due 0 z es = some (Str.ofString "invalid") := by
  unfold due
  rw [if_pos rfl, h]
  rfl
def word (form : Int) : Str := if form = 0 then Str.ofString "taken" else Str.ofString "unknown"
theorem due_err {form : Int} {t : Str} {es : List (Row × Addr)} (hf : form = 0 ∨ form = 1) (ok : isChS t = true) (h : (!hasB t es) = decide (V.int form = V.int 1)) : due form t es = some (word form) := by
  unfold due word
  rcases hf with rfl | rfl
  · rw [decide_eq_false (fun z => by cases z)] at h
    rw [if_pos rfl, if_pos rfl, ok]
    cases q : hasB t es with
    | true => rfl
    | false => rw [q] at h; cases h
  · rw [decide_eq_true rfl] at h
    rw [if_neg (show ¬ (1 : Int) = 0 by decide), if_neg (show ¬ (1 : Int) = 0 by decide)]
    cases q : hasB t es with
    | false => rfl
    | true => rw [q] at h; cases h
theorem due_none {form : Int} {t : Str} {es : List (Row × Addr)} (hf : form = 0 ∨ form = 1) (ok : isChS t = true) (h : (!hasB t es) ≠ decide (V.int form = V.int 1)) : due form t es = none := by
  unfold due
  rcases hf with rfl | rfl
  · rw [decide_eq_false (fun z => by cases z)] at h
    rw [if_pos rfl, ok]
    cases q : hasB t es with
    | false => rfl
    | true => rw [q] at h; exact absurd rfl h
  · rw [decide_eq_true rfl] at h
    rw [if_neg (show ¬ (1 : Int) = 0 by decide)]
    cases q : hasB t es with
    | true => rfl
    | false => rw [q] at h; exact absurd rfl h
theorem word_at {form : Int} (hf : form = 0 ∨ form = 1) : atI [V.str (Str.ofString "taken"), V.str (Str.ofString "unknown")] form = some (V.str (word form)) := by
  rcases hf with rfl | rfl <;> rfl
theorem word_ok {form : Int} (hf : form = 0 ∨ form = 1) : PyData.strOk (word form) = true := by
  rcases hf with rfl | rfl <;> decide +kernel
def next (form : Int) (t : Str) (m nx : Int) (tp : Addr) (rs : List (Row × Addr)) : List (Row × Addr) := (rs.filter fun r => !decide (r.1.1 = t)) ++ (if form = 0 then [((t, m, nx), tp)] else [])
abbrev oneIf (form : Int) : Int := if decide (V.int form = V.int 0) = true then 1 else 0
theorem oneIf_0 {form : Int} (h : form = 0) : oneIf form = 1 := if_pos (decide_eq_true (congrArg V.int h))
theorem oneIf_1 {form : Int} (h : form ≠ 0) : oneIf form = 0 := if_neg (by rw [decide_eq_false fun z => h (V.int.inj z)]; exact Bool.false_ne_true)
theorem next_list (form : Int) (t : Str) (m nx : Int) (tp : Addr) (rs : List (Row × Addr)) : ((rs.filter fun r => !decide (r.1.1 = t)).map fun r => V.ref r.2) ++ (List.replicate (oneIf form).toNat [V.ref tp]).flatten = (next form t m nx tp rs).map fun r => V.ref r.2 := by
  unfold next
  rw [List.map_append]
  congr 1
  by_cases h : form = 0
  · rw [oneIf_0 h, if_pos h]
    rfl
  · rw [oneIf_1 h, if_neg h]
    rfl
theorem next_nx (form nx : Int) : nx + oneIf form = if form = 0 then nx + 1 else nx := by
  by_cases h : form = 0
  · rw [oneIf_0 h, if_pos h]
  · rw [oneIf_1 h, if_neg h]
    omega
theorem next_rows {form : Int} {t : Str} {m nx : Int} {tp : Addr} {es rs : List (Row × Addr)} (d : due form t es = none) (e : rowsOf rs = rowsOf es) : rowsOf (next form t m nx tp rs) = behind form t m nx (rowsOf es) := by
  have ef : rowsOf (rs.filter fun r => !decide (r.1.1 = t)) = (rowsOf es).filter fun r => !decide (r.1 = t) := by
    rw [← e]
    exact rows_drop t rs
  have ea : rowsOf (next form t m nx tp rs) = rowsOf (rs.filter fun r => !decide (r.1.1 = t)) ++ rowsOf (if form = 0 then [((t, m, nx), tp)] else []) := by
    unfold rowsOf next
    rw [List.map_append]
  rw [ea, ef]
  unfold behind
  by_cases h : form = 0
  · rw [if_pos h, if_pos h]
    congr 1
    refine List.filter_eq_self.mpr fun r mr => ?_
    have hb : hasB t es = false := by
      unfold due at d
      rw [if_pos h] at d
      cases c : isChS t with
      | false => rw [c] at d; cases d
      | true =>
        rw [c] at d
        cases q : hasB t es with
        | false => rfl
        | true => rw [q] at d; cases d
    obtain ⟨g, mg, rfl⟩ := List.mem_map.mp mr
    rw [decide_eq_false (hasB_none hb g mg)]
    rfl
  · rw [if_neg h, if_neg h]
    exact List.append_nil _
theorem next_at {H H' : Hp} {l l' : Addr} {form : Int} {t : Str} {m nx : Int} {tp : Addr} {rs : List (Row × Addr)} (h : RowsAt H l rs) (s : Same H H') (e : H' l' = some (.lst ((next form t m nx tp rs).map fun r => V.ref r.2))) (etp : H' tp = some (.tup [.str t, .int m, .int nx])) : RowsAt H' l' (next form t m nx tp rs) := by
  refine ⟨e, fun r mr => ?_⟩
  unfold next at mr
  rcases List.mem_append.mp mr with mr | mr
  · exact s _ _ (h.at_ r (List.mem_filter.mp mr).1)
  · by_cases q : form = 0
    · rw [if_pos q] at mr
      rw [List.mem_singleton.mp mr]
      exact etp
    · rw [if_neg q] at mr
      cases mr
theorem eqB_false {es gs : List (Row × Addr)} (h : es.length ≠ gs.length) : eqB es gs = false := by
  unfold eqB
  rw [show (es.length == gs.length) = false from beq_false_of_ne h]
  rfl
theorem rows_len {es rs : List (Row × Addr)} (h : rowsOf rs = rowsOf es) : rs.length = es.length := by
  have := congrArg List.length h
  unfold rowsOf at this
  rw [List.length_map, List.length_map] at this
  exact this
theorem has_rows {z : Str} {es : List (Row × Addr)} : hasB z es = (rowsOf es).any fun r => decide (r.1 = z) := by
  unfold hasB rowsOf
  rw [List.any_map]
  rfl
/-- the turn changes how many there are -/
theorem behind_len {form : Int} {z : Str} {m nx : Int} {es es' : List (Row × Addr)} (h : rowsOf es' = behind form z m nx (rowsOf es)) (d : due form z es = none) : es'.length ≠ es.length := by
  have q := congrArg List.length h
  unfold behind at q
  unfold due at d
  by_cases f : form = 0
  · rw [if_pos f] at q
    unfold rowsOf at q
    rw [List.length_map, List.length_append, List.length_map] at q
    have : es'.length = es.length + 1 := q
    omega
  · rw [if_neg f] at q d
    cases hb : hasB z es with
    | false => rw [hb] at d; cases d
    | true =>
      have lt : ((rowsOf es).filter fun r => !decide (r.1 = z)).length < (rowsOf es).length := by
        rw [has_rows, List.any_eq_true] at hb
        obtain ⟨r, mr, er⟩ := hb
        refine List.length_filter_lt_length_iff_exists.mpr ⟨r, mr, ?_⟩
        rw [er]
        decide
      rw [← q] at lt
      unfold rowsOf at lt
      rw [List.length_map, List.length_map] at lt
      omega
theorem behind_le {form : Int} {z : Str} {m nx : Int} {es es' : List (Row × Addr)} (h : rowsOf es' = behind form z m nx (rowsOf es)) : es'.length ≤ es.length + 1 := by
  have q := congrArg List.length h
  unfold behind at q
  by_cases f : form = 0
  · rw [if_pos f] at q
    unfold rowsOf at q
    rw [List.length_map, List.length_append, List.length_map] at q
    have : es'.length = es.length + 1 := q
    omega
  · rw [if_neg f] at q
    have := List.length_filter_le (fun r : Row => !decide (r.1 = z)) (rowsOf es)
    rw [← q] at this
    unfold rowsOf at this
    rw [List.length_map, List.length_map] at this
    omega
theorem behind_ok {form : Int} {z : Str} {m nx : Int} {es es' : List (Row × Addr)} (h : rowsOf es' = behind form z m nx (rowsOf es)) (hz : OkT z) (ok : ∀ e ∈ es, OkT e.1.1) : ∀ e ∈ es', OkT e.1.1 := fun e m1 => by
  have mr : e.1 ∈ rowsOf es' := List.mem_map.mpr ⟨e, m1, rfl⟩
  rw [h] at mr
  unfold behind at mr
  have old : e.1 ∈ rowsOf es → OkT e.1.1 := fun m => by
    obtain ⟨g, mg, eg⟩ := List.mem_map.mp m
    rw [← eg]
    exact ok g mg
  by_cases f : form = 0
  · rw [if_pos f] at mr
    rcases List.mem_append.mp mr with m | m
    · exact old m
    · rw [List.mem_singleton.mp m]
      exact hz
  · rw [if_neg f] at mr
    exact old (List.mem_filter.mp mr).1
end R4

namespace R4
open PySem L2 L3
/-- the same rows put in anew -/
def ren (L : List Row) : List Row := L.mapIdx fun i r => (r.1, r.2.1, (i : Int))
theorem ren_len (L : List Row) : (ren L).length = L.length := List.length_mapIdx
theorem ren_snoc (L : List Row) (r : Row) : ren (L ++ [r]) = ren L ++ [(r.1, r.2.1, (L.length : Int))] := by
  unfold ren
  rw [List.mapIdx_concat]
theorem ren_get (L : List Row) (i : Nat) (h : i < L.length) : (ren L)[i]? = some (L[i].1, L[i].2.1, (i : Int)) := by
  unfold ren
  rw [List.getElem?_mapIdx, List.getElem?_eq_getElem h]
  rfl
theorem ren_any (L : List Row) (z : Str) : (ren L).any (fun r => decide (r.1 = z)) = L.any fun r => decide (r.1 = z) := by
  rw [Bool.eq_iff_iff, List.any_eq_true, List.any_eq_true]
  constructor
  · rintro ⟨r, mr, h⟩
    obtain ⟨i, hi, rfl⟩ := List.getElem_of_mem mr
    have hl : i < L.length := by rw [ren_len] at hi; exact hi
    refine ⟨L[i], List.getElem_mem hl, ?_⟩
    have q := ren_get L i hl
    rw [List.getElem?_eq_getElem hi] at q
    rw [Option.some.inj q] at h
    exact h
  · rintro ⟨r, mr, h⟩
    obtain ⟨i, hi, rfl⟩ := List.getElem_of_mem mr
    have q := ren_get L i hi
    exact ⟨_, List.mem_of_getElem? q, h⟩
theorem take_rows (rs : List (Row × Addr)) (q : Nat) : rowsOf (rs.take q) = (rowsOf rs).take q := by
  unfold rowsOf
  rw [List.map_take]
theorem rows_nd {es rs : List (Row × Addr)} (e : rowsOf rs = rowsOf es) (nd : (es.map fun e => e.1.1).Nodup) : ((rowsOf rs).map fun r => r.1).Nodup := by
  rw [e]
  unfold rowsOf
  rw [List.map_map]
  exact nd
theorem fresh_take {L : List Row} (nd : (L.map fun r => r.1).Nodup) {q : Nat} {r : Row} (h : L[q]? = some r) : (L.take q).any (fun u => decide (u.1 = r.1)) = false := by
  rw [List.any_eq_false]
  intro u mu hu
  obtain ⟨hq, er⟩ := List.getElem?_eq_some_iff.mp h
  obtain ⟨i, hi, rfl⟩ := List.getElem_of_mem mu
  rw [List.length_take] at hi
  have pw := List.pairwise_iff_getElem.mp nd i q (by rw [List.length_map]; omega) (by rw [List.length_map]; exact hq) (by omega)
  rw [List.getElem_map, List.getElem_map, er] at pw
  rw [List.getElem_take] at hu
  exact pw (of_decide_eq_true hu)
theorem eqv_intsD : ∀ ns ms : List Int, PyData.eqv (.list (ns.map PyData.int)) (.list (ms.map PyData.int)) = decide (ns = ms)
  | [], [] => rfl
  | [], _ :: _ => rfl
  | _ :: _, [] => rfl
  | n :: ns, m :: ms => by
    have ih := eqv_intsD ns ms
    show ((n == m) && PyData.eqv (.list (ns.map PyData.int)) (.list (ms.map PyData.int))) = _
    rw [ih]
    by_cases h1 : n = m <;> by_cases h2 : ns = ms <;> simp [h1, h2]
theorem dpAll_ints {K : PySem.W.Frag} {H : Hp} : ∀ ns : List Int, DpAll K H (ns.map V.int) (ns.map PyData.int)
  | [] => .nil
  | n :: ns => .cons (.int n) (dpAll_ints ns)
theorem rg_ints (n : Nat) : rgV 0 (n : Int) = ((List.range n).map fun i : Nat => (0 : Int) + (i : Int)).map V.int := by
  unfold rgV
  rw [List.map_map, show ((n : Int) - 0).toNat = n by omega]
  rfl
theorem ren_mem {L : List Row} (nd : (L.map fun r => r.1).Nodup) : ((ren L).all fun r => decide (r ∈ L)) = decide ((L.map fun r => r.2.2) = (List.range L.length).map fun i : Nat => (0 : Int) + (i : Int)) := by
  rw [Bool.eq_iff_iff, List.all_eq_true, decide_eq_true_eq]
  constructor
  · intro h
    apply List.ext_getElem?
    intro i
    rw [List.getElem?_map, List.getElem?_map]
    by_cases hi : i < L.length
    · rw [List.getElem?_eq_getElem hi, List.getElem?_range hi]
      have mr := of_decide_eq_true (h _ (List.mem_of_getElem? (ren_get L i hi)))
      obtain ⟨j, hj, ej⟩ := List.getElem_of_mem mr
      have ij : j = i := by
        rcases Nat.lt_trichotomy j i with l | l | l
        · have pw := List.pairwise_iff_getElem.mp nd j i (by rw [List.length_map]; exact hj) (by rw [List.length_map]; exact hi) l
          rw [List.getElem_map, List.getElem_map, ej] at pw
          exact absurd rfl pw
        · exact l
        · have pw := List.pairwise_iff_getElem.mp nd i j (by rw [List.length_map]; exact hi) (by rw [List.length_map]; exact hj) l
          rw [List.getElem_map, List.getElem_map, ej] at pw
          exact absurd rfl pw
      subst ij
      have q := congrArg (fun r : Row => r.2.2) ej
      have q : L[j].2.2 = (j : Int) := q
      show some L[j].2.2 = some ((0 : Int) + (j : Int))
      rw [q, Int.zero_add]
    · rw [List.getElem?_eq_none (by omega), List.getElem?_eq_none (by rw [List.length_range]; omega)]
      rfl
  · intro h r mr
    obtain ⟨i, hi, rfl⟩ := List.getElem_of_mem mr
    have hl : i < L.length := by rw [ren_len] at hi; exact hi
    have q := ren_get L i hl
    rw [List.getElem?_eq_getElem hi] at q
    rw [Option.some.inj q]
    have n : L[i].2.2 = (i : Int) := by
      have e := congrArg (fun l => l[i]?) h
      simp only [List.getElem?_map, List.getElem?_range hl, List.getElem?_eq_getElem hl, Option.map_some, Option.some.injEq] at e
      omega
    refine decide_eq_true ?_
    have e : (L[i].1, L[i].2.1, (i : Int)) = L[i] := by rw [← n]
    rw [e]
    exact List.getElem_mem hl
theorem rowB_mem (es : List (Row × Addr)) (r : Row) : rowB es r = decide (r ∈ rowsOf es) := by
  rw [Bool.eq_iff_iff, decide_eq_true_eq]
  unfold rowB rowsOf
  rw [List.any_eq_true, List.mem_map]
  exact ⟨fun ⟨e, m, h⟩ => ⟨e, m, of_decide_eq_true h⟩, fun ⟨e, m, h⟩ => ⟨e, m, decide_eq_true h⟩⟩
/-- the choices put in anew are the same just where no number was skipped -/
theorem eqB_again {eo es rs : List (Row × Addr)} (h : rowsOf eo = ren (rowsOf rs)) (e : rowsOf rs = rowsOf es) (nd : (es.map fun e => e.1.1).Nodup) :
    eqB eo es = PyData.eqv (.list ((rs.map fun r => r.1.2.2).map PyData.int)) (.list (((List.range rs.length).map fun i : Nat => (0 : Int) + (i : Int)).map PyData.int)) := by
  have lr := rows_len e
  have lo : eo.length = es.length := by
    have q := congrArg List.length h
    rw [ren_len] at q
    unfold rowsOf at q
    rw [List.length_map, List.length_map] at q
    omega
  have nd2 := rows_nd e nd
  rw [eqv_intsD]
  have q := ren_mem nd2
  have e1 : (rowsOf rs).map (fun r => r.2.2) = rs.map fun r => r.1.2.2 := by
    unfold rowsOf
    rw [List.map_map]
    rfl
  have e2 : (rowsOf rs).length = rs.length := by
    unfold rowsOf
    exact List.length_map ..
  rw [e1, e2, ← h, e] at q
  rw [← q]
  unfold eqB
  rw [show (eo.length == es.length) = true from beq_iff_eq.mpr lo, Bool.true_and]
  have e3 : (rowsOf eo).all (fun r => decide (r ∈ rowsOf es)) = eo.all fun g => decide (g.1 ∈ rowsOf es) := by
    unfold rowsOf
    rw [List.all_map]
    rfl
  rw [e3]
  congr 1
  funext g
  exact rowB_mem es g.1
end R4

namespace R4
open PySem L2 L3
open C8 (pss_cut tCut pe_gc)
def spLaw (K : PySem.W.Frag) : Sp := fun vs H Q _ => ∃ (a : Addr) (ns : List Int), vs = [.ref a] ∧ SqL K H a (ns.map V.int) ∧ ns.length ≤ 63 ∧ ∀ H', Q (.bl true) H'
/-- the names of built-ins that the module does not hide -/
structure ZN (mg : Str → Option Value) : Prop where
  rng : mg "range" = none
  max_ : mg "max" = none
  min_ : mg "min" = none
  len : mg "len" = none
  isi : mg "isinstance" = none
  int : mg "int" = none
  tup : mg "tuple" = none
  lst : mg "list" = none
  str : mg "str" = none
  rep : mg "repr" = none
  abs_ : mg "abs" = none
  all_ : mg "all" = none
section
variable {P : Program} {w : World} {K : PySem.W.Frag} {mg : Str → Option Value} {base : Heap} {C CI CT CU fi ft fu : Addr}
abbrev NL : List Str := ["_law_script", "_law_k", "_law_feed_here", "_law_titles_here", "_law_choices", "_law_rows", "_law_given", "_law_turn", "_law_form", "_law_title", "_law_many", "_law_here", "_law_before", "_law_done", "_law_other", "_law_number", "_law_row"]
theorem same_dr {a : Addr} {H H1 H2 : Hp} (n : H a = none) (s : Same H H1) (d : Dr a H1 H2) : Same H H2 := fun b u e => d.sm b u (fun z => by rw [z, n] at e; cases e) (s b u e)
theorem scLa : FnScope NL ["_law_script"] (defScope sLaw) := ⟨rfl, rfl, rfl, by decide +kernel, rfl, by decide +kernel, by decide +kernel⟩
structure OwnEq (P : Program) (w : World) (K : PySem.W.Frag) (mg : Str → Option Value) (base : Heap) (C fE : Addr) (fdE : FuncData) : Prop where
  GE : FnOk P w K mg base CX0 1 fE fdE ["self", "other"] (spEq C)
  bE : Binds K fdE ["self", "other"] []
  sE : PySem.W.findIn K (.ref C) "__eq__" = some (some (.ref fE))
  fE : PySem.W.isFn K (.ref fE) = true
  nC : PySem.W.notFirst K C (.ref C) = true
  nL : PySem.W.notFirst K C (.type "list") = true
theorem ok_law {f fF fT fL f0 fO fS fR fU fP fE : Addr} {fd fdF fdT fdL fd0 fdO fdS fdR fdU fdP fdE : FuncData} (F : Fun K "law" "law" sLaw f fd) (T : Txt P K mg C CI CT CU fi ft fu) (z : ZN mg)
    (GF : FnOk P w K mg base CX0 1 fF fdF ["_law_script", "_law_k"] (spFeed K)) (kF : PySem.W.keepIn K (.ref fF) = true) (bF : Binds K fdF ["_law_script", "_law_k"] []) (gF : mg "_law_feed" = some (.ref fF))
    (GT : FnOk P w K mg base CX0 1 fT fdT ["_law_feed_here", "_law_many"] spTake) (kT : PySem.W.keepIn K (.ref fT) = true) (bT : Binds K fdT ["_law_feed_here", "_law_many"] []) (gT : mg "_law_take" = some (.ref fT))
    (GL : FnOk P w K mg base CX0 3 fL fdL ["_law_feed_here", "_law_many"] (spTitles G12)) (kL : PySem.W.keepIn K (.ref fL) = true) (bL : Binds K fdL ["_law_feed_here", "_law_many"] []) (gL : mg "_law_titles" = some (.ref fL))
    (M : Mk K C f0) (GI : FnOk P w K mg base CX0 1 f0 fd0 ["self"] (spInit C)) (b0 : Binds K fd0 ["self"] [])
    (GO : FnOk P w K mg base CX0 2 fO fdO ["_law_feed_here", "_law_title"] spOdd) (kO : PySem.W.keepIn K (.ref fO) = true) (bO : Binds K fdO ["_law_feed_here", "_law_title"] []) (gO : mg "_law_odd" = some (.ref fO))
    (GS : FnOk P w K mg base CX0 4 fS fdS ["_law_choices", "_law_form", "_law_title", "_law_many"] (spStep C)) (kS : PySem.W.keepIn K (.ref fS) = true) (bS : Binds K fdS ["_law_choices", "_law_form", "_law_title", "_law_many"] []) (gS : mg "_law_step" = some (.ref fS))
    (GR : FnG P w K mg base CX0 4 fR fdR ["_law_choices", "_law_rows"] (spRight C)) (kR : PySem.W.keepIn K (.ref fR) = true) (bR : Binds K fdR ["_law_choices", "_law_rows"] []) (gR : mg "_law_right" = some (.ref fR))
    (GU : FnOk P w K mg base CX0 4 fU fdU ["_law_choices", "_law_form", "_law_title"] (spUnk C)) (kU : PySem.W.keepIn K (.ref fU) = true) (bU : Binds K fdU ["_law_choices", "_law_form", "_law_title"] []) (gU : mg "_law_unknown" = some (.ref fU))
    (GP : FnOk P w K mg base (L2.CX P w) 3 fP fdP ["self", "name", "many"] (spPut C CI CT)) (mP : Meth K C "put" fP) (bP : Binds K fdP ["self", "name", "many"] [])
    (OE : OwnEq P w K mg base C fE fdE) (TE : TxE K mg C) :
    FnG P w K mg base CX0 5 f fd ["_law_script"] (spLaw K) := by
  refine gok F scLa (fun vs H Q E h => ?_) (fun cdv A outer s H vs Q E g hr h => ?_)
  · obtain ⟨a, ns, rfl, _⟩ := h
    rfl
  · obtain ⟨s0, ns, rfl, hS, hn, k⟩ := h
    have R1 : Room 1 _ := hr.mono (by decide)
    have R2 : Room 2 _ := hr.mono (by decide)
    have R3 : Room 3 _ := hr.mono (by decide)
    have hu := hr.units
    have nd := scLa.nd
    have gA : Calm _ := g
    have Tcl := T.cl
    have ownT : ∀ {H : Hp} {c : Addr} {es : List (Row × Addr)} {nx : Int}, ChAt C H c es nx → TyX K H (.ref c) (.ref C) := fun ⟨dx, tn, td, hcc, _⟩ => .base (.ins hcc Tcl TE.cA TE.cG TE.cT TE.cM)
    -- TERM
    refine ⟨_, (pss_cons (ps_for PassesOwn.never rfl (pi_range1 (by rfl) z.rng (pa_cons (pe_callB (call_max2 rfl) (by rfl) z.max_ PyProof.Rows.boot_max (pa_cons pe_int (pa_cons (pe_callB (call_min2 rfl) (by rfl) z.min_ PyProof.Rows.boot_min (pa_cons pe_int (pa_cons (pe_callB call_len_seq (by rfl) z.len PySem.boot_len (pa_cons (pv 0) pa_nil)) pa_nil))) pa_nil))) pa_nil)) (pg_name (i := 1) nd rfl (.inl rfl)) (pss_cons (ps_set (i := 2) nd rfl (.inl rfl) (pe_call GF R1 (by rfl) gF kF bF .nil pass0 (pa_cons (pv 0) (pa_cons (pv 1) pa_nil))))
      (pss_cons (ps_asg (pe_tup (pa_cons (pe_op op_cat (pe_call GL R3 (by rfl) gL kL bL .nil pass0 (pa_cons (pv 2) (pa_cons pe_int pa_nil))) (pe_lst (pa_cons pe_str (pa_cons pe_str pa_nil)))) (pa_cons (pe_make0 M GI R2 (by rfl) T.gC b0 .nil pass0) (pa_cons (pe_lst pa_nil) (pa_cons pe_int pa_nil))))) (pg_tup (by rfl) (pgs_cons (pg_name (i := 3) nd rfl (.inl rfl)) (pgs_cons (pg_name (i := 4) nd rfl (.inl rfl)) (pgs_cons (pg_name (i := 5) nd rfl (.inl rfl)) (pgs_cons (pg_name (i := 6) nd rfl (.inl rfl)) pgs_nil))))))
      (pss_cons (ps_for PassesOwn.never rfl (pi_range1 (by rfl) z.rng (pa_cons (pe_op op_add pe_int (pe_call GT R1 (by rfl) gT kT bT .nil pass0 (pa_cons (pv 2) (pa_cons pe_int pa_nil)))) pa_nil)) (pg_name (i := 7) nd rfl (.inl rfl)) (pss_cut (ps_asg (pe_tup (pa_cons (pe_callTy call_int1 (by rfl) z.int PyProof.Rows.boot_int (pa_cons (pe_cmpR op_eq (pe_call GT R1 (by rfl) gT kT bT .nil pass0 (pa_cons (pv 2) (pa_cons pe_int pa_nil))) pe_int (nomark _)) pa_nil)) (pa_cons (pe_ix (r := rIxL K) (by exact ix_list) (pv 3) (pe_call GT R1 (by rfl) gT kT bT .nil pass0 (pa_cons (pv 2) (pa_cons pe_int pa_nil))) (fun _ _ => rfl)) (pa_cons (pe_op op_add pe_int (pe_call GT R1 (by rfl) gT kT bT .nil pass0 (pa_cons (pv 2) (pa_cons pe_int pa_nil)))) pa_nil)))) (pg_tup (by rfl) (pgs_cons (pg_name (i := 8) nd rfl (.inl rfl)) (pgs_cons (pg_name (i := 9) nd rfl (.inr rfl)) (pgs_cons (pg_name (i := 10) nd rfl (.inl rfl)) pgs_nil)))))
      (pss_cons (ps_setLc (i := 11) (own := [("_law_row", 16)]) (g := gName 16) rfl nd rfl rfl (sw_true rfl rfl rfl (by decide +kernel)) (pi_list (pv 5)) (blkOk_by (N := NL) (sc := defScope sLaw) (by decide +kernel)) (fun _ _ _ _ _ => pg_name (i := 16) nd rfl (.inl rfl)) (fun _ _ _ _ _ => pts_one (pt_cmpR op_eq (pe_ix (r := rIxT K) (by exact ix_tup) (pv 16) pe_int (fun _ _ => rfl)) (pv 9) (nomark _))) (fun _ _ _ _ _ => pv 16))
      (pss_cut (ps_if (pt_cmpR op_eq (pe_call GT R1 (by rfl) gT kT bT .nil pass0 (pa_cons (pv 2) (pa_cons pe_int pa_nil))) pe_int (nomark _)) (pss_cons (ps_set (i := 9) nd rfl (.inr rfl) (pe_call GO R2 (by rfl) gO kO bO .nil pass0 (pa_cons (pv 2) (pa_cons (pv 9) pa_nil))))
      (pss_one (ps_if (pt_cmpR (op_neD hu) (pe_call GS hr (by rfl) gS kS bS .nil pass0 (pa_cons (pv 4) (pa_cons pe_int (pa_cons (pv 9) (pa_cons (pv 10) pa_nil))))) (pe_tup (pa_cons pe_str (pa_cons (pv 9) pa_nil))) (nomark _)) (pss_one (ps_ret pe_bl)) pss_nil))) (pss_one (ps_if (pt_cmpR op_eq (pe_cmpR (op_eqD hu) (pv 11) (pe_lst pa_nil) (nomark _)) (pe_cmpR op_eq (pv 8) pe_int (nomark _)) (nomark _)) (pss_one (ps_if (pt_cmpR (op_neD hu) (pe_call GS hr (by rfl) gS kS bS .nil pass0 (pa_cons (pv 4) (pa_cons (pv 8) (pa_cons (pv 9) (pa_cons (pv 10) pa_nil))))) (pe_tup (pa_cons (pe_ix (r := rIxL K) (by exact ix_list) (pe_lst (pa_cons pe_str (pa_cons pe_str pa_nil))) (pv 8) (fun _ _ => rfl)) (pa_cons (pv 9) pa_nil))) (nomark _)) (pss_one (ps_ret pe_bl)) pss_nil)) (pss_cons (ps_par (i := 12) (j := 13) (by rfl) nd rfl rfl (by decide) rfl rfl (pa_cons (pv 4) (pa_cons (pe_call GS hr (by rfl) gS kS bS .nil pass0 (pa_cons (pv 4) (pa_cons (pv 8) (pa_cons (pv 9) (pa_cons (pv 10) pa_nil))))) pa_nil)) (by rfl))
      (pss_cons (ps_if (PW.pt (pw_or (pt_cmpR op_ne (pe_ix (r := rIxT K) (by exact ix_tup) (pv 13) pe_int (fun _ _ => rfl)) pe_str (nomark _)) (pw_or1 (pt_not (pt_val (pe_callG GR gA hr (by rfl) gR kR bR .nil pass0 (pa_cons (pv 12) (pa_cons (pv 5) pa_nil)))))))) (pss_one (ps_ret pe_bl)) pss_nil)
      (pss_cons (ps_set (i := 4) nd rfl (.inl rfl) (pe_ix (r := rIxT K) (by exact ix_tup) (pv 13) pe_int (fun _ _ => rfl)))
      (pss_cons (ps_set (i := 5) nd rfl (.inl rfl) (pe_op op_cat (pe_lc (own := [("_law_row", 16)]) (g := gName 16) rfl nd (pi_list (pv 5)) (blkOk_by (N := NL) (sc := defScope sLaw) (by decide +kernel)) (fun _ _ _ _ _ => pg_name (i := 16) nd rfl (.inl rfl)) (fun _ _ _ _ _ => pts_one (pt_cmpR op_ne (pe_ix (r := rIxT K) (by exact ix_tup) (pv 16) pe_int (fun _ _ => rfl)) (pv 9) (nomark _))) (fun _ _ _ _ _ => pv 16)) (pe_op op_rep (pe_lst (pa_cons (pe_tup (pa_cons (pv 9) (pa_cons (pv 10) (pa_cons (pv 6) pa_nil)))) pa_nil)) (pe_callTy call_int1 (by rfl) z.int PyProof.Rows.boot_int (pa_cons (pe_cmpR op_eq (pv 8) pe_int (nomark _)) pa_nil)))))
      (pss_cons (ps_set (i := 6) nd rfl (.inl rfl) (pe_op op_add (pv 6) (pe_callTy call_int1 (by rfl) z.int PyProof.Rows.boot_int (pa_cons (pe_cmpR op_eq (pv 8) pe_int (nomark _)) pa_nil))))
      (pss_one (ps_if (PW.pt (pw_or (pt_cmpR (op_ownEq OE.GE R1 OE.bE (E := E0) pass0 OE.sE OE.fE) (pv 4) (pv 12) (nomark _)) (pw_or1 (pt_cmpR (op_ownEq OE.GE R1 OE.bE (E := E0) pass0 OE.sE OE.fE) (pv 4) (pv 5) (nomark _))))) (pss_one (ps_ret pe_bl)) pss_nil))))))))))
      (pss_one (ps_if (PW.pt (pw_or (pt_not (pt_val (pe_callG GR gA hr (by rfl) gR kR bR .nil pass0 (pa_cons (pv 4) (pa_cons (pv 5) pa_nil))))) (pw_or1 (pt_cmpR op_ne (pe_call GU hr (by rfl) gU kU bU .nil pass0 (pa_cons (pv 4) (pa_cons (pv 8) (pa_cons pe_str pa_nil)))) pe_str (nomark _))))) (pss_one (ps_ret pe_bl)) pss_nil))))))
      (pss_cons (ps_set (i := 14) nd rfl (.inl rfl) (pe_make0 M GI R2 (by rfl) T.gC b0 .nil pass0))
      (pss_cons (ps_for PassesOwn.never rfl (pi_list (pv 5)) (pg_tup (by rfl) (pgs_cons (pg_name (i := 9) nd rfl (.inr rfl)) (pgs_cons (pg_name (i := 10) nd rfl (.inl rfl)) (pgs_cons (pg_name (i := 15) nd rfl (.inl rfl)) pgs_nil)))) (pss_one (ps_set (i := 14) nd rfl (.inl rfl) (pe_methX (ES := fun _ => E0) (pv 14) T.cl mP GP R3 bP (fun σ pins H s e s' I c => passL pins σ H s e s' I c) (pa_cons (pv 9) (pa_cons (pv 10) pa_nil))))))
      (pss_one (ps_if (pt_cmpR op_ne (pe_cmpR (op_ownEq OE.GE R1 OE.bE (E := E0) pass0 OE.sE OE.fE) (pv 14) (pv 4) (nomark _)) (pe_cmpR (op_eqD hu) (pe_lc (own := [("_law_row", 16)]) (g := gName 16) (tt := tYes) rfl nd (pi_list (pv 5)) (blkOk_by (N := NL) (sc := defScope sLaw) (by decide +kernel)) (fun _ _ _ _ _ => pg_name (i := 16) nd rfl (.inl rfl)) (fun _ _ _ _ _ => pts_nil) (fun _ _ _ _ _ => pe_ix (r := rIxT K) (by exact ix_tup) (pv 16) pe_int (fun _ _ => rfl))) (pe_listRg (by rfl) (by rfl) z.lst (prg_1 (by rfl) z.rng (pe_callB call_len_seq (by rfl) z.len PySem.boot_len (pa_cons (pv 5) pa_nil)))) (nomark _)) (nomark _)) (pss_one (ps_ret pe_bl)) pss_nil))))))))
      (pss_one (ps_ret pe_bl))), ?_⟩
    have hlen : (ns.map V.int).length = ns.length := List.length_map ..
    have s2z : 2 ≤ sizeLine := by decide
    refine ⟨_, rfl, s0, _, rfl, .inl hS, _, _, rfl, _, _, rfl, _, rfl, ?_, ?_, for_range (fun i σ H' => ∃ v1 v2 v3 v4 v5 v6 v7 v8 v9 v10 v11 v12 v13 v14 v15 v16 : Option V, σ = [some (.ref s0), v1, v2, v3, v4, v5, v6, v7, v8, v9, v10, v11, v12, v13, v14, v15, v16] ∧ Same H H')
      ⟨none, none, none, none, none, none, none, none, none, none, none, none, none, none, none, none, rfl, Same.refl H⟩ ?_ ?_⟩
    · split <;> omega
    · split <;> (try split) <;> omega
    · rintro i σ Hs hi ⟨v1, v2, v3, v4, v5, v6, v7, v8, v9, v10, v11, v12, v13, v14, v15, v16, rfl, sH⟩
      have hi3 : i < 3 := by
        refine Nat.lt_of_lt_of_le hi ?_
        split <;> (try split) <;> omega
      refine ⟨_, rfl, _, rfl, s0, ns, i, (by rw [Int.zero_add]; rfl), sH.seq hS, hn, by omega, fun a H1 ha S1 fd1 => ?_⟩
      refine ⟨_, rfl, a, 12, rfl, fd1, by decide, fun p tt H2 hp d2 ep gn => ?_⟩
      obtain ⟨l12, okt⟩ := gn rfl
      refine ⟨s2z, fun l2 hl2 => ⟨p, l2, _, _, rfl, rfl, same_new hl2 _ _ ep, upd_same, ?_, fun T hT => ?_⟩⟩
      · rw [List.length_map, l12]
        decide
      have eT0 : tt.map V.str ++ [V.str (Str.ofString "d.0"), V.str (Str.ofString "ab.17")] = (tt ++ [Str.ofString "d.0", Str.ofString "ab.17"]).map V.str := by
        rw [List.map_append]
        rfl
      have okts : ∀ t ∈ tt ++ [Str.ofString "d.0", Str.ofString "ab.17"], OkT t := fun t m => okT_of (by
        rcases List.mem_append.mp m with m | m
        · exact okt t m
        · simp only [List.mem_cons, List.not_mem_nil, or_false] at m
          rcases m with rfl | rfl
          · exact okT_d0
          · exact okT_ab)
      have n14 : (tt ++ [Str.ofString "d.0", Str.ofString "ab.17"]).length = 14 := by
        rw [List.length_append, l12]
        rfl
      have d3 := dr_same (dr_same d2 (same_new (o := .lst [V.str (Str.ofString "d.0"), V.str (Str.ofString "ab.17")]) hl2)) (same_new (o := .lst (tt.map V.str ++ [V.str (Str.ofString "d.0"), V.str (Str.ofString "ab.17")])) hT)
      have eT : (upd (upd H2 l2 (.lst [V.str (Str.ofString "d.0"), V.str (Str.ofString "ab.17")])) T (.lst (tt.map V.str ++ [V.str (Str.ofString "d.0"), V.str (Str.ofString "ab.17")]))) T = some (.lst ((tt ++ [Str.ofString "d.0", Str.ofString "ab.17"]).map V.str)) := by
        rw [← eT0]
        exact upd_same
      generalize tt ++ [Str.ofString "d.0", Str.ofString "ab.17"] = ts at okts n14 eT
      generalize upd (upd H2 l2 (.lst [V.str (Str.ofString "d.0"), V.str (Str.ofString "ab.17")])) T (.lst (tt.map V.str ++ [V.str (Str.ofString "d.0"), V.str (Str.ofString "ab.17")])) = H3 at d3 eT
      refine fun c dx hc hdx ne => ⟨c, dx, rfl, upd_same, fun H4 tn td keep ec cp4 h1 h2 => ⟨rfl, ?_⟩⟩
      have s4 : Same H3 H4 := fun b o eb => keep b o (ne_of_none eb hc) (by rw [upd_ne (ne_of_none eb hc), upd_ne (ne_of_none eb hdx)]; exact eb)
      refine ⟨Nat.zero_le _, fun l hl => ⟨(by show 4 ≤ sizeLine; decide), fun q hq => ?_⟩⟩
      have s5 := s4.trans ((same_new (o := .lst []) hl).trans (same_new (o := .tup [.ref T, .ref c, .ref l, .int 0]) hq))
      have sit : Sit C a T c l ts [] [] 0 (upd (upd H4 l (.lst [])) q (.tup [.ref T, .ref c, .ref l, .int 0])) := by
        have ch4 : ChAt C H4 c [] 0 := ⟨dx, tn, td, ec, cp4⟩
        have sx := (same_new (o := .lst []) hl).trans (same_new (o := .tup [.ref T, .ref c, .ref l, .int 0]) hq)
        exact ⟨feed_same s5 d3.fd, s5 _ _ eT, ch4.same sx, ⟨same_new hq _ _ upd_same, fun r m => (nomatch m)⟩, rfl, fun e m => (nomatch m), n14⟩
      refine ⟨q, _, rfl, SqT.of upd_same, rfl, _, _, rfl, _, _, rfl, _, _, rfl, _, _, rfl, rfl, ?_⟩
      have d5 := dr_same d3 s5
      generalize upd (upd H4 l (.lst [])) q (.tup [.ref T, .ref c, .ref l, .int 0]) = H5 at d5 sit
      clear s5 s4 keep cp4 ec h1 h2 eT d3 d2 ep hp hT
      refine ⟨_, rfl, a, 25, rfl, d5.fd, by decide, by decide, fun r6 H6 r60 r61 d6 => ?_⟩
      obtain ⟨n6, rfl⟩ : ∃ n : Nat, r6 = n := ⟨r6.toNat, by omega⟩
      refine ⟨_, _, rfl, rfl, _, rfl, by omega, by omega, for_range (fun j σ H' => ∃ (c l : Addr) (nx : Int) (es rs : List (Row × Addr)) (w7 w8 w9 w10 w11 w12 w13 w14 w15 w16 : Option V), σ = [some (.ref s0), some (.int (0 + (i : Int))), some (.ref a), some (.ref T), some (.ref c), some (.ref l), some (.int nx), w7, w8, w9, w10, w11, w12, w13, w14, w15, w16] ∧ Sit C a T c l ts es rs nx H' ∧ es.length ≤ j ∧ Dr a H1 H')
        ⟨c, l, 0, [], [], v7, v8, v9, v10, v11, v12, v13, v14, v15, v16, rfl, sit.dr d6, Nat.le_refl _, d5.trans d6⟩ ?_ ?_⟩
      · rintro j σ H7 hj ⟨c, l, nx, es, rs, w7, w8, w9, w10, w11, w12, w13, w14, w15, w16, rfl, sit, lej, d7⟩
        have j31 : j < 31 := by omega
        refine ⟨fun σ H' => ∃ (form m : Int) (t : Str), σ = [some (.ref s0), some (.int (0 + (i : Int))), some (.ref a), some (.ref T), some (.ref c), some (.ref l), some (.int nx), some (.int (0 + (j : Int))), some (.int form), some (.str t), some (.int m), w11, w12, w13, w14, w15, w16] ∧ (form = 0 ∨ form = 1) ∧ OkT t ∧ Sit C a T c l ts es rs nx H' ∧ Dr a H1 H', ?_, ?_⟩
        · refine ⟨_, rfl, a, 3, rfl, sit.fd, by decide, by decide, fun r1 H8 r10 r11 e1 => ⟨rfl, .inr ⟨_, rfl, _, rfl, _, rfl, a, 14, rfl, e1.fd, by decide, by decide, fun r2 H9 r20 r21 e2 => ?_⟩⟩⟩
          obtain ⟨n2, rfl⟩ : ∃ n : Nat, r2 = n := ⟨r2.toNat, by omega⟩
          have hn2 : n2 < ts.length := by rw [sit.n14]; omega
          have sit9 := (sit.dr e1).dr e2
          refine ⟨T, _, _, .str ts[n2], rfl, rfl, SqL.of sit9.tl, atI_nat (by rw [List.getElem?_map, List.getElem?_eq_getElem hn2]; rfl), ?_⟩
          refine ⟨_, rfl, a, 3, rfl, e2.fd, by decide, by decide, fun r3 H10 r30 r31 e3 => ⟨_, _, rfl, rfl, (by show 3 ≤ sizeLine; decide), fun q hq => ?_⟩⟩
          refine ⟨q, _, rfl, SqT.of upd_same, rfl, _, _, rfl, _, _, rfl, _, _, rfl, rfl, ?_⟩
          have sq := same_new (o := .tup [.int (if decide (V.int r1 = V.int 0) = true then 1 else 0), .str ts[n2], .int (2 + r3)]) hq
          refine ⟨_, _, _, rfl, ?_, okts _ (List.getElem_mem hn2), (sit9.dr e3).same sq, dr_same (((d7.trans e1).trans e2).trans e3) sq⟩
          split
          · exact .inr rfl
          · exact .inl rfl
        · rintro σ H8 ⟨form, m, t, rfl, hf, okt8, sit8, d8⟩
          have lsz := sizeLine_eq
          have lr := rows_len sit8.eq
          refine ⟨_, rfl, l, rfl, ⟨_, SqL.of sit8.rw_.l⟩, fun B hB => lc_list (K := K) (a := l) (xs := rs.map fun r => V.ref r.2) (fun q H' => H' = upd H8 B (.lst (((rs.take q).filter fun r => decide (r.1.1 = t)).map fun r => V.ref r.2))) rfl (fun q H' _ h => by rw [h]; exact SqL.of (same_new hB _ _ sit8.rw_.l)) ?_ ?_⟩
          · rintro q x H9 hx rfl
            rw [List.getElem?_map] at hx
            obtain ⟨r, hr1, rfl⟩ := Option.map_eq_some_iff.mp hx
            refine ⟨rfl, _, rfl, r.2, _, _, .str r.1.1, rfl, rfl, SqT.of (same_new hB _ _ (sit8.rw_.at_ r (List.mem_of_getElem? hr1))), atN (j := 0) rfl rfl, _, rfl, rfl, _, rfl, ?_⟩
            have ft := tf (fun r : Row × Addr => decide (r.1.1 = t)) (fun r => V.ref r.2) hr1
            by_cases q0 : r.1.1 = t
            · refine ifT (decide_eq_true (congrArg V.str q0)) ⟨_, rfl, _, upd_same, ?_, ?_⟩
              · have := tf_len (fun r : Row × Addr => decide (r.1.1 = t)) (fun r => V.ref r.2) rs q
                omega
              · rw [upd_two, ft, if_pos (decide_eq_true q0)]
            · refine ifF (decide_eq_false fun h => q0 (V.str.inj h)) ?_
              show upd H8 B _ = upd H8 B _
              rw [ft, if_neg (by rw [decide_eq_false q0]; exact Bool.false_ne_true), List.append_nil]
          · rintro H9 rfl
            rw [List.length_map, List.take_of_length_le (Nat.le_refl rs.length)]
            have sB := same_new (o := .lst ((rs.filter fun r => decide (r.1.1 = t)).map fun r => V.ref r.2)) hB
            have sit9 := sit8.same sB
            have d9 := dr_same d8 sB
            have eB : (upd H8 B (.lst ((rs.filter fun r => decide (r.1.1 = t)).map fun r => V.ref r.2))) B = some (.lst ((rs.filter fun r => decide (r.1.1 = t)).map fun r => V.ref r.2)) := upd_same
            generalize upd H8 B (.lst ((rs.filter fun r => decide (r.1.1 = t)).map fun r => V.ref r.2)) = H9 at sit9 d9 eB ⊢
            clear sB sit8 d8
            refine ⟨fun σ H' => ∃ (c l : Addr) (nx form : Int) (es rs : List (Row × Addr)) (w9 w10 w11 w12 w13 w14 w15 w16 : Option V), σ = [some (.ref s0), some (.int (0 + (i : Int))), some (.ref a), some (.ref T), some (.ref c), some (.ref l), some (.int nx), some (.int (0 + (j : Int))), some (.int form), w9, w10, w11, w12, w13, w14, w15, w16] ∧ Sit C a T c l ts es rs nx H' ∧ es.length ≤ j + 1 ∧ Dr a H1 H', ?_, ?_⟩
            · refine ⟨_, rfl, a, 6, rfl, d9.fd, by decide, by decide, fun r6 H10 r60 r61 e1 => ⟨rfl, _, rfl, ?_⟩⟩
              have sit10 := sit9.dr e1
              have d10 := d9.trans e1
              refine iteD (fun h6 => ?_) (fun h6 => ?_)
              · -- a name of another form
                refine ⟨_, rfl, _, rfl, a, t, rfl, e1.fd, okt8.le, fun jj H11 j8 e2 => ?_⟩
                have sit11 := sit10.dr e2
                obtain ⟨o1, o2, o3⟩ := okt8.odd jj j8
                refine ⟨_, rfl, _, rfl, _, rfl, c, 0, m, nx, oddS jj t, es, rfl, sit11.ch, by omega, by omega, fun y hy p H12 s12 np ep => ?_, fun hn => ?_⟩
                · rw [due0 o3] at hy
                  cases hy
                  refine ⟨_, rfl, s2z, fun p2 hp2 => ?_⟩
                  have sp2 := same_new (o := .tup [.str (Str.ofString "invalid"), .str (oddS jj t)]) hp2
                  have iok : PyData.strOk (Str.ofString "invalid") = true := by decide +kernel
                  refine ⟨.tuple [.str (Str.ofString "invalid"), .str (oddS jj t)], .tuple [.str (Str.ofString "invalid"), .str (oddS jj t)], .tup (SqT.of (sp2 _ _ ep)) (.cons (.str _) (.cons (.str _) .nil)), .tup (SqT.of upd_same) (.cons (.str _) (.cons (.str _) .nil)), shaped_two iok o2, shaped_two iok o2, _, rfl, ifF (by rw [eqv_two]; rfl) ?_⟩
                  exact ⟨c, l, nx, form, es, rs, _, _, _, _, _, _, _, _, rfl, sit11.same (s12.trans sp2), by omega, dr_same (d10.trans e2) (s12.trans sp2)⟩
                · rw [due0 o3] at hn
                  cases hn
              · -- what is due, or done
                refine ⟨_, rfl, Nat.zero_le _, fun e he => ?_⟩
                have sE := same_new (o := .lst []) he
                have sit11 := sit10.same sE
                have d11 := dr_same d10 sE
                have okr : ∀ r ∈ rs.filter (fun r : Row × Addr => decide (r.1.1 = t)), PyData.strOk r.1.1 = true := fun r mr => by
                  rw [of_decide_eq_true (List.mem_filter.mp mr).2]
                  exact okt8.ok
                have rB : B ≠ a := by
                  obtain ⟨x, y, hx, _⟩ := sit9.fd
                  refine ne_of eB hx fun z => ?_
                  injection z with z
                  revert z
                  generalize (rs.filter fun r : Row × Addr => decide (r.1.1 = t)) = fs
                  intro z
                  cases fs with
                  | nil => cases z
                  | cons u us => injection z with z; cases z
                have eB11 := sE _ _ (e1.sm _ _ rB eB)
                refine ⟨.list ((rs.filter fun r => decide (r.1.1 = t)).map rowD), .list [], .lst (SqL.of eB11) (rows_dp fun r mr => sit11.rw_.at_ r (List.mem_filter.mp mr).1), .lst (SqL.of upd_same) .nil, rows_shaped okr, by decide +kernel, _, rfl, rfl, rfl, _, rfl, ?_⟩
                have hemp : PyData.eqv (.list ((rs.filter fun r => decide (r.1.1 = t)).map rowD)) (.list []) = !hasB t es := by
                  rw [eqv_nil, List.isEmpty_map, has_rows, ← sit9.eq]
                  unfold rowsOf
                  rw [List.any_map]
                  generalize rs = l0
                  induction l0 with
                  | nil => rfl
                  | cons u us ih =>
                    rw [List.filter_cons, List.any_cons]
                    show _ = !((decide (u.1.1 = t)) || _)
                    cases q : decide (u.1.1 = t)
                    · exact ih
                    · rfl
                rw [hemp]
                refine iteD (fun hx => ?_) (fun hx => ?_)
                · have du := due_err hf okt8.ch (V.bl.inj hx)
                  refine ⟨_, rfl, _, rfl, _, rfl, _, rfl, c, form, m, nx, t, es, rfl, sit11.ch, by have := okt8.le; omega, by omega, fun y hy p H12 s12 np ep => ?_, fun hn => ?_⟩
                  · rw [du] at hy
                    cases hy
                    refine ⟨s2z, fun l3 hl3 => ⟨_, rfl, l3, _, _, _, rfl, rfl, SqL.of upd_same, word_at hf, _, rfl, s2z, fun p2 hp2 => ?_⟩⟩
                    have s13 := same_new (o := .lst [V.str (Str.ofString "taken"), V.str (Str.ofString "unknown")]) hl3
                    have sp2 := same_new (o := .tup [.str (word form), .str t]) hp2
                    refine ⟨.tuple [.str (word form), .str t], .tuple [.str (word form), .str t], .tup (SqT.of (sp2 _ _ (s13 _ _ ep))) (.cons (.str _) (.cons (.str _) .nil)), .tup (SqT.of upd_same) (.cons (.str _) (.cons (.str _) .nil)), shaped_two (word_ok hf) okt8.ok, shaped_two (word_ok hf) okt8.ok, _, rfl, ifF (by rw [eqv_two]; rfl) ?_⟩
                    exact ⟨c, l, nx, form, es, rs, _, _, _, _, _, _, _, _, rfl, sit11.same ((s12.trans s13).trans sp2), by omega, dr_same d11 ((s12.trans s13).trans sp2)⟩
                  · rw [du] at hn
                    cases hn
                · have du := due_none hf okt8.ch fun q => hx (congrArg V.bl q)
                  refine ⟨_, rfl, _, rfl, _, rfl, _, rfl, _, rfl, c, form, m, nx, t, es, rfl, sit11.ch, by have := okt8.le; omega, by omega, fun y hy => ?_, fun _ c' es' p H12 s12 nc np ch' er ep => ?_⟩
                  · rw [du] at hy
                    cases hy
                  have sit12 := sit11.same s12
                  have d12 := dr_same d11 s12
                  refine ⟨_, _, rfl, _, rfl, p, _, _, .str (Str.ofString "done"), rfl, rfl, SqT.of ep, atN (j := 0) rfl rfl, rfl, _, rfl, ifF (by rw [decide_eq_true rfl]; rfl) ?_⟩
                  refine ⟨_, rfl, _, rfl, c, l, nx, es, rs, rfl, sit12.ch, sit12.rw_, sit12.eq, sit12.ok, fun H13 s13 => ⟨_, rfl, ifF rfl ?_⟩⟩
                  refine ⟨_, rfl, p, _, _, .ref c', rfl, rfl, SqT.of (s13 _ _ ep), atN (j := 1) rfl rfl, ?_⟩
                  have sit13 := sit12.same s13
                  have d13 := dr_same d12 s13
                  have ch13 := ch'.same s13
                  clear sit12 d12 ch' s13 ep
                  refine ⟨_, rfl, l, rfl, ⟨_, SqL.of sit13.rw_.l⟩, fun D hD => lc_list (K := K) (a := l) (xs := rs.map fun r => V.ref r.2) (fun q H' => H' = upd H13 D (.lst (((rs.take q).filter fun r => !decide (r.1.1 = t)).map fun r => V.ref r.2))) rfl (fun q H' _ h => by rw [h]; exact SqL.of (same_new hD _ _ sit13.rw_.l)) ?_ ?_⟩
                  · rintro q x H14 hx rfl
                    rw [List.getElem?_map] at hx
                    obtain ⟨r, hr1, rfl⟩ := Option.map_eq_some_iff.mp hx
                    refine ⟨rfl, _, rfl, r.2, _, _, .str r.1.1, rfl, rfl, SqT.of (same_new hD _ _ (sit13.rw_.at_ r (List.mem_of_getElem? hr1))), atN (j := 0) rfl rfl, _, rfl, rfl, _, rfl, ?_⟩
                    have ft := tf (fun r : Row × Addr => !decide (r.1.1 = t)) (fun r => V.ref r.2) hr1
                    by_cases q0 : r.1.1 = t
                    · refine ifF (by rw [decide_eq_true (congrArg V.str q0)]; rfl) ?_
                      show upd H13 D _ = upd H13 D _
                      rw [ft, if_neg (by rw [decide_eq_true q0]; exact Bool.false_ne_true), List.append_nil]
                    · refine ifT (by rw [decide_eq_false fun h => q0 (V.str.inj h)]; rfl) ⟨_, rfl, _, upd_same, ?_, ?_⟩
                      · have := tf_len (fun r : Row × Addr => !decide (r.1.1 = t)) (fun r => V.ref r.2) rs q
                        omega
                      · rw [upd_two, ft, if_pos (by rw [decide_eq_false q0]; rfl)]
                  rintro H14 rfl
                  rw [List.length_map, List.take_of_length_le (Nat.le_refl rs.length)]
                  have sD := same_new (o := .lst ((rs.filter fun r => !decide (r.1.1 = t)).map fun r => V.ref r.2)) hD
                  have eD : (upd H13 D (.lst ((rs.filter fun r => !decide (r.1.1 = t)).map fun r => V.ref r.2))) D = some (.lst ((rs.filter fun r => !decide (r.1.1 = t)).map fun r => V.ref r.2)) := upd_same
                  have sit14 := sit13.same sD
                  have d14 := dr_same d13 sD
                  have ch14 := ch13.same sD
                  generalize upd H13 D (.lst ((rs.filter fun r => !decide (r.1.1 = t)).map fun r => V.ref r.2)) = H14 at sD eD sit14 d14 ch14 ⊢
                  clear sit13 d13 ch13 sD
                  have lf : ((rs.filter fun r => !decide (r.1.1 = t)).map fun r => V.ref r.2).length ≤ 100 := by
                    rw [List.length_map]
                    exact Nat.le_trans (List.length_filter_le _ _) (by omega)
                  refine ⟨_, rfl, _, rfl, _, rfl, (by show 3 ≤ sizeLine; decide), fun tp htp => ⟨(by show 1 ≤ sizeLine; decide), fun l4 hl4 => ⟨_, rfl, rfl, .inr ⟨_, rfl, l4, _, _, rfl, rfl, upd_same, ?_, ?_, ?_, fun l5 hl5 => ⟨D, l5, ((rs.filter fun r => !decide (r.1.1 = t)).map fun r => V.ref r.2), _, rfl, rfl, ?_, upd_same, ?_, fun l6 hl6 => ?_⟩⟩⟩⟩⟩
                  · split <;> decide
                  · split <;> decide
                  · split
                    · show 1 * 1 ≤ sizeLine
                      decide
                    · show 1 * 0 ≤ sizeLine
                      decide
                  · exact same_new hl5 _ _ (same_new hl4 _ _ (same_new htp _ _ eD))
                  · have : (List.replicate (if decide (V.int form = V.int 0) = true then (1 : Int) else 0).toNat [V.ref tp]).flatten.length ≤ 1 := by
                      split <;> simp
                    omega
                  have sZ := ((same_new (o := .tup [.str t, .int m, .int nx]) htp).trans (same_new (o := .lst [.ref tp]) hl4)).trans ((same_new (o := .lst (List.replicate (if decide (V.int form = V.int 0) = true then (1 : Int) else 0).toNat [V.ref tp]).flatten) hl5).trans (same_new (o := .lst (((rs.filter fun r => !decide (r.1.1 = t)).map fun r => V.ref r.2) ++ (List.replicate (if decide (V.int form = V.int 0) = true then (1 : Int) else 0).toNat [V.ref tp]).flatten)) hl6))
                  have etp := (((same_new (o := .lst [.ref tp]) hl4).trans (same_new (o := .lst (List.replicate (if decide (V.int form = V.int 0) = true then (1 : Int) else 0).toNat [V.ref tp]).flatten) hl5)).trans (same_new (o := .lst (((rs.filter fun r => !decide (r.1.1 = t)).map fun r => V.ref r.2) ++ (List.replicate (if decide (V.int form = V.int 0) = true then (1 : Int) else 0).toNat [V.ref tp]).flatten)) hl6)) _ _ (upd_same (H := H14) (a := tp) (o := .tup [.str t, .int m, .int nx]))
                  have e6 : (upd (upd (upd (upd H14 tp (.tup [.str t, .int m, .int nx])) l4 (.lst [.ref tp])) l5 (.lst (List.replicate (oneIf form).toNat [V.ref tp]).flatten)) l6 (.lst (((rs.filter fun r => !decide (r.1.1 = t)).map fun r => V.ref r.2) ++ (List.replicate (oneIf form).toNat [V.ref tp]).flatten))) l6 = some (.lst ((next form t m nx tp rs).map fun r => V.ref r.2)) := by
                    rw [← next_list]
                    exact upd_same
                  generalize upd (upd (upd (upd H14 tp (.tup [.str t, .int m, .int nx])) l4 (.lst [.ref tp])) l5 (.lst (List.replicate (oneIf form).toNat [V.ref tp]).flatten)) l6 (.lst (((rs.filter fun r => !decide (r.1.1 = t)).map fun r => V.ref r.2) ++ (List.replicate (oneIf form).toNat [V.ref tp]).flatten)) = H15 at sZ etp e6 ⊢
                  have rows15 := next_at sit14.rw_ sZ e6 etp
                  have sit15 := sit14.same sZ
                  have d15 := dr_same d14 sZ
                  have ch15 := ch14.same sZ
                  rw [← next_nx] at ch15
                  have sitN : Sit C a T c' l6 ts es' (next form t m nx tp rs) (nx + oneIf form) H15 := ⟨d15.fd, sit15.tl, ch15, rows15, (next_rows du sit15.eq).trans er.symm, behind_ok er okt8 sit15.ok, sit15.n14⟩
                  refine ⟨_, rfl, _, rfl, rfl, .inr ⟨_, rfl, _, _, rfl, rfl, ?_⟩⟩
                  obtain ⟨dx', tn', td', hc', cp'⟩ := id ch15
                  refine ⟨_, rfl, _, rfl, c', dx', _, .ref C, rfl, hc', ?_, OE.nC, c', .ref c, _, es', rfl, ch15, .inl ⟨c, nx, es, rfl, sit15.ch, _, rfl, ifF ?_ ?_⟩⟩
                  · exact ownT sit15.ch
                  · exact eqB_false (behind_len er du)
                  refine ⟨_, rfl, _, rfl, c', dx', _, .type "list", rfl, hc', .base (.lst e6), OE.nL, c', .ref l6, _, es', rfl, ch15, .inr ⟨l6, _, rfl, e6, _, rfl, ifF rfl ?_⟩⟩
                  exact ⟨c', l6, _, form, es', _, _, _, _, _, _, _, _, _, rfl, sitN, by have := behind_le er; omega, d15⟩
            · rintro σ H10 ⟨c, l, nx, form, es, rs, w9, w10, w11, w12, w13, w14, w15, w16, rfl, sit10, le10, d10⟩
              have nv : hasB (Str.ofString "never") es = false := hasB_of fun e m => (sit10.ok e m).nv
              refine ⟨_, rfl, _, rfl, c, l, nx, es, rs, rfl, sit10.ch, sit10.rw_, sit10.eq, sit10.ok, fun H11 s11 => ⟨_, rfl, ifF rfl ?_⟩⟩
              refine ⟨_, rfl, _, rfl, c, form, nx, _, es, rfl, (sit10.same s11).ch, nv, fun H12 s12 => ⟨rfl, _, rfl, ifF (by rw [decide_eq_true rfl]; rfl) ?_⟩⟩
              exact ⟨c, l, nx, es, rs, _, _, _, _, _, _, _, _, _, _, rfl, sit10.same (s11.trans s12), le10, dr_same d10 (s11.trans s12)⟩
      · rintro σ H7 ⟨c, l, nx, es, rs, w7, w8, w9, w10, w11, w12, w13, w14, w15, w16, rfl, sit, lej, d7⟩
        have lsz := sizeLine_eq
        have lr := rows_len sit.eq
        have nn : n6 < 25 := by omega
        have lr100 : rs.length ≤ 40 := by omega
        obtain ⟨dxc, tnc, tdc, hcc, cpc⟩ := id sit.ch
        have ndr := rows_nd sit.eq cpc.nd
        refine fun o dx ho hdx ne => ⟨o, dx, rfl, upd_same, fun H8 tn td keep eo cp8 h1 h2 => ⟨rfl, ?_⟩⟩
        have s8 : Same H7 H8 := fun b u eb => keep b u (ne_of_none eb ho) (by rw [upd_ne (ne_of_none eb ho), upd_ne (ne_of_none eb hdx)]; exact eb)
        have sit8 := sit.same s8
        have d8 := dr_same d7 s8
        refine ⟨_, rfl, l, rfl, ⟨_, SqL.of sit8.rw_.l⟩, for_list (K := K) (a := l) (xs := rs.map fun r => V.ref r.2) (fun q σ H' => ∃ (o : Addr) (go : List (Row × Addr)) (u9 u10 u15 : Option V), σ = [some (.ref s0), some (.int (0 + (i : Int))), some (.ref a), some (.ref T), some (.ref c), some (.ref l), some (.int nx), w7, w8, u9, u10, w11, w12, w13, some (.ref o), u15, w16] ∧ Sit C a T c l ts es rs nx H' ∧ ChAt C H' o go (q : Int) ∧ rowsOf go = ren (rowsOf (rs.take q)) ∧ Dr a H1 H')
          ⟨o, [], w9, w10, w15, rfl, sit8, ⟨dx, tn, td, eo, cp8⟩, rfl, d8⟩ (fun q σ H' _ ⟨_, _, _, _, _, _, h, _⟩ => SqL.of h.rw_.l) ?_ ?_⟩
        · rintro q x σ H9 hx ⟨o, go, u9, u10, u15, rfl, sit9, ch9, eg, d9⟩
          rw [List.getElem?_map] at hx
          obtain ⟨r, hr1, rfl⟩ := Option.map_eq_some_iff.mp hx
          have mr := List.mem_of_getElem? hr1
          have hq : q < rs.length := (List.getElem?_eq_some_iff.mp hr1).1
          have er1 : (rowsOf rs)[q]? = some r.1 := by
            unfold rowsOf
            rw [List.getElem?_map, hr1]
            rfl
          have okr : OkT r.1.1 := by
            have : r.1 ∈ rowsOf es := sit9.eq ▸ List.mem_map.mpr ⟨r, mr, rfl⟩
            obtain ⟨g, mg, eg⟩ := List.mem_map.mp this
            rw [← eg]
            exact sit9.ok g mg
          have lgo : go.length = q := by
            have e := congrArg List.length eg
            rw [ren_len] at e
            unfold rowsOf at e
            rw [List.length_map, List.length_map, List.length_take] at e
            omega
          have hb : hasB r.1.1 go = false := by
            rw [has_rows, eg, ren_any, take_rows]
            exact fresh_take ndr er1
          refine ⟨r.2, _, rfl, SqT.of (sit9.rw_.at_ r mr), rfl, _, _, rfl, _, _, rfl, _, _, rfl, rfl, ?_⟩
          obtain ⟨dxo, tno, tdo, hco, _⟩ := id ch9
          refine ⟨_, rfl, o, dxo, _, rfl, hco, rfl, _, rfl, _, rfl, o, r.1.1, r.1.2.1, q, go, rfl, ch9, by have := okr.le; omega, by omega, fun h => ?_, fun _ h => ?_, fun _ _ c2 tp H10 s10 nc ch10 => ?_⟩
          · rw [okr.ch] at h
            cases h
          · rw [hb] at h
            cases h
          refine ⟨c2, _, _, _, _, rfl, sit9.same s10, ch10, ?_, dr_same d9 s10⟩
          rw [take_rows, List.take_add_one, er1]
          show rowsOf (go ++ [((r.1.1, r.1.2.1, (q : Int)), tp)]) = ren ((rowsOf rs).take q ++ [r.1])
          rw [ren_snoc, ← take_rows, ← eg]
          have el : ((rowsOf (rs.take q)).length : Int) = q := by
            rw [take_rows]
            unfold rowsOf
            rw [List.length_take, List.length_map]
            omega
          rw [el]
          unfold rowsOf
          rw [List.map_append]
          rfl
        · rintro σ H9 ⟨o, go, u9, u10, u15, rfl, sit9, ch9, eg, d9⟩
          rw [List.length_map, List.take_of_length_le (Nat.le_refl rs.length)] at eg
          obtain ⟨dxo, tno, tdo, hco, _⟩ := id ch9
          refine ⟨_, rfl, _, rfl, o, dxo, _, .ref C, rfl, hco, ownT sit9.ch, OE.nC, o, .ref c, _, go, rfl, ch9, .inl ⟨c, nx, es, rfl, sit9.ch, ?_⟩⟩
          refine ⟨_, rfl, l, rfl, ⟨_, SqL.of sit9.rw_.l⟩, fun D hD => lc_list (K := K) (a := l) (xs := rs.map fun r => V.ref r.2) (fun q H' => H' = upd H9 D (.lst (((rs.take q).map fun r => r.1.2.2).map V.int))) rfl (fun q H' _ h => by rw [h]; exact SqL.of (same_new hD _ _ sit9.rw_.l)) ?_ ?_⟩
          · rintro q x H10 hx rfl
            rw [List.getElem?_map] at hx
            obtain ⟨r, hr1, rfl⟩ := Option.map_eq_some_iff.mp hx
            refine ⟨rfl, _, rfl, r.2, _, _, .int r.1.2.2, rfl, rfl, SqT.of (same_new hD _ _ (sit9.rw_.at_ r (List.mem_of_getElem? hr1))), atN (j := 2) rfl rfl, _, upd_same, ?_, ?_⟩
            · rw [List.length_map, List.length_map, List.length_take]
              omega
            · rw [upd_two, List.take_add_one, hr1, List.map_append, List.map_append]
              rfl
          rintro H10 rfl
          rw [List.length_map, List.take_of_length_le (Nat.le_refl rs.length)]
          have sD := same_new (o := .lst ((rs.map fun r => r.1.2.2).map V.int)) hD
          refine ⟨_, rfl, l, _, rfl, .inl (SqL.of (sD _ _ sit9.rw_.l)), _, rfl, RgOk.of_le (by omega) (by rw [List.length_map]; omega) (by omega) (by omega), fun q hq => ?_⟩
          have lm : (rs.map fun r => V.ref r.2).length = rs.length := List.length_map ..
          rw [lm, rg_ints]
          have sq := same_new (o := .lst (((List.range rs.length).map fun i : Nat => (0 : Int) + (i : Int)).map V.int)) hq
          refine ⟨.list ((rs.map fun r => r.1.2.2).map PyData.int), .list (((List.range rs.length).map fun i : Nat => (0 : Int) + (i : Int)).map PyData.int), .lst (SqL.of (sq _ _ upd_same)) (dpAll_ints _), .lst (SqL.of upd_same) (dpAll_ints _), PySem.W.shaped_ints _, PySem.W.shaped_ints _, rfl, _, rfl, ifF ?_ ?_⟩
          · rw [eqB_again eg sit9.eq cpc.nd, decide_eq_true rfl]
            rfl
          · exact ⟨_, _, _, _, _, _, _, _, _, _, _, _, _, _, _, _, rfl, same_dr (sH.free ha) (sH.trans S1) (dr_same d9 (sD.trans sq))⟩
    · rintro σ H' ⟨v1, v2, v3, v4, v5, v6, v7, v8, v9, v10, v11, v12, v13, v14, v15, v16, rfl, sH⟩
      exact k _
end
end R4

namespace R4
open PySem L2 L3
open PySem.HandSPX (refsVE)
section
variable {P : Program} {K : PySem.W.Frag} {mg : Str → Option Value} {C f cc cda : Addr} {kV doc pm ct : Value} {an : Option Addr} {nm q : Str} {N : Addr} {bs bm : List Value} {sn : List Str} {sub : List Value} {ab : Bool} {col : Option Bool} {dd : Option Addr} {k0 k1 k2 k3 k5 : Option Value}
abbrev st0 : Stmt := inClass (top 3) 0
abbrev fn0 (kV doc pm : Value) (an : Option Addr) (cda : Addr) (ct : Value) (cc : Addr) : FuncData := initFn "InvalidName.__init__" (defArgs st0) (defBody st0) (defScope st0) .none kV doc pm an cda ct cc
theorem err0 (I : InK K P C f cc cda (fn0 kV doc pm an cda ct cc) "InvalidName.__init__") (hs : supB K C f "ValueError" "ValueError.__init__" ["name"] = true) (he : excB K C = true) (hC : K.lookup C = some (PySem.excClassObj nm q C N bs bm true sn sub ab col dd k0 k1 k2 k3 k5 "ValueError.__new__")) (hb : refsVE bm = true) (noS : mg "super" = none) (g : mg "InvalidName" = some (.ref C)) :
    ErrF P K mg C f "InvalidName" ["name"] := by
  have S := supB_ok hs
  obtain ⟨E, X⟩ := excB_ok he
  have V := over_of hC hb
  have St : Sto K C := sto_ve V S.sa
  have M := supK_of I S hC St noS
  exact ⟨g, fun w => init1 (initF_of PySem.F.excBase_ValueError.toExcCallFacts) PySem.W.kxs_ValueError M rfl (S.no _ (by simp)) rfl rfl rfl rfl rfl rfl rfl rfl (by decide +kernel) (by decide +kernel) (by decide +kernel) (fun _ _ => rfl) (fun _ => rfl) (fun _ => rfl) (fun _ => rfl) (fun _ => rfl),
    ⟨"ValueError", _, _, _, bm, PySem.F.excBase_ValueError, above_ve hb, nm, q, N, bs, true, sn, sub, ab, col, dd, k0, k1, k2, k3, k5, hC⟩, S.kC, S.iC, S.tI, E, X, S.no⟩
abbrev st5 : Stmt := inClass (top 4) 0
abbrev fn5 (kV doc pm : Value) (an : Option Addr) (cda : Addr) (ct : Value) (cc : Addr) : FuncData := initFn "Taken.__init__" (defArgs st5) (defBody st5) (defScope st5) .none kV doc pm an cda ct cc
theorem err5 (I : InK K P C f cc cda (fn5 kV doc pm an cda ct cc) "Taken.__init__") (hs : supB K C f "ValueError" "ValueError.__init__" ["name"] = true) (he : excB K C = true) (hC : K.lookup C = some (PySem.excClassObj nm q C N bs bm true sn sub ab col dd k0 k1 k2 k3 k5 "ValueError.__new__")) (hb : refsVE bm = true) (noS : mg "super" = none) (g : mg "Taken" = some (.ref C)) :
    ErrF P K mg C f "Taken" ["name"] := by
  have S := supB_ok hs
  obtain ⟨E, X⟩ := excB_ok he
  have V := over_of hC hb
  have St : Sto K C := sto_ve V S.sa
  have M := supK_of I S hC St noS
  exact ⟨g, fun w => init1 (initF_of PySem.F.excBase_ValueError.toExcCallFacts) PySem.W.kxs_ValueError M rfl (S.no _ (by simp)) rfl rfl rfl rfl rfl rfl rfl rfl (by decide +kernel) (by decide +kernel) (by decide +kernel) (fun _ _ => rfl) (fun _ => rfl) (fun _ => rfl) (fun _ => rfl) (fun _ => rfl),
    ⟨"ValueError", _, _, _, bm, PySem.F.excBase_ValueError, above_ve hb, nm, q, N, bs, true, sn, sub, ab, col, dd, k0, k1, k2, k3, k5, hC⟩, S.kC, S.iC, S.tI, E, X, S.no⟩
abbrev st13 : Stmt := inClass (top 5) 0
abbrev fn13 (kV doc pm : Value) (an : Option Addr) (cda : Addr) (ct : Value) (cc : Addr) : FuncData := initFn "UnknownName.__init__" (defArgs st13) (defBody st13) (defScope st13) .none kV doc pm an cda ct cc
theorem err13 (I : InK K P C f cc cda (fn13 kV doc pm an cda ct cc) "UnknownName.__init__") (hs : supB K C f "KeyError" "KeyError.__init__" ["name"] = true) (he : excB K C = true) (hC : K.lookup C = some (PySem.excClassObj nm q C N bs keTail true sn sub ab col dd k0 k1 k2 k3 k5 "LookupError.__new__")) (noS : mg "super" = none) (g : mg "UnknownName" = some (.ref C)) :
    ErrF P K mg C f "UnknownName" ["name"] := by
  have S := supB_ok hs
  obtain ⟨E, X⟩ := excB_ok he
  have St : Sto K C := sto_ke hC S.sa
  have M := supK_of I S hC St noS
  exact ⟨g, fun w => init1 initF_KeyError kxs_KeyError M rfl (S.no _ (by simp)) rfl rfl rfl rfl rfl rfl rfl rfl (by decide +kernel) (by decide +kernel) (by decide +kernel) (fun _ _ => rfl) (fun _ => rfl) (fun _ => rfl) (fun _ => rfl) (fun _ => rfl),
    ⟨"LookupError", _, _, _, keTail, PySem.F.excBase_LookupError, above_ke, nm, q, N, bs, true, sn, sub, ab, col, dd, k0, k1, k2, k3, k5, hC⟩, S.kC, S.iC, S.tI, E, X, S.no⟩
end
end R4

namespace R4
open PySem L2 L3
theorem all_mk {l : PySem.W.OpenLaw} {w : World} {K : PySem.W.Frag} {h : Heap} {mg : Str → Option Value} {fa C c0 f0 da0 cc0 N0 c5 f5 da5 cc5 N5 c13 f13 da13 cc13 N13 fI fP fW fG fNu fHa fLe fE fN fD fCh fF fT fMi fL fM fS fU fR fO fZ : Addr} {tL tD tM : Tok} {od0 an0 odD0 odC0 dd0 od5 an5 odD5 odC5 dd5 od13 an13 odD13 odC13 dd13 odI anI odP anP odW anW odG anG odNu anNu odHa anHa odLe anLe odE anE odN anN odD anD odCh anCh odF anF odT anT odMi anMi odL anL odM anM odS anS odU anU odR anR odO anO odZ anZ : Option Addr} {sl0 slD0 slC0 sl5 slD5 slC5 sl13 slD13 slC13 slI slP slW slG slNu slHa slLe slE slN slD slCh slF slT slMi slL slM slS slU slR slO slZ : Array (Option Value)} {vs0 vs5 vs13 : Array Value} {oc0 kV0 dc0 pm0 ct0 ocD0 ocC0 oc5 kV5 dc5 pm5 ct5 ocD5 ocC5 oc13 kV13 dc13 pm13 ct13 ocD13 ocC13 ocI kVI dcI pmI cdI ctI ocP kVP dcP pmP cdP ctP ocW kVW dcW pmW cdW ctW ocG kVG dcG pmG cdG ctG ocNu kVNu dcNu pmNu cdNu ctNu ocHa kVHa dcHa pmHa cdHa ctHa ocLe kVLe dcLe pmLe cdLe ctLe ocE kVE dcE pmE cdE ctE ocN kVN dcN pmN cdN ctN ocD kVD dcD pmD cdD ctD ocCh kVCh dcCh pmCh cdCh ctCh ocF kVF dcF pmF cdF ctF ocT kVT dcT pmT cdT ctT ocMi kVMi dcMi pmMi cdMi ctMi ocL kVL dcL pmL cdL ctL ocM kVM dcM pmM cdM ctM ocS kVS dcS pmS cdS ctS ocU kVU dcU pmU cdU ctU ocR kVR dcR pmR cdR ctR ocO kVO dcO pmO cdO ctO ocZ kVZ dcZ pmZ cdZ ctZ : Value} {file0 nm0 q0 file5 nm5 q5 file13 nm13 q13 : Str} {tf0 tf5 tf13 : Tok} {bs0 bm0 sub0 bs5 bm5 sub5 bs13 sub13 : List Value} {sn0 sn5 sn13 : List Str} {ab0 ab5 ab13 : Bool} {col0 col5 col13 : Option Bool} {k00 k10 k20 k30 k50 k05 k15 k25 k35 k55 k013 k113 k213 k313 k513 : Option Value} (X : K.In h) (G : h.Ns mainGlobals mg) (hfa : mg "law" = some (.ref fa))
    (a0 : PySem.W.nsIn K mainGlobals "InvalidName" = some (some (.ref c0)))
    (n0 : PySem.W.findIn K (.ref c0) "__init__" = some (some (.ref f0)))
    (l0 : K.lookup f0 = some ⟨oc0, od0, .func (fn0 kV0 dc0 pm0 an0 da0 ct0 cc0), sl0⟩)
    (o0 : K.lookup da0 = some ⟨ocD0, odD0, .fields vs0, slD0⟩)
    (v0 : vs0[2]? = some (.str file0 tf0))
    (p0 : ((l.prog.main.file : Str) == file0) = true)
    (d0 : PySem.W.codeIn K (.ref da0) "InvalidName.__init__" = true)
    (x0 : K.lookup cc0 = some ⟨ocC0, odC0, .cell (some (.ref c0)), slC0⟩)
    (h0 : K.lookup c0 = some (PySem.excClassObj nm0 q0 c0 N0 bs0 bm0 true sn0 sub0 ab0 col0 dd0 k00 k10 k20 k30 k50 "ValueError.__new__"))
    (r0 : PySem.HandSPX.refsVE bm0 = true)
    (s0 : supB K c0 f0 "ValueError" "ValueError.__init__" ["name"] = true)
    (e0 : excB K c0 = true)
    (t0 : PySem.W.typeIn K (.ref c0) = some (.type "type"))
    (a5 : PySem.W.nsIn K mainGlobals "Taken" = some (some (.ref c5)))
    (n5 : PySem.W.findIn K (.ref c5) "__init__" = some (some (.ref f5)))
    (l5 : K.lookup f5 = some ⟨oc5, od5, .func (fn5 kV5 dc5 pm5 an5 da5 ct5 cc5), sl5⟩)
    (o5 : K.lookup da5 = some ⟨ocD5, odD5, .fields vs5, slD5⟩)
    (v5 : vs5[2]? = some (.str file5 tf5))
    (p5 : ((l.prog.main.file : Str) == file5) = true)
    (d5 : PySem.W.codeIn K (.ref da5) "Taken.__init__" = true)
    (x5 : K.lookup cc5 = some ⟨ocC5, odC5, .cell (some (.ref c5)), slC5⟩)
    (h5 : K.lookup c5 = some (PySem.excClassObj nm5 q5 c5 N5 bs5 bm5 true sn5 sub5 ab5 col5 dd5 k05 k15 k25 k35 k55 "ValueError.__new__"))
    (r5 : PySem.HandSPX.refsVE bm5 = true)
    (s5 : supB K c5 f5 "ValueError" "ValueError.__init__" ["name"] = true)
    (e5 : excB K c5 = true)
    (t5 : PySem.W.typeIn K (.ref c5) = some (.type "type"))
    (a13 : PySem.W.nsIn K mainGlobals "UnknownName" = some (some (.ref c13)))
    (n13 : PySem.W.findIn K (.ref c13) "__init__" = some (some (.ref f13)))
    (l13 : K.lookup f13 = some ⟨oc13, od13, .func (fn13 kV13 dc13 pm13 an13 da13 ct13 cc13), sl13⟩)
    (o13 : K.lookup da13 = some ⟨ocD13, odD13, .fields vs13, slD13⟩)
    (v13 : vs13[2]? = some (.str file13 tf13))
    (p13 : ((l.prog.main.file : Str) == file13) = true)
    (d13 : PySem.W.codeIn K (.ref da13) "UnknownName.__init__" = true)
    (x13 : K.lookup cc13 = some ⟨ocC13, odC13, .cell (some (.ref c13)), slC13⟩)
    (h13 : K.lookup c13 = some (PySem.excClassObj nm13 q13 c13 N13 bs13 keTail true sn13 sub13 ab13 col13 dd13 k013 k113 k213 k313 k513 "LookupError.__new__"))
    (s13 : supB K c13 f13 "KeyError" "KeyError.__init__" ["name"] = true)
    (e13 : excB K c13 = true)
    (t13 : PySem.W.typeIn K (.ref c13) = some (.type "type"))
    (top : (l.prog.main.scope.names.lookup ("super" : Str)).isSome = false)
    (x0_0 : PySem.W.exmOne K (.ref c0) (.ref c0) = some true)
    (x5_0 : PySem.W.exmOne K (.ref c5) (.ref c0) = some false)
    (x5_5 : PySem.W.exmOne K (.ref c5) (.ref c5) = some true)
    (x13_0 : PySem.W.exmOne K (.ref c13) (.ref c0) = some false)
    (x13_5 : PySem.W.exmOne K (.ref c13) (.ref c5) = some false)
    (x13_13 : PySem.W.exmOne K (.ref c13) (.ref c13) = some true)
    (aCc : PySem.W.nsIn K mainGlobals "Choices" = some (some (.ref C)))
    (pgC : PySem.W.plainGet K C Str.empty = true)
    (hdC : PySem.W.hasDictIn K C = true)
    (poC : PySem.W.plainOver K C = true)
    (saC : PySem.W.findIn K (.ref C) "__setattr__" = some (some (.builtin "object.__setattr__")))
    (mkC : PySem.W.makesIn K C = true)
    (kcC : PySem.W.keepIn K (.ref C) = true)
    (n_names : PySem.W.findIn K (.ref C) "names" = some none)
    (n__choices : PySem.W.findIn K (.ref C) "_choices" = some none)
    (n__next : PySem.W.findIn K (.ref C) "_next" = some none)
    (attA : PySem.W.findIn K (.ref C) "__class__" = some (some (.builtin "object.__class__")))
    (attG : PySem.W.specialIn K (.builtin "object.__class__") "__get__" = some (some (.builtin "getset_descriptor.__get__")))
    (attT : PySem.W.takesIn K (.builtin "object.__class__") = some true)
    (attM : PySem.W.mroIn K C (.type "object") = some true)
    (kCC : PySem.W.kitOne K (.ref C) (.ref C) = some true)
    (kLi : PySem.W.kitOne K (.type "list") (.ref C) = some false)
    (nfC : PySem.W.notFirst K C (.ref C) = true)
    (nfL : PySem.W.notFirst K C (.type "list") = true)
    (aI : PySem.W.findIn K (.ref C) "__init__" = some (some (.ref fI)))
    (iI : PySem.W.isFn K (.ref fI) = true)
    (lI : K.lookup fI = some ⟨ocI, odI, .func (PySem.W.fnOf "__init__" "Choices.__init__" (defArgs sInit) (defBody sInit) (defScope sInit) .none kVI dcI pmI anI cdI ctI), slI⟩)
    (cI : PySem.W.codeIn K cdI "Choices.__init__" = true)
    (kI : PySem.W.keepIn K (.ref fI) = true)
    (aP : PySem.W.findIn K (.ref C) "put" = some (some (.ref fP)))
    (iP : PySem.W.isFn K (.ref fP) = true)
    (lP : K.lookup fP = some ⟨ocP, odP, .func (PySem.W.fnOf "put" "Choices.put" (defArgs sPut) (defBody sPut) (defScope sPut) .none kVP dcP pmP anP cdP ctP), slP⟩)
    (cP : PySem.W.codeIn K cdP "Choices.put" = true)
    (kP : PySem.W.keepIn K (.ref fP) = true)
    (aW : PySem.W.findIn K (.ref C) "without" = some (some (.ref fW)))
    (iW : PySem.W.isFn K (.ref fW) = true)
    (lW : K.lookup fW = some ⟨ocW, odW, .func (PySem.W.fnOf "without" "Choices.without" (defArgs sWithout) (defBody sWithout) (defScope sWithout) .none kVW dcW pmW anW cdW ctW), slW⟩)
    (cW : PySem.W.codeIn K cdW "Choices.without" = true)
    (kW : PySem.W.keepIn K (.ref fW) = true)
    (aG : PySem.W.findIn K (.ref C) "__getitem__" = some (some (.ref fG)))
    (iG : PySem.W.isFn K (.ref fG) = true)
    (lG : K.lookup fG = some ⟨ocG, odG, .func (PySem.W.fnOf "__getitem__" "Choices.__getitem__" (defArgs sGet) (defBody sGet) (defScope sGet) .none kVG dcG pmG anG cdG ctG), slG⟩)
    (cG : PySem.W.codeIn K cdG "Choices.__getitem__" = true)
    (kG : PySem.W.keepIn K (.ref fG) = true)
    (aNu : PySem.W.findIn K (.ref C) "number" = some (some (.ref fNu)))
    (iNu : PySem.W.isFn K (.ref fNu) = true)
    (lNu : K.lookup fNu = some ⟨ocNu, odNu, .func (PySem.W.fnOf "number" "Choices.number" (defArgs sNumber) (defBody sNumber) (defScope sNumber) .none kVNu dcNu pmNu anNu cdNu ctNu), slNu⟩)
    (cNu : PySem.W.codeIn K cdNu "Choices.number" = true)
    (kNu : PySem.W.keepIn K (.ref fNu) = true)
    (aHa : PySem.W.findIn K (.ref C) "__contains__" = some (some (.ref fHa)))
    (iHa : PySem.W.isFn K (.ref fHa) = true)
    (lHa : K.lookup fHa = some ⟨ocHa, odHa, .func (PySem.W.fnOf "__contains__" "Choices.__contains__" (defArgs sHas) (defBody sHas) (defScope sHas) .none kVHa dcHa pmHa anHa cdHa ctHa), slHa⟩)
    (cHa : PySem.W.codeIn K cdHa "Choices.__contains__" = true)
    (kHa : PySem.W.keepIn K (.ref fHa) = true)
    (aLe : PySem.W.findIn K (.ref C) "__len__" = some (some (.ref fLe)))
    (iLe : PySem.W.isFn K (.ref fLe) = true)
    (lLe : K.lookup fLe = some ⟨ocLe, odLe, .func (PySem.W.fnOf "__len__" "Choices.__len__" (defArgs sLen) (defBody sLen) (defScope sLen) .none kVLe dcLe pmLe anLe cdLe ctLe), slLe⟩)
    (cLe : PySem.W.codeIn K cdLe "Choices.__len__" = true)
    (kLe : PySem.W.keepIn K (.ref fLe) = true)
    (aE : PySem.W.findIn K (.ref C) "__eq__" = some (some (.ref fE)))
    (iE : PySem.W.isFn K (.ref fE) = true)
    (lE : K.lookup fE = some ⟨ocE, odE, .func (PySem.W.fnOf "__eq__" "Choices.__eq__" (defArgs sEq) (defBody sEq) (defScope sEq) .none kVE dcE pmE anE cdE ctE), slE⟩)
    (cE : PySem.W.codeIn K cdE "Choices.__eq__" = true)
    (kE : PySem.W.keepIn K (.ref fE) = true)
    (fnG : PySem.W.fnIn K fG = true)
    (aN : PySem.W.nsIn K mainGlobals "is_name" = some (some (.ref fN)))
    (lN : K.lookup fN = some ⟨ocN, odN, .func (PySem.W.fnOf "is_name" "is_name" (defArgs sIsName) (defBody sIsName) (defScope sIsName) .none kVN dcN pmN anN cdN ctN), slN⟩)
    (cN : PySem.W.codeIn K cdN "is_name" = true)
    (kN : PySem.W.keepIn K (.ref fN) = true)
    (aD : PySem.W.nsIn K mainGlobals "is_decimal" = some (some (.ref fD)))
    (lD : K.lookup fD = some ⟨ocD, odD, .func (PySem.W.fnOf "is_decimal" "is_decimal" (defArgs sIsDec) (defBody sIsDec) (defScope sIsDec) .none kVD dcD pmD anD cdD ctD), slD⟩)
    (cD : PySem.W.codeIn K cdD "is_decimal" = true)
    (kD : PySem.W.keepIn K (.ref fD) = true)
    (aCh : PySem.W.nsIn K mainGlobals "is_choice_name" = some (some (.ref fCh)))
    (lCh : K.lookup fCh = some ⟨ocCh, odCh, .func (PySem.W.fnOf "is_choice_name" "is_choice_name" (defArgs sIsCh) (defBody sIsCh) (defScope sIsCh) .none kVCh dcCh pmCh anCh cdCh ctCh), slCh⟩)
    (cCh : PySem.W.codeIn K cdCh "is_choice_name" = true)
    (kCh : PySem.W.keepIn K (.ref fCh) = true)
    (aF : PySem.W.nsIn K mainGlobals "_law_feed" = some (some (.ref fF)))
    (lF : K.lookup fF = some ⟨ocF, odF, .func (PySem.W.fnOf "_law_feed" "_law_feed" (defArgs sFeed) (defBody sFeed) (defScope sFeed) .none kVF dcF pmF anF cdF ctF), slF⟩)
    (cF : PySem.W.codeIn K cdF "_law_feed" = true)
    (kF : PySem.W.keepIn K (.ref fF) = true)
    (aT : PySem.W.nsIn K mainGlobals "_law_take" = some (some (.ref fT)))
    (lT : K.lookup fT = some ⟨ocT, odT, .func (PySem.W.fnOf "_law_take" "_law_take" (defArgs sTake) (defBody sTake) (defScope sTake) .none kVT dcT pmT anT cdT ctT), slT⟩)
    (cT : PySem.W.codeIn K cdT "_law_take" = true)
    (kT : PySem.W.keepIn K (.ref fT) = true)
    (aMi : PySem.W.nsIn K mainGlobals "_law_mixed" = some (some (.ref fMi)))
    (lMi : K.lookup fMi = some ⟨ocMi, odMi, .func (PySem.W.fnOf "_law_mixed" "_law_mixed" (defArgs sMixed) (defBody sMixed) (defScope sMixed) .none kVMi dcMi pmMi anMi cdMi ctMi), slMi⟩)
    (cMi : PySem.W.codeIn K cdMi "_law_mixed" = true)
    (kMi : PySem.W.keepIn K (.ref fMi) = true)
    (aL : PySem.W.nsIn K mainGlobals "_law_titles" = some (some (.ref fL)))
    (lL : K.lookup fL = some ⟨ocL, odL, .func (PySem.W.fnOf "_law_titles" "_law_titles" (defArgs sTitles) (defBody sTitles) (defScope sTitles) .none kVL dcL pmL anL cdL ctL), slL⟩)
    (cL : PySem.W.codeIn K cdL "_law_titles" = true)
    (kL : PySem.W.keepIn K (.ref fL) = true)
    (aM : PySem.W.nsIn K mainGlobals "_law_same" = some (some (.ref fM)))
    (lM : K.lookup fM = some ⟨ocM, odM, .func (PySem.W.fnOf "_law_same" "_law_same" (defArgs sSame) (defBody sSame) (defScope sSame) .none kVM dcM pmM anM cdM ctM), slM⟩)
    (cM : PySem.W.codeIn K cdM "_law_same" = true)
    (kM : PySem.W.keepIn K (.ref fM) = true)
    (aS : PySem.W.nsIn K mainGlobals "_law_step" = some (some (.ref fS)))
    (lS : K.lookup fS = some ⟨ocS, odS, .func (PySem.W.fnOf "_law_step" "_law_step" (defArgs sStep) (defBody sStep) (defScope sStep) .none kVS dcS pmS anS cdS ctS), slS⟩)
    (cS : PySem.W.codeIn K cdS "_law_step" = true)
    (kS : PySem.W.keepIn K (.ref fS) = true)
    (aU : PySem.W.nsIn K mainGlobals "_law_unknown" = some (some (.ref fU)))
    (lU : K.lookup fU = some ⟨ocU, odU, .func (PySem.W.fnOf "_law_unknown" "_law_unknown" (defArgs sUnk) (defBody sUnk) (defScope sUnk) .none kVU dcU pmU anU cdU ctU), slU⟩)
    (cU : PySem.W.codeIn K cdU "_law_unknown" = true)
    (kU : PySem.W.keepIn K (.ref fU) = true)
    (aR : PySem.W.nsIn K mainGlobals "_law_right" = some (some (.ref fR)))
    (lR : K.lookup fR = some ⟨ocR, odR, .func (PySem.W.fnOf "_law_right" "_law_right" (defArgs sRight) (defBody sRight) (defScope sRight) .none kVR dcR pmR anR cdR ctR), slR⟩)
    (cR : PySem.W.codeIn K cdR "_law_right" = true)
    (kR : PySem.W.keepIn K (.ref fR) = true)
    (aO : PySem.W.nsIn K mainGlobals "_law_odd" = some (some (.ref fO)))
    (lO : K.lookup fO = some ⟨ocO, odO, .func (PySem.W.fnOf "_law_odd" "_law_odd" (defArgs sOdd) (defBody sOdd) (defScope sOdd) .none kVO dcO pmO anO cdO ctO), slO⟩)
    (cO : PySem.W.codeIn K cdO "_law_odd" = true)
    (kO : PySem.W.keepIn K (.ref fO) = true)
    (aZ : PySem.W.nsIn K mainGlobals "law" = some (some (.ref fZ)))
    (lZ : K.lookup fZ = some ⟨ocZ, odZ, .func (PySem.W.fnOf "law" "law" (defArgs sLaw) (defBody sLaw) (defScope sLaw) .none kVZ dcZ pmZ anZ cdZ ctZ), slZ⟩)
    (cZ : PySem.W.codeIn K cdZ "law" = true)
    (kZ : PySem.W.keepIn K (.ref fZ) = true)
    (z_super : PySem.W.nsIn K mainGlobals "super" = some none)
    (z_range : PySem.W.nsIn K mainGlobals "range" = some none)
    (z_max : PySem.W.nsIn K mainGlobals "max" = some none)
    (z_min : PySem.W.nsIn K mainGlobals "min" = some none)
    (z_len : PySem.W.nsIn K mainGlobals "len" = some none)
    (z_isinstance : PySem.W.nsIn K mainGlobals "isinstance" = some none)
    (z_int : PySem.W.nsIn K mainGlobals "int" = some none)
    (z_tuple : PySem.W.nsIn K mainGlobals "tuple" = some none)
    (z_list : PySem.W.nsIn K mainGlobals "list" = some none)
    (z_str : PySem.W.nsIn K mainGlobals "str" = some none)
    (z_repr : PySem.W.nsIn K mainGlobals "repr" = some none)
    (z_abs : PySem.W.nsIn K mainGlobals "abs" = some none)
    (z_all : PySem.W.nsIn K mainGlobals "all" = some none)
    (gLe : PySem.W.nsIn K mainGlobals "LETTERS" = some (some (.str letters tL)))
    (gDi : PySem.W.nsIn K mainGlobals "DIGITS" = some (some (.str digits tD)))
    (gMo : PySem.W.nsIn K mainGlobals "MOST_SIGNS" = some (some (.int 6 tM))) :
    ∃ fd : FuncData, (∀ (s : Shared) (v : Value), BindsTo s fd ⟨[v], []⟩ [("_law_script", v)]) ∧ ∀ base : Heap, K.In base → base.Ns mainGlobals mg → FnG l.prog w K mg base CX0 5 fa fd ["_law_script"] (spLaw K) := by
  have e := hfa.symm.trans (PySem.W.mg_of X G aZ)
  cases e
  have mS := PySem.W.mg_none_of X G z_super
  have z : ZN mg := ⟨PySem.W.mg_none_of X G z_range, PySem.W.mg_none_of X G z_max, PySem.W.mg_none_of X G z_min, PySem.W.mg_none_of X G z_len, PySem.W.mg_none_of X G z_isinstance, PySem.W.mg_none_of X G z_int, PySem.W.mg_none_of X G z_tuple, PySem.W.mg_none_of X G z_list, PySem.W.mg_none_of X G z_str, PySem.W.mg_none_of X G z_repr, PySem.W.mg_none_of X G z_abs, PySem.W.mg_none_of X G z_all⟩
  have I0 : InK K l.prog c0 f0 cc0 da0 (fn0 kV0 dc0 pm0 an0 da0 ct0 cc0) "InvalidName.__init__" := ⟨⟨oc0, od0, sl0, l0⟩, ⟨ocD0, odD0, vs0, slD0, file0, tf0, o0, v0, p0⟩, d0, top, ⟨ocC0, odC0, slC0, x0⟩⟩
  have E0 := err0 I0 s0 e0 h0 r0 mS (PySem.W.mg_of X G a0)
  have I5 : InK K l.prog c5 f5 cc5 da5 (fn5 kV5 dc5 pm5 an5 da5 ct5 cc5) "Taken.__init__" := ⟨⟨oc5, od5, sl5, l5⟩, ⟨ocD5, odD5, vs5, slD5, file5, tf5, o5, v5, p5⟩, d5, top, ⟨ocC5, odC5, slC5, x5⟩⟩
  have E5 := err5 I5 s5 e5 h5 r5 mS (PySem.W.mg_of X G a5)
  have I13 : InK K l.prog c13 f13 cc13 da13 (fn13 kV13 dc13 pm13 an13 da13 ct13 cc13) "UnknownName.__init__" := ⟨⟨oc13, od13, sl13, l13⟩, ⟨ocD13, odD13, vs13, slD13, file13, tf13, o13, v13, p13⟩, d13, top, ⟨ocC13, odC13, slC13, x13⟩⟩
  have E13 := err13 I13 s13 e13 h13 mS (PySem.W.mg_of X G a13)
  have FI := fun_mk (st := sInit) lI cI kI
  have bI := FI.binds (ps := ["self"]) fun _ _ _ _ _ _ us hl => match us, hl with | [_], _ => rfl
  have FP := fun_mk (st := sPut) lP cP kP
  have bP := FP.binds (ps := ["self", "name", "many"]) fun _ _ _ _ _ _ us hl => match us, hl with | [_, _, _], _ => rfl
  have FW := fun_mk (st := sWithout) lW cW kW
  have bW := FW.binds (ps := ["self", "name"]) fun _ _ _ _ _ _ us hl => match us, hl with | [_, _], _ => rfl
  have FG := fun_mk (st := sGet) lG cG kG
  have bG := FG.binds (ps := ["self", "name"]) fun _ _ _ _ _ _ us hl => match us, hl with | [_, _], _ => rfl
  have FNu := fun_mk (st := sNumber) lNu cNu kNu
  have bNu := FNu.binds (ps := ["self", "name"]) fun _ _ _ _ _ _ us hl => match us, hl with | [_, _], _ => rfl
  have FHa := fun_mk (st := sHas) lHa cHa kHa
  have bHa := FHa.binds (ps := ["self", "name"]) fun _ _ _ _ _ _ us hl => match us, hl with | [_, _], _ => rfl
  have FLe := fun_mk (st := sLen) lLe cLe kLe
  have bLe := FLe.binds (ps := ["self"]) fun _ _ _ _ _ _ us hl => match us, hl with | [_], _ => rfl
  have FE := fun_mk (st := sEq) lE cE kE
  have bE := FE.binds (ps := ["self", "other"]) fun _ _ _ _ _ _ us hl => match us, hl with | [_, _], _ => rfl
  have FN := fun_mk (st := sIsName) lN cN kN
  have bN := FN.binds (ps := ["value"]) fun _ _ _ _ _ _ us hl => match us, hl with | [_], _ => rfl
  have FD := fun_mk (st := sIsDec) lD cD kD
  have bD := FD.binds (ps := ["text", "most"]) fun _ _ _ _ _ _ us hl => match us, hl with | [_, _], _ => rfl
  have FCh := fun_mk (st := sIsCh) lCh cCh kCh
  have bCh := FCh.binds (ps := ["text"]) fun _ _ _ _ _ _ us hl => match us, hl with | [_], _ => rfl
  have FF := fun_mk (st := sFeed) lF cF kF
  have bF := FF.binds (ps := ["_law_script", "_law_k"]) fun _ _ _ _ _ _ us hl => match us, hl with | [_, _], _ => rfl
  have FT := fun_mk (st := sTake) lT cT kT
  have bT := FT.binds (ps := ["_law_feed_here", "_law_many"]) fun _ _ _ _ _ _ us hl => match us, hl with | [_, _], _ => rfl
  have FMi := fun_mk (st := sMixed) lMi cMi kMi
  have bMi := FMi.binds (ps := ["_law_feed_here", "_law_some"]) fun _ _ _ _ _ _ us hl => match us, hl with | [_, _], _ => rfl
  have FL := fun_mk (st := sTitles) lL cL kL
  have bL := FL.binds (ps := ["_law_feed_here", "_law_many"]) fun _ _ _ _ _ _ us hl => match us, hl with | [_, _], _ => rfl
  have FM := fun_mk (st := sSame) lM cM kM
  have bM := FM.binds (ps := ["_law_one", "_law_other"]) fun _ _ _ _ _ _ us hl => match us, hl with | [_, _], _ => rfl
  have FS := fun_mk (st := sStep) lS cS kS
  have bS := FS.binds (ps := ["_law_choices", "_law_form", "_law_title", "_law_many"]) fun _ _ _ _ _ _ us hl => match us, hl with | [_, _, _, _], _ => rfl
  have FU := fun_mk (st := sUnk) lU cU kU
  have bU := FU.binds (ps := ["_law_choices", "_law_form", "_law_title"]) fun _ _ _ _ _ _ us hl => match us, hl with | [_, _, _], _ => rfl
  have FR := fun_mk (st := sRight) lR cR kR
  have bR := FR.binds (ps := ["_law_choices", "_law_rows"]) fun _ _ _ _ _ _ us hl => match us, hl with | [_, _], _ => rfl
  have FO := fun_mk (st := sOdd) lO cO kO
  have bO := FO.binds (ps := ["_law_feed_here", "_law_title"]) fun _ _ _ _ _ _ us hl => match us, hl with | [_, _], _ => rfl
  have FZ := fun_mk (st := sLaw) lZ cZ kZ
  have gN := PySem.W.mg_of X G aN
  have gD := PySem.W.mg_of X G aD
  have gCh := PySem.W.mg_of X G aCh
  have gF := PySem.W.mg_of X G aF
  have gT := PySem.W.mg_of X G aT
  have gMi := PySem.W.mg_of X G aMi
  have gL := PySem.W.mg_of X G aL
  have gM := PySem.W.mg_of X G aM
  have gS := PySem.W.mg_of X G aS
  have gU := PySem.W.mg_of X G aU
  have gR := PySem.W.mg_of X G aR
  have gO := PySem.W.mg_of X G aO
  have gZ := PySem.W.mg_of X G aZ
  have M : Mk K C fI := ⟨mkC, aI, iI, kcC⟩
  have T : Txt l.prog K mg C c0 c5 c13 f0 f5 f13 := ⟨⟨pgC, hdC, poC, saC⟩, n_names, n__choices, n__next, PySem.W.mg_of X G aCc, E0, E5, E13, t0, t5, t13⟩
  have TE : TxE K mg C := ⟨attA, attG, attT, attM, kCC, kLi, z.isi, z.len⟩
  have Cr : Cross K c0 c5 c13 := ⟨x0_0, x5_0, x5_5, x13_0, x13_5, x13_13⟩
  refine ⟨PySem.W.fnOf "law" "law" (defArgs sLaw) (defBody sLaw) (defScope sLaw) .none kVZ dcZ pmZ anZ cdZ ctZ, fun s v => .of_eq rfl, fun base _ _ => ?_⟩
  have rL : ∃ u, mg "LETTERS" = some u ∧ RelV (.str letters) u := ⟨_, PySem.W.mg_of X G gLe, ⟨_, rfl⟩⟩
  have rD : ∃ u, mg "DIGITS" = some u ∧ RelV (.str digits) u := ⟨_, PySem.W.mg_of X G gDi, ⟨_, rfl⟩⟩
  have GN := ok_isname (P := l.prog) (w := w) (base := base) FN z.isi z.str z.len z.all_ rL rD ⟨_, PySem.W.mg_of X G gMo, ⟨_, rfl⟩⟩ (kit_ty (by decide +kernel))
  have GD := ok_isdec (P := l.prog) (w := w) (base := base) FD z.len z.all_ rD
  have GCh := ok_isch FCh GN FN.kp bN gN GD FD.kp bD gD
  have GI := ok_init (P := l.prog) (w := w) (base := base) FI T
  have GP := ok_put FP T M FI bI GCh FCh.kp bCh gCh
  have GW := ok_without (w := w) (base := base) FW T M FI bI z.tup
  have O : Own l.prog w K mg base C c13 fG fNu _ _ := ⟨ok_get FG T, bG, aG, fnG, iG, ok_number FNu T, bNu, ⟨aNu, iNu, kNu⟩⟩
  have O2 : Own2 l.prog w K mg base C fHa fLe _ _ := ⟨ok_has FHa T, bHa, aHa, iHa, ok_len FLe T z.len, bLe, aLe, iLe⟩
  have OE : OwnEq l.prog w K mg base C fE _ := ⟨ok_eq FE T TE, bE, aE, iE, nfC, nfL⟩
  have GF := ok_feed (P := l.prog) (w := w) (base := base) FF z.len z.abs_
  have GT : FnOk l.prog w K mg base CX0 1 _ _ _ spTake := ok_take FT
  have GL := ok_titles (P := l.prog) (w := w) (base := base) (G := G12) FL FT bT gT FMi bMi gMi z.lst z.rng z.len z.int z.str gn4 gn0 (fun m s ts _ => gnP tab1 m s ts) (fun m s ts _ => gnP tab2 m s ts) (fun m s ts _ => gnP tab3 m s ts)
  have GM := ok_same (P := l.prog) (w := w) (base := base) FM z.rep
  have GS := ok_step FS T Cr GP ⟨aP, iP, kP⟩ bP GW ⟨aW, iW, kW⟩ bW
  have GU := ok_unk FU T Cr O
  have GR := ok_right FR T O O2 GM FM.kp bM gM z.tup z.len
  have GO := ok_odd (P := l.prog) (w := w) (base := base) FO FT bT gT
  exact ok_law FZ T z GF FF.kp bF gF GT FT.kp bT gT GL FL.kp bL gL M GI bI GO FO.kp bO gO GS FS.kp bS gS GR FR.kp bR gR GU FU.kp bU gU GP ⟨aP, iP, kP⟩ bP OE TE
theorem walk {l : PySem.W.OpenLaw} {q : Program} {loose : List Str} {XP : (Str → Option Value) → Heap → Prop} {YP : World → Heap → Prop} {d : DefRec} {K : Params → PySem.W.Frag} (hn : l.most = some 63) (hdf : d.params.defaults = [])
    (hY : ∀ (w : World) (h : Heap), YP w h → (K w.params).In h)
    (F : ∀ (w : World) (mg : Str → Option Value) (fa : Addr) (h : Heap), (K w.params).In h → h.Ns mainGlobals mg → mg d.name = some (.ref fa) →
      ∃ fd : FuncData, (∀ (s : Shared) (u : Value), BindsTo s fd ⟨[u], []⟩ [("_law_script", u)]) ∧ ∀ base : Heap, (K w.params).In base → base.Ns mainGlobals mg → FnG l.prog w (K w.params) mg base CX0 5 fa fd ["_law_script"] (spLaw (K w.params))) :
    PySem.W.WalkO q loose XP YP l.row.toRowW d [] (fun f vs => PySem.call f vs) :=
  walk_ofG (n := 63) (k := 5) (x := "_law_script") (CX := fun _ => CX0) (sp := fun w => spLaw (K w.params)) hn (by decide) hdf ⟨rfl, by decide, by decide⟩ hY F (fun _ _ a ns hl _ hS => ⟨a, ns, rfl, hS, hl, fun _ => rfl⟩) fun _ _ _ _ _ z => z
end R4

open PySem PySem.W PyProof.Rows
set_option maxRecDepth 100000 in
set_option maxHeartbeats 0 in
theorem PySem.Challenge.cw_hadnot_k04_choices_holds : PySem.Challenge.rw_hadnot_k04_choices.Holds := by
  w_on; o_law; k_head; (case hw => w_witness2)
  k_fill
  refine R4.walk (l := PySem.Challenge.rw_hadnot_k04_choices) rfl rfl (fun w h Y => PySem.W.kIn_of Y) ?F
  case F =>
    intro w mg fa h KX G hmg
    refine' R4.all_mk KX G hmg ?a0 ?n0 ?l0 ?o0 ?v0 ?p0 ?d0 ?x0 ?h0 ?r0 ?s0 ?e0 ?t0 ?a5 ?n5 ?l5 ?o5 ?v5 ?p5 ?d5 ?x5 ?h5 ?r5 ?s5 ?e5 ?t5 ?a13 ?n13 ?l13 ?o13 ?v13 ?p13 ?d13 ?x13 ?h13 ?s13 ?e13 ?t13 ?top ?x0_0 ?x5_0 ?x5_5 ?x13_0 ?x13_5 ?x13_13 ?aCc ?pgC ?hdC ?poC ?saC ?mkC ?kcC ?n_names ?n__choices ?n__next ?attA ?attG ?attT ?attM ?kCC ?kLi ?nfC ?nfL ?aI ?iI ?lI ?cI ?kI ?aP ?iP ?lP ?cP ?kP ?aW ?iW ?lW ?cW ?kW ?aG ?iG ?lG ?cG ?kG ?aNu ?iNu ?lNu ?cNu ?kNu ?aHa ?iHa ?lHa ?cHa ?kHa ?aLe ?iLe ?lLe ?cLe ?kLe ?aE ?iE ?lE ?cE ?kE ?fnG ?aN ?lN ?cN ?kN ?aD ?lD ?cD ?kD ?aCh ?lCh ?cCh ?kCh ?aF ?lF ?cF ?kF ?aT ?lT ?cT ?kT ?aMi ?lMi ?cMi ?kMi ?aL ?lL ?cL ?kL ?aM ?lM ?cM ?kM ?aS ?lS ?cS ?kS ?aU ?lU ?cU ?kU ?aR ?lR ?cR ?kR ?aO ?lO ?cO ?kO ?aZ ?lZ ?cZ ?kZ ?z_super ?z_range ?z_max ?z_min ?z_len ?z_isinstance ?z_int ?z_tuple ?z_list ?z_str ?z_repr ?z_abs ?z_all ?gLe ?gDi ?gMo
    (case a0 => k_is)
    (case n0 => k_is)
    (case l0 => k_is)
    (case o0 => k_is)
    (case v0 => rfl)
    (case p0 => first | rfl | decide +kernel | kernel_rfl)
    (case d0 => k_is)
    (case x0 => k_is)
    (case h0 => k_is)
    (case r0 => first | rfl | decide +kernel)
    (case s0 => kernel_rfl)
    (case e0 => kernel_rfl)
    (case t0 => first | k_is | kernel_rfl | decide +kernel)
    (case a5 => k_is)
    (case n5 => k_is)
    (case l5 => k_is)
    (case o5 => k_is)
    (case v5 => rfl)
    (case p5 => first | rfl | decide +kernel | kernel_rfl)
    (case d5 => k_is)
    (case x5 => k_is)
    (case h5 => k_is)
    (case r5 => first | rfl | decide +kernel)
    (case s5 => kernel_rfl)
    (case e5 => kernel_rfl)
    (case t5 => first | k_is | kernel_rfl | decide +kernel)
    (case a13 => k_is)
    (case n13 => k_is)
    (case l13 => k_is)
    (case o13 => k_is)
    (case v13 => rfl)
    (case p13 => first | rfl | decide +kernel | kernel_rfl)
    (case d13 => k_is)
    (case x13 => k_is)
    (case h13 => k_is)
    (case s13 => kernel_rfl)
    (case e13 => kernel_rfl)
    (case t13 => first | k_is | kernel_rfl | decide +kernel)
    (case top => first | rfl | decide +kernel | kernel_rfl)
    (case x0_0 => kernel_rfl)
    (case x5_0 => kernel_rfl)
    (case x5_5 => kernel_rfl)
    (case x13_0 => kernel_rfl)
    (case x13_5 => kernel_rfl)
    (case x13_13 => kernel_rfl)
    (case aCc => k_is)
    (case pgC => k_is)
    (case hdC => k_is)
    (case poC => k_is)
    (case saC => k_is)
    (case mkC => k_is)
    (case kcC => k_is)
    (case n_names => k_is)
    (case n__choices => k_is)
    (case n__next => k_is)
    (case attA => k_is)
    (case attG => k_is)
    (case attT => k_is)
    (case attM => k_is)
    (case kCC => kernel_rfl)
    (case kLi => kernel_rfl)
    (case nfC => kernel_rfl)
    (case nfL => kernel_rfl)
    (case aI => k_is)
    (case iI => k_is)
    (case lI => k_is)
    (case cI => k_is)
    (case kI => k_is)
    (case aP => k_is)
    (case iP => k_is)
    (case lP => k_is)
    (case cP => k_is)
    (case kP => k_is)
    (case aW => k_is)
    (case iW => k_is)
    (case lW => k_is)
    (case cW => k_is)
    (case kW => k_is)
    (case aG => k_is)
    (case iG => k_is)
    (case lG => k_is)
    (case cG => k_is)
    (case kG => k_is)
    (case aNu => k_is)
    (case iNu => k_is)
    (case lNu => k_is)
    (case cNu => k_is)
    (case kNu => k_is)
    (case aHa => k_is)
    (case iHa => k_is)
    (case lHa => k_is)
    (case cHa => k_is)
    (case kHa => k_is)
    (case aLe => k_is)
    (case iLe => k_is)
    (case lLe => k_is)
    (case cLe => k_is)
    (case kLe => k_is)
    (case aE => k_is)
    (case iE => k_is)
    (case lE => k_is)
    (case cE => k_is)
    (case kE => k_is)
    (case fnG => first | k_is | kernel_rfl | decide +kernel)
    (case aN => k_is)
    (case lN => k_is)
    (case cN => k_is)
    (case kN => k_is)
    (case aD => k_is)
    (case lD => k_is)
    (case cD => k_is)
    (case kD => k_is)
    (case aCh => k_is)
    (case lCh => k_is)
    (case cCh => k_is)
    (case kCh => k_is)
    (case aF => k_is)
    (case lF => k_is)
    (case cF => k_is)
    (case kF => k_is)
    (case aT => k_is)
    (case lT => k_is)
    (case cT => k_is)
    (case kT => k_is)
    (case aMi => k_is)
    (case lMi => k_is)
    (case cMi => k_is)
    (case kMi => k_is)
    (case aL => k_is)
    (case lL => k_is)
    (case cL => k_is)
    (case kL => k_is)
    (case aM => k_is)
    (case lM => k_is)
    (case cM => k_is)
    (case kM => k_is)
    (case aS => k_is)
    (case lS => k_is)
    (case cS => k_is)
    (case kS => k_is)
    (case aU => k_is)
    (case lU => k_is)
    (case cU => k_is)
    (case kU => k_is)
    (case aR => k_is)
    (case lR => k_is)
    (case cR => k_is)
    (case kR => k_is)
    (case aO => k_is)
    (case lO => k_is)
    (case cO => k_is)
    (case kO => k_is)
    (case aZ => k_is)
    (case lZ => k_is)
    (case cZ => k_is)
    (case kZ => k_is)
    (case z_super => k_is)
    (case z_range => k_is)
    (case z_max => k_is)
    (case z_min => k_is)
    (case z_len => k_is)
    (case z_isinstance => k_is)
    (case z_int => k_is)
    (case z_tuple => k_is)
    (case z_list => k_is)
    (case z_str => k_is)
    (case z_repr => k_is)
    (case z_abs => k_is)
    (case z_all => k_is)
    (case gLe => k_is)
    (case gDi => k_is)
    (case gMo => k_is)
