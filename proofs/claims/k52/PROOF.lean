import PyProof.Rows.All
import Wide.All
import OpenK.AllK
import Wide.FinOn
import HandS.ForMost
import HandS.ForExc
import HandS.Wide
import HandS.Gcd
import HandS.FStr
import HandS.StrMore
import HandS.IsInst
import HandS.Small
import HandS.CallSlots
import HandS.Flow
import HandS.Codes
import PyProof.ReprRoads
import HandS.RaiseMore
import HandS.Star
import HandS.DictComp
import HandS.DictEq
import HandS.ExcInit
import HandS.ExcIs
import HandS.ExcSuper
import KE.KExcSuper
import KE.KSuper
import HandS.ExcValue
import HandS.ExcField
import HandS.Defaults
import HandS.Walk
import OpenK.KMeth
import OpenK.KOps
import HandS.Conv
import HandS.Strs
import HandS.Dict
import HandS.SetKeys
import KE.KeyNested
import PyProof.EqLayable
import HandS.List
import KE.KDictZip
import HandS.Iter
import HandS.Zip0
import HandS.TryMany
import HandS.SetFor
import HandS.Zip
import HandS.Style
import HandS.Spec
import HandS.SortOrd
import HandS.SortRule
import KE.KSortTupAny
import KE.SortData
import HandS.ClsMeth
import HandS.ListItems
import HandS.TupMul
import HandS.SortKw
import KE.DatumOrd
import PyProof.Rows.RowBridgeK
import KE.DatumMoreOrd
import PyProof.RowDictHeap
import KE.KDictLaws
import HandS.HeadHook3
import PySem.Challenge.RW_hadnot_k52_cheapest_worlds
set_option Elab.async false
set_option linter.all false
set_option maxRecDepth 100000
set_option maxHeartbeats 4000000
namespace L3
open PySem PySem.Spec PyProof.Rows L2
section
variable {X : Cx} {CX : CXT} {C f : Addr} {fd : FuncData} {ps : List Str} {sp : Sp} {E : XK} {n : Nat} {pins : List (Addr × Obj)} {σ : L2.St}
/-- the callee runs, a few levels below the body -/
theorem run_fnA {A : Around} {s : Shared} {H : Hp} {Q : VK} {us : List Value} {vs : List V} (F : FnOk X.prog X.w X.K X.mg X.base CX n f fd ps sp) (hr : Room n A) (hfr : A.frames = X.A.frames) (hb : Binds X.K fd ps []) (hx : Passes CX X E)
    (I : Inv X pins σ H s) (r : Vals vs us) (h : sp vs H Q E) : wpAny (model X.prog X.w) A (call (.ref f) us) (EP X pins σ Q) X.xe s := by
  have e0 : Env0 X.prog X.w X.K X.mg X.base A X.stack s H := by
    have e := I.env0
    exact ⟨hfr.trans e.frames, e.mod, e.bs, e.bsz, e.funs, e.frf, e.hok, e.bare⟩
  have hl : us.length = ps.length := r.length.symm.trans (F.len _ _ _ _ h)
  have bb := hb s us I.kIn (by simpa using hl)
  rw [List.append_nil] at bb
  refine wpAny_call (codeAny_mono (F.run A X.stack s H ⟨us, []⟩ us vs Q E hr e0 bb r h) fun res s' hq => ?_)
  match res, hq with
  | .error e, hq => exact hx pins σ H s e s' I hq
  | .ok (.ret w), hq => exact I.after hq
  | .ok .next, hq => exact False.elim hq
  | .ok .brk, hq => exact False.elim hq
  | .ok .cont, hq => exact False.elim hq
end
end L3
namespace L3
open PySem PySem.Spec PyProof.Rows L2
theorem iteB {b : Bool} {A B : Prop} (h1 : b = true → A) (h2 : b = false → B) : if b = true then A else B := by
  cases b with
  | true => exact h1 rfl
  | false => exact iteF (h2 rfl)
theorem iteD {c A B : Prop} [Decidable c] (h1 : c → A) (h2 : ¬ c → B) : if decide c = true then A else B :=
  iteB (fun h => h1 (of_decide_eq_true h)) fun h => h2 (of_decide_eq_false h)
section
variable {X : Cx} {CX : CXT} {C f : Addr} {fd : FuncData} {ps : List Str} {sp : Sp} {E : XK} {n : Nat}
/-- repr of a bool -/
def boolText (b : Bool) : Str := if b = true then Str.ofString "True" else Str.ofString "False"
end
end L3
namespace L3
open PySem PySem.Spec PyProof.Rows L2
/-- no repr is under way -/
abbrev Calm (A : Around) : Prop := A.guards = some []
structure FnG (P : Program) (w : World) (K : PySem.W.Frag) (mg : Str → Option Value) (base : Heap) (CX : CXT) (k : Nat) (f : Addr) (fd : FuncData) (ps : List Str) (sp : Sp) : Prop where
  len : ∀ vs H Q E, sp vs H Q E → vs.length = ps.length
  run : ∀ (A : Around) (outer : List Env) (s : Shared) (H : Hp) (args : Args) (us : List Value) (vs : List V) (Q : VK) (E : XK), Calm A → Room k A → Env0 P w K mg base A outer s H → BindsTo s fd args (ps.zip us) → Vals vs us → sp vs H Q E →
    codeAny (model P w) A (.call (.ref f) args) (CR CX outer P w H s Q E) s
section
variable {P : Program} {w : World} {K : PySem.W.Frag} {mg : Str → Option Value} {base : Heap} {CX : CXT} {j k : Nat} {f : Addr} {fd : FuncData} {ps : List Str} {sp sp' : Sp}
theorem FnG.of (F : FnOk P w K mg base CX k f fd ps sp) : FnG P w K mg base CX k f fd ps sp :=
  ⟨F.len, fun A outer s H args us vs Q E _ => F.run A outer s H args us vs Q E⟩
theorem FnG.mono (F : FnG P w K mg base CX j f fd ps sp) (h : j ≤ k) : FnG P w K mg base CX k f fd ps sp :=
  ⟨F.len, fun A outer s H args us vs Q E g hr => F.run A outer s H args us vs Q E g (hr.mono h)⟩
/-- a def by its body, where no repr is under way -/
theorem gfn_of {name qual : Str} {params : Arguments} {body : List Stmt} {scope : Scope} {dV kV doc pm cdv ct oc : Value} {an od : Option Addr} {osl : Array (Option Value)} {N : List Str}
    (lk : K.lookup f = some ⟨oc, od, .func (PySem.W.fnOf name qual params body scope dV kV doc pm an cdv ct), osl⟩) (hcd : PySem.W.codeIn K cdv qual = true) (S : FnScope N ps scope)
    (len : ∀ vs H Q E, sp vs H Q E → vs.length = ps.length)
    (hbody : ∀ (A : Around) (outer : List Env) (s : Shared) (H : Hp) (vs : List V) (Q : VK) (E : XK), Calm A → Room k (A.deeper (envOfC qual scope s.heap.objs.size f cdv)) → sp vs H Q E →
      ∃ t, PSs (cxOf CX P w K mg base N qual scope f cdv A outer s H E) body t ∧ t { nx := fun _ H' => Q .non H', rt := Q } (L2.start N vs) H) :
    FnG P w K mg base CX (k + 1) f (PySem.W.fnOf name qual params body scope dV kV doc pm an cdv ct) ps sp := by
  constructor
  · exact len
  intro A outer s H args us vs Q E g hr e0 hb r hsp
  have old : ∀ b o, base.get? b = some o → s.heap.get? b = some o := fun b o e => (e0.bs b o e).1
  have KX : K.In s.heap := e0.mod.kin.keeps old
  have lim : s.heap.NoLimit := e0.mod.nolimit.keeps old
  have kinds : ∀ y ∈ ps.zip us, scope.names.lookup y.1 = some .local ∨ (scope.names.lookup y.1 = some .cell ∧ ((cellsFrom (s.heap.objs.size + 1) scope.names []).lookup y.1).isSome = true) := by
    intro y hy
    rcases S.par y.1 (List.of_mem_zip (a := y.1) (b := y.2) hy).1 with q | q
    · exact .inl q
    · exact .inr ⟨q, PySem.W.cellsFrom_some _ _ _ (.inl q)⟩
  obtain ⟨t, ht, hq⟩ := hbody A outer s H vs Q E g (hr.deeper _) hsp
  refine codeAny_call_function hr.depth (KX _ _ lk) rfl S.co S.gen rfl (PySem.W.codeRec_of KX hcd) (hb _ _ _ _ (wpAny_newFunctionEnv_cells S.kind kinds fun env he s1 x => ?_))
  subst he
  refine ⟨lim.keeps x.toInCall.keep, codeAny_func (wpAny_mono (ht.run [] s1 (L2.start N vs) H _ (inv_start S hr.hd e0 (len _ _ _ _ hsp) r x) hq) (fun fl s' hs => ?_) fun e s' hs => hs)⟩
  match fl, hs with
  | .ret _, ⟨v, σ', H', J, rv, q⟩ => exact ⟨v, H', J.os, J.bare, J.base, J.hok, rv, q⟩
  | .next, ⟨σ', H', J, q⟩ => exact ⟨.non, H', J.os, J.bare, J.base, J.hok, rfl, q⟩
  | .brk, ⟨_, _, _, q⟩ => exact q.elim
  | .cont, ⟨_, _, _, q⟩ => exact q.elim
theorem gok {x qual : Str} {st : Stmt} {N : List Str} (F : Fun K x qual st f fd) (S : FnScope N ps (defScope st)) (len : ∀ vs H Q E, sp vs H Q E → vs.length = ps.length)
    (hbody : ∀ (cdv : Value) (A : Around) (outer : List Env) (s : Shared) (H : Hp) (vs : List V) (Q : VK) (E : XK), Calm A → Room k (A.deeper (envOfC qual (defScope st) s.heap.objs.size f cdv)) → sp vs H Q E →
      ∃ t, PSs (cxOf CX0 P w K mg base N qual (defScope st) f cdv A outer s H E).nox (defBody st) t ∧ t { nx := fun _ H' => Q .non H', rt := Q } (L2.start N vs) H) : FnG P w K mg base CX0 (k + 1) f fd ps sp := by
  obtain ⟨oc, od, kV, doc, pm, an, cdv, ct, osl, rfl, lk, hcd⟩ := F.ex
  exact gfn_of lk hcd S len fun A outer s H vs Q E g hr hsp => let ⟨t, h, q⟩ := hbody cdv A outer s H vs Q E g hr hsp; ⟨t, h.nox, q⟩
end
section
variable {X : Cx} {CX : CXT} {k : Nat} {f : Addr} {fd : FuncData} {ps : List Str} {sp : Sp} {dvs : List V} {ds : List Value} {E : XK} {x : Str} {p pos : Pos} {e : Expr} {es : List Expr} {t : TA}
theorem run_fnG {pins : List (Addr × Obj)} {σ : L2.St} {H : Hp} {s : Shared} {Q : VK} {us : List Value} {vs : List V} (F : FnG X.prog X.w X.K X.mg X.base CX k f fd ps sp) (g : Calm X.A) (hr : Room k X.A) (hb : Binds X.K fd ps ds) (hd : Vals dvs ds) (hx : Passes CX X E)
    (I : Inv X pins σ H s) (r : Vals vs us) (h : sp (vs ++ dvs) H Q E) : wpAny (model X.prog X.w) X.A (call (.ref f) us) (EP X pins σ Q) X.xe s := by
  have r2 := r.append hd
  refine wpAny_call (codeAny_mono (F.run X.A X.stack s H ⟨us, []⟩ (us ++ ds) (vs ++ dvs) Q E g hr I.env0 (hb s us I.kIn (r2.length.symm.trans (F.len _ _ _ _ h))) r2 h) fun res s' hq => ?_)
  match res, hq with
  | .error e, hq => exact hx pins σ H s e s' I hq
  | .ok (.ret u), hq => exact I.after hq
  | .ok .next, hq => exact hq.elim
  | .ok .brk, hq => exact hq.elim
  | .ok .cont, hq => exact hq.elim
theorem pe_callG (F : FnG X.prog X.w X.K X.mg X.base CX k f fd ps sp) (g : Calm X.A) (hr : Room k X.A) (hg : Gl X x) (hm : X.mg x = some (.ref f)) (hk : PySem.W.keepIn X.K (.ref f) = true) (hb : Binds X.K fd ps ds) (hd : Vals dvs ds) (hx : Passes CX X E)
    (ha : PA X (e :: es) t) (hdb : (x == ("__debug__" : Str)) = false := by decide) (he : starEach (e :: es) X.env = (false, eval e X.env) :: starEach es X.env := by rfl) (hpl : (backTo pos (starEach es X.env)).any (·.1) = false := by rfl) :
    PE X (.Call (.Name x p) (e :: es) [] pos) (tCall sp dvs E t) :=
  ⟨fun pins s σ H Q I h => wpAny_Call_Name_kw (ld_glob I hg hm (PySem.W.callWith_K (h₀ := X.base) I.ok.mod.kin hk (thn (ha.run pos pins s σ H _ I h) fun us s1 ⟨vs, H1, I1, r, q⟩ => ⟨I1.kIn, run_fnG F g hr hb hd hx I1 r q⟩) he hpl) hdb)⟩
end
/-- repr(x), x data laid out in the heap -/
def rReprD (K : PySem.W.Frag) : List V → Hp → VK → Prop := fun xs H Q => ∃ (x : V) (d : PyData), xs = [x] ∧ Dp K H x d ∧ (∃ a, x = .ref a) ∧ d.showable = true ∧ d.hasDict = false ∧ d.depth ≤ 60 ∧ d.shown.length ≤ sizeLine ∧ Q (.str d.shown) H
theorem call_reprD {X : Cx} (g : Calm X.A) (hu : X.A.units + 64 < cLine) : CallR X (.builtin "repr") (rReprD X.K) := by
  intro pins s σ H xs us Q I rx h
  obtain ⟨x, d, rfl, hd, ⟨a, rfl⟩, hs, hnd, hdep, hsz, q⟩ := h
  cases rx with
  | @cons _ u _ _ ra rw' =>
    cases rw'
    obtain rfl : u = Value.ref a := ra
    obtain ⟨as, r⟩ := Dp.reads I d _ _ hd rfl
    exact PySem.repr_of_reads' r hs (fun z => by rw [hnd] at z; cases z) g (by omega) (fun _ _ e => e) (fun h' u tk k => ⟨.str d.shown, H, I.kept k, ⟨u, rfl⟩, q⟩) hsz
end L3
namespace L3
open PySem PySem.Spec PyProof.Rows L2
/-- the script's list as it is tracked at the law's entry -/
def hScript (a : Addr) (vs : List Value) (ns : List Int) (own : Bool) : Hp := fun b => if own = false ∧ b = a then some (.frz { cls := .type "list", data := .seq vs.toArray } (.lst (ns.map V.int))) else none
section
variable {P : Program} {w : World} {K : PySem.W.Frag} {mg mb : Str → Option Value} {CX : CXT} {k : Nat} {fa a : Addr} {fd : FuncData} {x : Str} {sp : Sp} {s : Shared} {vs : List Value} {ns : List Int} {own : Bool}
theorem hs_some {b : Addr} {o : HO} (h : hScript a vs ns own b = some o) : own = false ∧ b = a ∧ o = .frz { cls := .type "list", data := .seq vs.toArray } (.lst (ns.map V.int)) := by
  unfold hScript at h
  split at h
  · rename_i c
    exact ⟨c.1, c.2, (Option.some.inj h).symm⟩
  · cases h
theorem hs_none {b : Addr} (h : own = true ∨ b ≠ a) : hScript a vs ns own b = none := by
  cases q : hScript a vs ns own b with
  | none => rfl
  | some o =>
    obtain ⟨h1, h2, _⟩ := hs_some q
    rcases h with h | h
    · rw [h] at h1; cases h1
    · exact absurd h2 h
theorem hs_only : Only (hScript a vs ns own) := fun b => by
  cases q : hScript a vs ns own b with
  | none => exact .inl rfl
  | some o =>
    obtain ⟨_, _, e⟩ := hs_some q
    exact .inr ⟨_, _, by rw [e]⟩
theorem hs_ok (ha : s.heap.get? a = some { cls := .type "list", data := .seq vs.toArray }) (hi : IntsAre vs ns) (hl : ns.length ≤ sizeLine) : HOk P w (hScript a vs ns own) s.heap := fun b o q => by
  obtain ⟨_, rfl, rfl⟩ := hs_some q
  exact ⟨ha, by rw [List.length_map]; exact hl, vs, _, vals_ints hi, ha⟩
theorem hs_seq (ha : s.heap.get? a = some { cls := .type "list", data := .seq vs.toArray }) (hi : IntsAre vs ns) (hl : ns.length ≤ sizeLine) (KX : K.In s.heap) (hk : own = (K.lookup a).isSome) : SqL K (hScript a vs ns own) a (ns.map V.int) := by
  cases q : K.lookup a with
  | some o =>
    have e := KX a o q
    rw [ha] at e
    cases e
    exact .inr ⟨_, vs.toArray, _, q, rfl, rfl, rfl, by rw [List.size_toArray, hi.length]; exact hl, by simpa using vals_ints hi⟩
  | none =>
    refine .inl (.inr ⟨{ cls := .type "list", data := .seq vs.toArray }, ?_⟩)
    unfold hScript
    exact if_pos ⟨by rw [hk, q]; rfl, rfl⟩
/-- the law's def at the entry, its promise by FnG -/
theorem law_callG (KX : K.In s.heap) (hns : s.heap.Ns mainGlobals mg) (hb : s.heap.Ns builtinsNs mb) (hbb : ∀ x : Str, x ≠ "__name__" → mb x = bootBuiltins x) (hlim : s.heap.NoLimit) (hg : s.gens = #[])
    (ha : s.heap.get? a = some { cls := .type "list", data := .seq vs.toArray }) (hi : IntsAre vs ns) (hl : ns.length ≤ sizeLine) (hr : Room k callerA)
    (F : ∀ base : Heap, K.In base → base.Ns mainGlobals mg → FnG P w K mg base CX k fa fd [x] sp) (hbind : ∀ (s : Shared) (u : Value), BindsTo s fd ⟨[u], []⟩ [(x, u)])
    (hsp : ∀ H : Hp, Only H → SqL K H a (ns.map V.int) → sp [.ref a] H (fun v _ => v = .bl true) fun _ _ _ => False) (hCX : ∀ H e s', CX [] H s (fun _ _ _ => False) e s' → False) :
    codeAny (model P w) callerA (.call (.ref fa) ⟨[.ref a], []⟩) (fun r s' => r = .ok (.ret (.bool true)) ∧ OldK s.heap s'.heap ∧ s'.os = s.os ∧ AllBare s'.gens) s := by
  let own := (K.lookup a).isSome
  have hok : HOk P w (hScript a vs ns own) s.heap := hs_ok ha hi hl
  -- an object of the module, or a namespace, is not the tracked script
  have offK : ∀ {b : Addr} {o : Obj}, K.lookup b = some o → hScript a vs ns own b = none := fun {b o} e => by
    by_cases hb : b = a
    · refine hs_none (.inl ?_)
      show (K.lookup a).isSome = true
      rw [← hb, e]
      rfl
    · exact hs_none (.inr hb)
  have offD : ∀ {b : Addr} {o : Obj} {es : Array DictEntry} {ep : Nat}, s.heap.get? b = some o → o.data = .dict es ep → hScript a vs ns own b = none := fun {b o es ep} e d => by
    refine hs_none (.inr fun z => ?_)
    rw [z, ha] at e
    cases e
    cases (show Data.seq vs.toArray _ = Data.dict es ep from d)
  have nsK : ∀ {b : Addr} {m : Str → Option Value}, s.heap.Ns b m → (hidT s.heap (hScript a vs ns own)).Ns b m := fun {b m} ⟨o, es, ep, e, d, r⟩ => ⟨o, es, ep, hidT_get e (offD e d), d, r⟩
  have hKb : K.In (hidT s.heap (hScript a vs ns own)) := fun b o e => hidT_get (KX b o e) (offK e)
  obtain ⟨mc, c1, c2⟩ := hlim
  have hM : Mod K mg (hidT s.heap (hScript a vs ns own)) := ⟨hKb, nsK hns, ⟨mb, nsK hb, hbb⟩, mc, nsK c1, c2⟩
  have e0 : Env0 P w K mg (hidT s.heap (hScript a vs ns own)) callerA [] s (hScript a vs ns own) :=
    ⟨rfl, hM, fun b o e => of_hidT e, Nat.le_of_eq (hidT_size _ _), trivial, fun b hb => absurd (show b ∈ ([] : List Addr) from hb) (by simp), hok, .of_eq hg⟩
  refine codeAny_mono ((F _ hKb (nsK hns)).run callerA [] s (hScript a vs ns own) ⟨[.ref a], []⟩ [.ref a] [.ref a] _ _ rfl hr e0 (hbind s (.ref a)) (.cons rfl .nil) (hsp _ hs_only (hs_seq ha hi hl KX rfl))) fun r s' h => ?_
  match r, h with
  | .error e, h => exact (hCX _ e s' h).elim
  | .ok .next, h => exact h.elim
  | .ok .brk, h => exact h.elim
  | .ok .cont, h => exact h.elim
  | .ok (.ret u), ⟨v, H', os, bare, un, hok', rv, q⟩ =>
    cases (show v = .bl true from q)
    obtain rfl : u = Value.bool true := rv
    refine ⟨rfl, OldK.of_keep fun b o e => ?_, os, bare⟩
    cases z : hScript a vs ns own b with
    | none => exact un.keep b o e z (fun z => absurd (show b ∈ ([] : List Addr) from z) (by simp)) (by simp)
    | some u =>
      obtain ⟨_, _, rfl⟩ := hs_some z
      have y := (hok' b _ (un.frzs b _ _ z)).1
      have y0 := (hok b _ z).1
      rw [e] at y0
      cases y0
      exact y
end
/-- the goal behind the head, from the law's promise by FnG -/
theorem walk_ofG {l : PySem.W.OpenLaw} {n k : Nat} {q : Program} {loose : List Str} {XP : (Str → Option Value) → Heap → Prop} {YP : World → Heap → Prop} {d : DefRec} {K : Params → PySem.W.Frag} {CX : World → CXT} {sp : World → Sp} {x : Str}
    (hn : l.most = some n) (hn2 : n ≤ sizeLine) (hdf : d.params.defaults = []) (hr : Room k callerA) (hY : ∀ (w : World) (h : Heap), YP w h → (K w.params).In h)
    (F : ∀ (w : World) (mg : Str → Option Value) (fa : Addr) (h : Heap), (K w.params).In h → h.Ns mainGlobals mg → mg d.name = some (.ref fa) →
      ∃ fd : FuncData, (∀ (s : Shared) (u : Value), BindsTo s fd ⟨[u], []⟩ [(x, u)]) ∧ ∀ base : Heap, (K w.params).In base → base.Ns mainGlobals mg → FnG l.prog w (K w.params) mg base (CX w) k fa fd [x] (sp w))
    (hsp : ∀ (w : World) (H : Hp) (a : Addr) (ns : List Int), ns.length ≤ n → Only H → SqL (K w.params) H a (ns.map V.int) → sp w [.ref a] H (fun v _ => v = .bl true) fun _ _ _ => False)
    (hCX : ∀ (w : World) (H : Hp) (s : Shared) (e : Value) (s' : Shared), CX w [] H s (fun _ _ _ => False) e s' → False) :
    PySem.W.WalkO q loose XP YP l.row.toRowW d [] (fun f vs => PySem.call f vs) := by
  refine Att.attach_call hn hdf fun w s₀ s₁ mg mb fa o pm cd doc a vs ns G Y ho hd hcd hmg hobj hints hlen hg => ?_
  obtain ⟨fd, hb, hF⟩ := F w mg fa _ (hY w _ Y) G.T.g hmg
  exact law_callG (hY w _ Y) G.T.g G.T.b G.T.builtins G.T.nolimit hg hobj hints (Nat.le_trans hlen hn2) hr hF hb (fun H hO hS => hsp w H a ns hlen hO hS) fun H e s' => hCX w H s₁ e s'
end L3
namespace L3
open PySem PySem.Spec PyProof.Rows L2
abbrev Sm (n : Nat) (x : Int) : Prop := x.natAbs < 2 ^ n
theorem Sm.mono {n m : Nat} {x : Int} (h : Sm n x) (l : n ≤ m) : Sm m x := Nat.lt_of_lt_of_le h (Nat.pow_le_pow_right (by decide) l)
theorem Sm.le {n : Nat} {x y : Int} (h : Sm n y) (l : x.natAbs ≤ y.natAbs) : Sm n x := Nat.lt_of_le_of_lt l h
theorem Sm.log {n k : Nat} {x : Int} (h : Sm n x) (h0 : 0 < n) (hk : n ≤ k) : x.natAbs.log2 < k := Nat.lt_of_lt_of_le (PySem.Flt.log2_lt_of h0 h) hk
theorem Sm.mulW {n m : Nat} {x y : Int} (h : Sm n x) (k : Sm m y) (h0 : 0 < n) (h1 : 0 < m) (hl : n + m ≤ 1000000) : CMulW x y := wide_mul h k h0 h1 hl
theorem len_app (x y : Str) : (x ++ y).length = x.length + y.length := by
  obtain ⟨a⟩ := x
  obtain ⟨b⟩ := y
  show (a ++ b).size = _
  simp [Str.length]
theorem size_ok {n : Nat} (h : n ≤ 100000) : n ≤ sizeLine := by rw [sizeLine_eq]; omega
def FeedAt (H : Hp) (a : Addr) : Prop := ∃ x y : Int, H a = some (.lst [.int x, .int y]) ∧ 0 ≤ y ∧ y ≤ 2147483648
/-- behind a draw: all but the feed stands -/
structure Dr (a : Addr) (H H' : Hp) : Prop where
  fd : FeedAt H' a
  sm : ∀ b o, b ≠ a → H b = some o → H' b = some o
theorem Dr.trans {a : Addr} {H H1 H2 : Hp} (x : Dr a H H1) (y : Dr a H1 H2) : Dr a H H2 := ⟨y.fd, fun b o n e => y.sm b o n (x.sm b o n e)⟩
def spFeed (K : PySem.W.Frag) : Sp := fun vs H Q _ => ∃ (a : Addr) (ns : List Int) (k : Nat), vs = [.ref a, .int k] ∧ SqL K H a (ns.map V.int) ∧ ns.length ≤ 63 ∧ k < 64 ∧
  ∀ (p : Addr) (H' : Hp), H p = none → Same H H' → FeedAt H' p → Q (.ref p) H'
def spTake : Sp := fun vs H Q _ => ∃ (a : Addr) (m : Int), vs = [.ref a, .int m] ∧ FeedAt H a ∧ 0 < m ∧ Sm 200 m ∧ ∀ (r : Int) (H' : Hp), 0 ≤ r → r < m → Dr a H H' → Q (.int r) H'
theorem same_new {H : Hp} {p : Addr} {o : HO} (h : H p = none) : Same H (upd H p o) := fun b u e => by
  rw [upd_ne (ne_of_none e h)]
  exact e
end L3
namespace L3
open PySem PySem.Spec PyProof.Rows L2
def rtext : PyData → Str
  | .none => "None"
  | .bool b => boolText b
  | .int i => Str.ofString (toString i)
  | .str x => reprText x
  | d => d.shown
structure FineB (d : PyData) : Prop where
  sh : d.showable = true
  nd : d.hasDict = false
  dp : d.depth ≤ 60
  sz : d.shown.length ≤ sizeLine
def Fine : PyData → Prop
  | .none => True
  | .bool _ => True
  | .int i => i.natAbs.log2 < 1920
  | .str x => (reprText x).length ≤ sizeLine
  | d => FineB d
def rRepr (K : PySem.W.Frag) : List V → Hp → VK → Prop := fun xs H Q => ∃ (x : V) (d : PyData), xs = [x] ∧ Dp K H x d ∧ Fine d ∧ Q (.str (rtext d)) H
theorem call_repr {X : Cx} (g : Calm X.A) (hu : X.A.units + 64 < cLine) : CallR X (.builtin "repr") (rRepr X.K) := by
  intro pins s σ H xs us Q I rx h
  obtain ⟨x, d, rfl, hd, hf, q⟩ := h
  cases hd with
  | non =>
    obtain ⟨u, rfl, r⟩ := vals1 rx
    cases r
    exact PySem.P.repr_of_none ⟨.str "None", H, I.tok _, ⟨_, rfl⟩, q⟩
  | bl b =>
    obtain ⟨u, rfl, r⟩ := vals1 rx
    cases r
    exact PySem.P.repr_of_bool ⟨.str (boolText b), H, I.tok _, ⟨_, rfl⟩, q⟩
  | int i =>
    obtain ⟨u, rfl, t, rfl⟩ := vals1 rx
    exact PySem.P.repr_of_int hf ⟨.str _, H, I.tok _, ⟨_, rfl⟩, q⟩
  | str y =>
    obtain ⟨u, rfl, t, rfl⟩ := vals1 rx
    exact PySem.P.repr_of_str ⟨.str _, H, I.tok _, ⟨_, rfl⟩, q⟩ hf
  | @lst a ys ds hs ha =>
    have f : FineB (.list ds) := hf
    exact call_reprD g hu pins s σ H _ us Q I rx ⟨_, _, rfl, .lst hs ha, ⟨a, rfl⟩, f.sh, f.nd, f.dp, f.sz, q⟩
  | @tup a ys ds hs ha =>
    have f : FineB (.tuple ds) := hf
    exact call_reprD g hu pins s σ H _ us Q I rx ⟨_, _, rfl, .tup hs ha, ⟨a, rfl⟩, f.sh, f.nd, f.dp, f.sz, q⟩
theorem Same.seqT {K : PySem.W.Frag} {H H' : Hp} {a : Addr} {xs : List V} (e : Same H H') (h : SqT K H a xs) : SqT K H' a xs := by
  rcases h with (h | ⟨o, h⟩) | h
  · exact .inl (.inl (e _ _ h))
  · exact .inl (.inr ⟨o, e _ _ h⟩)
  · exact .inr h
mutual
theorem dp_keep {K : PySem.W.Frag} {H H' : Hp} (k : ∀ a xs, SqL K H a xs → SqL K H' a xs) (kt : ∀ a xs, SqT K H a xs → SqT K H' a xs) : ∀ (d : PyData) (v : V), Dp K H v d → Dp K H' v d
  | .none, _, .non => .non
  | .bool b, _, .bl _ => .bl b
  | .int i, _, .int _ => .int i
  | .str x, _, .str _ => .str x
  | .list ds, _, .lst hs ha => .lst (k _ _ hs) (dpAll_keep k kt ds _ ha)
  | .tuple ds, _, .tup hs ha => .tup (kt _ _ hs) (dpAll_keep k kt ds _ ha)
theorem dpAll_keep {K : PySem.W.Frag} {H H' : Hp} (k : ∀ a xs, SqL K H a xs → SqL K H' a xs) (kt : ∀ a xs, SqT K H a xs → SqT K H' a xs) : ∀ (ds : List PyData) (vs : List V), DpAll K H vs ds → DpAll K H' vs ds
  | [], _, .nil => .nil
  | d :: ds, _, .cons h hs => .cons (dp_keep k kt d _ h) (dpAll_keep k kt ds _ hs)
end
theorem Dp.same {K : PySem.W.Frag} {H H' : Hp} {v : V} {d : PyData} (e : Same H H') (h : Dp K H v d) : Dp K H' v d := dp_keep (fun _ _ => e.seq) (fun _ _ => Same.seqT e) d v h
end L3
namespace PySem.MM
open PySem
section
variable {K : Type} [DecidableEq K] {prog : Program} {w : World} {kn : KeyKind prog w K}
theorem in_both {es : List DictEntry} {ps : List (K × Value)} (h : Pairs kn es ps) (k : K) : (es.findIdx? fun e => kn.is k e.key).isSome = ps.any fun kv => decide (kv.1 = k) := by
  rw [h.findIdx k]
  clear h
  induction ps with
  | nil => rfl
  | cons p ps ih => cases c : decide (p.1 = k) <;> simp [List.findIdx?_cons, c, ih]
theorem there {es : List DictEntry} {ps : List (K × Value)} (h : Pairs kn es ps) {k : K} {i : Nat} (e : (es.findIdx? fun e => kn.is k e.key) = some i) (v : Value) : stored ps k v = ps.map fun kv => if kv.1 = k then (kv.1, v) else kv :=
  if_pos ((in_both h k).symm.trans (by rw [e]; rfl))
theorem fresh {es : List DictEntry} {ps : List (K × Value)} (h : Pairs kn es ps) {k : K} (e : (es.findIdx? fun e => kn.is k e.key) = none) (v : Value) : stored ps k v = ps ++ [(k, v)] :=
  if_neg (fun q => nomatch (show (none : Option Nat).isSome = true from e ▸ (in_both h k).trans q))
theorem nod_put (ps : List (K × Value)) (k : K) (v : Value) (n : (ps.map (·.1)).Nodup) : ((stored ps k v).map (·.1)).Nodup := by
  by_cases c : ps.any (fun kv => decide (kv.1 = k)) = true
  · rw [show stored ps k v = _ from if_pos c, keys_map_store]
    exact n
  · rw [show stored ps k v = _ from if_neg c, List.map_append]
    refine (List.perm_append_singleton k _).nodup_iff.mpr (List.nodup_cons.mpr ⟨fun m => c ?_, n⟩)
    obtain ⟨q, m, e⟩ := List.mem_map.mp m
    exact List.any_eq_true.mpr ⟨q, m, decide_eq_true e⟩
variable {A : Around} {E : Value → Shared → Prop}
theorem put1 {s : Shared} {d : Addr} {ps : List (K × Value)} {k : K} {key v : Value} {Q : Unit → Shared → Prop} (hk : kn.is k key = true) (z : ps.length ≤ sizeLine) (D : s.heap.DictOf kn d ps)
    (q : ∀ h, Heap.SameBut d s.heap h → h.DictOf kn d (stored ps k v) → Q () { s with heap := h }) : wpAny (model prog w) A (dictPut d (kn.hash k) key v) Q E s := by
  obtain ⟨ob, ar, ep, g, ex, da, ks, pp, nd⟩ := D
  have al : (ar.findIdx? fun e => kn.is k e.key) = ar.toList.findIdx? fun e => kn.is k e.key := by
    cases ar
    simp
  unfold dictPut
  refine wpAny_bind (wpAny_dictFind_of hk g da ks ?_)
  rw [al]
  cases c : ar.toList.findIdx? fun e => kn.is k e.key with
  | none =>
    have lz : ar.size ≤ sizeLine := by
      rw [← Array.length_toList, pp.length]
      exact z
    refine wpAny_updateDictKeys (hz := lz) g da (q _ (Heap.SameBut.update ..) ⟨_, _, _, Heap.get?_update_self _ g (Obj.isFreed_of_dict (Obj.data_mapDictKeys da _)), ex.mapDictKeys _, Obj.data_mapDictKeys da _, ks.push hk _, ?_, nod_put ps k v nd⟩)
    rw [fresh pp c, Array.toList_push]
    exact pp.append hk _ v
  | some i =>
    refine wpAny_updateDict g da (q _ (Heap.SameBut.update ..) ⟨_, _, _, Heap.get?_update_self _ g (Obj.isFreed_of_dict (Obj.data_mapDict da _)), ex.mapDict _, Obj.data_mapDict da _, ks.modify _ _, ?_, nod_put ps k v nd⟩)
    rw [there pp c, Array.toList_modify]
    exact pp.modify nd c v
/-- A walk over the rows i, i+1, …, of a table `b`, each put into `d`: by induction on how many are left. -/
theorem walk {d b : Addr} {ob : Obj} {more : List (K × Value)} (db : b ≠ d) {f : Nat → PUnit → Sem (ForInStep PUnit)}
    (turn : ∀ (i : Nat) (r : K × Value) (acc : List (K × Value)) (s : Shared), more[i]? = some r → acc.length ≤ sizeLine → s.heap.get? b = some ob → s.heap.DictOf kn d acc →
      wpAny (model prog w) A (f i PUnit.unit) (fun x s' => x = .yield PUnit.unit ∧ ∃ h, s' = { s with heap := h } ∧ Heap.SameBut d s.heap h ∧ h.DictOf kn d (stored acc r.1 r.2)) E s) :
    ∀ (n i : Nat) (acc : List (K × Value)) (s : Shared) (Q : PUnit → Shared → Prop), i + n = more.length → acc.length + n ≤ sizeLine → s.heap.get? b = some ob → s.heap.DictOf kn d acc →
      (∀ h, Heap.SameBut d s.heap h → h.DictOf kn d (merged acc (more.drop i)) → Q PUnit.unit { s with heap := h }) → wpAny (model prog w) A (forIn (List.range' i n) PUnit.unit f) Q E s
  | 0, i, acc, s, Q, hi, _, _, D, q => by
    rw [List.range'_zero, List.forIn_nil]
    refine wpAny_pure (q s.heap (Heap.SameBut.refl _ _) ?_)
    rw [List.drop_of_length_le (by omega)]
    exact D
  | n + 1, i, acc, s, Q, hi, hz, g, D, q => by
    have lt : i < more.length := by omega
    rw [List.range'_succ, List.forIn_cons]
    refine wpAny_bind (wpAny_mono (turn i _ acc s (List.getElem?_eq_getElem lt) (by omega) g D) (fun x s' h => ?_) fun _ _ h => h)
    obtain ⟨rfl, h1, rfl, sb, D1⟩ := h
    have l1 := stored_length_le acc more[i].1 more[i].2
    refine walk db turn n (i + 1) _ { s with heap := h1 } Q (by omega) (by omega) ((sb.2 b db).trans g) D1 fun h2 sb2 D2 => q h2 (sb.trans sb2) ?_
    rw [← List.getElem_cons_drop lt]
    exact D2
theorem merge1 {s : Shared} {d b : Addr} {ps more : List (K × Value)} {Q : Unit → Shared → Prop} (nr : ∀ k a, kn.is k (.ref a) = false) (db : b ≠ d) (ns : (b == sysModules) = false) (z : ps.length + more.length ≤ sizeLine)
    (D : s.heap.DictOf kn d ps) (B : s.heap.DictOf kn b more) (q : ∀ h, Heap.SameBut d s.heap h → h.DictOf kn d (merged ps more) → Q () { s with heap := h }) : wpAny (model prog w) A (mergeMapping d (.ref b) false) Q E s := by
  have tb := B.typeIs
  obtain ⟨oD, aD, eD, gD, _, dD, _⟩ := id D
  obtain ⟨oB, aB, eB, gB, xB, dB, kB, pB, nB⟩ := B
  have lB : aB.size = more.length := by
    rw [← Array.length_toList, pB.length]
  unfold mergeMapping
  refine wpAny_bind (wpAny_isInstance tb isSubtype_dict_dict (show wpAny _ _ (if true = true then _ else _) _ _ _ from ?_))
  rw [if_pos rfl]
  refine wpAny_bind (wpAny_specialOf tb F.slot_dict_iter.lookup (wpAny_bind (wpAny_pure ?_)))
  rw [beq_self_eq_true]
  show wpAny _ _ (if (b == sysModules) = true then _ else _) _ _ _
  rw [ns, if_neg (fun c => nomatch c)]
  refine wpAny_bind (wpAny_dictEntries gD dD ?_)
  dsimp only
  cases aD.isEmpty
  case' true =>
    rw [if_pos rfl]
    refine wpAny_bind (wpAny_dictEntries gB dB ?_)
    refine wpAny_bind (show wpAny _ _ (forIn aB _ _) _ _ _ from ?_)
    rw [← Array.forIn_toList]
    refine wpAny_of_eq (a := PUnit.unit) (forIn_yield_id _ fun e m c => ?_) ?_
    case' refine_1 =>
      obtain ⟨k, hk, _⟩ := kB e (Array.mem_toList_iff.mp m)
      split
      case' h_1 a ea =>
        rw [ea, nr] at hk
        exact nomatch hk
      case' h_2 => rfl
  case' false => rw [if_neg (fun c => nomatch c)]
  all_goals
    refine wpAny_bind (wpAny_dictEntries gB dB ?_)
    refine wpAny_bind (wpAny_dictEpoch gB dB ?_)
    refine wpAny_bind ?_
    rw [List.range_eq_range']
    refine walk db (more := more) (kn := kn) (ob := oB) ?_ aB.size 0 ps s _ (by omega) (by omega) gB D fun h sb D' => wpAny_pure (q h sb D')
    intro i r acc t ei az g D'
    obtain ⟨li, er⟩ := List.getElem?_eq_some_iff.mp ei
    have la : i < aB.size := by omega
    obtain ⟨k1, v1⟩ := pB.get? (e := aB[i]) (by simp [la]) ei
    obtain ⟨k2, h2, hh⟩ := kB aB[i] (Array.getElem_mem la)
    cases kn.inj _ _ _ h2 k1
    refine wpAny_bind (wpAny_dictEntries g dB ?_)
    rw [Array.getElem?_eq_getElem la]
    refine wpAny_bind (wpAny_holding (?_ : wpAny _ _ (if false = true then _ else _) _ _ _))
    rw [if_neg (fun c => nomatch c), hh]
    refine put1 k1 az D' fun h sb D2 => wpAny_bind (wpAny_dictEpoch ((sb.2 b db).trans g) dB ?_)
    rw [if_neg (by simp)]
    exact wpAny_pure ⟨rfl, h, rfl, sb, v1 ▸ D2⟩
end
end PySem.MM
namespace L3
open PySem PySem.Spec PyProof.Rows L2
/-- {**e0, k: v} -/
def tDst (t0 tk tv : TE) : TE := fun σ H Q => ∀ d, H d = none → t0 σ (upd H d (.dK [])) fun x H1 => ∃ a kvs, x = .ref a ∧ Rd H1 a (.dK kvs) ∧ a ≠ d ∧ H1 d = some (.dK []) ∧ kvs.length < sizeLine ∧
  ∀ b, (upd H1 d (.dK kvs)) b = none → tPairs [(tk, tv)] σ (upd (upd H1 d (.dK kvs)) b (.dK [])) fun ps H3 => ∃ k z, ps = [(kV k, z)] ∧ H3 d = some (.dK kvs) ∧ H3 b = some (.dK []) ∧ Q (.ref d) (upd (upd H3 b (.dK [(k, z)])) d (.dK (putK kvs k z)))
section
variable {X : Cx}
theorem pe_dst {e0 ke ve : Expr} {pos : Pos} {t0 tk tv : TE} (h0 : PE X e0 t0) (hk : PE X ke tk) (hv : PE X ve tv) : PE X (.Dict [none, some ke] [e0, ve] pos) (tDst t0 tk tv) := by
  refine ⟨fun pins s σ H Q I h => ?_⟩
  rw [arm_eval_Dict]
  refine wpAny_bind (wpAny_standAt ?_)
  have hz : (evalEachOpt [none, some ke] X.env).zip ((evalEach [e0, ve] X.env).map fun v => do let x ← v; standAt pos; pure x) = [(none, do let x ← eval e0 X.env; standAt pos; pure x), (some (eval ke X.env), do let x ← eval ve X.env; standAt pos; pure x)] := rfl
  rw [hz]
  unfold dictDisplay
  simp only [List.forIn_cons, List.forIn_nil, bind_assoc, pure_bind, List.isEmpty_nil, if_true]
  have hn : H s.heap.objs.size = none := I.hok.fresh (Nat.le_refl _)
  have I1 := I.laid (a := s.heap.objs.size) (o := .dK []) (h' := s.heap.push { cls := .type "dict", data := .dict #[] }) (t' := s.toks) (fun _ _ q => Heap.get?_push_of_some _ q) (Nat.le_refl _) (dk_empty s.heap I.big)
  refine wpAny_bind (wpAny_alloc ?_)
  refine wpAny_bind (wpAny_holding (wpAny_bind (thn (h0.run pins _ σ _ _ I1 (h _ hn)) fun m s2 ⟨x, H2, I2, rx, q⟩ => wpAny_bind (wpAny_standAt (wpAny_pure ?_)))))
  generalize s.heap.objs.size = d at q I2 hn ⊢
  obtain ⟨a, kvs, rfl, hr, had, ed, lz, q⟩ := q
  cases (show m = Value.ref a from rx)
  obtain ⟨z0, hd0, vs0, r0, dd0⟩ := dk_of I2.hok ed
  cases r0
  obtain ⟨z1, hd1, vs1, r1, dd1⟩ := dk_rd I2.hok hr
  have l1 : vs1.length = kvs.length := r1.length.symm
  have nr : ∀ (k : Key) (a : Addr), (mixKind X.prog X.w).is k (.ref a) = false := fun k a => by
    cases k <;> rfl
  refine wpAny_bind (wpAny_onRaise (wpAny_tryCatch (wpAny_onRaise (wpAny_holding (MM.merge1 (kn := mixKind X.prog X.w) nr had hd1 (by rw [List.length_nil]; omega) dd0 dd1 fun h' sb dd' => ?_)))))
  have nod : (vs1.map (·.1)).Nodup := by
    obtain ⟨_, _, _, _, _, _, _, _, hno⟩ := dd1
    exact hno
  rw [merged_nil_of_nodup vs1 nod] at dd'
  have he : ∃ q, h'.get? d = some q := let ⟨q, _, _, hq, _⟩ := dd'; ⟨q, hq⟩
  have I3 := d_write (t' := s2.toks) (ob := .dK kvs) I2 (by rw [ed]; exact True.intro) sb he (dk_new z1 hd0 r1 dd')
  generalize hs3 : ({ s2 with heap := h', toks := s2.toks } : Shared) = s3 at I3
  simp only [List.nil_append, List.length_cons, List.length_nil, List.isEmpty_cons, Bool.false_eq_true, if_false, pure_bind, show ((0 + 1 : Nat) == 17) = false from rfl]
  have hb : (upd H2 d (.dK kvs)) s3.heap.objs.size = none := I3.hok.fresh (Nat.le_refl _)
  have I4 := I3.laid (a := s3.heap.objs.size) (o := .dK []) (h' := s3.heap.push { cls := .type "dict", data := .dict #[] }) (t' := s3.toks) (fun _ _ q => Heap.get?_push_of_some _ q) (Nat.le_refl _) (dk_empty s3.heap I3.big)
  have q2 := q _ hb
  have pr := (pps_cons (pos := pos) hk hv pps_nil).run pins _ σ _ _ I4 q2
  refine wpAny_bind (wpAny_bind (wpAny_holding (wpAny_subDict (knd := mixKind X.prog X.w) (by show 1 ≤ 15; decide) (thn pr fun ws s5 hq => ?_))))
  generalize s3.heap.objs.size = b at hq hb ⊢
  obtain ⟨ps, H5, I5, rel, k, z, rfl, e1, e2, qq⟩ := hq
  obtain ⟨rs, c, rk⟩ := carries_of (P := X.prog) (w := X.w) (kvs := [(k, z)]) rel
  obtain ⟨z3, hd3, vs3, r3, dd3⟩ := dk_of I5.hok e2
  cases r3
  refine ⟨rs, c, dd3, fun h5 dd5 sb5 => ?_⟩
  have he5 : ∃ q, h5.get? b = some q := let ⟨q, _, _, hq, _⟩ := dd5; ⟨q, hq⟩
  have hl1 : (mergeK [] [(k, z)]).length ≤ sizeLine := by
    show 1 ≤ sizeLine
    decide
  have I6 := d_write (t' := s5.toks + ws.length) (ob := .dK (mergeK [] [(k, z)])) I5 (by rw [e2]; exact True.intro) sb5 he5 (dk_new hl1 hd3 (rk.merge .nil) dd5)
  have hdb : d ≠ b := fun e => by
    rw [e, upd_same] at hb
    cases hb
  have e1' : (upd H5 b (.dK (mergeK [] [(k, z)]))) d = some (.dK kvs) := (upd_ne hdb).trans e1
  obtain ⟨z6, hd6, vs6, r6, dd6⟩ := dk_of I6.hok e1'
  have l6 : vs6.length = kvs.length := r6.length.symm
  have lr : (merged ([] : List (Key × Value)) rs).length ≤ 1 := by
    have q1 := merged_length_le ([] : List (Key × Value)) rs
    have q2 : rs.length = 1 := rk.length.symm
    rw [List.length_nil] at q1
    omega
  refine wpAny_bind (wpAny_onRaise (wpAny_holding (MM.merge1 (kn := mixKind X.prog X.w) nr (Ne.symm hdb) hd3 (by omega) dd6 dd5 fun h7 sb7 dd7 => ?_)))
  have he7 : ∃ q, h7.get? d = some q := let ⟨q, _, _, hq, _⟩ := dd7; ⟨q, hq⟩
  have hl2 : (putK kvs k z).length ≤ sizeLine := by
    have := length_putK kvs k z
    omega
  have rr : KV (putK kvs k z) (merged vs6 (merged [] rs)) := by
    have r8 : KV (mergeK [] [(k, z)]) (merged [] rs) := rk.merge .nil
    have r9 := KV.merge r8 r6
    exact r9
  have I7 := d_write (t' := s5.toks + ws.length) (ob := .dK (putK kvs k z)) I6 (by rw [e1']; exact True.intro) sb7 he7 (dk_new hl2 hd6 rr dd7)
  exact wpAny_pure (wpAny_pure ⟨.ref d, _, I7, rfl, qq⟩)
end
end L3
namespace L3
open PySem PySem.Spec PyProof.Rows L2
/-- whether each entry of the second dict stands in the first one, alike -/
def hitsB (enc : V → PyData) (ls : List (Key × V)) : List (Key × V) → Bool
  | [] => true
  | p :: r => match valV ls p.1 with
    | none => false
    | some y => PyData.eqv (enc p.2) (enc y) && hitsB enc ls r
def rEqDD (K : PySem.W.Frag) : R2 := fun x y H Q => ∃ (a b : Addr) (ks ls : List (Key × V)) (enc : V → PyData), x = .ref a ∧ y = .ref b ∧ Rd H a (.dK ks) ∧ Rd H b (.dK ls) ∧ (∀ p ∈ ks, Dp K H p.2 (enc p.2) ∧ (enc p.2).canLay0 = true ∧ (enc p.2).depth ≤ 10) ∧ (∀ p ∈ ls, Dp K H p.2 (enc p.2) ∧ (enc p.2).canLay0 = true) ∧ Q (.bl (ks.length == ls.length && hitsB enc ls ks)) H
section
variable {X : Cx} {pins : List (Addr × Obj)} {σ : L2.St} {H : Hp} {s : Shared}
theorem valV_some_mem {κ : Type} [DecidableEq κ] {kvs : List (κ × V)} {k : κ} {v : V} (h : valV kvs k = some v) : (k, v) ∈ kvs := by
  unfold valV at h
  cases e : kvs.find? fun kv => decide (kv.1 = k) with
  | none => rw [e] at h; cases h
  | some p =>
    rw [e] at h
    have m := List.mem_of_find?_eq_some e
    have q0 : decide (p.1 = k) = true := List.find?_some (p := fun kv : κ × V => decide (kv.1 = k)) e
    have q := of_decide_eq_true q0
    cases h
    cases q
    exact m
theorem hits_data {A : Around} (hu : A.units + 10 < cLine) (I : Inv X pins σ H s) {enc : V → PyData} {ls : List (Key × V)} {vb : List (Key × Value)} (rb : KV ls vb) (hb : ∀ p ∈ ls, Dp X.K H p.2 (enc p.2) ∧ (enc p.2).canLay0 = true) :
    ∀ {ks : List (Key × V)} {va : List (Key × Value)}, KV ks va → (∀ p ∈ ks, Dp X.K H p.2 (enc p.2) ∧ (enc p.2).canLay0 = true ∧ (enc p.2).depth ≤ 10) → PySem.W.KeqHitsP X.prog X.w A s vb va (hitsB enc ls ks)
  | [], _, .nil, _ => .nil
  | p :: ks, _, .cons (b := q) h t, hp => by
    obtain ⟨h1, h2⟩ := h
    obtain ⟨k, v⟩ := q
    have h1' : p.1 = k := h1
    have ih := hits_data hu I rb hb t fun p m => hp p (List.mem_cons_of_mem _ m)
    obtain ⟨d1, d2, d3⟩ := hp p List.mem_cons_self
    cases e : valV ls p.1 with
    | none =>
      have eb : hitsB enc ls (p :: ks) = false := by rw [hitsB, e]
      rw [eb]
      have rr : RelO none (valueAt vb p.1) := by rw [← e]; exact rb.val p.1
      refine .miss ?_
      rw [← h1']
      cases q : valueAt vb p.1 with
      | none => rfl
      | some y => rw [q] at rr; exact absurd rr (by intro z; cases z)
    | some y =>
      have eb : hitsB enc ls (p :: ks) = (PyData.eqv (enc p.2) (enc y) && hitsB enc ls ks) := by rw [hitsB, e]
      rw [eb]
      have rr : RelO (some y) (valueAt vb p.1) := by rw [← e]; exact rb.val p.1
      obtain ⟨u, hy, ry⟩ := rr.some_of
      obtain ⟨e1, e2⟩ := hb _ (valV_some_mem e)
      obtain ⟨as, r1⟩ := Dp.reads I _ _ v d1 h2
      obtain ⟨bs, r2⟩ := Dp.reads I _ _ u e1 ry
      refine .hit (by rw [← h1']; exact hy) ?_ ih
      refine (PySem.SeqAt.eqAt_reads _ _ A s v u as bs r1 r2 d2 e2 ?_).eqP
      have := Nat.min_le_left (enc p.2).depth (enc y).depth
      omega
theorem op_eqDD (hu : X.A.units + 64 < cLine) : OpR X (compareOp .Eq) (rEqDD X.K) := by
  intro pins s σ H x y v u Q I rx ry h
  obtain ⟨a, b, ks, ls, enc, rfl, rfl, ea, eb, ha, hb, q⟩ := h
  obtain rfl : v = Value.ref a := rx
  obtain rfl : u = Value.ref b := ry
  obtain ⟨_, ya, va, ra, da⟩ := dk_rd I.hok ea
  obtain ⟨_, yb, vb, rb, db⟩ := dk_rd I.hok eb
  have la : va.length = ks.length := ra.length.symm
  have lb : vb.length = ls.length := rb.length.symm
  refine PySem.W.rcP_dicts (knd := mixKind X.prog X.w) (r := hitsB enc ls ks) ya yb da db (by omega) (fun _ => hits_data ?_ I rb hb ra ha) _ _ (fin_bl I q (by rw [la, lb]))
  show X.A.units + 1 + 10 < cLine
  omega
end
end L3
namespace L3
open PySem PySem.Spec PySem.W PySem.Calls
open PySem.HandSPX (excO)
abbrev keTail : List Value := [.type "KeyError", .type "LookupError", .type "Exception", .type "BaseException", .type "object"]
theorem kxs_KeyError : KxsFacts "KeyError" "KeyError.__init__" := ⟨by show builtinType _ = _; rw [builtinType_eq_fast]; kernel_rfl, by first | kernel_rfl | rfl⟩
theorem pass_KeyError (self : Value) : refuseLoop self "__setattr__" keTail = pure () := by kernel_rfl
/-- a built-in exception's __init__ -/
structure InitF (T i : String) : Prop where
  kind : builtinKind i = some .slot
  row : Manifest.signature? i = some ⟨.positional, "*", T, .self, [⟨"args", .varPos, false⟩]⟩
  star : (T != "*") = true
  plain : plainId i = true
  entry : entryFor table i = some Builtin.«BaseException.__init__»
theorem initF_of {T n i : String} (F : ExcCallFacts T n i) : InitF T i := ⟨F.initKind, F.initRow, F.noStar, F.init.plain, F.initEntry⟩
theorem initF_KeyError : InitF "KeyError" "KeyError.__init__" where
  kind := by kernel_rfl
  row := by kernel_rfl
  star := by decide +kernel
  plain := by decide +kernel
  entry := entryFor_alias (id' := "BaseException.__init__") (by rw [fastTable_eq_tree]; kernel_rfl) (by first | rfl | decide +kernel) (by decide +kernel) (by rw [fastTable_eq_tree]; kernel_rfl)
section
variable {prog : Program} {w : World} {A : Around} {E : Value → Shared → Prop} {h : Heap} {g : Array GenState} {d : Drawn} {t : Nat} {os : OsState} {nm q : Str} {C N : Addr} {bs bm : List Value} {hdct : Bool} {sn : List Str} {sub : List Value} {ab : Bool} {col : Option Bool} {dd : Option Addr} {k0 k1 k2 k3 k5 : Option Value} {T newId i : String} {us : List Value}
theorem bound_check (F : InitF T i) {e : Addr} {oe : Obj} {Q : Unit → Shared → Prop} (hC : h.get? C = some (excClassObj nm q C N bs bm hdct sn sub ab col dd k0 k1 k2 k3 k5 newId)) (he : h.get? e = some oe) (hcls : oe.cls = .ref C) (hq : Q () ⟨h, g, d, t, os⟩) :
    wpAny (model prog w) A (checkBoundCall i ⟨.ref e :: us, []⟩) Q E ⟨h, g, d, t, os⟩ := by
  have star := F.star
  simp only [checkBoundCall, F.kind, F.row]
  repeat (first
    | (with_reducible refine wpAny_loadPart_at he ?_
       rw [hcls])
    | with_reducible refine wpAny_loadPart_at hC ?_
    | wp_step)
  refine wpAny_onRaise ?_
  have e0 : ∀ (a b : String) (n : Nat), Bind.check ⟨.positional, "*", T, .self, [⟨"args", .varPos, false⟩]⟩ a b n (List.map (fun x => x.fst) ({ pos := Value.ref e :: us } : Args).kw) = pure () := fun a b n => check_star_args _ _ _ _ _ _
  rw [e0]
  exact wpAny_pure hq
/-- the built-in __init__, bound to the exception, called -/
theorem call_mw (F : InitF T i) {u e t0 : Addr} {Q : Value → Shared → Prop} (hC : h.get? C = some (excClassObj nm q C N bs bm hdct sn sub ab col dd k0 k1 k2 k3 k5 newId)) (he : h.get? e = some (excO C t0)) (hu : h.get? u = some (kxs_mw i e)) (hus : us.length ≤ sizeLine)
    (hq : ∀ h' t1, (∀ b o, b ≠ e → h.get? b = some o → h'.get? b = some o) → h'.get? e = some (excO C t1) → Q .none ⟨h', g, d, t, os⟩) : wpAny (model prog w) A (call (.ref u) us) Q E ⟨h, g, d, t, os⟩ := by
  have mw : (Value.type "method-wrapper" == Value.type "method" || Value.type "method-wrapper" == Value.type "builtin_function_or_method" || Value.type "method-wrapper" == Value.type "method-wrapper") = true := by decide
  refine wpAny_call (codeAny_of_tree ?_)
  show wpAny _ A.in1 (callAny (.ref u) ⟨us, []⟩) _ _ _
  simp only [callAny]
  refine wpAny_bind (wpAny_load hu ?_)
  simp only [kxs_mw, mw, if_true]
  refine KFB.if_so (by decide) (wpAny_bind (bound_check F hC he rfl (wpAny_bind (wpAny_pure (wpAny_pure ⟨plainId_quiet F.plain _, codeAny_builtin F.entry ?_⟩)))))
  exact exc_init_tree (cls := .ref C) (t0 := t0) (dv := none) (c2 := .none) (c3 := .none) (b4 := .bool false) he hus fun h' k e' _ => hq h' _ k e'
end
/-- what is asked of the built-in classes above an own one, when it is called -/
structure Above (B : String) (bm : List Value) : Prop where
  yes : bm.contains (.type B) = true
  noA : bm.contains (.type "AttributeError") = false
  noN : bm.contains (.type "NameError") = false
theorem above_ke : Above "LookupError" keTail := ⟨by decide +kernel, by decide +kernel, by decide +kernel⟩
section
variable {prog : Program} {w : World} {A : Around} {E : Value → Shared → Prop} {R : Result → Shared → Prop} {h : Heap} {g : Array GenState} {d : Drawn} {t : Nat} {os : OsState}
variable {nm q : Str} {C N : Addr} {bs bm bmB : List Value} {hdct : Bool} {sn : List Str} {sub : List Value} {ab : Bool} {col : Option Bool} {dd : Option Addr} {k0 k1 k2 k3 k5 : Option Value} {B newId initId : String} {us : List Value}
theorem with_own {v : Value} {b : Bool} (C : Addr) (hne : (v == Value.ref C) = false) (hb : bm.contains v = b) : (Value.ref C :: bm).contains v = b := by
  rw [List.contains_cons, hb, hne, Bool.false_or]
theorem above_check (F : ExcBaseFacts B newId initId bmB) (T : Above B bm) {Q : Unit → Shared → Prop} (hC : h.get? C = some (excClassObj nm q C N bs bm hdct sn sub ab col dd k0 k1 k2 k3 k5 newId)) (hq : Q () ⟨h, g, d, t, os⟩) :
    wpAny (model prog w) A (checkBuiltinCall newId ⟨.ref C :: us, []⟩) Q E ⟨h, g, d, t, os⟩ := by
  have c1 := with_own C rfl T.yes
  have star := F.noStar
  simp only [checkBuiltinCall, F.newKind, F.newSplit, F.newRow]
  repeat (first
    | refine wpAny_loadPart_at hC ?_
    | (refine wpAny_isSubtype_exc hC ?_
       rw [c1])
    | refine wpAny_staticBase_exc hC ?_
    | refine wpAny_madeBy_exc hC ?_
    | simp only [bne_self_eq_false, Bool.false_eq_true, if_false]
    | wp_step)
  exact hq
theorem above_new (F : ExcBaseFacts B newId initId bmB) (T : Above B bm) (hC : h.get? C = some (excClassObj nm q C N bs bm hdct sn sub ab col dd k0 k1 k2 k3 k5 newId)) (hus : us.length ≤ sizeLine)
    (hq : R (.ok (.ret (.ref (h.objs.size + 1)))) ⟨(h.push (W.kdv_tup us)).push (excO C h.objs.size), g, d, t, os⟩) : codeAny (model prog w) A (.builtin newId ⟨.ref C :: us, []⟩) R ⟨h, g, d, t, os⟩ := by
  have ends := F.ends
  have c1 := with_own C rfl T.yes
  have c2 := with_own C rfl T.noA
  have c3 := with_own C rfl T.noN
  refine codeAny_builtinAt F.entry ?_
  unfold Builtin.«BaseException.__new__»
  refine wpAt_bind ?_
  show wpAt _ _ _ (stack >>= _) _ _ _
  refine wpAt_bind (wpAt_stack fun p below => wpAt_of_wpAny ?_)
  wp_walk
  refine wpAt_of_wpAny ?_
  rw [F.owner]
  repeat (first
    | with_reducible refine wpAny_madeHere_exc F.canon hC ?_
    | with_reducible refine wpAny_loadPart_at hC ?_
    | (with_reducible refine wpAny_isSubtype_exc hC ?_
       first | rw [c1] | rw [c2] | rw [c3])
    | wp_step)
  show R _ _
  rw [Heap.size_push]
  exact hq
theorem above_type (F : ExcBaseFacts B newId initId bmB) (T : Above B bm) {fI : Addr} {Q : Fin → Shared → Prop} (hC : h.get? C = some (excClassObj nm q C N bs bm hdct sn sub ab col dd k0 k1 k2 k3 k5 newId)) (hi : Looks (model prog w) h (typeLookup (.ref C) "__init__") (some (.ref fI)))
    (hb : ∀ self, Looks (model prog w) h (bindSpecial (.ref fI) self) (.ref fI, [self])) (hus : us.length ≤ sizeLine)
    (hq : codeAny (model prog w) A (.call (.ref fI) ⟨.ref (h.objs.size + 1) :: us, []⟩)
      (fun r s' => match r with | .ok (.ret v) => v = .none ∧ Q (.done (.ret (.ref (h.objs.size + 1)))) s' | .ok _ => False | .error e => E e s') ⟨(h.push (W.kdv_tup us)).push (excO C h.objs.size), g, d, t, os⟩) :
    wpAny (model prog w) A (Builtin.«type.__call__» ⟨.ref C :: us, []⟩) Q E ⟨h, g, d, t, os⟩ := by
  repeat (first | with_reducible refine wpAny_loadPart_at hC ?_ | with_reducible refine wpAny_madeBy_exc hC ?_ | wp_step)
  refine codeAny_call_builtin_code (Code.quiet_builtin _ F.quiet) (above_check F T hC (above_new F T hC hus ?_))
  show wpAny _ _ _ _ _ _
  have up : ∀ b o, h.get? b = some o → ((h.push (W.kdv_tup us)).push (excO C h.objs.size)).get? b = some o := fun b o e => Heap.get?_push_of_some _ (Heap.get?_push_of_some _ e)
  have there : ((h.push (W.kdv_tup us)).push (excO C h.objs.size)).get? (h.objs.size + 1) = some (excO C h.objs.size) := by heap_get
  have cC := up _ _ hC
  have c0 : (Value.ref C :: bm).contains (.ref C) = true := by simp
  have look := hi.keeps up
  have bind := (hb (.ref (h.objs.size + 1))).keeps up
  unfold isInstance
  repeat (first
    | with_reducible refine wpAny_loadPart_at there ?_
    | (with_reducible refine wpAny_isSubtype_exc cC ?_
       rw [c0])
    | wp_step)
  show wpAny _ _ (typeLookup (.ref C) _) _ _ _
  refine look.at (wpAny_holding (wpAny_bind (bind.at (wpAny_bind (wpAny_call (codeAny_mono hq fun r s' z => ?_))))))
  match r, z with
  | .error e, z => exact z
  | .ok .next, z => exact z.elim
  | .ok .brk, z => exact z.elim
  | .ok .cont, z => exact z.elim
  | .ok (.ret v), ⟨hv, z⟩ =>
    subst hv
    first
      | exact wpAny_pure (wpAny_pure z)
      | (wp_walk; exact z)
theorem above_call (F : ExcBaseFacts B newId initId bmB) (T : Above B bm) {fI : Addr} (hC : h.get? C = some (excClassObj nm q C N bs bm hdct sn sub ab col dd k0 k1 k2 k3 k5 newId)) (hi : Looks (model prog w) h (typeLookup (.ref C) "__init__") (some (.ref fI)))
    (hb : ∀ self, Looks (model prog w) h (bindSpecial (.ref fI) self) (.ref fI, [self])) (hus : us.length ≤ sizeLine)
    (hq : codeAny (model prog w) (A.under (.builtin "type.__call__" ⟨.ref C :: us, []⟩)) (.call (.ref fI) ⟨.ref (h.objs.size + 1) :: us, []⟩) (W.InitBack (h.objs.size + 1) R) ⟨(h.push (W.kdv_tup us)).push (excO C h.objs.size), g, d, t, os⟩) :
    codeAny (model prog w) A (.call (.ref C) ⟨us, []⟩) R ⟨h, g, d, t, os⟩ := by
  have look := tc_lookup
  have bind := tc_bind (.ref C)
  have isT : (⟨h, g, d, t, os⟩ : Shared).TypeIs (.ref C) "type" := ⟨_, hC, rfl⟩
  refine codeAny_of_tree ?_
  show wpAny _ _ (callAny (.ref C) _) _ _ _
  repeat (any_goals (first | assumption | with_reducible refine wpAny_loadPart_at hC ?_ | wp_step))
  refine ⟨rfl, codeAny_call_builtin_at (Code.quiet_builtin _ (by decide +kernel)) entry_typeCall (wpAny_check_type_call_sub hC (above_type F T hC hi hb hus (codeAny_mono hq fun r s' z => ?_)))⟩
  match r, z with
  | .error e, z => exact z
  | .ok .next, z => exact z
  | .ok .brk, z => exact z
  | .ok .cont, z => exact z
  | .ok (.ret v), z => exact z
end
section
open Builtin Builtin.ObjectAttr
variable {prog : Program} {w : World} {A : Around} {E : Value → Shared → Prop} {R : Result → Shared → Prop} {hp : Heap} {g : Array GenState} {d : Drawn} {t : Nat} {os : OsState} {K : Frag} {name : Str} {tk : Tok} {v : Value} {x C : Addr} {fv : Array Value} {cd : ClassData}
/-- the first field of an own exception, whatever built-in class stands above -/
theorem first_field (X : K.In hp) (hx : hp.get? x = some { cls := .ref C, data := .fields fv }) (hcd : clsIn K C = some cd) (pass : refuseLoop (.ref x) "__setattr__" cd.mro = pure ()) (hne : cd.mro.isEmpty = false) (hob : cd.mro.contains (.type "object") = true) (hh : cd.hasDict = true)
    (ha : findIn K (.ref C) name = some none)
    (hq : ∀ h' tk' dx, (∀ b o, b ≠ x → hp.get? b = some o → h'.get? b = some o) → hp.objs.size ≤ dx → dx ≠ x → h'.get? x = some { cls := .ref C, dict := some dx, data := .fields fv } → h'.Ns1 dx (fun y => if y = name then some v else none) →
      R (.ok (.ret .none)) ⟨h', g, d, tk', os⟩) : codeAny (model prog w) A (.call (.builtin "object.__setattr__") ⟨[.ref x, .str name tk, v], []⟩) R ⟨hp, g, d, t, os⟩ := by
  have SF := F.store_object
  have J : InstAt hp x { cls := .ref C, data := .fields fv } C none := ⟨hx, rfl, rfl, trivial⟩
  have xs : x ≠ hp.objs.size := Nat.ne_of_lt (Heap.lt_size hx)
  have isO : Looks (model prog w) hp (isInstance (.ref x) (.type "object")) true := J.type.andThen (looks_mroIn X (by unfold mroIn; rw [hcd, Option.bind_some, if_neg (by rw [hne]; decide), hob]))
  have mro : Looks (model prog w) hp (mroOf (.ref C)) cd.mro := (looks_clsIn X hcd).andThen .now
  have noT : Looks (model prog w) hp (storeTaker? none) none := .now
  have data : Looks (model prog w) hp (classData C) cd := looks_clsIn X hcd
  refine codeAny_call_builtin SF.slot.plain SF.entry (@check_slot (model prog w) _ _ ⟨hp, g, d, t, os⟩ "object.__setattr__" "object" "__setattr__" (.ref x) [.str name tk, v] [] _ SF.kind SF.split isO (SF.args (.ref x) (.str name tk) v) ?_)
  rw [osa_eq, refuse_eq]
  refine wpAny_bind (wpAny_bind (J.type.at (wpAny_bind (mro.at ?_))))
  rw [pass]
  refine wpAny_pure (wpAny_bind (J.type.at (wpAny_bind ((looks_findIn X ha).at (wpAny_bind (noT.at ?_))))))
  show wpAny _ _ (storeInOwnDict (.ref x) (.ref C) (.str name tk) name v false) _ _ _
  obtain ⟨nm, bs, mr, ns, qn, hd, sn, sb, ab, col, del⟩ := cd
  dsimp only at hh
  subst hh
  unfold storeInOwnDict ownDictForStores
  repeat (first
    | with_reducible refine PySem.HandSPX.store_in_new ?_ ?_
    | with_reducible refine wpAny_loadPart_at hx ?_
    | with_reducible refine data.at ?_
    | wp_step)
  · exact ⟨_, #[], _, (Heap.get?_update_ne _ _ _ _ xs.symm).trans (Heap.get?_push_at rfl rfl), rfl, fun e he => absurd he (by simp), fun _ => rfl⟩
  · intro h' tk' hn hs
    have hx1 : (hp.push { cls := .type "dict", data := .dict #[] }).get? x = some { cls := .ref C, data := .fields fv } := Heap.get?_push_of_some _ hx
    exact hq h' tk' hp.objs.size (fun b o hb ho => (hs.2 b (Nat.ne_of_lt (Heap.lt_size ho))).trans ((Heap.get?_update_ne _ _ _ _ hb).trans (Heap.get?_push_of_some _ ho))) (Nat.le_refl _) xs.symm ((hs.2 x xs).trans (Heap.get?_update_self _ hx1 rfl)) hn
end
end L3
namespace L3
open PySem PySem.Spec PySem.W PySem.Calls PyProof.Rows
open PySem.HandSPX (excO refsVE refsVE_contains veTail)
/-- what stands around the line super().__init__('..') in the __init__ of the class at C, for the object at x -/
structure Sup (K : Frag) (prog : Program) (mg : Str → Option Value) (T i newId : String) (env : Env) (fI cda cc C x : Addr) (fd : FuncData) (h : Heap) : Prop where
  kin : K.In h
  glob : h.Ns mainGlobals mg
  blt : ∃ mb, h.Ns builtinsNs mb ∧ ∀ x : Str, x ≠ "__name__" → mb x = bootBuiltins x
  noS : mg "super" = none
  ks : env.kindOf "super" = some .globalImplicit
  kc : env.kindOf "__class__" = some .free
  kk : env.scope.kind = .function
  fu : env.func = some fI
  co : env.code = .ref cda
  gl : env.globals = mainGlobals
  bl : env.builtins = builtinsNs
  cell : env.cells.lookup ("__class__" : Str) = some cc
  fO : ∃ of, h.get? fI = some of ∧ of.data = .func fd
  ar : ∃ ar : Arg, (fd.params.posonlyargs ++ fd.params.args).head? = some ar ∧ env.kindOf ar.arg = some .local ∧ ∃ m, h.Ns env.locals m ∧ m ar.arg = some (.ref x)
  cO : ∃ oc vs file tf, h.get? cda = some oc ∧ oc.data = .fields vs ∧ vs[2]? = some (.str file tf) ∧ ((prog.main.file : Str) == file) = true
  top : (prog.main.scope.names.lookup ("super" : Str)).isSome = false
  ccO : h.IsCell cc (some (.ref C))
  cls : ∃ cd, clsIn K C = some cd ∧ alongIn K "__init__" ((cd.mro.dropWhile (· != .ref C)).drop 1) = some (some (.builtin i))
  obj : ∃ nm q N bs bm hdct sn sub ab col dd k0 k1 k2 k3 k5, h.get? C = some (excClassObj nm q C N bs bm hdct sn sub ab col dd k0 k1 k2 k3 k5 newId)
  subT : subIn K (.ref C) (.type T) = some true
  subC : subIn K (.ref C) (.ref C) = some true
  opq : nsIn K cStatics "thirdparty.any" = some none
  exO : ∃ t0, h.get? x = some (excO C t0)
section
variable {prog : Program} {w : World} {A : Around} {E : Value → Shared → Prop} {K : Frag} {mg : Str → Option Value} {env : Env} {fI cda cc C x : Addr} {fd : FuncData} {s : Shared} {body : List Stmt} {m : Str} {j : Nat} {pl : Sem Bool} {p0 p1 p2 p3 p4 p5 : Pos} {T i newId : String}
theorem sup_step (FB : InitF T i) (KF : KxsFacts T i) (S : Sup K prog mg T i newId env fI cda cc C x fd s.heap) {Q : Flow → Shared → Prop}
    (hq : ∀ h' tk t1, (∀ b o, b ≠ x → s.heap.get? b = some o → h'.get? b = some o) → h'.get? x = some (excO C t1) → Q .next { s with heap := h', toks := tk }) 
    (hi : interactive env = false := by rfl) (hs : swapsWith (.Call (.Attribute (.Call (.Name "super" p0) [] [] p1) "__init__" p2) [.Constant (.str m) j p3] [] p4) none p5.line env = pure false := by rfl)
    (he : eval (.Call (.Attribute (.Call (.Name "super" p0) [] [] p1) "__init__" p2) [.Constant (.str m) j p3] [] p4) env = (do
      let ov ← attributeBase (.Call (.Name "super" p0) [] [] p1) "__init__" env (eval (.Call (.Name "super" p0) [] [] p1) env)
      standAt p2.atName
      let (f, first) ← holding [ov] (getMethod ov "__init__" pl)
      callWith p4 f first (backTo p4 (starEach [.Constant (.str m) j p3] env)) []) := by rfl) :
    PySem.wpAt (model prog w) A (.func body env) (exec (.Expr (.Call (.Attribute (.Call (.Name "super" p0) [] [] p1) "__init__" p2) [.Constant (.str m) j p3] [] p4) p5) env) Q E s := by
  obtain ⟨of, hf, hfd⟩ := S.fO
  obtain ⟨ar, har, hka, ml, hnl, hml⟩ := S.ar
  obtain ⟨oc, vs, file, tf, hc1, hc2, hc3, hc4⟩ := S.cO
  obtain ⟨mb, hb, hbb⟩ := S.blt
  obtain ⟨cd, hcd, hal⟩ := S.cls
  obtain ⟨nm, q, N, bs, bm, hdct, sn, sub, ab, col, dd, k0, k1, k2, k3, k5, hC⟩ := S.obj
  obtain ⟨t0, hx⟩ := S.exO
  have kin := S.kin
  have hgl := S.glob
  have S_gl := S.gl
  have S_bl := S.bl
  have S_cc := S.ccO
  obtain ⟨hh, g, d, t, os⟩ := s
  dsimp only at *
  refine ks_wpAt_Expr_any ?_ hi hs
  refine ks_wpAt_MethodCall (pl := pl) ?_ he
  refine ks_wpAt_super_base S.ks S.kc (by decide) S.fu hf hfd har S.co hc1 hc2 hc3 hc4 S.top ?_
  refine ks_loadName_global S.kk S.ks (loadGlobal_builtin (env := env) (by rw [S_gl]; exact hgl) S.noS (by rw [S_bl]; exact hb) ((hbb _ (by decide +kernel)).trans (by decide +kernel : bootBuiltins "super" = some (.type "super"))) ⟨rfl, ?_⟩)
  refine wpAny_loadName_free S.kk S.kc S.cell S_cc ?_
  refine wpAny_loadName_local S.kk hka hnl hml ?_
  refine ks_wpAny_isType_cls hC rfl ⟨rfl, ?_⟩
  refine ks_wpAny_call_super hC rfl hx rfl (fun c e => by cases e) (looks_subIn kin S.subC) (fun h1 e1 k1' => ?_)
  have hx1 := k1' _ _ hx
  have kin1 : K.In h1 := kin.keeps k1'
  have hI1 : Looks (model prog w) h1 (isInstance (.ref x) (.type T)) true := by
    have I : InstAt h1 x (excO C t0) C none := ⟨hx1, rfl, rfl, trivial⟩
    exact I.type.andThen (looks_subIn kin1 S.subT)
  have hxC : x ≠ C := by
    rintro rfl
    rw [hC] at hx
    have y := Option.some.inj hx
    cases congrArg Obj.data y
  refine kxs_getMethod KF e1 (looks_opaque kin1 S.opq) (l₀ := cd.mro) ((looks_clsIn kin1 hcd).andThen .now) rfl kin1 hal hI1 hxC (by decide) ?_
  have hu : (h1.push (kxs_mw i x)).get? h1.objs.size = some (kxs_mw i x) := Heap.get?_push_at rfl rfl
  have k2' : ∀ b o, hh.get? b = some o → (h1.push (kxs_mw i x)).get? b = some o := fun b o e => Heap.get?_push_of_some _ (k1' b o e)
  refine kxs_callWith (i := i) (x := x) rfl ?_
  refine evalArgs_plain (spliced_cons (Constant_str (k := j) (pos := p3) (spliced_nil ⟨hu, ?_⟩)))
  refine call_mw FB (k2' _ _ hC) (k2' _ _ hx) hu (show 1 ≤ sizeLine by decide) (fun h' t1 k3' e3 => ?_)
  refine hq h' _ t1 (fun b o hb ho => k3' b o hb (k2' b o ho)) e3
end
/-- a class over ValueError -/
def OverVE (K : Frag) (C : Addr) : Prop := ∃ cd, clsIn K C = some cd ∧ refsVE cd.mro = true ∧ cd.hasDict = true
/-- the object with its fields' dict -/
abbrev excD (C t dx : Addr) : Obj := { cls := .ref C, dict := some dx, data := .fields #[.ref t, .none, .none, .none, .bool false, .none] }
/-- what the class says of stores -/
structure Sto (K : Frag) (C : Addr) : Prop where
  cls : ∃ cd, clsIn K C = some cd ∧ (∀ self, refuseLoop self "__setattr__" cd.mro = pure ()) ∧ cd.mro.isEmpty = false ∧ cd.mro.contains (.type "object") = true ∧ cd.hasDict = true
  sa : findIn K (.ref C) "__setattr__" = some (some (.builtin "object.__setattr__"))
section
variable {prog : Program} {w : World} {A : Around} {E : Value → Shared → Prop} {K : Frag} {env : Env} {C x t dx : Addr} {s : Shared} {body : List Stmt} {f y : Str} {u : Value} {p5 p6 p7 p8 : Pos} {ml m0 : Str → Option Value} {nl : List Str}
theorem fld_eval {Q : Value → Shared → Prop} {c : Code} (hk : env.scope.kind = .function) (hy : env.kindOf y = some .local) (hn : s.heap.Ns env.locals ml) (hv : ml y = some u) (hd : (y == ("__debug__" : Str)) = false) (h : Q u s) : PySem.wpAt (model prog w) A c (eval (.Name y p7) env) Q E s :=
  wpAt_of_wpAny (wpAny_Name (wpAny_loadName_local hk hy hn hv h) hd)
theorem sto_ve (h : OverVE K C) (sa : findIn K (.ref C) "__setattr__" = some (some (.builtin "object.__setattr__"))) : Sto K C := by
  obtain ⟨cd, h1, h2, h3⟩ := h
  exact ⟨⟨cd, h1, fun self => PySem.HandSPX.refsVE_pass self _ h2, PySem.HandSPX.refsVE_ne h2, (refsVE_contains "object" _ h2).trans (by decide +kernel), h3⟩, sa⟩
/-- self.f = y, the first field -/
theorem fld1 {Q : Flow → Shared → Prop} (T : Sto K C) (kin : K.In s.heap) (hx : s.heap.get? x = some (excO C t)) (hno : findIn K (.ref C) f = some none) (hk : env.scope.kind = .function) (hS : env.kindOf "self" = some .local) (hy : env.kindOf y = some .local)
    (hn : s.heap.Ns env.locals ml) (hself : ml "self" = some (.ref x)) (hv : ml y = some u) (hd : (y == ("__debug__" : Str)) = false)
    (hq : ∀ h' tk dx, (∀ b o, b ≠ x → s.heap.get? b = some o → h'.get? b = some o) → s.heap.objs.size ≤ dx → dx ≠ x → h'.get? x = some (excD C t dx) → h'.Ns1 dx (fun z => if z = f then some u else none) → Q .next { s with heap := h', toks := tk })
    (hs : swapsWith (.Name y p7) (some (.Attribute (.Name "self" p5) f p6)) p8.line env = pure false := by rfl) :
    PySem.wpAt (model prog w) A (.func body env) (exec (.Assign [.Attribute (.Name "self" p5) f p6] (.Name y p7) p8) env) Q E s := by
  obtain ⟨cd, hcd, hpa, hem, hob, hdi⟩ := T.cls
  refine ks_wpAt_Assign_Attr (fld_eval hk hy hn hv hd ?_) hs
  refine wpAny_Name (wpAny_loadName_local hk hS hn hself ?_) (by decide)
  refine set_plain kin (ox := excO C t) (od := none) ⟨hx, rfl, rfl, trivial⟩ T.sa ?_
  obtain ⟨hh, g, d, tk0, os⟩ := s
  exact first_field kin hx hcd (hpa _) hem hob hdi hno fun h' tk' dx k n1 n2 e1 e2 => hq h' tk' dx k n1 n2 e1 e2
end
end L3
namespace L3
open PySem PySem.Spec PySem.W PySem.Calls PyProof.Rows L2
open PySem.HandSPX (excO refsVE refsVE_contains veTail)
theorem lk_cons {α : Type} (f g : Str) (y : α) (l : List (Str × α)) : ((f, y) :: l).lookup g = if g = f then some y else l.lookup g := by
  by_cases h : g = f
  · rw [if_pos h, h, List.lookup_cons]
    simp
  · have e : (g == f) = false := by simp [h]
    rw [List.lookup_cons, e, if_neg h]
/-- what the written part says of an __init__ that closes over __class__ -/
structure SupK (K : Frag) (prog : Program) (mg : Str → Option Value) (T i newId : String) (C fI cc cda : Addr) (fd : FuncData) (qual : Str) : Prop where
  noS : mg "super" = none
  fO : ∃ oc od osl, K.lookup fI = some ⟨oc, od, .func fd, osl⟩
  cO : ∃ oc od vs osl file tf, K.lookup cda = some ⟨oc, od, .fields vs, osl⟩ ∧ vs[2]? = some (.str file tf) ∧ ((prog.main.file : Str) == file) = true
  cIn : codeIn K (.ref cda) qual = true
  top : (prog.main.scope.names.lookup ("super" : Str)).isSome = false
  ccO : ∃ oc od osl, K.lookup cc = some ⟨oc, od, .cell (some (.ref C)), osl⟩
  cls : ∃ cd, clsIn K C = some cd ∧ alongIn K "__init__" ((cd.mro.dropWhile (· != .ref C)).drop 1) = some (some (.builtin i))
  obj : ∃ nm q N bs bm hdct sn sub ab col dd k0 k1 k2 k3 k5, K.lookup C = some (excClassObj nm q C N bs bm hdct sn sub ab col dd k0 k1 k2 k3 k5 newId)
  subT : subIn K (.ref C) (.type T) = some true
  subC : subIn K (.ref C) (.ref C) = some true
  opq : nsIn K cStatics "thirdparty.any" = some none
  sto : Sto K C
/-- the module's facts at a state -/
structure Gnd (K : Frag) (mg : Str → Option Value) (h : Heap) : Prop where
  kin : K.In h
  glob : h.Ns mainGlobals mg
  blt : ∃ mb, h.Ns builtinsNs mb ∧ ∀ x : Str, x ≠ "__name__" → mb x = bootBuiltins x
  lim : h.NoLimit
theorem Gnd.keeps {K : Frag} {mg : Str → Option Value} {h h' : Heap} (x : Gnd K mg h) (k : ∀ b o, h.get? b = some o → h'.get? b = some o) : Gnd K mg h' :=
  let ⟨mb, b1, b2⟩ := x.blt
  ⟨x.kin.keeps k, x.glob.keeps k, ⟨mb, b1.keeps k, b2⟩, x.lim.keeps k⟩
theorem Gnd.of {X : Cx} {pins : List (Addr × Obj)} {σ : L2.St} {H : Hp} {s : Shared} (I : Inv X pins σ H s) : Gnd X.K X.mg s.heap :=
  let ⟨mb, b1, b2⟩ := I.mod.blt
  ⟨I.kIn, I.mod.glob.keeps I.bk, ⟨mb, b1.keeps I.bk, b2⟩, I.nolimit⟩
/-- an __init__ that stores its arguments in the fields fs of the exception it is called on -/
def InitOk (P : Program) (w : World) (K : Frag) (mg : Str → Option Value) (C fI : Addr) (fs : List Str) : Prop :=
  ∀ (A : Around) (hb : Heap) (s : Shared) (x t0 : Addr) (us : List Value) (R : Result → Shared → Prop), A.depth < recursionLimit → Gnd K mg hb → (∀ b o, hb.get? b = some o → s.heap.get? b = some o) → hb.get? x = none → s.heap.get? x = some (excO C t0) → us.length = fs.length →
    (∀ h' tk t1 dx m, (∀ b o, b ≠ x → s.heap.get? b = some o → h'.get? b = some o) → s.heap.get? dx = none → dx ≠ x → h'.get? x = some (excD C t1 dx) → h'.Ns1 dx m → (∀ z, m z = (fs.zip us).reverse.lookup z) → R (.ok (.ret .none)) { s with heap := h', toks := tk }) →
    codeAny (model P w) A (.call (.ref fI) ⟨.ref x :: us, []⟩) R s
section
variable {P : Program} {w : World} {K : Frag} {mg : Str → Option Value} {C fI cc cda : Addr} {qual : Str} {params : Arguments} {body : List Stmt} {scope : Scope} {dV kV doc pm ct : Value} {an : Option Addr} {T i newId : String}
abbrev initFn (qual : Str) (params : Arguments) (body : List Stmt) (scope : Scope) (dV kV doc pm : Value) (an : Option Addr) (cda : Addr) (ct : Value) (cc : Addr) : FuncData := ksFn "__init__" qual params body scope dV kV doc pm an (.ref cda) ct cc
/-- the environment of such a def's body -/
abbrev initEnv (qual : Str) (scope : Scope) (L f cda cc : Addr) : Env := ksEnv qual scope L f (.ref cda) cc
theorem sup_of {h : Heap} {L x t0 : Addr} {ml : Str → Option Value} (S : SupK K P mg T i newId C fI cc cda (initFn qual params body scope dV kV doc pm an cda ct cc) qual) (G : Gnd K mg h) (hn : h.Ns L ml) (hs : ml "self" = some (.ref x)) (hx : h.get? x = some (excO C t0))
    (ar : (params.posonlyargs ++ params.args).head?.map (·.arg) = some ("self" : Str)) (k1 : scope.names.lookup ("super" : Str) = some .globalImplicit) (k2 : scope.names.lookup ("__class__" : Str) = some .free) (k3 : scope.names.lookup ("self" : Str) = some .local) (k4 : scope.kind = .function) :
    Sup K P mg T i newId (initEnv qual scope L fI cda cc) fI cda cc C x (initFn qual params body scope dV kV doc pm an cda ct cc) h := by
  obtain ⟨oc, od, osl, fO⟩ := S.fO
  obtain ⟨oc2, od2, vs, osl2, file, tf, c1, c2, c3⟩ := S.cO
  obtain ⟨oc3, od3, osl3, ccO⟩ := S.ccO
  obtain ⟨nm, q, N, bs, bm, hdct, sn, sub, ab, col, dd, j0, j1, j2, j3, j5, hC⟩ := S.obj
  refine ⟨G.kin, G.glob, G.blt, S.noS, k1, k2, k4, rfl, rfl, rfl, rfl, rfl, ⟨_, G.kin _ _ fO, rfl⟩, ?_, ⟨_, vs, file, tf, G.kin _ _ c1, rfl, c2, c3⟩, S.top, ⟨_, G.kin _ _ ccO, rfl⟩, S.cls, ⟨nm, q, N, bs, bm, hdct, sn, sub, ab, col, dd, j0, j1, j2, j3, j5, G.kin _ _ hC⟩, S.subT, S.subC, S.opq, ⟨t0, hx⟩⟩
  show ∃ a : Arg, (params.posonlyargs ++ params.args).head? = some a ∧ _
  cases e : (params.posonlyargs ++ params.args).head? with
  | none => rw [e] at ar; cases ar
  | some a =>
    rw [e] at ar
    have ea : a.arg = "self" := Option.some.inj ar
    exact ⟨a, rfl, by rw [ea]; exact k3, ml, hn, by rw [ea]; exact hs⟩
/-- __init__(self, y): super().__init__('..'); self.f = y -/
theorem init1 {m f y : Str} {j : Nat} {pl : Sem Bool} {p0 p1 p2 p3 p4 p5 q5 q6 q7 q8 : Pos} (FB : InitF T i) (KF : KxsFacts T i)
    (S : SupK K P mg T i newId C fI cc cda (initFn qual params body scope dV kV doc pm an cda ct cc) qual)
    (hb : body = [.Expr (.Call (.Attribute (.Call (.Name "super" p0) [] [] p1) "__init__" p2) [.Constant (.str m) j p3] [] p4) p5, .Assign [.Attribute (.Name "self" q5) f q6] (.Name y q7) q8])
    (hf : findIn K (.ref C) f = some none) (ar : (params.posonlyargs ++ params.args).head?.map (·.arg) = some ("self" : Str))
    (k1 : scope.names.lookup ("super" : Str) = some .globalImplicit) (k2 : scope.names.lookup ("__class__" : Str) = some .free) (k3 : scope.names.lookup ("self" : Str) = some .local) (k4 : scope.kind = .function)
    (k5 : scope.names.lookup y = some .local) (k6 : scope.isCoroutine = false) (k7 : scope.isGenerator = false) (k8 : ∀ z ∈ scope.names, z.2 ≠ .cell) (ny : (y == ("self" : Str)) = false) (hd : (y == ("__debug__" : Str)) = false)
    (hbind : ∀ a u, bindArgs (initFn qual params body scope dV kV doc pm an cda ct cc) ⟨[a, u], []⟩ = pure [(("self" : Str), a), (y, u)])
    (hi : ∀ L, interactive (initEnv qual scope L fI cda cc) = false) (hs : ∀ L, swapsWith (.Call (.Attribute (.Call (.Name "super" p0) [] [] p1) "__init__" p2) [.Constant (.str m) j p3] [] p4) none p5.line (initEnv qual scope L fI cda cc) = pure false)
    (he : ∀ L, eval (.Call (.Attribute (.Call (.Name "super" p0) [] [] p1) "__init__" p2) [.Constant (.str m) j p3] [] p4) (initEnv qual scope L fI cda cc) = (do
      let ov ← attributeBase (.Call (.Name "super" p0) [] [] p1) "__init__" (initEnv qual scope L fI cda cc) (eval (.Call (.Name "super" p0) [] [] p1) (initEnv qual scope L fI cda cc))
      standAt p2.atName
      let (g, first) ← holding [ov] (getMethod ov "__init__" pl)
      callWith p4 g first (backTo p4 (starEach [.Constant (.str m) j p3] (initEnv qual scope L fI cda cc))) []))
    (hs2 : ∀ L, swapsWith (.Name y q7) (some (.Attribute (.Name "self" q5) f q6)) q8.line (initEnv qual scope L fI cda cc) = pure false) : InitOk P w K mg C fI [f] := by
  intro A hB s x t0 us R hr GB kB nB hx hl hq
  have G := GB.keeps kB
  match us, hl with
  | [u], _ =>
  obtain ⟨oc, od, osl, fO⟩ := S.fO
  refine ks_codeAny_call_defAt (fd := initFn qual params body scope dV kV doc pm an cda ct cc) (body := body) (binds := [(("self" : Str), .ref x), (y, u)]) hr (G.kin _ _ fO) rfl G.lim (codeRec_of G.kin S.cIn) rfl (.of_eq (hbind _ _)) k8 ?_ (fun h₀ hn k => ?_) k6 k7 k4
  · intro z hz
    rcases List.mem_cons.mp hz with rfl | hz
    · exact k3
    · rcases List.mem_cons.mp hz with rfl | hz
      · exact k5
      · cases hz
  · have hn' : h₀.Ns s.heap.objs.size (fun z => if z = y then some u else if z = "self" then some (.ref x) else none) := by
      have e : (fun z => List.lookup z [(("self" : Str), Value.ref x), (y, u)].reverse) = (fun z => if z = y then some u else if z = "self" then some (.ref x) else none) := by
        funext z
        show List.lookup z [(y, u), (("self" : Str), Value.ref x)] = _
        rw [lk_cons, lk_cons, List.lookup_nil]
      rw [← e]
      exact hn
    have ne : ¬ (("self" : Str) = y) := fun z => by rw [← z] at ny; simp at ny
    have G0 := G.keeps k
    have xL : x ≠ s.heap.objs.size := Nat.ne_of_lt (Heap.lt_size hx)
    have vS : (if (("self" : Str) = y) then some u else if (("self" : Str) = "self") then some (.ref x) else none) = some (.ref x) := by rw [if_neg ne, if_pos rfl]
    have bx : ∀ {b : Addr} {o : Obj}, hB.get? b = some o → b ≠ x := fun {b o} e z => by rw [z, nB] at e; cases e
    rw [hb]
    refine ks_wpAt_execs_cons (sup_step FB KF (sup_of S G0 hn' vS (k _ _ hx) ar k1 k2 k3 k4) (fun h1 tk1 t1 kk1 e1 => ?_) (hi _) (hs _) (he _))
    have G1 : Gnd K mg h1 := GB.keeps fun b o e => kk1 b o (bx e) (k b o (kB b o e))
    have n1 : h1.Ns s.heap.objs.size (fun z => if z = y then some u else if z = "self" then some (.ref x) else none) := hn'.at fun o e => kk1 _ o (Ne.symm xL) e
    refine ks_wpAt_execs_cons (fld1 (y := y) S.sto G1.kin e1 hf k4 k3 k5 n1 vS (by rw [if_pos rfl]) hd (fun h2 tk2 dx kk2 n2 ne2 e2 e3 => ?_) (hs2 _))
    refine wpAt_of_wpAny (wpAny_execs_nil ?_)
    refine hq h2 tk2 t1 dx _ (fun b o hb' ho => kk2 b o hb' (kk1 b o hb' (k b o ho))) ?_ ne2 e2 e3 (fun z => ?_)
    · cases q : s.heap.get? dx with
      | none => rfl
      | some o => exact absurd (Heap.lt_size (kk1 dx o ne2 (k dx o q))) (Nat.not_lt.mpr n2)
    · show _ = List.lookup z [(f, u)]
      rw [lk_cons, List.lookup_nil]
end
end L3
namespace L3
open PySem PySem.Spec PyProof.Rows L2
open PySem.HandSPX (excO refsVE refsVE_contains veTail)
def excFields (fs : List Str) (vs : List V) : List (Str × V) := (fs.zip vs).reverse
theorem rel_look {l : List (Str × V)} {r : List (Str × Value)} (h : Paired (fun (p : Str × V) (q : Str × Value) => p.1 = q.1 ∧ RelV p.2 q.2) l r) (z : Str) : RelO (l.lookup z) (r.lookup z) := by
  induction h with
  | nil => exact True.intro
  | @cons p q l r h _ ih =>
    obtain ⟨f, v⟩ := p
    obtain ⟨g, u⟩ := q
    obtain ⟨e, rv⟩ := h
    dsimp only at e rv
    subst e
    rw [lk_cons, lk_cons]
    by_cases hz : z = f
    · rw [if_pos hz, if_pos hz]
      exact rv
    · rw [if_neg hz, if_neg hz]
      exact ih
theorem rel_zip {vs : List V} {us : List Value} (h : Vals vs us) : ∀ (fs : List Str), Paired (fun (p : Str × V) (q : Str × Value) => p.1 = q.1 ∧ RelV p.2 q.2) (fs.zip vs) (fs.zip us) := by
  induction h with
  | nil => intro fs; simp; exact .nil
  | cons r _ ih =>
    intro fs
    cases fs with
    | nil => exact .nil
    | cons f fs => exact .cons ⟨rfl, r⟩ (ih fs)
theorem pair_app {α β : Type} {R : α → β → Prop} {l1 l2 : List α} {r1 r2 : List β} (h : Paired R l1 r1) (k : Paired R l2 r2) : Paired R (l1 ++ l2) (r1 ++ r2) := by
  induction h with
  | nil => exact k
  | cons a _ ih => exact .cons a ih
theorem pair_rev {α β : Type} {R : α → β → Prop} {l : List α} {r : List β} (h : Paired R l r) : Paired R l.reverse r.reverse := by
  induction h with
  | nil => exact .nil
  | cons a _ ih =>
    rw [List.reverse_cons, List.reverse_cons]
    exact pair_app ih (.cons a .nil)
theorem exc_rel {fs : List Str} {vs : List V} {us : List Value} {m : Str → Option Value} (h : Vals vs us) (hm : ∀ z, m z = (fs.zip us).reverse.lookup z) (z : Str) : RelO ((excFields fs vs).lookup z) (m z) := by
  rw [hm]
  exact rel_look (pair_rev (rel_zip h fs)) z
end L3
namespace PySem.W
open PySem PySem.Spec PySem.Calls PyProof.Rows
end PySem.W
namespace L3
open PySem PySem.Spec PyProof.Rows L2
end L3
namespace L3
open PySem PySem.Spec PySem.W PyProof.Rows L2
open PySem.HandSPX (refsVE refsVE_contains veTail)
def excB (K : Frag) (D : Addr) : Bool := xfB K D && (decide (findIn K (.ref D) "__class__" = some (some (.builtin "object.__class__"))) && (decide (specialIn K (.builtin "object.__class__") "__get__" = some (some (.builtin "getset_descriptor.__get__"))) &&
  (decide (takesIn K (.builtin "object.__class__") = some true) && decide (mroIn K D (.type "object") = some true))))
theorem excB_ok {K : Frag} {D : Addr} (h : excB K D = true) : ExcC K D ∧ XfC K D := by
  unfold excB at h
  simp only [Bool.and_eq_true, decide_eq_true_eq] at h
  obtain ⟨h1, h2, h3, h4, h5⟩ := h
  have x := xfB_ok h1
  exact ⟨⟨x.ga, x.gg, x.exC, x.hdC, h2, h3, h4, h5⟩, x⟩
/-- a class whose __init__ at f says super().__init__ of the built-in class T -/
def supB (K : Frag) (C f : Addr) (T i : String) (fs : List Str) : Bool := keepIn K (.ref C) && (decide (findIn K (.ref C) "__init__" = some (some (.ref f))) && (decide (typeIn K (.ref f) = some (.type "function")) && (decide (findIn K (.ref C) "__setattr__" = some (some (.builtin "object.__setattr__"))) &&
  (decide (subIn K (.ref C) (.type T) = some true) && (decide (subIn K (.ref C) (.ref C) = some true) && (decide (nsIn K cStatics "thirdparty.any" = some none) && (decide (ks_superIn K C C "__init__" = some (some (.builtin i))) && fs.all fun g => decide (findIn K (.ref C) g = some none))))))))
structure SupF (K : Frag) (C f : Addr) (T i : String) (fs : List Str) : Prop where
  kC : keepIn K (.ref C) = true
  iC : findIn K (.ref C) "__init__" = some (some (.ref f))
  tI : typeIn K (.ref f) = some (.type "function")
  sa : findIn K (.ref C) "__setattr__" = some (some (.builtin "object.__setattr__"))
  subT : subIn K (.ref C) (.type T) = some true
  subC : subIn K (.ref C) (.ref C) = some true
  opq : nsIn K cStatics "thirdparty.any" = some none
  cls : ∃ cd, clsIn K C = some cd ∧ alongIn K "__init__" ((cd.mro.dropWhile (· != .ref C)).drop 1) = some (some (.builtin i))
  no : ∀ g ∈ fs, findIn K (.ref C) g = some none
theorem supB_ok {K : Frag} {C f : Addr} {T i : String} {fs : List Str} (h : supB K C f T i fs = true) : SupF K C f T i fs := by
  unfold supB at h
  simp only [Bool.and_eq_true, decide_eq_true_eq, List.all_eq_true] at h
  obtain ⟨h1, h2, h3, h4, h5, h6, h7, h8, h9⟩ := h
  refine ⟨h1, h2, h3, h4, h5, h6, h7, ?_, h9⟩
  unfold ks_superIn at h8
  obtain ⟨cd, e1, e2⟩ := Option.bind_eq_some_iff.mp h8
  exact ⟨cd, e1, e2⟩
theorem above_ve {bm : List Value} (h : refsVE bm = true) : Above "ValueError" bm :=
  ⟨(refsVE_contains "ValueError" bm h).trans (by decide +kernel), (refsVE_contains "AttributeError" bm h).trans (by decide +kernel), (refsVE_contains "NameError" bm h).trans (by decide +kernel)⟩
section
variable {K : Frag} {C : Addr} {nm q : Str} {N : Addr} {bs bm : List Value} {sn : List Str} {sub : List Value} {ab : Bool} {col : Option Bool} {dd : Option Addr} {k0 k1 k2 k3 k5 : Option Value} {newId : String}
theorem cls_of (hC : K.lookup C = some (excClassObj nm q C N bs bm true sn sub ab col dd k0 k1 k2 k3 k5 newId)) :
    clsIn K C = some { name := nm, bases := bs, mro := .ref C :: bm, ns := N, qualname := q, hasDict := true, slotNames := sn, subclasses := sub, abstract := ab, collection := col, hasDel := false } := by
  unfold clsIn
  rw [hC] <;> rfl
theorem over_of (hC : K.lookup C = some (excClassObj nm q C N bs bm true sn sub ab col dd k0 k1 k2 k3 k5 newId)) (h : refsVE bm = true) : OverVE K C := ⟨_, cls_of hC, h, rfl⟩
theorem sto_ke (hC : K.lookup C = some (excClassObj nm q C N bs keTail true sn sub ab col dd k0 k1 k2 k3 k5 newId)) (sa : findIn K (.ref C) "__setattr__" = some (some (.builtin "object.__setattr__"))) : Sto K C :=
  ⟨⟨_, cls_of hC, fun self => by rw [show (Value.ref C :: keTail) = Value.ref C :: keTail from rfl, refuseLoop_ref]; exact pass_KeyError self, rfl, by rw [List.contains_cons, show keTail.contains (.type "object") = true by decide +kernel, Bool.or_true], rfl⟩, sa⟩
end
/-- all that the __init__'s own objects must say -/
structure InK (K : Frag) (prog : Program) (C f cc cda : Addr) (fd : FuncData) (qual : Str) : Prop where
  fO : ∃ oc od osl, K.lookup f = some ⟨oc, od, .func fd, osl⟩
  cO : ∃ oc od vs osl file tf, K.lookup cda = some ⟨oc, od, .fields vs, osl⟩ ∧ vs[2]? = some (.str file tf) ∧ ((prog.main.file : Str) == file) = true
  cIn : codeIn K (.ref cda) qual = true
  top : (prog.main.scope.names.lookup ("super" : Str)).isSome = false
  ccO : ∃ oc od osl, K.lookup cc = some ⟨oc, od, .cell (some (.ref C)), osl⟩
theorem supK_of {K : Frag} {prog : Program} {mg : Str → Option Value} {T i newId : String} {C f cc cda : Addr} {fd : FuncData} {qual : Str} {fs : List Str} {nm q : Str} {N : Addr} {bs bm : List Value} {sn : List Str} {sub : List Value} {ab : Bool} {col : Option Bool} {dd : Option Addr} {k0 k1 k2 k3 k5 : Option Value}
    (I : InK K prog C f cc cda fd qual) (S : SupF K C f T i fs) (hC : K.lookup C = some (excClassObj nm q C N bs bm true sn sub ab col dd k0 k1 k2 k3 k5 newId)) (sto : Sto K C) (noS : mg "super" = none) : SupK K prog mg T i newId C f cc cda fd qual :=
  ⟨noS, I.fO, I.cO, I.cIn, I.top, I.ccO, S.cls, ⟨nm, q, N, bs, bm, true, sn, sub, ab, col, dd, k0, k1, k2, k3, k5, hC⟩, S.subT, S.subC, S.opq, sto⟩
end L3
namespace L3
open PySem PySem.Spec PyProof.Rows L2
open PySem.HandSPX (excO)
theorem upd_upd (H : Hp) (D : Addr) (o u : HO) : upd (upd H D o) D u = upd H D u := by
  funext b
  by_cases h : b = D
  · rw [h, upd_same, upd_same]
  · rw [upd_ne h, upd_ne h, upd_ne h]
theorem del_upd {H : Hp} {a : Addr} {o : HO} (h : H a = none) : L2.del (upd H a o) a = H := by
  funext b
  by_cases e : b = a
  · rw [e, del_same, h]
  · rw [del_ne e, upd_ne e]
section
variable {fr : List Addr} {H : Hp} {h h' : Heap} {a d C : Addr} {l : List (Str × V)}
/-- behind the __init__: the exception has got its dict -/
theorem un_init (k : ∀ b o, b ≠ a → h.get? b = some o → h'.get? b = some o) (there : ∃ o, h'.get? a = some o) (gd : h.get? d = none) (nd : H d = none) (ne : d ≠ a) :
    Un fr [] (upd H a (exo a C none)) (upd (upd H d (exd d l)) a (exo a C (some d))) h h' := by
  have na : ∀ {b : Addr}, upd H a (exo a C none) b = none → b ≠ a := fun {b} q z => by
    rw [z, upd_same] at q
    cases q
  have nx : ∀ {b : Addr} {o : HO}, upd H a (exo a C none) b = some o → o ≠ exo a C none → b ≠ a ∧ H b = some o := fun {b o} q n => by
    by_cases z : b = a
    · rw [z, upd_same] at q
      exact absurd (Option.some.inj q).symm n
    · rw [upd_ne z] at q
      exact ⟨z, q⟩
  have same : ∀ {b : Addr} {o : HO}, upd H a (exo a C none) b = some o → o ≠ exo a C none → upd (upd H d (exd d l)) a (exo a C (some d)) b = some o := fun {b o} q n => by
    obtain ⟨n1, q1⟩ := nx q n
    rw [upd_ne n1, upd_ne (ne_of_none q1 nd)]
    exact q1
  exact {
    keep := fun b o q n _ _ => k b o (na n) q
    slot := fun b o q n _ _ => ⟨o.slots, k b o (na n) q⟩
    free := fun b o q n _ => by
      rw [upd_ne (na n), upd_ne (fun z => by rw [z, gd] at q; cases q)]
      rw [upd_ne (na n)] at n
      exact n
    there := fun b o q _ => by
      by_cases z : b = a
      · rw [z]
        exact there
      · exact ⟨o, k b o z q⟩
    tups := fun b xs q => same q (Ne.symm exo_tup)
    frzs := fun b o u q => same q (Ne.symm exo_frz)
    tbls := fun b ps q => ⟨#[], by rw [same q (Ne.symm exo_tbl)]; simp⟩ }
end
/-- the reading of what is raised -/
def tSup (C : Addr) (fs : List Str) (ta : TA) : L2.St → Hp → XK → Prop := fun σ H Q => ta σ H fun vs H1 => vs.length = fs.length ∧ vs.length ≤ 900 ∧ ∀ d, H1 d = none → Q (.ref C) (some d) (upd H1 d (.xd (excFields fs vs)))
theorem pmk_sup {X : Cx} {x : Str} {C fI : Addr} {fs : List Str} {e : Expr} {es : List Expr} {ta : TA} {p pos : Pos} {B newId initId : String} {bmB bm : List Value} (J : InitOk X.prog X.w X.K X.mg C fI fs) (F : ExcBaseFacts B newId initId bmB) (T : Above B bm)
    (V : ∃ nm q N bs hdct sn sub ab col dd k0 k1 k2 k3 k5, X.K.lookup C = some (excClassObj nm q C N bs bm hdct sn sub ab col dd k0 k1 k2 k3 k5 newId)) (kC : PySem.W.keepIn X.K (.ref C) = true) (iC : PySem.W.findIn X.K (.ref C) "__init__" = some (some (.ref fI)))
    (tI : PySem.W.typeIn X.K (.ref fI) = some (.type "function")) (exC : PySem.W.subIn X.K (.ref C) (.type "BaseException") = some true) (tyC : PySem.W.typeIn X.K (.ref C) = some (.type "type")) (hr : Room 1 X.A) (hg : Gl X x) (hm : X.mg x = some (.ref C)) (ha : PA X (e :: es) ta)
    (hdb : (x == ("__debug__" : Str)) = false := by decide) (he : starEach (e :: es) X.env = (false, eval e X.env) :: starEach es X.env := by rfl) (hpl : (backTo pos (starEach es X.env)).any (·.1) = false := by rfl) :
    PMk X (.Call (.Name x p) (e :: es) [] pos) (tSup C fs ta) := by
  intro pins s σ H Q I h
  obtain ⟨nm, q, N, bs, hdct, sn, sub, ab, col, dd, k0, k1, k2, k3, k5, hC⟩ := V
  refine wpAny_Call_Name_kw (ld_glob I hg hm (PySem.W.callWith_K (h₀ := X.base) I.ok.mod.kin kC (thn (ha.run pos pins s σ H _ I h) fun us s1 ⟨vs, H1, I1, r1, hl, hz, q1⟩ => ⟨I1.kIn, ?_⟩) he hpl) hdb)
  show wpAny _ _ (call (.ref C) us) _ _ _
  have G := Gnd.of I1
  obtain ⟨hp, g, dr, tk, os⟩ := s1
  have ul : us.length = vs.length := (Paired.length r1).symm
  have hus : us.length ≤ sizeLine := Nat.le_trans (show us.length ≤ 900 by omega) (show 900 ≤ sizeLine by decide)
  have kk : ∀ b o, hp.get? b = some o → ((hp.push (PySem.W.kdv_tup us)).push (excO C hp.objs.size)).get? b = some o := fun b o e => Heap.get?_push_of_some _ (Heap.get?_push_of_some _ e)
  have hget : ((hp.push (PySem.W.kdv_tup us)).push (excO C hp.objs.size)).get? (hp.objs.size + 1) = some (excO C hp.objs.size) := by heap_get
  have nx : hp.get? (hp.objs.size + 1) = none := by
    cases q : hp.get? (hp.objs.size + 1) with
    | none => rfl
    | some o => exact absurd (Heap.lt_size q) (Nat.not_lt.mpr (Nat.le_succ _))
  refine wpAny_call (above_call F T (I1.kIn _ _ hC) (PySem.W.looks_findIn I1.kIn iC) (fun self => PySem.W.bind_fn I1.kIn self tI) hus ?_)
  refine J _ hp _ (hp.objs.size + 1) hp.objs.size us _ (hr.make C us []).depth G kk nx hget (ul.trans hl) fun h' tk' t1 dx m k fr ne e1 e2 e3 => ⟨rfl, ?_⟩
  have kall : ∀ b o, hp.get? b = some o → h'.get? b = some o := fun b o e => k b o (fun z => by rw [z, nx] at e; cases e) (kk b o e)
  have nd : hp.get? dx = none := by
    cases q : hp.get? dx with
    | none => rfl
    | some o => rw [kk dx o q] at fr; cases fr
  have na1 := I1.hok.gone nx
  have nd1 := I1.hok.gone nd
  have ok1 : HOk X.prog X.w (upd H1 dx (exd dx (excFields fs vs))) h' := I1.hok.laidN kall nd1 (exd_ok e2 (exc_rel r1 e3))
  have na2 : upd H1 dx (exd dx (excFields fs vs)) (hp.objs.size + 1) = none := by rw [upd_ne (Ne.symm ne)]; exact na1
  have ok2 := ok1.laidN (o := exo (hp.objs.size + 1) C (some dx)) (fun _ _ e => e) na2 (exo_ok e1)
  have un := un_init (fr := frs X.stack) (C := C) (l := excFields fs vs) k ⟨_, e1⟩ fr nd1 ne
  refine mk_end (d2 := dr) (t2 := tk') (raises_own exC tyC) I1 (Nat.le_succ _) kk un ok2 rfl I1.bare upd_same (by rw [upd_ne ne]; exact upd_same) nd1 ?_
  rw [del_upd na2, upd_upd]
  exact q1 dx nd1
end L3
namespace R52
open PySem L2 L3
open C8 (pss_cut tCut)
def top (i : Nat) : Stmt := PySem.Challenge.pw_hadnot_k52_cheapest_worlds.main.body.getD i (.Pass ⟨0, 0, 0, 0⟩)
abbrev sFeed : Stmt := top 47
abbrev sTake : Stmt := top 48
section
variable {P : Program} {w : World} {K : PySem.W.Frag} {mg : Str → Option Value} {base : Heap}
theorem scF : FnScope ["_law_script", "_law_k", "_law_cell", "_law_start"] ["_law_script", "_law_k"] (defScope sFeed) := ⟨rfl, rfl, rfl, by decide +kernel, rfl, by decide +kernel, by decide +kernel⟩
theorem ok_feed {f : Addr} {fd : FuncData} (F : Fun K "_law_feed" "_law_feed" sFeed f fd) (zLen : mg "len" = none) (zAbs : mg "abs" = none) : FnOk P w K mg base CX0 1 f fd ["_law_script", "_law_k"] (spFeed K) := by
  refine F.ok scF (fun vs H Q E h => ?_) (fun cdv A outer s H vs Q E hr h => ?_)
  · obtain ⟨a, ns, k, rfl, _⟩ := h
    rfl
  · obtain ⟨a, ns, k, rfl, hS, hn, hk, kk⟩ := h
    have sk : Sm 7 (k : Int) := by show (k : Int).natAbs < 128; omega
    have hl : (ns.map V.int).length = ns.length := List.length_map ..
    refine ⟨_, pss_cons (ps_set (i := 2) scF.nd rfl (Or.inl rfl) (pe_op op_add (pe_op op_mulW pe_int (pv 1)) pe_int))
      (pss_cut (ps_if (pt_cmpR op_lt (pv 1) (pe_callB call_len_seq (by rfl) zLen PySem.boot_len (pa_cons (pv 0) pa_nil)) (nomark _))
        (pss_one (ps_set (i := 2) scF.nd rfl (Or.inl rfl) (pe_callB call_abs (by rfl) zAbs PyProof.Rows.boot_abs (pa_cons (pe_ix ix_list (pv 0) (pv 1) (fun _ _ => rfl)) pa_nil))))
        (pss_one (ps_if (pt_cmpR op_gt (pe_callB call_len_seq (by rfl) zLen PySem.boot_len (pa_cons (pv 0) pa_nil)) pe_int (nomark _))
          (pss_one (ps_set (i := 2) scF.nd rfl (Or.inl rfl) (pe_op op_add (pe_op op_mulW (pe_op op_mod (pe_callB call_abs (by rfl) zAbs PyProof.Rows.boot_abs (pa_cons (pe_ix ix_list (pv 0) (pe_op op_mod (pv 1) (pe_callB call_len_seq (by rfl) zLen PySem.boot_len (pa_cons (pv 0) pa_nil))) (fun _ _ => rfl)) pa_nil)) pe_int) pe_int) (pe_op op_mulW pe_int (pv 1))))) pss_nil)))
      (pss_cons (ps_set (i := 3) scF.nd rfl (Or.inl rfl) (pe_op op_mod (pe_op op_add (pe_op op_add (pe_op op_mulW (pe_op op_mod (pv 2) pe_int) pe_int) (pe_op op_mulW pe_int (pv 1))) pe_int) pe_int))
      (pss_one (ps_ret (pe_lst (pa_cons (pe_ifExp (pt_cmpR op_ge (pv 2) (pe_op op_pow pe_int pe_int) (nomark _)) (pv 2) pe_int) (pa_cons (pv 3) pa_nil))))))), ?_⟩
    refine ⟨_, rfl, _, _, rfl, rfl, (show Sm 13 6151 by decide).mulW sk (by decide) (by decide) (by decide), _, _, rfl, rfl, ?_⟩
    refine ⟨fun σ H' => ∃ c : Int, σ = [some (.ref a), some (.int k), some (.int c), none] ∧ H' = H, ?_, ?_⟩
    · refine ⟨_, rfl, _, rfl, a, _, rfl, .inl hS, _, _, rfl, rfl, _, rfl, ?_⟩
      rw [hl]
      refine iteD (fun h1 => ?_) (fun h1 => ?_)
      · have hk' : k < ns.length := by omega
        refine ⟨_, rfl, _, rfl, a, _, _, .int ns[k], rfl, rfl, hS, atI_nat (by rw [List.getElem?_map, List.getElem?_eq_getElem hk']; rfl), _, rfl, ?_⟩
        exact ⟨_, rfl, rfl⟩
      · refine ⟨_, rfl, a, _, rfl, .inl hS, _, _, rfl, rfl, _, rfl, ?_⟩
        rw [hl]
        refine iteD (fun h2 => ?_) (fun h2 => ?_)
        · have hlen : 0 < ns.length := by omega
          have hj : k % ns.length < ns.length := Nat.mod_lt _ hlen
          refine ⟨_, rfl, _, rfl, _, rfl, a, _, rfl, .inl hS, _, _, rfl, rfl, ?_, ?_⟩
          · show (0 : Int) < ((ns.map V.int).length : Int)
            rw [hl]
            omega
          · have e : (k : Int) % ((ns.map V.int).length : Int) = ((k % ns.length : Nat) : Int) := by rw [hl]; rfl
            refine ⟨a, _, _, .int ns[k % ns.length], rfl, rfl, hS, at_of e (by rw [List.getElem?_map, List.getElem?_eq_getElem hj]; rfl), _, rfl, _, _, rfl, rfl, (by show (0 : Int) < 2147483629; decide), ?_⟩
            refine ⟨_, _, rfl, rfl, Sm.mulW (n := 31) (m := 6) ?_ (by decide) (by decide) (by decide) (by decide), _, rfl, _, _, rfl, rfl, (show Sm 14 97 by decide).mulW sk (by decide) (by decide) (by decide), _, _, rfl, rfl, ?_⟩
            · show (_ % (2147483629 : Int)).natAbs < 2147483648
              omega
            · exact ⟨_, rfl, rfl⟩
        · exact ⟨_, rfl, rfl⟩
    · rintro σ' H' ⟨c, rfl, rfl⟩
      refine ⟨_, rfl, _, _, rfl, rfl, (by show (0 : Int) < 2147483647; decide), _, _, rfl, rfl, Sm.mulW (n := 31) (m := 16) ?_ (by decide) (by decide) (by decide) (by decide), ?_⟩
      · show (_ % (2147483647 : Int)).natAbs < 2147483648
        omega
      · refine ⟨_, rfl, _, _, rfl, rfl, (show Sm 16 7817 by decide).mulW sk (by decide) (by decide) (by decide), _, _, rfl, rfl, _, _, rfl, rfl, _, _, rfl, rfl, (by show (0 : Int) < 2147483647; decide), _, rfl, _, _, rfl, rfl, ⟨by decide, by decide, by decide⟩, _, _, rfl, rfl, _, rfl, ?_⟩
        refine iteD (fun h1 => ?_) (fun h1 => ?_)
        · refine ⟨_, rfl, _, rfl, (by show 2 ≤ sizeLine; decide), fun p hp => ?_⟩
          refine kk p _ hp (same_new hp) ⟨_, _, upd_same, ?_, ?_⟩ <;> omega
        · refine ⟨_, rfl, (by show 2 ≤ sizeLine; decide), fun p hp => ?_⟩
          refine kk p _ hp (same_new hp) ⟨_, _, upd_same, ?_, ?_⟩ <;> omega
theorem scT : FnScope ["_law_feed_here", "_law_many", "_law_digit"] ["_law_feed_here", "_law_many"] (defScope sTake) := ⟨rfl, rfl, rfl, by decide +kernel, rfl, by decide +kernel, by decide +kernel⟩
theorem ok_take {f : Addr} {fd : FuncData} (F : Fun K "_law_take" "_law_take" sTake f fd) : FnOk P w K mg base CX0 1 f fd ["_law_feed_here", "_law_many"] spTake := by
  refine F.ok scT (fun vs H Q E h => ?_) (fun cdv A outer s H vs Q E hr h => ?_)
  · obtain ⟨a, m, rfl, _⟩ := h
    rfl
  · obtain ⟨a, m, rfl, ⟨x, y, hH, y0, y1⟩, m0, sm, k⟩ := h
    refine ⟨_, pss_cons (ps_if (pt_cmpR op_gt (pe_ix ix_list (pv 0) pe_int (fun _ _ => rfl)) pe_int (nomark _))
        (pss_cons (ps_set (i := 2) scT.nd rfl (Or.inl rfl) (pe_op op_mod (pe_ix ix_list (pv 0) pe_int (fun _ _ => rfl)) (pv 1)))
        (pss_cons (ps_asg (pe_op op_fdivW (pe_ix ix_list (pv 0) pe_int (fun _ _ => rfl)) (pv 1)) (pg_sub (pv 0) pe_int set_list))
        (pss_one (ps_ret (pv 2))))) pss_nil)
      (pss_cons (ps_asg (pe_op op_mod (pe_op op_add (pe_op op_mulW (pe_ix ix_list (pv 0) pe_int (fun _ _ => rfl)) pe_int) pe_int) pe_int) (pg_sub (pv 0) pe_int set_list))
      (pss_one (ps_ret (pe_op op_mod (pe_op op_fdivW (pe_ix ix_list (pv 0) pe_int (fun _ _ => rfl)) pe_int) (pv 1))))), ?_⟩
    have keep : ∀ o, ∀ b u, b ≠ a → H b = some u → upd H a o b = some u := fun o b u n e => by rw [upd_ne n]; exact e
    refine ⟨_, rfl, a, _, 0, .int x, rfl, rfl, SqL.of hH, rfl, _, _, rfl, rfl, _, rfl, ?_⟩
    refine iteD (fun hx => ?_) (fun hx => ?_)
    · refine ⟨_, rfl, a, _, 0, .int x, rfl, rfl, SqL.of hH, rfl, _, rfl, _, _, rfl, rfl, m0, ?_⟩
      refine ⟨_, rfl, a, _, 0, .int x, rfl, rfl, SqL.of hH, rfl, _, rfl, _, _, rfl, rfl, ⟨m0, Sm.log sm (by decide) (by decide)⟩, _, rfl, a, _, _, 0, rfl, rfl, hH, rfl, _, rfl, ?_⟩
      exact k _ _ (Int.emod_nonneg _ (by omega)) (Int.emod_lt_of_pos _ m0) ⟨⟨_, _, upd_same, y0, y1⟩, keep _⟩
    · refine ⟨_, rfl, a, _, 1, .int y, rfl, rfl, SqL.of hH, rfl, _, _, rfl, rfl, Sm.mulW (n := 32) (m := 16) (by show y.natAbs < 4294967296; omega) (by decide) (by decide) (by decide) (by decide), _, _, rfl, rfl, _, _, rfl, rfl, (by show (0 : Int) < 2147483647; decide), ?_⟩
      refine ⟨_, rfl, a, _, _, 1, rfl, rfl, hH, rfl, _, rfl, a, _, 1, _, rfl, rfl, SqL.of upd_same, rfl, _, _, rfl, rfl, ⟨by decide, by decide⟩, _, rfl, _, _, rfl, rfl, m0, ?_⟩
      refine k _ _ (Int.emod_nonneg _ (by omega)) (Int.emod_lt_of_pos _ m0) ⟨⟨_, _, upd_same, ?_, ?_⟩, keep _⟩ <;> omega
end
end R52
namespace R52
open PySem L2 L3
open C8 (pss_cut tCut)
abbrev sMixed : Stmt := top 49
/-- data that stands whatever is drawn -/
def Dat (K : PySem.W.Frag) (H : Hp) (a : Addr) (x : V) : Prop := ∃ d : PyData, d.canLay0 = true ∧ d.depth ≤ 8 ∧ ∀ H' : Hp, (∀ b o, b ≠ a → H b = some o → H' b = some o) → Dp K H' x d
theorem dat_str {K : PySem.W.Frag} {H : Hp} {a : Addr} {t : Str} (h : PyData.strOk t = true) : Dat K H a (.str t) := ⟨.str t, h, Nat.zero_le _, fun _ _ => .str t⟩
def spMixed (K : PySem.W.Frag) : Sp := fun vs H Q _ => ∃ (a l : Addr) (xs : List V), vs = [.ref a, .ref l] ∧ FeedAt H a ∧ (SqL K H l xs ∨ SqT K H l xs) ∧ xs.length ≤ 1000 ∧ (∀ x ∈ xs, Dat K H a x) ∧
  ∀ (p : Addr) (ys : List V) (H' : Hp), H p = none → Dr a H H' → H' p = some (.lst ys) → ys.Perm xs → Q (.ref p) H'
theorem erase_perm {α : Type} : ∀ (l : List α) (i : Nat) (h : i < l.length), (l[i] :: l.eraseIdx i).Perm l
  | _ :: _, 0, _ => .refl _
  | x :: l, i + 1, h => (List.Perm.swap _ _ _).trans (.cons x (erase_perm l i (Nat.lt_of_succ_lt_succ h)))
theorem dats {K : PySem.W.Frag} {H H' : Hp} {a : Addr} (s : ∀ b o, b ≠ a → H b = some o → H' b = some o) : ∀ {xs : List V}, (∀ x ∈ xs, Dat K H a x) → ∃ ds : List PyData, DpAll K H' xs ds ∧ PyData.canLayAll0 ds = true ∧ PyData.depthAll ds ≤ 8 ∧ (xs = [] ↔ ds = [])
  | [], _ => ⟨[], .nil, rfl, Nat.zero_le _, Iff.rfl.trans ⟨fun _ => rfl, fun _ => rfl⟩⟩
  | x :: xs, h => by
    obtain ⟨d, h1, h2, h3⟩ := h x List.mem_cons_self
    obtain ⟨ds, k1, k2, k3, _⟩ := dats s (xs := xs) fun y hy => h y (List.mem_cons_of_mem _ hy)
    refine ⟨d :: ds, .cons (h3 _ s) k1, ?_, ?_, ⟨fun e => (nomatch e), fun e => (nomatch e)⟩⟩
    · show (d.canLay0 && PyData.canLayAll0 ds) = true
      rw [h1, k2]
      rfl
    · show max d.depth (PyData.depthAll ds) ≤ 8
      omega
theorem list_shaped {ds : List PyData} (h : PyData.canLayAll0 ds = true) (d : PyData.depthAll ds ≤ 8) : SeqAt.shaped (.list ds) = true := by
  show (PyData.canLayAll0 ds && decide (PyData.depthAll ds + 1 ≤ 64)) = true
  rw [h, decide_eq_true (by omega)]
  rfl
theorem eqv_nil : ∀ ds : List PyData, PyData.eqv (.list ds) (.list []) = decide (ds = [])
  | [] => rfl
  | _ :: _ => rfl
section
variable {P : Program} {w : World} {K : PySem.W.Frag} {mg : Str → Option Value} {base : Heap}
theorem scMi : FnScope ["_law_feed_here", "_law_items", "_law_left", "_law_found"] ["_law_feed_here", "_law_items"] (defScope sMixed) := ⟨rfl, rfl, rfl, by decide +kernel, rfl, by decide +kernel, by decide +kernel⟩
theorem ok_mixed {f fT : Addr} {fd fdT : FuncData} (F : Fun K "_law_mixed" "_law_mixed" sMixed f fd) (FT : Fun K "_law_take" "_law_take" sTake fT fdT) (bT : Binds K fdT ["_law_feed_here", "_law_many"] []) (gT : mg "_law_take" = some (.ref fT)) (zList : mg "list" = none) (zLen : mg "len" = none) :
    FnOk P w K mg base CX0 2 f fd ["_law_feed_here", "_law_items"] (spMixed K) := by
  have GT : FnOk P w K mg base CX0 1 fT fdT ["_law_feed_here", "_law_many"] spTake := ok_take FT
  refine F.ok scMi (fun vs H Q E h => ?_) (fun cdv A outer s H vs Q E hr h => ?_)
  · obtain ⟨a, l, xs, rfl, _⟩ := h
    rfl
  · obtain ⟨a, l, xs, rfl, hf, hx, hn, hd, k⟩ := h
    have nd := scMi.nd
    refine ⟨_, pss_cons (ps_par (i := 2) (j := 3) (by rfl) nd rfl rfl (by decide) rfl rfl (pa_cons (pe_callTy call_list_of (by rfl) zList PyProof.Rows.boot_list (pa_cons (pv 1) pa_nil)) (pa_cons (pe_lst pa_nil) pa_nil)) (by rfl))
      (pss_cons (ps_while PassesOwn.never (pt_cmpR (op_neD hr.units) (pv 2) (pe_lst pa_nil) (nomark _))
        (pss_one (ps_expr (pe_bm PySem.F.plainAttrs_list PySem.F.slot_list_append PySem.F.type_list_append mt_append (pv 3) (pa_cons (pe_bm (r := rPopAt) PySem.F.plainAttrs_list PySem.F.slot_list_pop PySem.F.type_list_pop (by exact mt_popAt) (pv 2)
          (pa_cons (pe_call GT hr (by rfl) gT FT.kp bT .nil pass0 (pa_cons (pv 0) (pa_cons (pe_callB call_len_seq (by rfl) zLen PySem.boot_len (pa_cons (pv 2) pa_nil)) pa_nil))) pa_nil)) pa_nil)))))
      (pss_one (ps_ret (pv 3)))), ?_⟩
    obtain ⟨fx, fy, ha, hfy⟩ := id hf
    refine ⟨_, rfl, l, xs, rfl, hx, fun q hq => ⟨(show 0 ≤ sizeLine by decide), fun p hp => ⟨_, _, rfl, ?_⟩⟩⟩
    have s1 := same_new (o := .lst xs) hq
    have s2 := same_new (o := .lst []) hp
    have nqa : q ≠ a := (ne_of_none ha hq).symm
    have npa : p ≠ a := (ne_of_none (s1 _ _ ha) hp).symm
    have npq : p ≠ q := (ne_of_none (show upd H q (.lst xs) q = _ from upd_same) hp).symm
    have hpH : H p = none := s1.free hp
    refine ⟨fun m σ H' => ∃ (rest ys : List V), σ = [some (.ref a), some (.ref l), some (.ref q), some (.ref p)] ∧ rest.length = m ∧ (ys ++ rest).Perm xs ∧ H' q = some (.lst rest) ∧ H' p = some (.lst ys) ∧ ys.length + rest.length ≤ 1000 ∧ Dr a H H',
      ⟨xs.length, xs, [], rfl, rfl, .refl _, s2 _ _ upd_same, upd_same, by rw [List.length_nil]; omega, ⟨⟨fx, fy, (s1.trans s2) _ _ ha, hfy⟩, fun b o _ e => (s1.trans s2) _ _ e⟩⟩, ?_⟩
    rintro m σ H2 ⟨rest, ys, rfl, hlr, hperm, eq, ep, hy, dr⟩
    have hdr : ∀ x ∈ rest, Dat K H a x := fun x hx => hd x (hperm.mem_iff.mp (List.mem_append_right _ hx))
    refine ⟨_, rfl, (show 0 ≤ sizeLine by decide), fun z hz => ?_⟩
    have s3 := same_new (o := .lst []) hz
    have d3 := dr.sm
    obtain ⟨ds, k1, k2, k3, k4⟩ := dats (H' := upd H2 z (.lst [])) (fun b o n e => s3 _ _ (dr.sm b o n e)) hdr
    refine ⟨.list ds, .list [], .lst (SqL.of (s3 _ _ eq)) k1, .lst (SqL.of upd_same) .nil, list_shaped k2 k3, by decide +kernel, _, rfl, ?_⟩
    rw [eqv_nil]
    have dr3 : Dr a H (upd H2 z (.lst [])) := by
      obtain ⟨⟨u, v, hu, hv⟩, sm⟩ := dr
      exact ⟨⟨u, v, s3 _ _ hu, hv⟩, fun b o n e => s3 _ _ (sm b o n e)⟩
    have eq2 := s3 _ _ eq
    have ep2 := s3 _ _ ep
    generalize upd H2 z (.lst []) = H3 at eq2 ep2 dr3 ⊢
    cases rest with
    | nil =>
      have e : ds = [] := k4.mp rfl
      rw [e, decide_eq_true rfl]
      dsimp only
      rw [if_neg (by decide)]
      rw [List.append_nil] at hperm
      exact ⟨_, rfl, k p ys _ hpH dr3 ep2 hperm⟩
    | cons x0 rest0 =>
      have e : ds ≠ [] := fun e => (nomatch k4.mpr e)
      rw [decide_eq_false e]
      dsimp only
      rw [if_pos (by decide)]
      have hrl : 0 < (x0 :: rest0).length := Nat.succ_pos _
      generalize x0 :: rest0 = rest at *
      have hj : rest.length ≤ 1000 := by omega
      refine ⟨fun σ H' => ∃ (rest ys : List V) (m' : Nat), m' < m ∧ σ = [some (.ref a), some (.ref l), some (.ref q), some (.ref p)] ∧ rest.length = m' ∧ (ys ++ rest).Perm xs ∧ H' q = some (.lst rest) ∧ H' p = some (.lst ys) ∧ ys.length + rest.length ≤ 1000 ∧ Dr a H H', fun σ' H' ⟨rest, ys, m', lt, h⟩ => ⟨m', lt, rest, ys, h⟩, ?_⟩
      refine ⟨_, rfl, .inl ⟨rfl, _, SqL.of ep2⟩, _, rfl, .inl ⟨rfl, _, SqL.of eq2⟩, _, rfl, _, rfl, q, rest, rfl, .inl (SqL.of eq2), a, (rest.length : Int), rfl, dr3.fd, by omega, (by show (rest.length : Int).natAbs < 2 ^ 200; exact Nat.lt_of_le_of_lt (by omega : (rest.length : Int).natAbs ≤ 1000) (by decide)), fun r H4 r0 r1 d4 => ?_⟩
      have eq3 := d4.sm _ _ nqa eq2
      have ep3 := d4.sm _ _ npa ep2
      have hk : r.toNat < rest.length := by omega
      have hsi : seqIndex? r rest.length = some r.toNat := by
        unfold seqIndex?
        have e1 : ¬ r < 0 := by omega
        have e2 : (decide (0 ≤ r) && decide (r < (rest.length : Int))) = true := by rw [Bool.and_eq_true]; exact ⟨decide_eq_true r0, decide_eq_true r1⟩
        rw [if_neg e1]
        exact if_pos e2
      refine ⟨q, rest, r, r.toNat, rest[r.toNat], rfl, rfl, eq3, by omega, by omega, hsi, List.getElem?_eq_getElem hk, p, ys, _, rfl, rfl, by rw [upd_ne npq]; exact ep3, by have := sizeLine_eq; omega, ?_⟩
      obtain ⟨gx, gy, ga, gb⟩ := d4.fd
      have npq' : q ≠ p := Ne.symm npq
      refine ⟨rest.eraseIdx r.toNat, ys ++ [rest[r.toNat]], _, ?_, rfl, rfl, ?_, ?_, upd_same, ?_, ⟨gx, gy, ?_, gb⟩, fun b o nb e => ?_⟩
      · rw [List.length_eraseIdx_of_lt hk]
        omega
      · refine List.Perm.trans ?_ hperm
        rw [List.append_assoc]
        exact List.Perm.append_left _ (erase_perm _ _ hk)
      · rw [upd_ne npq']
        exact upd_same
      · rw [List.length_append, List.length_eraseIdx_of_lt hk]
        simp only [List.length_cons, List.length_nil]
        omega
      · rw [upd_ne (Ne.symm npa), upd_ne (Ne.symm nqa)]
        exact ga
      · have n1 : b ≠ p := fun z => by rw [z, hpH] at e; cases e
        have n2 : b ≠ q := fun z => by rw [z, hq] at e; cases e
        rw [upd_ne n1, upd_ne n2]
        exact d4.sm _ _ nb (dr3.sm _ _ nb e)
end
end R52
namespace R52
open PySem L2 L3
open C8 (pss_cut tCut)
section
variable {P : Program} {w : World} {K : PySem.W.Frag} {mg : Str → Option Value} {base : Heap}
theorem atN {α : Type} {xs : List α} {z : Int} {j : Nat} {v : α} (e : z = (j : Int)) (h : xs[j]? = some v) : atI xs z = some v := by
  rw [e]
  exact atI_nat h
def unstr : V → Str
  | .str t => t
  | _ => Str.empty
theorem perm_strs {ys : List V} {ts : List Str} (h : ys.Perm (ts.map V.str)) : ∃ zs : List Str, zs.Perm ts ∧ ys = zs.map V.str := by
  refine ⟨ys.map unstr, ?_, ?_⟩
  · have e : (ts.map V.str).map unstr = ts := by
      rw [List.map_map]
      exact List.map_id ts
    have q := h.map unstr
    rw [e] at q
    exact q
  · have p : ∀ y ∈ ys, V.str (unstr y) = y := fun y hy => by
      obtain ⟨t, _, rfl⟩ := List.mem_map.mp (h.mem_iff.mp hy)
      rfl
    clear h
    induction ys with
    | nil => rfl
    | cons y r ih =>
      rw [List.map_cons, List.map_cons, p y List.mem_cons_self, ← ih fun z hz => p z (List.mem_cons_of_mem _ hz)]
theorem dr_same {a : Addr} {H H1 H2 : Hp} (d : Dr a H H1) (s : Same H1 H2) : Dr a H H2 := by
  obtain ⟨⟨u, v, hu, hv⟩, sm⟩ := d
  exact ⟨⟨u, v, s _ _ hu, hv⟩, fun b o n e => s _ _ (sm b o n e)⟩
theorem dr_free {a p : Addr} {H H1 : Hp} (d : Dr a H H1) (h : H1 p = none) : H p = none := by
  cases q : H p with
  | none => rfl
  | some o =>
    obtain ⟨⟨u, v, hu, _⟩, sm⟩ := d
    rw [sm p o (fun z => by rw [z, hu] at h; cases h) q] at h
    cases h
theorem cut_strs (zs : List Str) (m : Nat) : cutV (zs.map V.str) none (some (m : Int)) = (zs.take m).map V.str := by
  unfold cutV
  rw [HT.sIx_nat, HT.sIx_none, List.drop_zero, Nat.sub_zero, List.length_map, List.map_take]
  by_cases h : m ≤ zs.length
  · rw [Nat.min_eq_left h]
  · rw [Nat.min_eq_right (by omega), List.take_of_length_le (by rw [List.length_map]; exact Nat.le_refl _), List.take_of_length_le (by rw [List.length_map]; omega)]
theorem upd_two (H : Hp) (D : Addr) (o u : HO) : upd (upd H D o) D u = upd H D u := by
  funext b
  by_cases h : b = D
  · rw [h, upd_same, upd_same]
  · rw [upd_ne h, upd_ne h, upd_ne h]
theorem feed_ne {H : Hp} {a D : Addr} (f : FeedAt H a) (h : H D = none) : D ≠ a := fun z => by
  obtain ⟨u, v, e, _⟩ := f
  rw [z, e] at h
  cases h
theorem dr_put {a D : Addr} {H H' : Hp} {o : HO} (n : D ≠ a) (h : H D = none) (d : Dr a H H') : Dr a H (upd H' D o) := by
  obtain ⟨u, v, e, hv⟩ := d.fd
  refine ⟨⟨u, v, by rw [upd_ne (Ne.symm n)]; exact e, hv⟩, fun b u nb eb => ?_⟩
  rw [upd_ne (ne_of_none eb h)]
  exact d.sm _ _ nb eb
theorem dr_refl {a : Addr} {H : Hp} (f : FeedAt H a) : Dr a H H := ⟨f, fun _ _ _ e => e⟩
theorem ifT {c : Bool} {A B : Prop} (h : c = true) (a : A) : if c = true then A else B := by rw [if_pos h]; exact a
theorem ifF {c : Bool} {A B : Prop} (h : c = false) (b : B) : if c = true then A else B := by rw [if_neg (by rw [h]; decide)]; exact b
end
end R52
namespace R52
open PySem L2 L3
open C8 (pss_cut tCut pe_gc)
abbrev sIsName : Stmt := top 5
def letters : Str := "abcdefghijklmnopqrstuvwxyz"
def digits : Str := "0123456789"
def isNameS (z : Str) : Bool := (decide (1 ≤ z.cps.toList.length) && decide (z.cps.toList.length ≤ 6)) && ((match z.cps.toList with | c :: _ => decide (c ∈ letters.cps.toList) | [] => false) && z.cps.toList.all fun c => decide (c ∈ letters.cps.toList) || decide (c ∈ digits.cps.toList))
/-- what the values' defs may be asked: a text, or what is no text by its class -/
def spIsName (K : PySem.W.Frag) : Sp := fun vs H Q _ => ∃ x : V, vs = [x] ∧ ((∃ z, x = .str z ∧ z.length ≤ 100000 ∧ ∀ H', Same H H' → Q (.bl (isNameS z)) H') ∨ (∃ t, TyX K H x t ∧ PySem.W.kitOne K t (.type "str") = some false ∧ Q (.bl false) H))
def signB (c : Nat) : Bool := decide (c ∈ letters.cps.toList) || decide (c ∈ digits.cps.toList)
theorem bl_take {l : List Nat} {i c : Nat} (h : l[i]? = some c) : ((l.take (i + 1)).map signB).map V.bl = ((l.take i).map signB).map V.bl ++ [V.bl (signB c)] := by
  rw [List.take_add_one, h, List.map_append, List.map_append]
  rfl
section
variable {P : Program} {w : World} {K : PySem.W.Frag} {mg : Str → Option Value} {base : Heap}
abbrev NN : List Str := ["value", "sign"]
theorem scNa : FnScope NN ["value"] (defScope sIsName) := ⟨rfl, rfl, rfl, by decide +kernel, rfl, by decide +kernel, by decide +kernel⟩
theorem ok_isname {f : Addr} {fd : FuncData} (F : Fun K "is_name" "is_name" sIsName f fd) (zIsi : mg "isinstance" = none) (zStr : mg "str" = none) (zLen : mg "len" = none) (zAll : mg "all" = none) (gL : ∃ u, mg "LETTERS" = some u ∧ RelV (.str letters) u) (gD : ∃ u, mg "DIGITS" = some u ∧ RelV (.str digits) u)
    (gM : ∃ u, mg "MOST_SIGNS" = some u ∧ RelV (.int 6) u) (kS : PySem.W.kitOne K (.type "str") (.type "str") = some true) : FnOk P w K mg base CX0 1 f fd ["value"] (spIsName K) := by
  refine F.ok scNa (fun vs H Q E h => ?_) (fun cdv A outer s H vs Q E hr h => ?_)
  · obtain ⟨x, rfl, _⟩ := h
    rfl
  · obtain ⟨x, rfl, h⟩ := h
    have nd := scNa.nd
    refine ⟨_, pss_cons (ps_if (PW.pt (pw_or (pt_not (pt_val (pe_callB call_isi (by rfl) zIsi PyProof.Rows.boot_isinstance (pa_cons (pv 0) (pa_cons (pe_bltn (v := .ty "str") (by rfl) zStr PyProof.Rows.boot_str rfl) pa_nil)))))
        (pw_or1 (pt_not (pt_chain op_le op_le pe_int (pe_callB call_len (by rfl) zLen PySem.boot_len (pa_cons (pv 0) pa_nil)) (pe_gc (v := .int 6) (by rfl) gM)))))) (pss_one (ps_ret pe_bl)) pss_nil)
      (pss_one (ps_ret (pe_and (pe_cmpR op_in_sign (pe_ix ix_str (pv 0) pe_int (fun _ _ => rfl)) (pe_gc (v := .str letters) (by rfl) gL) (by rfl))
        (pe_one (pe_callB (cr_all rfl) (by rfl) zAll (by decide +kernel) (pa_cons (pe_lc (own := [("sign", 1)]) (g := gName 1) (tt := tYes) rfl nd (pi_str (pv 0)) (blkOk_by (N := NN) (sc := defScope sIsName) (by decide +kernel)) (fun _ _ _ _ _ => pg_name (i := 1) nd rfl (.inl rfl)) (fun _ _ _ _ _ => pts_nil)
          (fun _ _ _ _ _ => pe_or (pe_cmpR op_in_sign (pv 1) (pe_gc (v := .str letters) (by rfl) gL) (by rfl)) (pe_one (pe_cmpR op_in_sign (pv 1) (pe_gc (v := .str digits) (by rfl) gD) (by rfl))))) pa_nil)))))), ?_⟩
    rcases h with ⟨z, rfl, hz, k⟩ | ⟨t, ty, kt, k⟩
    · have hsz : z.length ≤ sizeLine := size_ok hz
      have hl : z.cps.toList.length = z.length := Array.length_toList
      refine ⟨_, rfl, .str z, .ty "str", .type "str", .type "str", true, rfl, .ty _, .base (.str z), kS, _, rfl, ifF rfl ?_⟩
      refine ⟨_, rfl, _, _, rfl, ⟨hsz, rfl⟩, _, _, rfl, rfl, _, rfl, ?_⟩
      by_cases h1 : (1 : Int) ≤ (z.length : Int)
      · refine ifT (decide_eq_true h1) ⟨_, _, rfl, rfl, _, rfl, ?_⟩
        by_cases h6 : (z.length : Int) ≤ 6
        · refine ifF (by rw [decide_eq_true h6]; rfl) ?_
          have hpos : 0 < z.cps.toList.length := by omega
          obtain ⟨c, r, hcr⟩ : ∃ c r, z.cps.toList = c :: r := by
            cases q : z.cps.toList with
            | nil => rw [q] at hpos; cases hpos
            | cons c r => exact ⟨c, r, rfl⟩
          have hc0 : z.cps.toList[0]? = some c := by rw [hcr]; rfl
          have en : isNameS z = (decide (c ∈ letters.cps.toList) && z.cps.toList.all signB) := by
            unfold isNameS
            rw [hl, decide_eq_true (by omega : 1 ≤ z.length), decide_eq_true (by omega : z.length ≤ 6), Bool.true_and, Bool.true_and]
            rw [hcr]
            rfl
          refine ⟨_, rfl, z, 0, c, rfl, rfl, hsz, atN (j := 0) rfl hc0, _, _, rfl, rfl, _, rfl, ?_⟩
          by_cases hc : c ∈ letters.cps.toList
          · refine ifT (decide_eq_true hc) ⟨_, rfl, z, rfl, fun D hD => lc_it walk_str (fun i H' => H' = upd H D (.lst (((z.cps.toList.take i).map signB).map V.bl))) rfl (fun _ _ _ _ => True.intro) ?_ ?_⟩
            · rintro i x H7 H8 hi rfl ⟨rfl, d, hd, rfl⟩
              have hd2 : z.cps.toList[i]? = some d := by rw [Array.getElem?_toList]; exact hd
              have fin : ∀ y : V, y = V.bl (signB d) → ∃ acc, (upd H D (.lst (((z.cps.toList.take i).map signB).map V.bl))) D = some (.lst acc) ∧ acc.length < sizeLine ∧ upd (upd H D (.lst (((z.cps.toList.take i).map signB).map V.bl))) D (.lst (acc ++ [y])) = upd H D (.lst (((z.cps.toList.take (i + 1)).map signB).map V.bl)) := by
                rintro y rfl
                refine ⟨_, upd_same, ?_, by rw [upd_two, bl_take hd2]⟩
                rw [List.length_map, List.length_map, List.length_take]
                have := sizeLine_eq
                omega
              refine ⟨rfl, _, rfl, d, letters, rfl, rfl, _, rfl, ?_⟩
              by_cases hd3 : d ∈ letters.cps.toList
              · exact ifT (decide_eq_true hd3) (fin _ (by unfold signB; rw [decide_eq_true hd3, Bool.true_or]))
              · refine ifF (decide_eq_false hd3) ⟨_, rfl, d, digits, rfl, rfl, fin _ ?_⟩
                unfold signB
                rw [decide_eq_false hd3, Bool.false_or]
            · rintro H7 rfl
              have et : (z.cps.toList.take z.cps.size) = z.cps.toList := List.take_of_length_le (by rw [Array.length_toList]; exact Nat.le_refl _)
              rw [et]
              refine ⟨D, _, rfl, SqL.of upd_same, ?_⟩
              have q := k _ (same_new (o := .lst ((z.cps.toList.map signB).map V.bl)) hD)
              rw [en, decide_eq_true hc, Bool.true_and] at q
              have ea : (z.cps.toList.map signB).all id = z.cps.toList.all signB := by rw [List.all_map]; rfl
              rw [ea]
              exact q
          · refine ifF (decide_eq_false hc) ?_
            have q := k H (Same.refl H)
            rw [en, decide_eq_false hc, Bool.false_and] at q
            exact q
        · refine ifT (by rw [decide_eq_false h6]; rfl) ?_
          have e : isNameS z = false := by
            unfold isNameS
            rw [hl, decide_eq_false (by omega : ¬ z.length ≤ 6), Bool.and_false, Bool.false_and]
          have q := k H (Same.refl H)
          rw [e] at q
          exact q
      · refine ifF (decide_eq_false h1) ⟨_, rfl, ifT rfl ?_⟩
        have e : isNameS z = false := by
          unfold isNameS
          rw [hl, decide_eq_false (by omega : ¬ 1 ≤ z.length), Bool.false_and, Bool.false_and]
        have q := k H (Same.refl H)
        rw [e] at q
        exact q
    · refine ⟨_, rfl, x, .ty "str", t, .type "str", false, rfl, .ty _, ty, kt, _, rfl, ifT rfl ?_⟩
      exact ifT rfl k
end
end R52
namespace R52
open PySem L2 L3
open C8 (pss_cut tCut pe_gc)
abbrev sKind : Stmt := top 8
abbrev sIsSame : Stmt := top 9
/-- what a value's class says: whether it is a truth, a number (a truth is one), a text -/
structure Cls3 (K : PySem.W.Frag) (H : Hp) (x : V) (b i s : Bool) : Prop where
  ne : decide (x = V.non) = false
  ex : ∃ t, TyX K H x t ∧ PySem.W.kitOne K t (.type "bool") = some b ∧ PySem.W.kitOne K t (.type "int") = some i ∧ PySem.W.kitOne K t (.type "str") = some s
def kindT (b i s : Bool) : Str := if b = true then Str.ofString "truth" else if i = true then Str.ofString "number" else if s = true then Str.ofString "word" else Str.ofString ""
def spKind (K : PySem.W.Frag) : Sp := fun vs H Q _ => ∃ x : V, vs = [x] ∧ ((x = .non ∧ Q (.str (Str.ofString "none")) H) ∨ ∃ b i s, Cls3 K H x b i s ∧ Q (.str (kindT b i s)) H)
section
variable {P : Program} {w : World} {K : PySem.W.Frag} {mg : Str → Option Value} {base : Heap}
theorem scKi : FnScope ["value"] ["value"] (defScope sKind) := ⟨rfl, rfl, rfl, by decide +kernel, rfl, by decide +kernel, by decide +kernel⟩
theorem ok_kind {f : Addr} {fd : FuncData} (F : Fun K "kind_of" "kind_of" sKind f fd) (zIsi : mg "isinstance" = none) (zStr : mg "str" = none) (zBool : mg "bool" = none) (zInt : mg "int" = none) : FnOk P w K mg base CX0 1 f fd ["value"] (spKind K) := by
  refine F.ok scKi (fun vs H Q E h => ?_) (fun cdv A outer s H vs Q E hr h => ?_)
  · obtain ⟨x, rfl, _⟩ := h
    rfl
  · obtain ⟨x, rfl, h⟩ := h
    refine ⟨_, pss_cons (ps_if (pt_cmpR op_isN (pv 0) pe_non (nomark _)) (pss_one (ps_ret pe_str)) pss_nil)
      (pss_cons (ps_if (pt_val (pe_callB call_isi (by rfl) zIsi PyProof.Rows.boot_isinstance (pa_cons (pv 0) (pa_cons (pe_bltn (v := .ty "bool") (by rfl) zBool PyProof.Rows.boot_bool rfl) pa_nil)))) (pss_one (ps_ret pe_str)) pss_nil)
      (pss_cons (ps_if (pt_val (pe_callB call_isi (by rfl) zIsi PyProof.Rows.boot_isinstance (pa_cons (pv 0) (pa_cons (pe_bltn (v := .ty "int") (by rfl) zInt PyProof.Rows.boot_int rfl) pa_nil)))) (pss_one (ps_ret pe_str)) pss_nil)
      (pss_cons (ps_if (pt_val (pe_callB call_isi (by rfl) zIsi PyProof.Rows.boot_isinstance (pa_cons (pv 0) (pa_cons (pe_bltn (v := .ty "str") (by rfl) zStr PyProof.Rows.boot_str rfl) pa_nil)))) (pss_one (ps_ret pe_str)) pss_nil)
      (pss_one (ps_ret pe_str))))), ?_⟩
    rcases h with ⟨rfl, k⟩ | ⟨b, i, s, ⟨hne, t, ty, kb, ki, ks⟩, k⟩
    · exact ⟨_, rfl, rfl, _, rfl, ifT rfl k⟩
    · refine ⟨_, rfl, rfl, _, rfl, ifF hne ⟨_, rfl, x, .ty "bool", t, .type "bool", b, rfl, .ty _, ty, kb, _, rfl, ?_⟩⟩
      cases b with
      | true => exact ifT rfl k
      | false =>
        refine ifF rfl ⟨_, rfl, x, .ty "int", t, .type "int", i, rfl, .ty _, ty, ki, _, rfl, ?_⟩
        cases i with
        | true => exact ifT rfl k
        | false =>
          refine ifF rfl ⟨_, rfl, x, .ty "str", t, .type "str", s, rfl, .ty _, ty, ks, _, rfl, ?_⟩
          cases s with
          | true => exact ifT rfl k
          | false => exact ifF rfl k
end
end R52
namespace R52
open PySem L2 L3
open C8 (pss_cut tCut pe_gc)
abbrev sIsDec : Stmt := top 6
abbrev sIsCh : Stmt := top 7
def digB (c : Nat) : Bool := decide (c ∈ digits.cps.toList)
def isDecS (z : Str) (m : Int) : Bool := (decide (1 ≤ (z.length : Int)) && decide ((z.length : Int) ≤ m)) && (!(decide (V.str (⟨#[z.cps.toList.getD 0 0]⟩ : Str) = V.str (Str.ofString "0")) && decide ((z.length : Int) > 1)) && z.cps.toList.all digB)
def isChS (z : Str) : Bool := isNameS (Txt.partition z (Str.ofString ".")).1 && (decide (V.str (Txt.partition z (Str.ofString ".")).2.1 = V.str (Str.ofString "")) || isDecS (Txt.partition z (Str.ofString ".")).2.2 2)
def spIsDec : Sp := fun vs H Q _ => ∃ (z : Str) (m : Int), vs = [.str z, .int m] ∧ z.length ≤ 100000 ∧ ∀ H', Same H H' → Q (.bl (isDecS z m)) H'
def spIsCh : Sp := fun vs H Q _ => ∃ z : Str, vs = [.str z] ∧ z.length ≤ 1000 ∧ ∀ H', Same H H' → Q (.bl (isChS z)) H'
theorem dig_take {l : List Nat} {i c : Nat} (h : l[i]? = some c) : ((l.take (i + 1)).map digB).map V.bl = ((l.take i).map digB).map V.bl ++ [V.bl (digB c)] := by
  rw [List.take_add_one, h, List.map_append, List.map_append]
  rfl
section
variable {P : Program} {w : World} {K : PySem.W.Frag} {mg : Str → Option Value} {base : Heap}
abbrev ND : List Str := ["text", "most", "sign"]
theorem scDe : FnScope ND ["text", "most"] (defScope sIsDec) := ⟨rfl, rfl, rfl, by decide +kernel, rfl, by decide +kernel, by decide +kernel⟩
theorem ok_isdec {f : Addr} {fd : FuncData} (F : Fun K "is_decimal" "is_decimal" sIsDec f fd) (zLen : mg "len" = none) (zAll : mg "all" = none) (gD : ∃ u, mg "DIGITS" = some u ∧ RelV (.str digits) u) : FnOk P w K mg base CX0 1 f fd ["text", "most"] spIsDec := by
  refine F.ok scDe (fun vs H Q E h => ?_) (fun cdv A outer s H vs Q E hr h => ?_)
  · obtain ⟨z, m, rfl, _⟩ := h
    rfl
  · obtain ⟨z, m, rfl, hz, k⟩ := h
    have nd := scDe.nd
    refine ⟨_, pss_cut (ps_if (PW.pt (pw_or (pt_not (pt_chain op_le op_le pe_int (pe_callB call_len (by rfl) zLen PySem.boot_len (pa_cons (pv 0) pa_nil)) (pv 1)))
        (pw_or1 (PW.pt (pw_and (pt_cmpR op_eq (pe_ix ix_str (pv 0) pe_int (fun _ _ => rfl)) pe_str (nomark _)) (pw_and1 (pt_cmpR op_gt (pe_callB call_len (by rfl) zLen PySem.boot_len (pa_cons (pv 0) pa_nil)) pe_int (nomark _)))))))) (pss_one (ps_ret pe_bl)) pss_nil)
      (pss_one (ps_ret (pe_callB (cr_all rfl) (by rfl) zAll (by decide +kernel) (pa_cons (pe_lc (own := [("sign", 2)]) (g := gName 2) (tt := tYes) rfl nd (pi_str (pv 0)) (blkOk_by (N := ND) (sc := defScope sIsDec) (by decide +kernel)) (fun _ _ _ _ _ => pg_name (i := 2) nd rfl (.inl rfl)) (fun _ _ _ _ _ => pts_nil)
          (fun _ _ _ _ _ => pe_cmpR op_in_sign (pv 2) (pe_gc (v := .str digits) (by rfl) gD) (by rfl))) pa_nil)))), ?_⟩
    have hsz : z.length ≤ sizeLine := size_ok hz
    have hl : z.cps.toList.length = z.length := Array.length_toList
    have goF : isDecS z m = false → Q (.bl false) H := fun e => by
      have q := k H (Same.refl H)
      rw [e] at q
      exact q
    refine ⟨fun σ H' => σ = [some (.str z), some (.int m), none] ∧ H' = H ∧ isDecS z m = z.cps.toList.all digB, ?_, ?_⟩
    · refine ⟨_, rfl, _, _, rfl, ⟨hsz, rfl⟩, _, _, rfl, rfl, _, rfl, ?_⟩
      by_cases h1 : (1 : Int) ≤ (z.length : Int)
      · refine ifT (decide_eq_true h1) ⟨_, rfl, _, _, rfl, rfl, _, rfl, ?_⟩
        by_cases hm : (z.length : Int) ≤ m
        · refine ifF (by rw [decide_eq_true hm]; rfl) ?_
          have hpos : 0 < z.cps.toList.length := by omega
          have hc0 : z.cps.toList[0]? = some (z.cps.toList.getD 0 0) := by
            rw [List.getD_eq_getElem?_getD, List.getElem?_eq_getElem hpos]
            rfl
          have eq0 : isDecS z m = (!(decide (V.str (⟨#[z.cps.toList.getD 0 0]⟩ : Str) = V.str (Str.ofString "0")) && decide ((z.length : Int) > 1)) && z.cps.toList.all digB) := by
            unfold isDecS
            rw [decide_eq_true h1, decide_eq_true hm, Bool.true_and, Bool.true_and]
          refine ⟨_, rfl, z, 0, _, rfl, rfl, hsz, atN (j := 0) rfl hc0, rfl, _, rfl, ?_⟩
          by_cases h0 : V.str (⟨#[z.cps.toList.getD 0 0]⟩ : Str) = V.str (Str.ofString "0")
          · rw [decide_eq_true h0, Bool.true_and] at eq0
            refine ifT (decide_eq_true h0) ⟨_, rfl, _, _, rfl, ⟨hsz, rfl⟩, _, _, rfl, rfl, _, rfl, ?_⟩
            by_cases hg : (z.length : Int) > 1
            · rw [decide_eq_true hg] at eq0
              exact ifT (decide_eq_true hg) (goF (by rw [eq0]; rfl))
            · rw [decide_eq_false hg] at eq0
              exact ifF (decide_eq_false hg) ⟨rfl, rfl, by rw [eq0]; rfl⟩
          · rw [decide_eq_false h0, Bool.false_and] at eq0
            exact ifF (decide_eq_false h0) ⟨rfl, rfl, by rw [eq0]; rfl⟩
        · refine ifT (by rw [decide_eq_false hm]; rfl) (goF ?_)
          unfold isDecS
          rw [decide_eq_false hm, Bool.and_false, Bool.false_and]
      · refine ifF (decide_eq_false h1) ⟨_, rfl, ifT rfl (goF ?_)⟩
        unfold isDecS
        rw [decide_eq_false h1, Bool.false_and, Bool.false_and]
    · rintro σ H' ⟨rfl, rfl, e⟩
      refine ⟨_, rfl, z, rfl, fun D hD => lc_it walk_str (fun i H7 => H7 = upd H' D (.lst (((z.cps.toList.take i).map digB).map V.bl))) rfl (fun _ _ _ _ => True.intro) ?_ ?_⟩
      · rintro i x H7 H8 hi rfl ⟨rfl, d, hd, rfl⟩
        have hd2 : z.cps.toList[i]? = some d := by rw [Array.getElem?_toList]; exact hd
        refine ⟨rfl, _, rfl, d, digits, rfl, rfl, _, upd_same, ?_, by rw [upd_two, dig_take hd2]; rfl⟩
        rw [List.length_map, List.length_map, List.length_take]
        have := sizeLine_eq
        omega
      · rintro H7 rfl
        have et : (z.cps.toList.take z.cps.size) = z.cps.toList := List.take_of_length_le (by rw [Array.length_toList]; exact Nat.le_refl _)
        rw [et]
        refine ⟨D, _, rfl, SqL.of upd_same, ?_⟩
        have q := k _ (same_new (o := .lst ((z.cps.toList.map digB).map V.bl)) hD)
        rw [e] at q
        have ea : (z.cps.toList.map digB).all id = z.cps.toList.all digB := by rw [List.all_map]; rfl
        rw [ea]
        exact q
abbrev NC : List Str := ["text", "name", "point", "row"]
theorem scCh : FnScope NC ["text"] (defScope sIsCh) := ⟨rfl, rfl, rfl, by decide +kernel, rfl, by decide +kernel, by decide +kernel⟩
theorem sub_len (x : Str) (i j : Nat) : (Builtin.Str.strSub x i j).length ≤ x.length := by
  show (x.cps.extract i j).size ≤ x.cps.size
  rw [Array.size_extract]
  omega
theorem part_len (z : Str) : (Txt.partition z (Str.ofString ".")).1.length ≤ z.length ∧ (Txt.partition z (Str.ofString ".")).2.2.length ≤ z.length := by
  unfold Txt.partition
  split
  · exact ⟨sub_len _ _ _, sub_len _ _ _⟩
  · exact ⟨Nat.le_refl _, Nat.zero_le _⟩
theorem ok_isch {f fN fD : Addr} {fd fdN fdD : FuncData} (F : Fun K "is_choice_name" "is_choice_name" sIsCh f fd) (GN : FnOk P w K mg base CX0 1 fN fdN ["value"] (spIsName K)) (kN : PySem.W.keepIn K (.ref fN) = true) (bN : Binds K fdN ["value"] []) (gN : mg "is_name" = some (.ref fN))
    (GD : FnOk P w K mg base CX0 1 fD fdD ["text", "most"] spIsDec) (kD : PySem.W.keepIn K (.ref fD) = true) (bD : Binds K fdD ["text", "most"] []) (gD : mg "is_decimal" = some (.ref fD)) :
    FnOk P w K mg base CX0 2 f fd ["text"] spIsCh := by
  refine F.ok scCh (fun vs H Q E h => ?_) (fun cdv A outer s H vs Q E hr h => ?_)
  · obtain ⟨z, rfl, _⟩ := h
    rfl
  · obtain ⟨z, rfl, hz, k⟩ := h
    have nd := scCh.nd
    refine ⟨_, pss_cons (ps_asg (pe_partition (pv 0) pe_str) (pg_tup (by rfl) (pgs_cons (pg_name (i := 1) nd rfl (.inl rfl)) (pgs_cons (pg_name (i := 2) nd rfl (.inl rfl)) (pgs_cons (pg_name (i := 3) nd rfl (.inl rfl)) pgs_nil)))))
      (pss_one (ps_ret (pe_and (pe_call GN hr (by rfl) gN kN bN .nil pass0 (pa_cons (pv 1) pa_nil)) (pe_one (pe_or (pe_cmpR op_eq (pv 2) pe_str (nomark _)) (pe_one (pe_call GD hr (by rfl) gD kD bD .nil pass0 (pa_cons (pv 3) (pa_cons pe_int pa_nil))))))))), ?_⟩
    have hsz : z.length ≤ sizeLine := size_ok (by omega)
    obtain ⟨l1, l2⟩ := part_len z
    refine ⟨_, rfl, ⟨_, rfl⟩, z, _, rfl, rfl, (by decide +kernel), hsz, fun p hp => ?_⟩
    refine ⟨p, _, rfl, SqT.of upd_same, rfl, _, _, rfl, _, _, rfl, _, _, rfl, rfl, ?_⟩
    have s1 := same_new (o := .tup [.str (Txt.partition z (Str.ofString ".")).1, .str (Txt.partition z (Str.ofString ".")).2.1, .str (Txt.partition z (Str.ofString ".")).2.2]) hp
    have ez : isChS z = (isNameS (Txt.partition z (Str.ofString ".")).1 && (decide (V.str (Txt.partition z (Str.ofString ".")).2.1 = V.str (Str.ofString "")) || isDecS (Txt.partition z (Str.ofString ".")).2.2 2)) := rfl
    refine ⟨_, rfl, _, rfl, .inl ⟨_, rfl, by omega, fun H2 s2 => ⟨_, rfl, ?_⟩⟩⟩
    cases e1 : isNameS (Txt.partition z (Str.ofString ".")).1 with
    | false =>
      rw [e1] at ez
      refine ifF rfl ?_
      have q := k H2 (s1.trans s2)
      rw [ez] at q
      exact q
    | true =>
      rw [e1, Bool.true_and] at ez
      refine ifT rfl ⟨_, rfl, rfl, _, rfl, ?_⟩
      by_cases e2 : V.str (Txt.partition z (Str.ofString ".")).2.1 = V.str (Str.ofString "")
      · rw [decide_eq_true e2, Bool.true_or] at ez
        refine ifT (decide_eq_true e2) ?_
        have q := k H2 (s1.trans s2)
        rw [ez] at q
        exact q
      · rw [decide_eq_false e2, Bool.false_or] at ez
        refine ifF (decide_eq_false e2) ⟨_, rfl, _, 2, rfl, by omega, fun H3 s3 => ?_⟩
        have q := k H3 ((s1.trans s2).trans s3)
        rw [ez] at q
        exact q
end
end R52
namespace L3
open PySem PySem.Spec PyProof.Rows L2
section
variable {X : Cx} {CX : CXT} {n : Nat} {f C : Addr} {fd : FuncData} {ps : List Str} {sp : Sp} {E : XK} {ES : L2.St → XK} {pins : List (Addr × Obj)} {σ : L2.St}
theorem room1 {A : Around} (h : Room (n + 1) A) : Room n A.in1 :=
  ⟨h.hd, by have := h.dp; show A.depth + 3 * n + 5 < _; omega, by have := h.un; show A.units + 1 + 16 * n + 200 < _; omega⟩
/-- the callee runs, a few levels below the body; what is raised goes by the slots -/
theorem run_fnAS {A : Around} {s : Shared} {H : Hp} {Q : VK} {us : List Value} {vs : List V} (F : FnOk X.prog X.w X.K X.mg X.base CX n f fd ps sp) (hr : Room n A) (hfr : A.frames = X.A.frames) (hb : Binds X.K fd ps []) (hx : PassesAt CX X σ E)
    (I : Inv X pins σ H s) (r : Vals vs us) (h : sp vs H Q E) : wpAny (model X.prog X.w) A (call (.ref f) us) (EP X pins σ Q) X.xe s := by
  have e0 : Env0 X.prog X.w X.K X.mg X.base A X.stack s H := by
    have e := I.env0
    exact ⟨hfr.trans e.frames, e.mod, e.bs, e.bsz, e.funs, e.frf, e.hok, e.bare⟩
  have hl : us.length = ps.length := r.length.symm.trans (F.len _ _ _ _ h)
  have bb := hb s us I.kIn (by simpa using hl)
  rw [List.append_nil] at bb
  refine wpAny_call (codeAny_mono (F.run A X.stack s H ⟨us, []⟩ us vs Q E hr e0 bb r h) fun res s' hq => ?_)
  match res, hq with
  | .error e, hq => exact hx pins H s e s' I hq
  | .ok (.ret w), hq => exact I.after hq
  | .ok .next, hq => exact False.elim hq
  | .ok .brk, hq => exact False.elim hq
  | .ok .cont, hq => exact False.elim hq
def rOwnIn (C : Addr) (sp : Sp) (E : XK) (neg : Bool) : R2 := fun x y H Q => ∃ a dx fs, y = .ref a ∧ H a = some (.ins C dx fs) ∧ sp [y, x] H (fun v H' => ∃ b : Bool, v = .bl b ∧ Q (.bl (if neg = true then !b else b)) H') E
theorem op_ownNotIn (F : FnOk X.prog X.w X.K X.mg X.base CX n f fd ps sp) (hr : Room n X.A) (hb : Binds X.K fd ps []) (hx : Passes CX X E)
    (hs : PySem.W.findIn X.K (.ref C) "__contains__" = some (some (.ref f))) (hf : PySem.W.isFn X.K (.ref f) = true) : OpR X (compareOp .NotIn) (rOwnIn C sp E true) := by
  intro pins s σ H x y v u Q I rx ry h
  obtain ⟨a, dx, fs, rfl, ha, hq⟩ := h
  cases (show u = Value.ref a from ry)
  obtain ⟨mA, J, _⟩ := ins_get I.hok ha
  obtain ⟨od, J, _⟩ := J.look
  obtain ⟨m, hF⟩ := I.fr
  refine PySem.W.notIn_K hF I.ok.mod.kin J hs hf ?_
  refine wpAny_mono (run_fnA (us := [.ref a, v]) (vs := [.ref a, x]) F hr rfl hb hx I (.cons rfl (.cons rx .nil)) hq) (fun r s' hv => ?_) fun _ _ e => e
  obtain ⟨z, H', I', rz, b, rfl, q⟩ := hv
  cases (show r = Value.bool b from rz)
  exact wpAny_truthy_bool ⟨.bl (!b), H', I', rfl, q⟩
theorem call_lenOwn (F : FnOk X.prog X.w X.K X.mg X.base CX n f fd ps sp) (hr : Room (n + 1) X.A) (hb : Binds X.K fd ps []) (hx : Passes CX X E)
    (hs : PySem.W.findIn X.K (.ref C) "__len__" = some (some (.ref f))) (hf : PySem.W.isFn X.K (.ref f) = true) :
    CallR X (.builtin "len") (fun xs H Q => ∃ a dx fs, xs = [.ref a] ∧ H a = some (.ins C dx fs) ∧ sp [.ref a] H (fun v H' => ∃ i : Int, v = .int i ∧ 0 ≤ i ∧ i < 2 ^ 63 ∧ Q (.int i) H') E) := by
  intro pins s σ H xs us Q I r h
  obtain ⟨a, dx, fs, rfl, ha, hq⟩ := h
  obtain ⟨u, rfl, rx⟩ := vals1 r
  cases (show u = Value.ref a from rx)
  obtain ⟨mA, J, _⟩ := ins_get I.hok ha
  obtain ⟨od, J, _⟩ := J.look
  obtain ⟨m, hF⟩ := I.fr
  refine PySem.W.len_K hF I.ok.mod.kin J hs hf ?_
  refine wpAny_mono (run_fnA (us := [.ref a]) (vs := [.ref a]) F (room1 hr) rfl hb hx I (.cons rfl .nil) hq) (fun r s' hv => ?_) fun _ _ e => e
  obtain ⟨z, H', I', rz, i, rfl, h0, h1, q⟩ := hv
  obtain ⟨t, rfl⟩ := (show ∃ t, r = Value.int i t from rz)
  exact ⟨⟨h0, h1⟩, ⟨.int i, H', I'.tok _, ⟨_, rfl⟩, q⟩⟩
/-- o[i], o an own instance, within a try -/
def tIxOwn (C : Addr) (sp : Sp) (ES : L2.St → XK) (ta tb : TE) : TE := fun σ H Q => ta σ H fun x H1 => tb σ H1 fun y H2 => ∃ a dx fs, x = .ref a ∧ H2 a = some (.ins C dx fs) ∧ sp [x, y] H2 Q (ES σ)
theorem pe_ixOwn {a b : Expr} {ta tb : TE} {pos : Pos} (F : FnOk X.prog X.w X.K X.mg X.base CX n f fd ps sp) (hr : Room (n + 1) X.A) (hb : Binds X.K fd ps []) (hx : ∀ σ, PassesAt CX X σ (ES σ))
    (hs : PySem.W.findIn X.K (.ref C) "__getitem__" = some (some (.ref f))) (hfi : PySem.W.fnIn X.K f = true) (hf : PySem.W.isFn X.K (.ref f) = true) (ha : PE X a ta) (hb2 : PE X b tb)
    (hsl : ∀ x i, subscripted b true (.ref x) i = runValue (.builtin "lifetime.subscript" ⟨[.ref x, i], []⟩) := by intro _ _; with_unfolding_all rfl) : PE X (.Subscript a b pos) (tIxOwn C sp ES ta tb) := by
  refine ⟨fun pins s σ H Q I h => ?_⟩
  refine Subscript_ (binT (R := fun x y H2 => ∃ a dx fs, x = .ref a ∧ H2 a = some (.ins C dx fs) ∧ sp [x, y] H2 Q (ES σ)) ha hb2 I h fun v u s2 x y H2 I2 rx ry q => ?_)
  obtain ⟨o, dx, fs, rfl, ho, hq⟩ := q
  cases (show v = Value.ref o from rx)
  obtain ⟨mA, J, _⟩ := ins_get I2.hok ho
  obtain ⟨od, J, _⟩ := J.look
  obtain ⟨m, hF⟩ := I2.fr
  exact PySem.W.sub_K hF I2.ok.mod.kin J hs hfi hf (run_fnAS (us := [.ref o, u]) (vs := [.ref o, y]) F (room1 hr) rfl hb (hx σ) I2 (.cons rfl (.cons ry .nil)) hq) (hsl _ _)
end
end L3
namespace L3
open PySem PySem.Spec PyProof.Rows L2
structure ErrF (P : Program) (K : PySem.W.Frag) (mg : Str → Option Value) (C fI : Addr) (nm : Str) (fs : List Str) : Prop where
  g : mg nm = some (.ref C)
  J : ∀ w, InitOk P w K mg C fI fs
  V : ∃ (B newId initId : String) (bmB bm : List Value), ExcBaseFacts B newId initId bmB ∧ Above B bm ∧ ∃ nm q N bs hdct sn sub ab col dd k0 k1 k2 k3 k5, K.lookup C = some (excClassObj nm q C N bs bm hdct sn sub ab col dd k0 k1 k2 k3 k5 newId)
  kC : PySem.W.keepIn K (.ref C) = true
  iC : PySem.W.findIn K (.ref C) "__init__" = some (some (.ref fI))
  tI : PySem.W.typeIn K (.ref fI) = some (.type "function")
  ex : ExcC K C
  xf : XfC K C
  no : ∀ f ∈ fs, PySem.W.findIn K (.ref C) f = some none
section
variable {X : Cx} {C fI : Addr} {nm : Str} {fs : List Str} {e : Expr} {es : List Expr} {ta : TA} {p pos : Pos}
theorem pmk_err (T : ErrF X.prog X.K X.mg C fI nm fs) (tyC : PySem.W.typeIn X.K (.ref C) = some (.type "type")) (hr : Room 1 X.A) (hg : Gl X nm) (ha : PA X (e :: es) ta) (hdb : (nm == ("__debug__" : Str)) = false := by decide) (he : starEach (e :: es) X.env = (false, eval e X.env) :: starEach es X.env := by rfl) (hpl : (backTo pos (starEach es X.env)).any (·.1) = false := by rfl) :
    PMk X (.Call (.Name nm p) (e :: es) [] pos) (tSup C fs ta) := by
  obtain ⟨B, newId, initId, bmB, bm, F, A, V⟩ := T.V
  exact pmk_sup (T.J X.w) F A V T.kC T.iC T.tI T.ex.hs tyC hr hg T.g ha hdb he hpl
end
end L3
namespace L3
open PySem PySem.Spec PyProof.Rows L2
/-- a tuple, known to have no dict -/
def TupF (H : Hp) (a : Addr) (xs : List V) : Prop := ∃ ob : Obj, ob.dict = none ∧ H a = some (.frz ob (.tup xs))
theorem TupF.sq {K : PySem.W.Frag} {H : Hp} {a : Addr} {xs : List V} (h : TupF H a xs) : SqT K H a xs := by
  obtain ⟨ob, _, e⟩ := h
  exact .inl (.inr ⟨ob, e⟩)
theorem TupF.some {H : Hp} {a : Addr} {xs : List V} (h : TupF H a xs) : ∃ o, H a = some o := by
  obtain ⟨ob, _, e⟩ := h
  exact ⟨_, e⟩
theorem TupF.same {H H' : Hp} {a : Addr} {xs : List V} (s : Same H H') (h : TupF H a xs) : TupF H' a xs := by
  obtain ⟨ob, z, e⟩ := h
  exact ⟨ob, z, s _ _ e⟩
def rFresh (xs : List V) (H : Hp) (Q : VK) : Prop := ∀ (p : Addr) (ob : Obj), ob.dict = none → H p = none → Q (.ref p) (upd H p (.frz ob (.tup xs)))
section
variable {X : Cx} {es : List Expr} {e : Expr} {t : TA} {te : TE}
def tTupF (t : TA) : TE := fun σ H Q => t σ H fun xs H1 => xs.length ≤ sizeLine ∧ rFresh xs H1 Q
theorem pe_tupF {x1} (h : PA X es t) : PE X (.Tuple es x1 pos) (tTupF t) := by
  refine ⟨fun pins s σ H Q I hq => wpAny_Tuple_spliced (thn (h.run pos pins s σ H _ I hq) fun us s1 ⟨xs, H1, I1, r, z, q⟩ => ⟨by rw [← r.length]; exact z, ?_⟩)⟩
  have g : (s1.heap.push { cls := .type "tuple", data := .seq us.toArray }).get? s1.heap.objs.size = some { cls := .type "tuple", data := .seq us.toArray } := Heap.get?_push_size _ rfl
  refine ⟨.ref s1.heap.objs.size, upd H1 s1.heap.objs.size (.frz { cls := .type "tuple", data := .seq us.toArray } (.tup xs)), I1.laid (t' := s1.toks) (fun b u e => Heap.get?_push_of_some _ e) (Nat.le_refl _) ?_, rfl, q _ _ rfl (I1.hok.fresh (Nat.le_refl _))⟩
  exact ⟨g, z, us, r, IsTup.new _ _⟩
/-- tuple(x), x a list -/
def tTupOfF (K : PySem.W.Frag) (te : TE) : TE := fun σ H Q => te σ H fun x H1 => ∃ p xs, x = .ref p ∧ SqL K H1 p xs ∧ rFresh xs H1 Q
theorem pe_tupOfF {p pos : Pos} (hg : Gl X "tuple") (hm : X.mg "tuple" = none) (ha : PE X e te) (na : starEach [e] X.env = (false, eval e X.env) :: starEach [] X.env := by rfl) : PE X (.Call (.Name "tuple" p) [e] [] pos) (tTupOfF X.K te) := by
  refine ⟨fun pins s σ H Q I h => ?_⟩
  refine Call_ (ld_blt I hg hm boot_tuple (PyProof.Rows.callWith_type1 (one_arg ha I h (fun v s2 x H2 I2 r q => ?_) na) na))
  obtain ⟨p, xs, rfl, hs, q⟩ := q
  obtain rfl : v = .ref p := r
  obtain ⟨its, rv, pl, hz⟩ := I2.list hs
  refine call_tuple_list (pl.isList) (fun h' hk => ?_) (by rw [List.size_toArray, ← rv.length]; exact hz)
  have I1 : Inv X pins σ H2 { s2 with heap := h' } := I2.kept (t' := s2.toks) hk
  have g : (h'.push { cls := .type "tuple", data := .seq its.toArray }).get? h'.objs.size = some { cls := .type "tuple", data := .seq its.toArray } := Heap.get?_push_size _ rfl
  have I3 : Inv X pins σ (upd H2 h'.objs.size (.frz { cls := .type "tuple", data := .seq its.toArray } (.tup xs))) { s2 with heap := h'.push { cls := .type "tuple", data := .seq its.toArray } } :=
    I1.laid (t' := s2.toks) (fun b o e => Heap.get?_push_of_some _ e) (Nat.le_refl _) ⟨g, hz, its, rv, IsTup.new _ _⟩
  exact ⟨.ref h'.objs.size, _, I3, rfl, q _ _ rfl (I1.hok.fresh (Nat.le_refl _))⟩
/-- t.m(e, ..), t such a tuple -/
def tTM (r : V → List V → Hp → VK → Prop) (to : TE) (t : TA) : TE := fun σ H Q => to σ H fun x H1 => ∃ p ys, x = .ref p ∧ TupF H1 p ys ∧ t σ H1 fun xs H2 => r x xs H2 Q
theorem pe_tm {o : Expr} {to : TE} {name : Str} {apos cpos : Pos} {id : String} {r : V → List V → Hp → VK → Prop} (slot : Slot "tuple" name id) (hty : typeOf (.builtin id) = pure (.type "method_descriptor")) (hm : MtR X id r) (ho : PE X o to) (ha : PA X (e :: es) t)
    (hbase : attributeBase o name X.env (eval o X.env) = eval o X.env := by rfl) (hfew : ((backTo cpos (starEach (e :: es) X.env)).all (fun x => !x.1) && (backToKw cpos (keywordEach [] X.env)).all (fun x => x.1.isSome) && decide ((e :: es).length + ([] : List Keyword).length + (if ([] : List Keyword).isEmpty then 0 else 1) < 30)) = true := by rfl)
    (hline : (apos.endLine == cpos.line) = true := by rfl) (hs : starEach (e :: es) X.env = (false, eval e X.env) :: starEach es X.env := by rfl) (hplain : (backTo cpos (starEach es X.env)).any (·.1) = false := by rfl) :
    PE X (.Call (.Attribute o name apos) (e :: es) [] cpos) (tTM r to t) := by
  refine ⟨fun pins s σ H Q I h => ?_⟩
  refine wpAny_Call_method_late hbase hfew hline rfl (thn (ho.run pins s σ H _ I h) fun v s1 ⟨x, H1, I1, r1, p, ys, ex, ⟨ob, hd, tf⟩, q1⟩ => ?_)
  subst ex
  cases (show v = Value.ref p from r1)
  obtain ⟨g, _, its, _, oo, h1, h2, _⟩ := (show ObjOk X.prog X.w H1 s1.heap p (.frz ob (.tup ys)) from I1.hok p _ tf)
  refine ⟨"tuple", id, PySem.F.plainAttrs_tuple, slot, hty, ⟨oo, h1, h2⟩, fun a z => ?_, ?_⟩
  · cases z
    exact ⟨ob, g, hd⟩
  have hA := ha.run cpos pins s1 σ H1 _ I1 q1
  rw [hs] at hA ⊢
  refine Calls.callWith_builtin (show (false || (backTo cpos (starEach es X.env)).any (·.1)) = false from by rw [hplain]; rfl) (Calls.evalArgs_plain (thn hA ?_))
  exact fun us s2 ⟨vs, H2, I2, r2, q2⟩ => hm pins s2 σ H2 _ vs _ us Q I2 r1 r2 q2
end
end L3
namespace R52
open PySem L2 L3
open C8 (pss_cut tCut pe_gc)
abbrev sInit : Stmt := inClass (top 42) 0
abbrev sPut : Stmt := inClass (top 42) 1
abbrev sWithout : Stmt := inClass (top 42) 2
abbrev sGet : Stmt := inClass (top 42) 3
abbrev sHas : Stmt := inClass (top 42) 5
abbrev sLen : Stmt := inClass (top 42) 6
abbrev sEq : Stmt := inClass (top 42) 8
structure Txt (P : Program) (K : PySem.W.Frag) (mg : Str → Option Value) (C CI CT CU fi ft fu : Addr) : Prop where
  cl : Cls K C
  nN : NoAttr K C "names"
  nC : NoAttr K C "_choices"
  nX : NoAttr K C "_next"
  gC : mg "Choices" = some (.ref C)
  eI : ErrF P K mg CI fi "InvalidName" ["name"]
  eT : ErrF P K mg CT ft "Taken" ["name"]
  eU : ErrF P K mg CU fu "UnknownName" ["name"]
  tI : PySem.W.typeIn K (.ref CI) = some (.type "type")
  tT : PySem.W.typeIn K (.ref CT) = some (.type "type")
  tU : PySem.W.typeIn K (.ref CU) = some (.type "type")
abbrev Row := Str × Int × Int
abbrev flds (tn td : Addr) (nx : Int) : List (Str × V) := [("names", .ref tn), ("_choices", .ref td), ("_next", .int nx)]
def kvE (es : List (Row × Addr)) : List (Key × V) := es.map fun e => (.inr e.1.1, .ref e.2)
structure ChP (H : Hp) (es : List (Row × Addr)) (tn td : Addr) : Prop where
  tn : TupF H tn (es.map fun e => V.str e.1.1)
  td : H td = some (.dK (kvE es))
  at_ : ∀ e ∈ es, H e.2 = some (.tup [.int e.1.2.1, .int e.1.2.2])
  nd : (es.map fun e => e.1.1).Nodup
  le : es.length ≤ 100
def ChAt (C : Addr) (H : Hp) (c : Addr) (es : List (Row × Addr)) (nx : Int) : Prop := ∃ dx tn td, H c = some (.ins C dx (flds tn td nx)) ∧ ChP H es tn td
theorem ChP.same {H H' : Hp} {es : List (Row × Addr)} {tn td : Addr} (s : Same H H') (h : ChP H es tn td) : ChP H' es tn td :=
  ⟨h.tn.same s, s _ _ h.td, fun e m => s _ _ (h.at_ e m), h.nd, h.le⟩
theorem ChAt.same {C c : Addr} {H H' : Hp} {es : List (Row × Addr)} {nx : Int} (s : Same H H') (h : ChAt C H c es nx) : ChAt C H' c es nx := by
  obtain ⟨dx, tn, td, hc, p⟩ := h
  exact ⟨dx, tn, td, s _ _ hc, p.same s⟩
theorem valV_kvE (z : Str) : ∀ es : List (Row × Addr), (es.map fun e => e.1.1).Nodup → (∀ e, e ∈ es → e.1.1 = z → valV (kvE es) (.inr z) = some (.ref e.2)) ∧ ((∀ e ∈ es, e.1.1 ≠ z) → valV (kvE es) (.inr z) = none)
  | [], _ => ⟨fun e m => (nomatch m), fun _ => rfl⟩
  | a :: es, nd => by
    rw [List.map_cons] at nd
    obtain ⟨n1, n2⟩ := List.nodup_cons.mp nd
    obtain ⟨i1, i2⟩ := valV_kvE z es n2
    refine ⟨fun e m h => ?_, fun h => ?_⟩
    · rcases List.mem_cons.mp m with rfl | m
      · exact valV_pos (p := (Sum.inr e.1.1, V.ref e.2)) (congrArg Sum.inr h)
      · have ne : ¬ ((Sum.inr a.1.1 : Key) = Sum.inr z) := fun q => n1 (List.mem_map.mpr ⟨e, m, h.trans (Sum.inr.inj q).symm⟩)
        exact (valV_neg (p := ((Sum.inr a.1.1 : Key), V.ref a.2)) (r := kvE es) ne).trans (i1 e m h)
    · have ne : ¬ ((Sum.inr a.1.1 : Key) = Sum.inr z) := fun q => h a List.mem_cons_self (Sum.inr.inj q)
      exact (valV_neg (p := ((Sum.inr a.1.1 : Key), V.ref a.2)) (r := kvE es) ne).trans (i2 fun e m => h e (List.mem_cons_of_mem _ m))
def hasB (z : Str) (es : List (Row × Addr)) : Bool := es.any fun e => decide (e.1.1 = z)
theorem hasB_some {z : Str} {es : List (Row × Addr)} (h : hasB z es = true) : ∃ e ∈ es, e.1.1 = z := by
  obtain ⟨e, m, q⟩ := List.any_eq_true.mp h
  exact ⟨e, m, of_decide_eq_true q⟩
theorem hasB_none {z : Str} {es : List (Row × Addr)} (h : hasB z es = false) : ∀ e ∈ es, e.1.1 ≠ z := fun e m q => by
  have : hasB z es = true := List.any_eq_true.mpr ⟨e, m, decide_eq_true q⟩
  rw [h] at this
  cases this
theorem isSome_kvE {z : Str} {es : List (Row × Addr)} (nd : (es.map fun e => e.1.1).Nodup) : (valV (kvE es) (.inr z)).isSome = hasB z es := by
  obtain ⟨i1, i2⟩ := valV_kvE z es nd
  cases h : hasB z es with
  | true =>
    obtain ⟨e, m, q⟩ := hasB_some h
    rw [i1 e m q]
    rfl
  | false =>
    rw [i2 (hasB_none h)]
    rfl
section
variable {P : Program} {w : World} {K : PySem.W.Frag} {mg : Str → Option Value} {base : Heap} {C CI CT CU fi ft fu : Addr}
def spInit (C : Addr) : Sp := fun vs H Q _ => ∃ (p dx : Addr), vs = [.ref p] ∧ H p = some (.ins C dx []) ∧ ∀ (H' : Hp) (tn td : Addr), (∀ b o, b ≠ p → H b = some o → H' b = some o) → H' p = some (.ins C dx (flds tn td 0)) → ChP H' [] tn td → H tn = none → H td = none → Q .non H'
theorem scI : FnScope ["self"] ["self"] (defScope sInit) := ⟨rfl, rfl, rfl, by decide +kernel, rfl, by decide +kernel, by decide +kernel⟩
theorem ok_init {f : Addr} {fd : FuncData} (F : Fun K "__init__" "Choices.__init__" sInit f fd) (T : Txt P K mg C CI CT CU fi ft fu) : FnOk P w K mg base CX0 1 f fd ["self"] (spInit C) := by
  refine F.ok scI (fun vs H Q E h => ?_) (fun cdv A outer s H vs Q E hr h => ?_)
  · obtain ⟨p, dx, rfl, _⟩ := h
    rfl
  · obtain ⟨p, dx, rfl, hp, k⟩ := h
    refine ⟨_, pss_cons (ps_fld (pv 0) (pe_tupF pa_nil) rfl) (pss_cons (ps_fld (pv 0) pe_dnewK rfl) (pss_one (ps_fld (pv 0) pe_int rfl))), ?_⟩
    refine ⟨(by show 0 ≤ sizeLine; decide), fun tn ob hob htn => ⟨_, rfl, p, C, dx, [], rfl, (upd_ne (ne_of_none hp htn)).trans hp, T.cl, T.nN, (by show 0 < 1000; decide), fun td htd => ?_⟩⟩
    have ntp : tn ≠ p := (ne_of_none hp htn).symm
    have e1 : (upd (upd H tn (.frz ob (.tup []))) p (.ins C dx (putF "names" (.ref tn) []))) p = some (.ins C dx (putF "names" (.ref tn) [])) := upd_same
    have etn : (upd (upd H tn (.frz ob (.tup []))) p (.ins C dx (putF "names" (.ref tn) []))) tn = some (.frz ob (.tup [])) := by rw [upd_ne ntp]; exact upd_same
    have ndp : td ≠ p := (ne_of_none e1 htd).symm
    have ndt : td ≠ tn := (ne_of_none etn htd).symm
    refine ⟨_, rfl, p, C, dx, _, rfl, (upd_ne (Ne.symm ndp)).trans e1, T.cl, T.nC, (by show 1 < 1000; decide), ?_⟩
    refine ⟨_, rfl, p, C, dx, _, rfl, upd_same, T.cl, T.nX, (by show 2 < 1000; decide), ?_⟩
    have hd0 : H td = none := by
      rw [upd_ne ndp, upd_ne ndt] at htd
      exact htd
    refine k _ tn td (fun b o nb e => ?_) (by rw [upd_same]; rfl) ⟨?_, ?_, fun e m => (nomatch m), .nil, by decide⟩ htn hd0
    · rw [upd_ne nb, upd_ne nb, upd_ne (ne_of_none e hd0), upd_ne nb, upd_ne (ne_of_none e htn)]
      exact e
    · refine ⟨ob, hob, ?_⟩
      rw [upd_ne ntp, upd_ne ntp, upd_ne (Ne.symm ndt)]
      exact etn
    · rw [upd_ne ndp, upd_ne ndp]
      exact upd_same
end
end R52
namespace R52
open PySem L2 L3
open C8 (pss_cut tCut pe_gc)
/-- the error, newly made -/
def ErrNew (H H' : Hp) (d : Addr) (z : Str) : Prop := Same H H' ∧ H d = none ∧ H' d = some (.xd [("name", .str z)])
theorem same_off {H H' : Hp} (s : Same H H') {p : Addr} {o : HO} (h : H p = none) : Same H (upd H' p o) := fun b u e => by
  rw [upd_ne (ne_of_none e h)]
  exact s b u e
theorem nodup_snoc {es : List (Row × Addr)} {z : Str} (nd : (es.map fun e => e.1.1).Nodup) (h : hasB z es = false) {m n : Int} {p : Addr} : ((es ++ [((z, m, n), p)]).map fun e => e.1.1).Nodup := by
  rw [List.map_append]
  refine List.nodup_append.mpr ⟨nd, by simp, fun u hu v hv => ?_⟩
  simp only [List.map_cons, List.map_nil, List.mem_singleton] at hv
  subst hv
  obtain ⟨e, me, rfl⟩ := List.mem_map.mp hu
  exact hasB_none h e me
section
variable {P : Program} {w : World} {K : PySem.W.Frag} {mg : Str → Option Value} {base : Heap} {C CI CT CU fi ft fu : Addr}
def spPut (C CI CT : Addr) : Sp := fun vs H Q E => ∃ (c : Addr) (z : Str) (m nx : Int) (es : List (Row × Addr)), vs = [.ref c, .str z, .int m] ∧ ChAt C H c es nx ∧ z.length ≤ 1000 ∧ es.length < 100 ∧
  (isChS z = false → ∀ d H', ErrNew H H' d z → E (.ref CI) (some d) H') ∧ (isChS z = true → hasB z es = true → ∀ d H', ErrNew H H' d z → E (.ref CT) (some d) H') ∧
  (isChS z = true → hasB z es = false → ∀ c' p H', Same H H' → H c' = none → ChAt C H' c' (es ++ [((z, m, nx), p)]) (nx + 1) → Q (.ref c') H')
abbrev NP : List Str := ["self", "name", "many", "made"]
theorem scP : FnScope NP ["self", "name", "many"] (defScope sPut) := ⟨rfl, rfl, rfl, by decide +kernel, rfl, by decide +kernel, by decide +kernel⟩
theorem lk_names {tn td : Addr} {nx : Int} : (flds tn td nx).lookup ("names" : Str) = some (V.ref tn) := rfl
theorem lk_ch {tn td : Addr} {nx : Int} : (flds tn td nx).lookup ("_choices" : Str) = some (V.ref td) := rfl
theorem lk_next {tn td : Addr} {nx : Int} : (flds tn td nx).lookup ("_next" : Str) = some (V.int nx) := rfl
theorem pf_names {tn td t : Addr} {nx : Int} : putF "names" (.ref t) (flds tn td nx) = flds t td nx := rfl
theorem pf_ch {tn td t : Addr} {nx : Int} : putF "_choices" (.ref t) (flds tn td nx) = flds tn t nx := rfl
theorem pf_next {tn td : Addr} {nx n : Int} : putF "_next" (.int n) (flds tn td nx) = flds tn td n := rfl
theorem ok_put {f f0 fC : Addr} {fd fd0 fdC : FuncData} (F : Fun K "put" "Choices.put" sPut f fd) (T : Txt P K mg C CI CT CU fi ft fu) (M : Mk K C f0) (F0 : Fun K "__init__" "Choices.__init__" sInit f0 fd0) (b0 : Binds K fd0 ["self"] [])
    (GC : FnOk P w K mg base CX0 2 fC fdC ["text"] spIsCh) (kC : PySem.W.keepIn K (.ref fC) = true) (bC : Binds K fdC ["text"] []) (gC : mg "is_choice_name" = some (.ref fC)) :
    FnOk P w K mg base (L2.CX P w) 3 f fd ["self", "name", "many"] (spPut C CI CT) := by
  have GI : FnOk P w K mg base CX0 1 f0 fd0 ["self"] (spInit C) := ok_init F0 T
  refine F.okX scP (fun vs H Q E h => ?_) (fun cdv A outer s H vs Q E hr h => ?_)
  · obtain ⟨c, z, m, nx, es, rfl, _⟩ := h
    rfl
  · obtain ⟨c, z, m, nx, es, rfl, hc, hz, hl, kI, kT, k⟩ := h
    have nd := scP.nd
    have hu := hu_of hr
    have R1 : Room 1 _ := hr.mono (by decide)
    have R2 : Room 2 _ := hr.mono (by decide)
    refine ⟨_, pss_cons (ps_if (pt_not (pt_val (pe_call GC R2 (by rfl) gC kC bC .nil pass0 (pa_cons (pv 1) pa_nil)))) (pss_one (ps_raise rfl (takes_of rfl rfl rfl rfl) (pmk_err T.eI T.tI R1 (by exact rfl) (pa_cons (pv 1) pa_nil)))) pss_nil)
      (pss_cons (ps_if (pt_cmp (pc_din hu (pv 1) (pe_fld (pv 0) rfl))) (pss_one (ps_raise rfl (takes_of rfl rfl rfl rfl) (pmk_err T.eT T.tT R1 (by exact rfl) (pa_cons (pv 1) pa_nil)))) pss_nil)
      (PSs.nox (pss_cons (ps_set (i := 3) nd rfl (.inl rfl) (pe_make0 M GI R2 (by rfl) T.gC b0 .nil pass0))
      (pss_cons (ps_fld (pv 3) (pe_tupF (StX.pa_star (pe_fld (pv 0) rfl) (pa_cons (pv 1) pa_nil))) rfl)
      (pss_cons (ps_fld (pv 3) (pe_dst (pe_fld (pv 0) rfl) (pv 1) (pe_tup (pa_cons (pv 2) (pa_cons (pe_fld (pv 0) rfl) pa_nil)))) rfl)
      (pss_cons (ps_fld (pv 3) (pe_op op_add (pe_fld (pv 0) rfl) pe_int) rfl)
      (pss_one (ps_ret (pv 3))))))))), ?_⟩
    obtain ⟨dx, tn, td, hcc, cp⟩ := hc
    refine ⟨_, rfl, z, rfl, hz, fun H1 s1 => ⟨_, rfl, ?_⟩⟩
    have cp1 := cp.same s1
    have hc1 := s1 _ _ hcc
    cases e : isChS z with
    | false => exact ifT rfl ⟨_, rfl, rfl, (by show 1 ≤ 900; decide), fun d hd => kI e d _ ⟨s1.trans (same_new hd), s1.free hd, upd_same⟩⟩
    | true =>
      refine ifF rfl ⟨_, rfl, _, rfl, c, C, dx, _, _, rfl, hc1, T.cl, T.nC, lk_ch, td, _, rfl, DGet.k (k := .inr z) cp1.td, _, rfl, ?_⟩
      rw [isSome_kvE cp.nd]
      cases e2 : hasB z es with
      | true => exact ifT rfl ⟨_, rfl, rfl, (by show 1 ≤ 900; decide), fun d hd => kT e e2 d _ ⟨s1.trans (same_new hd), s1.free hd, upd_same⟩⟩
      | false =>
        refine ifF rfl fun x dx2 hx hdx ne => ⟨x, dx2, rfl, upd_same, fun H2 tn2 td2 keep ex cp2 h1 h2 => ⟨rfl, ?_⟩⟩
        have s2 : Same H1 H2 := fun b o eb => keep b o (ne_of_none eb hx) (by rw [upd_ne (ne_of_none eb hx), upd_ne (ne_of_none eb hdx)]; exact eb)
        have lsz := sizeLine_eq
        have hle := cp.le
        refine ⟨_, rfl, c, C, dx, _, _, rfl, s2 _ _ hc1, T.cl, T.nN, lk_names, tn, _, rfl, .inl ((cp1.tn.same s2).sq), _, rfl, (by rw [List.length_append, List.length_map]; show es.length + 1 ≤ sizeLine; omega), fun t ob hob ht => ?_⟩
        have ht1 : H1 t = none := s2.free ht
        have nxt : x ≠ t := ne_of_none ex ht
        refine ⟨_, rfl, x, C, dx2, _, rfl, (upd_ne nxt).trans ex, T.cl, T.nN, (by show 3 < 1000; decide), ?_⟩
        rw [pf_names]
        have s3 : Same H1 (upd (upd H2 t (.frz ob (.tup ((es.map fun e => V.str e.1.1) ++ [V.str z])))) x (.ins C dx2 (flds t td2 0))) := same_off (same_off s2 ht1) hx
        have ex3 : (upd (upd H2 t (.frz ob (.tup ((es.map fun e => V.str e.1.1) ++ [V.str z])))) x (.ins C dx2 (flds t td2 0))) x = some (.ins C dx2 (flds t td2 0)) := upd_same
        have et3 : (upd (upd H2 t (.frz ob (.tup ((es.map fun e => V.str e.1.1) ++ [V.str z])))) x (.ins C dx2 (flds t td2 0))) t = some (.frz ob (.tup ((es.map fun e => V.str e.1.1) ++ [V.str z]))) := by
          rw [upd_ne (Ne.symm nxt)]
          exact upd_same
        generalize upd (upd H2 t (.frz ob (.tup ((es.map fun e => V.str e.1.1) ++ [V.str z])))) x (.ins C dx2 (flds t td2 0)) = H3 at s3 ex3 et3
        refine fun d hd => ?_
        have hd1 : H1 d = none := s3.free hd
        have sd := same_off (o := .dK []) s3 hd1
        refine ⟨_, rfl, c, C, dx, _, _, rfl, sd _ _ hc1, T.cl, T.nC, lk_ch, td, kvE es, rfl, Rd.of (sd _ _ cp1.td), ne_of_none cp1.td hd1, upd_same, (by unfold kvE; rw [List.length_map]; omega), fun b hb => ?_⟩
        have s4 : Same H1 (upd (upd H3 d (.dK [])) d (.dK (kvE es))) := same_off sd hd1
        have ed4 : (upd (upd H3 d (.dK [])) d (.dK (kvE es))) d = some (.dK (kvE es)) := upd_same
        have nxd : x ≠ d := ne_of_none ex3 hd
        have ntd : t ≠ d := ne_of_none et3 hd
        have ex4 : (upd (upd H3 d (.dK [])) d (.dK (kvE es))) x = some (.ins C dx2 (flds t td2 0)) := by rw [upd_ne nxd, upd_ne nxd]; exact ex3
        have et4 : (upd (upd H3 d (.dK [])) d (.dK (kvE es))) t = some (.frz ob (.tup ((es.map fun e => V.str e.1.1) ++ [V.str z]))) := by rw [upd_ne ntd, upd_ne ntd]; exact et3
        generalize upd (upd H3 d (.dK [])) d (.dK (kvE es)) = H4 at s4 ed4 ex4 et4 hb
        have hb1 : H1 b = none := s4.free hb
        have sb := same_off (o := .dK []) s4 hb1
        refine ⟨_, rfl, _, rfl, _, rfl, c, C, dx, _, _, rfl, sb _ _ hc1, T.cl, T.nX, lk_next, (by show 2 ≤ sizeLine; decide), fun tp htp => ?_⟩
        have ndb : d ≠ b := ne_of_none ed4 hb
        have nxb : x ≠ b := ne_of_none ex4 hb
        have ntb : t ≠ b := ne_of_none et4 hb
        have eb5 : (upd H4 b (.dK [])) b = some (.dK []) := upd_same
        have ed5 : (upd H4 b (.dK [])) d = some (.dK (kvE es)) := (upd_ne ndb).trans ed4
        have ex5 : (upd H4 b (.dK [])) x = some (.ins C dx2 (flds t td2 0)) := (upd_ne nxb).trans ex4
        have et5 : (upd H4 b (.dK [])) t = some (.frz ob (.tup ((es.map fun e => V.str e.1.1) ++ [V.str z]))) := (upd_ne ntb).trans et4
        generalize upd H4 b (.dK []) = H5 at sb eb5 ed5 ex5 et5 htp
        have ht5 : H1 tp = none := sb.free htp
        have n1 : tp ≠ d := (ne_of_none ed5 htp).symm
        have n2 : tp ≠ b := (ne_of_none eb5 htp).symm
        have n3 : tp ≠ x := (ne_of_none ex5 htp).symm
        have n4 : tp ≠ t := (ne_of_none et5 htp).symm
        have kput : putK (kvE es) (.inr z) (.ref tp) = kvE (es ++ [((z, m, nx), tp)]) := by
          rw [putK_new _ ((valV_kvE z es cp.nd).2 (hasB_none e2))]
          unfold kvE
          rw [List.map_append]
          rfl
        refine ⟨.inr z, .ref tp, rfl, (upd_ne (Ne.symm n1)).trans ed5, (upd_ne (Ne.symm n2)).trans eb5, _, rfl, x, C, dx2, flds t td2 0, rfl, ?_, T.cl, T.nC, (by show 3 < 1000; decide), ?_⟩
        · rw [upd_ne nxd, upd_ne nxb, upd_ne (Ne.symm n3)]
          exact ex5
        rw [pf_ch, kput]
        have s6 : Same H1 (upd (upd (upd (upd H5 tp (.tup [.int m, .int nx])) b (.dK [(.inr z, .ref tp)])) d (.dK (kvE (es ++ [((z, m, nx), tp)])))) x (.ins C dx2 (flds t d 0))) := same_off (same_off (same_off (same_off sb ht5) hb1) hd1) hx
        have ex6 : (upd (upd (upd (upd H5 tp (.tup [.int m, .int nx])) b (.dK [(.inr z, .ref tp)])) d (.dK (kvE (es ++ [((z, m, nx), tp)])))) x (.ins C dx2 (flds t d 0))) x = some (.ins C dx2 (flds t d 0)) := upd_same
        have ed6 : (upd (upd (upd (upd H5 tp (.tup [.int m, .int nx])) b (.dK [(.inr z, .ref tp)])) d (.dK (kvE (es ++ [((z, m, nx), tp)])))) x (.ins C dx2 (flds t d 0))) d = some (.dK (kvE (es ++ [((z, m, nx), tp)]))) := by
          rw [upd_ne (Ne.symm nxd)]
          exact upd_same
        have et6 : (upd (upd (upd (upd H5 tp (.tup [.int m, .int nx])) b (.dK [(.inr z, .ref tp)])) d (.dK (kvE (es ++ [((z, m, nx), tp)])))) x (.ins C dx2 (flds t d 0))) t = some (.frz ob (.tup ((es.map fun e => V.str e.1.1) ++ [V.str z]))) := by
          rw [upd_ne (Ne.symm nxt), upd_ne ntd, upd_ne ntb, upd_ne (Ne.symm n4)]
          exact et5
        have ep6 : (upd (upd (upd (upd H5 tp (.tup [.int m, .int nx])) b (.dK [(.inr z, .ref tp)])) d (.dK (kvE (es ++ [((z, m, nx), tp)])))) x (.ins C dx2 (flds t d 0))) tp = some (.tup [.int m, .int nx]) := by
          rw [upd_ne n3, upd_ne n1, upd_ne n2]
          exact upd_same
        generalize upd (upd (upd (upd H5 tp (.tup [.int m, .int nx])) b (.dK [(.inr z, .ref tp)])) d (.dK (kvE (es ++ [((z, m, nx), tp)])))) x (.ins C dx2 (flds t d 0)) = H6 at s6 ex6 ed6 et6 ep6
        refine ⟨_, rfl, c, C, dx, _, _, rfl, s6 _ _ hc1, T.cl, T.nX, lk_next, _, _, rfl, rfl, _, rfl, x, C, dx2, _, rfl, ex6, T.cl, T.nX, (by show 3 < 1000; decide), _, rfl, ?_⟩
        rw [pf_next]
        have s7 := same_off (o := .ins C dx2 (flds t d (nx + 1))) s6 hx
        refine k e e2 x tp _ (s1.trans s7) (s1.free hx) ⟨dx2, t, d, upd_same, ?_, ?_, fun e3 m3 => ?_, nodup_snoc cp.nd e2, by rw [List.length_append]; show es.length + 1 ≤ 100; omega⟩
        · refine ⟨ob, hob, ?_⟩
          rw [upd_ne (Ne.symm nxt), et6, List.map_append]
          rfl
        · rw [upd_ne (Ne.symm nxd)]
          exact ed6
        · rcases List.mem_append.mp m3 with m3 | m3
          · exact s7 _ _ (cp1.at_ e3 m3)
          · cases List.mem_singleton.mp m3
            show upd H6 x _ tp = _
            rw [upd_ne n3]
            exact ep6
end
end R52
namespace L3
open PySem PySem.Spec PyProof.Rows L2
/-- one more entry of a dict that is being made -/
theorem put_run {X : Cx} {pins : List (Addr × Obj)} {σ : L2.St} {H H' : Hp} {s : Shared} {E : Value → Shared → Prop} {D : Addr} {y z : V} {u r : Value} {Q : Unit → Shared → Prop} (hu : X.A.units < cLine) (I : Inv X pins σ H s) (g : DPut H D y z H') (ry : RelV y u) (rz : RelV z r)
    (h : ∀ s', Inv X pins σ H' s' → Q () s') : wpAny (model X.prog X.w) X.A (dictSet D u r) Q E s := by
  rcases g with ⟨kvs, k, e, rfl, l, rfl⟩ | ⟨kvs, k, b, e, rfl, eb, l, rfl⟩
  · exact d_dictSet I e l ry rz h
  · cases (show u = Value.ref b from ry)
    obtain ⟨le, ns, xs, rel, dd⟩ := dt_of I.hok e
    have le2 : xs.length ≤ sizeLine := (Paired.length rel) ▸ le
    have le3 : (putK kvs k z).length ≤ sizeLine := Nat.le_trans (length_putK kvs k z) (by omega)
    refine wpAny_dictSet_heap (hsz := le2) hu (key_of I.hok eb) dd fun h' dd' sb => h _ ?_
    obtain ⟨o, es, ep, g1, g2, g3, g4, _, g5⟩ := dd'
    refine d_write I (by rw [e]; exact True.intro) sb ⟨o, g1⟩ ⟨le3, ns, _, KT.keeps (rel.put k eb rz) fun c ys ec => ?_, o, es, ep, g1, g2, g3, g4, g5⟩
    exact (upd_ne (ne_of ec e (fun q => nomatch q))).trans ec
section
variable {X : Cx}
/-- {key: value for target in iter if ..}; o0 is the new dict as it begins -/
def tDd (o0 : HO) (wi : TI) (g : TG) (tt : TT) (tk tv : TE) (vs : List Nat) : TE := fun σ H Q => wi σ H fun J H1 => ∀ D, H1 D = none → ∃ W : Nat → Nat → Hp → Prop, (∃ m, W 0 m (upd H1 D o0)) ∧ ∀ i m H, W i m H →
  (J.stop i H ∧ Q (.ref D) H) ∨ (J.go i H ∧ ∃ N : Hp → Prop, (∀ H', N H' → ∃ m', m' < m ∧ W (i + 1) m' H') ∧ ∀ x H', J.yld i H x H' → g x (wipe σ vs) H' fun σ2 H2 => wipe σ2 vs = wipe σ vs ∧ tt σ2 H2 fun b H3 =>
    if b = true then tk σ2 H3 fun y H4 => tv σ2 H4 fun z H5 => ∃ H6, DPut H5 D y z H6 ∧ N H6 else N H3)
/-- what holds of the iterator's own objects within the block -/
theorem own_static {Y : Cx} {fp : List Addr} {σ : L2.St} {H : Hp} {s : Shared} (I : Inv Y [] σ H s) (ex : Y.ex = fp) (pn : Y.pn = []) (n : ∀ b ∈ fp, H b = none) : ∀ b ∈ fp, FpOk Y [] H b := fun b m => by
  have m' : b ∈ Y.ex := by rw [ex]; exact m
  refine ⟨n b m, (I.ok.exf b m').1, I.ok.exfs b m', .inl m', (I.ok.exf b m').2, fun p hp => ?_⟩
  rw [pn] at hp
  cases hp
/-- the end of a turn: the iterator's objects as the turn found them -/
theorem turn_end {Y : Cx} {P : Program} {w : World} {K : PySem.W.Frag} {tg : Expr} {J : It} {fp vs} {it : Addr} {tn : Nat → Heap → Prop} {σ τ : L2.St} {H : Hp} {s t : Shared} {i : Nat} (T : Turn P w K tg J fp it tn) (st : tn i s.heap) (I : Inv Y ([] ++ pinsAt fp s.heap) τ H t) (hw : wipe τ vs = wipe σ vs) :
    Inv Y [] (wipe σ vs) H t ∧ tn i t.heap ∧ ∀ b ∈ fp, H b = none := by
  have same : ∀ b ∈ fp, ∀ o, s.heap.get? b = some o → t.heap.get? b = some o ∧ H b = none := fun b m o e => by
    have q := I.pin (b, o) (List.mem_append_right _ (List.mem_append_right _ (mem_pinsAt m e)))
    exact ⟨q.1, q.2.1⟩
  refine ⟨(Inv.unpinned (pins := []) I).weak (by rw [← hw]; exact wipe_length _ _) (fun j v e => ?_), T.keep _ _ _ st fun b m o e => (same b m o e).1, fun b m => ?_⟩
  · rw [← hw] at e
    exact (wipe_some e).1
  · obtain ⟨o, e, _⟩ := T.obj _ _ st b m
    exact (same b m o e).2
/-- one turn of the block -/
theorem dd_turn {Y : Cx} {kx vx tg : Expr} {ifs : List Expr} {J : It} {fp : List Addr} {it D : Addr} {tn : Nat → Heap → Prop} {g : TG} {tt : TT} {tk tv : TE} {σ : L2.St} {vs : List Nat} {Z : Nat → Shared → Prop} {R : Shared → Prop} {n : Nat} {W : Nat → Nat → Hp → Prop} {Qd : Hp → Prop}
    (hu : Y.A.units < cLine) (hc : Y.calm = true) (hex : Y.ex = fp) (hpn : Y.pn = []) (hxe : Y.xe = fun _ _ => False) (pg : PG Y tg g) (pt : PTs Y ifs tt) (pk : PE Y kx tk) (pv : PE Y vx tv) (T : Turn Y.prog Y.w Y.K tg J fp it tn)
    (W' : ∀ i m H, W i m H → (J.stop i H ∧ Qd H) ∨ (J.go i H ∧ ∃ N : Hp → Prop, (∀ H', N H' → ∃ m', m' < m ∧ W (i + 1) m' H') ∧ ∀ x H', J.yld i H x H' → g x (wipe σ vs) H' fun σ2 H2 => wipe σ2 vs = wipe σ vs ∧ tt σ2 H2 fun b H3 =>
      if b = true then tk σ2 H3 fun y H4 => tv σ2 H4 fun z H5 => ∃ H6, DPut H5 D y z H6 ∧ N H6 else N H3))
    (hR : ∀ s H, Inv Y [] (wipe σ vs) H s → Qd H → R s) (hZ : ∀ m, m < n → ∀ s i H, Inv Y [] (wipe σ vs) H s → tn i s.heap → (∀ b ∈ fp, H b = none) → W i m H → Z n s)
    (s : Shared) (i : Nat) (H : Hp) (I : Inv Y [] (wipe σ vs) H s) (st : tn i s.heap) (nn : ∀ b ∈ fp, H b = none) (wn : W i n H) {E : Value → Shared → Prop} :
    wpAny (model Y.prog Y.w) Y.A (pyNext (.ref it)) (fun r s₁ => match r with
      | none => R s₁
      | some v => wpAny (model Y.prog Y.w) Y.A (letOwnedTupleGo tg (.ref it) v) (fun _ s₁' => wpAny (model Y.prog Y.w) Y.A (assign tg Y.env v) (fun _ s₂ =>
          wpAny (model Y.prog Y.w) Y.A (forIn ifs true fun c r => if r = true then do let ok ← isTrue c Y.env (eval c Y.env); pure (ForInStep.yield ok) else pure (ForInStep.yield r)) (fun ok s₃ =>
            if ok = true then wpAny (model Y.prog Y.w) Y.A (eval kx Y.env) (fun kv s₄ => wpAny (model Y.prog Y.w) Y.A (eval vx Y.env) (fun vv s₅ =>
              wpAny (model Y.prog Y.w) Y.A (dictSet D kv vv) (fun _ s₆ => Z n s₆) E s₅) E s₄) E s₃
            else Z n s₃) E s₂) E s₁') E s₁) E s := by
  have sta := own_static I hex hpn nn
  rcases W' i n H wn with ⟨stop, q⟩ | ⟨go, N, hN, step⟩
  · exact thnF (T.done Y rfl rfl rfl hc i [] s _ H (fun _ _ => False) I sta st stop) fun r t ⟨hr, I2⟩ => by
      subst hr
      exact hR t H I2 q
  · refine thnF (T.item Y rfl rfl rfl hc i [] s _ H (fun _ _ => False) I sta st go) fun r t ⟨v, hr, h2⟩ => ?_
    subst hr
    refine thnF h2 fun _ t2 ⟨x, H2, I2, rx, yl, st2, n2⟩ => ?_
    have I3 := I2.pinned (own_static I2 hex hpn n2) (T.obj _ _ st2)
    have fin : ∀ {τ : L2.St} {H' : Hp} {t' : Shared}, wipe τ vs = wipe σ vs → Inv Y ([] ++ pinsAt fp t2.heap) τ H' t' → N H' → Z n t' := fun hw I' nx => by
      obtain ⟨m, hm, wm⟩ := hN _ nx
      obtain ⟨a1, a2, a3⟩ := turn_end (σ := σ) T st2 I' hw
      exact hZ m hm _ _ _ a1 a2 a3 wm
    have low : ∀ {α : Type} {p : Sem α} {q : α → Shared → Prop} {u : Shared}, wpAny (model Y.prog Y.w) Y.A p q Y.xe u → wpAny (model Y.prog Y.w) Y.A p q (fun _ _ => False) u := fun hh => by rw [hxe] at hh; exact hh
    refine thnF (low (pg.run _ t2 _ H2 x v _ I3 rx (step x H2 yl))) fun _ t3 ⟨τ, H3, I4, hw, q3⟩ => ?_
    refine thnF (low (pt.run _ t3 τ H3 _ I4 q3)) fun b t4 ⟨H4, I5, q4⟩ => ?_
    cases b with
    | false => exact fin hw I5 q4
    | true =>
      refine thnF (low (pk.run _ t4 τ H4 _ I5 q4)) fun ku t5 ⟨y, H5, I6, ry, q5⟩ => ?_
      refine thnF (low (pv.run _ t5 τ H5 _ I6 q5)) fun vu t6 ⟨z, H6, I7, rz, H7, gp, q6⟩ => ?_
      exact put_run (X := Y) hu I7 gp ry rz fun t7 I8 => fin hw I8 q6
/-- such a dict over a walk: Pv by the turn and the heap -/
theorem dd_it {o0 : HO} {J : It} {n : Nat} {G : Hp → Prop} {Y : Nat → Hp → V → Hp → Prop} (w : Walk J n G Y) {g : TG} {tt : TT} {tk tv : TE} {vs : List Nat} {σ : L2.St} {H1 : Hp} {D : Addr} {Qd : Hp → Prop} (Pv : Nat → Hp → Prop) (h0 : Pv 0 (upd H1 D o0)) (hG : ∀ i H, i ≤ n → Pv i H → G H)
    (hs : ∀ i x H H', i < n → Pv i H → Y i H x H' → g x (wipe σ vs) H' fun σ2 H2 => wipe σ2 vs = wipe σ vs ∧ tt σ2 H2 fun b H3 => if b = true then tk σ2 H3 fun y H4 => tv σ2 H4 fun z H5 => ∃ H6, DPut H5 D y z H6 ∧ Pv (i + 1) H6 else Pv (i + 1) H3) (hd : ∀ H, Pv n H → Qd H) :
    ∃ W : Nat → Nat → Hp → Prop, (∃ m, W 0 m (upd H1 D o0)) ∧ ∀ i m H, W i m H → (J.stop i H ∧ Qd H) ∨ (J.go i H ∧ ∃ N : Hp → Prop, (∀ H', N H' → ∃ m', m' < m ∧ W (i + 1) m' H') ∧ ∀ x H', J.yld i H x H' → g x (wipe σ vs) H' fun σ2 H2 => wipe σ2 vs = wipe σ vs ∧ tt σ2 H2 fun b H3 =>
      if b = true then tk σ2 H3 fun y H4 => tv σ2 H4 fun z H5 => ∃ H6, DPut H5 D y z H6 ∧ N H6 else N H3) := by
  refine ⟨fun i m H => i ≤ n ∧ m = n - i ∧ Pv i H, ⟨n, Nat.zero_le n, rfl, h0⟩, fun i m H ⟨hi, hm, p⟩ => ?_⟩
  rcases Nat.lt_or_ge i n with lt | ge
  · refine .inr ⟨w.goes i H lt (hG i H hi p), Pv (i + 1), fun H' p' => ⟨n - (i + 1), by omega, by omega, rfl, p'⟩, fun x H' y => hs i x H H' lt p (w.yields i H x H' lt (hG i H hi p) y)⟩
  · obtain rfl : i = n := by omega
    exact .inl ⟨w.stops H (hG _ H hi p), hd H p⟩
section
variable {kx vx tg iter : Expr} {ifs : List Expr} {scope : Scope} {own : List (Str × Nat)} {pos : Pos} {wi : TI} {g : TG} {tt : TT} {tk tv : TE} {o0 : HO}
theorem dd_new (h0 : o0 = .dK [] ∨ o0 = .dT []) {pins : List (Addr × Obj)} {σ : L2.St} {H : Hp} {s : Shared} (I : Inv X pins σ H s) : Inv X pins σ (upd H s.heap.objs.size o0) { s with heap := s.heap.push { cls := .type "dict", data := .dict #[] } } := by
  refine I.laid (t' := s.toks) (fun _ _ e => Heap.get?_push_of_some _ e) (Nat.le_refl _) ?_
  rcases h0 with rfl | rfl
  · exact dk_empty s.heap I.big
  · exact dt_empty s.heap I.big
theorem pe_dd (h0 : o0 = .dK [] ∨ o0 = .dT []) (hu : X.A.units < cLine) (hc : X.calm = true) (hN : X.N.Nodup) (hi : PI X tg iter wi) (ok : BlkOk X.N X.env.scope scope own)
    (hg : ∀ (s : Shared) (H : Hp) (C : Addr) (cl : List (Str × Addr)) (fp : List Addr), PG (X.blk s H scope (compEnvC scope cl C X.env) fp) tg g) (ht : ∀ (s : Shared) (H : Hp) (C : Addr) (cl : List (Str × Addr)) (fp : List Addr), PTs (X.blk s H scope (compEnvC scope cl C X.env) fp) ifs tt)
    (hk : ∀ (s : Shared) (H : Hp) (C : Addr) (cl : List (Str × Addr)) (fp : List Addr), PE (X.blk s H scope (compEnvC scope cl C X.env) fp) kx tk)
    (he : ∀ (s : Shared) (H : Hp) (C : Addr) (cl : List (Str × Addr)) (fp : List Addr), PE (X.blk s H scope (compEnvC scope cl C X.env) fp) vx tv) (hs : ∀ x, foldedSetIterable iter X.env x = pure x := by intro _; rfl) :
    PE X (.DictComp kx vx [⟨tg, iter, ifs, 0⟩] scope pos) (tDd o0 wi g tt tk tv (own.map (·.2))) := by
  refine ⟨fun pins s σ H Q I h => ?_⟩
  rw [arm_eval_DictComp]
  have outer : ∀ y ∈ scope.names, y.2 = .free → ∃ c, X.env.cells.lookup y.1 = some c := fun y m z => (ok.free y m z).elim (fun k => I.ok.has _ (.inl k)) fun k => I.ok.has _ (.inr k)
  refine wpAny_comprehension_free (use := none) rfl hs (closure_ok outer) ok.kind (fun y m z => (ok.uniq y m).trans (congrArg some z)) (thn (hi.run pins s σ H _ I h) fun _ sA hA => thn hA fun itu t hB => ?_)
  obtain ⟨it, fp, tn, J, HB, rfl, IB, T, stB, fB, go⟩ := hB
  refine wpAny_newObj_type (newEnv_comp ?_)
  have free0 : HB t.heap.objs.size = none := IB.hok.fresh (Nat.le_refl _)
  obtain ⟨W, ⟨m0, w0⟩, W'⟩ := go _ free0
  have I1 := dd_new h0 IB
  have young : ∀ b ∈ fp, b < t.heap.objs.size := fun b m => by
    obtain ⟨o, e, _⟩ := T.obj _ _ stB b m
    exact Heap.lt_size e
  have f1 : ∀ b ∈ fp, FpOk X pins (upd HB t.heap.objs.size o0) b := fun b m => ⟨(upd_ne (Nat.ne_of_lt (young b m))).trans (fB b m).1, (fB b m).2⟩
  have push1 : ∀ b o, t.heap.get? b = some o → (t.heap.push { cls := .type "dict", data := .dict #[] }).get? b = some o := fun b o e => Heap.get?_push_of_some _ e
  generalize HB' : upd HB t.heap.objs.size o0 = HC at I1 f1 w0
  generalize hD : t.heap.objs.size = D at free0 W' ⊢
  generalize ht1 : ({ t with heap := t.heap.push { cls := .type "dict", data := .dict #[] } } : Shared) = t1 at I1 ⊢
  have st1 : tn 0 t1.heap := T.keep _ _ _ stB fun b _ o e => by rw [← ht1]; exact push1 b o e
  have f2 : ∀ b ∈ fp, FpOk X pins HC b ∧ b < t1.heap.objs.size := fun b m => ⟨f1 b m, by rw [← ht1]; exact Nat.lt_of_lt_of_le (young b m) (by rw [Heap.size_push]; exact Nat.le_succ _)⟩
  have IC := block_start I1 ok hN f2
  have gs := hg t1 HC t1.heap.objs.size (cellsFrom (t1.heap.objs.size + 1) scope.names (cloFrom X.env.cells scope.names [])) fp
  have ts := ht t1 HC t1.heap.objs.size (cellsFrom (t1.heap.objs.size + 1) scope.names (cloFrom X.env.cells scope.names [])) fp
  have ks := hk t1 HC t1.heap.objs.size (cellsFrom (t1.heap.objs.size + 1) scope.names (cloFrom X.env.cells scope.names [])) fp
  have vs := he t1 HC t1.heap.objs.size (cellsFrom (t1.heap.objs.size + 1) scope.names (cloFrom X.env.cells scope.names [])) fp
  show codeAny _ _ (.compStart (.DictComp kx vx [⟨tg, iter, ifs, 0⟩] scope pos) 0 (.ref it) (.ref D) (compEnvC scope (cellsFrom (t1.heap.objs.size + 1) scope.names (cloFrom X.env.cells scope.names [])) t1.heap.objs.size X.env))
    (compPost (model X.prog X.w) X.A X.xe none _ (.ref D) t1.heap.objs.size) { t1 with heap := pushCells (t1.heap.push { cls := .type "dict", data := .dict #[] }) scope.names }
  generalize hce : compEnvC scope (cellsFrom (t1.heap.objs.size + 1) scope.names (cloFrom X.env.cells scope.names [])) t1.heap.objs.size X.env = ce at IC gs ts ks vs ⊢
  have at1 : ce.locals = t1.heap.objs.size := by rw [← hce]; rfl
  generalize ht2 : ({ t1 with heap := pushCells (t1.heap.push { cls := .type "dict", data := .dict #[] }) scope.names } : Shared) = t2 at IC ⊢
  have st2 : tn 0 t2.heap := T.keep _ _ _ st1 fun b _ o e => by rw [← ht2]; exact pushCells_keeps _ _ _ _ (Heap.get?_push_of_some _ e)
  -- behind the last turn
  have done : ∀ u H', Inv (X.blk t1 HC scope ce fp) [] (wipe σ (own.map (·.2))) H' u → Q (.ref D) H' → compPost (model X.prog X.w) X.A X.xe none (fun v s' => ∃ x H1, Inv X pins σ H1 s' ∧ RelV x v ∧ Q x H1) (.ref D) t1.heap.objs.size (.ok .next) u := fun u H' IU q => by
    have IX : Inv X pins σ H' u := I1.call' (ch := fp) IU.os IU.base IU.hok IU.bare fun b m => ⟨(f2 b m).1.2.2.2.1, (f2 b m).1.2.1, (f2 b m).1.2.2.2.2.1, (f2 b m).1.2.2.2.2.2⟩
    have nL : H' t1.heap.objs.size = none := by rw [← at1]; exact IU.free
    obtain ⟨mL, nsL, _⟩ := IU.loc
    obtain ⟨y0, y1, y2, y3, y4, y5⟩ := I1.fpOk (H' := H') (Nat.le_refl _) nL
    refine ⟨mL, by rw [← at1]; exact nsL, fun h2 sb => ⟨.ref D, H', ?_, rfl, q⟩⟩
    exact IX.turned (t' := u.toks) (fun b o ne e => (sb.2 b ne).trans e) y0 y1 y3 y4 y5
  have loop : codeAny (model X.prog X.w) X.A (.compLoop (.DictComp kx vx [⟨tg, iter, ifs, 0⟩] scope pos) 0 (.ref it) (.ref D) ce) (compPost (model X.prog X.w) X.A X.xe none (fun v s' => ∃ x H1, Inv X pins σ H1 s' ∧ RelV x v ∧ Q x H1) (.ref D) t1.heap.objs.size) t2 := by
    refine compLoop_anyD (fun n u => ∃ i H', Inv (X.blk t1 HC scope ce fp) [] (wipe σ (own.map (·.2))) H' u ∧ tn i u.heap ∧ (∀ b ∈ fp, H' b = none) ∧ W i n H') ?_ m0 ⟨0, HC, IC, st2, fun b m => (f2 b m).1.1, w0⟩
    rintro n u ⟨i, H', IU, su, nu, wu⟩
    exact dd_turn (Y := X.blk t1 HC scope ce fp) (Z := fun n s => ∃ m, m < n ∧ ∃ i H', Inv (X.blk t1 HC scope ce fp) [] (wipe σ (own.map (·.2))) H' s ∧ tn i s.heap ∧ (∀ b ∈ fp, H' b = none) ∧ W i m H') hu hc rfl rfl rfl gs ts ks vs T W' done
      (fun m hm s i H I st nn wn => ⟨m, hm, i, H, I, st, nn, wn⟩) u i H' IU su nu wu
  exact codeAny_compStart_dict loop (T.self X.A 0 _ _ _ st2 loop)
end
end
end L3
namespace R52
open PySem L2 L3
open C8 (pss_cut tCut pe_gc)
def dropE (z : Str) (es : List (Row × Addr)) : List (Row × Addr) := es.filter fun e => !decide (e.1.1 = z)
section
variable {P : Program} {w : World} {K : PySem.W.Frag} {mg : Str → Option Value} {base : Heap} {C CI CT CU fi ft fu : Addr}
def spWithout (C CU : Addr) : Sp := fun vs H Q E => ∃ (c : Addr) (z : Str) (nx : Int) (es : List (Row × Addr)), vs = [.ref c, .str z] ∧ ChAt C H c es nx ∧
  (hasB z es = false → ∀ d H', ErrNew H H' d z → E (.ref CU) (some d) H') ∧ (hasB z es = true → ∀ c' H', Same H H' → H c' = none → ChAt C H' c' (dropE z es) nx → Q (.ref c') H')
abbrev NW : List Str := ["self", "name", "made", "other"]
theorem scW : FnScope NW ["self", "name"] (defScope sWithout) := ⟨rfl, rfl, rfl, by decide +kernel, rfl, by decide +kernel, by decide +kernel⟩
theorem ok_without {f f0 : Addr} {fd fd0 : FuncData} (F : Fun K "without" "Choices.without" sWithout f fd) (T : Txt P K mg C CI CT CU fi ft fu) (M : Mk K C f0) (F0 : Fun K "__init__" "Choices.__init__" sInit f0 fd0) (b0 : Binds K fd0 ["self"] []) (zTup : mg "tuple" = none) :
    FnOk P w K mg base (L2.CX P w) 3 f fd ["self", "name"] (spWithout C CU) := by
  have GI : FnOk P w K mg base CX0 1 f0 fd0 ["self"] (spInit C) := ok_init F0 T
  refine F.okX scW (fun vs H Q E h => ?_) (fun cdv A outer s H vs Q E hr h => ?_)
  · obtain ⟨c, z, nx, es, rfl, _⟩ := h
    rfl
  · obtain ⟨c, z, nx, es, rfl, hc, kU, k⟩ := h
    have nd := scW.nd
    have hu := hu_of hr
    have R1 : Room 1 _ := hr.mono (by decide)
    have R2 : Room 2 _ := hr.mono (by decide)
    refine ⟨_, pss_cons (ps_if (pt_cmp (pc_dnotin hu (pv 1) (pe_fld (pv 0) rfl))) (pss_one (ps_raise rfl (takes_of rfl rfl rfl rfl) (pmk_err T.eU T.tU R1 (by exact rfl) (pa_cons (pv 1) pa_nil)))) pss_nil)
      (PSs.nox (pss_cons (ps_set (i := 2) nd rfl (.inl rfl) (pe_make0 M GI R2 (by rfl) T.gC b0 .nil pass0))
      (pss_cons (ps_fld (pv 2) (pe_tupOfF (by rfl) zTup (pe_lc (own := [("other", 3)]) (g := gName 3) rfl nd (pi_tup (pe_fld (pv 0) rfl)) (blkOk_by (N := NW) (sc := defScope sWithout) (by decide +kernel)) (fun _ _ _ _ _ => pg_name (i := 3) nd rfl (.inl rfl))
          (fun _ _ _ _ _ => pts_one (pt_cmpR op_ne (pv 3) (pv 1) (nomark _))) (fun _ _ _ _ _ => pv 3))) rfl)
      (pss_cons (ps_fld (pv 2) (pe_dd (o0 := .dK []) (own := [("other", 3)]) (g := gName 3) (tt := tYes) (tv := tDGet (tFld K (tVar 0) "_choices") (tVar 3)) (.inl rfl) (by exact hr.units0) rfl nd (pi_tup (pe_fld (pv 2) rfl)) (blkOk_by (N := NW) (sc := defScope sWithout) (by decide +kernel)) (fun _ _ _ _ _ => pg_name (i := 3) nd rfl (.inl rfl)) (fun _ _ _ _ _ => pts_nil)
          (fun _ _ _ _ _ => pv 3) (fun _ _ _ _ _ => pe_dget hu (pe_fld (pv 0) rfl) (pv 3) (fun _ _ => rfl))) rfl)
      (pss_cons (ps_fld (pv 2) (pe_fld (pv 0) rfl) rfl)
      (pss_one (ps_ret (pv 2)))))))), ?_⟩
    obtain ⟨dx, tn, td, hcc, cp⟩ := hc
    have lsz := sizeLine_eq
    have hle := cp.le
    refine ⟨_, rfl, _, rfl, c, C, dx, _, _, rfl, hcc, T.cl, T.nC, lk_ch, td, _, rfl, DGet.k (k := .inr z) cp.td, _, rfl, ?_⟩
    rw [isSome_kvE cp.nd]
    cases e2 : hasB z es with
    | false => exact ifT rfl ⟨_, rfl, rfl, (by show 1 ≤ 900; decide), fun d hd => kU e2 d _ ⟨same_new hd, hd, upd_same⟩⟩
    | true =>
      refine ifF rfl fun x dx2 hx hdx ne => ⟨x, dx2, rfl, upd_same, fun H2 tn2 td2 keep ex cp2 h1 h2 => ⟨rfl, ?_⟩⟩
      have s2 : Same H H2 := fun b o eb => keep b o (ne_of_none eb hx) (by rw [upd_ne (ne_of_none eb hx), upd_ne (ne_of_none eb hdx)]; exact eb)
      have lt : ∀ l : List (Row × Addr), l.length ≤ es.length → ∀ j, (((l.take j).filter fun e => !decide (e.1.1 = z)).map fun e => V.str e.1.1).length < sizeLine := fun l hl j => by
        rw [List.length_map]
        refine Nat.lt_of_le_of_lt (List.length_filter_le _ _) ?_
        rw [List.length_take]
        omega
      -- the names that stay
      refine ⟨_, rfl, c, C, dx, _, _, rfl, s2 _ _ hcc, T.cl, T.nN, lk_names, tn, rfl, ⟨_, (cp.tn.same s2).sq⟩, fun D hD => lc_it walk_tup (fun j H' => H' = upd H2 D (.lst (((es.take j).filter fun e => !decide (e.1.1 = z)).map fun e => V.str e.1.1))) rfl (fun j H' _ h => by rw [h]; exact ((cp.tn.same s2).same (same_new hD)).sq) ?_ ?_⟩
      · rintro j y H3 H4 hj rfl ⟨rfl, hy⟩
        rw [List.getElem?_map] at hy
        obtain ⟨e, he, rfl⟩ := Option.map_eq_some_iff.mp hy
        refine ⟨rfl, _, rfl, _, rfl, rfl, _, rfl, ?_⟩
        have ft : ((es.take (j + 1)).filter fun e => !decide (e.1.1 = z)).map (fun e => V.str e.1.1) = ((es.take j).filter fun e => !decide (e.1.1 = z)).map (fun e => V.str e.1.1) ++ (if e.1.1 = z then [] else [V.str e.1.1]) := by
          rw [List.take_add_one, he, List.filter_append, List.map_append]
          congr 1
          by_cases q : e.1.1 = z <;> simp [q]
        by_cases q : e.1.1 = z
        · refine ifF (by rw [decide_eq_true (congrArg V.str q)]; rfl) ?_
          show upd H2 D _ = upd H2 D _
          rw [ft, if_pos q, List.append_nil]
        · refine ifT (by rw [decide_eq_false fun h => q (V.str.inj h)]; rfl) ⟨_, rfl, _, upd_same, lt es (Nat.le_refl _) j, ?_⟩
          rw [upd_two, ft, if_neg q]
      rintro H3 rfl
      rw [List.length_map, List.take_of_length_le (Nat.le_refl es.length)]
      have edr : ((es.filter fun e => !decide (e.1.1 = z)).map fun e => V.str e.1.1) = (dropE z es).map fun e => V.str e.1.1 := rfl
      rw [edr]
      have hD1 : H D = none := s2.free hD
      have nxD : x ≠ D := ne_of_none ex hD
      have ldr : (dropE z es).length ≤ es.length := List.length_filter_le _ _
      have ndr : ((dropE z es).map fun e => e.1.1).Nodup := (cp.nd).sublist (List.filter_sublist.map _)
      refine ⟨D, _, rfl, SqL.of upd_same, fun t ob hob ht => ⟨_, rfl, x, C, dx2, flds tn2 td2 0, rfl, ?_, T.cl, T.nN, (by show 3 < 1000; decide), ?_⟩⟩
      · have n : x ≠ t := fun q => by rw [← q, upd_ne nxD, ex] at ht; cases ht
        rw [upd_ne n, upd_ne nxD]
        exact ex
      rw [pf_names]
      have sD := same_off (o := .lst ((dropE z es).map fun e => V.str e.1.1)) s2 hD1
      have ht1 : H t = none := sD.free ht
      have nxt : x ≠ t := fun q => by rw [← q, upd_ne nxD, ex] at ht; cases ht
      have s3 : Same H (upd (upd (upd H2 D (.lst ((dropE z es).map fun e => V.str e.1.1))) t (.frz ob (.tup ((dropE z es).map fun e => V.str e.1.1)))) x (.ins C dx2 (flds t td2 0))) := same_off (same_off sD ht1) hx
      have ex3 : (upd (upd (upd H2 D (.lst ((dropE z es).map fun e => V.str e.1.1))) t (.frz ob (.tup ((dropE z es).map fun e => V.str e.1.1)))) x (.ins C dx2 (flds t td2 0))) x = some (.ins C dx2 (flds t td2 0)) := upd_same
      have et3 : (upd (upd (upd H2 D (.lst ((dropE z es).map fun e => V.str e.1.1))) t (.frz ob (.tup ((dropE z es).map fun e => V.str e.1.1)))) x (.ins C dx2 (flds t td2 0))) t = some (.frz ob (.tup ((dropE z es).map fun e => V.str e.1.1))) := by
        rw [upd_ne (Ne.symm nxt)]
        exact upd_same
      generalize upd (upd (upd H2 D (.lst ((dropE z es).map fun e => V.str e.1.1))) t (.frz ob (.tup ((dropE z es).map fun e => V.str e.1.1)))) x (.ins C dx2 (flds t td2 0)) = H3 at s3 ex3 et3
      -- the dict of those that stay
      refine ⟨_, rfl, x, C, dx2, _, _, rfl, ex3, T.cl, T.nN, lk_names, t, rfl, ⟨_, TupF.sq ⟨ob, hob, et3⟩⟩, fun B hB => dd_it walk_tup (fun j H' => H' = upd H3 B (.dK (kvE ((dropE z es).take j)))) rfl (fun j H' _ h => by rw [h]; exact TupF.sq ⟨ob, hob, same_new hB _ _ et3⟩) ?_ ?_⟩
      · rintro j y H4 H5 hj rfl ⟨rfl, hy⟩
        rw [List.getElem?_map] at hy
        obtain ⟨e, he, rfl⟩ := Option.map_eq_some_iff.mp hy
        have me : e ∈ dropE z es := List.mem_of_getElem? he
        have me0 : e ∈ es := (List.mem_filter.mp me).1
        have sB := same_off (o := .dK (kvE ((dropE z es).take j))) s3 (s3.free hB)
        have g := DGet.k (k := .inr e.1.1) (sB _ _ cp.td)
        rw [(valV_kvE e.1.1 es cp.nd).1 e me0 rfl] at g
        have nj : ((dropE z es).take j).length ≤ 100 := by rw [List.length_take]; omega
        refine ⟨rfl, _, rfl, _, rfl, c, C, dx, _, _, rfl, sB _ _ hcc, T.cl, T.nC, lk_ch, _, rfl, td, .ref e.2, rfl, g, _, DPut.k (k := .inr e.1.1) upd_same (by unfold kvE; rw [List.length_map]; omega), ?_⟩
        rw [upd_two, List.take_add_one, he]
        have nin : ∀ e' ∈ (dropE z es).take j, e'.1.1 ≠ e.1.1 := fun e' m' q => by
          have nd2 : ((dropE z es).map fun e => e.1.1).Nodup := ndr
          obtain ⟨i1, h1, rfl⟩ := List.getElem_of_mem m'
          rw [List.length_take] at h1
          rw [List.getElem_take] at q
          have hj2 : j < (dropE z es).length := (List.getElem?_eq_some_iff.mp he).1
          have ej : (dropE z es)[j] = e := (List.getElem?_eq_some_iff.mp he).2
          have pw := List.pairwise_iff_getElem.mp nd2 i1 j (by rw [List.length_map]; omega) (by rw [List.length_map]; omega) (by omega)
          rw [List.getElem_map, List.getElem_map, ej] at pw
          exact pw q
        have ndj : (((dropE z es).take j).map fun e => e.1.1).Nodup := ndr.sublist ((List.take_sublist _ _).map _)
        rw [putK_new _ ((valV_kvE e.1.1 _ ndj).2 nin)]
        show upd H3 B (.dK (kvE ((dropE z es).take j) ++ [(.inr e.1.1, .ref e.2)])) = upd H3 B (.dK (kvE ((dropE z es).take j ++ [e])))
        unfold kvE
        rw [List.map_append]
        rfl
      rintro H4 rfl
      rw [List.length_map, List.take_of_length_le (Nat.le_refl (dropE z es).length)]
      have hB1 : H B = none := s3.free hB
      have nxB : x ≠ B := ne_of_none ex3 hB
      have ntB : t ≠ B := ne_of_none et3 hB
      refine ⟨_, rfl, x, C, dx2, flds t td2 0, rfl, (upd_ne nxB).trans ex3, T.cl, T.nC, (by show 3 < 1000; decide), ?_⟩
      rw [pf_ch]
      have s5 := same_off (o := .ins C dx2 (flds t B 0)) (same_off (o := .dK (kvE (dropE z es))) s3 hB1) hx
      refine ⟨_, rfl, c, C, dx, _, _, rfl, s5 _ _ hcc, T.cl, T.nX, lk_next, _, rfl, x, C, dx2, flds t B 0, rfl, upd_same, T.cl, T.nX, (by show 3 < 1000; decide), _, rfl, ?_⟩
      rw [pf_next]
      have s6 := same_off (o := .ins C dx2 (flds t B nx)) s5 hx
      refine k e2 x _ s6 hx ⟨dx2, t, B, upd_same, ?_, ?_, fun e m => s6 _ _ (cp.at_ e (List.mem_filter.mp m).1), ndr, by omega⟩
      · refine ⟨ob, hob, ?_⟩
        rw [upd_ne (Ne.symm nxt), upd_ne (Ne.symm nxt), upd_ne ntB]
        exact et3
      · rw [upd_ne (Ne.symm nxB), upd_ne (Ne.symm nxB)]
        exact upd_same
end
end R52
namespace R52
open PySem L2 L3
open C8 (pss_cut tCut pe_gc)
def rowB (es : List (Row × Addr)) (r : Row) : Bool := es.any fun e => decide (e.1 = r)
/-- the same names with the same options and numbers -/
def eqB (es gs : List (Row × Addr)) : Bool := (es.length == gs.length) && es.all fun e => rowB gs e.1
structure TxE (K : PySem.W.Frag) (mg : Str → Option Value) (C : Addr) : Prop where
  cA : PySem.W.findIn K (.ref C) "__class__" = some (some (.builtin "object.__class__"))
  cG : PySem.W.specialIn K (.builtin "object.__class__") "__get__" = some (some (.builtin "getset_descriptor.__get__"))
  cT : PySem.W.takesIn K (.builtin "object.__class__") = some true
  cM : PySem.W.mroIn K C (.type "object") = some true
  kCC : PySem.W.kitOne K (.ref C) (.ref C) = some true
  kL : PySem.W.kitOne K (.type "list") (.ref C) = some false
  zIsi : mg "isinstance" = none
  zLen : mg "len" = none
section
variable {P : Program} {w : World} {K : PySem.W.Frag} {mg : Str → Option Value} {base : Heap} {C CI CT CU fi ft fu : Addr}
/-- choices[name] (j = 0), choices.number(name) (j = 1) -/
def rowI (j : Nat) (r : Row) : Int := if j = 0 then r.2.1 else r.2.2
def spGet (j : Nat) (C CU : Addr) : Sp := fun vs H Q E => ∃ (c : Addr) (z : Str) (nx : Int) (es : List (Row × Addr)), vs = [.ref c, .str z] ∧ ChAt C H c es nx ∧
  (hasB z es = false → ∀ d H', ErrNew H H' d z → E (.ref CU) (some d) H') ∧ (∀ e ∈ es, e.1.1 = z → Q (.int (rowI j e.1)) H)
theorem scG : FnScope ["self", "name"] ["self", "name"] (defScope sGet) := ⟨rfl, rfl, rfl, by decide +kernel, rfl, by decide +kernel, by decide +kernel⟩
theorem ok_get {f : Addr} {fd : FuncData} (F : Fun K "__getitem__" "Choices.__getitem__" sGet f fd) (T : Txt P K mg C CI CT CU fi ft fu) : FnOk P w K mg base (L2.CX P w) 2 f fd ["self", "name"] (spGet 0 C CU) := by
  refine F.okX scG (fun vs H Q E h => ?_) (fun cdv A outer s H vs Q E hr h => ?_)
  · obtain ⟨c, z, nx, es, rfl, _⟩ := h
    rfl
  · obtain ⟨c, z, nx, es, rfl, hc, kU, k⟩ := h
    have hu := hu_of hr
    refine ⟨_, pss_cons (ps_if (pt_cmp (pc_dnotin hu (pv 1) (pe_fld (pv 0) rfl))) (pss_one (ps_raise rfl (takes_of rfl rfl rfl rfl) (pmk_err T.eU T.tU hr (by exact rfl) (pa_cons (pv 1) pa_nil)))) pss_nil)
      (PSs.nox (pss_one (ps_ret (pe_ix ix_tup (pe_dget hu (pe_fld (pv 0) rfl) (pv 1) (fun _ _ => rfl)) pe_int (fun _ _ => rfl))))), ?_⟩
    obtain ⟨dx, tn, td, hcc, cp⟩ := hc
    refine ⟨_, rfl, _, rfl, c, C, dx, _, _, rfl, hcc, T.cl, T.nC, lk_ch, td, _, rfl, DGet.k (k := .inr z) cp.td, _, rfl, ?_⟩
    rw [isSome_kvE cp.nd]
    cases e2 : hasB z es with
    | false => exact ifT rfl ⟨_, rfl, rfl, (by show 1 ≤ 900; decide), fun d hd => kU e2 d _ ⟨same_new hd, hd, upd_same⟩⟩
    | true =>
      obtain ⟨e, me, ez⟩ := hasB_some e2
      have g := DGet.k (k := .inr z) cp.td
      rw [(valV_kvE z es cp.nd).1 e me ez] at g
      exact ifF rfl ⟨_, rfl, c, C, dx, _, _, rfl, hcc, T.cl, T.nC, lk_ch, _, rfl, td, .ref e.2, rfl, g, e.2, _, _, .int e.1.2.1, rfl, rfl, SqT.of (cp.at_ e me), atN (j := 0) rfl rfl, k e me ez⟩
def spHas (C : Addr) : Sp := fun vs H Q _ => ∃ (c : Addr) (z : Str) (nx : Int) (es : List (Row × Addr)), vs = [.ref c, .str z] ∧ ChAt C H c es nx ∧ Q (.bl (hasB z es)) H
theorem scHa : FnScope ["self", "name"] ["self", "name"] (defScope sHas) := ⟨rfl, rfl, rfl, by decide +kernel, rfl, by decide +kernel, by decide +kernel⟩
theorem ok_has {f : Addr} {fd : FuncData} (F : Fun K "__contains__" "Choices.__contains__" sHas f fd) (T : Txt P K mg C CI CT CU fi ft fu) : FnOk P w K mg base CX0 1 f fd ["self", "name"] (spHas C) := by
  refine F.ok scHa (fun vs H Q E h => ?_) (fun cdv A outer s H vs Q E hr h => ?_)
  · obtain ⟨c, z, nx, es, rfl, _⟩ := h
    rfl
  · obtain ⟨c, z, nx, es, rfl, hc, k⟩ := h
    have hu := hu_of hr
    refine ⟨_, pss_one (ps_ret (pe_cmp (pc_din hu (pv 1) (pe_fld (pv 0) rfl)) rfl)), ?_⟩
    obtain ⟨dx, tn, td, hcc, cp⟩ := hc
    refine ⟨_, rfl, _, rfl, c, C, dx, _, _, rfl, hcc, T.cl, T.nC, lk_ch, td, _, rfl, DGet.k (k := .inr z) cp.td, ?_⟩
    rw [isSome_kvE cp.nd]
    exact k
def spLen (C : Addr) : Sp := fun vs H Q _ => ∃ (c : Addr) (nx : Int) (es : List (Row × Addr)), vs = [.ref c] ∧ ChAt C H c es nx ∧ Q (.int es.length) H
theorem scLe : FnScope ["self"] ["self"] (defScope sLen) := ⟨rfl, rfl, rfl, by decide +kernel, rfl, by decide +kernel, by decide +kernel⟩
theorem ok_len {f : Addr} {fd : FuncData} (F : Fun K "__len__" "Choices.__len__" sLen f fd) (T : Txt P K mg C CI CT CU fi ft fu) (zLen : mg "len" = none) : FnOk P w K mg base CX0 1 f fd ["self"] (spLen C) := by
  refine F.ok scLe (fun vs H Q E h => ?_) (fun cdv A outer s H vs Q E hr h => ?_)
  · obtain ⟨c, nx, es, rfl, _⟩ := h
    rfl
  · obtain ⟨c, nx, es, rfl, hc, k⟩ := h
    refine ⟨_, pss_one (ps_ret (pe_callB call_len_seq (by rfl) zLen PySem.boot_len (pa_cons (pe_fld (pv 0) rfl) pa_nil))), ?_⟩
    obtain ⟨dx, tn, td, hcc, cp⟩ := hc
    refine ⟨_, rfl, c, C, dx, _, _, rfl, hcc, T.cl, T.nN, lk_names, tn, _, rfl, .inr (cp.tn.sq), ?_⟩
    rw [List.length_map]
    exact k
def encR (es gs : List (Row × Addr)) : V → PyData
  | .ref p => match (es ++ gs).find? fun e => decide (e.2 = p) with
    | some e => .tuple [.int e.1.2.1, .int e.1.2.2]
    | none => .none
  | _ => .none
theorem encR_of {H : Hp} {es gs : List (Row × Addr)} (h : ∀ e ∈ es ++ gs, H e.2 = some (.tup [.int e.1.2.1, .int e.1.2.2])) {e : Row × Addr} (m : e ∈ es ++ gs) : encR es gs (.ref e.2) = .tuple [.int e.1.2.1, .int e.1.2.2] := by
  have q00 : encR es gs (.ref e.2) = (match (es ++ gs).find? fun e' => decide (e'.2 = e.2) with
    | some e => PyData.tuple [.int e.1.2.1, .int e.1.2.2]
    | none => .none) := rfl
  rw [q00]
  cases q : (es ++ gs).find? fun e' => decide (e'.2 = e.2) with
  | none => exact absurd (List.find?_eq_none.mp q e m) (by simp)
  | some e' =>
    have m' := List.mem_of_find?_eq_some q
    have q0 : decide (e'.2 = e.2) = true := List.find?_some (p := fun e' : Row × Addr => decide (e'.2 = e.2)) q
    have q1 := of_decide_eq_true q0
    have h1 := h e m
    have h2 := h e' m'
    rw [q1, h1] at h2
    injection h2 with h2
    injection h2 with h2
    injection h2 with h3 h4
    injection h4 with h4 _
    show PyData.tuple [.int e'.1.2.1, .int e'.1.2.2] = _
    rw [V.int.inj h3, V.int.inj h4]
theorem canLay2 (a b : Int) : (PyData.tuple [.int a, .int b]).canLay0 = true := by
  simp [PyData.canLay0, PyData.canLayAll0]
theorem eqv_rows (a b c d : Int) : PyData.eqv (.tuple [.int a, .int b]) (.tuple [.int c, .int d]) = decide ((a, b) = (c, d)) := by
  show ((a == c) && ((b == d) && true)) = _
  by_cases h1 : a = c <;> by_cases h2 : b = d <;> simp [h1, h2]
theorem hits_eq {H : Hp} {es0 gs : List (Row × Addr)} (h : ∀ e ∈ es0 ++ gs, H e.2 = some (.tup [.int e.1.2.1, .int e.1.2.2])) (nd : (gs.map fun e => e.1.1).Nodup) : ∀ es : List (Row × Addr), (∀ e ∈ es, e ∈ es0) → hitsB (encR es0 gs) (kvE gs) (kvE es) = es.all fun e => rowB gs e.1
  | [], _ => rfl
  | e :: es, hs => by
    have ih := hits_eq h nd es fun e' m => hs e' (List.mem_cons_of_mem _ m)
    have e1 : encR es0 gs (.ref e.2) = .tuple [.int e.1.2.1, .int e.1.2.2] := encR_of h (List.mem_append_left _ (hs e List.mem_cons_self))
    show (match valV (kvE gs) (.inr e.1.1) with | none => false | some y => PyData.eqv (encR es0 gs (.ref e.2)) (encR es0 gs y) && hitsB (encR es0 gs) (kvE gs) (kvE es)) = _
    rw [List.all_cons, ih, e1]
    obtain ⟨i1, i2⟩ := valV_kvE e.1.1 gs nd
    cases q : hasB e.1.1 gs with
    | false =>
      rw [i2 (hasB_none q)]
      have : rowB gs e.1 = false := by
        unfold rowB
        rw [List.any_eq_false]
        exact fun g mg z => hasB_none q g mg (congrArg (·.1) (of_decide_eq_true z))
      rw [this]
      rfl
    | true =>
      obtain ⟨g, mg, eg⟩ := hasB_some q
      rw [i1 g mg eg]
      have e2 : encR es0 gs (.ref g.2) = .tuple [.int g.1.2.1, .int g.1.2.2] := encR_of h (List.mem_append_right _ mg)
      show (PyData.eqv _ (encR es0 gs (.ref g.2)) && _) = _
      rw [e2, eqv_rows]
      have : rowB gs e.1 = decide ((e.1.2.1, e.1.2.2) = (g.1.2.1, g.1.2.2)) := by
        unfold rowB
        by_cases z : (e.1.2.1, e.1.2.2) = (g.1.2.1, g.1.2.2)
        · rw [decide_eq_true z, List.any_eq_true]
          refine ⟨g, mg, decide_eq_true ?_⟩
          obtain ⟨⟨a, b, c⟩, p⟩ := e
          obtain ⟨⟨a', b', c'⟩, p'⟩ := g
          obtain rfl : a' = a := eg
          injection z with z1 z2
          have z1 : b = b' := z1
          have z2 : c = c' := z2
          rw [z1, z2]
        · rw [decide_eq_false z, List.any_eq_false]
          intro g' mg' zz
          have eq1 : g'.1 = e.1 := of_decide_eq_true zz
          have same : g' = g := by
            have n1 : g'.1.1 = g.1.1 := (congrArg (·.1) eq1).trans eg.symm
            obtain ⟨a1, h1, r1⟩ := List.getElem_of_mem mg'
            obtain ⟨a2, h2, r2⟩ := List.getElem_of_mem mg
            have pw := List.pairwise_iff_getElem.mp nd
            rcases Nat.lt_trichotomy a1 a2 with l | l | l
            · refine absurd ?_ (pw a1 a2 (by rw [List.length_map]; exact h1) (by rw [List.length_map]; exact h2) l)
              rw [List.getElem_map, List.getElem_map, r1, r2]
              exact n1
            · subst l
              exact r1.symm.trans r2
            · refine absurd ?_ (pw a2 a1 (by rw [List.length_map]; exact h2) (by rw [List.length_map]; exact h1) l)
              rw [List.getElem_map, List.getElem_map, r1, r2]
              exact n1.symm
          rw [same] at eq1
          exact z (by rw [eq1])
      rw [this]
def spEq (C : Addr) : Sp := fun vs H Q _ => ∃ (c : Addr) (y : V) (nx : Int) (es : List (Row × Addr)), vs = [.ref c, y] ∧ ChAt C H c es nx ∧
  ((∃ c2 nx2 gs, y = .ref c2 ∧ ChAt C H c2 gs nx2 ∧ Q (.bl (eqB es gs)) H) ∨ (∃ l xs, y = .ref l ∧ H l = some (.lst xs) ∧ Q (.bl false) H))
theorem scEq : FnScope ["self", "other"] ["self", "other"] (defScope sEq) := ⟨rfl, rfl, rfl, by decide +kernel, rfl, by decide +kernel, by decide +kernel⟩
theorem ok_eq {f : Addr} {fd : FuncData} (F : Fun K "__eq__" "Choices.__eq__" sEq f fd) (T : Txt P K mg C CI CT CU fi ft fu) (TE : TxE K mg C) : FnOk P w K mg base CX0 1 f fd ["self", "other"] (spEq C) := by
  refine F.ok scEq (fun vs H Q E h => ?_) (fun cdv A outer s H vs Q E hr h => ?_)
  · obtain ⟨c, y, nx, es, rfl, _⟩ := h
    rfl
  · obtain ⟨c, y, nx, es, rfl, hc, k⟩ := h
    refine ⟨_, pss_one (ps_ret (pe_and (pe_callB call_isi (by rfl) TE.zIsi PyProof.Rows.boot_isinstance (pa_cons (pv 1) (pa_cons (pe_glob (v := .ref C) rfl T.gC rfl) pa_nil)))
      (pe_one (pe_cmpR (op_eqDD hr.units) (pe_fld (pv 0) rfl) (pe_fld (pv 1) rfl) (nomark _))))), ?_⟩
    obtain ⟨dx, tn, td, hcc, cp⟩ := hc
    rcases k with ⟨c2, nx2, gs, rfl, ⟨dx2, tn2, td2, hc2, cp2⟩, k⟩ | ⟨l, xs, rfl, hl, k⟩
    · refine ⟨_, rfl, _, _, _, _, true, rfl, .own C, .base (.ins hc2 T.cl TE.cA TE.cG TE.cT TE.cM), TE.kCC, _, rfl, iteT ?_⟩
      refine ⟨_, rfl, c, C, dx, _, _, rfl, hcc, T.cl, T.nC, lk_ch, _, rfl, c2, C, dx2, _, _, rfl, hc2, T.cl, T.nC, lk_ch, td, td2, kvE es, kvE gs, encR es gs, rfl, rfl, Rd.of cp.td, Rd.of cp2.td, fun p m => ?_, fun p m => ?_, ?_⟩
      · obtain ⟨e, me, rfl⟩ := List.mem_map.mp m
        have all : ∀ e ∈ es ++ gs, H e.2 = some (.tup [.int e.1.2.1, .int e.1.2.2]) := fun e m => (List.mem_append.mp m).elim (cp.at_ e) (cp2.at_ e)
        show Dp K H (.ref e.2) (encR es gs (.ref e.2)) ∧ (encR es gs (.ref e.2)).canLay0 = true ∧ (encR es gs (.ref e.2)).depth ≤ 10
        rw [encR_of all (List.mem_append_left _ me)]
        exact ⟨.tup (SqT.of (cp.at_ e me)) (.cons (.int _) (.cons (.int _) .nil)), canLay2 _ _, by simp only [PyData.depth, PyData.depthAll]; omega⟩
      · obtain ⟨e, me, rfl⟩ := List.mem_map.mp m
        have all : ∀ e ∈ es ++ gs, H e.2 = some (.tup [.int e.1.2.1, .int e.1.2.2]) := fun e m => (List.mem_append.mp m).elim (cp.at_ e) (cp2.at_ e)
        show Dp K H (.ref e.2) (encR es gs (.ref e.2)) ∧ (encR es gs (.ref e.2)).canLay0 = true
        rw [encR_of all (List.mem_append_right _ me)]
        exact ⟨.tup (SqT.of (cp2.at_ e me)) (.cons (.int _) (.cons (.int _) .nil)), canLay2 _ _⟩
      · have all : ∀ e ∈ es ++ gs, H e.2 = some (.tup [.int e.1.2.1, .int e.1.2.2]) := fun e m => (List.mem_append.mp m).elim (cp.at_ e) (cp2.at_ e)
        rw [hits_eq all cp2.nd es fun e m => m]
        unfold kvE
        rw [List.length_map, List.length_map]
        exact k
    · exact ⟨_, rfl, _, _, _, _, false, rfl, .own C, .base (.lst hl), TE.kL, _, rfl, iteF k⟩
end
end R52
namespace ND
open PySem PySem.Spec PyProof.Rows L2
mutual
/-- this value is that key -/
inductive NkAt (H : Hp) : NestedKey → V → Prop
  | non : NkAt H .none .non
  | bl (b : Bool) {i : Int} : i = (if b = true then 1 else 0) → NkAt H (.num i) (.bl b)
  | int (i : Int) : NkAt H (.num i) (.int i)
  | str (x : Str) : NkAt H (.text x) (.str x)
  | tup {a : Addr} {vs : List V} {ks : List NestedKey} : H a = some (.tup vs) → NkAll H ks vs → NkAt H (.tup ks) (.ref a)
inductive NkAll (H : Hp) : List NestedKey → List V → Prop
  | nil : NkAll H [] []
  | cons {k : NestedKey} {v : V} {ks : List NestedKey} {vs : List V} : NkAt H k v → NkAll H ks vs → NkAll H (k :: ks) (v :: vs)
end
mutual
theorem NkAt.same {H H' : Hp} (s : ∀ a vs, H a = some (.tup vs) → H' a = some (.tup vs)) : ∀ (k : NestedKey) (v : V), NkAt H k v → NkAt H' k v
  | .none, _, h => by cases h; exact .non
  | .num i, _, h => by
    cases h with
    | bl b e => exact .bl b e
    | int _ => exact .int _
  | .text x, _, h => by cases h; exact .str _
  | .tup ks, _, h => by
    cases h with
    | tup e r => exact .tup (s _ _ e) (NkAll.same s ks _ r)
theorem NkAll.same {H H' : Hp} (s : ∀ a vs, H a = some (.tup vs) → H' a = some (.tup vs)) : ∀ (ks : List NestedKey) (vs : List V), NkAll H ks vs → NkAll H' ks vs
  | [], _, h => by cases h; exact .nil
  | k :: ks, _, h => by
    cases h with
    | cons a r => exact .cons (NkAt.same s k _ a) (NkAll.same s ks _ r)
end
section
variable {P : Program} {w : World}
mutual
theorem NkAt.is {H : Hp} {h : Heap} (ok : HOk P w H h) : ∀ (k : NestedKey) (v : V) (u : Value), NkAt H k v → RelV v u → NestedIs h k u
  | .none, _, u, x, r => by cases x; cases (show u = Value.none from r); exact .none
  | .num i, _, u, x, r => by
    cases x with
    | bl b e => cases (show u = Value.bool b from r); exact .bool e
    | int _ => obtain ⟨t, e⟩ := (show ∃ t, u = Value.int i t from r); rw [e]; exact .int _ _
  | .text x, _, u, h, r => by
    cases h
    obtain ⟨t, e⟩ := (show ∃ t, u = Value.str x t from r)
    rw [e]
    exact .text _ _
  | .tup ks, _, u, x, r => by
    cases x with
    | @tup a vs _ e q =>
      cases (show u = Value.ref a from r)
      obtain ⟨_, its, rv, o, h1, h2, n, h3⟩ := (show ObjOk P w H h a (.tup vs) from ok a _ e)
      exact .tup h1 h2 h3 (by simpa using NkAll.is ok ks vs its q rv)
theorem NkAll.is {H : Hp} {h : Heap} (ok : HOk P w H h) : ∀ (ks : List NestedKey) (vs : List V) (us : List Value), NkAll H ks vs → Vals vs us → NestedAll h ks us
  | [], _, us, x, r => by cases x; cases r; exact .nil
  | k :: ks, _, us, x, r => by
    cases x with
    | cons a q => cases r with | cons r1 r2 => exact .cons (NkAt.is ok k _ _ a r1) (NkAll.is ok ks _ _ q r2)
end
end
/-- three things at each place: the key, where it stands, the value -/
abbrev Row := NestedKey × Addr × V
abbrev NR : List Row → List (NestedKey × Addr × Value) → Prop := Paired fun p q => p.1 = q.1 ∧ p.2.1 = q.2.1 ∧ RelV p.2.2 q.2.2
def flat (ks : List Row) : List (NestedKey × V) := ks.map fun x => (x.1, x.2.2)
def putN (ks : List Row) (k : NestedKey) (b : Addr) (v : V) : List Row :=
  if (ks.any fun x => decide (x.1 = k)) = true then ks.map (fun x => if x.1 = k then (x.1, x.2.1, v) else x) else ks ++ [(k, b, v)]
theorem any_flat (k : NestedKey) : ∀ ks : List Row, ((flat ks).any fun x => decide (x.1 = k)) = ks.any fun x => decide (x.1 = k)
  | [] => rfl
  | x :: r => by
    show (decide (x.1 = k) || (flat r).any _) = _
    rw [any_flat k r]
    rfl
theorem flat_put (ks : List Row) (k : NestedKey) (b : Addr) (v : V) : flat (putN ks k b v) = putK (flat ks) k v := by
  unfold putN putK
  rw [any_flat]
  by_cases h : (ks.any fun x => decide (x.1 = k)) = true
  · rw [if_pos h, if_pos h]
    unfold flat
    rw [List.map_map, List.map_map]
    refine List.map_congr_left fun x _ => ?_
    show _ = if x.1 = k then _ else _
    by_cases e : x.1 = k
    · rw [if_pos e]; show ((if x.1 = k then (x.1, x.2.1, v) else x : Row).1, (if x.1 = k then (x.1, x.2.1, v) else x : Row).2.2) = _; rw [if_pos e]
    · rw [if_neg e]; show ((if x.1 = k then (x.1, x.2.1, v) else x : Row).1, (if x.1 = k then (x.1, x.2.1, v) else x : Row).2.2) = _; rw [if_neg e]
  · rw [if_neg h, if_neg h]
    unfold flat
    rw [List.map_append]
    rfl
theorem put_mem {ks : List Row} {k : NestedKey} {b : Addr} {v : V} {p : Row} (h : p ∈ putN ks k b v) : (∃ u, (p.1, p.2.1, u) ∈ ks) ∨ (p.1 = k ∧ p.2.1 = b) := by
  unfold putN at h
  split at h
  · obtain ⟨x, hx, e⟩ := List.mem_map.mp h
    refine .inl ⟨x.2.2, ?_⟩
    by_cases q : x.1 = k
    · rw [if_pos q] at e; rw [← e]; exact hx
    · rw [if_neg q] at e; rw [← e]; exact hx
  · rcases List.mem_append.mp h with h | h
    · exact .inl ⟨p.2.2, h⟩
    · rw [List.mem_singleton.mp h]; exact .inr ⟨rfl, rfl⟩
theorem NR.at {ks : List Row} {xs : List (NestedKey × Addr × Value)} (r : NR ks xs) (k : NestedKey) : RelO (valV (flat ks) k) ((atKey xs k).map (·.2)) := by
  induction r with
  | nil => exact True.intro
  | @cons p q ps qs h t ih =>
    obtain ⟨h1, _, h2⟩ := h
    show RelO (valV ((p.1, p.2.2) :: flat ps) k) _
    by_cases e : p.1 = k
    · have b : atKey (q :: qs) k = some q.2 := by simp [atKey, List.find?_cons, h1.symm.trans e]
      rw [valV_pos (p := (p.1, p.2.2)) e, b]
      exact h2
    · have e' : ¬ q.1 = k := fun z => e (h1.trans z)
      have b : atKey (q :: qs) k = atKey qs k := by simp [atKey, List.find?_cons, e']
      rw [valV_neg (p := (p.1, p.2.2)) e, b]
      exact ih
theorem NR.repl {ks : List Row} {xs : List (NestedKey × Addr × Value)} (r : NR ks xs) (k : NestedKey) {v : V} {u : Value} (rv : RelV v u) :
    NR (ks.map fun x => if x.1 = k then (x.1, x.2.1, v) else x) (xs.map (putAt k u)) := by
  induction r with
  | nil => exact .nil
  | @cons p q ps qs h t ih =>
    obtain ⟨h1, h2, h3⟩ := h
    rw [List.map_cons, List.map_cons]
    refine .cons ?_ ih
    unfold putAt
    by_cases e : p.1 = k
    · simp only [if_pos e, if_pos (h1.symm.trans e)]; exact ⟨h1, h2, rv⟩
    · simp only [if_neg e, if_neg fun z : q.1 = k => e (h1.trans z)]; exact ⟨h1, h2, h3⟩
theorem NR.put {ks : List Row} {xs : List (NestedKey × Addr × Value)} (r : NR ks xs) (k : NestedKey) (b : Addr) {v : V} {u : Value} (rv : RelV v u) : NR (putN ks k b v) (storedH xs k b u) := by
  have e : (ks.any fun x => decide (x.1 = k)) = (atKey xs k).isSome := by
    have q := (r.at k).isSome_eq
    rw [Option.isSome_map] at q
    rw [← q, ← any_flat, valV_any]
  unfold putN storedH
  rw [e]
  by_cases q : (atKey xs k).isSome = true
  · rw [if_pos q, if_pos q]; exact r.repl k rv
  · rw [if_neg q, if_neg q]; exact Paired.snoc r ⟨rfl, rfl, rv⟩
/-- the dict's object, by what stands in it alone -/
def NdI (P : Program) (w : World) (a : Addr) (ks : List Row) (h : Heap) : Prop := ks.length ≤ sizeLine ∧ (a == sysModules) = false ∧ ∃ xs, NR ks xs ∧
  ∃ o es ep, h.get? a = some o ∧ o.ExactDict ∧ o.data = .dict es ep ∧ es.toList = xs.map (entryOfKey (nestedKind P w)) ∧ (xs.map (·.1)).Nodup
def ndO (P : Program) (w : World) (a : Addr) (ks : List Row) : HO := .ext (NdI P w a ks)
/-- at a stands a dict of these keys and values -/
def NdAt (P : Program) (w : World) (H : Hp) (a : Addr) (kvs : List (NestedKey × V)) : Prop :=
  ∃ ks : List Row, H a = some (ndO P w a ks) ∧ flat ks = kvs ∧ ∀ x ∈ ks, NkAt H x.1 (.ref x.2.1) ∧ x.1.depth ≤ 8
section
variable {P : Program} {w : World}
theorem ndI_ok {H : Hp} {h : Heap} {a : Addr} {ks : List Row} (n : NdI P w a ks h) : ObjOk P w H h a (ndO P w a ks) := by
  obtain ⟨z, y, xs, r, o, es, ep, e, c⟩ := id n
  refine ⟨n, ⟨o, e⟩, fun h1 h2 q k => ?_⟩
  obtain ⟨z, y, xs, r, o, es, ep, e, c⟩ := q
  exact ⟨z, y, xs, r, o, es, ep, k _ e, c⟩
theorem NdAt.same {H H' : Hp} {a : Addr} {kvs : List (NestedKey × V)} (n : NdAt P w H a kvs) (s : ∀ b vs, H b = some (.tup vs) → H' b = some (.tup vs)) (e : H' a = H a) : NdAt P w H' a kvs := by
  obtain ⟨ks, h1, h2, h3⟩ := n
  exact ⟨ks, e.trans h1, h2, fun x hx => ⟨NkAt.same s _ _ (h3 x hx).1, (h3 x hx).2⟩⟩
theorem nd_open {H : Hp} {h : Heap} {a : Addr} {ks : List Row} (ok : HOk P w H h) (e : H a = some (ndO P w a ks)) (hk : ∀ x ∈ ks, NkAt H x.1 (.ref x.2.1) ∧ x.1.depth ≤ 8) :
    ks.length ≤ sizeLine ∧ (a == sysModules) = false ∧ ∃ xs, NR ks xs ∧ h.DictOfH (nestedKind P w) a xs := by
  obtain ⟨⟨z, y, xs, r, o, es, ep, h1, h2, h3, h4, h5⟩, _, _⟩ := (show ObjOk P w H h a (ndO P w a ks) from ok a _ e)
  refine ⟨z, y, xs, r, o, es, ep, h1, h2, h3, h4, ?_, h5⟩
  have all : ∀ {l : List Row} {m : List (NestedKey × Addr × Value)}, NR l m → (∀ x ∈ l, NkAt H x.1 (.ref x.2.1) ∧ x.1.depth ≤ 8) → ∀ x ∈ m, (nestedKind P w).is h x.1 x.2.1 := by
    intro l m q
    induction q with
    | nil => intro _ x hx; exact nomatch hx
    | @cons p q ps qs hq t ih =>
      intro hl x hx
      rcases List.mem_cons.mp hx with e | hx
      · subst e
        obtain ⟨g1, g2, _⟩ := hq
        have := hl p List.mem_cons_self
        rw [g1, g2] at this
        exact ⟨NkAt.is ok _ _ _ this.1 rfl, this.2⟩
      · exact ih (fun y hy => hl y (List.mem_cons_of_mem _ hy)) x hx
  exact all r hk
end
section
variable {X : Cx} {pins : List (Addr × Obj)} {σ : L2.St} {H : Hp} {s : Shared} {a b : Addr} {kvs : List (NestedKey × V)} {k : NestedKey} {v : V} {u r : Value} {A : Around} {E : Value → Shared → Prop}
abbrev Roomy (A : Around) : Prop := A.units + 9 < cLine
theorem room_in1 (h : Roomy A) : (nestedKind X.prog X.w).room A.in1 := by
  show A.units + 1 + 8 < cLine
  have : A.units + 9 < cLine := h
  omega
theorem nd_getItem {Q : Value → Shared → Prop} (hu : Roomy A) (I : Inv X pins σ H s) (n : NdAt X.prog X.w H a kvs) (hk : NkAt H k (.ref b)) (hd : k.depth ≤ 8) (g : valV kvs k = some v) (h : ∀ w' s', Inv X pins σ H s' → RelV v w' → Q w' s') :
    wpAny (model X.prog X.w) A (getItem (.ref a) (.ref b)) Q E s := by
  obtain ⟨ks, h1, h2, h3⟩ := n
  obtain ⟨z, y, xs, rel, dd⟩ := nd_open I.hok h1 h3
  obtain ⟨w', hw, rw'⟩ := RelO.some_of (v := v) (o := (atKey xs k).map (·.2)) (by rw [← g, ← h2]; exact rel.at k)
  obtain ⟨p, hp, hp2⟩ := Option.map_eq_some_iff.mp hw
  refine wpAny_getItem_heap (room_in1 (X := X) hu) ⟨NkAt.is I.hok _ _ _ hk rfl, hd⟩ dd hp ?_
  rw [hp2]
  exact h w' _ (I.tok _) rw'
theorem nd_notIn {Q : Value → Shared → Prop} (hu : Roomy A) (I : Inv X pins σ H s) (n : NdAt X.prog X.w H a kvs) (hk : NkAt H k (.ref b)) (hd : k.depth ≤ 8) (h : ∀ s', Inv X pins σ H s' → Q (.bool (!(valV kvs k).isSome)) s') :
    wpAny (model X.prog X.w) A (compareOp .NotIn (.ref b) (.ref a)) Q E s := by
  obtain ⟨ks, h1, h2, h3⟩ := n
  obtain ⟨z, y, xs, rel, dd⟩ := nd_open I.hok h1 h3
  refine wpAny_notIn_heap (room_in1 (X := X) hu) ⟨NkAt.is I.hok _ _ _ hk rfl, hd⟩ y dd ?_
  have q := (rel.at k).isSome_eq
  rw [Option.isSome_map, h2] at q
  rw [← q]
  exact h _ (I.tok _)
theorem nd_setItem {Q : Unit → Shared → Prop} (hu : Roomy A) (I : Inv X pins σ H s) (n : NdAt X.prog X.w H a kvs) (hk : NkAt H k (.ref b)) (hd : k.depth ≤ 8) (hl : kvs.length < sizeLine) (rv : RelV v r)
    (h : ∀ o s', NdAt X.prog X.w (upd H a o) a (putK kvs k v) → (∀ c vs, H c = some (.tup vs) → c ≠ a) → Inv X pins σ (upd H a o) s' → Q () s') :
    wpAny (model X.prog X.w) A (setItem (.ref a) (.ref b) r) Q E s := by
  obtain ⟨ks, h1, h2, h3⟩ := n
  obtain ⟨z, y, xs, rel, dd⟩ := nd_open I.hok h1 h3
  have hz : xs.length ≤ sizeLine := by rw [← Paired.length rel]; exact z
  have na : ∀ c vs, H c = some (.tup vs) → c ≠ a := fun c vs e z => by
    rw [z, h1] at e
    cases e
  have same : ∀ (o : HO) c vs, H c = some (.tup vs) → upd H a o c = some (.tup vs) := fun o c vs e => by
    rw [upd_ne (na c vs e)]
    exact e
  have kl : (putN ks k b v).length ≤ sizeLine := by
    have q1 : (putN ks k b v).length = (putK kvs k v).length := by
      have := congrArg List.length (flat_put ks k b v)
      rw [h2] at this
      rw [← this]
      exact (List.length_map _).symm
    have := length_putK kvs k v
    omega
  refine wpAny_setItem_heap (hsz := hz) (room_in1 (X := X) hu) ⟨NkAt.is I.hok _ _ _ hk rfl, hd⟩ dd fun h' dd' hs => ?_
  obtain ⟨q, es, ep, hq, g2, g3, g4, _, g5⟩ := dd'
  refine h (ndO X.prog X.w a (putN ks k b v)) _ ⟨putN ks k b v, upd_same, by rw [flat_put, h2], fun x hx => ?_⟩ na ?_
  · rcases put_mem hx with ⟨u', hu'⟩ | ⟨e1, e2⟩
    · have := h3 _ hu'
      exact ⟨NkAt.same (same _) _ _ this.1, this.2⟩
    · rw [e1, e2]
      exact ⟨NkAt.same (same _) _ _ hk, hd⟩
  · exact d_write I (by rw [h1]; exact True.intro) hs ⟨q, hq⟩ (ndI_ok ⟨kl, y, _, rel.put k b rv, q, es, ep, hq, g2, g3, g4, g5⟩)
end
/-- {} -/
def tNdNew (P : Program) (w : World) : TE := fun _ H Q => ∀ p o, H p = none → NdAt P w (upd H p o) p [] → Q (.ref p) (upd H p o)
def rNdKey (P : Program) (w : World) (x y : V) (H : Hp) (k : NestedKey) (kvs : List (NestedKey × V)) : Prop := ∃ a b : Addr, x = .ref a ∧ y = .ref b ∧ NdAt P w H a kvs ∧ NkAt H k y ∧ k.depth ≤ 8
def tNdGet (P : Program) (w : World) (td ty : TE) : TE := fun σ H Q => td σ H fun x H1 => ty σ H1 fun y H2 => ∃ k kvs v, rNdKey P w x y H2 k kvs ∧ valV kvs k = some v ∧ Q v H2
def tNdNotIn (P : Program) (w : World) (ty td : TE) : TE := fun σ H Q => ty σ H fun y H1 => td σ H1 fun x H2 => ∃ k kvs, rNdKey P w x y H2 k kvs ∧ Q (.bl (!(valV kvs k).isSome)) H2
/-- d[k] = v, by values -/
def rNdSet (P : Program) (w : World) : TSet := fun x y v H Q => ∃ a k kvs, x = .ref a ∧ rNdKey P w x y H k kvs ∧ kvs.length < sizeLine ∧ ∀ o, NdAt P w (upd H a o) a (putK kvs k v) → (∀ c vs, H c = some (.tup vs) → c ≠ a) → Q (upd H a o)
section
variable {X : Cx} {o i : Expr} {pos : Pos} {td ty : TE}
theorem pe_ndnew : PE X (.Dict [] [] pos) (tNdNew X.prog X.w) := ⟨fun pins s σ H Q I h => by
  have n : NdI X.prog X.w s.heap.objs.size [] (s.heap.push { cls := .type "dict", data := .dict #[] }) :=
    ⟨Nat.zero_le _, beq_eq_false_iff_ne.mpr (Ne.symm (Nat.ne_of_lt I.big)), [], .nil, _, #[], 0, Heap.get?_push_size _ rfl, ⟨rfl, rfl, rfl⟩, rfl, rfl, List.nodup_nil⟩
  exact wpAny_Dict_empty ⟨.ref s.heap.objs.size, _, I.laid (a := s.heap.objs.size) (o := ndO X.prog X.w s.heap.objs.size []) (t' := s.toks) (fun _ _ q => Heap.get?_push_of_some _ q) (Nat.le_refl _) (ndI_ok n), rfl,
    h _ _ (I.hok.fresh (Nat.le_refl _)) ⟨[], upd_same, rfl, fun x hx => nomatch hx⟩⟩⟩
theorem nd_typeIs {pins : List (Addr × Obj)} {σ : L2.St} {H : Hp} {s : Shared} {a : Addr} {kvs : List (NestedKey × V)} (I : Inv X pins σ H s) (n : NdAt X.prog X.w H a kvs) : s.TypeIs (.ref a) "dict" := by
  obtain ⟨ks, h1, h2, h3⟩ := n
  obtain ⟨z, y, xs, rel, dd⟩ := nd_open I.hok h1 h3
  exact dd.typeIs
theorem pe_ndget (hu : Roomy X.A) (ho : PE X o td) (hi : PE X i ty) (hs : NoSl i) : PE X (.Subscript o i pos) (tNdGet X.prog X.w td ty) := by
  refine ⟨fun pins s σ H Q I h => ?_⟩
  refine subD_of PySem.F.slot_dict_getitem.lookup hs (thn (ho.run pins s σ H _ I h) fun u s1 ⟨x, H1, I1, rx, q1⟩ => thn (hi.run pins s1 σ H1 _ I1 q1) fun iv s2 ⟨y, H2, I2, ry, k, kvs, v, ⟨a, b, ex, ey, n, hk, hd⟩, g, q2⟩ => ?_)
  subst ex ey
  obtain rfl : u = Value.ref a := rx
  obtain rfl : iv = Value.ref b := ry
  exact ⟨nd_typeIs I2 n, nd_getItem hu I2 n hk hd g fun w' s3 I3 rw' => ⟨v, H2, I3, rw', q2⟩⟩
theorem pc_ndnotin (hu : Roomy X.A) (hi : PE X i ty) (ho : PE X o td) : PC X .NotIn i o (tNdNotIn X.prog X.w ty td) := by
  refine ⟨fun pins s σ H Q I h => ?_⟩
  refine thn (hi.run pins s σ H _ I h) fun iv s1 ⟨y, H1, I1, ry, q1⟩ => thn (ho.run pins s1 σ H1 _ I1 q1) fun u s2 ⟨x, H2, I2, rx, k, kvs, ⟨a, b, ex, ey, n, hk, hd⟩, q2⟩ => ?_
  subst ex ey
  obtain rfl : u = Value.ref a := rx
  obtain rfl : iv = Value.ref b := ry
  exact nd_notIn hu I2 n hk hd fun s3 I3 => ⟨.bl (!(valV kvs k).isSome), H2, I3, rfl, q2⟩
theorem set_nd (hu : Roomy X.A) : PSet X (rNdSet X.prog X.w) := by
  intro pins s σ H x y v xv yv u Q I rx ry rv h
  obtain ⟨a, k, kvs, ex, ⟨a', b, ex', ey, n, hk, hd⟩, hl, q⟩ := h
  subst ex ey
  cases ex'
  obtain rfl : xv = Value.ref a := rx
  obtain rfl : yv = Value.ref b := ry
  exact nd_setItem hu I n hk hd hl rv fun o s' n' na I' => ⟨_, I', q o n' na⟩
variable {P : Program} {w : World}
theorem pe_ndgetW (P : Program) (w : World) (hu : Roomy X.A) (ho : PE X o td) (hi : PE X i ty) (hs : NoSl i) (hP : X.prog = P := by rfl) (hw : X.w = w := by rfl) : PE X (.Subscript o i pos) (tNdGet P w td ty) := by
  subst hP hw
  exact pe_ndget hu ho hi hs
theorem pc_ndnotinW (P : Program) (w : World) (hu : Roomy X.A) (hi : PE X i ty) (ho : PE X o td) (hP : X.prog = P := by rfl) (hw : X.w = w := by rfl) : PC X .NotIn i o (tNdNotIn P w ty td) := by
  subst hP hw
  exact pc_ndnotin hu hi ho
end
end ND
namespace FT
open Classical
/-- a reduced form: a value, or a choice (its level) with what is below it -/
inductive Tr (α : Type) where
  | leaf (v : α)
  | node (l : Nat) (ts : List (Tr α))
section
variable {α : Type}
/-- put behind, if it is not there -/
noncomputable def fin (t : Tr α) (ns : List (Tr α)) : List (Tr α) := if t ∈ ns then ns else ns ++ [t]
mutual
/-- the nodes of a form, each behind all that is below it -/
noncomputable def enum : Tr α → List (Tr α) → List (Tr α)
  | .leaf v, ns => fin (.leaf v) ns
  | .node l ts, ns => if Tr.node l ts ∈ ns then ns else fin (.node l ts) (enums ts ns)
noncomputable def enums : List (Tr α) → List (Tr α) → List (Tr α)
  | [], ns => ns
  | t :: ts, ns => enums ts (enum t ns)
end
/-- a choice, unless it is needless -/
noncomputable def mk (l : Nat) (ts : List (Tr α)) : Tr α := match ts with
  | [] => .node l []
  | t :: r => if ∀ u ∈ r, u = t then t else .node l (t :: r)
def Closed (ns : List (Tr α)) : Prop := ∀ l ts, Tr.node l ts ∈ ns → ∀ t ∈ ts, t ∈ ns
theorem fin_of {t : Tr α} {ns : List (Tr α)} (h : t ∈ ns) : fin t ns = ns := by unfold fin; rw [if_pos h]
theorem fin_new {t : Tr α} {ns : List (Tr α)} (h : t ∉ ns) : fin t ns = ns ++ [t] := by unfold fin; rw [if_neg h]
theorem fin_pre (t : Tr α) (ns : List (Tr α)) : ∃ m, fin t ns = ns ++ m := by
  by_cases h : t ∈ ns
  · exact ⟨[], by rw [fin_of h, List.append_nil]⟩
  · exact ⟨[t], fin_new h⟩
theorem fin_mem (t : Tr α) (ns : List (Tr α)) : t ∈ fin t ns := by
  by_cases h : t ∈ ns
  · rw [fin_of h]; exact h
  · rw [fin_new h]; exact List.mem_append_right _ (List.mem_singleton.mpr rfl)
mutual
theorem enum_pre : ∀ (t : Tr α) (ns : List (Tr α)), ∃ m, enum t ns = ns ++ m
  | .leaf v, ns => by rw [enum]; exact fin_pre _ _
  | .node l ts, ns => by
    rw [enum]
    split
    · exact ⟨[], (List.append_nil _).symm⟩
    · obtain ⟨m, e⟩ := enums_pre ts ns
      obtain ⟨m2, e2⟩ := fin_pre (.node l ts) (enums ts ns)
      exact ⟨m ++ m2, by rw [e2, e, List.append_assoc]⟩
theorem enums_pre : ∀ (ts : List (Tr α)) (ns : List (Tr α)), ∃ m, enums ts ns = ns ++ m
  | [], ns => ⟨[], by rw [enums, List.append_nil]⟩
  | t :: ts, ns => by
    rw [enums]
    obtain ⟨m, e⟩ := enum_pre t ns
    obtain ⟨m2, e2⟩ := enums_pre ts (enum t ns)
    exact ⟨m ++ m2, by rw [e2, e, List.append_assoc]⟩
end
theorem enum_keep {t x : Tr α} {ns : List (Tr α)} (h : x ∈ ns) : x ∈ enum t ns := by
  obtain ⟨m, e⟩ := enum_pre t ns
  rw [e]; exact List.mem_append_left _ h
theorem enums_keep {ts : List (Tr α)} {x : Tr α} {ns : List (Tr α)} (h : x ∈ ns) : x ∈ enums ts ns := by
  obtain ⟨m, e⟩ := enums_pre ts ns
  rw [e]; exact List.mem_append_left _ h
theorem enum_mem (t : Tr α) (ns : List (Tr α)) : t ∈ enum t ns := by
  cases t with
  | leaf v => rw [enum]; exact fin_mem _ _
  | node l ts =>
    rw [enum]
    split
    · assumption
    · exact fin_mem _ _
theorem enums_mem : ∀ (ts : List (Tr α)) (ns : List (Tr α)), ∀ t ∈ ts, t ∈ enums ts ns
  | [], _, _, h => nomatch h
  | u :: ts, ns, t, h => by
    rw [enums]
    rcases List.mem_cons.mp h with e | h
    · rw [e]; exact enums_keep (enum_mem u ns)
    · exact enums_mem ts _ t h
theorem enum_of {t : Tr α} {ns : List (Tr α)} (h : t ∈ ns) : enum t ns = ns := by
  cases t with
  | leaf v => rw [enum]; exact fin_of h
  | node l ts => rw [enum, if_pos h]
theorem enums_of : ∀ {ts : List (Tr α)} {ns : List (Tr α)}, (∀ t ∈ ts, t ∈ ns) → enums ts ns = ns
  | [], ns, _ => by rw [enums]
  | t :: ts, ns, h => by rw [enums, enum_of (h t List.mem_cons_self)]; exact enums_of fun u hu => h u (List.mem_cons_of_mem _ hu)
theorem enums_append : ∀ (ts us : List (Tr α)) (ns : List (Tr α)), enums (ts ++ us) ns = enums us (enums ts ns)
  | [], us, ns => by rw [List.nil_append, enums]
  | t :: ts, us, ns => by rw [List.cons_append, enums, enums, enums_append ts us]
theorem fin_closed {t : Tr α} {ns : List (Tr α)} (c : Closed ns) (h : ∀ l ts, t = .node l ts → ∀ u ∈ ts, u ∈ ns) : Closed (fin t ns) := by
  by_cases q : t ∈ ns
  · rw [fin_of q]; exact c
  · rw [fin_new q]
    intro l ts m u hu
    rcases List.mem_append.mp m with m | m
    · exact List.mem_append_left _ (c l ts m u hu)
    · exact List.mem_append_left _ (h l ts (List.mem_singleton.mp m).symm u hu)
theorem fin_nodup {t : Tr α} {ns : List (Tr α)} (c : ns.Nodup) : (fin t ns).Nodup := by
  by_cases q : t ∈ ns
  · rw [fin_of q]; exact c
  · rw [fin_new q]
    refine List.nodup_append.mpr ⟨c, List.nodup_cons.mpr ⟨(fun z => nomatch z : t ∉ ([] : List (Tr α))), List.nodup_nil⟩, fun a ha b hb e => ?_⟩
    rw [List.mem_singleton.mp hb] at e
    exact q (e ▸ ha)
mutual
theorem enum_closed : ∀ (t : Tr α) (ns : List (Tr α)), Closed ns → Closed (enum t ns)
  | .leaf v, ns, c => by rw [enum]; exact fin_closed c fun _ _ e => nomatch e
  | .node l ts, ns, c => by
    rw [enum]
    split
    · exact c
    · exact fin_closed (enums_closed ts ns c) fun l' ts' e => by
        cases e
        exact enums_mem ts ns
theorem enums_closed : ∀ (ts : List (Tr α)) (ns : List (Tr α)), Closed ns → Closed (enums ts ns)
  | [], ns, c => by rw [enums]; exact c
  | t :: ts, ns, c => by rw [enums]; exact enums_closed ts _ (enum_closed t ns c)
end
mutual
theorem enum_nodup : ∀ (t : Tr α) (ns : List (Tr α)), ns.Nodup → (enum t ns).Nodup
  | .leaf v, ns, c => by rw [enum]; exact fin_nodup c
  | .node l ts, ns, c => by
    rw [enum]
    split
    · exact c
    · exact fin_nodup (enums_nodup ts ns c)
theorem enums_nodup : ∀ (ts : List (Tr α)) (ns : List (Tr α)), ns.Nodup → (enums ts ns).Nodup
  | [], ns, c => by rw [enums]; exact c
  | t :: ts, ns, c => by rw [enums]; exact enums_nodup ts _ (enum_nodup t ns c)
end
/-- a choice is drawn as all that is below it, then itself -/
theorem enum_mk {l : Nat} {ts ns : List (Tr α)} (c : Closed ns) (ne : ts ≠ []) : enum (mk l ts) ns = fin (mk l ts) (enums ts ns) := by
  cases ts with
  | nil => exact absurd rfl ne
  | cons t r =>
    unfold mk
    by_cases h : ∀ u ∈ r, u = t
    · simp only [if_pos h]
      have e : enums (t :: r) ns = enum t ns := by
        rw [enums]
        refine enums_of fun u hu => ?_
        rw [h u hu]
        exact enum_mem t ns
      rw [e, fin_of (enum_mem t ns)]
    · simp only [if_neg h]
      rw [enum]
      by_cases q : Tr.node l (t :: r) ∈ ns
      · rw [if_pos q, enums_of (c _ _ q), fin_of q]
      · rw [if_neg q]
/-- what is there already may be left out -/
theorem enums_some {β : Type} {f : β → Tr α} (p : β → Bool) : ∀ {ys : List β} {ns : List (Tr α)}, (∀ y ∈ ys, p y = true → f y ∈ ns) → enums (ys.map f) ns = enums ((ys.filter fun y => !p y).map f) ns
  | [], _, _ => rfl
  | y :: ys, ns, h => by
    have k : ∀ z ∈ ys, p z = true → f z ∈ enum (f y) ns := fun z hz q => enum_keep (h z (List.mem_cons_of_mem _ hz) q)
    rw [List.map_cons, enums, enums_some p k, List.filter_cons]
    cases q : p y with
    | true =>
      rw [if_neg (by decide), enum_of (h y List.mem_cons_self q)]
    | false =>
      show _ = enums (((if (!false) = true then y :: _ else _) : List β).map f) ns
      rw [if_pos (show (!false) = true from rfl), List.map_cons, enums]
end
/-- what is walked over: what is below each, and what each is -/
structure Walked (π α : Type) where
  below : π → List π
  h : π → Nat
  lower : ∀ p, ∀ q ∈ below p, h q < h p
  lev : π → Nat
  val : π → Tr α
  leaf : ∀ p, below p = [] → ∃ v, val p = .leaf v
  node : ∀ p, below p ≠ [] → val p = mk (lev p) ((below p).map val)
structure St (π α : Type) where
  ns : List (Tr α)
  done : List π
  waiting : List π
section
variable {π α : Type} {W : Walked π α}
noncomputable def missing (W : Walked π α) (done : List π) (p : π) : List π := (W.below p).filter fun q => !decide (q ∈ done)
/-- a turn, the uppermost of the stack at the head -/
noncomputable def turn (W : Walked π α) : St π α → St π α
  | ⟨ns, done, []⟩ => ⟨ns, done, []⟩
  | ⟨ns, done, p :: r⟩ => if missing W done p = [] then ⟨fin (W.val p) ns, p :: done, r⟩ else ⟨ns, done, missing W done p ++ p :: r⟩
/-- so many turns to the end -/
inductive Turns (W : Walked π α) : Nat → St π α → Prop
  | none {ns done} : Turns W 0 ⟨ns, done, []⟩
  | more {n : Nat} {s : St π α} : s.waiting ≠ [] → Turns W n (turn W s) → Turns W (n + 1) s
/-- what holds all the while -/
structure Ok (W : Walked π α) (F : List (Tr α)) (s : St π α) : Prop where
  closed : Closed s.ns
  nodup : s.ns.Nodup
  there : ∀ p ∈ s.done, W.val p ∈ s.ns
  under : ∀ p ∈ s.done, ∀ q ∈ W.below p, q ∈ s.done
  fin : enums (s.waiting.map W.val) s.ns = F
theorem missing_nil {done : List π} {p : π} : missing W done p = [] ↔ ∀ q ∈ W.below p, q ∈ done := by
  unfold missing
  rw [List.filter_eq_nil_iff]
  constructor
  · intro h q hq
    have := h q hq
    simpa using this
  · intro h q hq
    simpa using h q hq
theorem val_enum {p : π} {ns : List (Tr α)} (c : Closed ns) : enum (W.val p) ns = FT.fin (W.val p) (enums ((W.below p).map W.val) ns) := by
  by_cases e : W.below p = []
  · obtain ⟨v, q⟩ := W.leaf p e
    rw [e, List.map_nil, q, enums, enum]
  · have q := W.node p e
    rw [q]
    exact enum_mk c fun z => e (List.map_eq_nil_iff.mp z)
theorem ok_turn {F : List (Tr α)} {s : St π α} (k : Ok W F s) : Ok W F (turn W s) := by
  obtain ⟨ns, done, waiting⟩ := s
  cases waiting with
  | nil => exact k
  | cons p r =>
    obtain ⟨c, nd, th, un, fi⟩ := k
    show Ok W F (if missing W done p = [] then _ else _)
    have hin : ∀ q ∈ W.below p, decide (q ∈ done) = true → W.val q ∈ ns := fun q _ h => th q (of_decide_eq_true h)
    have fi' : enums (r.map W.val) (enum (W.val p) ns) = F := by
      have : enums (W.val p :: r.map W.val) ns = F := fi
      rwa [enums] at this
    by_cases h : missing W done p = []
    · rw [if_pos h]
      have all := missing_nil.mp h
      have sub : enums ((W.below p).map W.val) ns = ns := enums_of fun t ht => by
        obtain ⟨q, hq, rfl⟩ := List.mem_map.mp ht
        exact th q (all q hq)
      have e : enum (W.val p) ns = FT.fin (W.val p) ns := by rw [val_enum c, sub]
      refine ⟨by rw [← e]; exact enum_closed _ _ c, by rw [← e]; exact enum_nodup _ _ nd, fun q hq => ?_, fun q hq => ?_, ?_⟩
      · rcases List.mem_cons.mp hq with z | hq
        · rw [z]; exact fin_mem _ _
        · show W.val q ∈ FT.fin (W.val p) ns
          rw [← e]; exact enum_keep (th q hq)
      · rcases List.mem_cons.mp hq with z | hq
        · rw [z]; exact fun u hu => List.mem_cons_of_mem _ (all u hu)
        · exact fun u hu => List.mem_cons_of_mem _ (un q hq u hu)
      · show enums (r.map W.val) (FT.fin (W.val p) ns) = F
        rw [← e]; exact fi'
    · rw [if_neg h]
      refine ⟨c, nd, th, un, ?_⟩
      show enums ((missing W done p ++ p :: r).map W.val) ns = F
      rw [List.map_append, enums_append, List.map_cons, enums]
      have e1 : enums ((missing W done p).map W.val) ns = enums ((W.below p).map W.val) ns := (enums_some (fun q => decide (q ∈ done)) hin).symm
      have cX : Closed (enums ((W.below p).map W.val) ns) := enums_closed _ _ c
      have e2 : enum (W.val p) (enums ((W.below p).map W.val) ns) = enum (W.val p) ns := by
        rw [val_enum cX, enums_of (enums_mem _ _), ← val_enum c]
      rw [e1, e2]
      exact fi'
/-- the walk ends -/
theorem ends_many {k : Nat} (ih : ∀ (p : π), W.h p < k → ∀ (ns : List (Tr α)) (done r : List π), (∀ ns' done', (∀ q ∈ done, q ∈ done') → p ∈ done' → ∃ n, Turns W n ⟨ns', done', r⟩) → ∃ n, Turns W n ⟨ns, done, p :: r⟩) :
    ∀ (ps : List π) (ns : List (Tr α)) (done r : List π), (∀ p ∈ ps, W.h p < k) → (∀ ns' done', (∀ q ∈ done, q ∈ done') → (∀ p ∈ ps, p ∈ done') → ∃ n, Turns W n ⟨ns', done', r⟩) → ∃ n, Turns W n ⟨ns, done, ps ++ r⟩
  | [], ns, done, r, _, g => g ns done (fun _ h => h) (fun _ h => nomatch h)
  | p :: ps, ns, done, r, hk, g => ih p (hk p List.mem_cons_self) ns done (ps ++ r) fun ns' done' h1 h2 =>
      ends_many ih ps ns' done' r (fun q hq => hk q (List.mem_cons_of_mem _ hq)) fun ns'' done'' h3 h4 => g ns'' done'' (fun q hq => h3 q (h1 q hq)) fun q hq => by
        rcases List.mem_cons.mp hq with z | hq
        · rw [z]; exact h3 p h2
        · exact h4 q hq
theorem ends_one : ∀ (k : Nat) (p : π), W.h p < k → ∀ (ns : List (Tr α)) (done r : List π), (∀ ns' done', (∀ q ∈ done, q ∈ done') → p ∈ done' → ∃ n, Turns W n ⟨ns', done', r⟩) → ∃ n, Turns W n ⟨ns, done, p :: r⟩
  | 0, _, h, _, _, _, _ => absurd h (Nat.not_lt_zero _)
  | k + 1, p, h, ns, done, r, g => by
    have pop : ∀ ns done, (∀ ns' done', (∀ q ∈ done, q ∈ done') → p ∈ done' → ∃ n, Turns W n ⟨ns', done', r⟩) → missing W done p = [] → ∃ n, Turns W n ⟨ns, done, p :: r⟩ := fun ns done g e => by
      obtain ⟨n, t⟩ := g (FT.fin (W.val p) ns) (p :: done) (fun q hq => List.mem_cons_of_mem _ hq) List.mem_cons_self
      refine ⟨n + 1, .more (fun z => nomatch z) ?_⟩
      show Turns W n (if missing W done p = [] then _ else _)
      rw [if_pos e]
      exact t
    by_cases e : missing W done p = []
    · exact pop ns done g e
    · obtain ⟨n, t⟩ := ends_many (ends_one k) (missing W done p) ns done (p :: r) (fun q hq => by
          have := W.lower p q (List.mem_filter.mp hq).1
          omega) fun ns' done' h1 h2 => pop ns' done' (fun ns'' done'' h3 => g ns'' done'' fun q hq => h3 q (h1 q hq)) (missing_nil.mpr fun q hq => by
          by_cases z : q ∈ done
          · exact h1 q z
          · exact h2 q (List.mem_filter.mpr ⟨hq, by simpa using z⟩))
      refine ⟨n + 1, .more (fun z => nomatch z) ?_⟩
      show Turns W n (if missing W done p = [] then _ else _)
      rw [if_neg e]
      exact t
theorem ends (W : Walked π α) (p : π) : ∃ n, Turns W n ⟨[], [], [p]⟩ :=
  ends_one (W.h p + 1) p (Nat.lt_succ_self _) [] [] [] fun _ _ _ _ => ⟨0, .none⟩
theorem start_ok (W : Walked π α) (p : π) : Ok W (enum (W.val p) []) ⟨[], [], [p]⟩ where
  closed := fun _ _ h => nomatch h
  nodup := List.nodup_nil
  there := fun _ h => nomatch h
  under := fun _ h => nomatch h
  fin := by show enums [W.val p] [] = _; rw [enums, enums]
/-- at the end all nodes are drawn -/
theorem ok_end {F : List (Tr α)} {ns : List (Tr α)} {done : List π} (k : Ok W F ⟨ns, done, []⟩) : ns = F := by
  have : enums ([] : List (Tr α)) ns = F := k.fin
  rwa [enums] at this
end
end FT
namespace FT
open Classical
section
variable {α : Type}
mutual
def sz : Tr α → Nat
  | .leaf _ => 1
  | .node _ ts => szs ts + 1
def szs : List (Tr α) → Nat
  | [] => 0
  | t :: ts => sz t + szs ts
end
theorem sz_mem : ∀ {ts : List (Tr α)} {t : Tr α}, t ∈ ts → sz t ≤ szs ts
  | u :: ts, t, h => by
    rw [szs]
    rcases List.mem_cons.mp h with e | h
    · rw [e]; omega
    · have := sz_mem h; omega
theorem sz_pos (t : Tr α) : 0 < sz t := by cases t <;> rw [sz] <;> omega
mutual
/-- a form over N choices with so many options: levels rise, no choice is needless -/
def Wf (N : Nat) (ks : Nat → Nat) : Nat → Tr α → Prop
  | _, .leaf _ => True
  | b, .node l ts => b ≤ l ∧ l < N ∧ ts.length = ks l ∧ (∃ t ∈ ts, ∃ u ∈ ts, t ≠ u) ∧ WfAll N ks (l + 1) ts
def WfAll (N : Nat) (ks : Nat → Nat) : Nat → List (Tr α) → Prop
  | _, [] => True
  | b, t :: ts => Wf N ks b t ∧ WfAll N ks b ts
end
theorem wfAll_iff {N : Nat} {ks : Nat → Nat} {b : Nat} : ∀ {ts : List (Tr α)}, WfAll N ks b ts ↔ ∀ t ∈ ts, Wf N ks b t
  | [] => by rw [WfAll]; exact ⟨fun _ _ h => (nomatch h), fun _ => trivial⟩
  | t :: ts => by
    rw [WfAll, wfAll_iff]
    exact ⟨fun ⟨h, g⟩ u hu => (List.mem_cons.mp hu).elim (fun e => e ▸ h) (g u), fun h => ⟨h t List.mem_cons_self, fun u hu => h u (List.mem_cons_of_mem _ hu)⟩⟩
theorem Wf.low {N : Nat} {ks : Nat → Nat} {b c : Nat} {t : Tr α} (h : Wf N ks b t) (le : c ≤ b) : Wf N ks c t := by
  cases t with
  | leaf v => rw [Wf]; trivial
  | node l ts =>
    rw [Wf] at h ⊢
    exact ⟨Nat.le_trans le h.1, h.2⟩
variable [Inhabited α]
mutual
/-- the value in a world -/
def ev : Tr α → (Nat → Nat) → α
  | .leaf v, _ => v
  | .node l ts, w => evAt ts (w l) w
def evAt : List (Tr α) → Nat → (Nat → Nat) → α
  | [], _, _ => default
  | t :: _, 0, w => ev t w
  | _ :: ts, i + 1, w => evAt ts i w
end
theorem evAt_get : ∀ {ts : List (Tr α)} {i : Nat} {t : Tr α} {w : Nat → Nat}, ts[i]? = some t → evAt ts i w = ev t w
  | [], _, _, _, h => by simp at h
  | u :: ts, 0, t, w, h => by rw [evAt]; cases h; rfl
  | u :: ts, i + 1, t, w, h => by rw [evAt]; exact evAt_get (by simpa using h)
/-- a world gives each choice one of its options -/
def Good (N : Nat) (ks : Nat → Nat) (w : Nat → Nat) : Prop := ∀ l, l < N → w l < ks l
/-- a form asks for no choice above it -/
theorem ev_below {N : Nat} {ks : Nat → Nat} : ∀ (n : Nat) (t : Tr α) (b : Nat) (w w' : Nat → Nat), sz t ≤ n → Wf N ks b t → Good N ks w → (∀ l, b ≤ l → l < N → w l = w' l) → ev t w = ev t w'
  | 0, t, _, _, _, h, _, _, _ => absurd h (by have := sz_pos t; omega)
  | n + 1, .leaf v, _, _, _, _, _, _, _ => by rw [ev, ev]
  | n + 1, .node l ts, b, w, w', h, hw, g, e => by
    rw [Wf] at hw
    obtain ⟨h1, h2, h3, _, h5⟩ := hw
    have hl : w l < ts.length := by rw [h3]; exact g l h2
    rw [ev, ev, ← e l h1 h2, evAt_get (List.getElem?_eq_getElem hl), evAt_get (List.getElem?_eq_getElem hl)]
    have hm : ts[w l] ∈ ts := List.getElem_mem hl
    refine ev_below n _ (l + 1) w w' ?_ (wfAll_iff.mp h5 _ hm) g fun k k1 k2 => e k (by omega) k2
    have := sz_mem hm
    rw [sz] at h
    omega
def turnTo (w : Nat → Nat) (l i : Nat) : Nat → Nat := fun k => if k = l then i else w k
theorem turn_good {N : Nat} {ks w : Nat → Nat} {l i : Nat} (g : Good N ks w) (h : i < ks l) : Good N ks (turnTo w l i) := fun k hk => by
  unfold turnTo
  by_cases e : k = l
  · rw [if_pos e, e]; exact h
  · rw [if_neg e]; exact g k hk
theorem ev_child {N : Nat} {ks w : Nat → Nat} {l i : Nat} {ts : List (Tr α)} {t : Tr α} {b : Nat} (hw : Wf N ks b (.node l ts)) (g : Good N ks w) (hi : ts[i]? = some t) : ev t w = ev (.node l ts) (turnTo w l i) := by
  rw [Wf] at hw
  obtain ⟨h1, h2, h3, _, h5⟩ := hw
  have hl : i < ts.length := by
    rcases Nat.lt_or_ge i ts.length with h | h
    · exact h
    · rw [List.getElem?_eq_none h] at hi; cases hi
  rw [ev]
  have e : turnTo w l i l = i := by unfold turnTo; rw [if_pos rfl]
  rw [e, evAt_get hi]
  exact ev_below _ t (l + 1) w _ (Nat.le_refl _) (wfAll_iff.mp h5 t (List.mem_of_getElem? hi)) g fun k k1 _ => by
    unfold turnTo
    rw [if_neg (by omega)]
/-- one form for each function -/
theorem canon {N : Nat} {ks : Nat → Nat} : ∀ (n : Nat) (t u : Tr α) (b : Nat), sz t + sz u ≤ n → Wf N ks b t → Wf N ks b u → (∃ w, Good N ks w) → (∀ w, Good N ks w → ev t w = ev u w) → t = u
  | 0, t, u, _, h, _, _, _, _ => absurd h (by have := sz_pos t; omega)
  | n + 1, t, u, b, h, ht, hu, ex, e => by
    -- a form whose choice stands above another one's is that other one below each option
    have above : ∀ (l : Nat) (ts : List (Tr α)) (v : Tr α), sz (.node l ts) + sz v ≤ n + 1 → Wf N ks b (.node l ts) → Wf N ks (l + 1) v → (∀ w, Good N ks w → ev (.node l ts) w = ev v w) → False := by
      intro l ts v hs hw hv ee
      have all : ∀ x ∈ ts, x = v := by
        intro x hx
        obtain ⟨i, hi⟩ := List.mem_iff_getElem?.mp hx
        have hw' := hw
        rw [Wf] at hw'
        obtain ⟨h1, h2, h3, _, h5⟩ := hw'
        have il : i < ks l := by
          rw [← h3]
          rcases Nat.lt_or_ge i ts.length with q | q
          · exact q
          · rw [List.getElem?_eq_none q] at hi; cases hi
        refine canon n x v (l + 1) ?_ (wfAll_iff.mp h5 x hx) hv ex fun w g => ?_
        · have := sz_mem hx
          rw [sz] at hs
          omega
        · rw [ev_child hw g hi, ee _ (turn_good g il)]
          exact ev_below _ v (l + 1) _ _ (Nat.le_refl _) hv (turn_good g il) fun k k1 _ => by
            unfold turnTo
            rw [if_neg (by omega)]
      rw [Wf] at hw
      obtain ⟨_, _, _, ⟨x, hx, y, hy, ne⟩, _⟩ := hw
      exact ne ((all x hx).trans (all y hy).symm)
    cases t with
    | leaf v =>
      cases u with
      | leaf v' =>
        obtain ⟨w, g⟩ := ex
        have := e w g
        rw [ev, ev] at this
        rw [this]
      | node m us => exact (above m us (.leaf v) (by omega) hu (by rw [Wf]; trivial) fun w g => (e w g).symm).elim
    | node l ts =>
      cases u with
      | leaf v' => exact (above l ts (.leaf v') h ht (by rw [Wf]; trivial) e).elim
      | node m us =>
        rcases Nat.lt_trichotomy l m with q | q | q
        · refine (above l ts (.node m us) h ht ?_ e).elim
          rw [Wf] at hu ⊢
          exact ⟨q, hu.2⟩
        · subst q
          have ht' := ht
          have hu' := hu
          rw [Wf] at ht' hu'
          have len : ts.length = us.length := ht'.2.2.1.trans hu'.2.2.1.symm
          have : ts = us := by
            refine List.ext_getElem len fun i h1 h2 => ?_
            have i1 := List.getElem?_eq_getElem h1
            have i2 := List.getElem?_eq_getElem h2
            have m1 := List.getElem_mem h1
            have m2 := List.getElem_mem h2
            have il : i < ks l := by rw [← ht'.2.2.1]; exact h1
            refine canon n _ _ (l + 1) ?_ (wfAll_iff.mp ht'.2.2.2.2 _ m1) (wfAll_iff.mp hu'.2.2.2.2 _ m2) ex fun w g => ?_
            · have s1 := sz_mem m1
              have s2 := sz_mem m2
              rw [sz, sz] at h
              omega
            · rw [ev_child ht g i1, ev_child hu g i2]
              exact e _ (turn_good g il)
          rw [this]
        · refine (above m us (.node l ts) (by omega) hu ?_ fun w g => (e w g).symm).elim
          rw [Wf] at ht ⊢
          exact ⟨q, ht.2⟩
/-- a choice that is needless is left out: still a form, of the same function -/
theorem mk_wf {N : Nat} {ks : Nat → Nat} {b l : Nat} {ts : List (Tr α)} (h1 : b ≤ l) (h2 : l < N) (h3 : ts.length = ks l) (ne : ts ≠ []) (h : ∀ t ∈ ts, Wf N ks (l + 1) t) : Wf N ks b (mk l ts) := by
  cases ts with
  | nil => exact absurd rfl ne
  | cons t r =>
    unfold mk
    by_cases q : ∀ u ∈ r, u = t
    · simp only [if_pos q]; exact (h t List.mem_cons_self).low (by omega)
    · simp only [if_neg q]
      rw [Wf]
      refine ⟨h1, h2, h3, ?_, wfAll_iff.mpr h⟩
      have : ∃ u, u ∈ r ∧ u ≠ t := by
        refine Classical.byContradiction fun z => q fun u hu => Classical.byContradiction fun n => z ⟨u, hu, n⟩
      obtain ⟨u, hu, n⟩ := this
      exact ⟨t, List.mem_cons_self, u, List.mem_cons_of_mem _ hu, fun e => n e.symm⟩
theorem mk_ev {l : Nat} {ts : List (Tr α)} {w : Nat → Nat} (h : w l < ts.length) : ev (mk l ts) w = ev (ts[w l]) w := by
  cases ts with
  | nil => exact absurd h (Nat.not_lt_zero _)
  | cons t r =>
    unfold mk
    by_cases q : ∀ u ∈ r, u = t
    · simp only [if_pos q]
      have : (t :: r)[w l] = t := by
        rcases List.mem_cons.mp (List.getElem_mem h) with e | e
        · exact e
        · exact q _ e
      rw [this]
    · simp only [if_neg q]
      rw [ev, evAt_get (List.getElem?_eq_getElem h)]
end
section
variable {α : Type} [Inhabited α]
def lvl (N : Nat) : Tr α → Nat
  | .leaf _ => N
  | .node l _ => l
def kids : Tr α → List (Tr α)
  | .leaf _ => []
  | .node _ ts => ts
def lf : Tr α → α
  | .leaf v => v
  | .node _ _ => default
/-- the pairs below a pair, for each option of the choice that stands above -/
def belowT (N : Nat) (p : Tr α × Tr α) : List (Tr α × Tr α) :=
  if lvl N p.1 < lvl N p.2 then (kids p.1).map fun t => (t, p.2) else if lvl N p.2 < lvl N p.1 then (kids p.2).map fun u => (p.1, u) else (kids p.1).zip (kids p.2)
theorem kids_sz {t u : Tr α} (h : u ∈ kids t) : sz u < sz t := by
  cases t with
  | leaf v => exact nomatch h
  | node l ts =>
    have := sz_mem (show u ∈ ts from h)
    rw [sz]
    omega
theorem belowT_lower {N : Nat} {p q : Tr α × Tr α} (h : q ∈ belowT N p) : sz q.1 + sz q.2 < sz p.1 + sz p.2 := by
  unfold belowT at h
  split at h
  · obtain ⟨t, ht, rfl⟩ := List.mem_map.mp h
    have := kids_sz ht
    show sz t + sz p.2 < _
    omega
  · split at h
    · obtain ⟨t, ht, rfl⟩ := List.mem_map.mp h
      have := kids_sz ht
      show sz p.1 + sz t < _
      omega
    · obtain ⟨h1, h2⟩ := List.of_mem_zip (show (q.1, q.2) ∈ _ from h)
      have := kids_sz h1
      have := kids_sz h2
      omega
noncomputable def valN (N : Nat) (f : α → α → α) : Nat → Tr α × Tr α → Tr α
  | 0, p => .leaf (f (lf p.1) (lf p.2))
  | n + 1, p => if belowT N p = [] then .leaf (f (lf p.1) (lf p.2)) else mk (min (lvl N p.1) (lvl N p.2)) ((belowT N p).map (valN N f n))
theorem valN_eq (N : Nat) (f : α → α → α) : ∀ (n m : Nat) (p : Tr α × Tr α), sz p.1 + sz p.2 ≤ n → sz p.1 + sz p.2 ≤ m → valN N f n p = valN N f m p
  | 0, _, p, h, _ => absurd h (by have := sz_pos p.1; omega)
  | _ + 1, 0, p, _, h => absurd h (by have := sz_pos p.1; omega)
  | n + 1, m + 1, p, h, h' => by
    rw [valN, valN]
    have : (belowT N p).map (valN N f n) = (belowT N p).map (valN N f m) := List.map_congr_left fun q hq => valN_eq N f n m q (by have := belowT_lower hq; omega) (by have := belowT_lower hq; omega)
    rw [this]
/-- two forms put together, value by value -/
noncomputable def joinT (N : Nat) (f : α → α → α) (p : Tr α × Tr α) : Tr α := valN N f (sz p.1 + sz p.2) p
theorem joinT_eq (N : Nat) (f : α → α → α) (p : Tr α × Tr α) : joinT N f p = if belowT N p = [] then .leaf (f (lf p.1) (lf p.2)) else mk (min (lvl N p.1) (lvl N p.2)) ((belowT N p).map (joinT N f)) := by
  unfold joinT
  rw [valN_eq N f _ (sz p.1 + sz p.2 + 1) p (Nat.le_refl _) (by omega), valN]
  have : (belowT N p).map (valN N f (sz p.1 + sz p.2)) = (belowT N p).map fun q => valN N f (sz q.1 + sz q.2) q := List.map_congr_left fun q hq => valN_eq N f _ _ q (by have := belowT_lower hq; omega) (Nat.le_refl _)
  rw [this]
noncomputable def joined (N : Nat) (f : α → α → α) : Walked (Tr α × Tr α) α where
  below := belowT N
  h := fun p => sz p.1 + sz p.2
  lower := fun p q h => belowT_lower h
  lev := fun p => min (lvl N p.1) (lvl N p.2)
  val := joinT N f
  leaf := fun p e => ⟨_, by rw [joinT_eq, if_pos e]⟩
  node := fun p e => by rw [joinT_eq, if_neg e]
theorem wf_kids {N : Nat} {ks : Nat → Nat} {b : Nat} {t u : Tr α} (h : Wf N ks b t) (m : u ∈ kids t) : Wf N ks (lvl N t + 1) u := by
  cases t with
  | leaf v => exact nomatch m
  | node l ts =>
    rw [Wf] at h
    exact wfAll_iff.mp h.2.2.2.2 u m
end
end FT
namespace FT
open PySem PySem.Spec PyProof.Rows L2 ND
open Classical
section
variable {α : Type}
/-- the number of a form among others -/
noncomputable def ix (ns : List (Tr α)) (t : Tr α) : Nat := ns.findIdx fun u => decide (u = t)
theorem ix_lt {ns : List (Tr α)} {t : Tr α} (h : t ∈ ns) : ix ns t < ns.length := by
  unfold ix
  exact List.findIdx_lt_length_of_exists ⟨t, h, decide_eq_true rfl⟩
theorem ix_get {ns : List (Tr α)} {t : Tr α} (h : t ∈ ns) : ns[ix ns t]? = some t := by
  have l := ix_lt h
  rw [List.getElem?_eq_getElem l]
  have : decide (ns[ix ns t] = t) = true := List.findIdx_getElem (w := l)
  rw [of_decide_eq_true this]
theorem ix_more {ns m : List (Tr α)} {t : Tr α} (h : t ∈ ns) : ix (ns ++ m) t = ix ns t := by
  unfold ix
  rw [List.findIdx_append, if_pos (List.findIdx_lt_length_of_exists ⟨t, h, decide_eq_true rfl⟩)]
theorem ix_inj {ns : List (Tr α)} {t u : Tr α} (ht : t ∈ ns) (hu : u ∈ ns) (e : ix ns t = ix ns u) : t = u := by
  have a := ix_get ht
  rw [e, ix_get hu] at a
  exact (Option.some.inj a).symm
theorem ix_new {ns : List (Tr α)} {t : Tr α} (h : t ∉ ns) : ix (ns ++ [t]) t = ns.length := by
  unfold ix
  have e : ns.findIdx (fun u => decide (u = t)) = ns.length := List.findIdx_eq_length.mpr fun u hu => decide_eq_false fun z => h (z ▸ hu)
  rw [List.findIdx_append, e, if_neg (Nat.lt_irrefl _)]
  have : [t].findIdx (fun u => decide (u = t)) = 0 := by rw [List.findIdx_cons, decide_eq_true rfl]; rfl
  rw [this]
  omega
end
/-- a value that a node may have -/
def Vl : V → Prop
  | .non => True
  | .bl _ => True
  | .int _ => True
  | .str z => PyData.strOk z = true
  | _ => False
def kindV : V → Str
  | .bl _ => "truth"
  | .int _ => "number"
  | .str _ => "word"
  | _ => "none"
def keyV : V → NestedKey
  | .bl b => .num (if b = true then 1 else 0)
  | .int i => .num i
  | .str x => .text x
  | _ => .none
theorem keyV_inj : ∀ {u v : V}, Vl u → Vl v → kindV u = kindV v → keyV u = keyV v → u = v
  | .non, .non, _, _, _, _ => rfl
  | .bl a, .bl b, _, _, _, e => by
    have : (if a = true then (1 : Int) else 0) = if b = true then 1 else 0 := by injection e
    cases a <;> cases b <;> first | rfl | (exfalso; revert this; decide)
  | .int i, .int j, _, _, _, e => by
    have : i = j := by injection e
    rw [this]
  | .str x, .str y, _, _, _, e => by
    have : x = y := by injection e
    rw [this]
  | .non, .bl _, _, _, k, _ => absurd (show (("none" : Str) = "truth") from k) (by decide +kernel)
  | .non, .int _, _, _, k, _ => absurd (show (("none" : Str) = "number") from k) (by decide +kernel)
  | .non, .str _, _, _, k, _ => absurd (show (("none" : Str) = "word") from k) (by decide +kernel)
  | .bl _, .non, _, _, k, _ => absurd (show (("truth" : Str) = "none") from k) (by decide +kernel)
  | .bl _, .int _, _, _, k, _ => absurd (show (("truth" : Str) = "number") from k) (by decide +kernel)
  | .bl _, .str _, _, _, k, _ => absurd (show (("truth" : Str) = "word") from k) (by decide +kernel)
  | .int _, .non, _, _, k, _ => absurd (show (("number" : Str) = "none") from k) (by decide +kernel)
  | .int _, .bl _, _, _, k, _ => absurd (show (("number" : Str) = "truth") from k) (by decide +kernel)
  | .int _, .str _, _, _, k, _ => absurd (show (("number" : Str) = "word") from k) (by decide +kernel)
  | .str _, .non, _, _, k, _ => absurd (show (("word" : Str) = "none") from k) (by decide +kernel)
  | .str _, .bl _, _, _, k, _ => absurd (show (("word" : Str) = "truth") from k) (by decide +kernel)
  | .str _, .int _, _, _, k, _ => absurd (show (("word" : Str) = "number") from k) (by decide +kernel)
  | .byt _, _, h, _, _, _ => h.elim
  | .flt _, _, h, _, _, _ => h.elim
  | .ref _, _, h, _, _, _ => h.elim
  | .ty _, _, h, _, _, _ => h.elim
  | .non, .byt _, _, h, _, _ => h.elim
  | .bl _, .byt _, _, h, _, _ => h.elim
  | .int _, .byt _, _, h, _, _ => h.elim
  | .str _, .byt _, _, h, _, _ => h.elim
  | .non, .flt _, _, h, _, _ => h.elim
  | .bl _, .flt _, _, h, _, _ => h.elim
  | .int _, .flt _, _, h, _, _ => h.elim
  | .str _, .flt _, _, h, _, _ => h.elim
  | .non, .ref _, _, h, _, _ => h.elim
  | .bl _, .ref _, _, h, _, _ => h.elim
  | .int _, .ref _, _, h, _, _ => h.elim
  | .str _, .ref _, _, h, _, _ => h.elim
  | .non, .ty _, _, h, _, _ => h.elim
  | .bl _, .ty _, _, h, _, _ => h.elim
  | .int _, .ty _, _, h, _, _ => h.elim
  | .str _, .ty _, _, h, _, _ => h.elim
theorem keyV_at {H : Hp} {v : V} (h : Vl v) : NkAt H (keyV v) v := by
  cases v <;> first | exact h.elim | skip
  · exact .non
  · exact .bl _ rfl
  · exact .int _
  · exact .str _
theorem keyV_depth (v : V) : (keyV v).depth = 0 := by cases v <;> rfl
/-- the key of a node, its lower nodes told by numbers -/
noncomputable def keyT (nm : Nat → Str) (ns : List (Tr V)) : Tr V → NestedKey
  | .leaf v => .tup [.text (kindV v), keyV v]
  | .node l ts => .tup [.text (nm l), .tup (ts.map fun t => .num (ix ns t))]
/-- all that a form asks for is there, its value is one, its choice is known -/
def Fit (N : Nat) (ns : List (Tr V)) : Tr V → Prop
  | .leaf v => Vl v
  | .node l ts => l < N ∧ ∀ t ∈ ts, t ∈ ns
theorem nums_inj {ns : List (Tr V)} : ∀ {ts us : List (Tr V)}, (∀ t ∈ ts, t ∈ ns) → (∀ u ∈ us, u ∈ ns) → ts.map (fun t => NestedKey.num (ix ns t : Nat)) = us.map (fun t => NestedKey.num (ix ns t : Nat)) → ts = us
  | [], [], _, _, _ => rfl
  | [], _ :: _, _, _, e => by simp at e
  | _ :: _, [], _, _, e => by simp at e
  | t :: ts, u :: us, h1, h2, e => by
    rw [List.map_cons, List.map_cons] at e
    injection e with e1 e2
    injection e1 with e1
    have : t = u := ix_inj (h1 t List.mem_cons_self) (h2 u List.mem_cons_self) (by omega)
    rw [this, nums_inj (fun x hx => h1 x (List.mem_cons_of_mem _ hx)) (fun x hx => h2 x (List.mem_cons_of_mem _ hx)) e2]
theorem keyT_inj {N : Nat} {nm : Nat → Str} {ns : List (Tr V)} (nmI : ∀ i j, i < N → j < N → nm i = nm j → i = j) {t u : Tr V} (ht : Fit N ns t) (hu : Fit N ns u) (e : keyT nm ns t = keyT nm ns u) : t = u := by
  cases t with
  | leaf v =>
    cases u with
    | leaf v' =>
      unfold keyT at e
      injection e with e
      injection e with e1 e2
      injection e2 with e2 _
      injection e1 with e1
      rw [keyV_inj ht hu e1 e2]
    | node l ts =>
      unfold keyT at e
      injection e with e
      injection e with _ e2
      injection e2 with e2 _
      cases v <;> exact nomatch e2
  | node l ts =>
    cases u with
    | leaf v =>
      unfold keyT at e
      injection e with e
      injection e with _ e2
      injection e2 with e2 _
      cases v <;> exact nomatch e2
    | node m us =>
      unfold keyT at e
      injection e with e
      injection e with e1 e2
      injection e2 with e2 _
      injection e1 with e1
      injection e2 with e2
      rw [nmI l m ht.1 hu.1 e1, nums_inj ht.2 hu.2 e2]
theorem keyT_more {nm : Nat → Str} {N : Nat} {ns m : List (Tr V)} {t : Tr V} (h : Fit N ns t) : keyT nm (ns ++ m) t = keyT nm ns t := by
  cases t with
  | leaf v => rfl
  | node l ts =>
    have : ts.map (fun t => NestedKey.num (ix (ns ++ m) t : Nat)) = ts.map fun t => NestedKey.num (ix ns t : Nat) := List.map_congr_left fun t ht => by rw [ix_more (h.2 t ht)]
    show NestedKey.tup [.text (nm l), .tup (ts.map fun t => NestedKey.num (ix (ns ++ m) t : Nat))] = NestedKey.tup [.text (nm l), .tup (ts.map fun t => NestedKey.num (ix ns t : Nat))]
    rw [this]
theorem Fit.more {N : Nat} {ns m : List (Tr V)} {t : Tr V} (h : Fit N ns t) : Fit N (ns ++ m) t := by
  cases t with
  | leaf v => exact h
  | node l ts => exact ⟨h.1, fun t ht => List.mem_append_left _ (h.2 t ht)⟩
/-- the table of numbers: each node's key, its number -/
noncomputable def numT (nm : Nat → Str) (ns : List (Tr V)) : List (NestedKey × V) := ns.map fun t => (keyT nm ns t, .int (ix ns t : Nat))
theorem valV_map_of {κ β : Type} [DecidableEq κ] (f : β → κ) (g : β → V) {k : κ} : ∀ {l : List β} {b : β}, b ∈ l → f b = k → (∀ c ∈ l, f c = k → g c = g b) → valV (l.map fun b => (f b, g b)) k = some (g b)
  | c :: l, b, h, e, u => by
    rw [List.map_cons]
    by_cases q : f c = k
    · rw [valV_pos (p := (f c, g c)) q, u c List.mem_cons_self q]
    · rw [valV_neg (p := (f c, g c)) q]
      refine valV_map_of f g ?_ e fun d hd => u d (List.mem_cons_of_mem _ hd)
      rcases List.mem_cons.mp h with z | h
      · rw [z] at e; exact absurd e q
      · exact h
theorem valV_map_no {κ β : Type} [DecidableEq κ] (f : β → κ) (g : β → V) {k : κ} : ∀ {l : List β}, (∀ c ∈ l, f c ≠ k) → valV (l.map fun b => (f b, g b)) k = none
  | [], _ => rfl
  | c :: l, h => by
    rw [List.map_cons, valV_neg (p := (f c, g c)) (h c List.mem_cons_self)]
    exact valV_map_no f g fun d hd => h d (List.mem_cons_of_mem _ hd)
section
variable {N : Nat} {nm : Nat → Str} {ns : List (Tr V)} (nmI : ∀ i j, i < N → j < N → nm i = nm j → i = j) (fit : ∀ t ∈ ns, Fit N ns t)
include nmI fit
theorem numT_get {t : Tr V} (h : t ∈ ns) : valV (numT nm ns) (keyT nm ns t) = some (.int (ix ns t : Nat)) :=
  valV_map_of (keyT nm ns) (fun t => V.int (ix ns t : Nat)) h rfl fun c hc e => by
    have : c = t := keyT_inj nmI (fit c hc) (fit t h) e
    rw [this]
theorem numT_no {t : Tr V} (h : t ∉ ns) (ht : Fit N ns t) : valV (numT nm ns) (keyT nm ns t) = none :=
  valV_map_no (keyT nm ns) (fun t => V.int (ix ns t : Nat)) fun c hc e => h ((keyT_inj nmI (fit c hc) ht e) ▸ hc)
theorem numT_put {t : Tr V} (h : t ∉ ns) (ht : Fit N ns t) : putK (numT nm ns) (keyT nm ns t) (.int (ns.length : Nat)) = numT nm (ns ++ [t]) := by
  have no := numT_no nmI fit h ht
  unfold putK
  rw [valV_any, no]
  show numT nm ns ++ [_] = _
  unfold numT
  rw [List.map_append]
  have e1 : ns.map (fun t_1 => (keyT nm (ns ++ [t]) t_1, V.int (ix (ns ++ [t]) t_1 : Nat))) = ns.map fun t => (keyT nm ns t, V.int (ix ns t : Nat)) := List.map_congr_left fun c hc => by
    rw [keyT_more (fit c hc), ix_more hc]
  rw [e1]
  show _ = _ ++ [(keyT nm (ns ++ [t]) t, V.int (ix (ns ++ [t]) t : Nat))]
  rw [keyT_more ht, ix_new h]
end
end FT
namespace FT
open PySem PySem.Spec PyProof.Rows L2 ND
open Classical
/-- the key of a pair of numbers -/
def pairK (i j : Nat) : NestedKey := .tup [.num (i : Int), .num (j : Int)]
theorem pairK_inj {i j k l : Nat} (e : pairK i j = pairK k l) : i = k ∧ j = l := by
  unfold pairK at e
  injection e with e
  injection e with e1 e2
  injection e2 with e2 _
  injection e1 with e1
  injection e2 with e2
  exact ⟨by omega, by omega⟩
end FT
namespace FT
open Classical
section
variable {α : Type} [Inhabited α]
def lv2 (N : Nat) (p : Tr α × Tr α) : Nat := min (lvl N p.1) (lvl N p.2)
/-- so much may stand on the stack, by the level of its uppermost pair -/
def Low (N M : Nat) : List (Tr α × Tr α) → Prop
  | [] => True
  | q :: r => (q :: r).length ≤ 1 + M * lv2 N q ∧ Low N M r
theorem low_app {N M c : Nat} {r : List (Tr α × Tr α)} : ∀ {ms : List (Tr α × Tr α)}, (∀ q ∈ ms, c < lv2 N q) → Low N M r → ms.length + r.length ≤ 1 + M * (c + 1) → Low N M (ms ++ r)
  | [], _, h, _ => h
  | q :: ms, hq, h, le => by
    refine ⟨?_, low_app (fun x hx => hq x (List.mem_cons_of_mem _ hx)) h (by rw [List.length_cons] at le; omega)⟩
    have g := hq q List.mem_cons_self
    have : M * (c + 1) ≤ M * lv2 N q := Nat.mul_le_mul_left M g
    show (q :: (ms ++ r)).length ≤ _
    rw [List.length_cons, List.length_append]
    rw [List.length_cons] at le
    omega
theorem kids_in {ns : List (Tr α)} {t u : Tr α} (c : Closed ns) (h : t ∈ ns) (m : u ∈ kids t) : u ∈ ns := by
  cases t with
  | leaf v => exact nomatch m
  | node l ts => exact c l ts h u m
end
end FT
namespace FT
open PySem PySem.Spec PyProof.Rows L2 ND
open Classical
section
variable {α : Type}
mutual
/-- levels rise, each choice has its options; a choice may be needless -/
def Wo (N : Nat) (ks : Nat → Nat) : Nat → Tr α → Prop
  | _, .leaf _ => True
  | b, .node l ts => b ≤ l ∧ l < N ∧ ts.length = ks l ∧ ts ≠ [] ∧ WoAll N ks (l + 1) ts
def WoAll (N : Nat) (ks : Nat → Nat) : Nat → List (Tr α) → Prop
  | _, [] => True
  | b, t :: ts => Wo N ks b t ∧ WoAll N ks b ts
end
theorem woAll_iff {N : Nat} {ks : Nat → Nat} {b : Nat} : ∀ {ts : List (Tr α)}, WoAll N ks b ts ↔ ∀ t ∈ ts, Wo N ks b t
  | [] => by rw [WoAll]; exact ⟨fun _ _ h => (nomatch h), fun _ => trivial⟩
  | t :: ts => by
    rw [WoAll, woAll_iff]
    exact ⟨fun ⟨h, g⟩ u hu => (List.mem_cons.mp hu).elim (fun e => e ▸ h) (g u), fun h => ⟨h t List.mem_cons_self, fun u hu => h u (List.mem_cons_of_mem _ hu)⟩⟩
theorem Wo.low {N : Nat} {ks : Nat → Nat} {b c : Nat} {t : Tr α} (h : Wo N ks b t) (le : c ≤ b) : Wo N ks c t := by
  cases t with
  | leaf v => rw [Wo]; trivial
  | node l ts =>
    rw [Wo] at h ⊢
    exact ⟨Nat.le_trans le h.1, h.2⟩
theorem wo_of {N : Nat} {ks : Nat → Nat} : ∀ (n b : Nat) (t : Tr α), sz t ≤ n → Wf N ks b t → Wo N ks b t
  | 0, _, t, h, _ => absurd h (by have := sz_pos t; omega)
  | _ + 1, _, .leaf _, _, _ => by rw [Wo]; trivial
  | n + 1, b, .node l ts, h, w => by
    rw [Wf] at w
    rw [Wo]
    obtain ⟨h1, h2, h3, ⟨x, hx, _⟩, h5⟩ := w
    refine ⟨h1, h2, h3, fun z => (by rw [z] at hx; exact (nomatch hx)), woAll_iff.mpr fun u hu => wo_of n _ u ?_ (wfAll_iff.mp h5 u hu)⟩
    have := sz_mem hu
    rw [sz] at h
    omega
theorem Wf.wo {N : Nat} {ks : Nat → Nat} {b : Nat} {t : Tr α} (h : Wf N ks b t) : Wo N ks b t := wo_of _ b t (Nat.le_refl _) h
/-- what holds of a form and, with a choice, of what is below it, holds of all nodes -/
theorem fin_all {P : Tr α → Prop} {t : Tr α} {ns : List (Tr α)} (ht : P t) (h : ∀ u ∈ ns, P u) : ∀ u ∈ fin t ns, P u := by
  intro u hu
  by_cases q : t ∈ ns
  · rw [fin_of q] at hu; exact h u hu
  · rw [fin_new q] at hu
    rcases List.mem_append.mp hu with hu | hu
    · exact h u hu
    · rw [List.mem_singleton.mp hu]; exact ht
mutual
theorem enum_all {P : Tr α → Prop} (hk : ∀ l ts, P (.node l ts) → ∀ t ∈ ts, P t) : ∀ (t : Tr α) (ns : List (Tr α)), P t → (∀ u ∈ ns, P u) → ∀ u ∈ enum t ns, P u
  | .leaf v, ns, ht, h => by rw [enum]; exact fin_all ht h
  | .node l ts, ns, ht, h => by
    rw [enum]
    split
    · exact h
    · exact fin_all ht (enums_all hk ts ns (hk l ts ht) h)
theorem enums_all {P : Tr α → Prop} (hk : ∀ l ts, P (.node l ts) → ∀ t ∈ ts, P t) : ∀ (ts ns : List (Tr α)), (∀ t ∈ ts, P t) → (∀ u ∈ ns, P u) → ∀ u ∈ enums ts ns, P u
  | [], ns, _, h => by rw [enums]; exact h
  | t :: ts, ns, ht, h => by
    rw [enums]
    exact enums_all hk ts _ (fun u hu => ht u (List.mem_cons_of_mem _ hu)) (enum_all hk t ns (ht t List.mem_cons_self) h)
end
/-- no more nodes than places -/
theorem fin_len (t : Tr α) (ns : List (Tr α)) : (fin t ns).length ≤ ns.length + 1 := by
  by_cases q : t ∈ ns
  · rw [fin_of q]; omega
  · rw [fin_new q, List.length_append]; exact Nat.le_refl _
mutual
theorem enum_len : ∀ (t : Tr α) (ns : List (Tr α)), (enum t ns).length ≤ ns.length + sz t
  | .leaf v, ns => by rw [enum, sz]; exact fin_len _ _
  | .node l ts, ns => by
    rw [enum, sz]
    split
    · omega
    · have := enums_len ts ns
      have := fin_len (.node l ts) (enums ts ns)
      omega
theorem enums_len : ∀ (ts ns : List (Tr α)), (enums ts ns).length ≤ ns.length + szs ts
  | [], ns => by rw [enums]; exact Nat.le_add_right _ _
  | t :: ts, ns => by
    rw [enums, szs]
    have := enums_len ts (enum t ns)
    have := enum_len t ns
    omega
end
/-- the most places of so many choices with at most k options -/
def geo (k : Nat) : Nat → Nat
  | 0 => 1
  | n + 1 => k * geo k n + 1
theorem geo_mono (k : Nat) : ∀ {n m : Nat}, n ≤ m → geo k n ≤ geo k m
  | 0, m, _ => by
    show 1 ≤ geo k m
    cases m with
    | zero => exact Nat.le_refl _
    | succ m => show 1 ≤ k * geo k m + 1; omega
  | n + 1, 0, h => absurd h (by omega)
  | n + 1, m + 1, h => by
    show k * geo k n + 1 ≤ k * geo k m + 1
    have := Nat.mul_le_mul_left k (geo_mono k (show n ≤ m by omega))
    omega
theorem szs_le {m : Nat} : ∀ {ts : List (Tr α)}, (∀ t ∈ ts, sz t ≤ m) → szs ts ≤ ts.length * m
  | [], _ => Nat.zero_le _
  | t :: ts, h => by
    rw [szs, List.length_cons, Nat.add_mul, Nat.one_mul]
    have := szs_le fun u hu => h u (List.mem_cons_of_mem _ hu)
    have := h t List.mem_cons_self
    omega
theorem wo_sz {N k : Nat} {ks : Nat → Nat} (hk : ∀ l, l < N → ks l ≤ k) : ∀ (n b : Nat) (t : Tr α), Wo N ks b t → N ≤ b + n → sz t ≤ geo k n
  | n, b, .leaf v, _, _ => by rw [sz]; exact geo_mono k (Nat.zero_le n)
  | 0, b, .node l ts, h, e => by
    rw [Wo] at h
    omega
  | n + 1, b, .node l ts, h, e => by
    rw [Wo] at h
    obtain ⟨h1, h2, h3, _, h5⟩ := h
    rw [sz]
    have s := szs_le (m := geo k n) fun u hu => wo_sz hk n (l + 1) u (woAll_iff.mp h5 u hu) (by omega)
    rw [h3] at s
    have := Nat.mul_le_mul_right (geo k n) (hk l h2)
    show szs ts + 1 ≤ k * geo k n + 1
    omega
mutual
/-- all values are of S -/
def Lv (S : α → Prop) : Tr α → Prop
  | .leaf v => S v
  | .node _ ts => LvAll S ts
def LvAll (S : α → Prop) : List (Tr α) → Prop
  | [] => True
  | t :: ts => Lv S t ∧ LvAll S ts
end
theorem lvAll_iff {S : α → Prop} : ∀ {ts : List (Tr α)}, LvAll S ts ↔ ∀ t ∈ ts, Lv S t
  | [] => by rw [LvAll]; exact ⟨fun _ _ h => (nomatch h), fun _ => trivial⟩
  | t :: ts => by
    rw [LvAll, lvAll_iff]
    exact ⟨fun ⟨h, g⟩ u hu => (List.mem_cons.mp hu).elim (fun e => e ▸ h) (g u), fun h => ⟨h t List.mem_cons_self, fun u hu => h u (List.mem_cons_of_mem _ hu)⟩⟩
theorem mk_lv {S : α → Prop} {l : Nat} {ts : List (Tr α)} (h : ∀ t ∈ ts, Lv S t) : Lv S (mk l ts) := by
  cases ts with
  | nil => unfold mk; rw [Lv, LvAll]; trivial
  | cons t r =>
    unfold mk
    by_cases q : ∀ u ∈ r, u = t
    · simp only [if_pos q]; exact h t List.mem_cons_self
    · simp only [if_neg q]; rw [Lv]; exact lvAll_iff.mpr h
variable [Inhabited α]
theorem wo_kids {N : Nat} {ks : Nat → Nat} {b : Nat} {t u : Tr α} (h : Wo N ks b t) (m : u ∈ kids t) : Wo N ks (lvl N t + 1) u := by
  cases t with
  | leaf v => exact nomatch m
  | node l ts =>
    rw [Wo] at h
    exact woAll_iff.mp h.2.2.2.2 u m
theorem wo_node {N : Nat} {ks : Nat → Nat} {b : Nat} {t : Tr α} (h : Wo N ks b t) (q : lvl N t < N) : t = .node (lvl N t) (kids t) ∧ b ≤ lvl N t ∧ (kids t).length = ks (lvl N t) ∧ kids t ≠ [] := by
  cases t with
  | leaf v => exact absurd q (Nat.lt_irrefl _)
  | node l ts =>
    rw [Wo] at h
    refine ⟨rfl, h.1, h.2.2.1, fun z => ?_⟩
    exact h.2.2.2.1 z
theorem wo_le {N : Nat} {ks : Nat → Nat} {b : Nat} {t : Tr α} (h : Wo N ks b t) : lvl N t ≤ N := by
  cases t with
  | leaf v => exact Nat.le_refl _
  | node l ts =>
    rw [Wo] at h
    exact Nat.le_of_lt h.2.1
theorem wo_at {N : Nat} {ks : Nat → Nat} {b c : Nat} {t : Tr α} (h : Wo N ks b t) (q : c ≤ lvl N t) : Wo N ks c t := by
  cases t with
  | leaf v => rw [Wo]; trivial
  | node l ts =>
    rw [Wo] at h ⊢
    exact ⟨q, h.2⟩
theorem wo_leaf {N : Nat} {ks : Nat → Nat} {b : Nat} {t : Tr α} (h : Wo N ks b t) (q : ¬ lvl N t < N) : t = .leaf (lf t) := by
  cases t with
  | leaf v => rfl
  | node l ts =>
    rw [Wo] at h
    exact absurd h.2.1 q
/-- what is put together is a form of what the values give together -/
theorem join_okO {N : Nat} {ks : Nat → Nat} (f : α → α → α) : ∀ (n : Nat) (p : Tr α × Tr α) (b : Nat), sz p.1 + sz p.2 ≤ n → Wo N ks b p.1 → Wo N ks b p.2 →
    Wf N ks b (joinT N f p) ∧ ∀ w, Good N ks w → ev (joinT N f p) w = f (ev p.1 w) (ev p.2 w)
  | 0, p, _, h, _, _ => absurd h (by have := sz_pos p.1; omega)
  | n + 1, (t, u), b, h, ht, hu => by
    replace ht : Wo N ks b t := ht
    replace hu : Wo N ks b u := hu
    have ih := fun q (hq : q ∈ belowT N (t, u)) c => join_okO (N := N) (ks := ks) f n q c (by have := belowT_lower hq; omega)
    rw [joinT_eq]
    -- a choice stands above
    have node : ∀ l, min (lvl N t) (lvl N u) = l → l < N → b ≤ l → (belowT N (t, u)).length = ks l → (∀ q ∈ belowT N (t, u), Wo N ks (l + 1) q.1 ∧ Wo N ks (l + 1) q.2) →
        (∀ w, Good N ks w → ∀ q, (belowT N (t, u))[w l]? = some q → ev q.1 w = ev t w ∧ ev q.2 w = ev u w) →
        Wf N ks b (if belowT N (t, u) = [] then Tr.leaf (f (lf t) (lf u)) else mk (min (lvl N t) (lvl N u)) ((belowT N (t, u)).map (joinT N f))) ∧
          ∀ w, Good N ks w → ev (if belowT N (t, u) = [] then Tr.leaf (f (lf t) (lf u)) else mk (min (lvl N t) (lvl N u)) ((belowT N (t, u)).map (joinT N f))) w = f (ev t w) (ev u w) := by
      intro l el lN bl len hb he
      by_cases z : belowT N (t, u) = []
      · -- no options: no world
        rw [if_pos z]
        refine ⟨by rw [Wf]; trivial, fun w g => ?_⟩
        have := g l lN
        rw [← len, z] at this
        exact absurd this (Nat.not_lt_zero _)
      · rw [if_neg z, el]
        refine ⟨mk_wf bl lN (by rw [List.length_map]; exact len) (fun e => z (List.map_eq_nil_iff.mp e)) fun x hx => ?_, fun w g => ?_⟩
        · obtain ⟨q, hq, rfl⟩ := List.mem_map.mp hx
          exact (ih q hq (l + 1) (hb q hq).1 (hb q hq).2).1
        · have wl : w l < (belowT N (t, u)).length := by rw [len]; exact g l lN
          rw [mk_ev (by rw [List.length_map]; exact wl), List.getElem_map]
          have hm : (belowT N (t, u))[w l] ∈ belowT N (t, u) := List.getElem_mem wl
          rw [(ih _ hm (l + 1) (hb _ hm).1 (hb _ hm).2).2 w g]
          obtain ⟨e1, e2⟩ := he w g _ (List.getElem?_eq_getElem wl)
          rw [e1, e2]
    have kid : ∀ (x : Tr α) (w : Nat → Nat) (i : Nat) (y : Tr α), Wo N ks b x → lvl N x < N → w (lvl N x) = i → (kids x)[i]? = some y → ev y w = ev x w := by
      intro x w i y hx q e hy
      obtain ⟨ex, _⟩ := wo_node hx q
      rw [ex, ev]
      have : w (lvl N x) = i := e
      rw [this, evAt_get hy]
    rcases Nat.lt_trichotomy (lvl N t) (lvl N u) with q | q | q
    · have eb : belowT N (t, u) = (kids t).map fun x => (x, u) := by unfold belowT; rw [if_pos q]
      have tN : lvl N t < N := Nat.lt_of_lt_of_le q (wo_le hu)
      obtain ⟨_, h2, h3, _⟩ := wo_node ht tN
      refine node (lvl N t) (by omega) tN h2 (by rw [eb, List.length_map]; exact h3) (fun p hp => ?_) fun w g p hp => ?_
      · rw [eb] at hp
        obtain ⟨x, hx, rfl⟩ := List.mem_map.mp hp
        exact ⟨wo_kids ht hx, wo_at hu q⟩
      · rw [eb, List.getElem?_map] at hp
        obtain ⟨x, hx, rfl⟩ := Option.map_eq_some_iff.mp hp
        exact ⟨kid t w _ x ht tN rfl hx, rfl⟩
    · by_cases tN : lvl N t < N
      · have uN : lvl N u < N := by omega
        have eb : belowT N (t, u) = (kids t).zip (kids u) := by unfold belowT; rw [if_neg (by show ¬ lvl N t < lvl N u; omega), if_neg (by show ¬ lvl N u < lvl N t; omega)]
        obtain ⟨_, h2, h3, _⟩ := wo_node ht tN
        obtain ⟨_, _, h6, _⟩ := wo_node hu uN
        refine node (lvl N t) (by omega) tN h2 (by rw [eb, List.length_zip, h3, h6, q]; exact Nat.min_self _) (fun p hp => ?_) fun w g p hp => ?_
        · rw [eb] at hp
          obtain ⟨m1, m2⟩ := List.of_mem_zip (show (p.1, p.2) ∈ _ from hp)
          exact ⟨wo_kids ht m1, by rw [q]; exact wo_kids hu m2⟩
        · rw [eb, List.getElem?_zip_eq_some] at hp
          exact ⟨kid t w _ _ ht tN rfl hp.1, kid u w _ _ hu uN (by rw [← q]) hp.2⟩
      · have et := wo_leaf ht tN
        have eu := wo_leaf hu (by omega)
        have eb : belowT N (t, u) = [] := by
          unfold belowT
          rw [if_neg (by show ¬ lvl N t < lvl N u; omega), if_neg (by show ¬ lvl N u < lvl N t; omega)]
          show (kids t).zip (kids u) = []
          rw [et]
          rfl
        rw [if_pos eb]
        refine ⟨by rw [Wf]; trivial, fun w g => ?_⟩
        show ev (Tr.leaf (f (lf t) (lf u))) w = f (ev t w) (ev u w)
        rw [ev]
        have e1 : ev t w = lf t := by rw [et, ev]; rfl
        have e2 : ev u w = lf u := by rw [eu, ev]; rfl
        rw [e1, e2]
    · have eb : belowT N (t, u) = (kids u).map fun x => (t, x) := by unfold belowT; rw [if_neg (by show ¬ lvl N t < lvl N u; omega), if_pos q]
      have uN : lvl N u < N := Nat.lt_of_lt_of_le q (wo_le ht)
      obtain ⟨_, h2, h3, _⟩ := wo_node hu uN
      refine node (lvl N u) (by omega) uN h2 (by rw [eb, List.length_map]; exact h3) (fun p hp => ?_) fun w g p hp => ?_
      · rw [eb] at hp
        obtain ⟨x, hx, rfl⟩ := List.mem_map.mp hp
        exact ⟨wo_at ht q, wo_kids hu hx⟩
      · rw [eb, List.getElem?_map] at hp
        obtain ⟨x, hx, rfl⟩ := Option.map_eq_some_iff.mp hp
        exact ⟨rfl, kid u w _ x hu uN rfl hx⟩
theorem ev_in {S : α → Prop} {N : Nat} {ks : Nat → Nat} : ∀ (n b : Nat) (t : Tr α) (w : Nat → Nat), sz t ≤ n → Wo N ks b t → Lv S t → Good N ks w → S (ev t w)
  | 0, _, t, _, h, _, _, _ => absurd h (by have := sz_pos t; omega)
  | _ + 1, _, .leaf v, _, _, _, h, _ => by rw [ev]; rw [Lv] at h; exact h
  | n + 1, b, .node l ts, w, h, hw, hs, g => by
    rw [Wo] at hw
    rw [Lv] at hs
    obtain ⟨h1, h2, h3, _, h5⟩ := hw
    have hl : w l < ts.length := by rw [h3]; exact g l h2
    rw [ev, evAt_get (List.getElem?_eq_getElem hl)]
    have hm : ts[w l] ∈ ts := List.getElem_mem hl
    refine ev_in n (l + 1) _ w ?_ (woAll_iff.mp h5 _ hm) (lvAll_iff.mp hs _ hm) g
    have := sz_mem hm
    rw [sz] at h
    omega
theorem join_lv {S1 S2 S : α → Prop} {N : Nat} {ks : Nat → Nat} {f : α → α → α} (hf : ∀ x y, S1 x → S2 y → S (f x y)) : ∀ (n : Nat) (p : Tr α × Tr α) (b : Nat), sz p.1 + sz p.2 ≤ n → Wo N ks b p.1 → Wo N ks b p.2 → Lv S1 p.1 → Lv S2 p.2 → Lv S (joinT N f p)
  | 0, p, _, h, _, _, _, _ => absurd h (by have := sz_pos p.1; omega)
  | n + 1, (t, u), b, h, ht, hu, h1, h2 => by
    replace ht : Wo N ks b t := ht
    replace hu : Wo N ks b u := hu
    replace h1 : Lv S1 t := h1
    replace h2 : Lv S2 u := h2
    rw [joinT_eq]
    have kid : ∀ {S0 : α → Prop} {x y : Tr α}, Lv S0 x → y ∈ kids x → Lv S0 y := by
      intro S0 x y hx m
      cases x with
      | leaf v => exact nomatch m
      | node l ts => rw [Lv] at hx; exact lvAll_iff.mp hx y m
    by_cases z : belowT N (t, u) = []
    · rw [if_pos z]
      have lt : lvl N t ≤ N := wo_le ht
      have lu : lvl N u ≤ N := wo_le hu
      have ne : ∀ {x : Tr α}, Wo N ks b x → lvl N x < N → kids x ≠ [] := fun hx q => (wo_node hx q).2.2.2
      have both : ¬ lvl N t < N ∧ ¬ lvl N u < N := by
        unfold belowT at z
        split at z
        · rename_i c
          exact absurd (List.map_eq_nil_iff.mp z) (ne ht (Nat.lt_of_lt_of_le c lu))
        · split at z
          · rename_i c
            exact absurd (List.map_eq_nil_iff.mp z) (ne hu (Nat.lt_of_lt_of_le c lt))
          · rename_i c1 c2
            have c1' : ¬ lvl N t < lvl N u := c1
            have c2' : ¬ lvl N u < lvl N t := c2
            by_cases q : lvl N t < N
            · exfalso
              have q2 : lvl N u < N := by omega
              have k1 := ne ht q
              have k2 := ne hu q2
              have : ((kids t).zip (kids u)).length = 0 := by rw [show (kids t).zip (kids u) = [] from z]; rfl
              rw [List.length_zip] at this
              have p1 := List.length_pos_iff.mpr k1
              have p2 := List.length_pos_iff.mpr k2
              omega
            · exact ⟨q, by omega⟩
      have e1 := wo_leaf ht both.1
      have e2 := wo_leaf hu both.2
      rw [e1, Lv] at h1
      rw [e2, Lv] at h2
      rw [Lv]
      exact hf _ _ h1 h2
    · rw [if_neg z]
      refine mk_lv fun x hx => ?_
      obtain ⟨q, hq, rfl⟩ := List.mem_map.mp hx
      have hlow := belowT_lower hq
      have hq' := hq
      have wo2 : Wo N ks 0 q.1 ∧ Wo N ks 0 q.2 ∧ Lv S1 q.1 ∧ Lv S2 q.2 := by
        unfold belowT at hq
        split at hq
        · obtain ⟨y, hy, rfl⟩ := List.mem_map.mp hq
          exact ⟨(wo_kids ht hy).low (Nat.zero_le _), hu.low (Nat.zero_le _), kid h1 hy, h2⟩
        · split at hq
          · obtain ⟨y, hy, rfl⟩ := List.mem_map.mp hq
            exact ⟨ht.low (Nat.zero_le _), (wo_kids hu hy).low (Nat.zero_le _), h1, kid h2 hy⟩
          · obtain ⟨m1, m2⟩ := List.of_mem_zip (show (q.1, q.2) ∈ _ from hq)
            exact ⟨(wo_kids ht m1).low (Nat.zero_le _), (wo_kids hu m2).low (Nat.zero_le _), kid h1 m1, kid h2 m2⟩
      exact join_lv hf n q 0 (by show _ ≤ n; have : sz q.1 + sz q.2 < sz t + sz u := hlow; have : sz t + sz u ≤ n + 1 := h; omega) wo2.1 wo2.2.1 wo2.2.2.1 wo2.2.2.2
end
section
variable {π ρ α : Type}
def Walked.pull (W : Walked π α) (φ : ρ → π) (b : ρ → List ρ) (e : ∀ p, (b p).map φ = W.below (φ p)) : Walked ρ α where
  below := b
  h := fun p => W.h (φ p)
  lower := fun p q hq => W.lower (φ p) (φ q) (by rw [← e p]; exact List.mem_map_of_mem hq)
  lev := fun p => W.lev (φ p)
  val := fun p => W.val (φ p)
  leaf := fun p z => W.leaf (φ p) (by rw [← e p, z]; rfl)
  node := fun p z => by
    rw [W.node (φ p) (by rw [← e p]; exact fun q => z (List.map_eq_nil_iff.mp q)), ← e p, List.map_map]
    rfl
end
instance : Inhabited V := ⟨.non⟩
abbrev lf0 : Tr V := .leaf .non
structure FD where
  ts : List (Tr V)
  kd : Nat → List Nat
  ok : ∀ i, (kd i).map (fun k => ts.getD k lf0) = kids (ts.getD i lf0)
  lt : ∀ i, ∀ k ∈ kd i, k < ts.length
def FD.tr (A : FD) (i : Nat) : Tr V := A.ts.getD i lf0
theorem FD.kids (A : FD) (i : Nat) : (A.kd i).map A.tr = FT.kids (A.tr i) := A.ok i
theorem FD.tr_at {A : FD} {i : Nat} (h : i < A.ts.length) : A.tr i ∈ A.ts := by
  unfold FD.tr
  rw [List.getD_eq_getElem?_getD, List.getElem?_eq_getElem h]
  exact List.getElem_mem h
theorem FD.get {A : FD} {i : Nat} (h : i < A.ts.length) : A.ts[i]? = some (A.tr i) := by
  unfold FD.tr
  rw [List.getD_eq_getElem?_getD, List.getElem?_eq_getElem h]
  rfl
def trP (A B : FD) (p : Nat × Nat) : Tr V × Tr V := (A.tr p.1, B.tr p.2)
def belowI (N : Nat) (A B : FD) (p : Nat × Nat) : List (Nat × Nat) :=
  if lvl N (A.tr p.1) < lvl N (B.tr p.2) then (A.kd p.1).map fun k => (k, p.2) else if lvl N (B.tr p.2) < lvl N (A.tr p.1) then (B.kd p.2).map fun k => (p.1, k) else (A.kd p.1).zip (B.kd p.2)
theorem belowI_map (N : Nat) (A B : FD) (p : Nat × Nat) : (belowI N A B p).map (trP A B) = belowT N (trP A B p) := by
  unfold belowI belowT
  show _ = (if lvl N (A.tr p.1) < lvl N (B.tr p.2) then _ else if lvl N (B.tr p.2) < lvl N (A.tr p.1) then _ else _)
  by_cases c1 : lvl N (A.tr p.1) < lvl N (B.tr p.2)
  · rw [if_pos c1, if_pos c1, List.map_map]
    show _ = (FT.kids (A.tr p.1)).map fun t => (t, B.tr p.2)
    rw [← A.kids, List.map_map]
    rfl
  · rw [if_neg c1, if_neg c1]
    by_cases c2 : lvl N (B.tr p.2) < lvl N (A.tr p.1)
    · rw [if_pos c2, if_pos c2, List.map_map]
      show _ = (FT.kids (B.tr p.2)).map fun t => (A.tr p.1, t)
      rw [← B.kids, List.map_map]
      rfl
    · rw [if_neg c2, if_neg c2]
      show _ = (FT.kids (A.tr p.1)).zip (FT.kids (B.tr p.2))
      rw [← A.kids, ← B.kids, List.zip_map]
      rfl
noncomputable def joinedI (N : Nat) (f : V → V → V) (A B : FD) : Walked (Nat × Nat) V := (joined N f).pull (trP A B) (belowI N A B) (belowI_map N A B)
theorem belowI_lt {N : Nat} {A B : FD} {p q : Nat × Nat} (h : p.1 < A.ts.length ∧ p.2 < B.ts.length) (m : q ∈ belowI N A B p) : q.1 < A.ts.length ∧ q.2 < B.ts.length := by
  unfold belowI at m
  split at m
  · obtain ⟨x, hx, rfl⟩ := List.mem_map.mp m
    exact ⟨A.lt _ x hx, h.2⟩
  · split at m
    · obtain ⟨x, hx, rfl⟩ := List.mem_map.mp m
      exact ⟨h.1, B.lt _ x hx⟩
    · obtain ⟨h1, h2⟩ := List.of_mem_zip (show (q.1, q.2) ∈ _ from m)
      exact ⟨A.lt _ _ h1, B.lt _ _ h2⟩
/-- what the nodes of a form are: ordered, of values that a form may have -/
structure FD.Okay (N : Nat) (ks : Nat → Nat) (A : FD) : Prop where
  wo : ∀ t ∈ A.ts, Wo N ks 0 t
  vl : ∀ t ∈ A.ts, Lv Vl t
  ne : A.ts ≠ []
theorem FD.Okay.at_ {N : Nat} {ks : Nat → Nat} {A : FD} (h : A.Okay N ks) (i : Nat) : Wo N ks 0 (A.tr i) ∧ Lv Vl (A.tr i) := by
  by_cases q : i < A.ts.length
  · exact ⟨h.wo _ (FD.tr_at q), h.vl _ (FD.tr_at q)⟩
  · have e : A.tr i = lf0 := by
      unfold FD.tr
      rw [List.getD_eq_getElem?_getD, List.getElem?_eq_none (by omega)]
      rfl
    rw [e]
    exact ⟨by rw [Wo]; trivial, by rw [Lv]; trivial⟩
theorem FD.Okay.kd_len {N k : Nat} {ks : Nat → Nat} (hk : ∀ l, l < N → ks l ≤ k) {A : FD} (h : A.Okay N ks) (i : Nat) : (A.kd i).length ≤ k := by
  have e : (A.kd i).length = (FT.kids (A.tr i)).length := by rw [← A.kids, List.length_map]
  rw [e]
  by_cases q : lvl N (A.tr i) < N
  · rw [(wo_node (h.at_ i).1 q).2.2.1]; exact hk _ q
  · rw [wo_leaf (h.at_ i).1 q]; exact Nat.zero_le _
/-- a form put together: no node stands twice -/
noncomputable def FD.of (ns : List (Tr V)) (c : Closed ns) : FD where
  ts := ns
  kd := fun i => (FT.kids (ns.getD i lf0)).map (ix ns)
  ok := fun i => by
    rw [List.map_map]
    have : ∀ u ∈ FT.kids (ns.getD i lf0), u ∈ ns := fun u hu => by
      by_cases q : i < ns.length
      · rw [List.getD_eq_getElem?_getD, List.getElem?_eq_getElem q] at hu
        exact kids_in c (List.getElem_mem q) hu
      · rw [List.getD_eq_getElem?_getD, List.getElem?_eq_none (by omega)] at hu
        exact nomatch hu
    conv => rhs; rw [← List.map_id (FT.kids (ns.getD i lf0))]
    refine List.map_congr_left fun u hu => ?_
    show ns.getD (ix ns u) lf0 = u
    rw [List.getD_eq_getElem?_getD, ix_get (this u hu)]
    rfl
  lt := fun i k hk => by
    obtain ⟨u, hu, rfl⟩ := List.mem_map.mp hk
    refine ix_lt ?_
    by_cases q : i < ns.length
    · rw [List.getD_eq_getElem?_getD, List.getElem?_eq_getElem q] at hu
      exact kids_in c (List.getElem_mem q) hu
    · rw [List.getD_eq_getElem?_getD, List.getElem?_eq_none (by omega)] at hu
      exact nomatch hu
structure StkI (N M : Nat) (A B : FD) (w : List (Nat × Nat)) : Prop where
  mem : ∀ p ∈ w, p.1 < A.ts.length ∧ p.2 < B.ts.length
  low : Low N M (w.map (trP A B))
theorem below_lowO {N : Nat} {ks : Nat → Nat} {b : Nat} {p q : Tr V × Tr V} (h1 : Wo N ks b p.1) (h2 : Wo N ks b p.2) (m : q ∈ belowT N p) : lv2 N p < lv2 N q := by
  have low : ∀ {t : Tr V} {c : Nat}, Wo N ks (c + 1) t → c < N → c < lvl N t := by
    intro t c h g
    cases t with
    | leaf v => exact g
    | node l ts => rw [Wo] at h; exact h.1
  have key : ∀ x y : Tr V, Wo N ks (lv2 N p + 1) x → Wo N ks (lv2 N p + 1) y → lv2 N p < N → q = (x, y) → lv2 N p < lv2 N q := by
    intro x y hx hy g e
    subst e
    have a := low hx g
    have b := low hy g
    show _ < min (lvl N x) (lvl N y)
    omega
  have t1 := wo_le h1
  have t2 := wo_le h2
  unfold belowT at m
  split at m
  · rename_i c
    obtain ⟨x, hx, e⟩ := List.mem_map.mp m
    have el : lv2 N p = lvl N p.1 := by unfold lv2; omega
    exact key x p.2 (by rw [el]; exact wo_kids h1 hx) (by rw [el]; exact wo_at h2 c) (by rw [el]; omega) e.symm
  · rename_i c
    split at m
    · rename_i c2
      obtain ⟨x, hx, e⟩ := List.mem_map.mp m
      have el : lv2 N p = lvl N p.2 := by unfold lv2; omega
      exact key p.1 x (by rw [el]; exact wo_at h1 c2) (by rw [el]; exact wo_kids h2 hx) (by rw [el]; omega) e.symm
    · rename_i c2
      obtain ⟨hx, hy⟩ := List.of_mem_zip (show (q.1, q.2) ∈ _ from m)
      have e1 : lv2 N p = lvl N p.1 := by unfold lv2; omega
      have e2 : lv2 N p = lvl N p.2 := by unfold lv2; omega
      have g : lv2 N p < N := by
        rw [e1]
        cases e : p.1 with
        | leaf v => rw [e] at hx; exact nomatch hx
        | node l ts =>
          rw [e, Wo] at h1
          exact h1.2.1
      exact key q.1 q.2 (by rw [e1]; exact wo_kids h1 hx) (by rw [e2]; exact wo_kids h2 hy) g rfl
theorem stkI_turn {N M : Nat} {ks : Nat → Nat} {A B : FD} {f : V → V → V} (hA : A.Okay N ks) (hB : B.Okay N ks) (few : ∀ p, (belowI N A B p).length ≤ M) {s : St (Nat × Nat) V} (h : StkI N M A B s.waiting) : StkI N M A B (turn (joinedI N f A B) s).waiting := by
  obtain ⟨rs, done, w⟩ := s
  cases w with
  | nil => exact h
  | cons p r =>
    obtain ⟨h1, h3⟩ := h
    show StkI N M A B (if missing (joinedI N f A B) done p = [] then (⟨_, _, r⟩ : St (Nat × Nat) V) else ⟨_, _, _⟩).waiting
    by_cases e : missing (joinedI N f A B) done p = []
    · rw [if_pos e]
      exact ⟨fun q hq => h1 q (List.mem_cons_of_mem _ hq), h3.2⟩
    · rw [if_neg e]
      have sub : ∀ q ∈ missing (joinedI N f A B) done p, q ∈ belowI N A B p := fun q hq => (List.mem_filter.mp hq).1
      refine ⟨fun q hq => ?_, ?_⟩
      · rcases List.mem_append.mp hq with hq | hq
        · exact belowI_lt (h1 p List.mem_cons_self) (sub q hq)
        · exact h1 q hq
      · show Low N M ((missing (joinedI N f A B) done p ++ p :: r).map (trP A B))
        rw [List.map_append]
        refine low_app (c := lv2 N (trP A B p)) (fun q hq => ?_) h3 ?_
        · obtain ⟨x, hx, rfl⟩ := List.mem_map.mp hq
          exact below_lowO (hA.at_ p.1).1 (hB.at_ p.2).1 (by rw [← belowI_map]; exact List.mem_map_of_mem (sub x hx))
        · have l1 : (missing (joinedI N f A B) done p).length ≤ M := Nat.le_trans (List.length_filter_le _ _) (few p)
          have l2 : ((p :: r).map (trP A B)).length ≤ 1 + M * lv2 N (trP A B p) := h3.1
          rw [List.length_map, Nat.mul_add, Nat.mul_one]
          omega
theorem stkI_start {N M : Nat} {A B : FD} {p : Nat × Nat} (h : p.1 < A.ts.length ∧ p.2 < B.ts.length) : StkI N M A B [p] :=
  ⟨fun q hq => by rw [List.mem_singleton.mp hq]; exact h, by show [trP A B p].length ≤ _ ∧ True; exact ⟨by rw [List.length_singleton]; omega, trivial⟩⟩
theorem stkI_len {N M : Nat} {ks : Nat → Nat} {A B : FD} {w : List (Nat × Nat)} (hA : A.Okay N ks) (h : StkI N M A B w) : w.length ≤ 1 + M * N := by
  cases w with
  | nil => exact Nat.zero_le _
  | cons p r =>
    have l : ((p :: r).map (trP A B)).length ≤ 1 + M * lv2 N (trP A B p) := h.low.1
    have g : lv2 N (trP A B p) ≤ N := by
      have : lvl N (trP A B p).1 ≤ N := wo_le (hA.at_ p.1).1
      unfold lv2
      omega
    have := Nat.mul_le_mul_left M g
    rw [List.length_map] at l
    omega
structure DoneI (W : Walked (Nat × Nat) V) (a b : Nat) (s : St (Nat × Nat) V) (kvs : List (NestedKey × V)) : Prop where
  val : ∀ i j : Nat, valV kvs (pairK i j) = if (i, j) ∈ s.done then some (.int (ix s.ns (W.val (i, j)) : Nat)) else none
  nd : (kvs.map (·.1)).Nodup
  rg : ∀ k ∈ kvs.map (·.1), ∃ i j, i < a ∧ j < b ∧ k = pairK i j
theorem doneI_start {W : Walked (Nat × Nat) V} {a b : Nat} {p : Nat × Nat} : DoneI W a b ⟨[], [], [p]⟩ [] where
  val := fun i j => by rw [if_neg (fun z => nomatch z)]; rfl
  nd := List.nodup_nil
  rg := fun _ h => nomatch h
theorem keys_put {kvs : List (NestedKey × V)} {k : NestedKey} {v : V} : (putK kvs k v).map (·.1) = kvs.map (·.1) ∨ (k ∉ kvs.map (·.1) ∧ (putK kvs k v).map (·.1) = kvs.map (·.1) ++ [k]) := by
  unfold putK
  by_cases h : (kvs.any fun x => decide (x.1 = k)) = true
  · rw [if_pos h]
    refine .inl ?_
    rw [List.map_map]
    refine List.map_congr_left fun x _ => ?_
    show (if x.1 = k then _ else x : NestedKey × V).1 = x.1
    by_cases e : x.1 = k
    · rw [if_pos e]
    · rw [if_neg e]
  · rw [if_neg h]
    refine .inr ⟨fun m => h ?_, by rw [List.map_append]; rfl⟩
    obtain ⟨x, hx, e⟩ := List.mem_map.mp m
    exact List.any_eq_true.mpr ⟨x, hx, decide_eq_true e⟩
theorem doneI_put {W : Walked (Nat × Nat) V} {F : List (Tr V)} {a b : Nat} {rs : List (Tr V)} {done r : List (Nat × Nat)} {kvs : List (NestedKey × V)} {p : Nat × Nat} (ok : Ok W F ⟨rs, done, p :: r⟩) (h : DoneI W a b ⟨rs, done, p :: r⟩ kvs) (hp : p.1 < a ∧ p.2 < b) :
    DoneI W a b ⟨fin (W.val p) rs, p :: done, r⟩ (putK kvs (pairK p.1 p.2) (.int (ix (fin (W.val p) rs) (W.val p) : Nat))) := by
  obtain ⟨i, j⟩ := p
  refine ⟨fun k l => ?_, ?_, ?_⟩
  · have keep : ∀ q ∈ done, ix (fin (W.val (i, j)) rs) (W.val q) = ix rs (W.val q) := fun q hq => by
      obtain ⟨m, e⟩ := fin_pre (W.val (i, j)) rs
      rw [e, ix_more (ok.there q hq)]
    have g := h.val k l
    rw [valV_put]
    by_cases e : pairK k l = pairK i j
    · obtain ⟨e1, e2⟩ := pairK_inj e
      rw [e1, e2, if_pos rfl, if_pos List.mem_cons_self]
    · have ne : (k, l) ≠ (i, j) := fun z => by
        cases z
        exact e rfl
      rw [if_neg e, g]
      by_cases m : (k, l) ∈ done
      · rw [if_pos m, if_pos (List.mem_cons_of_mem _ m), keep _ m]
      · rw [if_neg m, if_neg fun z => (List.mem_cons.mp z).elim ne m]
  · rcases keys_put (kvs := kvs) (k := pairK i j) (v := .int (ix (fin (W.val (i, j)) rs) (W.val (i, j)) : Nat)) with e | ⟨m, e⟩
    · rw [e]; exact h.nd
    · rw [e]
      exact List.nodup_append.mpr ⟨h.nd, List.nodup_cons.mpr ⟨(fun z => nomatch z), List.nodup_nil⟩, fun x hx y hy z => by
        rw [List.mem_singleton.mp hy] at z
        exact m (z ▸ hx)⟩
  · intro k hk
    rcases keys_put (kvs := kvs) (k := pairK i j) (v := .int (ix (fin (W.val (i, j)) rs) (W.val (i, j)) : Nat)) with e | ⟨m, e⟩
    · rw [e] at hk; exact h.rg k hk
    · rw [e] at hk
      rcases List.mem_append.mp hk with hk | hk
      · exact h.rg k hk
      · exact ⟨i, j, hp.1, hp.2, List.mem_singleton.mp hk⟩
/-- few enough -/
theorem DoneI.len {W : Walked (Nat × Nat) V} {a b : Nat} {s : St (Nat × Nat) V} {kvs : List (NestedKey × V)} (h : DoneI W a b s kvs) : kvs.length ≤ a * b := by
  have all : kvs.map (·.1) ⊆ (List.range a).flatMap fun i => (List.range b).map fun j => pairK i j := fun k hk => by
    obtain ⟨i, j, hi, hj, e⟩ := h.rg k hk
    exact List.mem_flatMap.mpr ⟨i, List.mem_range.mpr hi, List.mem_map.mpr ⟨j, List.mem_range.mpr hj, e.symm⟩⟩
  have l := List.Nodup.length_le_of_subset h.nd all
  rw [List.length_map, List.length_flatMap] at l
  have e : ((List.range a).map fun i => ((List.range b).map fun j => pairK i j).length) = (List.range a).map fun _ => b := List.map_congr_left fun i _ => by rw [List.length_map, List.length_range]
  rw [e] at l
  have s : ∀ n, ((List.range n).map fun _ => b).sum = n * b := by
    intro n
    induction n with
    | zero => rw [Nat.zero_mul]; rfl
    | succ n ih => rw [List.range_succ, List.map_append, List.sum_append, ih, Nat.add_mul, Nat.one_mul]; rfl
  rw [s] at l
  exact l
end FT
namespace R52
open PySem L2 L3 FT ND
open C8 (pss_cut tCut pe_gc)
abbrev sIsC : Stmt := top 19
abbrev sUp : Stmt := top 22
abbrev sPicked : Stmt := top 26
/-- a node, the lower ones told by their numbers -/
def NodeI (nm : Nat → Str) (H : Hp) : Tr V → List Nat → V → Prop
  | .leaf x, _, v => Vl x ∧ ∃ a, v = .ref a ∧ H a = some (.tup [.str (kindV x), x])
  | .node l _, is, v => ∃ a b, v = .ref a ∧ H a = some (.tup [.str (nm l), .ref b]) ∧ H b = some (.tup (is.map fun k => V.int (k : Nat)))
theorem NodeI.same {nm : Nat → Str} {H H' : Hp} (s : Same H H') : ∀ {t : Tr V} {is : List Nat} {v : V}, NodeI nm H t is v → NodeI nm H' t is v
  | .leaf _, _, _, ⟨h, a, e, k⟩ => ⟨h, a, e, s _ _ k⟩
  | .node _ _, _, _, ⟨a, b, e, k, j⟩ => ⟨a, b, e, s _ _ k, s _ _ j⟩
def isN : Tr V → Bool
  | .leaf _ => false
  | .node _ _ => true
/-- the first item of a node -/
def headS (nm : Nat → Str) : Tr V → Str
  | .leaf x => kindV x
  | .node l _ => nm l
abbrev ffl (tn tl : Addr) : List (Str × V) := [("nodes", .ref tn), ("levels", .ref tl)]
/-- a list or a tuple -/
def SeqAt (H : Hp) (a : Addr) (vs : List V) : Prop := H a = some (.lst vs) ∨ H a = some (.tup vs)
/-- the object of a form: its nodes, the levels of these -/
structure FormI (nm : Nat → Str) (N : Nat) (A : FD) (H : Hp) (tn tl : Addr) : Prop where
  tn : ∃ vs, SeqAt H tn vs ∧ vs.length = A.ts.length ∧ ∀ (i : Nat) (v : V), vs[i]? = some v → NodeI nm H (A.tr i) (A.kd i) v
  tl : SeqAt H tl (A.ts.map fun t => V.int (lvl N t : Nat))
def FormAt (C : Addr) (nm : Nat → Str) (N : Nat) (A : FD) (H : Hp) (x : V) : Prop := ∃ a dx tn tl, x = .ref a ∧ H a = some (.ins C dx (ffl tn tl)) ∧ FormI nm N A H tn tl
/-- a form whose nodes stand in a tuple -/
def FormT (C : Addr) (nm : Nat → Str) (N : Nat) (A : FD) (H : Hp) (x : V) : Prop := ∃ a dx tn tl, x = .ref a ∧ H a = some (.ins C dx (ffl tn tl)) ∧ FormI nm N A H tn tl ∧ ∃ vs, H tn = some (.tup vs)
theorem FormT.at {C : Addr} {nm : Nat → Str} {N : Nat} {A : FD} {H : Hp} {x : V} (h : FormT C nm N A H x) : FormAt C nm N A H x := by
  obtain ⟨a, dx, tn, tl, h1, h2, h3, _⟩ := h
  exact ⟨a, dx, tn, tl, h1, h2, h3⟩
theorem SeqAt.same {H H' : Hp} {a : Addr} {vs : List V} (s : Same H H') (h : SeqAt H a vs) : SeqAt H' a vs := h.elim (fun e => .inl (s _ _ e)) (fun e => .inr (s _ _ e))
theorem FormI.same {nm : Nat → Str} {N : Nat} {A : FD} {H H' : Hp} {tn tl : Addr} (s : Same H H') (h : FormI nm N A H tn tl) : FormI nm N A H' tn tl := by
  obtain ⟨vs, h1, h2, h3⟩ := h.tn
  exact ⟨⟨vs, h1.same s, h2, fun i v b => (h3 i v b).same s⟩, h.tl.same s⟩
theorem FormAt.same {C : Addr} {nm : Nat → Str} {N : Nat} {A : FD} {H H' : Hp} {x : V} (s : Same H H') (h : FormAt C nm N A H x) : FormAt C nm N A H' x := by
  obtain ⟨a, dx, tn, tl, e, h1, h2⟩ := h
  exact ⟨a, dx, tn, tl, e, s _ _ h1, h2.same s⟩
theorem FormT.same {C : Addr} {nm : Nat → Str} {N : Nat} {A : FD} {H H' : Hp} {x : V} (s : Same H H') (h : FormT C nm N A H x) : FormT C nm N A H' x := by
  obtain ⟨a, dx, tn, tl, e, h1, h2, vs, h3⟩ := h
  exact ⟨a, dx, tn, tl, e, s _ _ h1, h2.same s, vs, s _ _ h3⟩
def rIxQ (K : PySem.W.Frag) : R2 := fun x y H Q => rIxL K x y H Q ∨ rIxT K x y H Q
theorem ix_sq {X : Cx} : IxR X (rIxQ X.K) := IxR.or ix_list ix_tup
theorem ixq {K : PySem.W.Frag} {H : Hp} {a : Addr} {vs : List V} {i : Int} {v : V} {Q : VK} (h : SeqAt H a vs) (g : atI vs i = some v) (q : Q v H) : rIxQ K (.ref a) (.int i) H Q :=
  h.elim (fun e => .inl ⟨a, vs, i, v, rfl, rfl, SqL.of e, g, q⟩) (fun e => .inr ⟨a, vs, i, v, rfl, rfl, SqT.of e, g, q⟩)
theorem seq_len {K : PySem.W.Frag} {H : Hp} {a : Addr} {vs : List V} (h : SeqAt H a vs) : SqL K H a vs ∨ SqT K H a vs := h.elim (fun e => .inl (SqL.of e)) (fun e => .inr (SqT.of e))
/-- the class of forms -/
structure FormC (K : PySem.W.Frag) (mg : Str → Option Value) (C : Addr) : Prop where
  cl : Cls K C
  nN : NoAttr K C "nodes"
  nL : NoAttr K C "levels"
theorem lk_nodes {tn tl : Addr} : (ffl tn tl).lookup ("nodes" : Str) = some (.ref tn) := by rfl
theorem lk_levels {tn tl : Addr} : (ffl tn tl).lookup ("levels" : Str) = some (.ref tl) := by rfl
section
variable {P : Program} {w : World} {K : PySem.W.Frag} {mg : Str → Option Value} {base : Heap} {C : Addr} {nm : Nat → Str} {N : Nat}
/-- reading levels[i] -/
theorem lev_at {A : FD} {H : Hp} {tn tl : Addr} {i : Nat} (h : FormI nm N A H tn tl) (hi : i < A.ts.length) : ∃ xs, SeqAt H tl xs ∧ atI xs (i : Int) = some (.int (lvl N (A.tr i) : Nat)) :=
  ⟨_, h.tl, atI_nat (by rw [List.getElem?_map, FD.get hi]; rfl)⟩
theorem node_at {A : FD} {H : Hp} {tn tl : Addr} {i : Nat} (h : FormI nm N A H tn tl) (hi : i < A.ts.length) : ∃ xs v, SeqAt H tn xs ∧ atI xs (i : Int) = some v ∧ NodeI nm H (A.tr i) (A.kd i) v := by
  obtain ⟨vs, h1, h2, h3⟩ := h.tn
  have l : i < vs.length := by rw [h2]; exact hi
  have hv := List.getElem?_eq_getElem l
  exact ⟨vs, vs[i], h1, atI_nat hv, h3 i _ hv⟩
theorem head_at {H : Hp} {t : Tr V} {is : List Nat} {v : V} (h : NodeI nm H t is v) : ∃ a x, v = .ref a ∧ SqT K H a [.str (headS nm t), x] := by
  cases t with
  | leaf y =>
    obtain ⟨_, a, e, k⟩ := h
    exact ⟨a, y, e, SqT.of k⟩
  | node l ts =>
    obtain ⟨a, b, e, k, _⟩ := h
    exact ⟨a, .ref b, e, SqT.of k⟩
def spIsC (nm : Nat → Str) : Sp := fun vs H Q _ => ∃ (t : Tr V) (is : List Nat) (v : V), vs = [v] ∧ NodeI nm H t is v ∧ Q (.bl (isN t)) H
theorem scIC : FnScope ["node"] ["node"] (defScope sIsC) := ⟨rfl, rfl, rfl, by decide +kernel, rfl, by decide +kernel, by decide +kernel⟩
structure KitN (K : PySem.W.Frag) : Prop where
  n : PySem.W.kitOne K (.type "NoneType") (.type "tuple") = some false
  b : PySem.W.kitOne K (.type "bool") (.type "tuple") = some false
  i : PySem.W.kitOne K (.type "int") (.type "tuple") = some false
  s : PySem.W.kitOne K (.type "str") (.type "tuple") = some false
  t : PySem.W.kitOne K (.type "tuple") (.type "tuple") = some true
theorem ok_isc {f : Addr} {fd : FuncData} (F : Fun K "is_choice" "is_choice" sIsC f fd) (T : KitN K) (zIsi : mg "isinstance" = none) (zTup : mg "tuple" = none) : FnOk P w K mg base CX0 1 f fd ["node"] (spIsC nm) := by
  refine F.ok scIC (fun vs H Q E h => ?_) (fun cdv A outer s H vs Q E hr h => ?_)
  · obtain ⟨t, is, v, rfl, _⟩ := h
    rfl
  · obtain ⟨t, is, v, rfl, hv, k⟩ := h
    refine ⟨_, pss_one (ps_ret (pe_callB call_isi (by rfl) zIsi PyProof.Rows.boot_isinstance (pa_cons (pe_ix (r := rIxT K) (by exact ix_tup) (pv 0) pe_int (fun _ _ => rfl)) (pa_cons (pe_bltn (v := .ty "tuple") (by rfl) zTup (by decide +kernel) rfl) pa_nil)))), ?_⟩
    cases t with
    | leaf x =>
      obtain ⟨hx, a, rfl, e⟩ := hv
      obtain ⟨y, ty, kt⟩ : ∃ y, TyX K H x y ∧ PySem.W.kitOne K y (.type "tuple") = some false := by
        cases x with
        | non => exact ⟨_, .base .non, T.n⟩
        | bl b => exact ⟨_, .base (.bl b), T.b⟩
        | int i => exact ⟨_, .base (.int i), T.i⟩
        | str z => exact ⟨_, .base (.str z), T.s⟩
        | byt _ => exact hx.elim
        | flt _ => exact hx.elim
        | ref _ => exact hx.elim
        | ty _ => exact hx.elim
      exact ⟨_, rfl, a, [.str (kindV x), x], 1, x, rfl, rfl, SqT.of e, rfl, x, .ty "tuple", y, .type "tuple", false, rfl, .ty _, ty, kt, k⟩
    | node l ts =>
      obtain ⟨a, b, rfl, e, eb⟩ := hv
      exact ⟨_, rfl, a, [.str (nm l), .ref b], 1, .ref b, rfl, rfl, SqT.of e, rfl, .ref b, .ty "tuple", _, .type "tuple", true, rfl, .ty _, .base (.tup eb), T.t, k⟩
def spUp (C : Addr) (nm : Nat → Str) (N : Nat) : Sp := fun vs H Q _ => ∃ (A B : FD) (x y : V) (p : Addr) (i j : Nat), vs = [x, y, .ref p] ∧ FormAt C nm N A H x ∧ FormAt C nm N B H y ∧ H p = some (.tup [.int i, .int j]) ∧
  i < A.ts.length ∧ j < B.ts.length ∧ Q (.str (if lvl N (A.tr i) ≤ lvl N (B.tr j) then headS nm (A.tr i) else headS nm (B.tr j))) H
theorem scUp : FnScope ["one", "other", "pair"] ["one", "other", "pair"] (defScope sUp) := ⟨rfl, rfl, rfl, by decide +kernel, rfl, by decide +kernel, by decide +kernel⟩
theorem ok_up {f : Addr} {fd : FuncData} (F : Fun K "upper_name" "upper_name" sUp f fd) (T : FormC K mg C) : FnOk P w K mg base CX0 1 f fd ["one", "other", "pair"] (spUp C nm N) := by
  refine F.ok scUp (fun vs H Q E h => ?_) (fun cdv A outer s H vs Q E hr h => ?_)
  · obtain ⟨A, B, x, y, p, i, j, rfl, _⟩ := h
    rfl
  · obtain ⟨A1, B1, x, y, p, i, j, rfl, hx, hy, hp, hi, hj, k⟩ := h
    refine ⟨_, pss_cons (ps_if (pt_cmpR op_le (pe_ix (r := rIxQ K) (by exact ix_sq) (pe_fld (pv 0) rfl) (pe_ix (r := rIxT K) (by exact ix_tup) (pv 2) pe_int (fun _ _ => rfl)) (fun _ _ => rfl)) (pe_ix (r := rIxQ K) (by exact ix_sq) (pe_fld (pv 1) rfl) (pe_ix (r := rIxT K) (by exact ix_tup) (pv 2) pe_int (fun _ _ => rfl)) (fun _ _ => rfl)) (nomark _))
        (pss_one (ps_ret (pe_ix (r := rIxT K) (by exact ix_tup) (pe_ix (r := rIxQ K) (by exact ix_sq) (pe_fld (pv 0) rfl) (pe_ix (r := rIxT K) (by exact ix_tup) (pv 2) pe_int (fun _ _ => rfl)) (fun _ _ => rfl)) pe_int (fun _ _ => rfl)))) pss_nil)
      (pss_one (ps_ret (pe_ix (r := rIxT K) (by exact ix_tup) (pe_ix (r := rIxQ K) (by exact ix_sq) (pe_fld (pv 1) rfl) (pe_ix (r := rIxT K) (by exact ix_tup) (pv 2) pe_int (fun _ _ => rfl)) (fun _ _ => rfl)) pe_int (fun _ _ => rfl)))), ?_⟩
    obtain ⟨a, dx, tn, tl, rfl, ha, fa⟩ := hx
    obtain ⟨b, dy, un, ul, rfl, hb, fb⟩ := hy
    obtain ⟨l1, s1, g1⟩ := lev_at fa hi
    obtain ⟨l2, s2, g2⟩ := lev_at fb hj
    have p0 : atI [V.int (i : Int), V.int (j : Int)] 0 = some (.int (i : Int)) := rfl
    have p1 : atI [V.int (i : Int), V.int (j : Int)] 1 = some (.int (j : Int)) := rfl
    refine ⟨_, rfl, a, C, dx, _, _, rfl, ha, T.cl, T.nL, lk_levels, _, rfl, p, _, 0, _, rfl, rfl, SqT.of hp, p0, ixq s1 g1 ?_⟩
    refine ⟨_, rfl, b, C, dy, _, _, rfl, hb, T.cl, T.nL, lk_levels, _, rfl, p, _, 1, _, rfl, rfl, SqT.of hp, p1, ixq s2 g2 ?_⟩
    refine ⟨_, _, rfl, rfl, _, rfl, ?_⟩
    obtain ⟨n1, v1, q1, r1, nv1⟩ := node_at fa hi
    obtain ⟨n2, v2, q2, r2, nv2⟩ := node_at fb hj
    obtain ⟨c1, x1, rfl, h1⟩ := head_at (K := K) nv1
    obtain ⟨c2, x2, rfl, h2⟩ := head_at (K := K) nv2
    by_cases q : lvl N (A1.tr i) ≤ lvl N (B1.tr j)
    · rw [if_pos q] at k
      refine ifT (decide_eq_true (by omega)) ?_
      exact ⟨_, rfl, a, C, dx, _, _, rfl, ha, T.cl, T.nN, lk_nodes, _, rfl, p, _, 0, _, rfl, rfl, SqT.of hp, p0, ixq q1 r1 ⟨c1, _, 0, _, rfl, rfl, h1, rfl, k⟩⟩
    · rw [if_neg q] at k
      refine ifF (decide_eq_false (by omega)) ?_
      exact ⟨_, rfl, b, C, dy, _, _, rfl, hb, T.cl, T.nN, lk_nodes, _, rfl, p, _, 1, _, rfl, rfl, SqT.of hp, p1, ixq q2 r2 ⟨c2, _, 0, _, rfl, rfl, h2, rfl, k⟩⟩
end
end R52
namespace R52
open PySem L2 L3 FT ND
open C8 (pss_cut tCut pe_gc)
/-- what the written part says of the built-in classes -/
structure KitT (K : PySem.W.Frag) : Prop where
  bb : PySem.W.kitOne K (.type "bool") (.type "bool") = some true
  bi : PySem.W.kitOne K (.type "bool") (.type "int") = some true
  bs : PySem.W.kitOne K (.type "bool") (.type "str") = some false
  ib : PySem.W.kitOne K (.type "int") (.type "bool") = some false
  ii : PySem.W.kitOne K (.type "int") (.type "int") = some true
  is : PySem.W.kitOne K (.type "int") (.type "str") = some false
  sb : PySem.W.kitOne K (.type "str") (.type "bool") = some false
  si : PySem.W.kitOne K (.type "str") (.type "int") = some false
  ss : PySem.W.kitOne K (.type "str") (.type "str") = some true
  tb : PySem.W.kitOne K (.type "tuple") (.type "bool") = some false
  ti : PySem.W.kitOne K (.type "tuple") (.type "int") = some false
  ts : PySem.W.kitOne K (.type "tuple") (.type "str") = some false
section
variable {P : Program} {w : World} {K : PySem.W.Frag} {mg : Str → Option Value} {base : Heap} {H : Hp}
theorem cls_bl (T : KitT K) (b : Bool) : Cls3 K H (.bl b) true true false := ⟨rfl, .type "bool", .base (.bl b), T.bb, T.bi, T.bs⟩
theorem cls_int (T : KitT K) (i : Int) : Cls3 K H (.int i) false true false := ⟨rfl, .type "int", .base (.int i), T.ib, T.ii, T.is⟩
theorem cls_str (T : KitT K) (z : Str) : Cls3 K H (.str z) false false true := ⟨rfl, .type "str", .base (.str z), T.sb, T.si, T.ss⟩
/-- a value -/
inductive Val : V → Prop
  | non : Val .non
  | bl (b : Bool) : Val (.bl b)
  | int (i : Int) : Val (.int i)
  | str (z : Str) : Val (.str z)
theorem Val.of {x : V} (h : Vl x) : Val x := by
  cases x <;> first | exact h.elim | constructor
theorem kind_of {x : V} (T : KitT K) (h : Val x) {Q : VK} (q : Q (.str (kindV x)) H) : spKind K [x] H Q E0 := by
  cases h with
  | non => exact ⟨_, rfl, .inl ⟨rfl, q⟩⟩
  | bl b => exact ⟨_, rfl, .inr ⟨_, _, _, cls_bl T b, q⟩⟩
  | int i => exact ⟨_, rfl, .inr ⟨_, _, _, cls_int T i, q⟩⟩
  | str z => exact ⟨_, rfl, .inr ⟨_, _, _, cls_str T z, q⟩⟩
def spIsSame : Sp := fun vs H Q _ => ∃ x y : V, vs = [x, y] ∧ Val x ∧ Val y ∧ Q (.bl (decide (x = y))) H
theorem scIs : FnScope ["one", "other"] ["one", "other"] (defScope sIsSame) := ⟨rfl, rfl, rfl, by decide +kernel, rfl, by decide +kernel, by decide +kernel⟩
theorem ok_issame {f fN : Addr} {fd fdN : FuncData} (F : Fun K "is_same" "is_same" sIsSame f fd) (T : KitT K) (GN : FnOk P w K mg base CX0 1 fN fdN ["value"] (spKind K)) (kN : PySem.W.keepIn K (.ref fN) = true) (bN : Binds K fdN ["value"] []) (gN : mg "kind_of" = some (.ref fN)) :
    FnOk P w K mg base CX0 2 f fd ["one", "other"] spIsSame := by
  refine F.ok scIs (fun vs H Q E h => ?_) (fun cdv A outer s H vs Q E hr h => ?_)
  · obtain ⟨x, y, rfl, _⟩ := h
    rfl
  · obtain ⟨x, y, rfl, hx, hy, k⟩ := h
    refine ⟨_, pss_one (ps_ret (pe_and (pe_cmpR op_eq (pe_call GN hr (by rfl) gN kN bN .nil pass0 (pa_cons (pv 0) pa_nil)) (pe_call GN hr (by rfl) gN kN bN .nil pass0 (pa_cons (pv 1) pa_nil)) (nomark _)) (pe_one (pe_cmpR op_eq (pv 0) (pv 1) (nomark _))))), ?_⟩
    cases hx with
    | non =>
      cases hy with
      | non => exact ⟨_, rfl, _, rfl, .inl ⟨rfl, ⟨_, rfl, _, rfl, .inl ⟨rfl, ⟨rfl, _, rfl, ifT rfl ⟨_, rfl, _, rfl, rfl, k⟩⟩⟩⟩⟩⟩
      | bl b2 => exact ⟨_, rfl, _, rfl, .inl ⟨rfl, ⟨_, rfl, _, rfl, .inr ⟨_, _, _, cls_bl T b2, ⟨rfl, _, rfl, ifF (by decide +kernel) k⟩⟩⟩⟩⟩
      | int i2 => exact ⟨_, rfl, _, rfl, .inl ⟨rfl, ⟨_, rfl, _, rfl, .inr ⟨_, _, _, cls_int T i2, ⟨rfl, _, rfl, ifF (by decide +kernel) k⟩⟩⟩⟩⟩
      | str z2 => exact ⟨_, rfl, _, rfl, .inl ⟨rfl, ⟨_, rfl, _, rfl, .inr ⟨_, _, _, cls_str T z2, ⟨rfl, _, rfl, ifF (by decide +kernel) k⟩⟩⟩⟩⟩
    | bl b1 =>
      cases hy with
      | non => exact ⟨_, rfl, _, rfl, .inr ⟨_, _, _, cls_bl T b1, ⟨_, rfl, _, rfl, .inl ⟨rfl, ⟨rfl, _, rfl, ifF (by decide +kernel) k⟩⟩⟩⟩⟩
      | bl b2 => exact ⟨_, rfl, _, rfl, .inr ⟨_, _, _, cls_bl T b1, ⟨_, rfl, _, rfl, .inr ⟨_, _, _, cls_bl T b2, ⟨rfl, _, rfl, ifT rfl ⟨_, rfl, _, rfl, rfl, k⟩⟩⟩⟩⟩⟩
      | int i2 => exact ⟨_, rfl, _, rfl, .inr ⟨_, _, _, cls_bl T b1, ⟨_, rfl, _, rfl, .inr ⟨_, _, _, cls_int T i2, ⟨rfl, _, rfl, ifF (by decide +kernel) k⟩⟩⟩⟩⟩
      | str z2 => exact ⟨_, rfl, _, rfl, .inr ⟨_, _, _, cls_bl T b1, ⟨_, rfl, _, rfl, .inr ⟨_, _, _, cls_str T z2, ⟨rfl, _, rfl, ifF (by decide +kernel) k⟩⟩⟩⟩⟩
    | int i1 =>
      cases hy with
      | non => exact ⟨_, rfl, _, rfl, .inr ⟨_, _, _, cls_int T i1, ⟨_, rfl, _, rfl, .inl ⟨rfl, ⟨rfl, _, rfl, ifF (by decide +kernel) k⟩⟩⟩⟩⟩
      | bl b2 => exact ⟨_, rfl, _, rfl, .inr ⟨_, _, _, cls_int T i1, ⟨_, rfl, _, rfl, .inr ⟨_, _, _, cls_bl T b2, ⟨rfl, _, rfl, ifF (by decide +kernel) k⟩⟩⟩⟩⟩
      | int i2 => exact ⟨_, rfl, _, rfl, .inr ⟨_, _, _, cls_int T i1, ⟨_, rfl, _, rfl, .inr ⟨_, _, _, cls_int T i2, ⟨rfl, _, rfl, ifT rfl ⟨_, rfl, _, rfl, rfl, k⟩⟩⟩⟩⟩⟩
      | str z2 => exact ⟨_, rfl, _, rfl, .inr ⟨_, _, _, cls_int T i1, ⟨_, rfl, _, rfl, .inr ⟨_, _, _, cls_str T z2, ⟨rfl, _, rfl, ifF (by decide +kernel) k⟩⟩⟩⟩⟩
    | str z1 =>
      cases hy with
      | non => exact ⟨_, rfl, _, rfl, .inr ⟨_, _, _, cls_str T z1, ⟨_, rfl, _, rfl, .inl ⟨rfl, ⟨rfl, _, rfl, ifF (by decide +kernel) k⟩⟩⟩⟩⟩
      | bl b2 => exact ⟨_, rfl, _, rfl, .inr ⟨_, _, _, cls_str T z1, ⟨_, rfl, _, rfl, .inr ⟨_, _, _, cls_bl T b2, ⟨rfl, _, rfl, ifF (by decide +kernel) k⟩⟩⟩⟩⟩
      | int i2 => exact ⟨_, rfl, _, rfl, .inr ⟨_, _, _, cls_str T z1, ⟨_, rfl, _, rfl, .inr ⟨_, _, _, cls_int T i2, ⟨rfl, _, rfl, ifF (by decide +kernel) k⟩⟩⟩⟩⟩
      | str z2 => exact ⟨_, rfl, _, rfl, .inr ⟨_, _, _, cls_str T z1, ⟨_, rfl, _, rfl, .inr ⟨_, _, _, cls_str T z2, ⟨rfl, _, rfl, ifT rfl ⟨_, rfl, _, rfl, rfl, k⟩⟩⟩⟩⟩⟩
theorem op_isT {X : Cx} : OpR X (compareOp .Is) (fun x y H Q => Val x ∧ y = .bl true ∧ Q (.bl (decide (x = .bl true))) H) := by
  intro pins s σ H x y v u Q I rx ry h
  obtain ⟨hx, rfl, q⟩ := h
  cases (show u = Value.bool true from ry)
  cases hx with
  | non =>
    cases (show v = Value.none from rx)
    exact wpAny_is_other rfl (fun z => nomatch z) ⟨.bl false, H, I, rfl, q⟩
  | bl b =>
    cases (show v = Value.bool b from rx)
    cases b with
    | true => exact wpAny_is_self rfl ⟨.bl true, H, I, rfl, q⟩
    | false => exact wpAny_is_other rfl (fun z => nomatch Value.bool.inj z) ⟨.bl false, H, I, rfl, q⟩
  | int i =>
    obtain ⟨t, e⟩ := (show ∃ t, v = Value.int i t from rx)
    subst e
    exact wpAny_is_other rfl (fun z => nomatch z) ⟨.bl false, H, I, rfl, q⟩
  | str z =>
    obtain ⟨t, e⟩ := (show ∃ t, v = Value.str z t from rx)
    subst e
    exact wpAny_is_other rfl (fun z => nomatch z) ⟨.bl false, H, I, rfl, q⟩
def tt (x : V) : Bool := decide (x = V.bl true)
/-- what an operation on values of all kinds gives -/
noncomputable def pickF (g : Str) (x y : V) : V :=
  if g = Str.ofString "is" then .bl (decide (x = y)) else if g = Str.ofString "either" then .bl (tt x || tt y) else if g = Str.ofString "both" then .bl (tt x && tt y)
  else if g = Str.ofString "limited" then (if tt y = true then x else .non) else if x = .non then y else x
def spPicked : Sp := fun vs H Q _ => ∃ (g : Str) (x y : V), vs = [.str g, x, y] ∧ Val x ∧ Val y ∧ Q (pickF g x y) H
theorem scPk : FnScope ["sign", "one", "other"] ["sign", "one", "other"] (defScope sPicked) := ⟨rfl, rfl, rfl, by decide +kernel, rfl, by decide +kernel, by decide +kernel⟩
theorem ok_picked {f fS : Addr} {fd fdS : FuncData} (F : Fun K "picked" "picked" sPicked f fd) (GS : FnOk P w K mg base CX0 2 fS fdS ["one", "other"] spIsSame) (kS : PySem.W.keepIn K (.ref fS) = true) (bS : Binds K fdS ["one", "other"] []) (gS : mg "is_same" = some (.ref fS)) :
    FnOk P w K mg base CX0 3 f fd ["sign", "one", "other"] spPicked := by
  refine F.ok scPk (fun vs H Q E h => ?_) (fun cdv A outer s H vs Q E hr h => ?_)
  · obtain ⟨g, x, y, rfl, _⟩ := h
    rfl
  · obtain ⟨g, x, y, rfl, hx, hy, k⟩ := h
    refine ⟨_, pss_cons (ps_if (pt_cmpR op_eq (pv 0) pe_str (nomark _)) (pss_one (ps_ret (pe_call GS hr (by rfl) gS kS bS .nil pass0 (pa_cons (pv 1) (pa_cons (pv 2) pa_nil))))) pss_nil)
      (pss_cons (ps_if (pt_cmpR op_eq (pv 0) pe_str (nomark _)) (pss_one (ps_ret (pe_or (pe_cmpR op_isT (pv 1) pe_bl (nomark _)) (pe_one (pe_cmpR op_isT (pv 2) pe_bl (nomark _)))))) pss_nil)
      (pss_cons (ps_if (pt_cmpR op_eq (pv 0) pe_str (nomark _)) (pss_one (ps_ret (pe_and (pe_cmpR op_isT (pv 1) pe_bl (nomark _)) (pe_one (pe_cmpR op_isT (pv 2) pe_bl (nomark _)))))) pss_nil)
      (pss_cons (ps_if (pt_cmpR op_eq (pv 0) pe_str (nomark _)) (pss_one (ps_ret (pe_ifExp (pt_cmpR op_isT (pv 2) pe_bl (nomark _)) (pv 1) pe_non))) pss_nil)
      (pss_one (ps_ret (pe_ifExp (pt_cmpR op_isN (pv 1) pe_non (nomark _)) (pv 2) (pv 1))))))), ?_⟩
    have ne : ∀ {z : Str}, ¬ g = z → decide (V.str g = V.str z) = false := fun h => decide_eq_false fun e => h (V.str.inj e)
    have ee : ∀ {z : Str}, g = z → decide (V.str g = V.str z) = true := fun h => decide_eq_true (congrArg V.str h)
    unfold pickF at k
    refine ⟨_, rfl, rfl, _, rfl, ?_⟩
    by_cases h1 : g = Str.ofString "is"
    · rw [if_pos h1] at k
      exact ifT (ee h1) ⟨_, rfl, _, rfl, x, y, rfl, hx, hy, k⟩
    rw [if_neg h1] at k
    refine ifF (ne h1) ⟨_, rfl, rfl, _, rfl, ?_⟩
    by_cases h2 : g = Str.ofString "either"
    · rw [if_pos h2] at k
      refine ifT (ee h2) ⟨_, rfl, hx, rfl, _, rfl, ?_⟩
      cases e : decide (x = V.bl true) with
      | true =>
        rw [show tt x = true from e, Bool.true_or] at k
        exact ifT rfl k
      | false =>
        rw [show tt x = false from e, Bool.false_or] at k
        exact ifF rfl ⟨_, rfl, hy, rfl, k⟩
    rw [if_neg h2] at k
    refine ifF (ne h2) ⟨_, rfl, rfl, _, rfl, ?_⟩
    by_cases h3 : g = Str.ofString "both"
    · rw [if_pos h3] at k
      refine ifT (ee h3) ⟨_, rfl, hx, rfl, _, rfl, ?_⟩
      cases e : decide (x = V.bl true) with
      | true =>
        rw [show tt x = true from e, Bool.true_and] at k
        exact ifT rfl ⟨_, rfl, hy, rfl, k⟩
      | false =>
        rw [show tt x = false from e, Bool.false_and] at k
        exact ifF rfl k
    rw [if_neg h3] at k
    refine ifF (ne h3) ⟨_, rfl, rfl, _, rfl, ?_⟩
    by_cases h4 : g = Str.ofString "limited"
    · rw [if_pos h4] at k
      refine ifT (ee h4) ⟨_, rfl, hy, rfl, _, rfl, ?_⟩
      cases e : decide (y = V.bl true) with
      | true =>
        rw [show tt y = true from e, if_pos rfl] at k
        exact ifT rfl ⟨_, rfl, k⟩
      | false =>
        rw [show tt y = false from e, if_neg Bool.false_ne_true] at k
        exact ifF rfl k
    rw [if_neg h4] at k
    refine ifF (ne h4) ⟨_, rfl, rfl, _, rfl, ?_⟩
    by_cases h5 : x = .non
    · rw [if_pos h5] at k
      exact ifT (decide_eq_true h5) ⟨_, rfl, k⟩
    · rw [if_neg h5] at k
      exact ifF (decide_eq_false h5) ⟨_, rfl, k⟩
end
end R52
namespace L3
open PySem PySem.Spec PyProof.Rows L2
theorem zip_no_len : typeLookup (.type "zip") "__len__" = pure none := am_miss_of_fast (by decide +kernel)
theorem zip_no_hint : typeLookup (.type "zip") "__length_hint__" = pure none := am_miss_of_fast (by decide +kernel)
/-- what has been made: the list at S holds the pairs so far, each at a new address -/
structure Zd (H0 H : Hp) (xs ys : List V) (S : Addr) (ts : List Addr) : Prop where
  st : ∀ b o, H0 b = some o → H b = some o
  at_ : H S = some (.lst (ts.map V.ref))
  pr : ∀ (i : Nat) (t : Addr), ts[i]? = some t → H0 t = none ∧ ∃ x y, xs[i]? = some x ∧ ys[i]? = some y ∧ H t = some (.tup [x, y])
theorem Zd.seq {H0 H : Hp} {xs ys : List V} {S : Addr} {ts : List Addr} (z : Zd H0 H xs ys S ts) {K : PySem.W.Frag} {a : Addr} {us : List V} (h : SqL K H0 a us) : SqL K H a us := by
  rcases h with (h | ⟨o, h⟩) | h
  · exact .inl (.inl (z.st _ _ h))
  · exact .inl (.inr ⟨o, z.st _ _ h⟩)
  · exact .inr h
end L3
namespace L3
open PySem PySem.Spec PyProof.Rows RZ
section
variable {prog : Program} {w : World} {A : Around} {E : Value → Shared → Prop} {s : Shared}
theorem zt_item {z TI TO T i1 i2 l1 l2 : Addr} {f : Bool} {oT : Obj} {j k : Nat} {xs ys : Array Value} {x y : Value} {Q : Option Value → Shared → Prop} (D : ZipApart z TI TO i1 i2 l1 l2) (hz : IsZipHeld s.heap z TI TO T f)
    (hT : s.heap.get? T = some oT) (hTI : IsPair s.heap TI (.ref i1) (.ref i2)) (h1 : s.heap.IsTupleIter i1 l1 j) (h2 : s.heap.IsTupleIter i2 l2 k) (g1 : s.heap.IsTuple l1 xs) (g2 : s.heap.IsTuple l2 ys)
    (hx : xs[j]? = some x) (hy : ys[k]? = some y)
    (go : ∀ h', IsZipHeld h' z TI TO T true → h'.IsTupleIter i1 l1 (j + 1) → h'.IsTupleIter i2 l2 (k + 1) → IsPair h' s.heap.objs.size x y → h'.objs.size = s.heap.objs.size + 1 →
      (∀ c o, c ≠ z → c ≠ i1 → c ≠ i2 → s.heap.get? c = some o → h'.get? c = some o) → Q (some (.ref s.heap.objs.size)) { s with heap := h' }) : wpAny (model prog w) A (pyNext (.ref z)) Q E s := by
  have ty : s.TypeIs (.ref z) "zip" := ⟨_, hz, rfl⟩
  unfold pyNext; refine wpAny_bind (wpAny_attempt (wpAny_callSpecial?_slot (name := Str.ofString "__next__") ty F.slot_zip_next (wpAny_call_entry F.slot_zip_next ty F.entry_zip_next ?_ (F.args_zip_next_1 _))))
  show wpAny _ _ (field (.ref z) 2 >>= _) _ _ _; refine wpAny_bind (wpAny_field hz rfl (x := .bool false) rfl ?_)
  show wpAny _ _ (field (.ref z) 3 >>= _) _ _ _; refine wpAny_bind (wpAny_field hz rfl (x := .ref TI) rfl (wpAny_bind (wpAny_seqItems hTI rfl ?_)))
  show wpAny _ _ (Builtin.SmallTypes.ownedTupleIsFree (.ref z) >>= _) _ _ _; refine wpAny_bind (wpAny_tupleHeld_zip hz hT fun a az as => ?_)
  simp only [Bool.false_eq_true, if_false]; refine wpAny_bind ?_
  rw [← Array.forIn_toList]; simp only [List.forIn_cons, List.forIn_nil]; refine wpAny_bind (wpAny_bind (wpAny_holding ?_))
  show wpAny _ _ (Builtin.SmallTypes.nextOf (.ref i1) >>= _) _ _ _; refine wpAny_bind (nextOf_tuple_item (s := { s with heap := a }) (h1.extBut as.extBut D.i1z) (g1.extBut as.extBut D.l1z) hx fun b b1 bs => wpAny_pure (wpAny_pure (wpAny_bind (wpAny_bind (wpAny_holding ?_)))))
  show wpAny _ _ (Builtin.SmallTypes.nextOf (.ref i2) >>= _) _ _ _; refine wpAny_bind (nextOf_tuple_item (s := { s with heap := b }) ((h2.extBut as.extBut D.i2z).extBut bs.extBut D.i12.symm) ((g2.extBut as.extBut D.l2z).extBut bs.extBut D.l2i1) hy fun c c2 cs => wpAny_pure (wpAny_pure (wpAny_pure ?_)))
  show wpAny _ _ (newTuple [x, y] >>= _) _ _ _; refine wpAny_bind (wpAny_newTuple (wpAny_pure ⟨_, rfl, ?_⟩))
  have size : c.objs.size = s.heap.objs.size := by rw [cs.1, bs.1, as.1]
  have cz : IsZipHeld c z TI TO T true := cs.extBut _ _ D.i2z.symm (bs.extBut _ _ D.i1z.symm az)
  have pair : IsPair (c.push { cls := .type "tuple", data := .seq #[x, y] }) c.objs.size x y := Heap.get?_push_size _ rfl
  have more : (c.push { cls := .type "tuple", data := .seq #[x, y] }).objs.size = c.objs.size + 1 := Heap.size_push ..
  refine wpAny_pure ?_
  show Q (some (.ref c.objs.size)) _
  rw [size] at pair more ⊢
  exact go _ (Heap.get?_push_of_some _ cz) ((b1.extBut cs.extBut D.i12).at fun o e => Heap.get?_push_of_some _ e) (c2.at fun o e => Heap.get?_push_of_some _ e) pair more
    fun d o d1 d2 d3 e => Heap.get?_push_of_some _ (cs.extBut _ _ d3 (bs.extBut _ _ d2 (as.extBut _ _ d1 e)))
theorem zt_end {z TI TO T i1 i2 l1 l2 : Addr} {f : Bool} {oT : Obj} {j k : Nat} {xs ys : Array Value} {Q : Option Value → Shared → Prop} (hh : A.handled = none) (D : ZipApart z TI TO i1 i2 l1 l2) (hz : IsZipHeld s.heap z TI TO T f)
    (hT : s.heap.get? T = some oT) (hTI : IsPair s.heap TI (.ref i1) (.ref i2)) (h1 : s.heap.IsTupleIter i1 l1 j) (h2 : s.heap.IsTupleIter i2 l2 k) (g1 : s.heap.IsTuple l1 xs) (g2 : s.heap.IsTuple l2 ys)
    (no : xs[j]? = none ∨ ys[k]? = none) (go : ∀ h', (∀ c o, c ≠ z → c ≠ i1 → c ≠ i2 → s.heap.get? c = some o → h'.get? c = some o) → Q none { s with heap := h' }) : wpAny (model prog w) A (pyNext (.ref z)) Q E s := by
  have ty : s.TypeIs (.ref z) "zip" := ⟨_, hz, rfl⟩
  unfold pyNext
  refine wpAny_bind (wpAny_attempt (wpAny_callSpecial?_slot (name := Str.ofString "__next__") ty F.slot_zip_next (wpAny_call_entry F.slot_zip_next ty F.entry_zip_next ?_ (F.args_zip_next_1 _))))
  show wpAny _ _ (field (.ref z) 2 >>= _) _ _ _; refine wpAny_bind (wpAny_field hz rfl (x := .bool false) rfl ?_)
  show wpAny _ _ (field (.ref z) 3 >>= _) _ _ _; refine wpAny_bind (wpAny_field hz rfl (x := .ref TI) rfl (wpAny_bind (wpAny_seqItems hTI rfl ?_)))
  show wpAny _ _ (Builtin.SmallTypes.ownedTupleIsFree (.ref z) >>= _) _ _ _; refine wpAny_bind (wpAny_tupleHeld_zip hz hT fun a az as => ?_)
  simp only [Bool.false_eq_true, if_false]; refine wpAny_bind ?_
  rw [← Array.forIn_toList]; simp only [List.forIn_cons, List.forIn_nil]; refine wpAny_bind (wpAny_bind (wpAny_holding ?_))
  show wpAny _ _ (Builtin.SmallTypes.nextOf (.ref i1) >>= _) _ _ _
  cases hx : xs[j]? with
  | none =>
    refine wpAny_bind (nextOf_tuple_end (s := { s with heap := a }) hh (h1.extBut as.extBut D.i1z) (g1.extBut as.extBut D.l1z) hx fun b e bs he => ?_)
    obtain ⟨o, ho, hc⟩ := he
    exact wpAny_bind (wpAny_isInstance (T := "StopIteration") (b := true) ⟨o, ho, hc⟩ isSubtype_stop (wpAny_pure (go b (fun c o c1 c2 _ q => bs _ _ c2 (as.extBut _ _ c1 q)))))
  | some x =>
    have hy : ys[k]? = none := no.resolve_left fun q => by rw [hx] at q; cases q
    refine wpAny_bind (nextOf_tuple_item (s := { s with heap := a }) (h1.extBut as.extBut D.i1z) (g1.extBut as.extBut D.l1z) hx fun b b1 bs => wpAny_pure (wpAny_pure (wpAny_bind (wpAny_bind (wpAny_holding ?_)))))
    show wpAny _ _ (Builtin.SmallTypes.nextOf (.ref i2) >>= _) _ _ _
    refine wpAny_bind (nextOf_tuple_end (s := { s with heap := b }) hh ((h2.extBut as.extBut D.i2z).extBut bs.extBut D.i12.symm) ((g2.extBut as.extBut D.l2z).extBut bs.extBut D.l2i1) hy fun c e cs he => ?_)
    obtain ⟨o, ho, hc⟩ := he
    exact wpAny_bind (wpAny_isInstance (T := "StopIteration") (b := true) ⟨o, ho, hc⟩ isSubtype_stop (wpAny_pure (go c (fun d o d1 d2 d3 q => cs _ _ d3 (bs.extBut _ _ d2 (as.extBut _ _ d1 q))))))
end
end L3
namespace L3
open PySem PySem.Spec PyProof.Rows L2 RZ
theorem Zd.seqT {H0 H : Hp} {xs ys : List V} {S : Addr} {ts : List Addr} (z : Zd H0 H xs ys S ts) {K : PySem.W.Frag} {a : Addr} {us : List V} (h : SqT K H0 a us) : SqT K H a us := by
  rcases h with (h | ⟨o, h⟩) | h
  · exact .inl (.inl (z.st _ _ h))
  · exact .inl (.inr ⟨o, z.st _ _ h⟩)
  · exact .inr h
section
variable {X : Cx} {pins : List (Addr × Obj)} {σ : L2.St} {H0 : Hp} {A : Around} {R : Result → Shared → Prop} {S a b z TI TO i1 i2 : Addr} {xs ys : List V}
theorem zip_loopT (hh : A.handled = none) (D : ZipApart z TI TO i1 i2 a b) (hS : S ≠ z ∧ S ≠ TI ∧ S ≠ TO ∧ S ≠ i1 ∧ S ≠ i2) (hS0 : H0 S = none)
    (qa : SqT X.K H0 a xs) (qb : SqT X.K H0 b ys) (hn : xs.length < sizeLine)
    (hend : ∀ s' H' ts, Inv X pins σ H' s' → ts.length = min xs.length ys.length → Zd H0 H' xs ys S ts → R (.ok (.ret .none)) s') :
    ∀ (m i : Nat) (s : Shared) (H : Hp) (ts : List Addr), i + m = min xs.length ys.length → ts.length = i → Inv X pins σ H s → Zd H0 H xs ys S ts → (∀ c ∈ [z, TI, TO, i1, i2], FpOk X pins H c) →
      IsPair s.heap TI (.ref i1) (.ref i2) → (∃ x y, IsPair s.heap TO x y) → s.heap.IsTupleIter i1 a i → s.heap.IsTupleIter i2 b i →
      (IsZip s.heap z TI TO .none ∨ ∃ T f oT, IsZipHeld s.heap z TI TO T f ∧ s.heap.get? T = some oT ∧ H T ≠ none ∧ T ≠ S) →
      codeAny (model X.prog X.w) A (.builtin "list.extend.loop" ⟨[.ref S, .ref z, .none], []⟩) R s := by
  intro m
  induction m with
  | zero =>
    intro i s H ts hi hl I hz hf hTI hTO h1 h2 hzz
    obtain ⟨x0, y0, hTO⟩ := hTO
    obtain ⟨its, rv, p, _⟩ := I.tuple (hz.seqT qa)
    obtain ⟨its2, rv2, p2, _⟩ := I.tuple (hz.seqT qb)
    have l1 := rv.length
    have l2 := rv2.length
    have he : its.toArray[i]? = none ∨ its2.toArray[i]? = none := by
      rcases Nat.le_total xs.length ys.length with q | q
      · exact .inl (by simp; omega)
      · exact .inr (by simp; omega)
    have fin : ∀ h', (∀ c o, c ≠ z → c ≠ TO → c ≠ i1 → c ≠ i2 → s.heap.get? c = some o → h'.get? c = some o) → R (.ok (.ret .none)) { s with heap := h' } := fun h' hk =>
      hend _ H ts (I.turnedL (t' := s.toks) (ch := [z, TI, TO, i1, i2]) (fun c o hb q => hk c o (fun q' => hb (by simp [q'])) (fun q' => hb (by simp [q'])) (fun q' => hb (by simp [q'])) (fun q' => hb (by simp [q'])) q) hf) (by omega) hz
    refine codeAny_builtin F.entry_extend_loop ?_
    rw [Around.under_plainId F.plain_extend_loop _]
    show wpAny _ A.in1 (pyNext (.ref z) >>= _) _ _ s
    rcases hzz with hzz | ⟨T, f, oT, hzz, hT, hHT, hTS⟩
    · exact wpAny_bind (pyNext_zipT_end (A := A.in1) hh D hzz hTI hTO h1 h2 p p2 he fun h' hk => wpAny_pure (fin h' hk))
    · exact wpAny_bind (zt_end (A := A.in1) hh D hzz hT hTI h1 h2 p p2 he fun h' hk => wpAny_pure (fin h' fun c o c1 _ c3 c4 e => hk c o c1 c3 c4 e))
  | succ m ih =>
    intro i s H ts hi hl I hz hf hTI hTO h1 h2 hzz
    obtain ⟨x0, y0, hTO⟩ := hTO
    have sqa := hz.seqT qa
    have sqb := hz.seqT qb
    obtain ⟨its, rv, p, _⟩ := I.tuple sqa
    obtain ⟨its2, rv2, p2, _⟩ := I.tuple sqb
    have hix : i < xs.length := by omega
    have hiy : i < ys.length := by omega
    obtain ⟨u, hu, ru⟩ := rv.get (List.getElem?_eq_getElem hix)
    obtain ⟨u2, hu2, ru2⟩ := rv2.get (List.getElem?_eq_getElem hiy)
    have hzl : z < s.heap.objs.size := by
      rcases hzz with q | ⟨_, _, _, q, _⟩ <;> exact Heap.lt_size q
    have hTn : H s.heap.objs.size = none := I.hok.fresh (Nat.le_refl _)
    refine codeAny_builtin F.entry_extend_loop ?_
    rw [Around.under_plainId F.plain_extend_loop _]
    show wpAny _ A.in1 (pyNext (.ref z) >>= _) _ _ s
    -- what stands behind the new pair, whatever the zip held
    have go : ∀ h' f, IsZipHeld h' z TI TO s.heap.objs.size f ∨ (∃ T f oT, IsZipHeld h' z TI TO T f ∧ h'.get? T = some oT ∧ H T ≠ none ∧ T ≠ S) → (∃ x y, IsPair h' TO x y) → h'.IsTupleIter i1 a (i + 1) → h'.IsTupleIter i2 b (i + 1) → IsPair h' s.heap.objs.size u u2 → h'.objs.size = s.heap.objs.size + 1 →
        (∀ c o, c ≠ z → c ≠ TO → c ≠ i1 → c ≠ i2 → s.heap.get? c = some o → h'.get? c = some o) →
        wpAny (model X.prog X.w) A.in1 (updateSeq S (·.push (.ref s.heap.objs.size)) >>= fun _ => again (.builtin "list.extend.loop" ⟨[.ref S, .ref z, .none], []⟩))
          (fun fin s' => match fin with | .done f => R (.ok f) s' | .again c' => c'.quiet = true ∧ codeAny (model X.prog X.w) A c' R s') (fun e s' => R (.error e) s') { s with heap := h' } := by
      intro h' f0 hz' hTO' h1' h2' hp hsz hk
      have new : ObjOk X.prog X.w (upd H s.heap.objs.size (.tup [xs[i], ys[i]])) h' s.heap.objs.size (.tup [xs[i], ys[i]]) :=
        ⟨by show 2 ≤ sizeLine; decide, [u, u2], .cons ru (.cons ru2 .nil), ⟨_, hp, rfl, _, rfl⟩⟩
      have I1 : Inv X pins σ (upd H s.heap.objs.size (.tup [xs[i], ys[i]])) { s with heap := h' } :=
        I.turnedNew (t' := s.toks) (ch := [z, TI, TO, i1, i2]) (fun c o hb q => hk c o (fun q' => hb (by simp [q'])) (fun q' => hb (by simp [q'])) (fun q' => hb (by simp [q'])) (fun q' => hb (by simp [q'])) q) hf (Nat.le_refl _) new
      have nS : S ≠ s.heap.objs.size := ne_of_none hz.at_ hTn
      have hS1 : upd H s.heap.objs.size (.tup [xs[i], ys[i]]) S = some (.lst (ts.map V.ref)) := by rw [upd_ne nS]; exact hz.at_
      obtain ⟨zl, its', n, r, hl', e⟩ := I1.lstM hS1
      have lt1 : ts.length < sizeLine := by omega
      have tn : ∀ {c o}, s.heap.get? c = some o → c ≠ s.heap.objs.size := fun e => Nat.ne_of_lt (Heap.lt_size e)
      refine wpAny_bind (wpAny_updateSeq e rfl (wpAny_pure ⟨plainId_quiet F.plain_extend_loop _, ?_⟩) ?_ ?_)
      · have I2 := I1.lset (t' := s.toks) (its' := its' ++ [Value.ref s.heap.objs.size]) (ys := ts.map V.ref ++ [V.ref s.heap.objs.size]) hS1 e (f := fun xs => xs.push (.ref s.heap.objs.size)) (by simp) (r.append (.cons rfl .nil)) (by rw [List.length_append, List.length_map, List.length_singleton]; omega)
        have up : ∀ c o, c ≠ S → h'.get? c = some o → (h'.update S (Obj.mapSeq (·.push (.ref s.heap.objs.size)))).get? c = some o := fun c o n q => (Heap.get?_update_other _ _ (Ne.symm n)).trans q
        refine ih (i + 1) _ _ (ts ++ [s.heap.objs.size]) (by omega) (by rw [List.length_append, hl]; rfl) I2 ⟨?_, ?_, ?_⟩ (fun c hc => ⟨?_, (hf c hc).2⟩) ?_ ?_ ?_ ?_ ?_
        · intro c o q
          rw [upd_ne (ne_of_none q hS0), upd_ne (ne_of_none (hz.st c o q) hTn)]
          exact hz.st c o q
        · rw [upd_same, List.map_append]
          rfl
        · intro j t hj
          by_cases hjl : j < ts.length
          · rw [List.getElem?_append_left hjl] at hj
            obtain ⟨q1, x, y, q2, q3, q4⟩ := hz.pr j t hj
            refine ⟨q1, x, y, q2, q3, ?_⟩
            rw [upd_ne (ne_of q4 hz.at_ fun z => nomatch z), upd_ne (ne_of_none q4 hTn)]
            exact q4
          · have hjl2 : j < (ts ++ [s.heap.objs.size]).length := by
              rcases Nat.lt_or_ge j (ts ++ [s.heap.objs.size]).length with q | q
              · exact q
              · rw [List.getElem?_eq_none q] at hj; cases hj
            rw [List.length_append, List.length_singleton] at hjl2
            obtain rfl : j = ts.length := by omega
            rw [List.getElem?_append_right (Nat.le_refl _), Nat.sub_self] at hj
            cases hj
            refine ⟨?_, xs[i], ys[i], by rw [hl]; exact List.getElem?_eq_getElem hix, by rw [hl]; exact List.getElem?_eq_getElem hiy, ?_⟩
            · cases q : H0 s.heap.objs.size with
              | none => rfl
              | some o => have := hz.st _ _ q; rw [hTn] at this; cases this
            · rw [upd_ne (Ne.symm nS)]
              exact upd_same
        · have nc : c ≠ S := fun q => by
            have q2 := (hf c hc).1
            rw [q, hz.at_] at q2
            cases q2
          have nn : c ≠ s.heap.objs.size := by
            have e' : c = z ∨ c = TI ∨ c = TO ∨ c = i1 ∨ c = i2 := by simpa using hc
            rcases e' with q | q | q | q | q
            · rw [q]; exact Nat.ne_of_lt hzl
            · rw [q]; exact tn hTI
            · rw [q]; exact tn hTO
            · rw [q]; obtain ⟨_, e1, _⟩ := h1; exact tn e1
            · rw [q]; obtain ⟨_, e2, _⟩ := h2; exact tn e2
          rw [upd_ne nc, upd_ne nn]
          exact (hf c hc).1
        · exact up _ _ (Ne.symm hS.2.1) (hk _ _ D.TIz D.TITO D.TIi1 D.TIi2 hTI)
        · obtain ⟨x, y, q⟩ := hTO'
          exact ⟨x, y, up _ _ (Ne.symm hS.2.2.1) q⟩
        · exact h1'.at fun o q => up _ _ (Ne.symm hS.2.2.2.1) q
        · exact h2'.at fun o q => up _ _ (Ne.symm hS.2.2.2.2) q
        · rcases hz' with q | ⟨T, f, oT, q, hT, hHT, hTS⟩
          · exact .inr ⟨s.heap.objs.size, f0, _, up _ _ (Ne.symm hS.1) q, up _ _ (Ne.symm nS) hp, by rw [upd_ne (Ne.symm nS), upd_same]; exact fun z => (nomatch z), Ne.symm nS⟩
          · refine .inr ⟨T, f, oT, up _ _ (Ne.symm hS.1) q, up _ _ hTS hT, ?_, hTS⟩
            rw [upd_ne hTS, upd_ne (fun q => hHT (by rw [q]; exact hTn))]
            exact hHT
      · show its'.toArray.size ≤ sizeLine
        rw [List.size_toArray, ← hl', List.length_map]
        omega
      · show (its'.toArray.push _).size ≤ sizeLine + 1
        rw [Array.size_push, List.size_toArray, ← hl', List.length_map]
        omega
    have ex : its.toArray[i]? = some u := by simpa using hu
    have ey : its2.toArray[i]? = some u2 := by simpa using hu2
    rcases hzz with hzz | ⟨T, f, oT, hzz, hT, hHT, hTS⟩
    · exact wpAny_bind (pyNext_zipT_item (A := A.in1) D hzz hTI hTO h1 h2 p p2 ex ey fun h' a1 a2 a3 a4 a5 a6 hk => go h' false (.inl a1) ⟨_, _, a2⟩ a3 a4 a5 a6 hk)
    · have nf : ∀ c ∈ [z, TI, TO, i1, i2], T ≠ c := fun c hc q => hHT (by rw [q]; exact (hf c hc).1)
      exact wpAny_bind (zt_item (A := A.in1) D hzz hT hTI h1 h2 p p2 ex ey fun h' a1 a3 a4 a5 a6 hk =>
        go h' false (.inr ⟨T, true, oT, a1, hk _ _ (nf _ (by simp)) (nf _ (by simp)) (nf _ (by simp)) hT, hHT, hTS⟩) ⟨_, _, hk _ _ D.TOz D.TOi1 D.TOi2 hTO⟩ a3 a4 a5 a6 fun c o c1 _ c3 c4 e => hk c o c1 c3 c4 e)
/-- list(z), z a zip of two tuples that has given out nothing yet -/
theorem call_list_zipT {s : Shared} {H : Hp} {Q : Value → Shared → Prop} {E : Value → Shared → Prop} (hc : X.calm = true) (I : Inv X pins σ H s) (D : ZipApart z TI TO i1 i2 a b) (hz : IsZip s.heap z TI TO .none) (hTI : IsPair s.heap TI (.ref i1) (.ref i2)) (hTO : ∃ x y, IsPair s.heap TO x y)
    (h1 : s.heap.IsTupleIter i1 a 0) (h2 : s.heap.IsTupleIter i2 b 0) (qa : SqT X.K H a xs) (qb : SqT X.K H b ys) (hn : xs.length < sizeLine) (hf : ∀ c ∈ [z, TI, TO, i1, i2], FpOk X pins H c)
    (hQ : ∀ S s' H' ts, H S = none → Inv X pins σ H' s' → ts.length = min xs.length ys.length → Zd H H' xs ys S ts → Q (.ref S) s') :
    wpAny (model X.prog X.w) X.A (call (.type "list") [.ref z]) Q E s := by
  have lt : ∀ {c o}, s.heap.get? c = some o → s.heap.objs.size ≠ c := fun e => Nat.ne_of_gt (Heap.lt_size e)
  have hSa : s.heap.objs.size ≠ z := lt hz
  have hSn : H s.heap.objs.size = none := I.hok.fresh (Nat.le_refl _)
  refine callType_codes (Q₁ := fun obj s₁ => obj = .ref s.heap.objs.size ∧ s₁ = { s with heap := s.heap.push { cls := .type "list", data := .seq #[] } }) F.called_list (F.typeCall_list_1 _) F.entry_list_init
    (code_list_new _ ⟨rfl, rfl⟩) fun obj s₁ h₁ => ?_
  obtain ⟨rfl, rfl⟩ := h₁
  have hS : (s.heap.push { cls := .type "list", data := .seq #[] }).get? s.heap.objs.size = some { cls := .type "list", data := .seq #[] } := Heap.get?_push_size _ rfl
  refine ⟨⟨_, hS, rfl⟩, F.args_list_init_2 _ _, ?_⟩
  show wpAny _ X.A.in1.in1 (do let old ← Builtin.List.listItems (.ref s.heap.objs.size); Builtin.List.listUpdate (.ref s.heap.objs.size) (fun _ => #[]); letGo old.toList.reverse; Builtin.List.listExtendWith (.ref s.heap.objs.size) (.ref z) .none) _ _ _
  refine wpAny_bind ?_
  unfold Builtin.List.listItems
  refine wpAny_bind (wpAny_seqItems hS rfl (wpAny_pure ?_))
  show wpAny _ X.A.in1.in1 (updateSeq s.heap.objs.size (fun _ => #[]) >>= fun _ => letGo (#[] : Array Value).toList.reverse >>= fun _ => Builtin.List.listExtendWith (.ref s.heap.objs.size) (.ref z) .none) _ _ _
  refine wpAny_bind (wpAny_updateSeq hS rfl ?_)
  have hS2 := Heap.get?_update_self (Obj.mapSeq (fun _ => (#[] : Array Value))) hS rfl
  refine wpAny_bind (wpAny_letGo ?_)
  unfold Builtin.List.listExtendWith
  have up : ∀ (h : Heap) (f : Obj → Obj), (∀ b o, s.heap.get? b = some o → h.get? b = some o) → ∀ b o, s.heap.get? b = some o → (h.update s.heap.objs.size f).get? b = some o := fun h f q b o e =>
    (Heap.get?_update_other _ _ (Ne.symm (Nat.ne_of_lt (Heap.lt_size e)))).trans (q b o e)
  have k1 : ∀ b o, s.heap.get? b = some o → (s.heap.push { cls := .type "list", data := .seq #[] }).get? b = some o := fun b o e => Heap.get?_push_of_some _ e
  have k2 := up _ (Obj.mapSeq (fun _ => (#[] : Array Value))) k1
  have gty : ∀ {h : Heap}, (∀ b o, s.heap.get? b = some o → h.get? b = some o) → ({ s with heap := h } : Shared).TypeIs (.ref z) "zip" := fun {h} q => ⟨_, q _ _ hz, rfl⟩
  refine wpAny_bind (wpAny_typeOf (gty k2) ?_)
  have e1 : Builtin.List.listSameRef (.ref s.heap.objs.size) (.ref z) = false := by simp [Builtin.List.listSameRef, hSa]
  have e2 : (Value.type "zip" == Value.type "list") = false := by decide
  have e3 : (Value.type "zip" == Value.type "tuple") = false := by decide
  simp only [e1, e2, e3, Bool.or_false, Bool.false_eq_true, if_false]
  refine wpAny_bind (wpAny_pyIter_zip (s := { s with heap := _ }) (k2 _ _ hz) ?_)
  refine wpAny_bind (wpAny_holding ?_)
  unfold Builtin.List.listLengthHint
  refine wpAny_bind (wpAny_specialOf (gty k2) zip_no_len ?_)
  show wpAny _ X.A.in1.in1 (specialOf (Value.ref z) (Str.ofString "__length_hint__") >>= _) _ _ _
  refine wpAny_bind (wpAny_specialOf (gty k2) zip_no_hint ?_)
  refine wpAny_pure ?_
  show wpAny _ X.A.in1.in1 (rule "list.extend.makes-room" >>= fun _ => Builtin.List.listTouch (.ref s.heap.objs.size) >>= fun _ =>
    again (.builtin "list.extend.loop" ⟨[.ref s.heap.objs.size, .ref z, .none], []⟩)) _ _ _
  refine wpAny_bind (wpAny_rule ?_)
  refine wpAny_bind ?_
  show wpAny _ X.A.in1.in1 (updateSeq s.heap.objs.size (·.push .none) >>= fun _ => updateSeq s.heap.objs.size (·.pop)) _ _ _
  refine wpAny_bind (wpAny_updateSeq hS2 rfl ?_)
  have hS3 := Heap.get?_update_self (Obj.mapSeq (·.push Value.none)) hS2 rfl
  refine wpAny_updateSeq (hz := by seq_fits) hS3 rfl ?_
  have hS4 := Heap.get?_update_self (Obj.mapSeq (·.pop)) hS3 rfl
  have k4 := up _ (Obj.mapSeq (·.pop)) (up _ (Obj.mapSeq (·.push Value.none)) k2)
  refine wpAny_pure ⟨plainId_quiet F.plain_extend_loop _, ?_⟩
  obtain ⟨x0, y0, hTO⟩ := hTO
  have n1 : s.heap.objs.size ≠ i1 := let ⟨_, e, _⟩ := h1; lt e
  have n2 : s.heap.objs.size ≠ i2 := let ⟨_, e, _⟩ := h2; lt e
  have I2 : Inv X pins σ (upd H s.heap.objs.size (.lst [])) _ := I.laid (t' := s.toks) k4 (Nat.le_refl _) ⟨Nat.zero_le _, [], _, .nil, hS4⟩
  refine zip_loopT (H0 := H) (A := X.A.in1) (I.ok.hd hc) D ⟨hSa, lt hTI, lt hTO, n1, n2⟩ hSn qa qb hn (fun s' H' ts I' hl hz' => ⟨rfl, hQ _ s' H' ts hSn I' hl hz'⟩)
    (min xs.length ys.length) 0 _ _ [] (Nat.zero_add _) rfl I2 ⟨fun c o q => by rw [upd_ne (ne_of_none q hSn)]; exact q, upd_same, fun j t hj => by simp at hj⟩
    (fun c hc' => ⟨?_, (hf c hc').2⟩) (k4 _ _ hTI) ⟨_, _, k4 _ _ hTO⟩ (h1.at fun o q => k4 _ _ q) (h2.at fun o q => k4 _ _ q) (.inl (k4 _ _ hz))
  have ne : c ≠ s.heap.objs.size := by
    have e' : c = z ∨ c = TI ∨ c = TO ∨ c = i1 ∨ c = i2 := by simpa using hc'
    rcases e' with q | q | q | q | q
    · rw [q]; exact Ne.symm hSa
    · rw [q]; exact Ne.symm (lt hTI)
    · rw [q]; exact Ne.symm (lt hTO)
    · rw [q]; exact Ne.symm n1
    · rw [q]; exact Ne.symm n2
  rw [upd_ne ne]
  exact (hf c hc').1
end
def tLstZipT (K : PySem.W.Frag) (ta : TA) : TE := fun σ H Q => ta σ H fun vs H1 => ∃ a b xs ys, vs = [.ref a, .ref b] ∧ SqT K H1 a xs ∧ SqT K H1 b ys ∧ xs.length < sizeLine ∧
  ∀ D ts H', H1 D = none → ts.length = min xs.length ys.length → Zd H1 H' xs ys D ts → Q (.ref D) H'
theorem pe_listZipT {X : Cx} {e e2 : Expr} {ta : TA} {p p2 pos pos2 : Pos} (hc : X.calm = true) (hg : Gl X "list") (hm : X.mg "list" = none) (hg2 : Gl X "zip") (hm2 : X.mg "zip" = none) (ha : PA X [e, e2] ta)
    (na : starEach [.Call (.Name "zip" p2) [e, e2] [] pos2] X.env = (false, eval (.Call (.Name "zip" p2) [e, e2] [] pos2) X.env) :: starEach [] X.env := by rfl)
    (hs : starEach [e, e2] X.env = (false, eval e X.env) :: starEach [e2] X.env := by rfl) (hpl : (backTo pos2 (starEach [e2] X.env)).any (·.1) = false := by rfl) :
    PE X (.Call (.Name "list" p) [.Call (.Name "zip" p2) [e, e2] [] pos2] [] pos) (tLstZipT X.K ta) := by
  refine ⟨fun pins s σ H Q I h => ?_⟩
  have zp : wpAny (model X.prog X.w) X.A (eval (.Call (.Name "zip" p2) [e, e2] [] pos2) X.env) (fun v s1 => wpAny (model X.prog X.w) X.A (call (.type "list") [v]) (EP X pins σ Q) X.xe s1) X.xe s := by
    refine Call_ (ld_blt I hg2 hm2 PyProof.Rows.boot_zip (PyProof.Rows.callWith_type1 (thn (ha.run pos2 pins s σ H _ I h) fun us s1 ⟨vs, H1, I1, r1, q1⟩ => ?_) hs hpl))
    obtain ⟨a, b, xs, ys, rfl, hqx, hqy, hn, q⟩ := q1
    cases r1 with
    | cons r rr =>
      cases rr with
      | cons r' rr =>
        cases rr
        cases r
        cases r'
        obtain ⟨its, rv, p1, _⟩ := I1.tuple hqx
        obtain ⟨its2, rv2, p2, _⟩ := I1.tuple hqy
        have la : a < s1.heap.objs.size := p1.lt
        have lb : b < s1.heap.objs.size := p2.lt
        refine call_zipT p1 p2 fun h' hz hTI hTO h1 h2 hsz hk => ?_
        have I2 : Inv X pins σ H1 { s1 with heap := h' } := I1.kept (t' := s1.toks) hk
        refine call_list_zipT hc I2 (PySem.W.ktu_apart s1.heap.objs.size a b la lb) hz hTI ⟨_, _, hTO⟩ h1 h2 hqx hqy hn (fun c hcm => ?_) fun S s' H' ts hS I' hl hz' => ⟨.ref S, H', I', rfl, q S ts H' hS hl hz'⟩
        have e' : c = s1.heap.objs.size + 4 ∨ c = s1.heap.objs.size + 2 ∨ c = s1.heap.objs.size + 3 ∨ c = s1.heap.objs.size ∨ c = s1.heap.objs.size + 1 := by simpa using hcm
        have hle : s1.heap.objs.size ≤ c := by
          rcases e' with z | z | z | z | z
          · rw [z]; exact Nat.le_add_right _ _
          · rw [z]; exact Nat.le_add_right _ _
          · rw [z]; exact Nat.le_add_right _ _
          · rw [z]; exact Nat.le_refl _
          · rw [z]; exact Nat.le_add_right _ _
        exact I1.fpOk hle (I1.hok.fresh hle)
  refine Call_ (ld_blt I hg hm boot_list (PyProof.Rows.callWith_type1 (args_cons (thn zp fun x s1 hx => args_nil ?_) na) na))
  exact hx
end L3
namespace R52
open PySem L2 L3 FT ND
open C8 (pss_cut tCut pe_gc)
abbrev sBelow : Stmt := top 23
abbrev NPB : List Str := ["one", "other", "pair", "at", "by", "lower"]
/-- a new list of new pairs of numbers -/
structure PairsIs (H H' : Hp) (D : Addr) (ps : List (Int × Int)) : Prop where
  new : H D = none
  st : ∀ b o, H b = some o → H' b = some o
  at_ : ∃ qs : List Addr, H' D = some (.lst (qs.map V.ref)) ∧ qs.length = ps.length ∧ ∀ (k : Nat) (q : Addr) (p : Int × Int), qs[k]? = some q → ps[k]? = some p → H q = none ∧ H' q = some (.tup [.int p.1, .int p.2])
def numsOf (qs : List (Nat × Nat)) : List (Int × Int) := qs.map fun q : Nat × Nat => ((q.1 : Int), (q.2 : Int))
def spBelow (C : Addr) (nm : Nat → Str) (N : Nat) : Sp := fun vs H Q _ => ∃ (A B : FD) (ks : Nat → Nat) (x y : V) (p : Addr) (i j : Nat), vs = [x, y, .ref p] ∧ FormAt C nm N A H x ∧ FormAt C nm N B H y ∧ H p = some (.tup [.int i, .int j]) ∧
  i < A.ts.length ∧ j < B.ts.length ∧ (A.kd i).length ≤ 1000 ∧ (B.kd j).length ≤ 1000 ∧ A.Okay N ks ∧ B.Okay N ks ∧
  ∀ D H', PairsIs H H' D (numsOf (belowI N A B (i, j))) → Q (.ref D) H'
/-- pairs made so far -/
structure Ac (H H' : Hp) (D : Addr) (ps : List (Int × Int)) (j : Nat) (qs : List Addr) : Prop where
  new : H D = none
  st : ∀ b o, H b = some o → H' b = some o
  at_ : H' D = some (.lst (qs.map V.ref))
  len : qs.length = j
  pr : ∀ (k : Nat) (q : Addr), qs[k]? = some q → H q = none ∧ q ≠ D ∧ ∃ p, ps[k]? = some p ∧ H' q = some (.tup [.int p.1, .int p.2])
theorem Ac.start {H : Hp} {D : Addr} {ps : List (Int × Int)} (h : H D = none) : Ac H (upd H D (.lst [])) D ps 0 [] :=
  ⟨h, fun b o e => same_new h b o e, upd_same, rfl, fun k q e => by simp at e⟩
theorem Ac.push {H H' : Hp} {D q : Addr} {ps : List (Int × Int)} {j : Nat} {qs : List Addr} {p : Int × Int} (a : Ac H H' D ps j qs) (hq : H' q = none) (hp : ps[j]? = some p) :
    Ac H (upd (upd H' q (.tup [.int p.1, .int p.2])) D (.lst (qs.map V.ref ++ [V.ref q]))) D ps (j + 1) (qs ++ [q]) := by
  have nq : D ≠ q := ne_of_none a.at_ hq
  have up : ∀ c o, c ≠ D → H' c = some o → (upd (upd H' q (.tup [.int p.1, .int p.2])) D (.lst (qs.map V.ref ++ [V.ref q]))) c = some o := fun c o n e => by
    rw [upd_ne n, upd_ne (ne_of_none e hq)]; exact e
  refine ⟨a.new, fun b o e => up b o (ne_of_none e a.new) (a.st b o e), by rw [upd_same, List.map_append]; rfl, by rw [List.length_append, a.len]; rfl, fun k r e => ?_⟩
  rcases Nat.lt_or_ge k qs.length with h | h
  · rw [List.getElem?_append_left h] at e
    obtain ⟨h1, h2, p', h3, h4⟩ := a.pr k r e
    exact ⟨h1, h2, p', h3, up _ _ h2 h4⟩
  · rw [List.getElem?_append_right h] at e
    have ek : k - qs.length = 0 := by
      rcases Nat.eq_zero_or_pos (k - qs.length) with z | z
      · exact z
      · rw [List.getElem?_eq_none (by rw [List.length_singleton]; exact z)] at e; cases e
    rw [ek] at e
    cases e
    have : k = j := by have := a.len; omega
    refine ⟨?_, Ne.symm nq, p, by rw [this]; exact hp, by rw [upd_ne (Ne.symm nq)]; exact upd_same⟩
    cases z : H q with
    | none => rfl
    | some o => rw [a.st q o z] at hq; cases hq
theorem Ac.end_ {H H' : Hp} {D : Addr} {ps : List (Int × Int)} {qs : List Addr} (a : Ac H H' D ps ps.length qs) : PairsIs H H' D ps :=
  ⟨a.new, a.st, qs, a.at_, a.len, fun k q p e1 e2 => by
    obtain ⟨h1, _, p', h3, h4⟩ := a.pr k q e1
    rw [e2] at h3
    cases h3
    exact ⟨h1, h4⟩⟩
section
variable {P : Program} {w : World} {K : PySem.W.Frag} {mg : Str → Option Value} {base : Heap} {C : Addr} {nm : Nat → Str} {N : Nat}
theorem scPB : FnScope NPB ["one", "other", "pair"] (defScope sBelow) := ⟨rfl, rfl, rfl, by decide +kernel, rfl, by decide +kernel, by decide +kernel⟩
theorem ok_below {f fI : Addr} {fd fdI : FuncData} (F : Fun K "pairs_below" "pairs_below" sBelow f fd) (T : FormC K mg C) (FI : Fun K "is_choice" "is_choice" sIsC fI fdI) (bI : Binds K fdI ["node"] []) (gI : mg "is_choice" = some (.ref fI)) (TN : KitN K) (zIsi : mg "isinstance" = none) (zTup : mg "tuple" = none)
    (zLst : mg "list" = none) (zZip : mg "zip" = none) : FnOk P w K mg base CX0 2 f fd ["one", "other", "pair"] (spBelow C nm N) := by
  have GI : FnOk P w K mg base CX0 1 fI fdI ["node"] (spIsC nm) := ok_isc FI TN zIsi zTup
  refine F.ok scPB (fun vs H Q E h => ?_) (fun cdv A outer s H vs Q E hr h => ?_)
  · obtain ⟨A, B, ks, x, y, p, i, j, rfl, _⟩ := h
    rfl
  · obtain ⟨A1, B1, ks, x, y, p, i, j, rfl, hx, hy, hp, hi, hj, l1, l2, okA, okB, k⟩ := h
    have nd := scPB.nd
    refine ⟨_, pss_cons (ps_asg (pv 2) (pg_tup (by rfl) (pgs_cons (pg_name (i := 3) nd rfl (.inr rfl)) (pgs_cons (pg_name (i := 4) nd rfl (.inr rfl)) pgs_nil))))
      (pss_cons (ps_if (pt_cmpR op_lt (pe_ix (r := rIxQ K) (by exact ix_sq) (pe_fld (pv 0) rfl) (pv 3) (fun _ _ => rfl)) (pe_ix (r := rIxQ K) (by exact ix_sq) (pe_fld (pv 1) rfl) (pv 4) (fun _ _ => rfl)) (nomark _))
        (pss_one (ps_ret (pe_lc (own := [("lower", 5)]) (g := gName 5) (tt := tYes) rfl nd (pi_tup (pe_ix (r := rIxT K) (by exact ix_tup) (pe_ix (r := rIxQ K) (by exact ix_sq) (pe_fld (pv 0) rfl) (pv 3) (fun _ _ => rfl)) pe_int (fun _ _ => rfl))) (blkOk_by (N := NPB) (sc := defScope sBelow) (by decide +kernel))
          (fun _ _ _ _ _ => pg_name (i := 5) nd rfl (.inl rfl)) (fun _ _ _ _ _ => pts_nil) (fun _ _ _ _ _ => pe_tup (pa_cons (pv 5) (pa_cons (pv 4) pa_nil)))))) pss_nil)
      (pss_cons (ps_if (pt_cmpR op_lt (pe_ix (r := rIxQ K) (by exact ix_sq) (pe_fld (pv 1) rfl) (pv 4) (fun _ _ => rfl)) (pe_ix (r := rIxQ K) (by exact ix_sq) (pe_fld (pv 0) rfl) (pv 3) (fun _ _ => rfl)) (nomark _))
        (pss_one (ps_ret (pe_lc (own := [("lower", 5)]) (g := gName 5) (tt := tYes) rfl nd (pi_tup (pe_ix (r := rIxT K) (by exact ix_tup) (pe_ix (r := rIxQ K) (by exact ix_sq) (pe_fld (pv 1) rfl) (pv 4) (fun _ _ => rfl)) pe_int (fun _ _ => rfl))) (blkOk_by (N := NPB) (sc := defScope sBelow) (by decide +kernel))
          (fun _ _ _ _ _ => pg_name (i := 5) nd rfl (.inl rfl)) (fun _ _ _ _ _ => pts_nil) (fun _ _ _ _ _ => pe_tup (pa_cons (pv 3) (pa_cons (pv 5) pa_nil)))))) pss_nil)
      (pss_cons (ps_if (pt_val (pe_call GI hr (by rfl) gI FI.kp bI .nil pass0 (pa_cons (pe_ix (r := rIxQ K) (by exact ix_sq) (pe_fld (pv 0) rfl) (pv 3) (fun _ _ => rfl)) pa_nil)))
        (pss_one (ps_ret (pe_listZipT rfl (by rfl) zLst (by rfl) zZip (pa_cons (pe_ix (r := rIxT K) (by exact ix_tup) (pe_ix (r := rIxQ K) (by exact ix_sq) (pe_fld (pv 0) rfl) (pv 3) (fun _ _ => rfl)) pe_int (fun _ _ => rfl)) (pa_cons (pe_ix (r := rIxT K) (by exact ix_tup) (pe_ix (r := rIxQ K) (by exact ix_sq) (pe_fld (pv 1) rfl) (pv 4) (fun _ _ => rfl)) pe_int (fun _ _ => rfl)) pa_nil))))) pss_nil)
      (pss_one (ps_ret (pe_lst pa_nil)))))), ?_⟩
    obtain ⟨a, dx, tn, tl, rfl, ha, fa⟩ := hx
    obtain ⟨b, dy, un, ul, rfl, hb, fb⟩ := hy
    obtain ⟨lx, s1, g1⟩ := lev_at fa hi
    obtain ⟨ly, s2, g2⟩ := lev_at fb hj
    obtain ⟨nx, v1, q1, r1, nv1⟩ := node_at fa hi
    obtain ⟨ny, v2, q2, r2, nv2⟩ := node_at fb hj
    have lsz := sizeLine_eq
    have wa := (okA.at_ i).1
    have wb := (okB.at_ j).1
    have lt_le := wo_le wa
    have lu_le := wo_le wb
    refine ⟨_, rfl, p, _, rfl, SqT.of hp, rfl, _, _, rfl, _, _, rfl, rfl, ?_⟩
    refine ⟨_, rfl, a, C, dx, _, _, rfl, ha, T.cl, T.nL, lk_levels, _, rfl, ixq s1 g1 ⟨_, rfl, b, C, dy, _, _, rfl, hb, T.cl, T.nL, lk_levels, _, rfl, ixq s2 g2 ⟨_, _, rfl, rfl, _, rfl, ?_⟩⟩⟩
    by_cases c1 : lvl N (A1.tr i) < lvl N (B1.tr j)
    · refine ifT (decide_eq_true (by omega)) ?_
      have eb : numsOf (belowI N A1 B1 (i, j)) = (A1.kd i).map fun z : Nat => ((z : Int), (j : Int)) := by
        unfold belowI numsOf
        rw [if_pos c1, List.map_map]
        rfl
      rw [eb] at k
      generalize A1.kd i = is at nv1 l1 k
      obtain ⟨et, _⟩ := wo_node wa (by omega)
      rw [et] at nv1
      obtain ⟨c, d, rfl, hc, hd⟩ := nv1
      refine ⟨_, rfl, a, C, dx, _, _, rfl, ha, T.cl, T.nN, lk_nodes, _, rfl, ixq q1 r1 ⟨c, _, 1, _, rfl, rfl, SqT.of hc, rfl, d, rfl, ⟨_, SqT.of hd⟩, fun D hD => ?_⟩⟩
      refine lc_it (walk_tup (K := K) (a := d) (xs := is.map fun z => V.int (z : Nat))) (fun j' H' => ∃ qs, Ac H H' D (is.map fun z : Nat => ((z : Int), (j : Int))) j' qs) ⟨[], Ac.start hD⟩ (fun j' H' _ h => SqT.of (h.choose_spec.st _ _ hd)) ?_ ?_
      · rintro j' z H3 H2 hj' ⟨qs, ac⟩ ⟨rfl, hz⟩
        rw [List.length_map] at hj'
        rw [List.getElem?_map, List.getElem?_eq_getElem hj'] at hz
        cases hz
        refine ⟨rfl, _, rfl, _, rfl, (by show 2 ≤ sizeLine; decide), fun q hq => ⟨qs.map V.ref, ?_, ?_, qs ++ [q], ?_⟩⟩
        · rw [upd_ne (ne_of_none ac.at_ hq)]; exact ac.at_
        · rw [List.length_map, ac.len]; omega
        · exact ac.push (p := ((is[j'] : Int), (j : Int))) hq (by rw [List.getElem?_map, List.getElem?_eq_getElem hj']; rfl)
      · rintro H2 ⟨qs, ac⟩
        rw [List.length_map] at ac
        exact k D H2 (Ac.end_ (by rw [List.length_map]; exact ac))
    · refine ifF (decide_eq_false (by omega)) ?_
      refine ⟨_, rfl, b, C, dy, _, _, rfl, hb, T.cl, T.nL, lk_levels, _, rfl, ixq s2 g2 ⟨_, rfl, a, C, dx, _, _, rfl, ha, T.cl, T.nL, lk_levels, _, rfl, ixq s1 g1 ⟨_, _, rfl, rfl, _, rfl, ?_⟩⟩⟩
      by_cases c2 : lvl N (B1.tr j) < lvl N (A1.tr i)
      · refine ifT (decide_eq_true (by omega)) ?_
        have eb : numsOf (belowI N A1 B1 (i, j)) = (B1.kd j).map fun z : Nat => ((i : Int), (z : Int)) := by
          unfold belowI numsOf
          rw [if_neg c1, if_pos c2, List.map_map]
          rfl
        rw [eb] at k
        generalize B1.kd j = is at nv2 l2 k
        obtain ⟨et, _⟩ := wo_node wb (by omega)
        rw [et] at nv2
        obtain ⟨c, d, rfl, hc, hd⟩ := nv2
        refine ⟨_, rfl, b, C, dy, _, _, rfl, hb, T.cl, T.nN, lk_nodes, _, rfl, ixq q2 r2 ⟨c, _, 1, _, rfl, rfl, SqT.of hc, rfl, d, rfl, ⟨_, SqT.of hd⟩, fun D hD => ?_⟩⟩
        refine lc_it (walk_tup (K := K) (a := d) (xs := is.map fun z => V.int (z : Nat))) (fun j' H' => ∃ qs, Ac H H' D (is.map fun z : Nat => ((i : Int), (z : Int))) j' qs) ⟨[], Ac.start hD⟩ (fun j' H' _ h => SqT.of (h.choose_spec.st _ _ hd)) ?_ ?_
        · rintro j' z H3 H2 hj' ⟨qs, ac⟩ ⟨rfl, hz⟩
          rw [List.length_map] at hj'
          rw [List.getElem?_map, List.getElem?_eq_getElem hj'] at hz
          cases hz
          refine ⟨rfl, _, rfl, _, rfl, (by show 2 ≤ sizeLine; decide), fun q hq => ⟨qs.map V.ref, ?_, ?_, qs ++ [q], ?_⟩⟩
          · rw [upd_ne (ne_of_none ac.at_ hq)]; exact ac.at_
          · rw [List.length_map, ac.len]; omega
          · exact ac.push (p := ((i : Int), (is[j'] : Int))) hq (by rw [List.getElem?_map, List.getElem?_eq_getElem hj']; rfl)
        · rintro H2 ⟨qs, ac⟩
          rw [List.length_map] at ac
          exact k D H2 (Ac.end_ (by rw [List.length_map]; exact ac))
      · refine ifF (decide_eq_false (by omega)) ?_
        refine ⟨_, rfl, a, C, dx, _, _, rfl, ha, T.cl, T.nN, lk_nodes, _, rfl, ixq q1 r1 ⟨A1.tr i, A1.kd i, v1, rfl, nv1, _, rfl, ?_⟩⟩
        have eb : numsOf (belowI N A1 B1 (i, j)) = ((A1.kd i).zip (B1.kd j)).map fun q : Nat × Nat => ((q.1 : Int), (q.2 : Int)) := by
          unfold belowI numsOf
          rw [if_neg c1, if_neg c2]
        rw [eb] at k
        have ka := A1.kids i
        have kb := B1.kids j
        generalize A1.kd i = is at nv1 l1 k ka
        generalize B1.kd j = js at nv2 l2 k kb
        by_cases q : lvl N (A1.tr i) < N
        · obtain ⟨et, _⟩ := wo_node wa q
          obtain ⟨eu, _⟩ := wo_node wb (by omega)
          rw [et] at nv1 ⊢
          rw [eu] at nv2
          obtain ⟨c, d, rfl, hc, hd⟩ := nv1
          obtain ⟨c', d', rfl, hc', hd'⟩ := nv2
          refine ifT rfl ⟨_, rfl, a, C, dx, _, _, rfl, ha, T.cl, T.nN, lk_nodes, _, rfl, ixq q1 r1 ⟨c, _, 1, _, rfl, rfl, SqT.of hc, rfl, ?_⟩⟩
          refine ⟨_, rfl, b, C, dy, _, _, rfl, hb, T.cl, T.nN, lk_nodes, _, rfl, ixq q2 r2 ⟨c', _, 1, _, rfl, rfl, SqT.of hc', rfl, ?_⟩⟩
          refine ⟨d, d', _, _, rfl, SqT.of hd, SqT.of hd', by rw [List.length_map]; omega, fun D qs H' hD hl z => ?_⟩
          refine k D H' ⟨hD, z.st, qs, z.at_, by simp only [hl, List.length_map, List.length_zip], fun k' q pq e1 e2 => ?_⟩
          obtain ⟨h1, x', y', h2, h3, h4⟩ := z.pr k' q e1
          rw [List.getElem?_map] at h2 h3 e2
          obtain ⟨x0, hx0, rfl⟩ := Option.map_eq_some_iff.mp h2
          obtain ⟨y0, hy0, rfl⟩ := Option.map_eq_some_iff.mp h3
          obtain ⟨z0, hz0, rfl⟩ := Option.map_eq_some_iff.mp e2
          obtain ⟨w1, w2⟩ := List.getElem?_zip_eq_some.mp hz0
          rw [hx0] at w1
          rw [hy0] at w2
          cases Option.some.inj w1
          cases Option.some.inj w2
          exact ⟨h1, h4⟩
        · have et := wo_leaf wa q
          rw [et] at ka ⊢
          refine ifF rfl ⟨(by show 0 ≤ sizeLine; decide), fun D hD => ?_⟩
          have z : is = [] := List.map_eq_nil_iff.mp ka
          rw [z] at k
          exact k D _ (Ac.end_ (ps := []) (Ac.start hD))
end
end R52
namespace L3
open PySem PySem.Spec PyProof.Rows L2
/-- signs of a whole number's text -/
def ti (i : Int) : List Nat := (Str.ofString (toString i)).cps.toList
def numB (c : Nat) : Bool := decide (c = 45) || (decide (48 ≤ c) && decide (c ≤ 57))
theorem ti_num (i : Int) : ∀ c ∈ ti i, numB c = true := fun c m => by
  by_cases h : c ≠ 45 ∧ (c < 48 ∨ 57 < c)
  · exact absurd m (PyProof.Rows.int_text_free' c h i)
  · unfold numB
    by_cases h1 : c = 45
    · rw [decide_eq_true h1]; rfl
    · rw [decide_eq_false h1, decide_eq_true (show 48 ≤ c by omega), decide_eq_true (show c ≤ 57 by omega)]; rfl
theorem ti_inj {i j : Int} (h : ti i = ti j) : i = j := by
  have h2 : (Str.ofString (toString i)).cps.toList = (Str.ofString (toString j)).cps.toList := h
  simp only [PyProof.Rows.signs_ofString] at h2
  have h3 : (toString i).toList = (toString j).toList := (List.map_inj_right (fun x y e => Char.ext (UInt32.toNat_inj.mp e))).mp h2
  exact Int.repr_injective (String.toList_inj.mp h3)
theorem ti_ne (i : Int) : ti i ≠ [] := fun h => by
  have h2 : (Str.ofString (toString i)).cps.toList = [] := h
  simp only [PyProof.Rows.signs_ofString] at h2
  have h3 := List.map_eq_nil_iff.mp h2
  have e : toString i = "" := String.toList_inj.mp (by rw [h3]; rfl)
  have h4 : toString i = Int.repr i := rfl
  rw [h4] at e
  cases i with
  | ofNat n =>
    have : (Nat.repr n) = "" := e
    have l := congrArg String.length this
    simp at l
  | negSucc n =>
    have l := congrArg String.length e
    simp [Int.repr] at l
/-- behind an item: nothing, a comma, or a bracket -/
def End (r : List Nat) : Prop := ∀ c t, r = c :: t → c = 44 ∨ c = 93 ∨ c = 41
theorem munch {p : Nat → Bool} : ∀ {a b r s : List Nat}, (∀ c ∈ a, p c = true) → (∀ c ∈ b, p c = true) → (∀ c t, r = c :: t → p c = false) → (∀ c t, s = c :: t → p c = false) → a ++ r = b ++ s → a = b ∧ r = s
  | [], [], _, _, _, _, _, _, h => ⟨rfl, h⟩
  | [], y :: b, r, s, _, hb, hr, _, h => by
    have e := hr y (b ++ s) h
    rw [hb y List.mem_cons_self] at e
    cases e
  | x :: a, [], r, s, ha, _, _, hs, h => by
    have e := hs x (a ++ r) h.symm
    rw [ha x List.mem_cons_self] at e
    cases e
  | x :: a, y :: b, r, s, ha, hb, hr, hs, h => by
    injection h with h1 h2
    obtain ⟨e1, e2⟩ := munch (fun c m => ha c (List.mem_cons_of_mem _ m)) (fun c m => hb c (List.mem_cons_of_mem _ m)) hr hs h2
    exact ⟨by rw [h1, e1], e2⟩
mutual
def sh : PyData → List Nat
  | .none => [78, 111, 110, 101]
  | .bool b => if b then [84, 114, 117, 101] else [70, 97, 108, 115, 101]
  | .int i => ti i
  | .str x => 39 :: (x.cps.toList ++ [39])
  | .list ds => 91 :: (shs ds ++ [93])
  | .tuple ds => 40 :: (shs ds ++ (if ds.length = 1 then [44, 41] else [41]))
  | .dict _ => []
def shs : List PyData → List Nat
  | [] => []
  | d :: ds => sh d ++ shm ds
def shm : List PyData → List Nat
  | [] => []
  | d :: ds => 44 :: 32 :: (sh d ++ shm ds)
end
def easyS (x : Str) : Bool := decide (PySem.reprQuote x = 39) && x.cps.toList.all fun c => decide (Builtin.Str.reprChar 39 c = [c]) && decide (c ≠ 39)
mutual
def easy : PyData → Bool
  | .str x => easyS x
  | .list ds => easys ds
  | .tuple ds => easys ds
  | .dict _ => false
  | _ => true
def easys : List PyData → Bool
  | [] => true
  | d :: ds => easy d && easys ds
end
/-- what kind of item begins so -/
def kc (c : Nat) : Nat := if c = 78 then 0 else if c = 84 then 1 else if c = 70 then 2 else if c = 39 then 3 else if c = 91 then 4 else if c = 40 then 5 else if numB c then 6 else 7
def kd : PyData → Nat
  | .none => 0
  | .bool true => 1
  | .bool false => 2
  | .str _ => 3
  | .list _ => 4
  | .tuple _ => 5
  | .int _ => 6
  | .dict _ => 8
theorem kc_num {c : Nat} (h : numB c = true) : kc c = 6 := by
  unfold kc
  have q : c = 45 ∨ (48 ≤ c ∧ c ≤ 57) := by
    unfold numB at h
    simpa only [Bool.or_eq_true, Bool.and_eq_true, decide_eq_true_eq] using h
  rw [if_neg (by omega), if_neg (by omega), if_neg (by omega), if_neg (by omega), if_neg (by omega), if_neg (by omega), if_pos h]
theorem sh_head : ∀ {d : PyData}, easy d = true → ∃ c t, sh d = c :: t ∧ kc c = kd d
  | .none, _ => ⟨78, _, rfl, rfl⟩
  | .bool true, _ => ⟨84, _, rfl, rfl⟩
  | .bool false, _ => ⟨70, _, rfl, rfl⟩
  | .str x, _ => ⟨39, _, by rw [sh], rfl⟩
  | .list ds, _ => ⟨91, _, by rw [sh], rfl⟩
  | .tuple ds, _ => ⟨40, _, by rw [sh], rfl⟩
  | .int i, _ => by
    cases e : ti i with
    | nil => exact absurd e (ti_ne i)
    | cons c t => exact ⟨c, t, by rw [sh, e], kc_num (ti_num i c (by rw [e]; exact List.mem_cons_self))⟩
theorem End.num {r : List Nat} (h : End r) : ∀ c t, r = c :: t → numB c = false := fun c t e => by
  rcases h c t e with rfl | rfl | rfl <;> decide
theorem not_head {d : PyData} (h : easy d = true) {c : Nat} (hc : c = 44 ∨ c = 93 ∨ c = 41) {r s : List Nat} (e : sh d ++ r = c :: s) : False := by
  obtain ⟨c2, t, e2, k⟩ := sh_head h
  rw [e2] at e
  injection e with e3 _
  rw [e3] at k
  rcases hc with rfl | rfl | rfl <;> (cases d <;> first | (rename_i b; cases b <;> cases k) | cases k)
theorem shm_end {ds : List PyData} {c : Nat} {r : List Nat} (hc : c = 44 ∨ c = 93 ∨ c = 41) : End (shm ds ++ c :: r) := fun x t e => by
  cases ds with
  | nil => rw [shm] at e; injection e with e _; rw [← e]; exact hc
  | cons d ds => rw [shm] at e; injection e with e _; exact .inl e.symm
theorem easyS_no {x : Str} (h : easyS x = true) : ∀ c ∈ x.cps.toList, (fun c => !decide (c = 39)) c = true := fun c m => by
  have q := List.all_eq_true.mp (Bool.and_eq_true_iff.mp h).2 c m
  have q2 := of_decide_eq_true (Bool.and_eq_true_iff.mp q).2
  show (!decide (c = 39)) = true
  rw [decide_eq_false q2]
  rfl
mutual
theorem one : ∀ (d e : PyData) (r s : List Nat), easy d = true → easy e = true → End r → End s → sh d ++ r = sh e ++ s → d = e ∧ r = s
  | d, e, r, s, hd, he, hr, hs, h => by
    have kk : kd d = kd e := by
      obtain ⟨c, t, e1, k1⟩ := sh_head hd
      obtain ⟨c2, t2, e2, k2⟩ := sh_head he
      rw [e1, e2] at h
      injection h with h1 _
      rw [← k1, ← k2, h1]
    match d, e, hd, he, h, kk with
    | .none, .none, _, _, h, _ => exact ⟨rfl, List.append_cancel_left h⟩
    | .bool true, .bool true, _, _, h, _ => exact ⟨rfl, List.append_cancel_left h⟩
    | .bool false, .bool false, _, _, h, _ => exact ⟨rfl, List.append_cancel_left h⟩
    | .int i, .int j, _, _, h, _ =>
      rw [sh, sh] at h
      obtain ⟨a, b⟩ := munch (ti_num i) (ti_num j) hr.num hs.num h
      exact ⟨by rw [ti_inj a], b⟩
    | .str x, .str y, hx, hy, h, _ =>
      rw [easy] at hx hy
      rw [sh, sh, List.cons_append, List.cons_append] at h
      injection h with _ h
      rw [List.append_assoc, List.append_assoc] at h
      obtain ⟨a, b⟩ := munch (p := fun c => !decide (c = 39)) (easyS_no hx) (easyS_no hy) (fun c t e => by injection e with e _; rw [← e]; rfl) (fun c t e => by injection e with e _; rw [← e]; rfl) h
      injection b with _ b
      obtain ⟨⟨xs⟩⟩ := x
      obtain ⟨⟨ys⟩⟩ := y
      have a : xs = ys := a
      exact ⟨by rw [a], b⟩
    | .list ds, .list es, hx, hy, h, _ =>
      rw [easy] at hx hy
      rw [sh, sh, List.cons_append, List.cons_append] at h
      injection h with _ h
      rw [List.append_assoc, List.append_assoc] at h
      obtain ⟨a, b⟩ := row ds es r s hx hy h
      exact ⟨by rw [a], b⟩
    | .tuple ds, .tuple es, hx, hy, h, _ =>
      rw [easy] at hx hy
      rw [sh, sh, List.cons_append, List.cons_append] at h
      injection h with _ h
      rw [List.append_assoc, List.append_assoc] at h
      obtain ⟨a, b⟩ := tup ds es r s hx hy h
      exact ⟨by rw [a], b⟩
termination_by d => sizeOf d
theorem row : ∀ (ds es : List PyData) (r s : List Nat), easys ds = true → easys es = true → shs ds ++ ([93] ++ r) = shs es ++ ([93] ++ s) → ds = es ∧ r = s
  | [], [], r, s, _, _, h => by
    injection h with _ h
    exact ⟨rfl, h⟩
  | [], e :: es, r, s, _, he, h => by
    rw [easys, Bool.and_eq_true] at he
    rw [shs, shs, List.append_assoc] at h
    exact (not_head he.1 (.inr (.inl rfl)) h.symm).elim
  | d :: ds, [], r, s, hd, _, h => by
    rw [easys, Bool.and_eq_true] at hd
    rw [shs, shs, List.append_assoc] at h
    exact (not_head hd.1 (.inr (.inl rfl)) h).elim
  | d :: ds, e :: es, r, s, hd, he, h => by
    rw [easys, Bool.and_eq_true] at hd he
    rw [shs, shs, List.append_assoc, List.append_assoc] at h
    obtain ⟨a, b⟩ := one d e _ _ hd.1 he.1 (shm_end (.inr (.inl rfl))) (shm_end (.inr (.inl rfl))) h
    obtain ⟨a2, b2⟩ := more ds es 93 r s (.inl rfl) hd.2 he.2 b
    exact ⟨by rw [a, a2], b2⟩
termination_by ds => sizeOf ds
theorem tup : ∀ (ds es : List PyData) (r s : List Nat), easys ds = true → easys es = true → shs ds ++ ((if ds.length = 1 then [44, 41] else [41]) ++ r) = shs es ++ ((if es.length = 1 then [44, 41] else [41]) ++ s) → ds = es ∧ r = s
  | [], [], r, s, _, _, h => by
    injection h with _ h
    exact ⟨rfl, h⟩
  | [], e :: es, r, s, _, he, h => by
    rw [easys, Bool.and_eq_true] at he
    rw [shs, shs, List.append_assoc] at h
    exact (not_head he.1 (.inr (.inr rfl)) h.symm).elim
  | d :: ds, [], r, s, hd, _, h => by
    rw [easys, Bool.and_eq_true] at hd
    rw [shs, shs, List.append_assoc] at h
    exact (not_head hd.1 (.inr (.inr rfl)) h).elim
  | [d], [e], r, s, hd, he, h => by
    rw [easys, Bool.and_eq_true] at hd he
    rw [shs, shs, List.append_assoc, List.append_assoc] at h
    obtain ⟨a, b⟩ := one d e _ _ hd.1 he.1 (shm_end (ds := []) (.inl rfl)) (shm_end (ds := []) (.inl rfl)) h
    injection b with _ b
    injection b with _ b
    exact ⟨by rw [a], b⟩
  | [d], e :: y :: es, r, s, hd, he, h => by
    rw [easys, Bool.and_eq_true] at hd he
    rw [shs, shs, List.append_assoc, List.append_assoc] at h
    rw [if_neg (show ¬ (e :: y :: es).length = 1 by simp)] at h
    obtain ⟨a, b⟩ := one d e _ _ hd.1 he.1 (shm_end (ds := []) (.inl rfl)) (shm_end (.inr (.inr rfl))) h
    rw [shm, shm] at b
    injection b with _ b
    injection b with b _
    cases b
  | d :: x :: ds, [e], r, s, hd, he, h => by
    rw [easys, Bool.and_eq_true] at hd he
    rw [shs, shs, List.append_assoc, List.append_assoc] at h
    rw [if_neg (show ¬ (d :: x :: ds).length = 1 by simp)] at h
    obtain ⟨a, b⟩ := one d e _ _ hd.1 he.1 (shm_end (.inr (.inr rfl))) (shm_end (ds := []) (.inl rfl)) h
    rw [shm, shm] at b
    injection b with _ b
    injection b with b _
    cases b
  | d :: x :: ds, e :: y :: es, r, s, hd, he, h => by
    rw [easys, Bool.and_eq_true] at hd he
    rw [shs, shs, List.append_assoc, List.append_assoc] at h
    rw [if_neg (show ¬ (d :: x :: ds).length = 1 by simp), if_neg (show ¬ (e :: y :: es).length = 1 by simp)] at h
    obtain ⟨a, b⟩ := one d e _ _ hd.1 he.1 (shm_end (.inr (.inr rfl))) (shm_end (.inr (.inr rfl))) h
    obtain ⟨a2, b2⟩ := more (x :: ds) (y :: es) 41 r s (.inr rfl) hd.2 he.2 b
    exact ⟨by rw [a, a2], b2⟩
termination_by ds => sizeOf ds
theorem more : ∀ (ds es : List PyData) (c : Nat) (r s : List Nat), (c = 93 ∨ c = 41) → easys ds = true → easys es = true → shm ds ++ c :: r = shm es ++ c :: s → ds = es ∧ r = s
  | [], [], c, r, s, _, _, _, h => by
    injection h with _ h
    exact ⟨rfl, h⟩
  | [], e :: es, c, r, s, hc, _, _, h => by
    rw [shm, shm] at h
    injection h with h _
    omega
  | d :: ds, [], c, r, s, hc, _, _, h => by
    rw [shm, shm] at h
    injection h with h _
    omega
  | d :: ds, e :: es, c, r, s, hc, hd, he, h => by
    rw [easys, Bool.and_eq_true] at hd he
    rw [shm, shm, List.cons_append, List.cons_append, List.cons_append, List.cons_append] at h
    injection h with _ h
    injection h with _ h
    rw [List.append_assoc, List.append_assoc] at h
    have h3 : c = 44 ∨ c = 93 ∨ c = 41 := .inr hc
    obtain ⟨a, b⟩ := one d e _ _ hd.1 he.1 (shm_end h3) (shm_end h3) h
    obtain ⟨a2, b2⟩ := more ds es c r s hc hd.2 he.2 b
    exact ⟨by rw [a, a2], b2⟩
termination_by ds => sizeOf ds
end
mutual
def noB : PyData → Bool
  | .bool _ => false
  | .list ds => noBs ds
  | .tuple ds => noBs ds
  | .dict _ => false
  | _ => true
def noBs : List PyData → Bool
  | [] => true
  | d :: ds => noB d && noBs ds
end
end L3
namespace L3
open PySem PySem.Spec PyProof.Rows L2
/-- an exception on its way, in front of the clauses -/
structure Fallen (X : Cx) (pins : List (Addr × Obj)) (q : Addr) (B : Heap) (sI s1 : Shared) (σ : L2.St) (H : Hp) : Prop where
  inv : Inv X pins σ H sI
  base : ∀ b o, sI.heap.get? b = some o → b ∉ frs X.stack → B.get? b = some o
  free : H q = none
  os : s1.os = sI.os
  bare : AllBare s1.gens
def AtH (X : Cx) (q : Addr) (B : Heap) (sI : Shared) (cls : Value) (d : Option Addr) (h : Heap) : Prop := HandSPX.FlyingZ B (X.env :: X.outer) q (Zc cls d) h ∧ sI.heap.UpToSlots h
section
variable {X : Cx} {pins : List (Addr × Obj)} {q : Addr} {B : Heap} {sI s1 : Shared} {σ : L2.St} {H : Hp} {cls : Value} {d : Option Addr} {h : Heap}
theorem Fallen.here (F : Fallen X pins q B sI s1 σ H) (a : AtH X q B sI cls d h) : Inv X pins σ H { s1 with heap := h } := F.inv.landed F.base a.1.1 a.2 F.os F.bare
end
end L3
namespace L3
open PySem PySem.Spec PyProof.Rows L2
mutual
def tupD : PyData → PyData
  | .list ds => .tuple (tupDs ds)
  | .tuple ds => .tuple (tupDs ds)
  | d => d
def tupDs : List PyData → List PyData
  | [] => []
  | d :: ds => tupD d :: tupDs ds
end
mutual
def wide : PyData → Bool
  | .list ds => decide (ds.length ≤ 1000) && wides ds
  | .tuple ds => decide (ds.length ≤ 1000) && wides ds
  | _ => true
def wides : List PyData → Bool
  | [] => true
  | d :: ds => wide d && wides ds
end
theorem DpAll.get {K : PySem.W.Frag} {H : Hp} : ∀ {vs : List V} {ds : List PyData}, DpAll K H vs ds → vs.length = ds.length ∧ ∀ (i : Nat) (x : V), vs[i]? = some x → ∃ d, ds[i]? = some d ∧ Dp K H x d
  | _, _, .nil => ⟨rfl, fun i x h => by simp at h⟩
  | _, _, .cons h hs => by
    obtain ⟨l, g⟩ := DpAll.get hs
    refine ⟨by rw [List.length_cons, List.length_cons, l], fun i x e => ?_⟩
    cases i with
    | zero =>
      cases e
      exact ⟨_, rfl, h⟩
    | succ i => exact g i x e
theorem DpAll.snoc {K : PySem.W.Frag} {H : Hp} : ∀ {vs : List V} {ds : List PyData} {v : V} {d : PyData}, DpAll K H vs ds → Dp K H v d → DpAll K H (vs ++ [v]) (ds ++ [d])
  | _, _, _, _, .nil, h => .cons h .nil
  | _, _, _, _, .cons a as, h => .cons a (DpAll.snoc as h)
end L3
namespace L3
open PySem PySem.Spec PyProof.Rows L2
/-- all but what is in B stands -/
def Off (B : Addr → Prop) (H H' : Hp) : Prop := ∀ b o, ¬ B b → H b = some o → H' b = some o
theorem Off.refl (B : Addr → Prop) (H : Hp) : Off B H H := fun _ _ _ e => e
theorem Off.trans {B : Addr → Prop} {H H1 H2 : Hp} (x : Off B H H1) (y : Off B H1 H2) : Off B H H2 := fun b o n e => y b o n (x b o n e)
theorem Same.off {B : Addr → Prop} {H H' : Hp} (s : Same H H') : Off B H H' := fun b o _ e => s b o e
mutual
inductive Sd (K : PySem.W.Frag) (B : Addr → Prop) (H : Hp) : V → PyData → Prop
  | non : Sd K B H .non .none
  | int (i : Int) : Sd K B H (.int i) (.int i)
  | str (x : Str) : Sd K B H (.str x) (.str x)
  | tup {t : Addr} {xs : List V} {ds : List PyData} : (∀ H2, Off B H H2 → SqT K H2 t xs) → SdAll K B H xs ds → Sd K B H (.ref t) (.tuple ds)
  | lst {t : Addr} {xs : List V} {ds : List PyData} : (∀ H2, Off B H H2 → SqL K H2 t xs) → SdAll K B H xs ds → Sd K B H (.ref t) (.list ds)
inductive SdAll (K : PySem.W.Frag) (B : Addr → Prop) (H : Hp) : List V → List PyData → Prop
  | nil : SdAll K B H [] []
  | cons {v : V} {vs : List V} {d : PyData} {ds : List PyData} : Sd K B H v d → SdAll K B H vs ds → SdAll K B H (v :: vs) (d :: ds)
end
section
variable {K : PySem.W.Frag} {B : Addr → Prop} {p : Addr} {H H' : Hp}
mutual
theorem Sd.off (o : Off B H H') : ∀ (d : PyData) (v : V), Sd K B H v d → Sd K B H' v d
  | .none, _, .non => .non
  | .int i, _, .int _ => .int i
  | .str x, _, .str _ => .str x
  | .list ds, _, .lst hs ha => .lst (fun H2 o2 => hs H2 (o.trans o2)) (SdAll.off o ds _ ha)
  | .tuple ds, _, .tup hs ha => .tup (fun H2 o2 => hs H2 (o.trans o2)) (SdAll.off o ds _ ha)
theorem SdAll.off (o : Off B H H') : ∀ (ds : List PyData) (vs : List V), SdAll K B H vs ds → SdAll K B H' vs ds
  | [], _, .nil => .nil
  | d :: ds, _, .cons h hs => .cons (Sd.off o d _ h) (SdAll.off o ds _ hs)
end
mutual
theorem Sd.dp' : ∀ (d : PyData) (v : V), Sd K B H v d → Dp K H v d
  | .none, _, .non => .non
  | .int i, _, .int _ => .int i
  | .str x, _, .str _ => .str x
  | .list ds, _, .lst hs ha => .lst (hs H (Off.refl B H)) (SdAll.dp' ds _ ha)
  | .tuple ds, _, .tup hs ha => .tup (hs H (Off.refl B H)) (SdAll.dp' ds _ ha)
theorem SdAll.dp' : ∀ (ds : List PyData) (vs : List V), SdAll K B H vs ds → DpAll K H vs ds
  | [], _, .nil => .nil
  | d :: ds, _, .cons h hs => .cons (Sd.dp' d _ h) (SdAll.dp' ds _ hs)
end
theorem Sd.dp {v : V} {d : PyData} (h : Sd K B H v d) : Dp K H v d := Sd.dp' d v h
theorem SdAll.dp {vs : List V} {ds : List PyData} (h : SdAll K B H vs ds) : DpAll K H vs ds := SdAll.dp' ds vs h
theorem SdAll.snoc : ∀ {vs : List V} {ds : List PyData} {v : V} {d : PyData}, SdAll K B H vs ds → Sd K B H v d → SdAll K B H (vs ++ [v]) (ds ++ [d])
  | _, _, _, _, .nil, h => .cons h .nil
  | _, _, _, _, .cons x xs, h => .cons x (SdAll.snoc xs h)
theorem SdAll.len : ∀ {vs : List V} {ds : List PyData}, SdAll K B H vs ds → vs.length = ds.length
  | _, _, .nil => rfl
  | _, _, .cons _ hs => by rw [List.length_cons, List.length_cons, SdAll.len hs]
theorem SdAll.get : ∀ {vs : List V} {ds : List PyData}, SdAll K B H vs ds → ∀ (i : Nat) (x : V), vs[i]? = some x → ∃ d, ds[i]? = some d ∧ Sd K B H x d
  | _, _, .nil, i, x, e => by simp at e
  | _, _, .cons h hs, 0, x, e => by
    cases e
    exact ⟨_, rfl, h⟩
  | _, _, .cons h hs, i + 1, x, e => SdAll.get hs i x e
theorem dr_off {a : Addr} {H H' : Hp} (h : B a) (d : Dr a H H') : Off B H H' := fun b o n e => d.sm b o (fun z => n (z ▸ h)) e
/-- one more address may change: it is new -/
theorem off_new {D : Addr} {o : HO} {H2 : Hp} (hD : H D = none) (h : Off (fun b => B b ∨ b = D) (upd H D o) H2) : Off B H H2 := fun b u n e => by
  have nD := ne_of_none e hD
  exact h b u (fun z => z.elim n nD) (by rw [upd_ne nD]; exact e)
mutual
theorem Sd.more {D : Addr} {o : HO} (hD : H D = none) : ∀ (d : PyData) (v : V), Sd K B H v d → Sd K (fun b => B b ∨ b = D) (upd H D o) v d
  | .none, _, .non => .non
  | .int i, _, .int _ => .int i
  | .str x, _, .str _ => .str x
  | .list ds, _, .lst hs ha => .lst (fun H2 o2 => hs H2 (off_new hD o2)) (SdAll.more hD ds _ ha)
  | .tuple ds, _, .tup hs ha => .tup (fun H2 o2 => hs H2 (off_new hD o2)) (SdAll.more hD ds _ ha)
theorem SdAll.more {D : Addr} {o : HO} (hD : H D = none) : ∀ (ds : List PyData) (vs : List V), SdAll K B H vs ds → SdAll K (fun b => B b ∨ b = D) (upd H D o) vs ds
  | [], _, .nil => .nil
  | d :: ds, _, .cons h hs => .cons (Sd.more hD d _ h) (SdAll.more hD ds _ hs)
end
theorem off_less {C : Addr → Prop} {H2 : Hp} (c : ∀ b, B b → C b) (h : Off B H H2) : Off C H H2 := fun b o n e => h b o (fun z => n (c b z)) e
end
mutual
def good : PyData → Bool
  | .int i => decide (i.natAbs < 2 ^ 70) && decide ((Str.ofString (toString i)).length ≤ 40)
  | .str x => easyS x && (PyData.strOk x && decide ((reprText x).length ≤ 40))
  | .tuple ds => decide (ds.length ≤ 1000) && goods ds
  | .none => true
  | _ => false
def goods : List PyData → Bool
  | [] => true
  | d :: ds => good d && goods ds
end
structure Good (d : PyData) : Prop where
  easy : easy d = true
  noB : noB d = true
  wide : wide d = true
  tup : tupD d = d
  can : d.canLay0 = true
  sh : d.showable = true
  nd : d.hasDict = false
end L3
namespace L3
open PySem PySem.Spec PyProof.Rows L2
/-- a list, a tuple that stands whatever happens in B -/
def Ls (K : PySem.W.Frag) (B : Addr → Prop) (H : Hp) (l : Addr) (xs : List V) : Prop := ∀ H2, Off B H H2 → SqL K H2 l xs
def Ts (K : PySem.W.Frag) (B : Addr → Prop) (H : Hp) (l : Addr) (xs : List V) : Prop := ∀ H2, Off B H H2 → SqT K H2 l xs
/-- `and`, put in a set of addresses one more -/
abbrev And1 (B : Addr → Prop) (D : Addr) : Addr → Prop := fun b => B b ∨ b = D
section
variable {K : PySem.W.Frag} {B : Addr → Prop} {H H' : Hp} {a l p D : Addr} {v x : V} {xs ys : List V} {d : PyData} {ds es : List PyData} {ts : List Str}
theorem Ls.off (h : Ls K B H l xs) (o : Off B H H') : Ls K B H' l xs := fun H2 o2 => h H2 (o.trans o2)
theorem Ts.off (h : Ts K B H l xs) (o : Off B H H') : Ts K B H' l xs := fun H2 o2 => h H2 (o.trans o2)
theorem Ls.now (h : Ls K B H l xs) : SqL K H l xs := h H (Off.refl B H)
theorem Ts.now (h : Ts K B H l xs) : SqT K H l xs := h H (Off.refl B H)
theorem Ls.one (h : Ls K B H l xs) (hB : B a) : Ls K (fun b => b = a) H l xs := fun H2 o => h H2 (off_less (B := fun b => b = a) (C := B) (fun b e => by rw [e]; exact hB) o)
/-- a list that stands as a plain one -/
theorem Sd.raw (h : ∀ H2, Off B H H2 → H2 l = some (.lst xs)) (ha : SdAll K B H xs ds) : Sd K B H (.ref l) (.list ds) := .lst (fun H2 o => SqL.of (h H2 o)) ha
theorem SdAll.mem : ∀ {xs : List V} {ds : List PyData}, SdAll K B H xs ds → x ∈ xs → ∃ d ∈ ds, Sd K B H x d
  | _, _, .nil, m => nomatch m
  | _, _, .cons h hs, m => by
    rcases List.mem_cons.mp m with rfl | m
    · exact ⟨_, List.mem_cons_self, h⟩
    · obtain ⟨d, hd, s⟩ := SdAll.mem hs m
      exact ⟨d, List.mem_cons_of_mem _ hd, s⟩
theorem Dr.off (h : B a) (d : Dr a H H') : Off B H H' := dr_off h d
end
def strD (ts : List Str) : PyData := .list (ts.map .str)
def chD (c : Str × Nat) : PyData := .tuple [.str c.1, .int (c.2 : Int)]
def tbD (t : Str × List Str) : PyData := .tuple [.str t.1, .tuple (t.2.map .str)]
def loreKV (c e d r m t : V) (pl : Bool) : List (Key × V) :=
  [(.inr "choices", c), (.inr "cells", e), (.inr "deeds", d), (.inr "rules", r), (.inr "mine", m), (.inr "tables", t)] ++ if pl = true then [(.inr "plain", .int 1)] else []
def mineT : List Str := ["v", "w"]
structure Lore (K : PySem.W.Frag) (B : Addr → Prop) (H : Hp) (L : Addr) (cs : List (Str × Nat)) (ce : List Str) (tb : List (Str × List Str)) (pl : Bool) (c e d r m t : V) : Prop where
  at_ : ∀ H2, Off B H H2 → H2 L = some (.dK (loreKV c e d r m t pl))
  c : ∃ a xs, c = .ref a ∧ (∀ H2, Off B H H2 → H2 a = some (.lst xs)) ∧ SdAll K B H xs (cs.map chD)
  e : ∃ a, e = .ref a ∧ ∀ H2, Off B H H2 → H2 a = some (.lst (ce.map V.str))
  d : Sd K B H d (.list [])
  r : Sd K B H r (.list [])
  m : Sd K B H m (strD mineT)
  t : Sd K B H t (.list (tb.map tbD))
section
variable {K : PySem.W.Frag} {B : Addr → Prop} {H H' : Hp} {L : Addr} {cs : List (Str × Nat)} {ce : List Str} {tb : List (Str × List Str)} {pl : Bool} {c e d r m t : V}
theorem Lore.off (h : Lore K B H L cs ce tb pl c e d r m t) (o : Off B H H') : Lore K B H' L cs ce tb pl c e d r m t :=
  ⟨fun H2 o2 => h.at_ H2 (o.trans o2), (let ⟨a, xs, q1, q2, q3⟩ := h.c; ⟨a, xs, q1, fun H2 o2 => q2 H2 (o.trans o2), SdAll.off o _ _ q3⟩), (let ⟨a, q1, q2⟩ := h.e; ⟨a, q1, fun H2 o2 => q2 H2 (o.trans o2)⟩), Sd.off o _ _ h.d, Sd.off o _ _ h.r, Sd.off o _ _ h.m, Sd.off o _ _ h.t⟩
theorem Lore.more {D : Addr} {u : HO} (hD : H D = none) (h : Lore K B H L cs ce tb pl c e d r m t) : Lore K (And1 B D) (upd H D u) L cs ce tb pl c e d r m t :=
  ⟨fun H2 o2 => h.at_ H2 (off_new hD o2), (let ⟨a, xs, q1, q2, q3⟩ := h.c; ⟨a, xs, q1, fun H2 o2 => q2 H2 (off_new hD o2), SdAll.more hD _ _ q3⟩), (let ⟨a, q1, q2⟩ := h.e; ⟨a, q1, fun H2 o2 => q2 H2 (off_new hD o2)⟩), Sd.more hD _ _ h.d, Sd.more hD _ _ h.r, Sd.more hD _ _ h.m, Sd.more hD _ _ h.t⟩
theorem Lore.get (h : Lore K B H L cs ce tb pl c e d r m t) {k : Str} {v : V} (q : valV (loreKV c e d r m t pl) (.inr k) = some v) : DGet H L (.str k) (some v) := by
  have g := DGet.k (k := Sum.inr k) (h.at_ H (Off.refl B H))
  rw [q] at g
  exact g
theorem Lore.has (h : Lore K B H L cs ce tb pl c e d r m t) (k : Str) : DGet H L (.str k) (valV (loreKV c e d r m t pl) (.inr k)) := DGet.k (k := Sum.inr k) (h.at_ H (Off.refl B H))
theorem Lore.sc (h : Lore K B H L cs ce tb pl c e d r m t) : Sd K B H c (.list (cs.map chD)) := by
  obtain ⟨a, xs, rfl, q2, q3⟩ := h.c
  exact Sd.raw q2 q3
end
theorem pe_dead {X : Cx} {e : Expr} : PE X e (fun _ _ _ => False) := ⟨fun _ _ _ _ _ _ h => h.elim⟩
theorem pss_dead {X : Cx} {st : List Stmt} : PSs X st (fun _ _ _ => False) := ⟨fun _ _ _ _ _ _ h => h.elim⟩
/-- a def that is called by its name -/
structure Use (P : Program) (w : World) (K : PySem.W.Frag) (mg : Str → Option Value) (base : Heap) (x : Str) (k : Nat) (f : Addr) (fd : FuncData) (ps : List Str) (sp : Sp) : Prop where
  G : FnOk P w K mg base CX0 k f fd ps sp
  g : mg x = some (.ref f)
  kp : PySem.W.keepIn K (.ref f) = true
  b : Binds K fd ps []
end L3
namespace R52
open PySem L2 L3 FT ND
open C8 (pss_cut tCut pe_gc)
abbrev sComb : Stmt := top 24
theorem pick_val {g : Str} {x y : V} (hx : Val x) (hy : Val y) : Val (pickF g x y) := by
  unfold pickF
  split
  · exact .bl _
  · split
    · exact .bl _
    · split
      · exact .bl _
      · split
        · split
          · exact hx
          · exact .non
        · split
          · exact hy
          · exact hx
theorem pick_vl {g : Str} {x y : V} (hx : Vl x) (hy : Vl y) : Vl (pickF g x y) := by
  unfold pickF
  split
  · trivial
  · split
    · trivial
    · split
      · trivial
      · split
        · split
          · exact hx
          · trivial
        · split
          · exact hy
          · exact hx
section
variable {P : Program} {w : World} {K : PySem.W.Frag} {mg : Str → Option Value} {base : Heap}
theorem scCo : FnScope ["sign", "one", "other", "value"] ["sign", "one", "other"] (defScope sComb) := ⟨rfl, rfl, rfl, by decide +kernel, rfl, by decide +kernel, by decide +kernel⟩
end
end R52
namespace ND
open PySem PySem.Spec PyProof.Rows L2
/-- the different numbers of ns are as many as those of ks -/
def tLenSetT (K : PySem.W.Frag) (ta : TE) : TE := fun σ H Q => ta σ H fun x H1 => ∃ (l : Addr) (ns : List Int), x = .ref l ∧ SqT K H1 l (ns.map V.int) ∧ ns.length ≤ 1000 ∧ ∀ ks : List Int, ks.Nodup → (∀ k, k ∈ ks ↔ k ∈ ns) → Q (.int (ks.length : Nat)) H1
theorem pe_lenSetT {X : Cx} {a : Expr} {ta : TE} {p p2 q pos : Pos} (hg : Gl X "len") (hm : X.mg "len" = none) (hg2 : Gl X "set") (hm2 : X.mg "set" = none) (ha : PE X a ta) (hc : X.calm = true := by rfl)
    (na : starEach [a] X.env = (false, eval a X.env) :: starEach [] X.env := by rfl) : PE X (.Call (.Name "len" p) [.Call (.Name "set" p2) [a] [] q] [] pos) (tLenSetT X.K ta) := by
  refine ⟨fun pins s σ H Q I h => ?_⟩
  refine Call_ (ld_blt I hg hm boot_len (PyProof.Rows.callWith_builtin1 (PyProof.Rows.args_cons ?_ rfl) rfl rfl))
  refine Call_ (ld_blt I hg2 hm2 boot_set (PyProof.Rows.callWith_type1 (PyProof.Rows.args_cons (thn (ha.run pins s σ H _ I h) fun v s1 ⟨x, H1, I1, r1, l, ns, ex, hq, hl, q1⟩ => PyProof.Rows.args_nil ?_) na) na rfl))
  subst ex
  cases r1
  obtain ⟨its, rv, pt, hz⟩ := I1.tuple hq
  refine call_set_tupI ns (I1.ok.hd hc) (show s1.heap.IsTuple l its.toArray from pt) (show IntsAre its.toArray.toList ns from ints_of_vals rv) (by unfold scanBound; omega) fun h' tk c R1 hcn k => PyProof.Rows.args_nil ?_
  obtain ⟨o, es, ep, t, ho, hex, hdt, _, nd, mem, hb, hf, hn, _, _⟩ := R1
  have I2 : Inv X pins σ H1 { s1 with heap := h', toks := tk } := I1.kept k
  have len : (es.toList.map keyOf).length = c := by rw [List.length_map, Array.length_toList, hn]
  refine call_len_set (s := { s1 with heap := h', toks := tk }) ho hex hdt hf (by rw [hn]; omega) ⟨.int ((es.toList.map keyOf).length : Nat), H1, I2.tok _, ⟨_, by rw [len, hn]⟩, q1 _ nd fun j => ?_⟩
  rw [← mem j, decide_eq_true_eq]
/-- one number alone: all are the same -/
theorem one_int {ns ks : List Int} (nd : ks.Nodup) (mem : ∀ k, k ∈ ks ↔ k ∈ ns) (ne : ns ≠ []) : ks.length = 1 ↔ ∀ a ∈ ns, ∀ b ∈ ns, a = b := by
  constructor
  · intro h a ha b hb
    obtain ⟨k, e⟩ : ∃ k, ks = [k] := by
      cases ks with
      | nil => cases h
      | cons k r => exact ⟨k, by rw [show r = [] from List.eq_nil_of_length_eq_zero (Nat.succ.inj h)]⟩
    have h1 := (mem a).mpr ha
    have h2 := (mem b).mpr hb
    rw [e] at h1 h2
    rw [List.mem_singleton.mp h1, List.mem_singleton.mp h2]
  · intro h
    cases ns with
    | nil => exact absurd rfl ne
    | cons a r =>
      have ha := (mem a).mpr List.mem_cons_self
      cases ks with
      | nil => exact nomatch ha
      | cons k s =>
        cases s with
        | nil => rfl
        | cons k2 s =>
          have e : k = k2 := h k ((mem k).mp List.mem_cons_self) k2 ((mem k2).mp (List.mem_cons_of_mem _ List.mem_cons_self))
          exact absurd (e ▸ List.mem_cons_self) (List.nodup_cons.mp nd).1
end ND
namespace R52
open PySem L2 L3 FT ND
open C8 (pss_cut tCut pe_gc)
abbrev sFInit : Stmt := inClass (top 15) 0
/-- a form's making: its two parts are kept -/
def spFInit (C : Addr) : Sp := fun vs H Q _ => ∃ (p dx tn tl : Addr), vs = [.ref p, .ref tn, .ref tl] ∧ H p = some (.ins C dx []) ∧ Q .non (upd (upd H p (.ins C dx (putF "nodes" (.ref tn) []))) p (.ins C dx (ffl tn tl)))
section
variable {P : Program} {w : World} {K : PySem.W.Frag} {mg : Str → Option Value} {base : Heap} {C : Addr}
theorem scFI : FnScope ["self", "nodes", "levels"] ["self", "nodes", "levels"] (defScope sFInit) := ⟨rfl, rfl, rfl, by decide +kernel, rfl, by decide +kernel, by decide +kernel⟩
theorem ok_finit {f : Addr} {fd : FuncData} (F : Fun K "__init__" "Form.__init__" sFInit f fd) (T : FormC K mg C) : FnOk P w K mg base CX0 1 f fd ["self", "nodes", "levels"] (spFInit C) := by
  refine F.ok scFI (fun vs H Q E h => ?_) (fun cdv A outer s H vs Q E hr h => ?_)
  · obtain ⟨p, dx, tn, tl, rfl, _⟩ := h
    rfl
  · obtain ⟨p, dx, tn, tl, rfl, hp, k⟩ := h
    refine ⟨_, pss_cons (ps_fld (pv 0) (pv 1) rfl) (pss_one (ps_fld (pv 0) (pv 2) rfl)), ?_⟩
    refine ⟨_, rfl, _, rfl, p, C, dx, [], rfl, hp, T.cl, T.nN, (by show 0 < 1000; decide), ?_⟩
    exact ⟨_, rfl, _, rfl, p, C, dx, _, rfl, upd_same, T.cl, T.nL, (by show 1 < 1000; decide), k⟩
end
end R52
namespace R52
open PySem L2 L3 FT ND
/-- tuples stay -/
def KT (H H' : Hp) : Prop := ∀ b vs, H b = some (.tup vs) → H' b = some (.tup vs)
theorem KT.of {H H' : Hp} (s : Same H H') : KT H H' := fun b vs e => s b _ e
theorem kt_upd {H : Hp} {x : Addr} {o : HO} (h : ∀ vs, H x ≠ some (.tup vs)) : KT H (upd H x o) := fun b vs e => by
  have ne : b ≠ x := fun z => h vs (by rw [← z]; exact e)
  rw [upd_ne ne]
  exact e
theorem same_upd {H0 H : Hp} {x : Addr} {o : HO} (s : Same H0 H) (n : H0 x = none) : Same H0 (upd H x o) := fun b ob e => by
  rw [upd_ne (ne_of_none e n)]
  exact s b ob e
theorem NodeI.kt {nm : Nat → Str} {H H' : Hp} (s : KT H H') : ∀ {t : Tr V} {is : List Nat} {v : V}, NodeI nm H t is v → NodeI nm H' t is v
  | .leaf _, _, _, ⟨h, a, e, k⟩ => ⟨h, a, e, s _ _ k⟩
  | .node _ _, _, _, ⟨a, b, e, k, j⟩ => ⟨a, b, e, s _ _ k, s _ _ j⟩
/-- the list of the nodes found so far -/
def NodesAt (nm : Nat → Str) (ns : List (Tr V)) (H : Hp) (a : Addr) : Prop :=
  ∃ vs, H a = some (.lst vs) ∧ vs.length = ns.length ∧ ∀ (i : Nat) (v : V) (t : Tr V), vs[i]? = some v → ns[i]? = some t → NodeI nm H t ((kids t).map (ix ns)) v
/-- a list of pairs of numbers: where each stands -/
abbrev Prs := List (Addr × Nat × Nat)
def PrsOk (H : Hp) (bs : Prs) : Prop := ∀ x ∈ bs, H x.1 = some (.tup [.int (x.2.1 : Nat), .int (x.2.2 : Nat)])
def refsOf (bs : Prs) : List V := bs.map fun x => V.ref x.1
/-- the stack, its top at the end of the list -/
def StackAt (ps : List (Nat × Nat)) (H : Hp) (a : Addr) : Prop := ∃ bs : Prs, bs.map (·.2) = ps ∧ H a = some (.lst (refsOf bs).reverse) ∧ PrsOk H bs
theorem PrsOk.kt {H H' : Hp} {bs : Prs} (s : KT H H') (h : PrsOk H bs) : PrsOk H' bs := fun x hx => s _ _ (h x hx)
theorem NodesAt.kt {nm : Nat → Str} {ns : List (Tr V)} {H H' : Hp} {a : Addr} (s : KT H H') (e : H' a = H a) (h : NodesAt nm ns H a) : NodesAt nm ns H' a := by
  obtain ⟨vs, h1, h2, h3⟩ := h
  exact ⟨vs, by rw [e]; exact h1, h2, fun i v t a b => (h3 i v t a b).kt s⟩
theorem StackAt.kt {ps : List (Nat × Nat)} {H H' : Hp} {a : Addr} (s : KT H H') (e : H' a = H a) (h : StackAt ps H a) : StackAt ps H' a := by
  obtain ⟨bs, h1, h2, h3⟩ := h
  exact ⟨bs, h1, by rw [e]; exact h2, h3.kt s⟩
/-- five objects of its own -/
structure Fr (H0 : Hp) (an al am ad aw : Addr) : Prop where
  n1 : H0 an = none
  n2 : H0 al = none
  n3 : H0 am = none
  n4 : H0 ad = none
  n5 : H0 aw = none
  d12 : an ≠ al
  d13 : an ≠ am
  d14 : an ≠ ad
  d15 : an ≠ aw
  d23 : al ≠ am
  d24 : al ≠ ad
  d25 : al ≠ aw
  d34 : am ≠ ad
  d35 : am ≠ aw
  d45 : ad ≠ aw
section
variable {P : Program} {w : World} {nm : Nat → Str} {N : Nat} {H0 : Hp} {an al am ad aw : Addr}
/-- what stands in them -/
structure JP (P : Program) (w : World) (nm : Nat → Str) (N : Nat) (H0 : Hp) (an al am ad aw : Addr) (n1 n2 n3 : List (Tr V)) (kvs : List (NestedKey × V)) (ps : List (Nat × Nat)) (H : Hp) : Prop where
  same : Same H0 H
  nodes : NodesAt nm n1 H an
  levels : H al = some (.lst (n2.map fun t => V.int (lvl N t : Nat)))
  nums : NdAt P w H am (numT nm n3)
  dn : NdAt P w H ad kvs
  stk : StackAt ps H aw
variable {n1 n2 n3 : List (Tr V)} {kvs : List (NestedKey × V)} {ps : List (Nat × Nat)} {H H' : Hp}
theorem nd_some {a : Addr} {k : List (NestedKey × V)} (n : NdAt P w H a k) : ∃ o, H a = some o ∧ ∀ vs, o ≠ .tup vs := by
  obtain ⟨ks, e, _⟩ := n
  exact ⟨_, e, fun vs z => nomatch z⟩
theorem at_same {a : Addr} {o : HO} (s : Same H H') (e : H a = some o) : H' a = H a := by rw [s _ _ e, e]
theorem JP.keep (j : JP P w nm N H0 an al am ad aw n1 n2 n3 kvs ps H) (s : Same H H') : JP P w nm N H0 an al am ad aw n1 n2 n3 kvs ps H' := by
  have kt := KT.of s
  obtain ⟨vs, e1, _⟩ := j.nodes
  obtain ⟨bs, _, e2, _⟩ := j.stk
  obtain ⟨o1, e3, _⟩ := nd_some j.nums
  obtain ⟨o2, e4, _⟩ := nd_some j.dn
  exact ⟨fun b o e => s _ _ (j.same b o e), j.nodes.kt kt (at_same s e1), s _ _ j.levels, j.nums.same kt (at_same s e3), j.dn.same kt (at_same s e4), j.stk.kt kt (at_same s e2)⟩
theorem JP.setW {ps' : List (Nat × Nat)} {xs : List V} (fr : Fr H0 an al am ad aw) (j : JP P w nm N H0 an al am ad aw n1 n2 n3 kvs ps H) (g : StackAt ps' (upd H aw (.lst xs)) aw) :
    JP P w nm N H0 an al am ad aw n1 n2 n3 kvs ps' (upd H aw (.lst xs)) := by
  obtain ⟨bs, _, e2, _⟩ := j.stk
  have kt : KT H (upd H aw (.lst xs)) := kt_upd fun vs z => by rw [e2] at z; cases z
  exact ⟨same_upd j.same fr.n5, j.nodes.kt kt (upd_ne fr.d15), by rw [upd_ne fr.d25]; exact j.levels, j.nums.same kt (upd_ne fr.d35), j.dn.same kt (upd_ne fr.d45), g⟩
theorem JP.setD {kvs' : List (NestedKey × V)} {o : HO} (fr : Fr H0 an al am ad aw) (j : JP P w nm N H0 an al am ad aw n1 n2 n3 kvs ps H) (g : NdAt P w (upd H ad o) ad kvs') :
    JP P w nm N H0 an al am ad aw n1 n2 n3 kvs' ps (upd H ad o) := by
  obtain ⟨o2, e4, no⟩ := nd_some j.dn
  have kt : KT H (upd H ad o) := kt_upd fun vs z => by rw [e4] at z; exact no vs (Option.some.inj z)
  exact ⟨same_upd j.same fr.n4, j.nodes.kt kt (upd_ne fr.d14), by rw [upd_ne fr.d24]; exact j.levels, j.nums.same kt (upd_ne fr.d34), g, j.stk.kt kt (upd_ne fr.d45.symm)⟩
theorem JP.setM {n3' : List (Tr V)} {o : HO} (fr : Fr H0 an al am ad aw) (j : JP P w nm N H0 an al am ad aw n1 n2 n3 kvs ps H) (g : NdAt P w (upd H am o) am (numT nm n3')) :
    JP P w nm N H0 an al am ad aw n1 n2 n3' kvs ps (upd H am o) := by
  obtain ⟨o2, e4, no⟩ := nd_some j.nums
  have kt : KT H (upd H am o) := kt_upd fun vs z => by rw [e4] at z; exact no vs (Option.some.inj z)
  exact ⟨same_upd j.same fr.n3, j.nodes.kt kt (upd_ne fr.d13), by rw [upd_ne fr.d23]; exact j.levels, g, j.dn.same kt (upd_ne fr.d34.symm), j.stk.kt kt (upd_ne fr.d35.symm)⟩
theorem JP.setN {t : Tr V} {v : V} {vs : List V} (fr : Fr H0 an al am ad aw) (j : JP P w nm N H0 an al am ad aw n1 n2 n3 kvs ps H) (cl : Closed n1) (hv : H an = some (.lst vs)) (sub : ∀ u ∈ kids t, u ∈ n1) (hn : NodeI nm H t ((kids t).map (ix n1)) v) :
    JP P w nm N H0 an al am ad aw (n1 ++ [t]) n2 n3 kvs ps (upd H an (.lst (vs ++ [v]))) := by
  have kt : KT H (upd H an (.lst (vs ++ [v]))) := kt_upd fun vs z => by rw [hv] at z; cases z
  refine ⟨same_upd j.same fr.n1, ?_, by rw [upd_ne fr.d12.symm]; exact j.levels, j.nums.same kt (upd_ne fr.d13.symm), j.dn.same kt (upd_ne fr.d14.symm), j.stk.kt kt (upd_ne fr.d15.symm)⟩
  obtain ⟨vs', e1, e2, e3⟩ := j.nodes
  rw [hv] at e1
  cases e1
  have km : ∀ {u : Tr V}, (∀ x ∈ kids u, x ∈ n1) → (kids u).map (ix (n1 ++ [t])) = (kids u).map (ix n1) := fun h => List.map_congr_left fun x hx => ix_more (h x hx)
  refine ⟨vs ++ [v], upd_same, by rw [List.length_append, List.length_append, e2]; rfl, fun i y u h1 h2 => ?_⟩
  rcases Nat.lt_or_ge i n1.length with q | q
  · rw [List.getElem?_append_left (by omega)] at h1
    rw [List.getElem?_append_left q] at h2
    have hu := List.mem_of_getElem? h2
    rw [km fun x hx => kids_in cl hu hx]
    exact (e3 i y u h1 h2).kt kt
  · rw [List.getElem?_append_right (by omega)] at h1
    rw [List.getElem?_append_right q] at h2
    have ei : i - n1.length = 0 := by
      rcases Nat.eq_zero_or_pos (i - n1.length) with z | z
      · exact z
      · rw [List.getElem?_eq_none (by rw [List.length_singleton]; exact z)] at h2; cases h2
    rw [ei] at h2
    rw [e2, ei] at h1
    cases h1
    cases h2
    rw [km sub]
    exact hn.kt kt
theorem JP.setL {t : Tr V} {v : V} (fr : Fr H0 an al am ad aw) (j : JP P w nm N H0 an al am ad aw n1 n2 n3 kvs ps H) (hv : v = .int (lvl N t : Nat)) :
    JP P w nm N H0 an al am ad aw n1 (n2 ++ [t]) n3 kvs ps (upd H al (.lst (n2.map (fun t => V.int (lvl N t : Nat)) ++ [v]))) := by
  have kt : KT H (upd H al (.lst (n2.map (fun t => V.int (lvl N t : Nat)) ++ [v]))) := kt_upd fun vs z => by rw [j.levels] at z; cases z
  subst hv
  exact ⟨same_upd j.same fr.n2, j.nodes.kt kt (upd_ne fr.d12), by rw [upd_same, List.map_append]; rfl, j.nums.same kt (upd_ne fr.d23.symm), j.dn.same kt (upd_ne fr.d24.symm), j.stk.kt kt (upd_ne fr.d25.symm)⟩
end
/-- the key of a pair of numbers -/
theorem pair_key {H : Hp} {q : Addr} {i j : Nat} (h : H q = some (.tup [.int i, .int j])) : NkAt H (pairK i j) (.ref q) := .tup h (.cons (.int _) (.cons (.int _) .nil))
theorem pair_depth (i j : Nat) : (pairK i j).depth ≤ 8 := by
  have z : ∀ i : Int, (NestedKey.num i).depth = 0 := fun _ => rfl
  unfold pairK
  rw [NestedKey.depth, NestedKey.depthAll, NestedKey.depthAll, NestedKey.depthAll, z, z]
  decide
theorem ints_key {H : Hp} : ∀ (ks : List Nat), NkAll H (ks.map fun k : Nat => NestedKey.num (k : Int)) (ks.map fun k => V.int (k : Nat))
  | [] => .nil
  | k :: ks => .cons (.int _) (ints_key ks)
/-- the key of a node that stands there -/
theorem node_key {nm : Nat → Str} {ns : List (Tr V)} {H : Hp} : ∀ {t : Tr V} {v : V}, NodeI nm H t ((kids t).map (ix ns)) v → NkAt H (keyT nm ns t) v
  | .leaf x, _, ⟨h, a, e, k⟩ => by
    rw [e]
    exact .tup k (.cons (.str _) (.cons (keyV_at h) .nil))
  | .node l ts, _, ⟨a, b, e, k, j⟩ => by
    rw [e]
    refine .tup k (.cons (.str _) (.cons (.tup j ?_) .nil))
    have := ints_key (H := H) ((kids (.node l ts)).map (ix ns))
    rw [List.map_map] at this
    exact this
theorem nums_depth : ∀ (ks : List Nat), NestedKey.depthAll (ks.map fun k : Nat => NestedKey.num (k : Int)) = 0
  | [] => rfl
  | k :: ks => by
    rw [List.map_cons, NestedKey.depthAll, nums_depth ks]
    rfl
theorem keyT_depth {nm : Nat → Str} {ns : List (Tr V)} : ∀ (t : Tr V), (keyT nm ns t).depth ≤ 8
  | .leaf x => by
    have e : keyT nm ns (.leaf x) = .tup [.text (kindV x), keyV x] := rfl
    have z : (NestedKey.text (kindV x)).depth = 0 := rfl
    rw [e, NestedKey.depth, NestedKey.depthAll, NestedKey.depthAll, NestedKey.depthAll, keyV_depth, z]
    decide
  | .node l ts => by
    have e : keyT nm ns (.node l ts) = .tup [.text (nm l), .tup ((ts.map (ix ns)).map fun k : Nat => NestedKey.num (k : Int))] := by
      rw [List.map_map]
      rfl
    have z : (NestedKey.text (nm l)).depth = 0 := rfl
    have z2 : (NestedKey.tup ((ts.map (ix ns)).map fun k : Nat => NestedKey.num (k : Int))).depth = 1 := by rw [NestedKey.depth, nums_depth]
    rw [e, NestedKey.depth, NestedKey.depthAll, NestedKey.depthAll, NestedKey.depthAll, z2, z]
    decide
/-- pairs that stand in a list -/
theorem PairsIs.prs {H H' : Hp} {D : Addr} {L : List (Nat × Nat)} (h : PairsIs H H' D (numsOf L)) : ∃ bs : Prs, bs.map (·.2) = L ∧ H' D = some (.lst (refsOf bs)) ∧ PrsOk H' bs := by
  obtain ⟨qs, e, len, all⟩ := h.at_
  unfold numsOf at len all
  rw [List.length_map] at len
  refine ⟨qs.zip L, by rw [← List.unzip_snd, List.unzip_zip len], ?_, fun x hx => ?_⟩
  · rw [e]
    unfold refsOf
    have : (qs.zip L).map (·.1) = qs := by rw [← List.unzip_fst, List.unzip_zip len]
    conv => lhs; rw [← this]
    rw [List.map_map]
    rfl
  · obtain ⟨k, hk⟩ := List.mem_iff_getElem?.mp hx
    obtain ⟨h1, h2⟩ := List.getElem?_zip_eq_some.mp hk
    exact (all k x.1 (((x.2.1 : Nat) : Int), ((x.2.2 : Nat) : Int)) h1 (by rw [List.getElem?_map, h2]; rfl)).2
end R52
namespace R52
open PySem L2 L3 FT ND
open C8 (pss_cut tCut pe_gc)
abbrev sWorked : Stmt := top 25
def sMul : Str := "*"
/-- the signs that KINDS knows -/
def sgns : List Str := ["+", "-", "*", "least", "most", "below", "same", "and", "or"]
/-- what they make of two values -/
def intF (g : Str) (i j : Int) : V := if g = "+" then .int (i + j) else if g = "-" then .int (i - j) else if g = "*" then .int (i * j) else if g = "least" then .int (if j < i then j else i) else if g = "most" then .int (if j > i then j else i) else if g = "below" then .bl (decide (i < j)) else if g = "same" then .bl (decide (i = j)) else .non
def strF (g : Str) (a b : Str) : V := if g = "below" then .bl (decide (a.cps.toList < b.cps.toList)) else if g = "same" then .bl (decide (a = b)) else .non
def blF (g : Str) (a b : Bool) : V := if g = "same" then .bl (decide (a = b)) else if g = "and" then .bl (a && b) else if g = "or" then .bl (a || b) else .non
def workF (g : Str) : V → V → V
  | .int i, .int j => intF g i j
  | .str a, .str b => strF g a b
  | .bl a, .bl b => blF g a b
  | _, _ => .non
theorem work_int {g : Str} {i j : Int} : workF g (.int i) (.int j) = intF g i j := rfl
theorem work_str {g : Str} {a b : Str} : workF g (.str a) (.str b) = strF g a b := rfl
theorem work_bl {g : Str} {a b : Bool} : workF g (.bl a) (.bl b) = blF g a b := rfl
noncomputable def opF (g : Str) (x y : V) : V := if g ∈ sgns then workF g x y else pickF g x y
def flat (x : V) : Prop := x = .non ∨ (∃ b, x = .bl b) ∨ ∃ i, x = .int i
theorem work_flat (g : Str) (x y : V) : flat (workF g x y) := by
  have a : ∀ i j, flat (intF g i j) := fun i j => by
    unfold intF flat
    repeat' split
    all_goals first | exact .inr (.inr ⟨_, rfl⟩) | exact .inr (.inl ⟨_, rfl⟩) | exact .inl rfl
  have b : ∀ i j, flat (strF g i j) := fun i j => by
    unfold strF flat
    repeat' split
    all_goals first | exact .inr (.inl ⟨_, rfl⟩) | exact .inl rfl
  have c : ∀ i j, flat (blF g i j) := fun i j => by
    unfold blF flat
    repeat' split
    all_goals first | exact .inr (.inl ⟨_, rfl⟩) | exact .inl rfl
  cases x <;> cases y <;> first | exact a _ _ | exact b _ _ | exact c _ _ | exact .inl rfl
theorem op_val {g : Str} {x y : V} (hx : Val x) (hy : Val y) : Val (opF g x y) := by
  unfold opF
  split
  · rcases work_flat g x y with e | ⟨b, e⟩ | ⟨i, e⟩ <;> rw [e]
    · exact .non
    · exact .bl b
    · exact .int i
  · exact pick_val hx hy
theorem op_vl {g : Str} {x y : V} (hx : Vl x) (hy : Vl y) : Vl (opF g x y) := by
  unfold opF
  split
  · rcases work_flat g x y with e | ⟨b, e⟩ | ⟨i, e⟩ <;> rw [e] <;> trivial
  · exact pick_vl hx hy
/-- on which kinds a sign works -/
def kindsOf (g : Str) : List Str := if g ∈ (["+", "-", "*", "least", "most"] : List Str) then ["number"] else if g ∈ (["and", "or"] : List Str) then ["truth"] else if g = "below" then ["number", "word"] else ["number", "word", "truth"]
/-- what KINDS holds -/
def KindsK (K : PySem.W.Frag) (d : Addr) : Prop := ∀ g ∈ sgns, ∃ a, PySem.W.nsIn K d g = some (some (.ref a)) ∧ ∀ H, SqT K H a ((kindsOf g).map V.str)
def SignOk (K : PySem.W.Frag) (d : Addr) (g : Str) : Prop := (g ∉ sgns ∧ PySem.W.nsIn K d g = some none) ∨ (g ∈ sgns ∧ KindsK K d)
/-- two numbers that can be multiplied -/
def MulOk (x y : V) : Prop := ∀ i j, x = .int i → y = .int j → CMulW i j
def spCombO (K : PySem.W.Frag) (d : Addr) : Sp := fun vs H Q _ => ∃ (g : Str) (x y : V) (a b : Addr), vs = [.str g, .ref a, .ref b] ∧ SignOk K d g ∧ (g = sMul → MulOk x y) ∧ Val x ∧ Val y ∧ H a = some (.tup [.str (kindV x), x]) ∧ H b = some (.tup [.str (kindV y), y]) ∧
  ∀ p, H p = none → Q (.ref p) (upd H p (.tup [.str (kindV (opF g x y)), opF g x y]))
/-- of one kind, and one that the sign works on -/
def FitS (g : Str) (x y : V) : Prop := (∃ i j, x = .int i ∧ y = .int j ∧ g ≠ "and" ∧ g ≠ "or") ∨ (∃ a b, x = .str a ∧ y = .str b ∧ (g = "below" ∨ g = "same")) ∨ ∃ a b, x = .bl a ∧ y = .bl b ∧ (g = "same" ∨ g = "and" ∨ g = "or")
def spWork : Sp := fun vs H Q _ => ∃ (g : Str) (x y : V), vs = [.str g, x, y] ∧ g ∈ sgns ∧ FitS g x y ∧ (g = sMul → MulOk x y) ∧ Q (workF g x y) H
section
variable {P : Program} {w : World} {K : PySem.W.Frag} {mg : Str → Option Value} {base : Heap}
theorem scWk : FnScope ["sign", "one", "other"] ["sign", "one", "other"] (defScope sWorked) := ⟨rfl, rfl, rfl, by decide +kernel, rfl, by decide +kernel, by decide +kernel⟩
def rLt2 : R2 := fun x y H Q => (∃ i j, x = .int i ∧ y = .int j ∧ Q (.bl (decide (i < j))) H) ∨ ∃ i j, x = .str i ∧ y = .str j ∧ Q (.bl (decide (i.cps.toList < j.cps.toList))) H
theorem op_lt2 {X : Cx} : OpR X (compareOp .Lt) rLt2 := by
  intro pins s σ H x y v u Q I rx ry h
  rcases h with h | h
  · exact op_lt pins s σ H x y v u Q I rx ry h
  · exact op_lt_str pins s σ H x y v u Q I rx ry h
theorem ok_work {f : Addr} {fd : FuncData} (F : Fun K "worked" "worked" sWorked f fd) (zMin : mg "min" = none) (zMax : mg "max" = none) : FnOk P w K mg base CX0 1 f fd ["sign", "one", "other"] spWork := by
  refine F.ok scWk (fun vs H Q E h => ?_) (fun cdv A outer s H vs Q E hr h => ?_)
  · obtain ⟨g, x, y, rfl, _⟩ := h
    rfl
  · obtain ⟨g, x, y, rfl, hg, fit, mo, k⟩ := h
    refine ⟨_, pss_cons (ps_if (pt_cmpR op_eq (pv 0) pe_str (nomark _)) (pss_one (ps_ret (pe_op op_add (pv 1) (pv 2)))) pss_nil)
      (pss_cons (ps_if (pt_cmpR op_eq (pv 0) pe_str (nomark _)) (pss_one (ps_ret (pe_op op_sub (pv 1) (pv 2)))) pss_nil)
      (pss_cons (ps_if (pt_cmpR op_eq (pv 0) pe_str (nomark _)) (pss_one (ps_ret (pe_op op_mulW (pv 1) (pv 2)))) pss_nil)
      (pss_cons (ps_if (pt_cmpR op_eq (pv 0) pe_str (nomark _)) (pss_one (ps_ret (pe_callB (call_min2 rfl) (by rfl) zMin PyProof.Rows.boot_min (pa_cons (pv 1) (pa_cons (pv 2) pa_nil))))) pss_nil)
      (pss_cons (ps_if (pt_cmpR op_eq (pv 0) pe_str (nomark _)) (pss_one (ps_ret (pe_callB (call_max2 rfl) (by rfl) zMax PyProof.Rows.boot_max (pa_cons (pv 1) (pa_cons (pv 2) pa_nil))))) pss_nil)
      (pss_cons (ps_if (pt_cmpR op_eq (pv 0) pe_str (nomark _)) (pss_one (ps_ret (pe_cmpR op_lt2 (pv 1) (pv 2) (nomark _)))) pss_nil)
      (pss_cons (ps_if (pt_cmpR op_eq (pv 0) pe_str (nomark _)) (pss_one (ps_ret (pe_cmpR op_eq (pv 1) (pv 2) (nomark _)))) pss_nil)
      (pss_cons (ps_if (pt_cmpR op_eq (pv 0) pe_str (nomark _)) (pss_one (ps_ret (pe_and (pv 1) (pe_one (pv 2))))) pss_nil)
      (pss_one (ps_ret (pe_or (pv 1) (pe_one (pv 2)))))))))))), ?_⟩
    have ne : ∀ {a b : Str}, (decide (a = b)) = false → a ≠ b := fun {a b} h => of_decide_eq_false h
    have pick : ∀ {v u : V}, v = u → Q v H → Q u H := fun e h => e ▸ h
    simp only [sgns, List.mem_cons, List.not_mem_nil, or_false] at hg
    rcases hg with rfl | rfl | rfl | rfl | rfl | rfl | rfl | rfl | rfl
    · have no : ∀ {b : Str}, decide (("+" : Str) = b) = false → ("+" : Str) ≠ b := ne
      rcases fit with ⟨i, j, rfl, rfl, f1, f2⟩ | ⟨a, b, rfl, rfl, f1⟩ | ⟨a, b, rfl, rfl, f1⟩
      · have e : workF "+" (.int i) (.int j) = .int (i + j) := by
          rw [work_int]
          unfold intF
          rw [if_pos rfl]
        rw [e] at k
        exact ⟨_, rfl, rfl, _, rfl, ifT (by decide +kernel) ⟨_, rfl, _, rfl, i, j, rfl, rfl, k⟩⟩
      · exact absurd f1 (fun h => h.elim (no (by decide +kernel)) (no (by decide +kernel)))
      · exact absurd f1 (fun h => h.elim (no (by decide +kernel)) fun h => h.elim (no (by decide +kernel)) (no (by decide +kernel)))
    · have no : ∀ {b : Str}, decide (("-" : Str) = b) = false → ("-" : Str) ≠ b := ne
      rcases fit with ⟨i, j, rfl, rfl, f1, f2⟩ | ⟨a, b, rfl, rfl, f1⟩ | ⟨a, b, rfl, rfl, f1⟩
      · have e : workF "-" (.int i) (.int j) = .int (i - j) := by
          rw [work_int]
          unfold intF
          rw [if_neg (ne (by decide +kernel)), if_pos rfl]
        rw [e] at k
        exact ⟨_, rfl, rfl, _, rfl, ifF (by decide +kernel) ⟨_, rfl, rfl, _, rfl, ifT (by decide +kernel) ⟨_, rfl, _, rfl, i, j, rfl, rfl, k⟩⟩⟩
      · exact absurd f1 (fun h => h.elim (no (by decide +kernel)) (no (by decide +kernel)))
      · exact absurd f1 (fun h => h.elim (no (by decide +kernel)) fun h => h.elim (no (by decide +kernel)) (no (by decide +kernel)))
    · have no : ∀ {b : Str}, decide (("*" : Str) = b) = false → ("*" : Str) ≠ b := ne
      rcases fit with ⟨i, j, rfl, rfl, f1, f2⟩ | ⟨a, b, rfl, rfl, f1⟩ | ⟨a, b, rfl, rfl, f1⟩
      · have e : workF "*" (.int i) (.int j) = .int (i * j) := by
          rw [work_int]
          unfold intF
          rw [if_neg (ne (by decide +kernel)), if_neg (ne (by decide +kernel)), if_pos rfl]
        rw [e] at k
        exact ⟨_, rfl, rfl, _, rfl, ifF (by decide +kernel) ⟨_, rfl, rfl, _, rfl, ifF (by decide +kernel) ⟨_, rfl, rfl, _, rfl, ifT (by decide +kernel) ⟨_, rfl, _, rfl, i, j, rfl, rfl, mo rfl i j rfl rfl, k⟩⟩⟩⟩
      · exact absurd f1 (fun h => h.elim (no (by decide +kernel)) (no (by decide +kernel)))
      · exact absurd f1 (fun h => h.elim (no (by decide +kernel)) fun h => h.elim (no (by decide +kernel)) (no (by decide +kernel)))
    · have no : ∀ {b : Str}, decide (("least" : Str) = b) = false → ("least" : Str) ≠ b := ne
      rcases fit with ⟨i, j, rfl, rfl, f1, f2⟩ | ⟨a, b, rfl, rfl, f1⟩ | ⟨a, b, rfl, rfl, f1⟩
      · have e : workF "least" (.int i) (.int j) = .int (if j < i then j else i) := by
          rw [work_int]
          unfold intF
          rw [if_neg (ne (by decide +kernel)), if_neg (ne (by decide +kernel)), if_neg (ne (by decide +kernel)), if_pos rfl]
        rw [e] at k
        exact ⟨_, rfl, rfl, _, rfl, ifF (by decide +kernel) ⟨_, rfl, rfl, _, rfl, ifF (by decide +kernel) ⟨_, rfl, rfl, _, rfl, ifF (by decide +kernel) ⟨_, rfl, rfl, _, rfl, ifT (by decide +kernel) ⟨_, rfl, _, rfl, i, j, rfl, k⟩⟩⟩⟩⟩
      · exact absurd f1 (fun h => h.elim (no (by decide +kernel)) (no (by decide +kernel)))
      · exact absurd f1 (fun h => h.elim (no (by decide +kernel)) fun h => h.elim (no (by decide +kernel)) (no (by decide +kernel)))
    · have no : ∀ {b : Str}, decide (("most" : Str) = b) = false → ("most" : Str) ≠ b := ne
      rcases fit with ⟨i, j, rfl, rfl, f1, f2⟩ | ⟨a, b, rfl, rfl, f1⟩ | ⟨a, b, rfl, rfl, f1⟩
      · have e : workF "most" (.int i) (.int j) = .int (if j > i then j else i) := by
          rw [work_int]
          unfold intF
          rw [if_neg (ne (by decide +kernel)), if_neg (ne (by decide +kernel)), if_neg (ne (by decide +kernel)), if_neg (ne (by decide +kernel)), if_pos rfl]
        rw [e] at k
        exact ⟨_, rfl, rfl, _, rfl, ifF (by decide +kernel) ⟨_, rfl, rfl, _, rfl, ifF (by decide +kernel) ⟨_, rfl, rfl, _, rfl, ifF (by decide +kernel) ⟨_, rfl, rfl, _, rfl, ifF (by decide +kernel) ⟨_, rfl, rfl, _, rfl, ifT (by decide +kernel) ⟨_, rfl, _, rfl, i, j, rfl, k⟩⟩⟩⟩⟩⟩
      · exact absurd f1 (fun h => h.elim (no (by decide +kernel)) (no (by decide +kernel)))
      · exact absurd f1 (fun h => h.elim (no (by decide +kernel)) fun h => h.elim (no (by decide +kernel)) (no (by decide +kernel)))
    · have no : ∀ {b : Str}, decide (("below" : Str) = b) = false → ("below" : Str) ≠ b := ne
      rcases fit with ⟨i, j, rfl, rfl, f1, f2⟩ | ⟨a, b, rfl, rfl, f1⟩ | ⟨a, b, rfl, rfl, f1⟩
      · have e : workF "below" (.int i) (.int j) = .bl (decide (i < j)) := by
          rw [work_int]
          unfold intF
          rw [if_neg (ne (by decide +kernel)), if_neg (ne (by decide +kernel)), if_neg (ne (by decide +kernel)), if_neg (ne (by decide +kernel)), if_neg (ne (by decide +kernel)), if_pos rfl]
        rw [e] at k
        exact ⟨_, rfl, rfl, _, rfl, ifF (by decide +kernel) ⟨_, rfl, rfl, _, rfl, ifF (by decide +kernel) ⟨_, rfl, rfl, _, rfl, ifF (by decide +kernel) ⟨_, rfl, rfl, _, rfl, ifF (by decide +kernel) ⟨_, rfl, rfl, _, rfl, ifF (by decide +kernel) ⟨_, rfl, rfl, _, rfl, ifT (by decide +kernel) ⟨_, rfl, _, rfl, .inl ⟨i, j, rfl, rfl, k⟩⟩⟩⟩⟩⟩⟩⟩
      · have e : workF "below" (.str a) (.str b) = .bl (decide (a.cps.toList < b.cps.toList)) := by
          rw [work_str]
          unfold strF
          rw [if_pos rfl]
        rw [e] at k
        exact ⟨_, rfl, rfl, _, rfl, ifF (by decide +kernel) ⟨_, rfl, rfl, _, rfl, ifF (by decide +kernel) ⟨_, rfl, rfl, _, rfl, ifF (by decide +kernel) ⟨_, rfl, rfl, _, rfl, ifF (by decide +kernel) ⟨_, rfl, rfl, _, rfl, ifF (by decide +kernel) ⟨_, rfl, rfl, _, rfl, ifT (by decide +kernel) ⟨_, rfl, _, rfl, .inr ⟨a, b, rfl, rfl, k⟩⟩⟩⟩⟩⟩⟩⟩
      · exact absurd f1 (fun h => h.elim (no (by decide +kernel)) fun h => h.elim (no (by decide +kernel)) (no (by decide +kernel)))
    · have no : ∀ {b : Str}, decide (("same" : Str) = b) = false → ("same" : Str) ≠ b := ne
      rcases fit with ⟨i, j, rfl, rfl, f1, f2⟩ | ⟨a, b, rfl, rfl, f1⟩ | ⟨a, b, rfl, rfl, f1⟩
      · have e : workF "same" (.int i) (.int j) = .bl (decide (i = j)) := by
          rw [work_int]
          unfold intF
          rw [if_neg (ne (by decide +kernel)), if_neg (ne (by decide +kernel)), if_neg (ne (by decide +kernel)), if_neg (ne (by decide +kernel)), if_neg (ne (by decide +kernel)), if_neg (ne (by decide +kernel)), if_pos rfl]
        rw [e] at k
        exact ⟨_, rfl, rfl, _, rfl, ifF (by decide +kernel) ⟨_, rfl, rfl, _, rfl, ifF (by decide +kernel) ⟨_, rfl, rfl, _, rfl, ifF (by decide +kernel) ⟨_, rfl, rfl, _, rfl, ifF (by decide +kernel) ⟨_, rfl, rfl, _, rfl, ifF (by decide +kernel) ⟨_, rfl, rfl, _, rfl, ifF (by decide +kernel) ⟨_, rfl, rfl, _, rfl, ifT (by decide +kernel) ⟨_, rfl, _, rfl, rfl, pick (by
          show V.bl _ = V.bl _
          congr 1
          exact (Bool.eq_iff_iff.mpr (by rw [decide_eq_true_iff, decide_eq_true_iff]; exact ⟨fun h => by rw [h], fun h => by injection h⟩))) k⟩⟩⟩⟩⟩⟩⟩⟩
      · have e : workF "same" (.str a) (.str b) = .bl (decide (a = b)) := by
          rw [work_str]
          unfold strF
          rw [if_neg (ne (by decide +kernel)), if_pos rfl]
        rw [e] at k
        exact ⟨_, rfl, rfl, _, rfl, ifF (by decide +kernel) ⟨_, rfl, rfl, _, rfl, ifF (by decide +kernel) ⟨_, rfl, rfl, _, rfl, ifF (by decide +kernel) ⟨_, rfl, rfl, _, rfl, ifF (by decide +kernel) ⟨_, rfl, rfl, _, rfl, ifF (by decide +kernel) ⟨_, rfl, rfl, _, rfl, ifF (by decide +kernel) ⟨_, rfl, rfl, _, rfl, ifT (by decide +kernel) ⟨_, rfl, _, rfl, rfl, pick (by
          show V.bl _ = V.bl _
          congr 1
          exact (Bool.eq_iff_iff.mpr (by rw [decide_eq_true_iff, decide_eq_true_iff]; exact ⟨fun h => by rw [h], fun h => by injection h⟩))) k⟩⟩⟩⟩⟩⟩⟩⟩
      · have e : workF "same" (.bl a) (.bl b) = .bl (decide (a = b)) := by
          rw [work_bl]
          unfold blF
          rw [if_pos rfl]
        rw [e] at k
        exact ⟨_, rfl, rfl, _, rfl, ifF (by decide +kernel) ⟨_, rfl, rfl, _, rfl, ifF (by decide +kernel) ⟨_, rfl, rfl, _, rfl, ifF (by decide +kernel) ⟨_, rfl, rfl, _, rfl, ifF (by decide +kernel) ⟨_, rfl, rfl, _, rfl, ifF (by decide +kernel) ⟨_, rfl, rfl, _, rfl, ifF (by decide +kernel) ⟨_, rfl, rfl, _, rfl, ifT (by decide +kernel) ⟨_, rfl, _, rfl, rfl, pick (by
          show V.bl _ = V.bl _
          congr 1
          exact (Bool.eq_iff_iff.mpr (by rw [decide_eq_true_iff, decide_eq_true_iff]; exact ⟨fun h => by rw [h], fun h => by injection h⟩))) k⟩⟩⟩⟩⟩⟩⟩⟩
    · have no : ∀ {b : Str}, decide (("and" : Str) = b) = false → ("and" : Str) ≠ b := ne
      rcases fit with ⟨i, j, rfl, rfl, f1, f2⟩ | ⟨a, b, rfl, rfl, f1⟩ | ⟨a, b, rfl, rfl, f1⟩
      · exact absurd rfl f1
      · exact absurd f1 (fun h => h.elim (no (by decide +kernel)) (no (by decide +kernel)))
      · have e : workF "and" (.bl a) (.bl b) = .bl (a && b) := by
          rw [work_bl]
          unfold blF
          rw [if_neg (ne (by decide +kernel)), if_pos rfl]
        rw [e] at k
        refine ⟨_, rfl, rfl, _, rfl, ifF (by decide +kernel) ⟨_, rfl, rfl, _, rfl, ifF (by decide +kernel) ⟨_, rfl, rfl, _, rfl, ifF (by decide +kernel) ⟨_, rfl, rfl, _, rfl, ifF (by decide +kernel) ⟨_, rfl, rfl, _, rfl, ifF (by decide +kernel) ⟨_, rfl, rfl, _, rfl, ifF (by decide +kernel) ⟨_, rfl, rfl, _, rfl, ifF (by decide +kernel) ⟨_, rfl, rfl, _, rfl, ifT (by decide +kernel) ?_⟩⟩⟩⟩⟩⟩⟩⟩
        cases a with
        | true => exact ⟨_, rfl, _, rfl, ifT rfl ⟨_, rfl, k⟩⟩
        | false => exact ⟨_, rfl, _, rfl, ifF rfl k⟩
    · have no : ∀ {b : Str}, decide (("or" : Str) = b) = false → ("or" : Str) ≠ b := ne
      rcases fit with ⟨i, j, rfl, rfl, f1, f2⟩ | ⟨a, b, rfl, rfl, f1⟩ | ⟨a, b, rfl, rfl, f1⟩
      · exact absurd rfl f2
      · exact absurd f1 (fun h => h.elim (no (by decide +kernel)) (no (by decide +kernel)))
      · have e : workF "or" (.bl a) (.bl b) = .bl (a || b) := by
          rw [work_bl]
          unfold blF
          rw [if_neg (ne (by decide +kernel)), if_neg (ne (by decide +kernel)), if_pos rfl]
        rw [e] at k
        refine ⟨_, rfl, rfl, _, rfl, ifF (by decide +kernel) ⟨_, rfl, rfl, _, rfl, ifF (by decide +kernel) ⟨_, rfl, rfl, _, rfl, ifF (by decide +kernel) ⟨_, rfl, rfl, _, rfl, ifF (by decide +kernel) ⟨_, rfl, rfl, _, rfl, ifF (by decide +kernel) ⟨_, rfl, rfl, _, rfl, ifF (by decide +kernel) ⟨_, rfl, rfl, _, rfl, ifF (by decide +kernel) ⟨_, rfl, rfl, _, rfl, ifF (by decide +kernel) ?_⟩⟩⟩⟩⟩⟩⟩⟩
        cases a with
        | true => exact ⟨_, rfl, _, rfl, ifT rfl k⟩
        | false => exact ⟨_, rfl, _, rfl, ifF rfl ⟨_, rfl, k⟩⟩
theorem kinds_flat (g : Str) : ((kindsOf g).map V.str).all flatV = true := by
  unfold kindsOf
  split
  · rfl
  · split
    · rfl
    · split <;> rfl
theorem kinds_fit {g : Str} {x y : V} (hg : g ∈ sgns) (hx : Val x) (hy : Val y) (ek : kindV x = kindV y) : (inV (.str (kindV x)) ((kindsOf g).map V.str) = true ∧ FitS g x y) ∨ (inV (.str (kindV x)) ((kindsOf g).map V.str) = false ∧ workF g x y = .non) := by
  simp only [sgns, List.mem_cons, List.not_mem_nil, or_false] at hg
  cases hx <;> cases hy <;> first | exact absurd ek (show ¬ (Str.ofString "none" : Str) = Str.ofString "truth" by decide +kernel) | exact absurd ek (show ¬ (Str.ofString "none" : Str) = Str.ofString "number" by decide +kernel) | exact absurd ek (show ¬ (Str.ofString "none" : Str) = Str.ofString "word" by decide +kernel) | exact absurd ek (show ¬ (Str.ofString "truth" : Str) = Str.ofString "none" by decide +kernel) | exact absurd ek (show ¬ (Str.ofString "truth" : Str) = Str.ofString "number" by decide +kernel) | exact absurd ek (show ¬ (Str.ofString "truth" : Str) = Str.ofString "word" by decide +kernel) | exact absurd ek (show ¬ (Str.ofString "number" : Str) = Str.ofString "none" by decide +kernel) | exact absurd ek (show ¬ (Str.ofString "number" : Str) = Str.ofString "truth" by decide +kernel) | exact absurd ek (show ¬ (Str.ofString "number" : Str) = Str.ofString "word" by decide +kernel) | exact absurd ek (show ¬ (Str.ofString "word" : Str) = Str.ofString "none" by decide +kernel) | exact absurd ek (show ¬ (Str.ofString "word" : Str) = Str.ofString "truth" by decide +kernel) | exact absurd ek (show ¬ (Str.ofString "word" : Str) = Str.ofString "number" by decide +kernel) | skip
  all_goals (rcases hg with rfl | rfl | rfl | rfl | rfl | rfl | rfl | rfl | rfl) <;> first | exact .inl ⟨(show inV (V.str (Str.ofString "number")) _ = true by decide +kernel), .inl ⟨_, _, rfl, rfl, by decide +kernel, by decide +kernel⟩⟩ | exact .inl ⟨(show inV (V.str (Str.ofString "word")) _ = true by decide +kernel), .inr (.inl ⟨_, _, rfl, rfl, .inl rfl⟩)⟩ | exact .inl ⟨(show inV (V.str (Str.ofString "word")) _ = true by decide +kernel), .inr (.inl ⟨_, _, rfl, rfl, .inr rfl⟩)⟩ | exact .inl ⟨(show inV (V.str (Str.ofString "truth")) _ = true by decide +kernel), .inr (.inr ⟨_, _, rfl, rfl, .inl rfl⟩)⟩ | exact .inl ⟨(show inV (V.str (Str.ofString "truth")) _ = true by decide +kernel), .inr (.inr ⟨_, _, rfl, rfl, .inr (.inl rfl)⟩)⟩ | exact .inl ⟨(show inV (V.str (Str.ofString "truth")) _ = true by decide +kernel), .inr (.inr ⟨_, _, rfl, rfl, .inr (.inr rfl)⟩)⟩ | exact .inr ⟨(show inV (V.str (Str.ofString "none")) _ = false by decide +kernel), rfl⟩ | exact .inr ⟨(show inV (V.str (Str.ofString "number")) _ = false by decide +kernel), (by rw [work_int]; unfold intF; rw [if_neg (by decide +kernel), if_neg (by decide +kernel), if_neg (by decide +kernel), if_neg (by decide +kernel), if_neg (by decide +kernel), if_neg (by decide +kernel), if_neg (by decide +kernel)])⟩ | exact .inr ⟨(show inV (V.str (Str.ofString "word")) _ = false by decide +kernel), (by rw [work_str]; unfold strF; rw [if_neg (by decide +kernel), if_neg (by decide +kernel)])⟩ | exact .inr ⟨(show inV (V.str (Str.ofString "truth")) _ = false by decide +kernel), (by rw [work_bl]; unfold blF; rw [if_neg (by decide +kernel), if_neg (by decide +kernel), if_neg (by decide +kernel)])⟩
theorem ok_combO {f fP fN fW d : Addr} {fd fdP fdN fdW : FuncData} {es : Array DictEntry} {n : Nat} (F : Fun K "combined" "combined" sComb f fd) (KD : L2.KDict K w d es n) (gD : mg "KINDS" = some (.ref d)) (T : KitT K)
    (GP : FnOk P w K mg base CX0 3 fP fdP ["sign", "one", "other"] spPicked) (kP : PySem.W.keepIn K (.ref fP) = true) (bP : Binds K fdP ["sign", "one", "other"] []) (gP : mg "picked" = some (.ref fP))
    (UW : Use P w K mg base "worked" 1 fW fdW ["sign", "one", "other"] spWork)
    (GN : FnOk P w K mg base CX0 1 fN fdN ["value"] (spKind K)) (kN : PySem.W.keepIn K (.ref fN) = true) (bN : Binds K fdN ["value"] []) (gN : mg "kind_of" = some (.ref fN)) :
    FnOk P w K mg base CX0 4 f fd ["sign", "one", "other"] (spCombO K d) := by
  refine F.ok scCo (fun vs H Q E h => ?_) (fun cdv A outer s H vs Q E hr h => ?_)
  · obtain ⟨g, x, y, a, b, rfl, _⟩ := h
    rfl
  · obtain ⟨g, x, y, a, b, rfl, hg, mo, hx, hy, ha, hb, k⟩ := h
    have nd := scCo.nd
    refine ⟨_, pss_cut (ps_if (pt_cmpR (op_notIn_kd KD) (pv 0) (pe_gc (v := .ref d) (by rfl) ⟨_, gD, rfl⟩) (by rfl))
        (pss_one (ps_set (i := 3) nd rfl (.inl rfl) (pe_call GP hr (by rfl) gP kP bP .nil pass0 (pa_cons (pv 0) (pa_cons (pe_ix (r := rIxT K) (by exact ix_tup) (pv 1) pe_int (fun _ _ => rfl)) (pa_cons (pe_ix (r := rIxT K) (by exact ix_tup) (pv 2) pe_int (fun _ _ => rfl)) pa_nil))))))
        (pss_one (ps_if (PW.pt (pw_and (pt_cmpR op_eq (pe_ix (r := rIxT K) (by exact ix_tup) (pv 1) pe_int (fun _ _ => rfl)) (pe_ix (r := rIxT K) (by exact ix_tup) (pv 2) pe_int (fun _ _ => rfl)) (nomark _)) (pw_and1 (pt_cmpR op_in_seq (pe_ix (r := rIxT K) (by exact ix_tup) (pv 1) pe_int (fun _ _ => rfl)) (pe_ix (r := rIxD K w) (by exact ix_kdict) (pe_gc (v := .ref d) (by rfl) ⟨_, gD, rfl⟩) (pv 0) (fun _ _ => rfl)) (by rfl)))))
          (pss_one (ps_set (i := 3) nd rfl (.inl rfl) (pe_call UW.G (hr.mono (by omega)) (by rfl) UW.g UW.kp UW.b .nil pass0 (pa_cons (pv 0) (pa_cons (pe_ix (r := rIxT K) (by exact ix_tup) (pv 1) pe_int (fun _ _ => rfl)) (pa_cons (pe_ix (r := rIxT K) (by exact ix_tup) (pv 2) pe_int (fun _ _ => rfl)) pa_nil))))))
          (pss_one (ps_set (i := 3) nd rfl (.inl rfl) pe_non)))))
      (pss_one (ps_ret (pe_tup (pa_cons (pe_call GN (hr.mono (by omega)) (by rfl) gN kN bN .nil pass0 (pa_cons (pv 3) pa_nil)) (pa_cons (pv 3) pa_nil))))), ?_⟩
    have hz := op_val (g := g) hx hy
    refine ⟨fun σ H' => H' = H ∧ σ = [some (.str g), some (.ref a), some (.ref b), some (opF g x y)], ?_, ?_⟩
    rotate_left
    · generalize opF g x y = z at hz k ⊢
      rintro σ H' ⟨rfl, rfl⟩
      cases hz with
      | non => exact ⟨_, rfl, _, rfl, .inl ⟨rfl, _, rfl, (by show 2 ≤ sizeLine; decide), k⟩⟩
      | bl b => exact ⟨_, rfl, _, rfl, .inr ⟨_, _, _, cls_bl T b, _, rfl, (by show 2 ≤ sizeLine; decide), k⟩⟩
      | int i => exact ⟨_, rfl, _, rfl, .inr ⟨_, _, _, cls_int T i, _, rfl, (by show 2 ≤ sizeLine; decide), k⟩⟩
      | str z => exact ⟨_, rfl, _, rfl, .inr ⟨_, _, _, cls_str T z, _, rfl, (by show 2 ≤ sizeLine; decide), k⟩⟩
    rcases hg with ⟨ng, hg⟩ | ⟨mem, KK⟩
    · refine ⟨_, rfl, g, none, rfl, rfl, hg, _, rfl, ifT rfl ?_⟩
      refine ⟨_, rfl, _, rfl, a, _, 1, x, rfl, rfl, SqT.of ha, rfl, _, rfl, b, _, 1, y, rfl, rfl, SqT.of hb, rfl, g, x, y, rfl, hx, hy, rfl, ?_⟩
      unfold opF
      rw [if_neg ng]
      rfl
    · obtain ⟨aS, hS, tS⟩ := KK g mem
      refine ⟨_, rfl, g, _, rfl, rfl, hS, _, rfl, ifF rfl ?_⟩
      have eo : opF g x y = workF g x y := if_pos mem
      rw [eo]
      have kd : KDct K w d g (.ref aS) := ⟨_, _, _, KD.at_, KD.lit, hS, rfl⟩
      by_cases ek : kindV x = kindV y
      · refine ⟨_, rfl, a, _, 0, _, rfl, rfl, SqT.of ha, rfl, _, rfl, b, _, 0, _, rfl, rfl, SqT.of hb, rfl, rfl, _, rfl, ifT (decide_eq_true (by rw [ek])) ?_⟩
        refine ⟨_, rfl, a, _, 0, _, rfl, rfl, SqT.of ha, rfl, _, rfl, d, g, .ref aS, rfl, rfl, kd, aS, _, rfl, .inr (tS _), rfl, kinds_flat g, _, rfl, ?_⟩
        rcases kinds_fit mem hx hy ek with ⟨e1, fit⟩ | ⟨e1, e2⟩
        · refine ifT e1 ?_
          refine ⟨_, rfl, _, rfl, a, _, 1, _, rfl, rfl, SqT.of ha, rfl, _, rfl, b, _, 1, _, rfl, rfl, SqT.of hb, rfl, g, x, y, rfl, mem, fit, mo, ?_⟩
          exact ⟨rfl, rfl⟩
        · rw [e2]
          exact ifF e1 ⟨rfl, rfl⟩
      · refine ⟨_, rfl, a, _, 0, _, rfl, rfl, SqT.of ha, rfl, _, rfl, b, _, 0, _, rfl, rfl, SqT.of hb, rfl, rfl, _, rfl, ifF (decide_eq_false fun z => ek (V.str.inj z)) ?_⟩
        have e0 : workF g x y = .non := by
          cases x <;> cases y <;> first | rfl | exact absurd rfl ek
        rw [e0]
        exact ifF rfl ⟨rfl, rfl⟩
end
end R52
namespace FT
open PySem PySem.Spec PyProof.Rows L2 ND
open Classical
theorem below_nil {N : Nat} {ks : Nat → Nat} {b : Nat} {t u : Tr V} (ht : Wo N ks b t) (hu : Wo N ks b u) (z : belowT N (t, u) = []) : t = .leaf (lf t) ∧ u = .leaf (lf u) := by
  have lt : lvl N t ≤ N := wo_le ht
  have lu : lvl N u ≤ N := wo_le hu
  have ne : ∀ {x : Tr V}, Wo N ks b x → lvl N x < N → kids x ≠ [] := fun hx q => (wo_node hx q).2.2.2
  have both : ¬ lvl N t < N ∧ ¬ lvl N u < N := by
    unfold belowT at z
    split at z
    · rename_i c
      exact absurd (List.map_eq_nil_iff.mp z) (ne ht (Nat.lt_of_lt_of_le c lu))
    · split at z
      · rename_i c
        exact absurd (List.map_eq_nil_iff.mp z) (ne hu (Nat.lt_of_lt_of_le c lt))
      · rename_i c1 c2
        have c1' : ¬ lvl N t < lvl N u := c1
        have c2' : ¬ lvl N u < lvl N t := c2
        by_cases q : lvl N t < N
        · exfalso
          have q2 : lvl N u < N := by omega
          have k1 := ne ht q
          have k2 := ne hu q2
          have : ((kids t).zip (kids u)).length = 0 := by rw [show (kids t).zip (kids u) = [] from z]; rfl
          rw [List.length_zip] at this
          have p1 := List.length_pos_iff.mpr k1
          have p2 := List.length_pos_iff.mpr k2
          omega
        · exact ⟨q, by omega⟩
  exact ⟨wo_leaf ht both.1, wo_leaf hu both.2⟩
theorem mk_same {α : Type} {l : Nat} {ts : List (Tr α)} {t : Tr α} (h : t ∈ ts) (a : ∀ x ∈ ts, ∀ y ∈ ts, x = y) : mk l ts = t := by
  cases ts with
  | nil => exact nomatch h
  | cons u r =>
    unfold mk
    simp only
    rw [if_pos fun x hx => a x (List.mem_cons_of_mem _ hx) u List.mem_cons_self]
    exact a u List.mem_cons_self t h
theorem mk_node {α : Type} {l : Nat} {ts : List (Tr α)} (h : ¬ ∀ x ∈ ts, ∀ y ∈ ts, x = y) : mk l ts = .node l ts := by
  cases ts with
  | nil => rfl
  | cons u r =>
    unfold mk
    simp only
    rw [if_neg fun z => h fun x hx y hy => ?_]
    have e : ∀ x ∈ u :: r, x = u := fun x hx => (List.mem_cons.mp hx).elim id (z x)
    rw [e x hx, e y hy]
section
variable {N M : Nat} {ks : Nat → Nat} {f : V → V → V} {A B : FD} {F : List (Tr V)}
/-- all that holds at each turn -/
structure LI (N M : Nat) (ks : Nat → Nat) (f : V → V → V) (A B : FD) (F : List (Tr V)) (s : St (Nat × Nat) V) : Prop where
  ok : Ok (joinedI N f A B) F s
  stk : StkI N M A B s.waiting
  good : ∀ t ∈ s.ns, Wf N ks 0 t ∧ Lv Vl t
theorem val_good (hA : A.Okay N ks) (hB : B.Okay N ks) (hf : ∀ x y, Vl x → Vl y → Vl (f x y)) (p : Nat × Nat) : Wf N ks 0 ((joinedI N f A B).val p) ∧ Lv Vl ((joinedI N f A B).val p) :=
  ⟨(join_okO f _ (trP A B p) 0 (Nat.le_refl _) (hA.at_ p.1).1 (hB.at_ p.2).1).1, join_lv hf _ (trP A B p) 0 (Nat.le_refl _) (hA.at_ p.1).1 (hB.at_ p.2).1 (hA.at_ p.1).2 (hB.at_ p.2).2⟩
theorem LI.turn (hA : A.Okay N ks) (hB : B.Okay N ks) (hf : ∀ x y, Vl x → Vl y → Vl (f x y)) (few : ∀ p, (belowI N A B p).length ≤ M) {s : St (Nat × Nat) V} (h : LI N M ks f A B F s) : LI N M ks f A B F (FT.turn (joinedI N f A B) s) := by
  refine ⟨ok_turn h.ok, stkI_turn hA hB few h.stk, ?_⟩
  have hg := h.good
  obtain ⟨ns, done, w⟩ := s
  cases w with
  | nil => exact hg
  | cons p r =>
    show ∀ t ∈ (if missing (joinedI N f A B) done p = [] then (⟨fin ((joinedI N f A B).val p) ns, _, r⟩ : St (Nat × Nat) V) else ⟨ns, _, _⟩).ns, _
    split
    · exact fin_all (P := fun t => Wf N ks 0 t ∧ Lv Vl t) (val_good hA hB hf p) hg
    · exact hg
theorem LI.start {p : Nat × Nat} (h : p.1 < A.ts.length ∧ p.2 < B.ts.length) : LI N M ks f A B (enum ((joinedI N f A B).val p) []) ⟨[], [], [p]⟩ :=
  ⟨start_ok _ p, stkI_start h, fun _ z => nomatch z⟩
theorem fit_of {ns : List (Tr V)} {t : Tr V} (h : Wf N ks 0 t ∧ Lv Vl t) (sub : ∀ u ∈ kids t, u ∈ ns) : Fit N ns t := by
  cases t with
  | leaf v =>
    have := h.2
    rw [Lv] at this
    exact this
  | node l ts =>
    have := h.1
    rw [Wf] at this
    exact ⟨this.2.1, sub⟩
/-- how few pairs are below one -/
theorem below_few (hA : A.Okay N ks) (hB : B.Okay N ks) (hk : ∀ l, l < N → ks l ≤ M) (p : Nat × Nat) : (belowI N A B p).length ≤ M := by
  have a := hA.kd_len hk p.1
  have b := hB.kd_len hk p.2
  unfold belowI
  split
  · rw [List.length_map]; exact a
  · split
    · rw [List.length_map]; exact b
    · rw [List.length_zip]; omega
end
end FT
namespace FT
open PySem PySem.Spec PyProof.Rows L2 ND
open Classical
/-- those that are not done yet -/
noncomputable def left {β : Type} (done : List (Nat × Nat)) (bs : List (β × Nat × Nat)) : List (β × Nat × Nat) := bs.filter fun x => !decide (x.2 ∈ done)
theorem left_missing {β : Type} {W : Walked (Nat × Nat) V} {done : List (Nat × Nat)} {p : Nat × Nat} : ∀ {bs : List (β × Nat × Nat)}, bs.map (·.2) = W.below p → (left done bs).map (·.2) = missing W done p := by
  intro bs e
  unfold left missing
  rw [← e]
  clear e
  induction bs with
  | nil => rfl
  | cons x r ih =>
    rw [List.map_cons, List.filter_cons, List.filter_cons]
    by_cases h : x.2 ∈ done
    · rw [if_neg (by simp [h]), if_neg (by simp [h])]
      exact ih
    · rw [if_pos (by simp [h]), if_pos (by simp [h]), List.map_cons, ih]
theorem left_snoc {β : Type} {done : List (Nat × Nat)} {bs : List (β × Nat × Nat)} {j : Nat} {x : β × Nat × Nat} (h : bs[j]? = some x) : left done (bs.take (j + 1)) = if x.2 ∈ done then left done (bs.take j) else left done (bs.take j) ++ [x] := by
  unfold left
  rw [List.take_add_one, h, Option.toList_some, List.filter_append, List.filter_cons, List.filter_nil]
  by_cases q : x.2 ∈ done
  · rw [if_neg (by simp [q]), if_pos q, List.append_nil]
  · rw [if_pos (by simp [q]), if_neg q]
theorem left_nil {β : Type} {done : List (Nat × Nat)} {bs : List (β × Nat × Nat)} (h : left done bs = []) : ∀ x ∈ bs, x.2 ∈ done := by
  intro x hx
  have := List.filter_eq_nil_iff.mp h x hx
  simpa using this
end FT
namespace R52
open PySem L2 L3 FT ND
open C8 (pss_cut tCut pe_gc)
abbrev sJoin : Stmt := top 21
abbrev NJ : List Str := ["sign", "one", "other", "nodes", "levels", "numbers", "done", "waiting", "pair", "below", "missing", "under", "node", "lower"]
section
variable {P : Program} {w : World} {K : PySem.W.Frag} {mg : Str → Option Value} {base : Heap} {C : Addr} {nm : Nat → Str} {N : Nat}
theorem scJo : FnScope NJ ["sign", "one", "other"] (defScope sJoin) := ⟨rfl, rfl, rfl, by decide +kernel, rfl, by decide +kernel, by decide +kernel⟩
/-- two forms put together -/
def spJoin (C : Addr) (K : PySem.W.Frag) (d : Addr) (nm : Nat → Str) (N : Nat) : Sp := fun vs H Q _ => ∃ (g : Str) (A B : FD) (ks : Nat → Nat) (M : Nat) (x y : V), vs = [.str g, x, y] ∧ FormAt C nm N A H x ∧ FormAt C nm N B H y ∧ (SignOk K d g ∧ (g = sMul → ∀ i j, MulOk (lf (A.tr i)) (lf (B.tr j)))) ∧
  A.Okay N ks ∧ B.Okay N ks ∧ (∀ l, l < N → ks l ≤ M) ∧ M ≤ 1000 ∧ N ≤ 1000 ∧ A.ts.length * B.ts.length < sizeLine ∧ (∀ i j, i < N → j < N → nm i = nm j → i = j) ∧
  (enum ((joinedI N (opF g) A B).val (A.ts.length - 1, B.ts.length - 1)) []).length < sizeLine ∧
  ∀ (c : Closed (enum ((joinedI N (opF g) A B).val (A.ts.length - 1, B.ts.length - 1)) [])) (H' : Hp) (r : V), Same H H' → FormT C nm N (FD.of _ c) H' r → Q r H'
/-- what holds at each turn -/
def LoopAt (P : Program) (w : World) (nm : Nat → Str) (N M : Nat) (ks : Nat → Nat) (g : Str) (A B : FD) (x y : V) (H0 : Hp) (an al am ad aw : Addr) : Nat → L2.St → Hp → Prop := fun m σ H => ∃ (s : FT.St (Nat × Nat) V) (kvs : List (NestedKey × V)) (o8 o9 o10 o11 o12 o13 : Option V),
  σ = [some (.str g), some x, some y, some (.ref an), some (.ref al), some (.ref am), some (.ref ad), some (.ref aw), o8, o9, o10, o11, o12, o13] ∧ Turns (joinedI N (opF g) A B) m s ∧
  LI N M ks (opF g) A B (enum ((joinedI N (opF g) A B).val (A.ts.length - 1, B.ts.length - 1)) []) s ∧ DoneI (joinedI N (opF g) A B) A.ts.length B.ts.length s kvs ∧ JP P w nm N H0 an al am ad aw s.ns s.ns s.ns kvs s.waiting H
theorem none_of {H H' : Hp} {x : Addr} (s : Same H H') (e : H' x = none) : H x = none := by
  cases z : H x with
  | none => rfl
  | some o => rw [s _ _ z] at e; cases e
theorem loop_start {P : Program} {w : World} {nm : Nat → Str} {N M : Nat} {ks : Nat → Nat} {g : Str} {A B : FD} {x y : V} {H H6 : Hp} {an al am ad aw q0 : Addr} {o8 o9 o10 o11 o12 o13 : Option V} (hA : 0 < A.ts.length) (hB : 0 < B.ts.length) (s : Same H H6) (e1 : H6 an = some (.lst [])) (e2 : H6 al = some (.lst []))
    (e3 : NdAt P w H6 am []) (e4 : NdAt P w H6 ad []) (e5 : H6 aw = some (.lst [.ref q0])) (e6 : H6 q0 = some (.tup [.int (A.ts.length - 1 : Nat), .int (B.ts.length - 1 : Nat)])) :
    ∃ m, LoopAt P w nm N M ks g A B x y H an al am ad aw m [some (.str g), some x, some y, some (.ref an), some (.ref al), some (.ref am), some (.ref ad), some (.ref aw), o8, o9, o10, o11, o12, o13] H6 := by
  obtain ⟨m, t⟩ := ends (joinedI N (opF g) A B) (A.ts.length - 1, B.ts.length - 1)
  refine ⟨m, _, [], _, _, _, _, _, _, rfl, t, LI.start ⟨by show A.ts.length - 1 < _; omega, by show B.ts.length - 1 < _; omega⟩, doneI_start, s, ⟨[], e1, rfl, fun i v t h => by simp at h⟩, e2, e3, e4, [(q0, A.ts.length - 1, B.ts.length - 1)], rfl, e5, fun z hz => ?_⟩
  rw [List.mem_singleton.mp hz]
  exact e6
theorem ok_join {f fB fU fC fF d : Addr} {fd fdB fdU fdC fdF : FuncData} (F : Fun K "joined" "joined" sJoin f fd)
    (GB : FnOk P w K mg base CX0 2 fB fdB ["one", "other", "pair"] (spBelow C nm N)) (kB : PySem.W.keepIn K (.ref fB) = true) (bB : Binds K fdB ["one", "other", "pair"] []) (gB : mg "pairs_below" = some (.ref fB))
    (GU : FnOk P w K mg base CX0 1 fU fdU ["one", "other", "pair"] (spUp C nm N)) (kU : PySem.W.keepIn K (.ref fU) = true) (bU : Binds K fdU ["one", "other", "pair"] []) (gU : mg "upper_name" = some (.ref fU))
    (GC : FnOk P w K mg base CX0 4 fC fdC ["sign", "one", "other"] (spCombO K d)) (kC : PySem.W.keepIn K (.ref fC) = true) (bC : Binds K fdC ["sign", "one", "other"] []) (gC : mg "combined" = some (.ref fC))
    (MF : Mk K C fF) (GF : FnOk P w K mg base CX0 1 fF fdF ["self", "nodes", "levels"] (spFInit C)) (bF : Binds K fdF ["self", "nodes", "levels"] []) (gF : mg "Form" = some (.ref C))
    (TC : FormC K mg C) (zLen : mg "len" = none) (zTup : mg "tuple" = none) (zSet : mg "set" = none) (zMin : mg "min" = none) : FnOk P w K mg base CX0 5 f fd ["sign", "one", "other"] (spJoin C K d nm N) := by
  refine F.ok scJo (fun vs H Q E h => ?_) (fun cdv A outer s H vs Q E hr h => ?_)
  · obtain ⟨g, A, B, ks, M, x, y, rfl, _⟩ := h
    rfl
  · obtain ⟨g, A1, B1, ks, M, x, y, rfl, hx, hy, hg, hA, hB, hk, hM, hN, few, nmI, fewF, k⟩ := h
    have nd := scJo.nd
    have hR : Roomy (A.deeper (PyProof.Rows.envOfC ("joined" : Str) (defScope sJoin) s.heap.objs.size f cdv)) := by
      have := hr.un
      show _ < _
      omega
    refine ⟨_, (pss_cons (ps_set (i := 3) nd rfl (.inl rfl) (pe_lst pa_nil))
      (pss_cons (ps_set (i := 4) nd rfl (.inl rfl) (pe_lst pa_nil))
      (pss_cons (ps_set (i := 5) nd rfl (.inl rfl) pe_ndnew)
      (pss_cons (ps_set (i := 6) nd rfl (.inr rfl) pe_ndnew)
      (pss_cons (ps_set (i := 7) nd rfl (.inl rfl) (pe_lst (pa_cons (pe_tup (pa_cons (pe_op op_sub (pe_callB call_len_seq (by rfl) zLen PySem.boot_len (pa_cons (pe_fld (pv 1) rfl) pa_nil)) pe_int) (pa_cons (pe_op op_sub (pe_callB call_len_seq (by rfl) zLen PySem.boot_len (pa_cons (pe_fld (pv 2) rfl) pa_nil)) pe_int) pa_nil))) pa_nil)))
      (pss_cons (ps_while PassesOwn.never (pt_truth (pv 7) (by intro _; rfl)) (pss_cons (ps_set (i := 8) nd rfl (.inl rfl) (pe_ix (r := rIxL K) (by exact ix_list) (pv 7) (pe_un un_neg pe_int) (fun _ _ => rfl)))
      (pss_cons (ps_set (i := 9) nd rfl (.inl rfl) (pe_call GB (hr.mono (by omega)) (by rfl) gB kB bB .nil pass0 (pa_cons (pv 1) (pa_cons (pv 2) (pa_cons (pv 8) pa_nil)))))
      (pss_cons (ps_setLc (i := 10) (own := [("lower", 13)]) (g := gName 13) rfl nd rfl rfl (sw_true rfl rfl rfl (by decide +kernel)) (pi_list (pv 9)) (blkOk_by (N := NJ) (sc := defScope sJoin) (by decide +kernel)) (fun _ _ _ _ _ => pg_name (i := 13) nd rfl (.inl rfl)) (fun _ _ _ _ _ => pts_one (pt_cmp (pc_ndnotinW P w (by exact hR) (pv 13) (pv 6)))) (fun _ _ _ _ _ => pv 13))
      (pss_cons (ps_if (pt_truth (pv 10) (by intro _; rfl)) (pss_cons (ps_expr (pe_bm PySem.F.plainAttrs_list PySem.F.slot_list_extend PySem.F.type_list_extend mt_extend (pv 7) (pa_cons (pe_revL (pv 10)) pa_nil))) (pss_one ps_continue)) pss_nil)
      (pss_cons (ps_expr (pe_bm0 PySem.F.plainAttrs_list PySem.F.slot_list_pop PySem.F.type_list_pop mt_pop (pv 7)))
      (pss_cons (ps_set (i := 11) nd rfl (.inl rfl) (pe_callTy call_tuple_of (by rfl) zTup (by decide +kernel) (pa_cons (pe_lc (own := [("lower", 13)]) (g := gName 13) (tt := tYes) rfl nd (pi_list (pv 9)) (blkOk_by (N := NJ) (sc := defScope sJoin) (by decide +kernel)) (fun _ _ _ _ _ => pg_name (i := 13) nd rfl (.inl rfl)) (fun _ _ _ _ _ => pts_nil) (fun _ _ _ _ _ => pe_ndgetW P w (by exact hR) (pv 6) (pv 13) (fun _ _ => rfl))) pa_nil)))
      (pss_cut (ps_if (PW.pt (pw_and (pt_truth (pv 11) (by intro _; rfl)) (pw_and1 (pt_cmpR op_eq (pe_lenSetT (by rfl) zLen (by rfl) zSet (pv 11)) pe_int (nomark _))))) (pss_cons (ps_asg (pe_ix (r := rIxT K) (by exact ix_tup) (pv 11) pe_int (fun _ _ => rfl)) (pg_sub (pv 6) (pv 8) (set_nd (by exact hR)))) (pss_one ps_continue)) pss_nil)
      (pss_cons (ps_set (i := 12) nd rfl (.inl rfl) (pe_tup (pa_cons (pe_call GU (hr.mono (by omega)) (by rfl) gU kU bU .nil pass0 (pa_cons (pv 1) (pa_cons (pv 2) (pa_cons (pv 8) pa_nil)))) (pa_cons (pv 11) pa_nil))))
      (pss_cut (ps_if (pt_not (pt_truth (pv 11) (by intro _; rfl))) (pss_one (ps_set (i := 12) nd rfl (.inl rfl) (pe_call GC (hr.mono (by omega)) (by rfl) gC kC bC .nil pass0 (pa_cons (pv 0) (pa_cons (pe_ix (r := rIxQ K) (by exact ix_sq) (pe_fld (pv 1) rfl) (pe_ix (r := rIxT K) (by exact ix_tup) (pv 8) pe_int (fun _ _ => rfl)) (fun _ _ => rfl)) (pa_cons (pe_ix (r := rIxQ K) (by exact ix_sq) (pe_fld (pv 2) rfl) (pe_ix (r := rIxT K) (by exact ix_tup) (pv 8) pe_int (fun _ _ => rfl)) (fun _ _ => rfl)) pa_nil)))))) pss_nil)
      (pss_cut (ps_if (pt_cmp (pc_ndnotinW P w (by exact hR) (pv 12) (pv 5))) (pss_cons (ps_asg (pe_callB call_len_seq (by rfl) zLen PySem.boot_len (pa_cons (pv 3) pa_nil)) (pg_sub (pv 5) (pv 12) (set_nd (by exact hR)))) (pss_cons (ps_expr (pe_bm PySem.F.plainAttrs_list PySem.F.slot_list_append PySem.F.type_list_append mt_append (pv 3) (pa_cons (pv 12) pa_nil))) (pss_one (ps_expr (pe_bm PySem.F.plainAttrs_list PySem.F.slot_list_append PySem.F.type_list_append mt_append (pv 4) (pa_cons (pe_callB (call_min2 rfl) (by rfl) zMin PyProof.Rows.boot_min (pa_cons (pe_ix (r := rIxQ K) (by exact ix_sq) (pe_fld (pv 1) rfl) (pe_ix (r := rIxT K) (by exact ix_tup) (pv 8) pe_int (fun _ _ => rfl)) (fun _ _ => rfl)) (pa_cons (pe_ix (r := rIxQ K) (by exact ix_sq) (pe_fld (pv 2) rfl) (pe_ix (r := rIxT K) (by exact ix_tup) (pv 8) pe_int (fun _ _ => rfl)) (fun _ _ => rfl)) pa_nil))) pa_nil)))))) pss_nil)
      (pss_one (ps_asg (pe_ndgetW P w (by exact hR) (pv 5) (pv 12) (fun _ _ => rfl)) (pg_sub (pv 6) (pv 8) (set_nd (by exact hR))))))))))))))))
      (pss_one (ps_ret (pe_make MF GF (hr.mono (by omega)) (by rfl) gF bF .nil pass0 (pa_cons (pe_callTy call_tuple_of (by rfl) zTup (by decide +kernel) (pa_cons (pv 3) pa_nil)) (pa_cons (pe_callTy call_tuple_of (by rfl) zTup (by decide +kernel) (pa_cons (pv 4) pa_nil)) pa_nil))))))))))), ?_⟩
    obtain ⟨a, dx, tn, tl, rfl, ha, fa⟩ := hx
    obtain ⟨b, dy, un, ul, rfl, hb, fb⟩ := hy
    have lsz := sizeLine_eq
    obtain ⟨vn, sn, ln, _⟩ := id fa.tn
    obtain ⟨wn, tn', lm, _⟩ := id fb.tn
    have hW : ∃ W, W = joinedI N (opF g) A1 B1 := ⟨_, rfl⟩
    obtain ⟨W, eW⟩ := hW
    have hf : ∀ x y, Vl x → Vl y → Vl (opF g x y) := fun x y hx hy => op_vl hx hy
    have fewB : ∀ p, (belowI N A1 B1 p).length ≤ M := below_few hA hB hk
    refine ⟨(by show 0 ≤ sizeLine; decide), fun an han => ⟨(by show 0 ≤ sizeLine; decide), fun al hal => fun am om ham ndm => fun ad od had ndd => ?_⟩⟩
    replace ndm : NdAt P w _ am [] := ndm
    replace ndd : NdAt P w _ ad [] := ndd
    have s1 := same_new (o := HO.lst []) han
    have u1 : upd H an (.lst []) an = some (.lst []) := upd_same
    generalize upd H an (.lst []) = H1 at hal ham had ndm ndd s1 u1 ⊢
    have s2 := same_new (o := HO.lst []) hal
    have u2 : upd H1 al (.lst []) al = some (.lst []) := upd_same
    generalize upd H1 al (.lst []) = H2 at ham had ndm ndd s2 u2 ⊢
    have s3 := same_new (o := om) ham
    have u3 : upd H2 am om am = some om := upd_same
    generalize upd H2 am om = H3 at had ndm ndd s3 u3 ⊢
    have s4 := same_new (o := od) had
    have u4 : upd H3 ad od ad = some od := upd_same
    generalize upd H3 ad od = H4 at ndd s4 u4 ⊢
    have t4 : Same H H4 := fun x o e => s4 _ _ (s3 _ _ (s2 _ _ (s1 _ _ e)))
    refine ⟨_, rfl, a, C, dx, _, _, rfl, t4 _ _ ha, TC.cl, TC.nN, lk_nodes, tn, vn, rfl, seq_len (sn.same t4), _, _, rfl, rfl, ?_⟩
    refine ⟨_, rfl, b, C, dy, _, _, rfl, t4 _ _ hb, TC.cl, TC.nN, lk_nodes, un, wn, rfl, seq_len (tn'.same t4), _, _, rfl, rfl, (by show 2 ≤ sizeLine; decide), fun q0 hq0 => ⟨(by show 1 ≤ sizeLine; decide), fun aw haw => ?_⟩⟩
    have pA : 0 < A1.ts.length := List.length_pos_iff.mpr hA.ne
    have pB : 0 < B1.ts.length := List.length_pos_iff.mpr hB.ne
    have i1 : ((vn.length : Int) - 1) = ((A1.ts.length - 1 : Nat) : Int) := by rw [ln]; omega
    have i2 : ((wn.length : Int) - 1) = ((B1.ts.length - 1 : Nat) : Int) := by rw [lm]; omega
    have hn : H an = none := han
    have hl : H al = none := none_of s1 hal
    have hm : H am = none := none_of (fun x o e => s2 _ _ (s1 _ _ e)) ham
    have hd : H ad = none := none_of (fun x o e => s3 _ _ (s2 _ _ (s1 _ _ e))) had
    have haw' : upd H4 q0 (.tup [.int ((vn.length : Int) - 1), .int ((wn.length : Int) - 1)]) aw = none := haw
    have s5 := same_new (o := HO.tup [.int ((vn.length : Int) - 1), .int ((wn.length : Int) - 1)]) hq0
    have s6 := same_new (o := HO.lst [V.ref q0]) haw'
    have x1 : H4 an = some (.lst []) := s4 _ _ (s3 _ _ (s2 _ _ u1))
    have x2 : H4 al = some (.lst []) := s4 _ _ (s3 _ _ u2)
    have x3 : H4 am = some om := s4 _ _ u3
    have hw5 : H aw = none := none_of (fun x o e => s5 _ _ (t4 _ _ e)) haw'
    have w4 : H4 aw = none := none_of s5 haw'
    have fr : Fr H an al am ad aw := ⟨hn, hl, hm, hd, hw5, ne_of_none u1 hal, ne_of_none (s2 _ _ u1) ham, ne_of_none (s3 _ _ (s2 _ _ u1)) had, ne_of_none x1 w4, ne_of_none u2 ham, ne_of_none (s3 _ _ u2) had, ne_of_none x2 w4, ne_of_none u3 had, ne_of_none x3 w4, ne_of_none u4 w4⟩
    have ndm4 : NdAt P w H4 am [] := ndm.same (KT.of s4) (at_same s4 u3)
    have t6 : Same H4 (upd (upd H4 q0 (.tup [.int ((vn.length : Int) - 1), .int ((wn.length : Int) - 1)])) aw (.lst [V.ref q0])) := fun x o e => s6 _ _ (s5 _ _ e)
    refine ⟨LoopAt P w nm N M ks g A1 B1 (.ref a) (.ref b) H an al am ad aw, loop_start pA pB (fun x o e => t6 _ _ (t4 _ _ e)) (t6 _ _ x1) (t6 _ _ x2) (ndm4.same (KT.of t6) (at_same t6 x3)) (ndd.same (KT.of t6) (at_same t6 u4)) upd_same (by
      show upd (upd H4 q0 (.tup [.int ((vn.length : Int) - 1), .int ((wn.length : Int) - 1)])) aw (.lst [V.ref q0]) q0 = _
      rw [s6 _ _ upd_same, i1, i2]), ?_⟩
    clear t6 ndm4 x1 x2 x3 s6 s5 haw' hw5 w4 hn hl hm hd t4 u4 u3 u2 u1 ndd ndm haw hq0 had ham hal
    rintro m σ H5 ⟨s5, kvs, o8, o9, o10, o11, o12, o13, rfl, tu, li, dn, jp⟩
    obtain ⟨ns, done, ps⟩ := s5
    obtain ⟨bs, eb, ew, hp⟩ := jp.stk
    have ha5 := jp.same _ _ ha
    have hb5 := jp.same _ _ hb
    refine ⟨_, rfl, _, .inl ⟨_, SqL.of ew, rfl⟩, ?_⟩
    cases ps with
    | nil =>
      have z : bs = [] := List.map_eq_nil_iff.mp eb
      subst z
      refine ifF rfl ?_
      have eF : ns = _ := ok_end li.ok
      have cl : Closed ns := li.ok.closed
      obtain ⟨vs, q1, q2, q3⟩ := jp.nodes
      refine ⟨_, rfl, an, vs, rfl, .inl ⟨SqL.of q1, fun t1 ht1 => ?_⟩⟩
      have y1 := same_new (o := HO.tup vs) ht1
      have v1 : upd H5 t1 (.tup vs) t1 = some (.tup vs) := upd_same
      generalize upd H5 t1 (.tup vs) = H6 at y1 v1 ⊢
      refine ⟨_, rfl, al, _, rfl, .inl ⟨SqL.of (y1 _ _ jp.levels), fun t2 ht2 => ?_⟩⟩
      have y2 := same_new (o := HO.tup (ns.map fun t => V.int (lvl N t : Nat))) ht2
      have v2 : upd H6 t2 (.tup (ns.map fun t => V.int (lvl N t : Nat))) t2 = some (.tup (ns.map fun t => V.int (lvl N t : Nat))) := upd_same
      refine fun p dp hp hdp hne => ⟨p, dp, t1, t2, rfl, upd_same, rfl, ?_⟩
      replace hp : upd H6 t2 (.tup (ns.map fun t => V.int (lvl N t : Nat))) p = none := hp
      replace hdp : upd H6 t2 (.tup (ns.map fun t => V.int (lvl N t : Nat))) dp = none := hdp
      show Q (.ref p) (upd (upd (upd (upd (upd H6 t2 (.tup (ns.map fun t => V.int (lvl N t : Nat)))) dp (.own p)) p (.ins C dp [])) p (.ins C dp (putF "nodes" (.ref t1) []))) p (.ins C dp (ffl t1 t2)))
      generalize upd H6 t2 (.tup (ns.map fun t => V.int (lvl N t : Nat))) = H7 at y2 v2 hp hdp ⊢
      have all : ∀ x o, H7 x = some o → upd (upd (upd (upd H7 dp (.own p)) p (.ins C dp [])) p (.ins C dp (putF "nodes" (.ref t1) []))) p (.ins C dp (ffl t1 t2)) x = some o := fun x o e => by
        have n1 := ne_of_none e hp
        have n2 := ne_of_none e hdp
        rw [upd_ne n1, upd_ne n1, upd_ne n1, upd_ne n2]
        exact e
      have y3 : Same H5 H7 := fun x o e => y2 _ _ (y1 _ _ e)
      refine k (by rw [← eF]; exact cl) _ _ (fun x o e => all _ _ (y3 _ _ (jp.same _ _ e))) ⟨p, dp, t1, t2, rfl, upd_same, ⟨⟨vs, .inr (all _ _ (y2 _ _ v1)), ?_, fun i v hv => ?_⟩, ?_⟩, vs, all _ _ (y2 _ _ v1)⟩
      · show vs.length = (enum _ []).length
        rw [← eF]
        exact q2
      · have hi : i < ns.length := by
          rw [← q2]
          exact (List.getElem?_eq_some_iff.mp hv).1
        have hk : ns[i]? = some (ns.getD i lf0) := by
          rw [List.getD_eq_getElem?_getD, List.getElem?_eq_getElem hi]
          rfl
        have := (q3 i v _ hv hk).same (H' := H7) y3
        unfold FD.of FD.tr
        simp only
        rw [← eF]
        exact this.same all
      · refine .inr (all _ _ ?_)
        show H7 t2 = some (.tup ((enum _ []).map _))
        rw [← eF]
        exact v2
    | cons p r =>
      obtain ⟨bx, br, rfl, rfl, ebr⟩ : ∃ bx br, bs = bx :: br ∧ bx.2 = p ∧ br.map (·.2) = r := by
        cases bs with
        | nil => cases eb
        | cons bx br => 
          rw [List.map_cons] at eb
          injection eb with z1 z2
          exact ⟨bx, br, rfl, z1, z2⟩
      subst ebr
      obtain ⟨q, i, j⟩ := bx
      refine ifT (by
        unfold refsOf
        rw [List.map_cons, List.reverse_cons]
        cases (br.map fun x => V.ref x.1).reverse <;> rfl) ?_
      have ew' : H5 aw = some (.lst ((refsOf br).reverse ++ [V.ref q])) := by
        rw [ew]
        unfold refsOf
        rw [List.map_cons, List.reverse_cons]
      cases tu with
      | @more m' _ _ tu =>
      replace tu : Turns (joinedI N (opF g) A1 B1) m' (FT.turn (joinedI N (opF g) A1 B1) ⟨ns, done, (i, j) :: br.map (·.2)⟩) := tu
      replace li : LI N M ks (opF g) A1 B1 _ ⟨ns, done, (i, j) :: br.map (·.2)⟩ := li
      replace dn : DoneI (joinedI N (opF g) A1 B1) A1.ts.length B1.ts.length ⟨ns, done, (i, j) :: br.map (·.2)⟩ kvs := dn
      refine ⟨LoopAt P w nm N M ks g A1 B1 (.ref a) (.ref b) H an al am ad aw m', fun σ' H' z => ⟨m', Nat.lt_succ_self _, z⟩, ?_⟩
      have hq := hp _ List.mem_cons_self
      have rg := li.stk.mem _ List.mem_cons_self
      have FA : FormAt C nm N A1 H (.ref a) := ⟨a, dx, tn, tl, rfl, ha, fa⟩
      have FB : FormAt C nm N B1 H (.ref b) := ⟨b, dy, un, ul, rfl, hb, fb⟩
      have kA : (A1.kd i).length ≤ 1000 := Nat.le_trans (hA.kd_len hk i) hM
      have kB' : (B1.kd j).length ≤ 1000 := Nat.le_trans (hB.kd_len hk j) hM
      refine ⟨_, rfl, 1, rfl, aw, _, -1, .ref q, rfl, rfl, SqL.of ew', atI_last _ _, ?_⟩
      refine ⟨_, rfl, _, rfl, _, rfl, A1, B1, ks, .ref a, .ref b, q, i, j, rfl, FA.same jp.same, FB.same jp.same, hq, rg.1, rg.2, kA, kB', hA, hB, fun D H6 pr => ?_⟩
      obtain ⟨bl, el, eD, pl⟩ := pr.prs
      have jp6 := jp.keep pr.st
      have hq6 := pr.st _ _ hq
      have lbl : bl.length ≤ 1000 := by
        rw [← List.length_map (f := (·.2)), el]
        exact Nat.le_trans (fewB _) hM
      refine ⟨_, rfl, D, rfl, ⟨_, SqL.of eD⟩, fun Dm hDm => ?_⟩
      refine lc_it (walk_list (K := K) (a := D) (xs := refsOf bl)) (fun j' H' => Same H6 H' ∧ H' Dm = some (.lst (refsOf (left done (bl.take j'))))) ⟨same_new hDm, upd_same⟩ (fun j' H' _ h => SqL.of (h.1 _ _ eD)) ?_ ?_
      · rintro j' z H7 H8 hj' ⟨sm, eDm⟩ ⟨rfl, hz⟩
        unfold refsOf at hj' hz
        rw [List.length_map] at hj'
        rw [List.getElem?_map, List.getElem?_eq_getElem hj'] at hz
        cases hz
        have hbl := List.getElem?_eq_getElem hj'
        have mb := List.getElem_mem hj'
        have sn := left_snoc (done := done) hbl
        refine ⟨rfl, _, rfl, _, rfl, pairK bl[j'].2.1 bl[j'].2.2, kvs, ⟨ad, bl[j'].1, rfl, rfl, (jp6.keep sm).dn, pair_key (sm _ _ (pl _ mb)), pair_depth _ _⟩, _, rfl, ?_⟩
        have vv := dn.val bl[j'].2.1 bl[j'].2.2
        by_cases qd : bl[j'].2 ∈ done
        · rw [if_pos qd] at vv sn
          rw [vv]
          refine ifF rfl ⟨sm, ?_⟩
          rw [sn]
          exact eDm
        · rw [if_neg qd] at vv sn
          rw [vv]
          refine ifT rfl ⟨_, rfl, _, eDm, ?_, fun x o e => ?_, ?_⟩
          · unfold refsOf left
            rw [List.length_map]
            have := List.length_filter_le (fun x : Addr × Nat × Nat => !decide (x.2 ∈ done)) (bl.take j')
            rw [List.length_take] at this
            omega
          · rw [upd_ne (ne_of_none e hDm)]
            exact sm _ _ e
          · rw [upd_same, sn]
            unfold refsOf
            rw [List.map_append]
            rfl
      rintro H7 ⟨sm, eDm⟩
      have tk : bl.take (refsOf bl).length = bl := by
        unfold refsOf
        rw [List.length_map, List.take_length]
      rw [tk] at eDm
      have jp7 := jp6.keep sm
      have hq7 := sm _ _ hq6
      have pl7 := pl.kt (KT.of sm)
      have elm : (left done bl).map (·.2) = missing (joinedI N (opF g) A1 B1) done (i, j) := left_missing el
      refine ⟨_, rfl, _, .inl ⟨_, SqL.of eDm, rfl⟩, ?_⟩
      by_cases em : left done bl = []
      · refine ifF (by rw [em]; rfl) ?_
        have ew7 : H7 aw = some (.lst ((refsOf br).reverse ++ [V.ref q])) := sm _ _ (pr.st _ _ ew')
        have elm' : missing (joinedI N (opF g) A1 B1) done (i, j) = [] := by rw [← elm, em]; rfl
        have et : FT.turn (joinedI N (opF g) A1 B1) ⟨ns, done, (i, j) :: br.map (·.2)⟩ = ⟨fin ((joinedI N (opF g) A1 B1).val (i, j)) ns, (i, j) :: done, br.map (·.2)⟩ := if_pos elm'
        have alld := left_nil em
        have li' := li.turn hA hB hf fewB
        rw [et] at tu li'
        refine ⟨_, rfl, .inl ⟨rfl, _, SqL.of ew7⟩, aw, _, .ref q, rfl, rfl, ew7, by rw [List.length_append, List.length_singleton, Nat.add_sub_cancel, List.getElem?_append_right (Nat.le_refl _), Nat.sub_self]; rfl, ?_⟩
        have jp8 : JP P w nm N H an al am ad aw ns ns ns kvs (br.map (·.2)) (upd H7 aw (.lst ((refsOf br).reverse ++ [V.ref q]).dropLast)) := jp7.setW fr ⟨br, rfl, by rw [upd_same, List.dropLast_concat], (show PrsOk H7 br from fun x hx => sm _ _ (pr.st _ _ (hp x (List.mem_cons_of_mem _ hx)))).kt (kt_upd fun vs z => by rw [ew7] at z; cases z)⟩
        have kt8 : KT H7 (upd H7 aw (.lst ((refsOf br).reverse ++ [V.ref q]).dropLast)) := kt_upd fun vs z => by rw [ew7] at z; cases z
        have eD8 : upd H7 aw (.lst ((refsOf br).reverse ++ [V.ref q]).dropLast) D = some (.lst (refsOf bl)) := by
          rw [upd_ne (Ne.symm (ne_of_none ew' pr.new))]
          exact sm _ _ eD
        generalize upd H7 aw (.lst ((refsOf br).reverse ++ [V.ref q]).dropLast) = H8 at jp8 kt8 eD8 ⊢
        have hq8 := kt8 _ _ hq7
        have pl8 := pl7.kt kt8
        have inN : ∀ x ∈ bl, (joinedI N (opF g) A1 B1).val x.2 ∈ ns := fun x hx => li.ok.there _ (alld x hx)
        refine ⟨_, rfl, D, rfl, ⟨_, SqL.of eD8⟩, fun Du hDu => ?_⟩
        refine lc_it (walk_list (K := K) (a := D) (xs := refsOf bl)) (fun j' H' => Same H8 H' ∧ H' Du = some (.lst ((bl.take j').map fun x => V.int (ix ns ((joinedI N (opF g) A1 B1).val x.2) : Nat)))) ⟨same_new hDu, upd_same⟩ (fun j' H' _ h => SqL.of (h.1 _ _ eD8)) ?_ ?_
        · rintro j' z H9 H9' hj' ⟨sm, eDu⟩ ⟨rfl, hz⟩
          unfold refsOf at hj' hz
          rw [List.length_map] at hj'
          rw [List.getElem?_map, List.getElem?_eq_getElem hj'] at hz
          cases hz
          have hbl := List.getElem?_eq_getElem hj'
          have mb := List.getElem_mem hj'
          have vv := dn.val bl[j'].2.1 bl[j'].2.2
          rw [if_pos (alld _ mb)] at vv
          refine ⟨rfl, _, rfl, _, rfl, pairK bl[j'].2.1 bl[j'].2.2, kvs, _, ⟨ad, bl[j'].1, rfl, rfl, (jp8.keep sm).dn, pair_key (sm _ _ (pl8 _ mb)), pair_depth _ _⟩, vv, _, eDu, ?_, fun x o e => ?_, ?_⟩
          · rw [List.length_map, List.length_take]
            omega
          · rw [upd_ne (ne_of_none e hDu)]
            exact sm _ _ e
          · rw [upd_same, List.take_add_one, hbl, List.map_append]
            rfl
        rintro H9 ⟨sm9, eDu⟩
        have tk9 : bl.take (refsOf bl).length = bl := tk
        rw [tk9] at eDu
        obtain ⟨is, his⟩ : ∃ is, is = (belowI N A1 B1 (i, j)).map fun p => ix ns ((joinedI N (opF g) A1 B1).val p) := ⟨_, rfl⟩
        have eU : (bl.map fun x => V.int (ix ns ((joinedI N (opF g) A1 B1).val x.2) : Nat)) = is.map fun k : Nat => V.int (k : Nat) := by
          rw [his, ← el, List.map_map, List.map_map]
          rfl
        rw [eU] at eDu
        have lis : is.length ≤ 1000 := by
          rw [his, List.length_map]
          exact Nat.le_trans (fewB _) hM
        have jp9 := jp8.keep sm9
        refine ⟨Du, _, rfl, .inl ⟨SqL.of eDu, fun u hu => ?_⟩⟩
        have s10 := same_new (o := HO.tup (is.map fun k : Nat => V.int (k : Nat))) hu
        have u10 : upd H9 u (.tup (is.map fun k : Nat => V.int (k : Nat))) u = some (.tup (is.map fun k : Nat => V.int (k : Nat))) := upd_same
        generalize upd H9 u (.tup (is.map fun k : Nat => V.int (k : Nat))) = H10 at s10 u10 ⊢
        have jp10 := jp9.keep s10
        have hq10 := s10 _ _ (sm9 _ _ hq8)
        have dlen : kvs.length < sizeLine := Nat.lt_of_le_of_lt dn.len few
        obtain ⟨tv, etv⟩ : ∃ tv, tv = (joinedI N (opF g) A1 B1).val (i, j) := ⟨_, rfl⟩
        have good : Wf N ks 0 tv ∧ Lv Vl tv := by rw [etv]; exact val_good (f := opF g) hA hB hf (i, j)
        have hnode : belowI N A1 B1 (i, j) ≠ [] → tv = mk (min (lvl N (A1.tr i)) (lvl N (B1.tr j))) ((belowI N A1 B1 (i, j)).map (joinedI N (opF g) A1 B1).val) := fun z => by rw [etv]; exact (joinedI N (opF g) A1 B1).node (i, j) z
        have tsN : ∀ x ∈ (belowI N A1 B1 (i, j)).map (joinedI N (opF g) A1 B1).val, x ∈ ns := fun x hx => by
          rw [← el, List.map_map] at hx
          obtain ⟨y, hy, rfl⟩ := List.mem_map.mp hx
          exact inN y hy
        have isix : is = ((belowI N A1 B1 (i, j)).map (joinedI N (opF g) A1 B1).val).map (ix ns) := by rw [his, List.map_map]; rfl
        rw [← etv] at tu li'
        refine ⟨fun σ' H' => σ' = [some (.str g), some (.ref a), some (.ref b), some (.ref an), some (.ref al), some (.ref am), some (.ref ad), some (.ref aw), some (.ref q), some (.ref D), some (.ref Dm), some (.ref u), o12, o13] ∧ H' = H10 ∧ (is = [] ∨ ¬ ∀ x ∈ is, ∀ y ∈ is, x = y), ?_, ?_⟩
        · refine ⟨_, rfl, _, .inr (.inl ⟨_, SqT.of u10, rfl⟩), ?_⟩
          by_cases nis : is = []
          · subst nis
            exact ifF rfl (ifF rfl ⟨rfl, rfl, .inl rfl⟩)
          · refine ifT (by cases z : is with
              | nil => exact absurd z nis
              | cons x r => rfl) ?_
            have eI : (is.map fun k : Nat => V.int (k : Nat)) = (is.map fun k : Nat => (k : Int)).map V.int := by rw [List.map_map]; rfl
            refine ⟨_, rfl, u, is.map fun k : Nat => (k : Int), rfl, SqT.of (by rw [← eI]; exact u10), by rw [List.length_map]; exact lis, fun zs nz mz => ?_⟩
            refine ⟨rfl, _, rfl, ?_⟩
            have one := one_int nz mz (fun z => nis (List.map_eq_nil_iff.mp z))
            by_cases al1 : ∀ x ∈ is, ∀ y ∈ is, x = y
            · have l1 : zs.length = 1 := one.mpr fun x hx y hy => by
                obtain ⟨x', hx', rfl⟩ := List.mem_map.mp hx
                obtain ⟨y', hy', rfl⟩ := List.mem_map.mp hy
                rw [al1 x' hx' y' hy']
              refine ifT (by rw [l1]; rfl) ?_
              have nb : belowI N A1 B1 (i, j) ≠ [] := fun z => nis (by rw [his, z]; rfl)
              have al2 : ∀ x ∈ (belowI N A1 B1 (i, j)).map (joinedI N (opF g) A1 B1).val, ∀ y ∈ (belowI N A1 B1 (i, j)).map (joinedI N (opF g) A1 B1).val, x = y := fun x hx y hy => ix_inj (tsN x hx) (tsN y hy) (al1 _ (by rw [isix]; exact List.mem_map_of_mem hx) _ (by rw [isix]; exact List.mem_map_of_mem hy))
              obtain ⟨t0, tr0, e0⟩ : ∃ t0 tr0, (belowI N A1 B1 (i, j)).map (joinedI N (opF g) A1 B1).val = t0 :: tr0 := by
                cases z : (belowI N A1 B1 (i, j)).map (joinedI N (opF g) A1 B1).val with
                | nil => exact absurd (List.map_eq_nil_iff.mp z) nb
                | cons x r => exact ⟨x, r, rfl⟩
              have et0 : tv = t0 := by
                rw [hnode nb]
                exact mk_same (by rw [e0]; exact List.mem_cons_self) al2
              have mt : tv ∈ ns := by rw [et0]; exact tsN t0 (by rw [e0]; exact List.mem_cons_self)
              have ei0 : (is.map fun k : Nat => V.int (k : Nat))[0]? = some (.int (ix ns tv : Nat)) := by
                rw [isix, e0, et0]
                rfl
              have fz : fin tv ns = ns := fin_of mt
              refine ⟨_, rfl, u, _, 0, _, rfl, rfl, SqT.of u10, atI_nat (j := 0) ei0, _, rfl, _, rfl, ad, pairK i j, kvs, rfl, ⟨ad, q, rfl, rfl, jp10.dn, pair_key hq10, pair_depth _ _⟩, dlen, fun o nd' ne => ?_⟩
              have dn' := doneI_put li.ok dn rg
              rw [← etv, fz] at dn'
              rw [fz] at tu li'
              exact ⟨_, _, _, _, _, _, _, _, rfl, tu, li', dn', jp10.setD fr nd'⟩
            · have l1 : ¬ zs.length = 1 := fun z => al1 fun x hx y hy => by
                have := one.mp z x (List.mem_map_of_mem hx) y (List.mem_map_of_mem hy)
                omega
              exact ifF (decide_eq_false fun z => l1 (by have := V.int.inj z; omega)) ⟨rfl, rfl, .inr al1⟩
        rintro σ' H' ⟨rfl, rfl, na⟩
        refine ⟨_, rfl, _, rfl, _, rfl, A1, B1, .ref a, .ref b, q, i, j, rfl, FA.same jp10.same, FB.same jp10.same, hq10, rg.1, rg.2, _, rfl, (by show 2 ≤ sizeLine; decide), fun c hc => ?_⟩
        have s11 := same_new (o := HO.tup [V.str (if lvl N (A1.tr i) ≤ lvl N (B1.tr j) then headS nm (A1.tr i) else headS nm (B1.tr j)), V.ref u]) hc
        have c11 : upd H' c (.tup [V.str (if lvl N (A1.tr i) ≤ lvl N (B1.tr j) then headS nm (A1.tr i) else headS nm (B1.tr j)), V.ref u]) c = some (.tup [V.str (if lvl N (A1.tr i) ≤ lvl N (B1.tr j) then headS nm (A1.tr i) else headS nm (B1.tr j)), V.ref u]) := upd_same
        generalize upd H' c (.tup [V.str (if lvl N (A1.tr i) ≤ lvl N (B1.tr j) then headS nm (A1.tr i) else headS nm (B1.tr j)), V.ref u]) = H11 at s11 c11 ⊢
        have jp11 := jp10.keep s11
        have hq11 := s11 _ _ hq10
        have u11 := s11 _ _ u10
        refine ⟨fun σ' H' => ∃ c, σ' = [some (.str g), some (.ref a), some (.ref b), some (.ref an), some (.ref al), some (.ref am), some (.ref ad), some (.ref aw), some (.ref q), some (.ref D), some (.ref Dm), some (.ref u), some (.ref c), o13] ∧ JP P w nm N H an al am ad aw ns ns ns kvs (br.map (·.2)) H' ∧ H' q = some (.tup [.int (i : Nat), .int (j : Nat)]) ∧ (∀ x ∈ kids tv, x ∈ ns) ∧ lvl N tv = min (lvl N (A1.tr i)) (lvl N (B1.tr j)) ∧ NodeI nm H' tv ((kids tv).map (ix ns)) (.ref c), ?_, ?_⟩
        · refine ⟨_, rfl, _, .inr (.inl ⟨_, SqT.of u11, rfl⟩), ?_⟩
          have wa := (hA.at_ i).1
          have wb := (hB.at_ j).1
          by_cases nis : is = []
          · subst nis
            refine ifT rfl ?_
            have zb : belowI N A1 B1 (i, j) = [] := List.map_eq_nil_iff.mp his.symm
            have zt : belowT N (A1.tr i, B1.tr j) = [] := by
              have := belowI_map N A1 B1 (i, j)
              rw [zb] at this
              exact this.symm
            obtain ⟨la, lb⟩ := below_nil wa wb zt
            obtain ⟨n1, v1, q1, r1, nv1⟩ := node_at (fa.same jp11.same) rg.1
            obtain ⟨n2, v2, q2, r2, nv2⟩ := node_at (fb.same jp11.same) rg.2
            rw [la] at nv1
            rw [lb] at nv2
            obtain ⟨g1, a1, rfl, h1⟩ := nv1
            obtain ⟨g2, a2, rfl, h2⟩ := nv2
            have ev : tv = .leaf (opF g (lf (A1.tr i)) (lf (B1.tr j))) := by
              rw [etv]
              show joinT N (opF g) (A1.tr i, B1.tr j) = _
              rw [joinT_eq, if_pos zt]
            refine ⟨_, rfl, _, rfl, a, C, dx, _, _, rfl, jp11.same _ _ ha, TC.cl, TC.nN, lk_nodes, _, rfl, q, _, 0, _, rfl, rfl, SqT.of hq11, rfl, ixq q1 r1 ?_⟩
            refine ⟨_, rfl, b, C, dy, _, _, rfl, jp11.same _ _ hb, TC.cl, TC.nN, lk_nodes, _, rfl, q, _, 1, _, rfl, rfl, SqT.of hq11, rfl, ixq q2 r2 ?_⟩
            refine ⟨g, _, _, a1, a2, rfl, hg.1, (fun e => hg.2 e i j), Val.of g1, Val.of g2, h1, h2, fun c2 hc2 => ?_⟩
            have s12 := same_new (o := HO.tup [.str (kindV (opF g (lf (A1.tr i)) (lf (B1.tr j)))), opF g (lf (A1.tr i)) (lf (B1.tr j))]) hc2
            refine ⟨c2, rfl, jp11.keep s12, s12 _ _ hq11, (by rw [ev]; exact fun x hx => (nomatch hx)), (by rw [ev, la, lb]; exact (Nat.min_self N).symm), ?_⟩
            rw [ev]
            exact ⟨hf _ _ g1 g2, c2, rfl, upd_same⟩
          · refine ifF (by cases z : is with
              | nil => exact absurd z nis
              | cons x r => rfl) ?_
            have nb : belowI N A1 B1 (i, j) ≠ [] := fun z => nis (by rw [his, z]; rfl)
            have al1 := na.resolve_left nis
            have ev : tv = .node (min (lvl N (A1.tr i)) (lvl N (B1.tr j))) ((belowI N A1 B1 (i, j)).map (joinedI N (opF g) A1 B1).val) := by
              rw [hnode nb]
              refine mk_node fun z => al1 fun x hx y hy => ?_
              rw [isix] at hx hy
              obtain ⟨x', hx', rfl⟩ := List.mem_map.mp hx
              obtain ⟨y', hy', rfl⟩ := List.mem_map.mp hy
              rw [z x' hx' y' hy']
            have ek : kids tv = (belowI N A1 B1 (i, j)).map (joinedI N (opF g) A1 B1).val := by rw [ev]; rfl
            have eh : (if lvl N (A1.tr i) ≤ lvl N (B1.tr j) then headS nm (A1.tr i) else headS nm (B1.tr j)) = nm (min (lvl N (A1.tr i)) (lvl N (B1.tr j))) := by
              have lt : ¬ (¬ lvl N (A1.tr i) < N ∧ ¬ lvl N (B1.tr j) < N) := fun ⟨x, y⟩ => by
                have e1 := wo_leaf wa x
                have e2 := wo_leaf wb y
                apply nb
                have := belowI_map N A1 B1 (i, j)
                have z : belowT N (trP A1 B1 (i, j)) = [] := by
                  show belowT N (A1.tr i, B1.tr j) = []
                  rw [e1, e2]
                  exact (if_neg (Nat.lt_irrefl N)).trans ((if_neg (Nat.lt_irrefl N)).trans rfl)
                rw [z] at this
                exact List.map_eq_nil_iff.mp this
              have la := wo_le wa
              have lb := wo_le wb
              by_cases le : lvl N (A1.tr i) ≤ lvl N (B1.tr j)
              · rw [if_pos le, Nat.min_eq_left le]
                conv => lhs; rw [(wo_node wa (by omega)).1]
                rfl
              · rw [if_neg le, Nat.min_eq_right (by omega)]
                conv => lhs; rw [(wo_node wb (by omega)).1]
                rfl
            rw [eh] at c11
            refine ⟨c, rfl, jp11, hq11, by rw [ek]; exact tsN, by rw [ev]; rfl, ?_⟩
            rw [ek, ← isix, ev]
            exact ⟨c, u, rfl, c11, u11⟩
        clear jp11 hq11 u11 c11 s11 hc
        rintro σ' H12 ⟨c, rfl, jp12, hq12, sub, elv, nv⟩
        have cl : Closed ns := li.ok.closed
        have fitN : ∀ x ∈ ns, Fit N ns x := fun x hx => fit_of (li.good x hx) fun y hy => kids_in cl hx hy
        have fitT : Fit N ns tv := fit_of good sub
        have nsF : ns.length < sizeLine := by
          have e := li.ok.fin
          obtain ⟨mm, e2⟩ := enums_pre (((i, j) :: br.map (·.2)).map (joinedI N (opF g) A1 B1).val) ns
          have e3 : ns ++ mm = enum ((joinedI N (opF g) A1 B1).val (A1.ts.length - 1, B1.ts.length - 1)) [] := e2.symm.trans e
          rw [← e3, List.length_append] at fewF
          omega
        have cl' : Closed (fin tv ns) := li'.ok.closed
        have fitN' : ∀ x ∈ fin tv ns, Fit N (fin tv ns) x := fun x hx => fit_of (li'.good x hx) fun y hy => kids_in cl' hx hy
        refine ⟨fun σ' H' => σ' = [some (.str g), some (.ref a), some (.ref b), some (.ref an), some (.ref al), some (.ref am), some (.ref ad), some (.ref aw), some (.ref q), some (.ref D), some (.ref Dm), some (.ref u), some (.ref c), o13] ∧ JP P w nm N H an al am ad aw (fin tv ns) (fin tv ns) (fin tv ns) kvs (br.map (·.2)) H' ∧ H' q = some (.tup [.int (i : Nat), .int (j : Nat)]) ∧ NkAt H' (keyT nm (fin tv ns) tv) (.ref c), ?_, ?_⟩
        · refine ⟨_, rfl, _, rfl, keyT nm ns tv, numT nm ns, ⟨am, c, rfl, rfl, jp12.nums, node_key nv, keyT_depth tv⟩, _, rfl, ?_⟩
          by_cases mt : tv ∈ ns
          · rw [numT_get nmI fitN mt]
            refine ifF rfl ⟨rfl, ?_, hq12, ?_⟩
            · rw [fin_of mt]; exact jp12
            · rw [fin_of mt]; exact node_key nv
          · rw [numT_no nmI fitN mt fitT]
            obtain ⟨vs, g1, g2, g3⟩ := jp12.nodes
            refine ifT rfl ⟨_, rfl, an, vs, rfl, .inl (SqL.of g1), _, rfl, _, rfl, am, keyT nm ns tv, numT nm ns, rfl, ⟨am, c, rfl, rfl, jp12.nums, node_key nv, keyT_depth tv⟩, by unfold numT; rw [List.length_map]; exact nsF, fun o nd' ne => ?_⟩
            have jp13 : JP P w nm N H an al am ad aw ns ns (ns ++ [tv]) kvs (br.map (·.2)) (upd H12 am o) := jp12.setM fr (by
              rw [g2] at nd'
              rw [← numT_put nmI fitN mt fitT]
              exact nd')
            have kt13 : KT H12 (upd H12 am o) := fun x vs e => by rw [upd_ne (ne x vs e)]; exact e
            have g13 : upd H12 am o an = some (.lst vs) := by rw [upd_ne fr.d13]; exact g1
            generalize upd H12 am o = H13 at jp13 kt13 g13 ⊢
            have nv13 := nv.kt kt13
            refine ⟨_, rfl, .inl ⟨rfl, _, SqL.of g13⟩, _, rfl, an, vs, .ref c, rfl, rfl, g13, by omega, ?_⟩
            have jp14 := jp13.setN fr cl g13 sub nv13
            have kt14 : KT H13 (upd H13 an (.lst (vs ++ [V.ref c]))) := kt_upd fun vs z => by rw [g13] at z; cases z
            generalize upd H13 an (.lst (vs ++ [V.ref c])) = H14 at jp14 kt14 ⊢
            have hq14 := kt14 _ _ (kt13 _ _ hq12)
            obtain ⟨l1, z1, y1⟩ := lev_at (fa.same jp14.same) rg.1
            obtain ⟨l2, z2, y2⟩ := lev_at (fb.same jp14.same) rg.2
            refine ⟨_, rfl, .inl ⟨rfl, _, SqL.of jp14.levels⟩, ?_⟩
            refine ⟨_, rfl, a, C, dx, _, _, rfl, jp14.same _ _ ha, TC.cl, TC.nL, lk_levels, _, rfl, q, _, 0, _, rfl, rfl, SqT.of hq14, rfl, ixq z1 y1 ?_⟩
            refine ⟨_, rfl, b, C, dy, _, _, rfl, jp14.same _ _ hb, TC.cl, TC.nL, lk_levels, _, rfl, q, _, 1, _, rfl, rfl, SqT.of hq14, rfl, ixq z2 y2 ?_⟩
            refine ⟨_, _, rfl, al, _, _, rfl, rfl, jp14.levels, by rw [List.length_map]; exact nsF, ?_⟩
            have emin : V.int (if ((lvl N (B1.tr j) : Nat) : Int) < ((lvl N (A1.tr i) : Nat) : Int) then ((lvl N (B1.tr j) : Nat) : Int) else ((lvl N (A1.tr i) : Nat) : Int)) = .int (lvl N tv : Nat) := by
              rw [elv]
              by_cases c : lvl N (B1.tr j) < lvl N (A1.tr i)
              · rw [if_pos (by omega), Nat.min_eq_right (by omega)]
              · rw [if_neg (by omega), Nat.min_eq_left (by omega)]
            have kt15 : KT H14 (upd H14 al (.lst (ns.map (fun t => V.int (lvl N t : Nat)) ++ [V.int (if ((lvl N (B1.tr j) : Nat) : Int) < ((lvl N (A1.tr i) : Nat) : Int) then ((lvl N (B1.tr j) : Nat) : Int) else ((lvl N (A1.tr i) : Nat) : Int))]))) := kt_upd fun vs z => by rw [jp14.levels] at z; cases z
            refine ⟨rfl, ?_, kt15 _ _ hq14, ?_⟩
            · rw [fin_new mt]
              exact jp14.setL fr emin
            · rw [fin_new mt, keyT_more fitT]
              exact (node_key nv13).same (fun x vs e => kt15 _ _ (kt14 _ _ e)) _ _
        · clear jp12 hq12 nv
          rintro σ' H13 ⟨rfl, jp13, hq13, key⟩
          have mt := fin_mem tv ns
          refine ⟨_, rfl, _, rfl, keyT nm (fin tv ns) tv, numT nm (fin tv ns), _, ⟨am, c, rfl, rfl, jp13.nums, key, keyT_depth tv⟩, numT_get nmI fitN' mt, _, rfl, _, rfl, ad, pairK i j, kvs, rfl, ⟨ad, q, rfl, rfl, jp13.dn, pair_key hq13, pair_depth _ _⟩, dlen, fun o nd' ne => ?_⟩
          have dn' := doneI_put li.ok dn rg
          rw [← etv] at dn'
          exact ⟨_, _, _, _, _, _, _, _, rfl, tu, li', dn', jp13.setD fr nd'⟩
      · have elm' : missing (joinedI N (opF g) A1 B1) done (i, j) ≠ [] := by
          rw [← elm]
          exact fun z => em (List.map_eq_nil_iff.mp z)
        have et : FT.turn (joinedI N (opF g) A1 B1) ⟨ns, done, (i, j) :: br.map (·.2)⟩ = ⟨ns, done, missing (joinedI N (opF g) A1 B1) done (i, j) ++ (i, j) :: br.map (·.2)⟩ := if_neg elm'
        refine ifT (by
          unfold refsOf
          cases z : left done bl with
          | nil => exact absurd z em
          | cons x r => rfl) ?_
        have ew7 : H7 aw = some (.lst ((refsOf br).reverse ++ [V.ref q])) := sm _ _ (pr.st _ _ ew')
        refine ⟨_, rfl, .inl ⟨rfl, _, SqL.of ew7⟩, _, rfl, Dm, _, rfl, SqL.of eDm, fun Dr hDr => ?_⟩
        have sr := same_new (o := HO.lst (refsOf (left done bl)).reverse) hDr
        have er : upd H7 Dr (.lst (refsOf (left done bl)).reverse) Dr = some (.lst (refsOf (left done bl)).reverse) := upd_same
        generalize upd H7 Dr (.lst (refsOf (left done bl)).reverse) = H8 at sr er ⊢
        have jp8 := jp7.keep sr
        refine ⟨aw, Dr, _, _, rfl, rfl, sr _ _ ew7, er, ?_, ?_⟩
        · have b1 : ((i, j) :: br.map (·.2)).length ≤ 1 + M * N := stkI_len hA li.stk
          have b2 : M * N ≤ 1000 * 1000 := Nat.mul_le_mul hM hN
          have b3 := List.length_filter_le (fun x : Addr × Nat × Nat => !decide (x.2 ∈ done)) bl
          rw [List.length_cons, List.length_map] at b1
          unfold refsOf left
          rw [List.length_append, List.length_reverse, List.length_reverse, List.length_map, List.length_map, List.length_singleton]
          omega
        · have li' := li.turn hA hB hf fewB
          rw [et] at tu li'
          have hq8 := sr _ _ hq7
          have pl8 := pl7.kt (KT.of sr)
          have br8 : PrsOk H8 br := fun x hx => sr _ _ (sm _ _ (pr.st _ _ (hp x (List.mem_cons_of_mem _ hx))))
          have kt : KT H8 (upd H8 aw (.lst (((refsOf br).reverse ++ [V.ref q]) ++ (refsOf (left done bl)).reverse))) := kt_upd fun vs z => by rw [sr _ _ ew7] at z; cases z
          refine ⟨_, kvs, _, _, _, _, _, _, rfl, tu, li', ⟨dn.val, dn.nd, dn.rg⟩, jp8.setW fr ⟨left done bl ++ (q, i, j) :: br, ?_, ?_, fun x hx => kt _ _ ?_⟩⟩
          · rw [List.map_append, elm]
            rfl
          · rw [upd_same]
            unfold refsOf
            rw [List.map_append, List.reverse_append, List.map_cons, List.reverse_cons]
          · rcases List.mem_append.mp hx with hx | hx
            · exact pl8 x (List.mem_filter.mp hx).1
            · rcases List.mem_cons.mp hx with z | hx
              · rw [z]; exact hq8
              · exact br8 x hx
end
end R52
namespace FT
open PySem PySem.Spec PyProof.Rows L2 ND
open Classical
theorem FD.ext {A B : FD} (h1 : A.ts = B.ts) (h2 : A.kd = B.kd) : A = B := by
  cases A
  cases B
  cases h1
  cases h2
  rfl
def FD.one (x : V) : FD where
  ts := [.leaf x]
  kd := fun _ => []
  ok := fun i => by
    cases i with
    | zero => rfl
    | succ i => rfl
  lt := fun _ _ h => nomatch h
theorem closed_nil : Closed ([] : List (Tr V)) := fun _ _ h => nomatch h
/-- the form of a tree, as it is drawn -/
noncomputable def FDt (t : Tr V) : FD := FD.of (enum t []) (enum_closed t [] closed_nil)
theorem enum_leaf (x : V) : enum (.leaf x) [] = [Tr.leaf x] := by rw [enum, fin_new (List.not_mem_nil)]; rfl
theorem FDt_leaf (x : V) : FDt (.leaf x) = FD.one x := by
  refine FD.ext (enum_leaf x) ?_
  funext i
  show (FT.kids ((enum (.leaf x) []).getD i lf0)).map (ix (enum (.leaf x) [])) = []
  rw [enum_leaf]
  cases i <;> rfl
theorem FDt_len (t : Tr V) : (FDt t).ts.length = (enum t []).length := rfl
theorem enum_last (t : Tr V) : ∃ m, enum t [] = m ++ [t] := by
  cases t with
  | leaf v => exact ⟨[], enum_leaf v⟩
  | node l ts =>
    have e : enum (.node l ts) [] = fin (.node l ts) (enums ts []) := by rw [enum, if_neg (fun h => nomatch h)]
    have n : Tr.node l ts ∉ enums ts [] := fun h => by
      have k := enums_all (P := fun u => sz u ≤ szs ts) (fun l' us h t ht => by
        have := sz_mem ht
        rw [sz] at h
        omega) ts [] (fun t ht => sz_mem ht) (fun _ h => nomatch h) _ h
      rw [sz] at k
      omega
    exact ⟨enums ts [], by rw [e, fin_new n]⟩
theorem FDt_top (t : Tr V) : (FDt t).tr ((FDt t).ts.length - 1) = t := by
  obtain ⟨m, e⟩ := enum_last t
  show (enum t []).getD ((enum t []).length - 1) lf0 = t
  rw [e, List.length_append, List.length_singleton, Nat.add_sub_cancel, List.getD_eq_getElem?_getD, List.getElem?_append_right (Nat.le_refl _), Nat.sub_self]
  rfl
theorem FDt_ne (t : Tr V) : (FDt t).ts ≠ [] := by
  obtain ⟨m, e⟩ := enum_last t
  show enum t [] ≠ []
  rw [e]
  simp
section
variable {N M : Nat} {ks : Nat → Nat}
theorem kid_okay {t : Tr V} (h : Wf N ks 0 t ∧ Lv Vl t) : ∀ u ∈ enum t [], Wf N ks 0 u ∧ Lv Vl u :=
  enum_all (P := fun u => Wf N ks 0 u ∧ Lv Vl u) (fun l ts ⟨h1, h2⟩ u hu => ⟨(wf_kids h1 hu).low (Nat.zero_le _), by rw [Lv] at h2; exact lvAll_iff.mp h2 u hu⟩) t [] h fun _ z => nomatch z
theorem FDt_okay {t : Tr V} (h : Wf N ks 0 t ∧ Lv Vl t) : (FDt t).Okay N ks :=
  ⟨fun u hu => (kid_okay h u hu).1.wo, fun u hu => (kid_okay h u hu).2, FDt_ne t⟩
theorem one_okay {x : V} (h : Vl x) : (FD.one x).Okay N ks :=
  ⟨fun u hu => by rw [List.mem_singleton.mp hu, Wo]; trivial, fun u hu => by rw [List.mem_singleton.mp hu, Lv]; exact h, fun z => nomatch z⟩
theorem FDt_few (hk : ∀ l, l < N → ks l ≤ M) {t : Tr V} (h : Wf N ks 0 t) : (FDt t).ts.length ≤ geo M N := by
  have a := enum_len t []
  have b := wo_sz hk N 0 t h.wo (by omega)
  show (enum t []).length ≤ _
  rw [List.length_nil] at a
  omega
/-- what is put together of two forms that are drawn -/
theorem FDt_val {f : V → V → V} (t u : Tr V) : (joinedI N f (FDt t) (FDt u)).val ((FDt t).ts.length - 1, (FDt u).ts.length - 1) = joinT N f (t, u) := by
  show joinT N f ((FDt t).tr _, (FDt u).tr _) = _
  rw [FDt_top, FDt_top]
theorem join_good {f : V → V → V} (hf : ∀ x y, Vl x → Vl y → Vl (f x y)) {t u : Tr V} (ht : Wo N ks 0 t ∧ Lv Vl t) (hu : Wo N ks 0 u ∧ Lv Vl u) : (Wf N ks 0 (joinT N f (t, u)) ∧ Lv Vl (joinT N f (t, u))) ∧ ∀ w, Good N ks w → ev (joinT N f (t, u)) w = f (ev t w) (ev u w) := by
  obtain ⟨h1, h2⟩ := join_okO (ks := ks) f _ (t, u) 0 (Nat.le_refl _) ht.1 hu.1
  exact ⟨⟨h1, join_lv hf _ (t, u) 0 (Nat.le_refl _) ht.1 hu.1 ht.2 hu.2⟩, h2⟩
end
/-- one choice: a value for each option, then the choice -/
def FD.br (l : Nat) (xs : List V) : FD where
  ts := xs.map Tr.leaf ++ [.node l (xs.map Tr.leaf)]
  kd := fun i => if i = xs.length then List.range xs.length else []
  ok := fun i => by
    by_cases q : i = xs.length
    · rw [if_pos q, q]
      have e : (xs.map Tr.leaf ++ [Tr.node l (xs.map Tr.leaf)]).getD xs.length lf0 = .node l (xs.map Tr.leaf) := by
        rw [List.getD_eq_getElem?_getD, List.getElem?_append_right (by rw [List.length_map]; exact Nat.le_refl _), List.length_map, Nat.sub_self]
        rfl
      rw [e]
      show _ = xs.map Tr.leaf
      refine List.ext_getElem (by rw [List.length_map, List.length_range, List.length_map]) fun k h1 h2 => ?_
      rw [List.length_map] at h2
      rw [List.getElem_map, List.getElem_range, List.getD_eq_getElem?_getD, List.getElem?_append_left (by rw [List.length_map]; exact h2), List.getElem?_map, List.getElem?_eq_getElem h2, List.getElem_map]
      rfl
    · rw [if_neg q]
      show [] = FT.kids _
      rw [List.getD_eq_getElem?_getD]
      rcases Nat.lt_or_ge i xs.length with g | g
      · rw [List.getElem?_append_left (by rw [List.length_map]; exact g), List.getElem?_map, List.getElem?_eq_getElem g]
        rfl
      · rw [List.getElem?_eq_none (by rw [List.length_append, List.length_map, List.length_singleton]; omega)]
        rfl
  lt := fun i k hk => by
    by_cases q : i = xs.length
    · rw [if_pos q] at hk
      rw [List.length_append, List.length_map]
      have := List.mem_range.mp hk
      omega
    · rw [if_neg q] at hk
      exact nomatch hk
theorem br_len (l : Nat) (xs : List V) : (FD.br l xs).ts.length = xs.length + 1 := by
  show (xs.map Tr.leaf ++ [Tr.node l (xs.map Tr.leaf)]).length = _
  rw [List.length_append, List.length_map]
  rfl
theorem br_top (l : Nat) (xs : List V) : (FD.br l xs).tr xs.length = .node l (xs.map Tr.leaf) := by
  show (xs.map Tr.leaf ++ [Tr.node l (xs.map Tr.leaf)]).getD xs.length lf0 = _
  rw [List.getD_eq_getElem?_getD, List.getElem?_append_right (by rw [List.length_map]; exact Nat.le_refl _), List.length_map, Nat.sub_self]
  rfl
theorem br_at {l i : Nat} {xs : List V} {x : V} (h : xs[i]? = some x) : (FD.br l xs).tr i = .leaf x := by
  show (xs.map Tr.leaf ++ [Tr.node l (xs.map Tr.leaf)]).getD i lf0 = _
  have g := (List.getElem?_eq_some_iff.mp h).1
  rw [List.getD_eq_getElem?_getD, List.getElem?_append_left (by rw [List.length_map]; exact g), List.getElem?_map, h]
  rfl
theorem br_wo {N l : Nat} {ks : Nat → Nat} {xs : List V} (h1 : l < N) (h2 : xs.length = ks l) (ne : xs ≠ []) (h : ∀ x ∈ xs, Vl x) : Wo N ks 0 (.node l (xs.map Tr.leaf)) ∧ Lv Vl (.node l (xs.map Tr.leaf)) := by
  refine ⟨?_, ?_⟩
  · rw [Wo]
    refine ⟨Nat.zero_le _, h1, by rw [List.length_map]; exact h2, fun z => ne (List.map_eq_nil_iff.mp z), woAll_iff.mpr fun t ht => ?_⟩
    obtain ⟨x, _, rfl⟩ := List.mem_map.mp ht
    rw [Wo]; trivial
  · rw [Lv]
    refine lvAll_iff.mpr fun t ht => ?_
    obtain ⟨x, hx, rfl⟩ := List.mem_map.mp ht
    rw [Lv]; exact h x hx
theorem br_okay {N l : Nat} {ks : Nat → Nat} {xs : List V} (h1 : l < N) (h2 : xs.length = ks l) (ne : xs ≠ []) (h : ∀ x ∈ xs, Vl x) : (FD.br l xs).Okay N ks := by
  obtain ⟨a, b⟩ := br_wo h1 h2 ne h
  refine ⟨fun t ht => ?_, fun t ht => ?_, fun z => by have := congrArg List.length z; rw [br_len] at this; exact Nat.noConfusion this⟩
  · rcases List.mem_append.mp ht with ht | ht
    · obtain ⟨x, _, rfl⟩ := List.mem_map.mp ht
      rw [Wo]; trivial
    · rw [List.mem_singleton.mp ht]; exact a
  · rcases List.mem_append.mp ht with ht | ht
    · obtain ⟨x, hx, rfl⟩ := List.mem_map.mp ht
      rw [Lv]; exact h x hx
    · rw [List.mem_singleton.mp ht]; exact b
theorem br_ev {N l : Nat} {xs : List V} {w : Nat → Nat} {x : V} (h : xs[w l]? = some x) : ev (Tr.node l (xs.map Tr.leaf)) w = x := by
  rw [ev, evAt_get (t := .leaf x) (by rw [List.getElem?_map, h]; rfl), ev]
end FT
namespace L2
open PySem PySem.Spec PyProof.Rows
section
variable {prog : Program} {w : World} {A : Around} {E : Value → Shared → Prop} {s : Shared} {l : Addr}
theorem max_tupXs {xs : Array (Int × Tok)} {Q : Value → Shared → Prop} (hh : A.handled = none) (hl : s.heap.IsTuple l (intItems xs)) (hne : 0 < xs.size)
    (h : ∀ v h' tk, (intItems xs)[argBest (fun i j => decide (numAt xs i > numAt xs j)) (xs.size - 1)]? = some v → (∀ b o, s.heap.get? b = some o → h'.get? b = some o) → Q v { s with heap := h', toks := tk }) :
    wpAny (model prog w) A (call (.builtin "max") [.ref l]) Q E s := by
  have hlt : l < s.heap.objs.size := by obtain ⟨_, e, _⟩ := hl; exact Heap.lt_size e
  refine call_max_walk (wpAny_pyIter_tuple hl ?_)
  refine ⟨_, _, _, _, _, _, _, rfl, Walks.tuple (A := A.in1) hh _ l (Nat.ne_of_lt hlt) (intItems xs), ⟨⟨_, Heap.get?_push_size _ rfl, rfl, rfl⟩, hl.push _⟩, fun b hb => ?_, by simpa [intItems] using hne, CmpOf.ints_gt (numAt xs) (fun _ _ => intItems_at), fun v h' tk hP hk => ?_⟩
  · show b < (s.heap.push _).objs.size
    rw [Heap.size_push]
    rcases List.mem_cons.mp hb with rfl | hb
    · exact Nat.lt_succ_self _
    · rcases List.mem_cons.mp hb with rfl | hb
      · exact Nat.lt_succ_of_lt hlt
      · cases hb
  · refine h v h' tk (by simpa [intItems] using hP) fun b o e => hk b o (fun hm => ?_) (Heap.get?_push_of_some _ e)
    rcases List.mem_cons.mp hm with e1 | hm
    · exact absurd (e1 ▸ Heap.lt_size e) (Nat.lt_irrefl _)
    · cases hm
theorem max_tup_raw {its : List Value} {ns : List Int} {Q : Value → Shared → Prop} (hh : A.handled = none) (hl : s.heap.IsTuple l its.toArray) (hi : IntsAre its ns) (hne : 0 < ns.length)
    (h : ∀ h' tk M t', (∀ b o, s.heap.get? b = some o → h'.get? b = some o) → M ∈ ns → (∀ a, a ∈ ns → a ≤ M) → Q (.int M t') { s with heap := h', toks := tk }) : wpAny (model prog w) A (call (.builtin "max") [.ref l]) Q E s := by
  obtain ⟨xs, e⟩ := hi.allInts.items
  have hn : numsOf (intItems xs).toList = ns := by rw [← e]; exact hi.numsOf
  rw [nums_intItems] at hn
  subst hn
  rw [e] at hl
  have hsz : 0 < xs.size := by simpa using hne
  refine max_tupXs hh hl hsz fun v h' tk hv hk => ?_
  obtain ⟨t, rfl⟩ := intItems_at hv
  obtain ⟨h1, h2⟩ := argBest_gt (numAt xs) (xs.size - 1)
  refine h h' tk _ t hk ?_ fun a ha => ?_
  · rw [numAt_eq]; exact PySem.getD_mem (by rw [List.length_map, Array.length_toList]; omega)
  · obtain ⟨j, hj, rfl⟩ := mem_getD ha
    rw [List.length_map, Array.length_toList] at hj
    rw [← numAt_eq]; exact h2 j (by omega)
end
section
variable {X : Cx}
/-- max(xs) of a list or a tuple of whole numbers -/
def rMaxQ (K : PySem.W.Frag) : List V → Hp → VK → Prop := fun vs H Q => ∃ (a : Addr) (ns : List Int), vs = [V.ref a] ∧ (SqL K H a (ns.map V.int) ∨ SqT K H a (ns.map V.int)) ∧ 0 < ns.length ∧ ∀ m, m ∈ ns → (∀ y, y ∈ ns → y ≤ m) → Q (.int m) H
theorem cr_maxQ (hc : X.calm = true) : CallR X (.builtin "max") (rMaxQ X.K) := by
  intro pins s σ H vs us Q I r h
  obtain ⟨a, ns, rfl, hs | hs, hne, q⟩ := h
  · exact cr_max hc pins s σ H _ us Q I r ⟨a, ns, rfl, hs, hne, q⟩
  · obtain ⟨its, o, n, rv, e, c, d⟩ := sqT_at I.hok I.kIn hs
    rw [Vals.ref1 r]
    exact max_tup_raw (I.ok.hd hc) ⟨_, e, c, n, d⟩ rv.ints hne fun h' tk m t' hk h1 h2 => ⟨.int _, H, I.kept hk, ⟨_, rfl⟩, q m h1 h2⟩
end
end L2
namespace R52
open PySem L2 L3 FT ND
open C8 (pss_cut tCut pe_gc)
abbrev sConst : Stmt := top 16
abbrev sBranch : Stmt := top 17
abbrev sDrawn : Stmt := top 20
/-- what is asked of the choices that forms speak of: few, few options, different names -/
structure Sce (N M : Nat) (ks : Nat → Nat) (nm : Nat → Str) : Prop where
  hk : ∀ l, l < N → ks l ≤ M
  pos : ∀ l, l < N → 0 < ks l
  hM : M ≤ 1000
  hN : N ≤ 1000
  geo : geo M N ≤ 2000
  nmI : ∀ i j, i < N → j < N → nm i = nm j → i = j
  nmS : ∀ i, i < N → PyData.strOk (nm i) = true
/-- a tree that may be a form's -/
def TGood (N : Nat) (ks : Nat → Nat) (t : Tr V) : Prop := Wf N ks 0 t ∧ Lv Vl t
def sElse : Str := "else"
theorem pick_else {x y : V} : opF sElse x y = if x = .non then y else x := by
  unfold opF
  rw [if_neg (by decide +kernel)]
  unfold pickF
  rw [if_neg (by decide +kernel), if_neg (by decide +kernel), if_neg (by decide +kernel), if_neg (by decide +kernel)]
/-- a form drawn: needless choices left out -/
noncomputable def red (N : Nat) (t : Tr V) : Tr V := joinT N (opF sElse) (t, lf0)
theorem red_good {N : Nat} {ks : Nat → Nat} {t : Tr V} (h : Wo N ks 0 t ∧ Lv Vl t) : TGood N ks (red N t) ∧ ∀ w, Good N ks w → ev (red N t) w = ev t w := by
  obtain ⟨a, b⟩ := join_good (f := opF sElse) (fun x y hx hy => op_vl hx hy) h (u := lf0) (ks := ks) ⟨by rw [Wo]; trivial, by rw [Lv]; trivial⟩
  refine ⟨a, fun w g => ?_⟩
  show ev (joinT N (opF sElse) (t, lf0)) w = _
  rw [b w g, pick_else, ev]
  by_cases z : ev t w = .non
  · rw [if_pos z, z]
  · rw [if_neg z]
theorem sce_len {N M : Nat} {ks : Nat → Nat} {nm : Nat → Str} (S : Sce N M ks nm) {t : Tr V} (h : TGood N ks t) : (enum t []).length < sizeLine := by
  have a := FDt_few S.hk h.1
  have b := S.geo
  have c := sizeLine_eq
  have d : (enum t []).length ≤ geo M N := a
  omega
/-- the class of forms, its making -/
structure FormK (P : Program) (w : World) (K : PySem.W.Frag) (mg : Str → Option Value) (base : Heap) (C fF : Addr) (fdF : FuncData) : Prop where
  M : Mk K C fF
  G : FnOk P w K mg base CX0 1 fF fdF ["self", "nodes", "levels"] (spFInit C)
  b : Binds K fdF ["self", "nodes", "levels"] []
  g : mg "Form" = some (.ref C)
  T : FormC K mg C
section
variable {P : Program} {w : World} {K : PySem.W.Frag} {mg : Str → Option Value} {base : Heap} {C : Addr} {nm : Nat → Str} {N : Nat}
def spDrawn (C : Addr) (nm : Nat → Str) (N : Nat) : Sp := fun vs H Q _ => ∃ (A : FD) (ks : Nat → Nat) (M : Nat) (a dx tn tl : Addr), vs = [.ref a] ∧ H a = some (.ins C dx (ffl tn tl)) ∧ FormI nm N A H tn tl ∧ Sce N M ks nm ∧ A.Okay N ks ∧ A.ts.length ≤ 4000 ∧ (∃ i x, i < A.ts.length ∧ A.tr i = .leaf x) ∧
  ∀ (H' : Hp) (r : V), Same H H' → FormT C nm N (FDt (red N (A.tr (A.ts.length - 1)))) H' r → Q r H'
theorem scDr : FnScope ["form"] ["form"] (defScope sDrawn) := ⟨rfl, rfl, rfl, by decide +kernel, rfl, by decide +kernel, by decide +kernel⟩
theorem ok_drawn {f fJ fF d : Addr} {fd fdJ fdF : FuncData} (F : Fun K "drawn" "drawn" sDrawn f fd) (UJ : Use P w K mg base "joined" 5 fJ fdJ ["sign", "one", "other"] (spJoin C K d nm N)) (nsE : PySem.W.nsIn K d sElse = some none)
    (KF : FormK P w K mg base C fF fdF) (zMax : mg "max" = none) : FnOk P w K mg base CX0 6 f fd ["form"] (spDrawn C nm N) := by
  refine F.ok scDr (fun vs H Q E h => ?_) (fun cdv A outer s H vs Q E hr h => ?_)
  · obtain ⟨A, ks, M, a, dx, tn, tl, rfl, _⟩ := h
    rfl
  · obtain ⟨A1, ks, M, a, dx, tn, tl, rfl, ha, fa, S, hA, few, ⟨i, x, hi, hx⟩, k⟩ := h
    refine ⟨_, pss_one (ps_ret (pe_call UJ.G hr (by rfl) UJ.g UJ.kp UJ.b .nil pass0 (pa_cons pe_str (pa_cons (pv 0) (pa_cons (pe_make KF.M KF.G (hr.mono (by omega)) (by rfl) KF.g KF.b .nil pass0
      (pa_cons (pe_tup (pa_cons (pe_tup (pa_cons pe_str (pa_cons pe_non pa_nil))) pa_nil)) (pa_cons (pe_tup (pa_cons (pe_callB (cr_maxQ rfl) (by rfl) zMax PyProof.Rows.boot_max (pa_cons (pe_fld (pv 0) rfl) pa_nil)) pa_nil)) pa_nil))) pa_nil))))), ?_⟩
    refine ⟨_, rfl, (by show 2 ≤ sizeLine; decide), fun t1 ht1 => ⟨(by show 1 ≤ sizeLine; decide), fun t2 ht2 => ?_⟩⟩
    have s1 := same_new (o := HO.tup [V.str (Str.ofString "none"), V.non]) ht1
    have u1 : upd H t1 (.tup [V.str (Str.ofString "none"), V.non]) t1 = some (.tup [V.str (Str.ofString "none"), V.non]) := upd_same
    generalize upd H t1 (.tup [V.str (Str.ofString "none"), V.non]) = H1 at s1 u1 ht2 ⊢
    have s2 := same_new (o := HO.tup [V.ref t1]) ht2
    have u2 : upd H1 t2 (.tup [V.ref t1]) t2 = some (.tup [V.ref t1]) := upd_same
    generalize upd H1 t2 (.tup [V.ref t1]) = H2 at s2 u2 ⊢
    have s12 : Same H H2 := fun b o e => s2 _ _ (s1 _ _ e)
    refine ⟨_, rfl, a, C, dx, _, _, rfl, s12 _ _ ha, KF.T.cl, KF.T.nL, lk_levels, tl, A1.ts.map (fun t => ((lvl N t : Nat) : Int)), rfl, ?_, by rw [List.length_map]; omega, fun m hm hmax => ?_⟩
    · rw [List.map_map]
      rcases fa.tl with e | e
      · exact .inl (SqL.of (s12 _ _ e))
      · exact .inr (SqT.of (s12 _ _ e))
    have em : m = (N : Nat) := by
      obtain ⟨t, ht, rfl⟩ := List.mem_map.mp hm
      have h1 := wo_le (hA.wo t ht)
      have h2 := hmax ((lvl N (A1.tr i) : Nat) : Int) (List.mem_map_of_mem (FD.tr_at hi))
      rw [hx] at h2
      have : lvl N (Tr.leaf x) = N := rfl
      omega
    subst em
    refine ⟨(by show 1 ≤ sizeLine; decide), fun t3 ht3 => ?_⟩
    have s3 := same_new (o := HO.tup [V.int (N : Nat)]) ht3
    have u3 : upd H2 t3 (.tup [V.int (N : Nat)]) t3 = some (.tup [V.int (N : Nat)]) := upd_same
    refine fun p dp hp hdp hne => ⟨p, dp, t2, t3, rfl, upd_same, rfl, ?_⟩
    replace hp : upd H2 t3 (.tup [V.int (N : Nat)]) p = none := hp
    replace hdp : upd H2 t3 (.tup [V.int (N : Nat)]) dp = none := hdp
    generalize upd H2 t3 (.tup [V.int (N : Nat)]) = H3 at s3 u3 hp hdp ⊢
    have s4 : Same H3 (upd (upd (upd (upd H3 dp (.own p)) p (.ins C dp [])) p (.ins C dp (putF "nodes" (.ref t2) []))) p (.ins C dp (ffl t2 t3))) := fun x o e => by
      have n1 := ne_of_none e hp
      have n2 := ne_of_none e hdp
      rw [upd_ne n1, upd_ne n1, upd_ne n1, upd_ne n2]
      exact e
    have u4 : upd (upd (upd (upd H3 dp (.own p)) p (.ins C dp [])) p (.ins C dp (putF "nodes" (.ref t2) []))) p (.ins C dp (ffl t2 t3)) p = some (.ins C dp (ffl t2 t3)) := upd_same
    show spJoin C K d nm N [V.str sElse, V.ref a, V.ref p] (upd (upd (upd (upd H3 dp (.own p)) p (.ins C dp [])) p (.ins C dp (putF "nodes" (.ref t2) []))) p (.ins C dp (ffl t2 t3))) Q E0
    generalize upd (upd (upd (upd H3 dp (.own p)) p (.ins C dp [])) p (.ins C dp (putF "nodes" (.ref t2) []))) p (.ins C dp (ffl t2 t3)) = H4 at s4 u4 ⊢
    have sA : Same H H4 := fun b o e => s4 _ _ (s3 _ _ (s12 _ _ e))
    have go := hA.at_ (A1.ts.length - 1)
    have rg := red_good go
    have lsz := sizeLine_eq
    refine ⟨sElse, A1, FD.one .non, ks, M, .ref a, .ref p, rfl, ⟨a, dx, tn, tl, rfl, sA _ _ ha, fa.same sA⟩, ⟨p, dp, t2, t3, rfl, u4, ⟨[V.ref t1], .inr (s4 _ _ (s3 _ _ u2)), rfl, fun j v hv => ?_⟩, .inr (s4 _ _ u3)⟩, ⟨.inl ⟨by decide +kernel, nsE⟩, fun e => absurd e (by decide +kernel)⟩, hA, one_okay trivial, S.hk, S.hM, S.hN, ?_, S.nmI, sce_len S rg.1, fun c H' r sm fm => k H' r (fun b o e => sm _ _ (sA _ _ e)) fm⟩
    · cases j with
      | zero =>
        cases hv
        exact ⟨trivial, t1, rfl, s4 _ _ (s3 _ _ (s2 _ _ u1))⟩
      | succ j => exact nomatch hv
    · show A1.ts.length * 1 < sizeLine
      omega
end
end R52
namespace R52
open PySem L2 L3 FT ND
open C8 (pss_cut tCut pe_gc)
/-- the own x in o and len(o) of choices -/
structure Own2 (P : Program) (w : World) (K : PySem.W.Frag) (mg : Str → Option Value) (base : Heap) (C fH fL : Addr) (fdH fdL : FuncData) : Prop where
  GH : FnOk P w K mg base CX0 1 fH fdH ["self", "name"] (spHas C)
  bH : Binds K fdH ["self", "name"] []
  sH : PySem.W.findIn K (.ref C) "__contains__" = some (some (.ref fH))
  fH : PySem.W.isFn K (.ref fH) = true
  GL : FnOk P w K mg base CX0 1 fL fdL ["self"] (spLen C)
  bL : Binds K fdL ["self"] []
  sL : PySem.W.findIn K (.ref C) "__len__" = some (some (.ref fL))
  fL : PySem.W.isFn K (.ref fL) = true
/-- these choices are the ones that forms speak of -/
structure ChIs (N : Nat) (ks : Nat → Nat) (nm : Nat → Str) (es : List (Row × Addr)) : Prop where
  len : es.length = N
  nm : ∀ i e, es[i]? = some e → e.1.1 = nm i
  ks : ∀ i e, es[i]? = some e → e.1.2.1 = ((ks i : Nat) : Int)
section
variable {P : Program} {w : World} {K : PySem.W.Frag} {mg : Str → Option Value} {base : Heap} {CC C : Addr} {nm : Nat → Str} {N : Nat}
def spConst (CC C : Addr) (nm : Nat → Str) (N : Nat) : Sp := fun vs H Q _ => ∃ (c : Addr) (es : List (Row × Addr)) (nx : Int) (x : V), vs = [.ref c, x] ∧ ChAt CC H c es nx ∧ es.length = N ∧ Vl x ∧ ∀ (H' : Hp) (r : V), Same H H' → FormT C nm N (FDt (.leaf x)) H' r → Q r H'
theorem scCt : FnScope ["choices", "value"] ["choices", "value"] (defScope sConst) := ⟨rfl, rfl, rfl, by decide +kernel, rfl, by decide +kernel, by decide +kernel⟩
theorem one_form {H : Hp} {C p dx t1 t2 t3 : Addr} {x : V} (h : Vl x) (hp : H p = some (.ins C dx (ffl t2 t3))) (h1 : H t1 = some (.tup [.str (kindV x), x])) (h2 : H t2 = some (.tup [.ref t1])) (h3 : H t3 = some (.tup [.int (N : Nat)])) : FormT C nm N (FD.one x) H (.ref p) := by
  refine ⟨p, dx, t2, t3, rfl, hp, ⟨⟨[V.ref t1], .inr h2, rfl, fun j v hv => ?_⟩, .inr h3⟩, _, h2⟩
  cases j with
  | zero =>
    cases hv
    exact ⟨h, t1, rfl, h1⟩
  | succ j => exact nomatch hv
theorem make_same {H : Hp} {C p dp t2 t3 : Addr} (hp : H p = none) (hdp : H dp = none) : Same H (upd (upd (upd (upd H dp (.own p)) p (.ins C dp [])) p (.ins C dp (putF "nodes" (.ref t2) []))) p (.ins C dp (ffl t2 t3))) := fun x o e => by
  have n1 := ne_of_none e hp
  have n2 := ne_of_none e hdp
  rw [upd_ne n1, upd_ne n1, upd_ne n1, upd_ne n2]
  exact e
theorem ok_const {f fN fF fH fL : Addr} {fd fdN fdF fdH fdL : FuncData} (F : Fun K "constant" "constant" sConst f fd) (T : KitT K) (UN : Use P w K mg base "kind_of" 1 fN fdN ["value"] (spKind K)) (KF : FormK P w K mg base C fF fdF) (O : Own2 P w K mg base CC fH fL fdH fdL) (zLen : mg "len" = none) :
    FnOk P w K mg base CX0 3 f fd ["choices", "value"] (spConst CC C nm N) := by
  refine F.ok scCt (fun vs H Q E h => ?_) (fun cdv A outer s H vs Q E hr h => ?_)
  · obtain ⟨c, es, nx, x, rfl, _⟩ := h
    rfl
  · obtain ⟨c, es, nx, x, rfl, hc, hN, hx, k⟩ := h
    refine ⟨_, pss_one (ps_ret (pe_make KF.M KF.G (hr.mono (by omega)) (by rfl) KF.g KF.b .nil pass0
      (pa_cons (pe_tup (pa_cons (pe_tup (pa_cons (pe_call UN.G (hr.mono (by omega)) (by rfl) UN.g UN.kp UN.b .nil pass0 (pa_cons (pv 1) pa_nil)) (pa_cons (pv 1) pa_nil))) pa_nil))
      (pa_cons (pe_tup (pa_cons (pe_callB (call_lenOwn O.GL (hr.mono (by omega)) O.bL pass0 O.sL O.fL) (by rfl) zLen PySem.boot_len (pa_cons (pv 0) pa_nil)) pa_nil)) pa_nil)))), ?_⟩
    refine ⟨_, rfl, ?_⟩
    unfold tNil
    simp only [List.append_nil]
    refine kind_of T (Val.of hx) ⟨_, rfl, (by show 2 ≤ sizeLine; decide), fun t1 ht1 => ⟨(by show 1 ≤ sizeLine; decide), fun t2 ht2 => ?_⟩⟩
    have s1 := same_new (o := HO.tup [V.str (kindV x), x]) ht1
    have u1 : upd H t1 (.tup [V.str (kindV x), x]) t1 = some (.tup [V.str (kindV x), x]) := upd_same
    generalize upd H t1 (.tup [V.str (kindV x), x]) = H1 at s1 u1 ht2 ⊢
    have s2 := same_new (o := HO.tup [V.ref t1]) ht2
    have u2 : upd H1 t2 (.tup [V.ref t1]) t2 = some (.tup [V.ref t1]) := upd_same
    generalize upd H1 t2 (.tup [V.ref t1]) = H2 at s2 u2 ⊢
    have s12 : Same H H2 := fun b o e => s2 _ _ (s1 _ _ e)
    obtain ⟨dx, tn, td, hcc, cp⟩ := hc
    have cp2 := cp.same s12
    have hle := cp.le
    refine ⟨_, rfl, c, dx, _, rfl, s12 _ _ hcc, c, nx, es, rfl, ⟨dx, tn, td, s12 _ _ hcc, cp2⟩, _, rfl, by omega, by omega, (by show 1 ≤ sizeLine; decide), fun t3 ht3 => ?_⟩
    rw [hN]
    have s3 := same_new (o := HO.tup [V.int (N : Nat)]) ht3
    have u3 : upd H2 t3 (.tup [V.int (N : Nat)]) t3 = some (.tup [V.int (N : Nat)]) := upd_same
    replace ht3 : upd H2 t3 (.tup [V.int (N : Nat)]) t3 = some (.tup [V.int (N : Nat)]) := upd_same
    refine fun p dp hp hdp hne => ⟨p, dp, t2, t3, rfl, upd_same, rfl, ?_⟩
    replace hp : upd H2 t3 (.tup [V.int (N : Nat)]) p = none := hp
    replace hdp : upd H2 t3 (.tup [V.int (N : Nat)]) dp = none := hdp
    generalize upd H2 t3 (.tup [V.int (N : Nat)]) = H3 at s3 u3 hp hdp ⊢
    have s4 := make_same (C := C) (t2 := t2) (t3 := t3) hp hdp
    refine k _ _ (fun b o e => s4 _ _ (s3 _ _ (s12 _ _ e))) ?_
    rw [FDt_leaf]
    exact one_form hx upd_same (s4 _ _ (s3 _ _ (s2 _ _ u1))) (s4 _ _ (s3 _ _ u2)) (s4 _ _ u3)
abbrev NBr : List Str := ["choices", "name", "values", "nodes", "levels", "above", "value", "_"]
theorem scBr : FnScope NBr ["choices", "name", "values"] (defScope sBranch) := ⟨rfl, rfl, rfl, by decide +kernel, rfl, by decide +kernel, by decide +kernel⟩
end
end R52
namespace R52
open PySem L2 L3 FT
open C8 (pss_cut tCut pe_gc)
abbrev sRank : Stmt := top 10
abbrev sInOrder : Stmt := top 11
def rkV : V → Int × Key
  | .non => (0, .inl 0)
  | .int i => (1, .inl i)
  | .str z => (2, .inr z)
  | .bl b => (3, .inl (if b = true then 1 else 0))
  | _ => (4, .inl 0)
def spRank : Sp := fun vs H Q _ => ∃ x : V, vs = [x] ∧ Val x ∧ ∀ p, H p = none → Q (.ref p) (upd H p (.tup [.int (rkV x).1, kV (rkV x).2]))
section
variable {P : Program} {w : World} {K : PySem.W.Frag} {mg : Str → Option Value} {base : Heap}
theorem scRk : FnScope ["value", "kind"] ["value"] (defScope sRank) := ⟨rfl, rfl, rfl, by decide +kernel, rfl, by decide +kernel, by decide +kernel⟩
theorem ok_rank {f fN : Addr} {fd fdN : FuncData} (F : Fun K "rank" "rank" sRank f fd) (T : KitT K) (zInt : mg "int" = none) (GN : FnOk P w K mg base CX0 1 fN fdN ["value"] (spKind K)) (kN : PySem.W.keepIn K (.ref fN) = true) (bN : Binds K fdN ["value"] []) (gN : mg "kind_of" = some (.ref fN)) :
    FnOk P w K mg base CX0 2 f fd ["value"] spRank := by
  refine F.ok scRk (fun vs H Q E h => ?_) (fun cdv A outer s H vs Q E hr h => ?_)
  · obtain ⟨x, rfl, _⟩ := h
    rfl
  · obtain ⟨x, rfl, hx, k⟩ := h
    have nd := scRk.nd
    refine ⟨_, pss_cons (ps_set (i := 1) nd rfl (.inl rfl) (pe_call GN hr (by rfl) gN kN bN .nil pass0 (pa_cons (pv 0) pa_nil)))
      (pss_cons (ps_if (pt_cmpR op_eq (pv 1) pe_str (nomark _)) (pss_one (ps_ret (pe_tup (pa_cons pe_int (pa_cons pe_int pa_nil))))) pss_nil)
      (pss_cons (ps_if (pt_cmpR op_eq (pv 1) pe_str (nomark _)) (pss_one (ps_ret (pe_tup (pa_cons pe_int (pa_cons (pv 0) pa_nil))))) pss_nil)
      (pss_cons (ps_if (pt_cmpR op_eq (pv 1) pe_str (nomark _)) (pss_one (ps_ret (pe_tup (pa_cons pe_int (pa_cons (pv 0) pa_nil))))) pss_nil)
      (pss_one (ps_ret (pe_tup (pa_cons pe_int (pa_cons (pe_callTy call_int1 (by rfl) zInt PyProof.Rows.boot_int (pa_cons (pv 0) pa_nil)) pa_nil)))))))), ?_⟩
    cases hx with
    | non => exact ⟨_, rfl, _, rfl, .inl ⟨rfl, ⟨_, rfl, rfl, _, rfl, ifT (by decide +kernel) ⟨(by show 2 ≤ sizeLine; decide), k⟩⟩⟩⟩
    | int i => exact ⟨_, rfl, _, rfl, .inr ⟨_, _, _, cls_int T i, ⟨_, rfl, rfl, _, rfl, ifF (by decide +kernel) ⟨_, rfl, rfl, _, rfl, ifT (by decide +kernel) ⟨_, rfl, (by show 2 ≤ sizeLine; decide), k⟩⟩⟩⟩⟩
    | str z => exact ⟨_, rfl, _, rfl, .inr ⟨_, _, _, cls_str T z, ⟨_, rfl, rfl, _, rfl, ifF (by decide +kernel) ⟨_, rfl, rfl, _, rfl, ifF (by decide +kernel) ⟨_, rfl, rfl, _, rfl, ifT (by decide +kernel) ⟨_, rfl, (by show 2 ≤ sizeLine; decide), k⟩⟩⟩⟩⟩⟩
    | bl b => exact ⟨_, rfl, _, rfl, .inr ⟨_, _, _, cls_bl T b, ⟨_, rfl, rfl, _, rfl, ifF (by decide +kernel) ⟨_, rfl, rfl, _, rfl, ifF (by decide +kernel) ⟨_, rfl, rfl, _, rfl, ifF (by decide +kernel) ⟨_, rfl, .inr ⟨_, rfl, (by show 2 ≤ sizeLine; decide), k⟩⟩⟩⟩⟩⟩⟩
end
end R52
namespace L3
open PySem PySem.Spec PyProof.Rows L2
def ltN : List Nat → List Nat → Bool := fun a b => decide (a < b)
theorem nat_tri : ∀ a b : List Nat, a < b ∨ a = b ∨ b < a
  | [], [] => .inr (.inl rfl)
  | [], _ :: _ => .inl (List.nil_lt_cons _ _)
  | _ :: _, [] => .inr (.inr (List.nil_lt_cons _ _))
  | x :: xs, y :: ys => by
    rcases Nat.lt_trichotomy x y with h | rfl | h
    · exact .inl (List.cons_lt_cons_iff.mpr (.inl h))
    · rcases nat_tri xs ys with q | rfl | q
      · exact .inl (List.cons_lt_cons_iff.mpr (.inr ⟨rfl, q⟩))
      · exact .inr (.inl rfl)
      · exact .inr (.inr (List.cons_lt_cons_iff.mpr (.inr ⟨rfl, q⟩)))
    · exact .inr (.inr (List.cons_lt_cons_iff.mpr (.inl h)))
/-- numbers ahead of texts -/
def ltKey : Key → Key → Bool
  | .inl a, .inl b => decide (a < b)
  | .inl _, .inr _ => true
  | .inr _, .inl _ => false
  | .inr a, .inr b => ltN a.cps.toList b.cps.toList
theorem cps_eq {x y : Str} (h : x.cps.toList = y.cps.toList) : x = y := by
  obtain ⟨a⟩ := x
  obtain ⟨b⟩ := y
  exact congrArg Str.mk (Array.toList_inj.mp h)
theorem ltKey_irr (a : Key) : ltKey a a = false := by
  rcases a with a | a
  · exact decide_eq_false (Int.lt_irrefl a)
  · exact decide_eq_false (List.lt_irrefl _)
theorem ltKey_tr {a b c : Key} (h : ltKey a b = true) (k : ltKey b c = true) : ltKey a c = true := by
  match a, b, c, h, k with
  | .inl a, .inl b, .inl c, h, k => exact decide_eq_true (Int.lt_trans (of_decide_eq_true h) (of_decide_eq_true k))
  | .inl a, .inl b, .inr c, h, k => rfl
  | .inl a, .inr b, .inr c, h, k => rfl
  | .inr a, .inr b, .inr c, h, k => exact decide_eq_true (List.lt_trans (of_decide_eq_true h) (of_decide_eq_true k))
theorem ltKey_tri (a b : Key) : ltKey a b = true ∨ a = b ∨ ltKey b a = true := by
  rcases a with a | a <;> rcases b with b | b
  · rcases Int.lt_trichotomy a b with h | rfl | h
    · exact .inl (decide_eq_true h)
    · exact .inr (.inl rfl)
    · exact .inr (.inr (decide_eq_true h))
  · exact .inl rfl
  · exact .inr (.inr rfl)
  · rcases nat_tri a.cps.toList b.cps.toList with h | h | h
    · exact .inl (decide_eq_true h)
    · exact .inr (.inl (congrArg _ (cps_eq h)))
    · exact .inr (.inr (decide_eq_true h))
/-- by the number ahead, then by the second item -/
def ltRk (p q : Int × Key) : Bool := if p.1 = q.1 then ltKey p.2 q.2 else decide (p.1 < q.1)
theorem ltRk_iff {p q : Int × Key} : ltRk p q = true ↔ p.1 < q.1 ∨ (p.1 = q.1 ∧ ltKey p.2 q.2 = true) := by
  unfold ltRk
  by_cases e : p.1 = q.1
  · rw [if_pos e]
    exact ⟨fun h => .inr ⟨e, h⟩, fun h => h.elim (fun z => by omega) fun z => z.2⟩
  · rw [if_neg e, decide_eq_true_eq]
    exact ⟨.inl, fun h => h.elim id fun z => absurd z.1 e⟩
theorem ltRk_irr (p : Int × Key) : ltRk p p = false := by
  unfold ltRk
  rw [if_pos rfl]
  exact ltKey_irr _
theorem ltRk_tr {p q r : Int × Key} (h : ltRk p q = true) (k : ltRk q r = true) : ltRk p r = true := by
  rw [ltRk_iff] at h k ⊢
  rcases h with h | ⟨e, h⟩ <;> rcases k with k | ⟨e2, k⟩
  · exact .inl (by omega)
  · exact .inl (by omega)
  · exact .inl (by omega)
  · exact .inr ⟨e.trans e2, ltKey_tr h k⟩
theorem ltRk_tri (p q : Int × Key) : ltRk p q = true ∨ p = q ∨ ltRk q p = true := by
  rcases Int.lt_trichotomy p.1 q.1 with h | h | h
  · exact .inl (ltRk_iff.mpr (.inl h))
  · rcases ltKey_tri p.2 q.2 with k | k | k
    · exact .inl (ltRk_iff.mpr (.inr ⟨h, k⟩))
    · exact .inr (.inl (Prod.ext h k))
    · exact .inr (.inr (ltRk_iff.mpr (.inr ⟨h.symm, k⟩)))
  · exact .inr (.inr (ltRk_iff.mpr (.inl h)))
/-- a total order carried over a function -/
theorem swo_of {α β : Type} {lt : β → β → Bool} (irr : ∀ a, lt a a = false) (tr : ∀ a b c, lt a b = true → lt b c = true → lt a c = true) (tri : ∀ a b, lt a b = true ∨ a = b ∨ lt b a = true) (k : α → β) : SrtO.Swo fun v u => lt (k v) (k u) := by
  refine ⟨fun x y h => ?_, fun x y z h1 h2 => ?_⟩
  · cases q : lt (k y) (k x) with
    | false => rfl
    | true => exact (Bool.false_ne_true ((irr _).symm.trans (tr _ _ _ h q))).elim
  · cases q : lt (k z) (k x) with
    | false => rfl
    | true =>
      exfalso
      rcases tri (k y) (k z) with h | h | h
      · exact Bool.false_ne_true (h1.symm.trans (tr _ _ _ h q))
      · rw [h] at h1
        exact Bool.false_ne_true (h1.symm.trans q)
      · exact Bool.false_ne_true (h2.symm.trans h)
theorem swo_rk {α : Type} (k : α → Int × Key) : SrtO.Swo fun v u => ltRk (k v) (k u) := swo_of ltRk_irr (fun _ _ _ => ltRk_tr) ltRk_tri k
def RkAt (h : Heap) (v : Value) (p : Int × Key) : Prop := ∃ (a : Addr) (o : Obj) (t : Tok) (u : Value) (n : Nat), v = .ref a ∧ h.get? a = some o ∧ o.cls = .type "tuple" ∧ o.data = .seq #[.int p.1 t, u] n ∧ RelV (kV p.2) u
def OneKind (p q : Int × Key) : Prop := p.1 = q.1 → p.2.isLeft = q.2.isLeft
section
variable {P : Program} {w : World} {A : Around} {s : Shared}
theorem rk_cmp {vs : List Value} {k : Value → Int × Key} (hp : ∀ v ∈ vs, RkAt s.heap v (k v)) (hk : ∀ v ∈ vs, ∀ u ∈ vs, OneKind (k v) (k u)) : SrtO.Cmp P w A s (tuples' true) (fun p => p.1 ∈ vs) (SrtO.lt2 fun v u => ltRk (k v) (k u)) := by
  intro p q hm hm'
  have one := hk _ hm _ hm'
  obtain ⟨a, o, t, u, n, e, g1, _, g2, ru⟩ := hp _ hm
  obtain ⟨b, o', t', u', n', e', g1', _, g2', ru'⟩ := hp _ hm'
  show wpAny (model P w) A (keyLt' (tuples' true) p.1 q.1) (fun r s' => s' = s ∧ r = ltRk (k p.1) (k q.1)) (fun _ _ => False) s
  generalize k p.1 = x at one g2 ru ⊢
  generalize k q.1 = y at one g2' ru' ⊢
  rw [e, e']
  obtain ⟨x1, x2⟩ := x
  obtain ⟨y1, y2⟩ := y
  refine PySem.W.kat_lt g1 g2 g1' g2' ?_
  show PySem.W.KatLex P w A true (decide (2 < 2)) _ [(.int x1 t, .int y1 t'), (u, u')] 0 s
  refine PySem.W.kat_cons (wpAny_eqBool_int (PySem.W.kat_go (fun z => ?_) fun z => ?_))
  · obtain rfl : x1 = y1 := by simpa using z
    have pick : ltRk (x1, x2) (x1, y2) = ltKey x2 y2 := if_pos rfl
    rw [pick]
    have one := one rfl
    match x2, y2, one, ru, ru' with
    | .inl i, .inl j, _, ru, ru' =>
      obtain ⟨t1, rfl⟩ := ru
      obtain ⟨t2, rfl⟩ := ru'
      refine PySem.W.kat_yes (PySem.W.kat_cons (wpAny_eqBool_int (PySem.W.kat_go (fun z => ?_) fun z => PySem.W.kat_no (oneLt_any_int ⟨rfl, rfl⟩))))
      obtain rfl : i = j := by simpa using z
      exact PySem.W.kat_yes (PySem.W.kat_nil ⟨rfl, (ltKey_irr (.inl i)).symm⟩)
    | .inr i, .inr j, _, ru, ru' =>
      obtain ⟨t1, rfl⟩ := ru
      obtain ⟨t2, rfl⟩ := ru'
      refine PySem.W.kat_yes (PySem.W.kat_cons (wpAny_eqBool_str (PySem.W.kat_go (fun z => ?_) fun z => PySem.W.kat_no (oneLt_any_str ⟨rfl, rfl⟩))))
      obtain rfl : i = j := of_decide_eq_true z
      exact PySem.W.kat_yes (PySem.W.kat_nil ⟨rfl, (ltKey_irr (.inr i)).symm⟩)
  · have ne : ¬ x1 = y1 := by simpa using z
    have pick : ltRk (x1, x2) (y1, y2) = decide (x1 < y1) := if_neg ne
    rw [pick]
    exact PySem.W.kat_no (oneLt_any_int ⟨rfl, rfl⟩)
theorem rk_firsts {h : Heap} {k : Value → Int × Key} : ∀ {vs : List Value}, (∀ v ∈ vs, RkAt h v (k v)) → ∃ fs, PySem.W.KatTups h vs fs ∧ fs.length = vs.length ∧ ∀ f ∈ fs, ∃ i t, f = Value.int i t
  | [], _ => ⟨[], trivial, rfl, fun f m => nomatch m⟩
  | v :: vs, hp => by
    obtain ⟨fs, h1, h2, h3⟩ := rk_firsts fun v m => hp v (List.mem_cons_of_mem _ m)
    obtain ⟨a, o, t, u, n, e, g1, g2, g3, _⟩ := hp v List.mem_cons_self
    refine ⟨.int (k v).1 t :: fs, ?_, congrArg (· + 1) h2, fun f m => ?_⟩
    · refine ⟨⟨a, o, _, n, e, g1, g2, g3, ?_⟩, h1⟩
      rw [e]
      rfl
    · rcases List.mem_cons.mp m with rfl | m
      · exact ⟨_, _, rfl⟩
      · exact h3 f m
theorem RkAt.keep {h h' : Heap} {v : Value} {p : Int × Key} (r : RkAt h v p) (k : ∀ b o, h.get? b = some o → o.cls = .type "tuple" → h'.get? b = some o) : RkAt h' v p := by
  obtain ⟨a, o, t, u, n, e, g1, g2, r⟩ := r
  exact ⟨a, o, t, u, n, e, k a o g1 g2, g2, r⟩
end
/-- sorted(xs) of such pairs (k says which): a new list, sorted, what is alike in its order -/
def rSortedRk (K : PySem.W.Frag) : List V → Hp → VK → Prop := fun vs H Q => ∃ (a : Addr) (xs : List V) (k : V → Int × Key), vs = [.ref a] ∧ SqL K H a xs ∧ (∀ x ∈ xs, ∃ t, x = .ref t ∧ H t = some (.tup [.int (k x).1, kV (k x).2])) ∧ (∀ x ∈ xs, ∀ y ∈ xs, OneKind (k x) (k y)) ∧
  ∀ ys p, SrtO.Srtd (fun x y => ltRk (k x) (k y)) ys → SrtO.Stb (fun x y => ltRk (k x) (k y)) ys xs → H p = none → Q (.ref p) (upd H p (.lst ys))
theorem cr_sortedRk {X : Cx} : CallR X (.builtin "sorted") (rSortedRk X.K) := by
  intro pins s σ H vs us Q I r h
  obtain ⟨a, xs, k, rfl, hs, hx, one, q⟩ := h
  obtain ⟨its, rv, hl, hz⟩ := I.list hs
  obtain ⟨u, rfl, ru⟩ := vals1 r
  obtain rfl : u = Value.ref a := ru
  obtain ⟨e1, e2⟩ := refs_back rv fun x m => let ⟨t, e, _⟩ := hx x m; ⟨t, e⟩
  have back : ∀ v ∈ its, backV v ∈ xs := fun v m => by rw [e1]; exact List.mem_map.mpr ⟨v, m, rfl⟩
  have at1 : ∀ v ∈ its, RkAt s.heap v (k (backV v)) := fun v m => by
    obtain ⟨t, rfl⟩ := e2 v m
    obtain ⟨t', e, ht⟩ := hx _ (back _ m)
    cases e
    obtain ⟨_, ws, rw', o, g1, g2, n, g3⟩ := I.hok _ _ ht
    obtain ⟨u1, u2, rfl, ⟨t1, rfl⟩, rj⟩ := vals2 rw'
    exact ⟨t, o, t1, u2, n, rfl, g1, g2, g3, rj⟩
  have one' : ∀ v ∈ its, ∀ u ∈ its, OneKind (k (backV v)) (k (backV u)) := fun v m u m' => one _ (back v m) _ (back u m')
  refine SrtO.sorted_ord (swo_rk fun v => k (backV v)) hl.isList (by rw [← rv.length]; exact hz) (fun h2 hA b hb keep h' kk => ?_) fun out srt stb => ?_
  · have at2 : ∀ v ∈ its, RkAt h' v (k (backV v)) := fun v m => (at1 v m).keep fun c o e1 e2 => kk c o (keep c o e1).1 (keep c o e1).2
    obtain ⟨fs, f1, f2, f3⟩ := rk_firsts at2
    refine ⟨tuples' true, fun Q' E' hq => PySem.W.kat_kind (T := .type "int") f1 (by omega) (fun f m => ?_) (by rfl) ?_, rk_cmp at2 one'⟩
    · obtain ⟨i, t, rfl⟩ := f3 f m
      exact PySem.W.Looks.now
    · have e : (Value.type "int" != Value.type "tuple") = true := by decide +kernel
      rw [e]
      exact hq
  · have refs : ∀ u ∈ out, ∃ a, u = Value.ref a := fun u m => e2 u (stb.perm.mem_iff.mp m)
    have sb : SrtO.Stb (fun x y => ltRk (k x) (k y)) (out.map backV) xs := by
      rw [e1]
      exact SrtO.Stb.map (swo_rk k) backV stb
    refine ⟨.ref _, upd H (s.heap.objs.size + 1) (.lst (out.map backV)), I.laid (t' := s.toks) (fun b o e => PyProof.Rows.sortedAll_old e) (Nat.le_succ _) ?_, rfl, q _ _ (SrtO.srtd_map srt) sb (I.hok.fresh (Nat.le_succ _))⟩
    obtain ⟨n, hn⟩ := PyProof.Rows.sortedAll_at s.heap its out.toArray
    exact ⟨by rw [sb.len]; exact hz, out, n, vals_back refs, hn⟩
end L3
namespace L3
open PySem PySem.Spec PyProof.Rows L2
/-- sorted(xs), xs the things val b for b in bs, which read as enc b: a new list -/
def rSortedD (K : PySem.W.Frag) : List V → Hp → VK → Prop := fun vs H Q => ∃ (a : Addr) (β : Type) (bs : List β) (val : β → V) (enc : β → PyData), vs = [.ref a] ∧ SqL K H a (bs.map val) ∧ (∀ b ∈ bs, Dp K H (val b) (enc b)) ∧ PySem.W.AllAlike (bs.map enc) ∧ PySem.W.Sortable (bs.map enc) ∧ (∀ b ∈ bs, (enc b).depth ≤ 50) ∧
  ∀ p, H p = none → Q (.ref p) (upd H p (.lst ((bs.mergeSort (PySem.W.dataLe false enc)).map val)))
theorem each_vals {β : Type} {val : β → V} : ∀ {us : List Value} {bs : List β}, Vals (bs.map val) us → PySem.W.EachIs (fun v b => RelV (val b) v) us bs
  | [], [], _ => .nil
  | _ :: _, _ :: _, .cons r t => .cons r (each_vals t)
theorem vals_each {β : Type} {val : β → V} : ∀ {us : List Value} {bs : List β}, PySem.W.EachIs (fun v b => RelV (val b) v) us bs → Vals (bs.map val) us
  | _, _, .nil => .nil
  | _, _, .cons r t => .cons r (vals_each t)
theorem each_mem {α β : Type} {R R' : α → β → Prop} : ∀ {as : List α} {bs : List β}, PySem.W.EachIs R as bs → (∀ a, ∀ b ∈ bs, R a b → R' a b) → PySem.W.EachIs R' as bs
  | _, _, .nil, _ => .nil
  | _, _, .cons r t, h => .cons (h _ _ List.mem_cons_self r) (each_mem t fun a b m => h a b (List.mem_cons_of_mem _ m))
theorem cr_sortedD {X : Cx} (hu : X.A.units + 64 < cLine) : CallR X (.builtin "sorted") (rSortedD X.K) := by
  intro pins s σ H vs us Q I r h
  obtain ⟨a, β, bs, val, enc, rfl, hs, hd, al, so, dep, q⟩ := h
  obtain ⟨its, rv, hl, hz⟩ := I.list hs
  obtain ⟨u, rfl, ru⟩ := vals1 r
  obtain rfl : u = Value.ref a := ru
  have e := each_vals rv
  refine PySem.W.sorted_data (R := fun v b => RelV (val b) v) hl.isList e (each_mem e fun v b m rr => Dp.reads I _ _ _ (hd b m) rr) al so (by rw [List.length_map] at hz; exact hz) (fun b m => ?_) fun out ol eo => ?_
  · have := dep b m
    omega
  · refine ⟨.ref _, upd H (s.heap.objs.size + 1) (.lst ((bs.mergeSort (PySem.W.dataLe false enc)).map val)), I.laid (t' := s.toks) (fun b o z => PyProof.Rows.sortedAll_old z) (Nat.le_succ _) ?_, rfl, q _ (I.hok.fresh (Nat.le_succ _))⟩
    obtain ⟨n, hn⟩ := PyProof.Rows.sortedAll_at s.heap its (List.toArray out)
    refine ⟨?_, out, n, vals_each eo, hn⟩
    rw [List.length_map, (List.mergeSort_perm _ _).length_eq]
    rw [List.length_map] at hz
    exact hz
end L3
namespace R52
open PySem L2 L3 FT
open C8 (pss_cut tCut pe_gc)
def keyL (x : V) : List Key := [.inl (rkV x).1, (rkV x).2]
theorem rk_inj {x y : V} (hx : Val x) (hy : Val y) (e : rkV x = rkV y) : x = y := by
  cases hx <;> cases hy <;> simp [rkV] at e <;> try rfl
  · rename_i a b
    cases a <;> cases b <;> simp at e <;> rfl
  · rw [e]
  · rw [e]
theorem keyL_inj {x y : V} (hx : Val x) (hy : Val y) (e : keyL x = keyL y) : x = y := by
  unfold keyL at e
  injection e with e1 e2
  injection e2 with e2 _
  exact rk_inj hx hy (Prod.ext (Sum.inl.inj e1) e2)
theorem rk_one {x y : V} (hx : Val x) (hy : Val y) : OneKind (rkV x) (rkV y) := by
  intro e
  cases hx <;> cases hy <;> simp [rkV] at e <;> rfl
def ltV (x y : V) : Bool := ltRk (rkV x) (rkV y)
/-- the values of xs in order, each once -/
structure InOrd (zs xs : List V) : Prop where
  up : zs.Pairwise fun x y => ltV x y = true
  mem : ∀ x, x ∈ zs ↔ x ∈ xs
theorem up_uniq {as : List V} : ∀ {bs : List V}, (as.Pairwise fun x y => ltV x y = true) → (bs.Pairwise fun x y => ltV x y = true) → (∀ x, x ∈ as ↔ x ∈ bs) → as = bs := by
  induction as with
  | nil =>
    intro bs _ _ h
    cases bs with
    | nil => rfl
    | cons b s => exact absurd ((h b).mpr List.mem_cons_self) (by simp)
  | cons a r ih =>
    intro bs ha hb h
    cases bs with
    | nil => exact absurd ((h a).mp List.mem_cons_self) (by simp)
    | cons b s =>
      obtain ⟨ha1, ha2⟩ := List.pairwise_cons.mp ha
      obtain ⟨hb1, hb2⟩ := List.pairwise_cons.mp hb
      have irr : ∀ x, ltV x x = false := fun x => ltRk_irr _
      have e : a = b := by
        rcases List.mem_cons.mp ((h a).mp List.mem_cons_self) with e | m
        · exact e
        rcases List.mem_cons.mp ((h b).mpr List.mem_cons_self) with e | m'
        · exact e.symm
        have q := ltRk_tr (hb1 a m) (ha1 b m')
        exact absurd (q.symm.trans (irr b)) (by decide)
      subst e
      congr 1
      refine ih ha2 hb2 fun x => ⟨fun m => ?_, fun m => ?_⟩
      · rcases List.mem_cons.mp ((h x).mp (List.mem_cons_of_mem _ m)) with e | q
        · subst e
          exact absurd ((ha1 x m).symm.trans (irr x)) (by decide)
        · exact q
      · rcases List.mem_cons.mp ((h x).mpr (List.mem_cons_of_mem _ m)) with e | q
        · subst e
          exact absurd ((hb1 x m).symm.trans (irr x)) (by decide)
        · exact q
theorem InOrd.uniq {as bs xs : List V} (h : InOrd as xs) (k : InOrd bs xs) : as = bs := up_uniq h.up k.up fun x => (h.mem x).trans (k.mem x).symm
structure InvD (xs : List V) (kvs : List (List Key × V)) : Prop where
  n : (kvs.map (·.1)).Nodup
  m : ∀ p ∈ kvs, Val p.2 ∧ p.1 = keyL p.2 ∧ p.2 ∈ xs
  t : ∀ x ∈ xs, (keyL x, x) ∈ kvs
theorem InvD.nil : InvD [] [] := ⟨.nil, fun p h => (nomatch h), fun x h => (nomatch h)⟩
theorem mem_valV {kvs : List (List Key × V)} {k : List Key} {v : V} (h : valV kvs k = some v) : (k, v) ∈ kvs := by
  unfold valV at h
  cases e : kvs.find? fun kv => decide (kv.1 = k) with
  | none => rw [e] at h; cases h
  | some p =>
    rw [e] at h
    have m := List.mem_of_find?_eq_some e
    have q0 : decide (p.1 = k) = true := List.find?_some (p := fun kv : List Key × V => decide (kv.1 = k)) e
    have q := of_decide_eq_true q0
    cases h
    cases q
    exact m
theorem valV_mem {kvs : List (List Key × V)} {k : List Key} {v : V} (n : (kvs.map (·.1)).Nodup) (h : (k, v) ∈ kvs) : valV kvs k = some v := by
  induction kvs with
  | nil => cases h
  | cons p r ih =>
    rw [List.map_cons] at n
    obtain ⟨n1, n2⟩ := List.nodup_cons.mp n
    rcases List.mem_cons.mp h with e | m
    · subst e
      exact valV_pos rfl
    · have ne : ¬ p.1 = k := fun e => n1 (by rw [e]; exact List.mem_map.mpr ⟨_, m, rfl⟩)
      rw [valV_neg ne]
      exact ih n2 m
theorem InvD.put {xs : List V} {kvs : List (List Key × V)} {x : V} (h : InvD xs kvs) (hx : Val x) : InvD (xs ++ [x]) (putK kvs (keyL x) x) := by
  cases e : valV kvs (keyL x) with
  | none =>
    rw [putK_new x e]
    have no : ¬ keyL x ∈ kvs.map (·.1) := fun m => by
      obtain ⟨p, mp, ep⟩ := List.mem_map.mp m
      have q := valV_mem (k := keyL x) (v := p.2) h.n (by rw [← ep]; exact mp)
      rw [e] at q
      cases q
    refine ⟨?_, fun p m => ?_, fun y m => ?_⟩
    · rw [List.map_append]
      refine List.nodup_append.mpr ⟨h.n, by simp, fun a ha b hb => ?_⟩
      simp at hb
      subst hb
      exact fun z => no (z ▸ ha)
    · rcases List.mem_append.mp m with m | m
      · obtain ⟨a, b, c⟩ := h.m p m
        exact ⟨a, b, List.mem_append_left _ c⟩
      · cases List.mem_singleton.mp m
        exact ⟨hx, rfl, List.mem_append_right _ (List.mem_singleton.mpr rfl)⟩
    · rcases List.mem_append.mp m with m | m
      · exact List.mem_append_left _ (h.t y m)
      · cases List.mem_singleton.mp m
        exact List.mem_append_right _ (List.mem_singleton.mpr rfl)
  | some v =>
    have mv := mem_valV e
    obtain ⟨vv, ek, mx⟩ := h.m _ mv
    obtain rfl : x = v := keyL_inj hx vv ek
    have same : putK kvs (keyL x) x = kvs := by
      unfold putK
      have hany : (kvs.any fun kv => decide (kv.1 = keyL x)) = true := by rw [valV_any, e]; rfl
      rw [if_pos hany]
      have idm : ∀ p ∈ kvs, (if p.1 = keyL x then (p.1, x) else p) = p := fun p mp => by
        split
        · rename_i z
          obtain ⟨a, b, _⟩ := h.m p mp
          have q : p.2 = x := keyL_inj a hx (b.symm.trans z)
          rw [← q]
        · rfl
      exact (List.map_congr_left idm).trans (List.map_id kvs)
    rw [same]
    refine ⟨h.n, fun p m => ?_, fun y m => ?_⟩
    · obtain ⟨a, b, c⟩ := h.m p m
      exact ⟨a, b, List.mem_append_left _ c⟩
    · rcases List.mem_append.mp m with m | m
      · exact h.t y m
      · cases List.mem_singleton.mp m
        exact mv
/-- the rank that stands at an address -/
def rdK (H : Hp) : V → Int × Key
  | .ref t => match H t with
    | some (.tup [.int i, .int j]) => (i, .inl j)
    | some (.tup [.int i, .str z]) => (i, .inr z)
    | _ => (0, .inl 0)
  | _ => (0, .inl 0)
theorem rdK_of {H : Hp} {t : Addr} {x : V} (h : H t = some (.tup ((keyL x).map kV))) : rdK H (.ref t) = rkV x := by
  have e : H t = some (.tup [.int (rkV x).1, kV (rkV x).2]) := h
  unfold rdK
  simp only [e]
  generalize rkV x = p
  obtain ⟨i, j | z⟩ := p <;> rfl
theorem keys_nodup {H : Hp} : ∀ {kvs : List (List Key × V)} {bs : List Addr}, IsKeys H kvs bs → (∀ p ∈ kvs, p.1 = keyL p.2) → (bs.map V.ref).map (rdK H) = kvs.map fun p => rkV p.2
  | [], [], _, _ => rfl
  | p :: r, b :: bs, .cons h t, m => by
    rw [List.map_cons, List.map_cons, List.map_cons, keys_nodup t fun p hp => m p (List.mem_cons_of_mem _ hp)]
    congr 1
    have h' : H b = some (.tup (p.1.map kV)) := h
    rw [m p List.mem_cons_self] at h'
    exact rdK_of h'
theorem keys_mem {H : Hp} : ∀ {kvs : List (List Key × V)} {bs : List Addr}, IsKeys H kvs bs → ∀ b ∈ bs, ∃ p ∈ kvs, H b = some (.tup (p.1.map kV))
  | [], [], _, b, m => nomatch m
  | p :: r, c :: bs, .cons h t, b, m => by
    rcases List.mem_cons.mp m with rfl | m
    · exact ⟨p, List.mem_cons_self, h⟩
    · obtain ⟨q, mq, hq⟩ := keys_mem t b m
      exact ⟨q, List.mem_cons_of_mem _ mq, hq⟩
theorem keys_mem' {H : Hp} : ∀ {kvs : List (List Key × V)} {bs : List Addr}, IsKeys H kvs bs → ∀ p ∈ kvs, ∃ b ∈ bs, H b = some (.tup (p.1.map kV))
  | [], [], _, b, m => nomatch m
  | p :: r, c :: bs, .cons h t, q, m => by
    rcases List.mem_cons.mp m with rfl | m
    · exact ⟨c, List.mem_cons_self, h⟩
    · obtain ⟨b, mb, hb⟩ := keys_mem' t q m
      exact ⟨b, List.mem_cons_of_mem _ mb, hb⟩
/-- the value that a key leads to -/
def atK (kvs : List (List Key × V)) (k : Int × Key) : V := (valV kvs [.inl k.1, k.2]).getD .non
theorem sorted_ord {H : Hp} {xs : List V} {kvs : List (List Key × V)} {bs : List Addr} {ys : List V} (h : InvD xs kvs) (hk : IsKeys H kvs bs) (s : SrtO.Srtd (fun x y => ltRk (rdK H x) (rdK H y)) ys) (p : ys.Perm (bs.map V.ref)) :
    InOrd (ys.map fun y => atK kvs (rdK H y)) xs ∧ ∀ y ∈ ys, ∃ b v, y = .ref b ∧ (keyL v, v) ∈ kvs ∧ rdK H y = rkV v ∧ H b = some (.tup ((keyL v).map kV)) := by
  have each : ∀ y ∈ ys, ∃ b v, y = .ref b ∧ (keyL v, v) ∈ kvs ∧ rdK H y = rkV v ∧ H b = some (.tup ((keyL v).map kV)) := fun y m => by
    obtain ⟨b, mb, rfl⟩ := List.mem_map.mp (p.mem_iff.mp m)
    obtain ⟨q, mq, hb⟩ := keys_mem hk b mb
    obtain ⟨_, e, _⟩ := h.m q mq
    obtain ⟨q1, q2⟩ := q
    have e : q1 = keyL q2 := e
    subst e
    exact ⟨b, q2, rfl, mq, rdK_of hb, hb⟩
  have at_ : ∀ v, (keyL v, v) ∈ kvs → atK kvs (rkV v) = v := fun v m => by
    unfold atK
    rw [show ([.inl (rkV v).1, (rkV v).2] : List Key) = keyL v from rfl, valV_mem h.n m]
    rfl
  have nd : (ys.map (rdK H)).Nodup := by
    refine ((p.map (rdK H)).nodup_iff).mpr ?_
    rw [keys_nodup hk fun q m => (h.m q m).2.1]
    have n := h.n
    have e : kvs.map (·.1) = (kvs.map fun p => rkV p.2).map fun k => ([.inl k.1, k.2] : List Key) := by
      rw [List.map_map]
      exact List.map_congr_left fun q m => (h.m q m).2.1
    rw [e] at n
    exact (List.pairwise_map.mp n).imp fun h e => h (congrArg (fun k : Int × Key => ([.inl k.1, k.2] : List Key)) e)
  refine ⟨⟨?_, fun x => ⟨fun m => ?_, fun m => ?_⟩⟩, each⟩
  · rw [List.pairwise_map]
    have nd' := List.pairwise_map.mp nd
    have both := s.and nd'
    refine List.Pairwise.imp_of_mem (fun {a b} ma mb hab => ?_) both
    obtain ⟨_, va, _, ia, ea, _⟩ := each a ma
    obtain ⟨_, vb, _, ib, eb, _⟩ := each b mb
    obtain ⟨h1, h2⟩ := hab
    have h1 : ltRk (rdK H b) (rdK H a) = false := h1
    show ltV (atK kvs (rdK H a)) (atK kvs (rdK H b)) = true
    rw [ea, eb] at h1 h2 ⊢
    rw [at_ va ia, at_ vb ib]
    rcases ltRk_tri (rkV va) (rkV vb) with z | z | z
    · exact z
    · exact absurd z h2
    · rw [z] at h1
      cases h1
  · obtain ⟨y, my, rfl⟩ := List.mem_map.mp m
    obtain ⟨_, v, _, iv, ev, _⟩ := each y my
    show atK kvs (rdK H y) ∈ xs
    rw [ev, at_ v iv]
    exact (h.m _ iv).2.2
  · have i := h.t x m
    obtain ⟨b, mb, hb⟩ := keys_mem' hk _ i
    refine List.mem_map.mpr ⟨.ref b, p.mem_iff.mpr (List.mem_map.mpr ⟨b, mb, rfl⟩), ?_⟩
    show atK kvs (rdK H (.ref b)) = x
    rw [rdK_of (x := x) hb]
    exact at_ x i
end R52
namespace R52
open PySem L2 L3 FT
open C8 (pss_cut tCut pe_gc)
def spInOrder (K : PySem.W.Frag) : Sp := fun vs H Q _ => ∃ (l : Addr) (xs : List V), vs = [.ref l] ∧ (SqL K H l xs ∨ SqT K H l xs) ∧ (∀ x ∈ xs, Val x) ∧ xs.length ≤ 2000 ∧
  ∀ (p : Addr) (zs : List V) (H' : Hp), H p = none → Same H H' → H' p = some (.lst zs) → InOrd zs xs → Q (.ref p) H'
section
variable {P : Program} {w : World} {K : PySem.W.Frag} {mg : Str → Option Value} {base : Heap}
abbrev NO : List Str := ["values", "ranked", "value", "place"]
theorem scIo : FnScope NO ["values"] (defScope sInOrder) := ⟨rfl, rfl, rfl, by decide +kernel, rfl, by decide +kernel, by decide +kernel⟩
theorem ok_inorder {f fR : Addr} {fd fdR : FuncData} (F : Fun K "in_order" "in_order" sInOrder f fd) (zList : mg "list" = none) (zSorted : mg "sorted" = none) (GR : FnOk P w K mg base CX0 2 fR fdR ["value"] spRank) (kR : PySem.W.keepIn K (.ref fR) = true) (bR : Binds K fdR ["value"] []) (gR : mg "rank" = some (.ref fR)) :
    FnOk P w K mg base CX0 3 f fd ["values"] (spInOrder K) := by
  refine F.ok scIo (fun vs H Q E h => ?_) (fun cdv A outer s H vs Q E hr h => ?_)
  · obtain ⟨x, xs, rfl, _⟩ := h
    rfl
  · obtain ⟨l, xs, rfl, hS, hv, hn, k⟩ := h
    have nd := scIo.nd
    have hu := hu_of hr
    rcases hS with hS | hS
    · refine ⟨_, pss_cons (ps_set (i := 1) nd rfl (.inr rfl) (pe_dd (o0 := .dT []) (own := [("value", 2)]) (g := gName 2) (tt := tYes) (.inr rfl) (by exact hr.units0) rfl nd (pi_list (pv 0)) (blkOk_by (N := NO) (sc := defScope sInOrder) (by decide +kernel)) (fun _ _ _ _ _ => pg_name (i := 2) nd rfl (.inl rfl)) (fun _ _ _ _ _ => pts_nil)
          (fun _ _ _ _ _ => pe_call GR hr (by rfl) gR kR bR .nil pass0 (pa_cons (pv 2) pa_nil)) (fun _ _ _ _ _ => pv 2)))
        (pss_one (ps_ret (pe_lc (own := [("place", 3)]) (g := gName 3) (tt := tYes) rfl nd (pi_list (pe_callB cr_sortedRk (by rfl) zSorted (by decide +kernel) (pa_cons (pe_callTy (call_list_dT rfl) (by rfl) zList PyProof.Rows.boot_list (pa_cons (pv 1) pa_nil)) pa_nil)))
          (blkOk_by (N := NO) (sc := defScope sInOrder) (by decide +kernel)) (fun _ _ _ _ _ => pg_name (i := 3) nd rfl (.inl rfl)) (fun _ _ _ _ _ => pts_nil) (fun _ _ _ _ _ => pe_dget hu (pv 1) (pv 3) (fun _ _ => rfl))))), ?_⟩
      refine ⟨_, rfl, l, rfl, ⟨_, hS⟩, fun D hD => dd_it walk_list (fun i H' => ∃ kvs : List (List Key × V), H' D = some (.dT kvs) ∧ InvD (xs.take i) kvs ∧ kvs.length ≤ i ∧ Same H H') ⟨[], upd_same, InvD.nil, Nat.le_refl _, same_new hD⟩ (fun i H' _ ⟨kvs, _, _, _, s⟩ => s.seq hS) ?_ ?_⟩
      · rintro i x H1 H2 hi ⟨kvs, eD, inv, le, s⟩ ⟨rfl, hx⟩
        have vx : Val x := hv x (List.mem_of_getElem? hx)
        refine ⟨rfl, _, rfl, x, rfl, vx, fun p hp => ⟨_, rfl, _, DPut.t (k := keyL x) ((upd_ne (ne_of_none eD hp)).trans eD) upd_same (by have := sizeLine_eq; omega), putK kvs (keyL x) x, upd_same, ?_, Nat.le_trans (length_putK _ _ _) (Nat.succ_le_succ le), ?_⟩⟩
        · rw [List.take_add_one, hx]
          exact inv.put vx
        · refine fun b u e => ?_
          have nb : b ≠ D := fun z => by rw [z, hD] at e; cases e
          rw [upd_ne nb, upd_ne (ne_of_none (s b u e) hp)]
          exact s b u e
      · rintro H1 ⟨kvs, eD, inv, le, s⟩
        rw [List.take_of_length_le (Nat.le_refl _)] at inv
        refine ⟨_, rfl, D, kvs, rfl, Rd.of eD, fun p bs hp hk => ?_⟩
        have ec : ∀ b ∈ bs, ∃ v, (keyL v, v) ∈ kvs ∧ rdK H1 (.ref b) = rkV v ∧ H1 b = some (.tup ((keyL v).map kV)) := fun b mb => by
          obtain ⟨q, mq, hb⟩ := keys_mem hk b mb
          obtain ⟨_, e, _⟩ := inv.m q mq
          obtain ⟨q1, q2⟩ := q
          have e : q1 = keyL q2 := e
          subst e
          exact ⟨q2, mq, rdK_of hb, hb⟩
        refine ⟨p, bs.map V.ref, rdK H1, rfl, SqL.of upd_same, fun x m => ?_, fun x m y m' => ?_, fun ys q s1 s2 hq => ?_⟩
        · obtain ⟨b, mb, rfl⟩ := List.mem_map.mp m
          obtain ⟨v, _, er, hb⟩ := ec b mb
          rw [er]
          exact ⟨b, rfl, (upd_ne (ne_of_none hb hp)).trans hb⟩
        · obtain ⟨b, mb, rfl⟩ := List.mem_map.mp m
          obtain ⟨c, mc, rfl⟩ := List.mem_map.mp m'
          obtain ⟨v, iv, er, _⟩ := ec b mb
          obtain ⟨u, iu, eu, _⟩ := ec c mc
          rw [er, eu]
          exact rk_one (inv.m _ iv).1 (inv.m _ iu).1
        obtain ⟨io, each⟩ := sorted_ord inv hk s1 s2.perm
        have sq : Same H1 (upd (upd H1 p (.lst (bs.map V.ref))) q (.lst ys)) := (same_new hp).trans (same_new hq)
        have lys : ys.length ≤ 2000 := by
          rw [s2.perm.length_eq, List.length_map, ← Paired.length hk]
          omega
        refine ⟨q, rfl, ⟨_, SqL.of upd_same⟩, fun D2 hD2 => lc_list (K := K) (a := q) (xs := ys) (fun j H' => H' D2 = some (.lst ((ys.take j).map fun y => atK kvs (rdK H1 y))) ∧ Same (upd (upd H1 p (.lst (bs.map V.ref))) q (.lst ys)) H') ⟨upd_same, same_new hD2⟩ (fun j H' _ h => SqL.of (h.2 _ _ upd_same)) ?_ ?_⟩
        · rintro j y H3 hy ⟨e2, s3⟩
          obtain ⟨b, v, rfl, iv, er, hb⟩ := each y (List.mem_of_getElem? hy)
          have eb3 := s3 _ _ (sq _ _ hb)
          have eD3 := s3 _ _ (sq _ _ eD)
          have g := DGet.t (k := keyL v) eD3 eb3
          rw [valV_mem inv.n iv] at g
          refine ⟨rfl, _, rfl, _, rfl, D, v, rfl, g, _, e2, ?_, ?_, fun c u e => ?_⟩
          · rw [List.length_map, List.length_take]
            have := sizeLine_eq
            omega
          · rw [upd_same, List.take_add_one, hy, List.map_append]
            have ea : atK kvs (rdK H1 (.ref b)) = v := by
              rw [er]
              unfold atK
              rw [show ([.inl (rkV v).1, (rkV v).2] : List Key) = keyL v from rfl, valV_mem inv.n iv]
              rfl
            show some (HO.lst (_ ++ [v])) = some (HO.lst (_ ++ [atK kvs (rdK H1 (.ref b))]))
            rw [ea]
          · rw [upd_ne (fun z => by rw [z, hD2] at e; cases e)]
            exact s3 _ _ e
        · rintro H3 ⟨e2, s3⟩
          rw [List.take_of_length_le (Nat.le_refl _)] at e2
          have st := (s.trans sq).trans s3
          exact k D2 _ H3 ((s.trans sq).free hD2) st e2 io
    · refine ⟨_, pss_cons (ps_set (i := 1) nd rfl (.inr rfl) (pe_dd (o0 := .dT []) (own := [("value", 2)]) (g := gName 2) (tt := tYes) (.inr rfl) (by exact hr.units0) rfl nd (pi_tup (pv 0)) (blkOk_by (N := NO) (sc := defScope sInOrder) (by decide +kernel)) (fun _ _ _ _ _ => pg_name (i := 2) nd rfl (.inl rfl)) (fun _ _ _ _ _ => pts_nil)
          (fun _ _ _ _ _ => pe_call GR hr (by rfl) gR kR bR .nil pass0 (pa_cons (pv 2) pa_nil)) (fun _ _ _ _ _ => pv 2)))
        (pss_one (ps_ret (pe_lc (own := [("place", 3)]) (g := gName 3) (tt := tYes) rfl nd (pi_list (pe_callB cr_sortedRk (by rfl) zSorted (by decide +kernel) (pa_cons (pe_callTy (call_list_dT rfl) (by rfl) zList PyProof.Rows.boot_list (pa_cons (pv 1) pa_nil)) pa_nil)))
          (blkOk_by (N := NO) (sc := defScope sInOrder) (by decide +kernel)) (fun _ _ _ _ _ => pg_name (i := 3) nd rfl (.inl rfl)) (fun _ _ _ _ _ => pts_nil) (fun _ _ _ _ _ => pe_dget hu (pv 1) (pv 3) (fun _ _ => rfl))))), ?_⟩
      refine ⟨_, rfl, l, rfl, ⟨_, hS⟩, fun D hD => dd_it walk_tup (fun i H' => ∃ kvs : List (List Key × V), H' D = some (.dT kvs) ∧ InvD (xs.take i) kvs ∧ kvs.length ≤ i ∧ Same H H') ⟨[], upd_same, InvD.nil, Nat.le_refl _, same_new hD⟩ (fun i H' _ ⟨kvs, _, _, _, s⟩ => Same.seqT s hS) ?_ ?_⟩
      · rintro i x H1 H2 hi ⟨kvs, eD, inv, le, s⟩ ⟨rfl, hx⟩
        have vx : Val x := hv x (List.mem_of_getElem? hx)
        refine ⟨rfl, _, rfl, x, rfl, vx, fun p hp => ⟨_, rfl, _, DPut.t (k := keyL x) ((upd_ne (ne_of_none eD hp)).trans eD) upd_same (by have := sizeLine_eq; omega), putK kvs (keyL x) x, upd_same, ?_, Nat.le_trans (length_putK _ _ _) (Nat.succ_le_succ le), ?_⟩⟩
        · rw [List.take_add_one, hx]
          exact inv.put vx
        · refine fun b u e => ?_
          have nb : b ≠ D := fun z => by rw [z, hD] at e; cases e
          rw [upd_ne nb, upd_ne (ne_of_none (s b u e) hp)]
          exact s b u e
      · rintro H1 ⟨kvs, eD, inv, le, s⟩
        rw [List.take_of_length_le (Nat.le_refl _)] at inv
        refine ⟨_, rfl, D, kvs, rfl, Rd.of eD, fun p bs hp hk => ?_⟩
        have ec : ∀ b ∈ bs, ∃ v, (keyL v, v) ∈ kvs ∧ rdK H1 (.ref b) = rkV v ∧ H1 b = some (.tup ((keyL v).map kV)) := fun b mb => by
          obtain ⟨q, mq, hb⟩ := keys_mem hk b mb
          obtain ⟨_, e, _⟩ := inv.m q mq
          obtain ⟨q1, q2⟩ := q
          have e : q1 = keyL q2 := e
          subst e
          exact ⟨q2, mq, rdK_of hb, hb⟩
        refine ⟨p, bs.map V.ref, rdK H1, rfl, SqL.of upd_same, fun x m => ?_, fun x m y m' => ?_, fun ys q s1 s2 hq => ?_⟩
        · obtain ⟨b, mb, rfl⟩ := List.mem_map.mp m
          obtain ⟨v, _, er, hb⟩ := ec b mb
          rw [er]
          exact ⟨b, rfl, (upd_ne (ne_of_none hb hp)).trans hb⟩
        · obtain ⟨b, mb, rfl⟩ := List.mem_map.mp m
          obtain ⟨c, mc, rfl⟩ := List.mem_map.mp m'
          obtain ⟨v, iv, er, _⟩ := ec b mb
          obtain ⟨u, iu, eu, _⟩ := ec c mc
          rw [er, eu]
          exact rk_one (inv.m _ iv).1 (inv.m _ iu).1
        obtain ⟨io, each⟩ := sorted_ord inv hk s1 s2.perm
        have sq : Same H1 (upd (upd H1 p (.lst (bs.map V.ref))) q (.lst ys)) := (same_new hp).trans (same_new hq)
        have lys : ys.length ≤ 2000 := by
          rw [s2.perm.length_eq, List.length_map, ← Paired.length hk]
          omega
        refine ⟨q, rfl, ⟨_, SqL.of upd_same⟩, fun D2 hD2 => lc_list (K := K) (a := q) (xs := ys) (fun j H' => H' D2 = some (.lst ((ys.take j).map fun y => atK kvs (rdK H1 y))) ∧ Same (upd (upd H1 p (.lst (bs.map V.ref))) q (.lst ys)) H') ⟨upd_same, same_new hD2⟩ (fun j H' _ h => SqL.of (h.2 _ _ upd_same)) ?_ ?_⟩
        · rintro j y H3 hy ⟨e2, s3⟩
          obtain ⟨b, v, rfl, iv, er, hb⟩ := each y (List.mem_of_getElem? hy)
          have eb3 := s3 _ _ (sq _ _ hb)
          have eD3 := s3 _ _ (sq _ _ eD)
          have g := DGet.t (k := keyL v) eD3 eb3
          rw [valV_mem inv.n iv] at g
          refine ⟨rfl, _, rfl, _, rfl, D, v, rfl, g, _, e2, ?_, ?_, fun c u e => ?_⟩
          · rw [List.length_map, List.length_take]
            have := sizeLine_eq
            omega
          · rw [upd_same, List.take_add_one, hy, List.map_append]
            have ea : atK kvs (rdK H1 (.ref b)) = v := by
              rw [er]
              unfold atK
              rw [show ([.inl (rkV v).1, (rkV v).2] : List Key) = keyL v from rfl, valV_mem inv.n iv]
              rfl
            show some (HO.lst (_ ++ [v])) = some (HO.lst (_ ++ [atK kvs (rdK H1 (.ref b))]))
            rw [ea]
          · rw [upd_ne (fun z => by rw [z, hD2] at e; cases e)]
            exact s3 _ _ e
        · rintro H3 ⟨e2, s3⟩
          rw [List.take_of_length_le (Nat.le_refl _)] at e2
          have st := (s.trans sq).trans s3
          exact k D2 _ H3 ((s.trans sq).free hD2) st e2 io
end
end R52
namespace R52
open PySem L2 L3 FT
open C8 (pss_cut tCut pe_gc)
abbrev sSame : Stmt := top 61
def words : List Str := [Str.ofString "a", Str.ofString "b7", Str.ofString "none", Str.ofString "truth", Str.ofString "zzzzzz", Str.ofString "card", Str.ofString "care", Str.ofString "aa", Str.ofString "b"]
def rest : List V := [.non, .bl true, .bl false] ++ words.map V.str
def GV (x : V) : Prop := (∃ i : Int, x = .int i ∧ i.natAbs < 2 ^ 140) ∨ x ∈ rest
def valB : V → Bool
  | .non => true
  | .bl _ => true
  | .int _ => true
  | .str z => decide ((reprText z).length ≤ 100) && decide (z.length ≤ 100)
  | _ => false
theorem rest_val : rest.all valB = true := by decide +kernel
theorem log_small {i : Int} (h : i.natAbs < 2 ^ 140) : i.natAbs.log2 < 1920 := (show Sm 140 i from h).log (by decide) (by decide)
theorem GV.val {x : V} (h : GV x) : Val x := by
  rcases h with ⟨i, rfl, _⟩ | h
  · exact .int i
  · have q := List.all_eq_true.mp rest_val x h
    cases x <;> first
      | exact .non
      | exact .bl _
      | exact .int _
      | exact .str _
      | (exact absurd q (by simp [valB]))
section
variable {P : Program} {w : World} {K : PySem.W.Frag} {mg : Str → Option Value} {base : Heap}
theorem scSm : FnScope ["_law_one", "_law_other"] ["_law_one", "_law_other"] (defScope sSame) := ⟨rfl, rfl, rfl, by decide +kernel, rfl, by decide +kernel, by decide +kernel⟩
end
end R52
namespace R52
open PySem L2 L3 FT ND
open C8 (pss_cut tCut pe_gc)
abbrev sWInit : Stmt := inClass (top 44) 0
/-- what isinstance(x, C) is for values and for instances of C -/
structure KitC (K : PySem.W.Frag) (C : Addr) : Prop where
  n : PySem.W.kitOne K (.type "NoneType") (.ref C) = some false
  b : PySem.W.kitOne K (.type "bool") (.ref C) = some false
  i : PySem.W.kitOne K (.type "int") (.ref C) = some false
  s : PySem.W.kitOne K (.type "str") (.ref C) = some false
  ins : C8.InsC K C
theorem kit_val {K : PySem.W.Frag} {C : Addr} {H : Hp} {x : V} (T : KitC K C) (h : Val x) : ∃ y, TyX K H x y ∧ PySem.W.kitOne K y (.ref C) = some false := by
  cases h with
  | non => exact ⟨_, .base .non, T.n⟩
  | bl b => exact ⟨_, .base (.bl b), T.b⟩
  | int i => exact ⟨_, .base (.int i), T.i⟩
  | str z => exact ⟨_, .base (.str z), T.s⟩
theorem kit_ins {K : PySem.W.Frag} {C a dx : Addr} {H : Hp} {fs : List (Str × V)} (T : KitC K C) (h : H a = some (.ins C dx fs)) : ∃ y, TyX K H (.ref a) y ∧ PySem.W.kitOne K y (.ref C) = some true :=
  ⟨_, .base (.ins h T.ins.cl T.ins.ha T.ins.hn T.ins.htk T.ins.hm), T.ins.me⟩
abbrev wfl (c fo tn to td : Addr) : List (Str × V) := [("choices", .ref c), ("form", .ref fo), ("nodes", .ref tn), ("outcomes", .ref to), ("depends", .ref td)]
/-- the values of its leaves, the names that it speaks of -/
noncomputable def lvsD (t : Tr V) : List V := ((FDt t).ts.filter fun u => !isN u).map lf
def usedB (nm : Nat → Str) (us : List (Tr V)) (z : Str) : Bool := (us.filter isN).any fun u => decide (headS nm u = z)
noncomputable def depD (nm : Nat → Str) (N : Nat) (t : Tr V) : List V := (((List.range N).map nm).filter fun z => usedB nm (FDt t).ts z).map V.str
/-- the object at a is a worth over the choices at c, its form's tree is t -/
def WorthI (CW C : Addr) (nm : Nat → Str) (N : Nat) (t : Tr V) (c : Addr) (H : Hp) (a : Addr) : Prop := ∃ dx fo df tn tl to td, H a = some (.ins CW dx (wfl c fo tn to td)) ∧ H fo = some (.ins C df (ffl tn tl)) ∧ FormI nm N (FDt t) H tn tl ∧ (∃ vs, H tn = some (.tup vs)) ∧ (∃ vs : {zs : List V // InOrd zs (lvsD t)}, H to = some (.tup vs.1)) ∧ ∃ vs : {zs : List V // zs = depD nm N t}, H td = some (.tup vs.1)
theorem WorthI.same {CW C c a : Addr} {nm : Nat → Str} {N : Nat} {t : Tr V} {H H' : Hp} (s : Same H H') (h : WorthI CW C nm N t c H a) : WorthI CW C nm N t c H' a := by
  obtain ⟨dx, fo, df, tn, tl, to, td, h1, h2, h3, ⟨v1, h4⟩, ⟨v2, h5⟩, v3, h6⟩ := h
  exact ⟨dx, fo, df, tn, tl, to, td, s _ _ h1, s _ _ h2, h3.same s, ⟨v1, s _ _ h4⟩, ⟨v2, s _ _ h5⟩, v3, s _ _ h6⟩
/-- all but instances stays -/
def KI (H H' : Hp) : Prop := ∀ b o, (∀ C d fs, o ≠ .ins C d fs) → H b = some o → H' b = some o
theorem KI.kt {H H' : Hp} (k : KI H H') : KT H H' := fun b vs e => k b _ (fun _ _ _ z => nomatch z) e
theorem FormI.ki {nm : Nat → Str} {N : Nat} {A : FD} {H H' : Hp} {tn tl : Addr} (s : KI H H') (h : FormI nm N A H tn tl) : FormI nm N A H' tn tl := by
  have sq : ∀ {a vs}, SeqAt H a vs → SeqAt H' a vs := fun h => h.elim (fun e => .inl (s _ _ (fun _ _ _ z => nomatch z) e)) (fun e => .inr (s _ _ (fun _ _ _ z => nomatch z) e))
  obtain ⟨vs, h1, h2, h3⟩ := h.tn
  exact ⟨⟨vs, sq h1, h2, fun i v b => (h3 i v b).kt s.kt⟩, sq h.tl⟩
/-- all but p stays -/
def SP (p : Addr) (H H' : Hp) : Prop := ∀ b o, b ≠ p → H b = some o → H' b = some o
theorem SP.ki {p C dx : Addr} {fs : List (Str × V)} {H H' : Hp} (s : SP p H H') (h : H p = some (.ins C dx fs)) : KI H H' := fun b o n e => s b o (fun z => by rw [z, h] at e; exact n _ _ _ (Option.some.inj e).symm) e
theorem SP.trans {p : Addr} {H H1 H2 : Hp} (a : SP p H H1) (b : SP p H1 H2) : SP p H H2 := fun x o n e => b x o n (a x o n e)
theorem SP.of {p : Addr} {H H' : Hp} (s : Same H H') : SP p H H' := fun x o _ e => s x o e
theorem SP.upd {p : Addr} {H : Hp} {o : HO} : SP p H (upd H p o) := fun x u n e => by rw [upd_ne n]; exact e
structure WorthC (K : PySem.W.Frag) (CW : Addr) : Prop where
  cl : Cls K CW
  nC : NoAttr K CW "choices"
  nF : NoAttr K CW "form"
  nN : NoAttr K CW "nodes"
  nO : NoAttr K CW "outcomes"
  nD : NoAttr K CW "depends"
section
variable {P : Program} {w : World} {K : PySem.W.Frag} {mg : Str → Option Value} {base : Heap} {CW CC C : Addr} {nm : Nat → Str} {N : Nat}
abbrev NWi : List Str := ["self", "choices", "value", "form", "named", "node", "name"]
def spWInit (CW CC C : Addr) (nm : Nat → Str) (N : Nat) : Sp := fun vs H Q _ => ∃ (p dx c : Addr) (es : List (Row × Addr)) (nx : Int) (M : Nat) (ks : Nat → Nat) (v : V) (t : Tr V), vs = [.ref p, .ref c, v] ∧ H p = some (.ins CW dx []) ∧ ChAt CC H c es nx ∧ ChIs N ks nm es ∧ Sce N M ks nm ∧ TGood N ks t ∧
  ((Vl v ∧ t = .leaf v) ∨ FormT C nm N (FDt t) H v) ∧ ∀ H', (∀ b o, b ≠ p → H b = some o → H' b = some o) → WorthI CW C nm N t c H' p → Q .non H'
theorem scWi : FnScope NWi ["self", "choices", "value"] (defScope sWInit) := ⟨rfl, rfl, rfl, by decide +kernel, rfl, by decide +kernel, by decide +kernel⟩
theorem ok_winit {f fK fI fO : Addr} {fd fdK fdI fdO : FuncData} (F : Fun K "__init__" "Worth.__init__" sWInit f fd) (T : WorthC K CW) (TF : FormC K mg C) (TK : KitC K C) (gF : mg "Form" = some (.ref C)) (UK : Use P w K mg base "constant" 3 fK fdK ["choices", "value"] (spConst CC C nm N)) (UI : Use P w K mg base "is_choice" 1 fI fdI ["node"] (spIsC nm))
    (UO : Use P w K mg base "in_order" 3 fO fdO ["values"] (spInOrder K)) (cC : Cls K CC) (nN : NoAttr K CC "names") (zIsi : mg "isinstance" = none) (zTup : mg "tuple" = none) : FnOk P w K mg base CX0 4 f fd ["self", "choices", "value"] (spWInit CW CC C nm N) := by
  refine F.ok scWi (fun vs H Q E h => ?_) (fun cdv A outer s H vs Q E hr h => ?_)
  · obtain ⟨p, dx, c, es, nx, M, ks, v, t, rfl, _⟩ := h
    rfl
  · obtain ⟨p, dx, c, es, nx, M, ks, v, t, rfl, hp, hc, ci, S, gt, hv, k⟩ := h
    have nd := scWi.nd
    have hu : (A.deeper (PyProof.Rows.envOfC ("Worth.__init__" : Str) (defScope sWInit) s.heap.objs.size f cdv)).units + 1 < cLine := by
      have := hr.un
      omega
    refine ⟨_, pss_cut (ps_set (i := 3) nd rfl (.inl rfl) (pe_ifExp (pt_val (pe_callB call_isi (by rfl) zIsi PyProof.Rows.boot_isinstance (pa_cons (pv 2) (pa_cons (pe_glob (v := .ref C) rfl gF rfl) pa_nil)))) (pv 2) (pe_call UK.G hr (by rfl) UK.g UK.kp UK.b .nil pass0 (pa_cons (pv 1) (pa_cons (pv 2) pa_nil)))))
      (pss_cons (ps_set (i := 4) nd rfl (.inr rfl) (pe_dd (o0 := .dK []) (own := [("node", 5)]) (g := gName 5) (.inl rfl) (by exact hr.units0) rfl nd (pi_tup (pe_fld (pv 3) rfl)) (blkOk_by (N := NWi) (sc := defScope sWInit) (by decide +kernel)) (fun _ _ _ _ _ => pg_name (i := 5) nd rfl (.inl rfl)) (fun _ _ _ _ _ => pts_one (pt_val (pe_call UI.G (hr.mono (by omega)) (by rfl) UI.g UI.kp UI.b .nil pass0 (pa_cons (pv 5) pa_nil))))
          (fun _ _ _ _ _ => pe_ix (r := rIxT K) (by exact ix_tup) (pv 5) pe_int (fun _ _ => rfl)) (fun _ _ _ _ _ => pe_bl)))
      (pss_cons (ps_fld (pv 0) (pv 1) rfl)
      (pss_cons (ps_fld (pv 0) (pv 3) rfl)
      (pss_cons (ps_fld (pv 0) (pe_fld (pv 3) rfl) rfl)
      (pss_cons (ps_fld (pv 0) (pe_callTy call_tuple_of (by rfl) zTup (by decide +kernel) (pa_cons (pe_call UO.G hr (by rfl) UO.g UO.kp UO.b .nil pass0 (pa_cons (pe_lc (own := [("node", 5)]) (g := gName 5) rfl nd (pi_tup (pe_fld (pv 3) rfl)) (blkOk_by (N := NWi) (sc := defScope sWInit) (by decide +kernel)) (fun _ _ _ _ _ => pg_name (i := 5) nd rfl (.inl rfl)) (fun _ _ _ _ _ => pts_one (pt_not (pt_val (pe_call UI.G (hr.mono (by omega)) (by rfl) UI.g UI.kp UI.b .nil pass0 (pa_cons (pv 5) pa_nil)))))
          (fun _ _ _ _ _ => pe_ix (r := rIxT K) (by exact ix_tup) (pv 5) pe_int (fun _ _ => rfl))) pa_nil)) pa_nil)) rfl)
      (pss_one (ps_fld (pv 0) (pe_callTy call_tuple_of (by rfl) zTup (by decide +kernel) (pa_cons (pe_lc (own := [("name", 6)]) (g := gName 6) rfl nd (pi_tup (pe_fld (pv 1) rfl)) (blkOk_by (N := NWi) (sc := defScope sWInit) (by decide +kernel)) (fun _ _ _ _ _ => pg_name (i := 6) nd rfl (.inl rfl)) (fun _ _ _ _ _ => pts_one (pt_cmp (pc_din (by exact hu) (pv 6) (pv 4))))
          (fun _ _ _ _ _ => pv 6)) pa_nil)) rfl))))))), ?_⟩
    have lsz := sizeLine_eq
    obtain ⟨dc, tnc, tdc, hcc, cp⟩ := hc
    have hle := cp.le
    have okA := FDt_okay gt
    have fewA := FDt_few S.hk gt.1
    have geoA := S.geo
    -- the form
    refine ⟨fun σ' H' => ∃ fo, σ' = [some (.ref p), some (.ref c), some v, some (.ref fo), none, none, none] ∧ Same H H' ∧ FormT C nm N (FDt t) H' (.ref fo), ?_, ?_⟩
    · refine ⟨_, rfl, ?_⟩
      rcases hv with ⟨hx, rfl⟩ | fm
      · obtain ⟨y, ty, ky⟩ := kit_val (H := H) TK (Val.of hx)
        refine ⟨v, .ref C, y, .ref C, false, rfl, .own C, ty, ky, _, rfl, ifF rfl ?_⟩
        refine ⟨_, rfl, _, rfl, c, es, nx, v, rfl, ⟨dc, tnc, tdc, hcc, cp⟩, ci.len, hx, fun H' r sm fm => ?_⟩
        obtain ⟨fo, df, tn, tl, rfl, f1, f2, f3⟩ := fm
        exact ⟨fo, rfl, sm, fo, df, tn, tl, rfl, f1, f2, f3⟩
      · obtain ⟨fo, df, tn, tl, rfl, f1, f2, f3⟩ := fm
        obtain ⟨y, ty, ky⟩ := kit_ins TK f1
        exact ⟨.ref fo, .ref C, y, .ref C, true, rfl, .own C, ty, ky, _, rfl, ifT rfl ⟨_, rfl, fo, rfl, fun _ _ e => e, fo, df, tn, tl, rfl, f1, f2, f3⟩⟩
    rintro σ' H1 ⟨fo, rfl, s1, fo', df, tn, tl, e, f1, f2, vn, f3⟩
    cases e
    obtain ⟨vs', sv, lv, nv⟩ := f2.tn
    have ev : vs' = vn := by
      rcases sv with e | e
      · rw [f3] at e; cases e
      · rw [f3] at e; cases e; rfl
    subst ev
    have nlen : vs'.length ≤ 2000 := by omega
    have c1 := s1 _ _ hcc
    have cp1 := cp.same s1
    have p1 := s1 _ _ hp
    -- the names
    refine ⟨_, rfl, fo, C, df, _, _, rfl, f1, TF.cl, TF.nN, lk_nodes, tn, rfl, ⟨_, SqT.of f3⟩, fun D hD => ?_⟩
    refine dd_it (walk_tup (K := K) (a := tn) (xs := vs')) (fun j H' => Same H1 H' ∧ ∃ kvs : List (Key × V), H' D = some (.dK kvs) ∧ kvs.length ≤ j ∧ ∀ z : Str, (valV kvs (.inr z : Key)).isSome = usedB nm ((FDt t).ts.take j) z) ⟨same_new hD, [], upd_same, Nat.zero_le _, fun z => rfl⟩ (fun j H' _ h => SqT.of (h.1 _ _ f3)) ?_ ?_
    · rintro j z H2 H3 hj ⟨sm, kvs, e1, e2, e3⟩ ⟨rfl, hz⟩
      have hjt : j < (FDt t).ts.length := by rw [← lv]; exact hj
      have tk : (FDt t).ts.take (j + 1) = (FDt t).ts.take j ++ [(FDt t).tr j] := by rw [List.take_add_one, FD.get hjt]; rfl
      have nz := (nv j z hz).same sm
      refine ⟨rfl, _, rfl, (FDt t).tr j, (FDt t).kd j, z, rfl, nz, _, rfl, ?_⟩
      cases hn : isN ((FDt t).tr j) with
      | false =>
        refine ifF rfl ⟨sm, kvs, e1, by omega, fun z => ?_⟩
        rw [e3 z, tk]
        unfold usedB
        rw [List.filter_append, List.filter_cons, hn, List.filter_nil, if_neg (by decide), List.append_nil]
      | true =>
        obtain ⟨q, y, rfl, hq⟩ := head_at (K := K) nz
        refine ifT rfl ⟨_, rfl, q, _, 0, _, rfl, rfl, hq, rfl, _, DPut.k (k := .inr (headS nm ((FDt t).tr j))) e1 (by omega), same_off sm hD, _, upd_same, ?_⟩
        have l := length_putK kvs (Sum.inr (headS nm ((FDt t).tr j)) : Key) (.bl true)
        refine ⟨by omega, fun z => ?_⟩
        rw [valV_put, tk]
        unfold usedB
        rw [List.filter_append, List.filter_cons, hn, List.filter_nil, if_pos rfl, List.any_append]
        by_cases q : headS nm ((FDt t).tr j) = z
        · rw [if_pos (by rw [q]), List.any_cons, decide_eq_true q, Bool.true_or, Bool.or_true]
          rfl
        · rw [if_neg (fun e => q (Sum.inr.inj e).symm), e3 z, List.any_cons, decide_eq_false q, List.any_nil, Bool.or_false, Bool.or_false]
          rfl
    rintro H2 ⟨s2, kvs, eD, _, eU⟩
    have npf : fo ≠ p := fun z => by
      rw [z, p1] at f1
      cases f1
    have p2 := s2 _ _ p1
    have npD : D ≠ p := fun z => by rw [z, p2] at eD; cases eD
    refine ⟨_, rfl, _, rfl, p, CW, dx, [], rfl, p2, T.cl, T.nC, (by show 0 < 1000; decide), ?_⟩
    refine ⟨_, rfl, _, rfl, p, CW, dx, _, rfl, upd_same, T.cl, T.nF, (by show 1 < 1000; decide), ?_⟩
    have q3 : SP p H2 (upd (upd H2 p (.ins CW dx (putF "choices" (.ref c) []))) p (.ins CW dx (putF "form" (.ref fo) (putF "choices" (.ref c) [])))) := SP.upd.trans SP.upd
    have p3 : upd (upd H2 p (.ins CW dx (putF "choices" (.ref c) []))) p (.ins CW dx (putF "form" (.ref fo) (putF "choices" (.ref c) []))) p = some (.ins CW dx (putF "form" (.ref fo) (putF "choices" (.ref c) []))) := upd_same
    generalize upd (upd H2 p (.ins CW dx (putF "choices" (.ref c) []))) p (.ins CW dx (putF "form" (.ref fo) (putF "choices" (.ref c) []))) = H3 at q3 p3 ⊢
    have r3 : SP p H1 H3 := (SP.of s2).trans q3
    refine ⟨_, rfl, fo, C, df, _, _, rfl, r3 _ _ npf f1, TF.cl, TF.nN, lk_nodes, _, rfl, p, CW, dx, _, rfl, p3, T.cl, T.nN, (by show 2 < 1000; decide), ?_⟩
    have q4 : SP p H3 (upd H3 p (.ins CW dx (putF "nodes" (.ref tn) (putF "form" (.ref fo) (putF "choices" (.ref c) []))))) := SP.upd
    have p4 : upd H3 p (.ins CW dx (putF "nodes" (.ref tn) (putF "form" (.ref fo) (putF "choices" (.ref c) [])))) p = some (.ins CW dx (putF "nodes" (.ref tn) (putF "form" (.ref fo) (putF "choices" (.ref c) [])))) := upd_same
    generalize upd H3 p (.ins CW dx (putF "nodes" (.ref tn) (putF "form" (.ref fo) (putF "choices" (.ref c) [])))) = H4 at q4 p4 ⊢
    have r4 := r3.trans q4
    have k4 := r4.ki p1
    have g3 := k4.kt _ _ f3
    -- the values
    refine ⟨_, rfl, fo, C, df, _, _, rfl, r4 _ _ npf f1, TF.cl, TF.nN, lk_nodes, tn, rfl, ⟨_, SqT.of g3⟩, fun D2 hD2 => ?_⟩
    refine lc_it (walk_tup (K := K) (a := tn) (xs := vs')) (fun j H' => Same H4 H' ∧ ∃ acc, H' D2 = some (.lst acc) ∧ acc.length ≤ j ∧ (∀ x ∈ acc, Val x) ∧ acc = (((FDt t).ts.take j).filter fun u => !isN u).map lf) ⟨same_new hD2, [], upd_same, Nat.zero_le _, fun x h => (nomatch h), rfl⟩ (fun j H' _ h => SqT.of (h.1 _ _ g3)) ?_ ?_
    · rintro j z H5 H6 hj ⟨sm, acc, a1, a2, a3, a4⟩ ⟨rfl, hz⟩
      have hjt : j < (FDt t).ts.length := by rw [← lv]; exact hj
      have tk : (FDt t).ts.take (j + 1) = (FDt t).ts.take j ++ [(FDt t).tr j] := by rw [List.take_add_one, FD.get hjt]; rfl
      have nz := ((nv j z hz).kt k4.kt).same sm
      refine ⟨rfl, _, rfl, (FDt t).tr j, (FDt t).kd j, z, rfl, nz, _, rfl, ?_⟩
      cases hn : (FDt t).tr j with
      | node l ts =>
        refine ifF rfl ⟨sm, acc, a1, by omega, a3, ?_⟩
        rw [a4, tk, List.filter_append, List.filter_cons, hn, List.filter_nil, if_neg (show ¬ ((!isN (Tr.node l ts)) = true) from (fun e => nomatch (show false = true from e))), List.append_nil]
      | leaf y =>
        rw [hn] at nz
        obtain ⟨hy, q, rfl, hq⟩ := nz
        refine ifT rfl ⟨_, rfl, q, _, 1, y, rfl, rfl, SqT.of hq, rfl, acc, a1, by omega, same_off sm hD2, _, upd_same, by rw [List.length_append, List.length_singleton]; omega, fun x hx => ?_, ?_⟩
        · rcases List.mem_append.mp hx with hx | hx
          · exact a3 x hx
          · rw [List.mem_singleton.mp hx]; exact Val.of hy
        · rw [a4, tk, List.filter_append, List.filter_cons, hn, List.filter_nil, if_pos (show (!isN (Tr.leaf y)) = true from rfl), List.map_append]
          rfl
    rintro H5 ⟨s5, acc, a1, a2, a3, a4⟩
    refine ⟨D2, acc, rfl, .inl (SqL.of a1), a3, by omega, fun lo zs H6 hlo s6 elo io => ?_⟩
    rw [a4, List.take_of_length_le (by omega)] at io
    refine ⟨lo, zs, rfl, .inl ⟨SqL.of elo, fun to hto => ?_⟩⟩
    have s7 := same_new (o := HO.tup zs) hto
    have u7 : upd H6 to (.tup zs) to = some (.tup zs) := upd_same
    generalize upd H6 to (.tup zs) = H7 at s7 u7 ⊢
    have r7 : SP p H4 H7 := SP.of fun b o e => s7 _ _ (s6 _ _ (s5 _ _ e))
    have p7 := s7 _ _ (s6 _ _ (s5 _ _ p4))
    refine ⟨_, rfl, p, CW, dx, _, rfl, p7, T.cl, T.nO, (by show 3 < 1000; decide), ?_⟩
    have nto : to ≠ p := fun z => by rw [z, p7] at u7; cases u7
    have q8 : SP p H7 (upd H7 p (.ins CW dx (putF "outcomes" (.ref to) (putF "nodes" (.ref tn) (putF "form" (.ref fo) (putF "choices" (.ref c) [])))))) := SP.upd
    have p8 : upd H7 p (.ins CW dx (putF "outcomes" (.ref to) (putF "nodes" (.ref tn) (putF "form" (.ref fo) (putF "choices" (.ref c) []))))) p = some (.ins CW dx (putF "outcomes" (.ref to) (putF "nodes" (.ref tn) (putF "form" (.ref fo) (putF "choices" (.ref c) []))))) := upd_same
    generalize upd H7 p (.ins CW dx (putF "outcomes" (.ref to) (putF "nodes" (.ref tn) (putF "form" (.ref fo) (putF "choices" (.ref c) []))))) = H8 at q8 p8 ⊢
    have r8 : SP p H1 H8 := (r4.trans r7).trans q8
    have k8 := r8.ki p1
    have npc : c ≠ p := fun z => by
      rw [z, p1] at c1
      cases c1
    have c8 := r8 _ _ npc c1
    have tn8 : TupF H8 tnc (es.map fun e => V.str e.1.1) := by
      obtain ⟨ob, z, e⟩ := cp1.tn
      exact ⟨ob, z, k8 _ _ (fun _ _ _ z => nomatch z) e⟩
    have eD8 : H8 D = some (.dK kvs) := (q3.trans (q4.trans (r7.trans q8))) _ _ npD eD
    -- the choices that it depends on
    refine ⟨_, rfl, c, CC, dc, _, _, rfl, c8, cC, nN, lk_names, tnc, rfl, ⟨_, tn8.sq⟩, fun D3 hD3 => ?_⟩
    refine lc_it (walk_tup (K := K) (a := tnc) (xs := es.map fun e => V.str e.1.1)) (fun j H' => Same H8 H' ∧ ∃ acc, H' D3 = some (.lst acc) ∧ acc.length ≤ j ∧ acc = (((es.take j).map fun e => e.1.1).filter fun z => usedB nm (FDt t).ts z).map V.str) ⟨same_new hD3, [], upd_same, Nat.zero_le _, rfl⟩ (fun j H' _ h => (tn8.same h.1).sq) ?_ ?_
    · rintro j z H9 H9' hj ⟨sm, acc, a1, a2, a3⟩ ⟨rfl, hz⟩
      rw [List.length_map] at hj
      rw [List.getElem?_map] at hz
      obtain ⟨e, he, rfl⟩ := Option.map_eq_some_iff.mp hz
      refine ⟨rfl, _, rfl, _, rfl, D, _, rfl, DGet.k (k := .inr e.1.1) (sm _ _ eD8), _, rfl, ?_⟩
      have tk : (es.take (j + 1)).map (fun e => e.1.1) = (es.take j).map (fun e => e.1.1) ++ [e.1.1] := by rw [List.take_add_one, he, List.map_append]; rfl
      have us := eU e.1.1
      rw [List.take_of_length_le (by omega)] at us
      cases hq : (valV kvs (.inr e.1.1 : Key)).isSome with
      | false =>
        rw [hq] at us
        refine ifF rfl ⟨sm, acc, a1, by omega, ?_⟩
        rw [a3, tk, List.filter_append, List.filter_cons, ← us, List.filter_nil, if_neg (by decide), List.append_nil]
      | true =>
        rw [hq] at us
        refine ifT rfl ⟨_, rfl, acc, a1, by omega, same_off sm hD3, _, upd_same, by rw [List.length_append, List.length_singleton]; omega, ?_⟩
        rw [a3, tk, List.filter_append, List.filter_cons, ← us, List.filter_nil, if_pos rfl, List.map_append]
        rfl
    rintro H9 ⟨s9, acc9, a9, _, a9'⟩
    have en : ((es.take (es.map fun e => V.str e.1.1).length).map fun e => e.1.1) = (List.range N).map nm := by
      rw [List.length_map, List.take_of_length_le (Nat.le_refl _)]
      refine List.ext_getElem (by rw [List.length_map, List.length_map, List.length_range, ci.len]) fun i h1 h2 => ?_
      rw [List.length_map] at h1
      rw [List.getElem_map, List.getElem_map, List.getElem_range]
      exact ci.nm i _ (List.getElem?_eq_getElem h1)
    rw [en] at a9'
    refine ⟨D3, acc9, rfl, .inl ⟨SqL.of a9, fun td htd => ?_⟩⟩
    have s10 := same_new (o := HO.tup acc9) htd
    have u10 : upd H9 td (.tup acc9) td = some (.tup acc9) := upd_same
    generalize upd H9 td (.tup acc9) = H10 at s10 u10 ⊢
    have p10 := s10 _ _ (s9 _ _ p8)
    refine ⟨_, rfl, p, CW, dx, _, rfl, p10, T.cl, T.nD, (by show 4 < 1000; decide), ?_⟩
    have ntd : td ≠ p := fun z => by rw [z, p10] at u10; cases u10
    have q11 : SP p H10 (upd H10 p (.ins CW dx (wfl c fo tn to td))) := SP.upd
    have r10 : SP p H8 H10 := SP.of fun b o e => s10 _ _ (s9 _ _ e)
    have r11 : SP p H1 (upd H10 p (.ins CW dx (wfl c fo tn to td))) := (r8.trans r10).trans q11
    have k11 := r11.ki p1
    refine k _ (fun b o n e => r11 _ _ n (s1 _ _ e)) ⟨dx, fo, df, tn, tl, to, td, upd_same, r11 _ _ npf f1, f2.ki k11, ⟨_, k11.kt _ _ f3⟩, ⟨⟨zs, io⟩, ?_⟩, ⟨⟨acc9, a9'⟩, q11 _ _ ntd u10⟩⟩
    exact ((q8.trans r10).trans q11) _ _ nto u7
end
end R52
namespace PySem.W
open PySem PySem.Spec PyProof.Rows
section
variable {prog : Program} {w : World} {A : Around} {E : Value → Shared → Prop} {s : Shared} {K : Frag} {x C L f : Addr} {h₀ : Heap} {m : Str → Option Value} {ox : Obj} {od : Option Obj} {b tb : Value}
/-- a special that is a built-in's -/
theorem ifBound_B {M : Model} {B id : String} {name : Str} {args : List Value} {Q : Option Value → Shared → Prop} (X : K.In s.heap) (I : InstAt s.heap x ox C od) (hs : findIn K (.ref C) name = some (some (.builtin id))) (S : Slot B name id)
    (h : wpAny M A (call (.builtin id) (.ref x :: args)) (fun v => Q (some v)) E s) : wpAny M A (callSpecialIfBound? (.ref x) name args) Q E s := by
  simp only [callSpecialIfBound?, bindSpecialIfBound?]
  refine wpAny_holding (wpAny_bind (wpAny_bind (wpAny_bind (I.type.here ((looks_findIn X hs).here (wpAny_bind (wpAny_askSetting (wpAny_ite ?_))))))))
  simp only [S.bind]
  have fin : wpAny M A (call (.builtin id) ([.ref x] ++ args) >>= fun v => pure (some v)) Q E s := wpAny_bind (wpAny_mono h (fun v s' z => wpAny_pure z) fun _ _ e => e)
  split
  · exact wpAny_bind (wpAny_pure (wpAny_pure fin))
  · exact wpAny_tryCatch (wpAny_bind (wpAny_pure (wpAny_pure fin)))
/-- object.__ne__ of what has an own __eq__ -/
theorem ne_entry {Q : Fin → Shared → Prop} (hu : A.units < cLine) (X : K.In s.heap) (I : InstAt s.heap x ox C od) (hs : findIn K (.ref C) "__eq__" = some (some (.ref f))) (hf : isFn K (.ref f) = true)
    (h : wpAny (model prog w) A (call (.ref f) [.ref x, b]) (fun v s' => ∃ c : Bool, v = .bool c ∧ Q (.done (.ret (.bool (!c)))) s') E s) : wpAny (model prog w) A (Builtin.«object.__ne__» ⟨[.ref x, b], []⟩) Q E s := by
  unfold Builtin.«object.__ne__»
  have hh : wpAny (model prog w) A (callSpecialIfBound? (.ref x) "__eq__" [b]) (fun r s' => ∃ c : Bool, r = some (.bool c) ∧ Q (.done (.ret (.bool (!c)))) s') E s :=
    ifBound_K X I hs hf (wpAny_mono h (fun v s' ⟨c, e, q⟩ => ⟨c, by rw [e], q⟩) fun _ _ e => e)
  have sa : slotArgs "__ne__" 1 ⟨[.ref x, b], []⟩ = pure (Value.ref x, [b]) := rfl
  rw [sa]
  refine wpAny_bind (wpAny_pure ?_)
  refine wpAny_bind (wpAny_cRoomFor hu (wpAny_bind (wpAny_mono hh (fun r s' ⟨c, e, q⟩ => ?_) fun _ _ e => e)))
  subst e
  exact wpAny_bind (wpAny_truthy_bool (wpAny_pure q))
/-- one != other -/
theorem ne_K {Q : Value → Shared → Prop} (hu : A.units + 1 < cLine) (F : Fr h₀ L s.heap m) (X₀ : K.In h₀) (I : InstAt s.heap x ox C od) (hb : Looks (model prog w) s.heap (typeOf b) tb) (hn : notFirst K C tb = true)
    (hne : findIn K (.ref C) "__ne__" = some (some (.builtin "object.__ne__"))) (hm : mroIn K C (.type "object") = some true) (hs : findIn K (.ref C) "__eq__" = some (some (.ref f))) (hf : isFn K (.ref f) = true)
    (h : wpAny (model prog w) A.in1 (call (.ref f) [.ref x, b]) (fun v s' => ∃ c : Bool, v = .bool c ∧ Q (.bool (!c)) s') E s) : wpAny (model prog w) A (richCompare .NotEq (.ref x) b) Q E s := by
  have X := X₀.keeps F.keep
  have S := PySem.F.cmp_object.ne
  have one : wpAny (model prog w) A (tryCompare (.ref x) "__ne__" b) (fun r s' => ∃ v, r = some v ∧ Q v s') E s := by
    unfold tryCompare
    refine wpAny_bind (ifBound_B X I hne S (wpAny_call (codeAny_call_builtin S.plain PySem.F.cmpEntry_ne (check_slot PySem.F.cmpKind_ne PySem.F.cmpSplit_ne (I.type.andThen (looks_mroIn X hm)) (PySem.F.cmpArgs_ne _ _) (ne_entry (A := A.in1) hu X I hs hf ?_)))))
    refine wpAny_mono h (fun v s' ⟨c, e, q⟩ => ⟨c, e, ?_⟩) fun _ _ e => e
    exact wpAny_pure ⟨_, rfl, q⟩
  unfold richCompare
  simp only [oneThing_ref]
  refine wpAny_holding (wpAny_bind (wpAny_cRoomFor (by omega) (wpAny_bind (I.type.here (wpAny_bind (hb.here ?_))))))
  split
  · rename_i q
    have e : subIn K tb (.ref C) = some false := by
      rcases Bool.or_eq_true_iff.mp hn with e | e
      · rw [beq_iff_eq.mp e] at q; simp at q
      · exact beq_iff_eq.mp e
    refine wpAny_bind ((looks_subIn X e).here ?_)
    simp only [Bool.false_eq_true, if_false]
    refine wpAny_bind (wpAny_mono one (fun r s' z => ?_) fun _ _ e => e)
    obtain ⟨v, rfl, hq⟩ := z
    exact wpAny_pure hq
  · refine wpAny_bind (wpAny_pure ?_)
    simp only [Bool.false_eq_true, if_false]
    refine wpAny_bind (wpAny_mono one (fun r s' z => ?_) fun _ _ e => e)
    obtain ⟨v, rfl, hq⟩ := z
    exact wpAny_pure hq
end
end PySem.W
namespace L3
open PySem PySem.Spec PyProof.Rows L2
section
variable {X : Cx} {CX : CXT} {n k : Nat} {f C : Addr} {fd : FuncData} {ps : List Str} {sp : Sp} {E : XK}
/-- one != other by the own __eq__ -/
def rOwnNe (K : PySem.W.Frag) (C : Addr) (sp : Sp) (E : XK) : R2 := fun x y H Q => ∃ a dx fs t, x = .ref a ∧ H a = some (.ins C dx fs) ∧ TyX K H y t ∧ PySem.W.notFirst K C t = true ∧ sp [x, y] H (fun v H' => ∃ c : Bool, v = .bl c ∧ Q (.bl (!c)) H') E
theorem op_ownNe (F : FnOk X.prog X.w X.K X.mg X.base CX n f fd ps sp) (hr : Room (n + 1) X.A) (hb : Binds X.K fd ps []) (hx : Passes CX X E) (hs : PySem.W.findIn X.K (.ref C) "__eq__" = some (some (.ref f))) (hf : PySem.W.isFn X.K (.ref f) = true)
    (hne : PySem.W.findIn X.K (.ref C) "__ne__" = some (some (.builtin "object.__ne__"))) (hm : PySem.W.mroIn X.K C (.type "object") = some true) : OpR X (compareOp .NotEq) (rOwnNe X.K C sp E) := by
  intro pins s σ H x y v u Q I rx ry h
  obtain ⟨a, dx, fs, t, rfl, ha, ty, hn, hq⟩ := h
  cases (show v = Value.ref a from rx)
  obtain ⟨mA, J, _⟩ := ins_get I.hok ha
  obtain ⟨od, J, _⟩ := J.look
  obtain ⟨m, hF⟩ := I.fr
  obtain ⟨P, Z, p, _⟩ := kit_of I ry ty
  show wpAny (model X.prog X.w) X.A (richCompare .NotEq (.ref a) u) (EP X pins σ Q) X.xe s
  have hu := hr.un
  refine PySem.W.ne_K (by omega) hF I.ok.mod.kin J (Z.ty _ _ I.kIn p) hn hne hm hs hf ?_
  refine wpAny_mono (run_fnA (us := [.ref a, u]) (vs := [.ref a, y]) F (room1 hr) rfl hb hx I (.cons rfl (.cons ry .nil)) hq) (fun r s' hv => ?_) fun _ _ e => e
  obtain ⟨z, H', I', rz, c, rfl, q⟩ := hv
  exact ⟨c, rz, .bl (!c), H', I', rfl, q⟩
/-- x(e, ..) where x is a local name of the class at C -/
def tMakeL (C : Addr) (sp : Sp) (E : XK) (tf : TE) (t : TA) : TE := fun σ H Q => tf σ H fun v H0 => v = .ref C ∧ tMake C sp [] E t σ H0 Q
theorem pe_makeL {x : Str} {p pos : Pos} {e : Expr} {es : List Expr} {tf : TE} {t : TA} (M : Mk X.K C f) (F : FnOk X.prog X.w X.K X.mg X.base CX k f fd ps sp) (hr : Room (k + 1) X.A) (hb : Binds X.K fd ps []) (hx : Passes CX X E) (hf : PE X (.Name x p) tf) (ha : PA X (e :: es) t)
    (hst : starEach (e :: es) X.env = (false, eval e X.env) :: starEach es X.env := by rfl) (hpl : (backTo pos (starEach es X.env)).any (·.1) = false := by rfl) : PE X (.Call (.Name x p) (e :: es) [] pos) (tMakeL C sp E tf t) := by
  refine ⟨fun pins s σ H Q I h => wpAny_Call_Name_kw (thn (hf.run pins s σ H _ I h) fun u s1 ⟨y, H1, I1, ry, ey, q⟩ => ?_)⟩
  subst ey
  obtain rfl : u = Value.ref C := ry
  exact PySem.W.callWith_K (h₀ := X.base) I1.ok.mod.kin M.kp (thn (ha.run pos pins s1 σ H1 _ I1 q) fun us s2 ⟨vs, H2, I2, r, q2⟩ => ⟨I2.kIn, run_make M F hr hb .nil hx I2 r q2⟩) hst hpl
end
end L3
namespace R52
open PySem L2 L3 FT ND
open C8 (pss_cut tCut pe_gc)
abbrev sBy : Stmt := inClass (top 44) 1
abbrev sLimited : Stmt := inClass (top 44) 23
abbrev sOrElse : Stmt := inClass (top 44) 24
abbrev sWJoin : Stmt := inClass (top 44) 29
/-- the own == and != of choices -/
structure OwnE (P : Program) (w : World) (K : PySem.W.Frag) (mg : Str → Option Value) (base : Heap) (C fE : Addr) (fdE : FuncData) : Prop where
  G : FnOk P w K mg base CX0 1 fE fdE ["self", "other"] (spEq C)
  b : Binds K fdE ["self", "other"] []
  s : PySem.W.findIn K (.ref C) "__eq__" = some (some (.ref fE))
  f : PySem.W.isFn K (.ref fE) = true
  n : PySem.W.findIn K (.ref C) "__ne__" = some (some (.builtin "object.__ne__"))
  ins : C8.InsC K C
theorem eqB_refl (es : List (Row × Addr)) : eqB es es = true := by
  unfold eqB rowB
  rw [beq_self_eq_true, Bool.true_and]
  exact List.all_eq_true.mpr fun e he => List.any_eq_true.mpr ⟨e, he, decide_eq_true rfl⟩
theorem not_first {K : PySem.W.Frag} {C : Addr} : PySem.W.notFirst K C (.ref C) = true := by
  unfold PySem.W.notFirst
  rw [beq_self_eq_true, Bool.true_or]
/-- the class of worths: its making -/
structure WorthK (P : Program) (w : World) (K : PySem.W.Frag) (mg : Str → Option Value) (base : Heap) (CW CC C fW : Addr) (fdW : FuncData) (nm : Nat → Str) (N : Nat) : Prop where
  M : Mk K CW fW
  G : FnOk P w K mg base CX0 4 fW fdW ["self", "choices", "value"] (spWInit CW CC C nm N)
  b : Binds K fdW ["self", "choices", "value"] []
  g : mg "Worth" = some (.ref CW)
  T : WorthC K CW
theorem lk_wc {c fo tn to td : Addr} : (wfl c fo tn to td).lookup ("choices" : Str) = some (.ref c) := by rfl
theorem lk_wf {c fo tn to td : Addr} : (wfl c fo tn to td).lookup ("form" : Str) = some (.ref fo) := by rfl
theorem lk_wn {c fo tn to td : Addr} : (wfl c fo tn to td).lookup ("nodes" : Str) = some (.ref tn) := by rfl
theorem lk_wj {c fo tn to td : Addr} : (wfl c fo tn to td).lookup ("_joined" : Str) = none := by rfl
section
variable {P : Program} {w : World} {K : PySem.W.Frag} {mg : Str → Option Value} {base : Heap} {CW CC C : Addr} {nm : Nat → Str} {N : Nat}
theorem FD_of_eq {ns ms : List (Tr V)} (e : ns = ms) {c : Closed ns} {c' : Closed ms} : FD.of ns c = FD.of ms c' := by subst e; rfl
/-- a worth is made -/
theorem wmake {c : Addr} {es : List (Row × Addr)} {nx : Int} {M : Nat} {ks : Nat → Nat} {v : V} {t : Tr V} {H : Hp} {Q : VK} {E : XK} (hc : ChAt CC H c es nx) (ci : ChIs N ks nm es) (S : Sce N M ks nm) (gt : TGood N ks t) (hv : (Vl v ∧ t = .leaf v) ∨ FormT C nm N (FDt t) H v)
    (k : ∀ (H' : Hp) (a : Addr), Same H H' → H a = none → WorthI CW C nm N t c H' a → Q (.ref a) H') : ∀ x dx, H x = none → H dx = none → dx ≠ x → spWInit CW CC C nm N (.ref x :: ([.ref c, v] ++ [])) (upd (upd H dx (.own x)) x (.ins CW dx [])) (fun v H2 => v = .non ∧ Q (.ref x) H2) E := by
  intro x dx hx hdx ne
  have sm : Same H (upd (upd H dx (.own x)) x (.ins CW dx [])) := fun b o e => by
    rw [upd_ne (ne_of_none e hx), upd_ne (ne_of_none e hdx)]
    exact e
  refine ⟨x, dx, c, es, nx, M, ks, v, t, rfl, upd_same, hc.same sm, ci, S, gt, hv.imp id (FormT.same sm), fun H' keep wi => ⟨rfl, k H' x (fun b o e => ?_) hx wi⟩⟩
  exact keep b o (ne_of_none e hx) (sm b o e)
theorem scBy : FnScope ["cls", "choices", "name", "values"] ["cls", "choices", "name", "values"] (defScope sBy) := ⟨rfl, rfl, rfl, by decide +kernel, rfl, by decide +kernel, by decide +kernel⟩
/-- no great number -/
def Sml (x : V) : Prop := ∀ i, x = .int i → i.natAbs < 2 ^ 100
theorem sml_tr {t : Tr V} (h : Lv Sml t) (i : Nat) : Sml (lf ((FDt t).tr i)) := by
  have of : ∀ u : Tr V, Lv Sml u → Sml (lf u) := fun u hu => by
    cases u with
    | leaf x => rw [Lv] at hu; exact hu
    | node l ts => exact fun i e => nomatch e
  by_cases q : i < (FDt t).ts.length
  · exact of _ (enum_all (P := fun u => Lv Sml u) (fun l ts hu => by rw [Lv] at hu; exact lvAll_iff.mp hu) t [] h (fun _ z => nomatch z) _ (FD.tr_at q))
  · have e : (FDt t).tr i = lf0 := by
      unfold FD.tr
      rw [List.getD_eq_getElem?_getD, List.getElem?_eq_none (by omega)]
      rfl
    rw [e]
    exact fun i e => nomatch e
theorem mul_tr {t u : Tr V} (h : Lv Sml t) (g : Lv Sml u) (i j : Nat) : MulOk (lf ((FDt t).tr i)) (lf ((FDt u).tr j)) := fun a b e f =>
  wide_mul (sml_tr h i a e) (sml_tr g j b f) (by decide) (by decide) (by decide)
def spWJoin (CW CC C : Addr) (K : PySem.W.Frag) (d : Addr) (nm : Nat → Str) (N : Nat) : Sp := fun vs H Q _ => ∃ (a b c : Addr) (g : Str) (t u : Tr V) (es : List (Row × Addr)) (nx : Int) (M : Nat) (ks : Nat → Nat), vs = [.ref a, .str g, .ref b] ∧ WorthI CW C nm N t c H a ∧ WorthI CW C nm N u c H b ∧ ChAt CC H c es nx ∧ ChIs N ks nm es ∧ Sce N M ks nm ∧ TGood N ks t ∧ TGood N ks u ∧ (SignOk K d g ∧ (g = sMul → Lv Sml t ∧ Lv Sml u)) ∧
  ∀ (H' : Hp) (r : Addr), Same H H' → WorthI CW C nm N (joinT N (opF g) (t, u)) c H' r → Q (.ref r) H'
theorem scWj : FnScope ["self", "sign", "other"] ["self", "sign", "other"] (defScope sWJoin) := ⟨rfl, rfl, rfl, by decide +kernel, rfl, by decide +kernel, by decide +kernel⟩
theorem ok_wjoin {f fW fJ fE d : Addr} {fd fdW fdJ fdE : FuncData} (F : Fun K "_joined" "Worth._joined" sWJoin f fd) (KW : WorthK P w K mg base CW CC C fW fdW nm N) (UJ : Use P w K mg base "joined" 5 fJ fdJ ["sign", "one", "other"] (spJoin C K d nm N)) (OE : OwnE P w K mg base CC fE fdE) :
    FnOk P w K mg base CX0 6 f fd ["self", "sign", "other"] (spWJoin CW CC C K d nm N) := by
  refine F.ok scWj (fun vs H Q E h => ?_) (fun cdv A outer s H vs Q E hr h => ?_)
  · obtain ⟨a, b, c, g, t, u, es, nx, M, ks, rfl, _⟩ := h
    rfl
  · obtain ⟨a, b, c, g, t, u, es, nx, M, ks, rfl, wa, wb, hc, ci, S, gt, gu, hg, k⟩ := h
    refine ⟨_, pss_cons (ps_if (pt_cmpR (op_ownNe OE.G (hr.mono (by omega)) OE.b (E := E0) pass0 OE.s OE.f OE.n OE.ins.hm) (pe_fld (pv 0) rfl) (pe_fld (pv 2) rfl) (nomark _)) pss_dead pss_nil)
      (pss_one (ps_ret (pe_make KW.M KW.G (hr.mono (by omega)) (by rfl) KW.g KW.b .nil pass0 (pa_cons (pe_fld (pv 0) rfl) (pa_cons (pe_call UJ.G hr (by rfl) UJ.g UJ.kp UJ.b .nil pass0 (pa_cons (pv 1) (pa_cons (pe_fld (pv 0) rfl) (pa_cons (pe_fld (pv 2) rfl) pa_nil)))) pa_nil))))), ?_⟩
    obtain ⟨dx, fo, df, tn, tl, to, td, h1, h2, h3, h4, h5, h6⟩ := id wa
    obtain ⟨dy, go, dg, un, ul, uo, ud, g1, g2, g3, g4, g5, g6⟩ := id wb
    obtain ⟨dc, tnc, tdc, hcc, cp⟩ := id hc
    refine ⟨_, rfl, a, CW, dx, _, _, rfl, h1, KW.T.cl, KW.T.nC, lk_wc, _, rfl, b, CW, dy, _, _, rfl, g1, KW.T.cl, KW.T.nC, lk_wc, c, dc, _, _, rfl, hcc, .base (.ins hcc OE.ins.cl OE.ins.ha OE.ins.hn OE.ins.htk OE.ins.hm), not_first, c, _, nx, es, rfl, hc, .inl ⟨c, nx, es, rfl, hc, _, rfl, _, rfl, ifF (by rw [eqB_refl]; rfl) ?_⟩⟩
    have fewA := FDt_few S.hk gt.1
    have fewB := FDt_few S.hk gu.1
    have geo := S.geo
    have lsz := sizeLine_eq
    obtain ⟨gj, _⟩ := join_good (f := opF g) (fun x y hx hy => op_vl hx hy) ⟨gt.1.wo, gt.2⟩ ⟨gu.1.wo, gu.2⟩
    have mul : (FDt t).ts.length * (FDt u).ts.length ≤ 2000 * 2000 := Nat.mul_le_mul (by omega) (by omega)
    have ev := FDt_val (N := N) (f := opF g) t u
    refine ⟨_, rfl, a, CW, dx, _, _, rfl, h1, KW.T.cl, KW.T.nC, lk_wc, _, rfl, _, rfl, a, CW, dx, _, _, rfl, h1, KW.T.cl, KW.T.nF, lk_wf, _, rfl, b, CW, dy, _, _, rfl, g1, KW.T.cl, KW.T.nF, lk_wf, ?_⟩
    refine ⟨g, FDt t, FDt u, ks, M, .ref fo, .ref go, rfl, ⟨fo, df, tn, tl, rfl, h2, h3⟩, ⟨go, dg, un, ul, rfl, g2, g3⟩, ⟨hg.1, fun e i j => mul_tr (hg.2 e).1 (hg.2 e).2 i j⟩, FDt_okay gt, FDt_okay gu, S.hk, S.hM, S.hN, by omega, S.nmI, by rw [ev]; exact sce_len S gj, fun cl H1 r s1 fm => ?_⟩
    have fm' : FormT C nm N (FDt (joinT N (opF g) (t, u))) H1 r := by
      have e : FD.of _ cl = FDt (joinT N (opF g) (t, u)) := FD_of_eq (congrArg (fun z => enum z []) ev)
      rw [← e]
      exact fm
    exact wmake (hc.same s1) ci S gj (.inr fm') fun H' b sm _ wi => k H' b (fun x o e => sm _ _ (s1 _ _ e)) wi
def sLim : Str := "limited"
def spWTwo (g : Str) (CW CC C : Addr) (nm : Nat → Str) (N : Nat) : Sp := fun vs H Q _ => ∃ (a b c : Addr) (t u : Tr V) (es : List (Row × Addr)) (nx : Int) (M : Nat) (ks : Nat → Nat), vs = [.ref a, .ref b] ∧ WorthI CW C nm N t c H a ∧ WorthI CW C nm N u c H b ∧ ChAt CC H c es nx ∧ ChIs N ks nm es ∧ Sce N M ks nm ∧ TGood N ks t ∧ TGood N ks u ∧
  ∀ (H' : Hp) (r : Addr), Same H H' → WorthI CW C nm N (joinT N (opF g) (t, u)) c H' r → Q (.ref r) H'
theorem scLi : FnScope ["self", "truth"] ["self", "truth"] (defScope sLimited) := ⟨rfl, rfl, rfl, by decide +kernel, rfl, by decide +kernel, by decide +kernel⟩
theorem scOe : FnScope ["self", "other"] ["self", "other"] (defScope sOrElse) := ⟨rfl, rfl, rfl, by decide +kernel, rfl, by decide +kernel, by decide +kernel⟩
theorem ok_limited {f fJ d : Addr} {fd fdJ : FuncData} (F : Fun K "limited" "Worth.limited" sLimited f fd) (cl : Cls K CW) (mJ : Meth K CW "_joined" fJ) (GJ : FnOk P w K mg base CX0 6 fJ fdJ ["self", "sign", "other"] (spWJoin CW CC C K d nm N)) (bJ : Binds K fdJ ["self", "sign", "other"] []) (ns : PySem.W.nsIn K d sLim = some none) :
    FnOk P w K mg base CX0 7 f fd ["self", "truth"] (spWTwo sLim CW CC C nm N) := by
  refine F.ok scLi (fun vs H Q E h => ?_) (fun cdv A outer s H vs Q E hr h => ?_)
  · obtain ⟨a, b, c, t, u, es, nx, M, ks, rfl, _⟩ := h
    rfl
  · obtain ⟨a, b, c, t, u, es, nx, M, ks, rfl, wa, wb, hc, ci, S, gt, gu, k⟩ := h
    refine ⟨_, pss_one (ps_ret (pe_meth (pv 0) cl mJ GJ hr bJ .nil pass0 (pa_cons pe_str (pa_cons (pv 1) pa_nil)))), ?_⟩
    obtain ⟨dx, fo, df, tn, tl, to, td, h1, h2, h3, h4, h5, h6⟩ := id wa
    exact ⟨_, rfl, a, dx, _, rfl, h1, lk_wj, _, rfl, a, b, c, sLim, t, u, es, nx, M, ks, rfl, wa, wb, hc, ci, S, gt, gu, ⟨.inl ⟨by decide +kernel, ns⟩, fun e => absurd e (by decide +kernel)⟩, k⟩
theorem ok_orelse {f fJ d : Addr} {fd fdJ : FuncData} (F : Fun K "or_else" "Worth.or_else" sOrElse f fd) (cl : Cls K CW) (mJ : Meth K CW "_joined" fJ) (GJ : FnOk P w K mg base CX0 6 fJ fdJ ["self", "sign", "other"] (spWJoin CW CC C K d nm N)) (bJ : Binds K fdJ ["self", "sign", "other"] []) (ns : PySem.W.nsIn K d sElse = some none) :
    FnOk P w K mg base CX0 7 f fd ["self", "other"] (spWTwo sElse CW CC C nm N) := by
  refine F.ok scOe (fun vs H Q E h => ?_) (fun cdv A outer s H vs Q E hr h => ?_)
  · obtain ⟨a, b, c, t, u, es, nx, M, ks, rfl, _⟩ := h
    rfl
  · obtain ⟨a, b, c, t, u, es, nx, M, ks, rfl, wa, wb, hc, ci, S, gt, gu, k⟩ := h
    refine ⟨_, pss_one (ps_ret (pe_meth (pv 0) cl mJ GJ hr bJ .nil pass0 (pa_cons pe_str (pa_cons (pv 1) pa_nil)))), ?_⟩
    obtain ⟨dx, fo, df, tn, tl, to, td, h1, h2, h3, h4, h5, h6⟩ := id wa
    exact ⟨_, rfl, a, dx, _, rfl, h1, lk_wj, _, rfl, a, b, c, sElse, t, u, es, nx, M, ks, rfl, wa, wb, hc, ci, S, gt, gu, ⟨.inl ⟨by decide +kernel, ns⟩, fun e => absurd e (by decide +kernel)⟩, k⟩
end
end R52
namespace FT
open PySem PySem.Spec PyProof.Rows L2 ND
open Classical
end FT
namespace R52
open PySem L2 L3 FT ND
open C8 (pss_cut tCut pe_gc)
abbrev sNames : Stmt := top 50
def z000 : Str := "zzz000"
def gone : Str := "gone"
def never : Str := "never"
def okT (t : Str) : Bool := decide (t.length ≤ 6) && (decide ((reprText t).length ≤ 40) && (PyData.strOk t && (easyS t && (isChS t && (!decide (t = gone) && (!decide (t = never) && !decide (t = z000)))))))
structure NameOk (t : Str) : Prop where
  len : t.length ≤ 6
  rep : (reprText t).length ≤ 40
  str : PyData.strOk t = true
  easy : easyS t = true
  ch : isChS t = true
  ng : t ≠ gone
  nv : t ≠ never
  nz : t ≠ z000
theorem okT_iff {t : Str} (h : okT t = true) : NameOk t := by
  unfold okT at h
  simp only [Bool.and_eq_true, decide_eq_true_eq, Bool.not_eq_true', decide_eq_false_iff_not] at h
  exact ⟨h.1, h.2.1, h.2.2.1, h.2.2.2.1, h.2.2.2.2.1, h.2.2.2.2.2.1, h.2.2.2.2.2.2.1, h.2.2.2.2.2.2.2⟩
theorem gone_ch : isChS gone = true := by decide +kernel
def nFix : List Str := ["none", "number", "word", "truth", "ask", "by", "pay.0", "d.11", "x.7"]
def nLet : Str := "bcefghijklmnopqrstuvwyz"
def nSuf : List Str := ["", "0", "x1", "abcde"]
def nTen : List Str := (List.range 10).map fun k => Str.ofString "a" ++ Str.ofString (toString ((k : Nat) : Int))
def nOf (c : Nat) (r : Nat) : Str := ⟨#[c]⟩ ++ nSuf.getD r Str.empty
def nGrp (c : Nat) : List Str := (List.range 4).map (nOf c)
def nAll : List Str := nFix ++ (nLet.cps.toList.flatMap nGrp ++ nTen)
theorem nAll_ok : (decide nAll.Nodup && nAll.all okT) = true := by decide +kernel
theorem nLet_len : nLet.cps.toList.length = 23 := by decide +kernel
theorem nLet_size : nLet.cps.size = 23 := nLet_len
/-- what may be drawn of the first so many letters -/
theorem grp_step {L : List Str} {i c r : Nat} (h : L.Sublist ((nLet.cps.toList.take i).flatMap nGrp)) (hc : nLet.cps.toList[i]? = some c) (hr : r < 4) : (L ++ [nOf c r]).Sublist ((nLet.cps.toList.take (i + 1)).flatMap nGrp) := by
  rw [List.take_add_one, hc, List.flatMap_append]
  refine List.Sublist.append h ?_
  show [nOf c r].Sublist ([c].flatMap nGrp)
  rw [List.flatMap_cons, List.flatMap_nil, List.append_nil]
  exact List.singleton_sublist.mpr (List.mem_map.mpr ⟨r, List.mem_range.mpr hr, rfl⟩)
/-- different names, each a choice's -/
def GoodN (ts : List Str) : Prop := ts.Nodup ∧ ∀ t ∈ ts, okT t = true
theorem good_sub {ts : List Str} (h : ts.Sublist nAll) : GoodN ts := by
  have a := nAll_ok
  obtain ⟨r1, r2⟩ := Bool.and_eq_true_iff.mp a
  exact ⟨(of_decide_eq_true r1).sublist h, fun t ht => List.all_eq_true.mp r2 t (h.subset ht)⟩
theorem GoodN.perm {ts us : List Str} (g : GoodN us) (h : ts.Perm us) : GoodN ts := ⟨h.nodup_iff.mpr g.1, fun t ht => g.2 t (h.mem_iff.mp ht)⟩
theorem GoodN.take {ts : List Str} (g : GoodN ts) (m : Nat) : GoodN (ts.take m) := ⟨g.1.sublist (List.take_sublist _ _), fun t ht => g.2 t (List.mem_of_mem_take ht)⟩
def spNames : Sp := fun vs H Q _ => ∃ (a : Addr) (m : Nat), vs = [.ref a, .int (m : Nat)] ∧ FeedAt H a ∧ m ≤ 40 ∧ ∀ (p : Addr) (ts : List Str) (H' : Hp), H p = none → Dr a H H' → H' p = some (.lst (ts.map V.str)) → ts.length = m → GoodN ts → Q (.ref p) H'
section
variable {P : Program} {w : World} {K : PySem.W.Frag} {mg : Str → Option Value} {base : Heap}
abbrev NNm : List Str := ["_law_feed_here", "_law_many", "_law_some_here", "_law_letter", "_law_k"]
theorem scNm : FnScope NNm ["_law_feed_here", "_law_many"] (defScope sNames) := ⟨rfl, rfl, rfl, by decide +kernel, rfl, by decide +kernel, by decide +kernel⟩
theorem strs_app (xs ys : List Str) : xs.map V.str ++ ys.map V.str = (xs ++ ys).map V.str := (List.map_append).symm
theorem ok_names {f fT fM : Addr} {fd fdT fdM : FuncData} (F : Fun K "_law_names" "_law_names" sNames f fd) (UT : Use P w K mg base "_law_take" 1 fT fdT ["_law_feed_here", "_law_many"] spTake) (UM : Use P w K mg base "_law_mixed" 2 fM fdM ["_law_feed_here", "_law_items"] (spMixed K)) (zStr : mg "str" = none) (zRng : mg "range" = none) :
    FnOk P w K mg base CX0 3 f fd ["_law_feed_here", "_law_many"] spNames := by
  refine F.ok scNm (fun vs H Q E h => ?_) (fun cdv A outer s H vs Q E hr h => ?_)
  · obtain ⟨a, m, rfl, _⟩ := h
    rfl
  · obtain ⟨a, m, rfl, hf, hm, k⟩ := h
    have nd := scNm.nd
    refine ⟨_, pss_cons (ps_set (i := 2) nd rfl (.inl rfl) (pe_lst (pa_cons pe_str (pa_cons pe_str (pa_cons pe_str (pa_cons pe_str (pa_cons pe_str (pa_cons pe_str (pa_cons pe_str (pa_cons pe_str (pa_cons pe_str pa_nil)))))))))))
      (pss_cons (ps_for PassesOwn.never rfl (pi_str pe_str) (pg_name (i := 3) nd rfl (.inl rfl))
        (pss_one (ps_expr (pe_bm PySem.F.plainAttrs_list PySem.F.slot_list_append PySem.F.type_list_append mt_append (pv 2) (pa_cons (pe_op op_add_str (pv 3) (pe_ix (r := rIxL K) (by exact ix_list) (pe_lst (pa_cons pe_str (pa_cons pe_str (pa_cons pe_str (pa_cons pe_str pa_nil))))) (pe_call UT.G (hr.mono (by omega)) (by rfl) UT.g UT.kp UT.b .nil pass0 (pa_cons (pv 0) (pa_cons pe_int pa_nil))) (fun _ _ => rfl))) pa_nil)))))
      (pss_one (ps_ret (pe_slice (r := rSlL K) (by exact sl_list) (pe_call UM.G (hr.mono (by omega)) (by rfl) UM.g UM.kp UM.b .nil pass0 (pa_cons (pv 0) (pa_cons (pe_op op_cat (pv 2) (pe_lc (own := [("_law_k", 4)]) (g := gName 4) (tt := tYes) rfl nd (pi_range1 (by rfl) zRng (pa_cons pe_int pa_nil)) (blkOk_by (N := NNm) (sc := defScope sNames) (by decide +kernel)) (fun _ _ _ _ _ => pg_name (i := 4) nd rfl (.inl rfl)) (fun _ _ _ _ _ => pts_nil)
        (fun _ _ _ _ _ => pe_op op_add_str pe_str (pe_callTy call_str_int (by rfl) zStr PyProof.Rows.boot_str (pa_cons (pv 4) pa_nil))))) pa_nil))) po_none (po_some (pv 1)))))), ?_⟩
    obtain ⟨fx, fy, ha, hfy⟩ := id hf
    refine ⟨(show 9 ≤ sizeLine by decide), fun B hB => ?_⟩
    have Ba : B ≠ a := (ne_of_none ha hB).symm
    have s1 := same_new (o := .lst (nFix.map V.str)) hB
    refine ⟨nLet, rfl, for_it walk_str (fun i σ H' => ∃ (v : Option V) (L : List Str), σ = [some (.ref a), some (.int (m : Nat)), some (.ref B), v, none] ∧ L.Sublist ((nLet.cps.toList.take i).flatMap nGrp) ∧ L.length = i ∧ H' B = some (.lst ((nFix ++ L).map V.str)) ∧ Dr a H H')
      ⟨none, [], rfl, List.nil_sublist _, rfl, upd_same, ⟨⟨fx, fy, s1 _ _ ha, hfy⟩, fun b o _ e => s1 _ _ e⟩⟩ (fun _ _ _ _ _ => trivial) ?_ ?_⟩
    · rintro i x σ H2 H2' hi ⟨v, L, rfl, sl, ll, eB, d2⟩ ⟨rfl, c, hc, rfl⟩
      rw [nLet_size] at hi
      have hc' : nLet.cps.toList[i]? = some c := by rw [Array.getElem?_toList]; exact hc
      refine ⟨_, rfl, .inl ⟨rfl, _, SqL.of eB⟩, _, rfl, (show 4 ≤ sizeLine by decide), fun Z hZ => ?_⟩
      have s3 := same_new (o := HO.lst (nSuf.map V.str)) hZ
      have eZ : upd H2' Z (.lst (nSuf.map V.str)) Z = some (.lst (nSuf.map V.str)) := upd_same
      have Za : Z ≠ a := feed_ne d2.fd hZ
      have d3 := dr_same d2 s3
      have eB3 := s3 _ _ eB
      show tCall _ _ _ _ _ (upd H2' Z (.lst (nSuf.map V.str))) _
      generalize upd H2' Z (.lst (nSuf.map V.str)) = H3 at eZ d3 eB3 ⊢
      refine ⟨_, rfl, a, 4, rfl, d3.fd, by decide, by decide, fun r H4 r0 r1 d4 => ?_⟩
      obtain ⟨j, rfl⟩ : ∃ j : Nat, r = ((j : Nat) : Int) := ⟨r.toNat, by omega⟩
      have hj : j < 4 := by omega
      have ej : (nSuf.map V.str)[j]? = some (.str (nSuf.getD j Str.empty)) := by
        rw [List.getElem?_map, List.getD_eq_getElem?_getD, List.getElem?_eq_getElem (show j < nSuf.length from hj)]
        rfl
      have ln : (⟨#[c]⟩ : Str).length + (nSuf.getD j Str.empty).length ≤ sizeLine := by
        have : (nSuf.getD j Str.empty).length ≤ 5 := by
          have t : (List.range 4).all (fun j => decide ((nSuf.getD j Str.empty).length ≤ 5)) = true := by decide +kernel
          exact of_decide_eq_true (List.all_eq_true.mp t j (List.mem_range.mpr hj))
        have e1 : (⟨#[c]⟩ : Str).length = 1 := rfl
        rw [e1]
        have := sizeLine_eq
        omega
      refine ⟨Z, _, _, _, rfl, rfl, SqL.of (d4.sm _ _ Za eZ), atI_nat ej, _, _, rfl, rfl, ln, B, _, _, rfl, rfl, d4.sm _ _ Ba eB3, ?_, ?_⟩
      · rw [List.length_map, List.length_append, ll]
        have e9 : nFix.length = 9 := rfl
        have := sizeLine_eq
        omega
      · have d5 := d3.trans d4
        refine ⟨_, L ++ [nOf c j], rfl, grp_step sl hc' hj, by rw [List.length_append, ll]; rfl, ?_, dr_put Ba hB d5⟩
        rw [upd_same, ← List.append_assoc, List.map_append (l₁ := nFix ++ L)]
        rfl
    rintro σ H2 ⟨v, L, rfl, sl, ll, eB, d2⟩
    rw [nLet_size] at ll
    rw [show nLet.cps.size = nLet.cps.toList.length from nLet_size.trans nLet_len.symm, List.take_length] at sl
    refine ⟨_, rfl, _, rfl, 10, rfl, by decide, by decide, fun D hD => ?_⟩
    have Da : D ≠ a := feed_ne d2.fd hD
    have DB : D ≠ B := fun e => by rw [e, eB] at hD; cases hD
    refine lc_range (lo := 0) (n := (10 : Int).toNat) (fun q H' => H' = upd H2 D (.lst ((nTen.take q).map V.str))) rfl ?_ ?_
    · rintro q H7 hq rfl
      replace hq : q < 10 := hq
      have hlog : (0 + (q : Int)).natAbs.log2 < 1920 := Sm.log (n := 10) (by show Int.natAbs _ < 1024; omega) (by decide) (by decide)
      have hl : (nTen.take q).length = q := by rw [List.length_take]; exact Nat.min_eq_left (show q ≤ 10 by omega)
      refine ⟨rfl, _, rfl, _, rfl, hlog, _, _, rfl, rfl, Nat.le_trans (Nat.add_le_add (show (Str.ofString "a").length ≤ 1 by decide +kernel) (PyProof.Rows.int_text_len_1921 hlog)) (show 1 + 1921 ≤ sizeLine by decide), _, upd_same, by rw [List.length_map, hl]; exact Nat.lt_of_lt_of_le hq (by decide), ?_⟩
      rw [upd_two, Int.zero_add, List.take_add_one, List.map_append]
      have e : nTen[q]? = some (Str.ofString "a" ++ Str.ofString (toString ((q : Nat) : Int))) := by
        unfold nTen
        rw [List.getElem?_map, List.getElem?_range hq]
        rfl
      rw [e]
      rfl
    rintro H7 rfl
    have e10 : nTen.take (10 : Int).toNat = nTen := List.take_of_length_le (Nat.le_refl 10)
    rw [e10]
    refine ⟨B, D, _, _, rfl, rfl, by rw [upd_ne (Ne.symm DB)]; exact eB, upd_same, ?_, fun p hp => ?_⟩
    · rw [List.length_map, List.length_map, List.length_append, ll]
      show 9 + 23 + 10 ≤ sizeLine
      decide
    have sD := same_new (o := HO.lst (nTen.map V.str)) hD
    have sp := same_new (o := HO.lst ((nFix ++ L).map V.str ++ nTen.map V.str)) hp
    have ep : upd (upd H2 D (.lst (nTen.map V.str))) p (.lst ((nFix ++ L).map V.str ++ nTen.map V.str)) p = some (.lst ((nFix ++ L).map V.str ++ nTen.map V.str)) := upd_same
    have d8 := dr_same (dr_same d2 sD) sp
    generalize upd (upd H2 D (.lst (nTen.map V.str))) p (.lst ((nFix ++ L).map V.str ++ nTen.map V.str)) = H8 at ep d8 ⊢
    rw [strs_app] at ep
    have sub : (nFix ++ L ++ nTen).Sublist nAll := by
      unfold nAll
      rw [List.append_assoc]
      exact (List.Sublist.refl _).append (sl.append (List.Sublist.refl _))
    have gd := good_sub sub
    have l42 : (nFix ++ L ++ nTen).length = 42 := by
      rw [List.length_append, List.length_append, ll]
      rfl
    refine ⟨a, p, _, rfl, d8.fd, .inl (SqL.of ep), by rw [List.length_map, l42]; decide, fun x hx => ?_, fun p2 ys H9 hp2 d9 e9 pm => ?_⟩
    · obtain ⟨t, ht, rfl⟩ := List.mem_map.mp hx
      exact dat_str (okT_iff (gd.2 t ht)).str
    obtain ⟨zs, hz, rfl⟩ := perm_strs pm
    have gz := gd.perm hz
    refine ⟨_, rfl, _, rfl, p2, _, rfl, SqL.of e9, fun p3 hp3 => ?_⟩
    have dA := d8.trans d9
    exact k p3 (zs.take m) _ (dr_free dA hp3) (dr_same dA (same_new hp3)) (by rw [upd_same, cut_strs]) (by rw [List.length_take, hz.length_eq, l42]; omega) (gz.take m)
end
end R52
namespace R52
open PySem L2 L3 FT ND
open C8 (pss_cut tCut pe_gc)
abbrev sSomeF : Stmt := top 51
def nmOf (ts : List Str) (l : Nat) : Str := ts.getD l z000
/-- choices of these names and options, as they are put in -/
def RowsAre (ts : List Str) (ss : List Nat) (i : Nat) (es : List (Row × Addr)) : Prop := es.length = i ∧ ∀ (j : Nat) (e : Row × Addr), es[j]? = some e → ts[j]? = some e.1.1 ∧ ∃ m, ss[j]? = some m ∧ e.1.2.1 = ((m : Nat) : Int)
/-- a list of names with their numbers of options -/
def RowsL (H : Hp) (R : Addr) (ts : List Str) (ss : List Nat) : Prop := ∃ us : List Addr, H R = some (.lst (us.map V.ref)) ∧ us.length = ss.length ∧ ∀ (j : Nat) (u : Addr), us[j]? = some u → ∃ t m, ts[j]? = some t ∧ ss[j]? = some m ∧ H u = some (.tup [.str t, .int ((m : Nat) : Int)])
theorem RowsL.keep {H H' : Hp} {R a : Addr} {ts : List Str} {ss : List Nat} (n : R ≠ a) (f : ∀ vs, H a ≠ some (.tup vs)) (s : ∀ b o, b ≠ a → H b = some o → H' b = some o) (h : RowsL H R ts ss) : RowsL H' R ts ss := by
  obtain ⟨us, e, l, k⟩ := h
  refine ⟨us, s _ _ n e, l, fun j u hu => ?_⟩
  obtain ⟨t, m, h1, h2, h3⟩ := k j u hu
  exact ⟨t, m, h1, h2, s _ _ (fun z => f _ (by rw [← z]; exact h3)) h3⟩
theorem feed_tup {H : Hp} {a : Addr} (f : FeedAt H a) : ∀ vs, H a ≠ some (.tup vs) := fun vs e => by
  obtain ⟨u, v, h, _⟩ := f
  rw [h] at e
  cases e
theorem RowsL.dr {H H' : Hp} {R a : Addr} {ts : List Str} {ss : List Nat} (n : R ≠ a) (f : FeedAt H a) (d : Dr a H H') (h : RowsL H R ts ss) : RowsL H' R ts ss := h.keep n (feed_tup f) d.sm
theorem RowsL.same {H H' : Hp} {R : Addr} {ts : List Str} {ss : List Nat} (s : Same H H') (h : RowsL H R ts ss) : RowsL H' R ts ss := by
  obtain ⟨us, e, l, k⟩ := h
  refine ⟨us, s _ _ e, l, fun j u hu => ?_⟩
  obtain ⟨t, m, h1, h2, h3⟩ := k j u hu
  exact ⟨t, m, h1, h2, s _ _ h3⟩
theorem RowsL.ne {H : Hp} {R a : Addr} {ts : List Str} {ss : List Nat} (f : FeedAt H a) (pos : 0 < ss.length) (h : RowsL H R ts ss) : R ≠ a := fun z => by
  obtain ⟨us, e, l, _⟩ := h
  obtain ⟨u, v, hu, _⟩ := f
  rw [z, hu] at e
  injection e with e
  injection e with e
  cases us with
  | nil => rw [← l] at pos; exact absurd pos (Nat.lt_irrefl 0)
  | cons x r => injection e with e _; exact nomatch e
theorem ChAt.off {C R c : Addr} {H H' : Hp} {es : List (Row × Addr)} {nx : Int} {vs : List V} (hu : H R = some (.lst vs)) (d : ∀ b o, b ≠ R → H b = some o → H' b = some o) (h : ChAt C H c es nx) : ChAt C H' c es nx := by
  obtain ⟨dc, tnc, tdc, hcc, cp⟩ := h
  have nl : ∀ {y : Addr} {o : HO}, (∀ vs, o ≠ HO.lst vs) → H y = some o → y ≠ R := fun n e z => by
    rw [z, hu] at e
    exact n _ (Option.some.inj e).symm
  obtain ⟨ob, z1, z2⟩ := cp.tn
  exact ⟨dc, tnc, tdc, d _ _ (nl (by intro _ z; cases z) hcc) hcc, ⟨ob, z1, d _ _ (nl (by intro _ z; cases z) z2) z2⟩, d _ _ (nl (by intro _ z; cases z) cp.td) cp.td, fun e he => d _ _ (nl (by intro _ z; cases z) (cp.at_ e he)) (cp.at_ e he), cp.nd, cp.le⟩
theorem ChAt.dr {C a c : Addr} {H H' : Hp} {es : List (Row × Addr)} {nx : Int} (f : FeedAt H a) (d : Dr a H H') (h : ChAt C H c es nx) : ChAt C H' c es nx := by
  obtain ⟨u, v, hu, _⟩ := f
  exact h.off hu d.sm
theorem atI_lastR {α : Type} (xs : List α) (x : α) : atI (xs ++ [x]) (-1) = some x := by
  unfold atI ixN
  have e : (xs ++ [x]).length = xs.length + 1 := by rw [List.length_append]; rfl
  rw [if_neg (by decide), if_pos (by omega), e]
  have e2 : (-1 + ((xs.length + 1 : Nat) : Int)).toNat = xs.length := by omega
  have e3 : (((xs.length + 1 : Nat) : Int) + -1).toNat = xs.length := by omega
  show (xs ++ [x])[_]? = some x
  first | rw [e2] | rw [e3]
  rw [List.getElem?_append_right (Nat.le_refl _), Nat.sub_self]
  rfl
abbrev NSo : List Str := ["_law_feed_here", "_law_many", "_law_most", "_law_found", "_law_rows", "_law_name"]
section
variable {P : Program} {w : World} {K : PySem.W.Frag} {mg : Str → Option Value} {base : Heap} {C CI CT CU fi ft fu : Addr}
theorem scSoF : FnScope NSo ["_law_feed_here", "_law_many", "_law_most"] (defScope sSomeF) := ⟨rfl, rfl, rfl, by decide +kernel, rfl, by decide +kernel, by decide +kernel⟩
def spSome (C : Addr) : Sp := fun vs H Q _ => ∃ (a : Addr) (n M : Nat), vs = [.ref a, .int (n : Nat), .int (M : Nat)] ∧ FeedAt H a ∧ 1 ≤ n ∧ n ≤ 40 ∧ 2 ≤ M ∧ M ≤ 9 ∧
  ∀ (p c R : Addr) (ts : List Str) (ss : List Nat) (es : List (Row × Addr)) (nx : Int) (H' : Hp), Dr a H H' → H' p = some (.tup [.ref c, .ref R]) → ChAt C H' c es nx → RowsAre ts ss ts.length es → RowsL H' R ts ss → ts.length = n → ss.length = n → GoodN ts → (∀ m ∈ ss, 2 ≤ m ∧ m ≤ M) → Q (.ref p) H'
theorem dropE_snoc {es : List (Row × Addr)} {z : Str} {m n : Int} {p : Addr} (h : hasB z es = false) : dropE z (es ++ [((z, m, n), p)]) = es := by
  unfold dropE
  rw [List.filter_append, List.filter_cons, List.filter_nil]
  have e1 : es.filter (fun e => !decide (e.1.1 = z)) = es := List.filter_eq_self.mpr fun e he => by
    rw [decide_eq_false (hasB_none h e he)]
    rfl
  rw [e1, if_neg (by rw [decide_eq_true rfl]; decide), List.append_nil]
theorem ok_some' {f fT fN f0 fP fW : Addr} {fd fdT fdN fd0 fdP fdW : FuncData} (F : Fun K "_law_some" "_law_some" sSomeF f fd) (T : Txt P K mg C CI CT CU fi ft fu) (UT : Use P w K mg base "_law_take" 1 fT fdT ["_law_feed_here", "_law_many"] spTake) (UN : Use P w K mg base "_law_names" 3 fN fdN ["_law_feed_here", "_law_many"] spNames) (M : Mk K C f0) (GI : FnOk P w K mg base CX0 1 f0 fd0 ["self"] (spInit C)) (b0 : Binds K fd0 ["self"] [])
    (GP : FnOk P w K mg base (L2.CX P w) 3 fP fdP ["self", "name", "many"] (spPut C CI CT)) (mP : Meth K C "put" fP) (bP : Binds K fdP ["self", "name", "many"] []) (GW : FnOk P w K mg base (L2.CX P w) 3 fW fdW ["self", "name"] (spWithout C CU)) (mW : Meth K C "without" fW) (bW : Binds K fdW ["self", "name"] []) :
    FnOk P w K mg base CX0 4 f fd ["_law_feed_here", "_law_many", "_law_most"] (spSome C) := by
  refine F.ok scSoF (fun vs H Q E h => ?_) (fun cdv A outer s H vs Q E hr h => ?_)
  · obtain ⟨a, n, m, rfl, _⟩ := h
    rfl
  · obtain ⟨a, n, mm, rfl, hf, n1, n40, m2, m9, k⟩ := h
    have nd := scSoF.nd
    have R2 : Room 2 (A.deeper (PyProof.Rows.envOfC ("_law_some" : Str) (defScope sSomeF) s.heap.objs.size f cdv)) := hr.mono (by omega)
    refine ⟨_, pss_cons (ps_par (i := 3) (j := 4) (by rfl) nd rfl rfl (by decide) rfl rfl (pa_cons (pe_make0 M GI R2 (by rfl) T.gC b0 .nil pass0) (pa_cons (pe_lst pa_nil) pa_nil)) (by rfl))
      (pss_cons (ps_for PassesOwn.never rfl (pi_list (pe_call UN.G (hr.mono (by omega)) (by rfl) UN.g UN.kp UN.b .nil pass0 (pa_cons (pv 0) (pa_cons (pv 1) pa_nil)))) (pg_name (i := 5) nd rfl (.inl rfl))
        (pss_cut (ps_if (pt_cmpR op_eq (pe_call UT.G (hr.mono (by omega)) (by rfl) UT.g UT.kp UT.b .nil pass0 (pa_cons (pv 0) (pa_cons pe_int pa_nil))) pe_int (nomark _))
            (pss_one (ps_set (i := 3) nd rfl (.inl rfl) (pe_meth (pe_meth (pv 3) T.cl mP GP hr bP .nil passL (pa_cons pe_str (pa_cons pe_int pa_nil))) T.cl mW GW hr bW .nil passL (pa_cons pe_str pa_nil)))) pss_nil)
        (pss_cons (ps_expr (pe_bm PySem.F.plainAttrs_list PySem.F.slot_list_append PySem.F.type_list_append mt_append (pv 4) (pa_cons (pe_tup (pa_cons (pv 5) (pa_cons (pe_op op_add pe_int (pe_call UT.G (hr.mono (by omega)) (by rfl) UT.g UT.kp UT.b .nil pass0 (pa_cons (pv 0) (pa_cons (pe_op op_sub (pv 2) pe_int) pa_nil)))) pa_nil))) pa_nil)))
        (pss_one (ps_set (i := 3) nd rfl (.inl rfl) (pe_meth (pv 3) T.cl mP GP hr bP .nil passL (pa_cons (pv 5) (pa_cons (pe_ix (r := rIxT K) (by exact ix_tup) (pe_ix (r := rIxL K) (by exact ix_list) (pv 4) (pe_un un_neg pe_int) (fun _ _ => rfl)) pe_int (fun _ _ => rfl)) pa_nil))))))))
      (pss_one (ps_ret (pe_tup (pa_cons (pv 3) (pa_cons (pv 4) pa_nil)))))), ?_⟩
    intro x dx hx hdx ne
    refine ⟨x, dx, rfl, upd_same, fun H2 tn td keep ex cp h1 h2 => ⟨rfl, (show 0 ≤ sizeLine by decide), fun R hR => ⟨_, _, rfl, ?_⟩⟩⟩
    have s2 : Same H H2 := fun y o e => keep y o (ne_of_none e hx) (by rw [upd_ne (ne_of_none e hx), upd_ne (ne_of_none e hdx)]; exact e)
    have d2 : Dr a H H2 := dr_same (dr_refl hf) s2
    have Ra : R ≠ a := feed_ne d2.fd hR
    have d3 : Dr a H (upd H2 R (.lst [])) := dr_same d2 (same_new hR)
    have ch3 : ChAt C (upd H2 R (.lst [])) x [] 0 := ChAt.same (same_new hR) ⟨dx, tn, td, ex, cp⟩
    have eR3 : upd H2 R (.lst []) R = some (.lst []) := upd_same
    generalize upd H2 R (.lst []) = H3 at d3 ch3 eR3 ⊢
    refine ⟨_, rfl, _, rfl, a, n, rfl, d3.fd, n40, fun p ts H4 hp d4 ep ln gd => ⟨p, rfl, ⟨_, SqL.of ep⟩, ?_⟩⟩
    have pa : p ≠ a := feed_ne d3.fd hp
    have pR : p ≠ R := fun e => by rw [e, eR3] at hp; cases hp
    refine for_it (walk_list (K := K) (a := p) (xs := ts.map V.str)) (fun i σ H' => ∃ (c : Addr) (es : List (Row × Addr)) (nx : Int) (us : List Addr) (ss : List Nat) (o5 : Option V), σ = [some (.ref a), some (.int (n : Nat)), some (.int (mm : Nat)), some (.ref c), some (.ref R), o5] ∧ Dr a H H' ∧ ChAt C H' c es nx ∧ RowsAre ts ss i es ∧ H' R = some (.lst (us.map V.ref)) ∧ us.length = i ∧ ss.length = i ∧
        (∀ (j : Nat) (u : Addr), us[j]? = some u → ∃ t m, ts[j]? = some t ∧ ss[j]? = some m ∧ H' u = some (.tup [.str t, .int ((m : Nat) : Int)])) ∧ (∀ m ∈ ss, 2 ≤ m ∧ m ≤ mm) ∧ H' p = some (.lst (ts.map V.str)))
      ⟨x, [], 0, [], [], none, rfl, d3.trans d4, ch3.dr d3.fd d4, ⟨rfl, fun j e h => by simp at h⟩, d4.sm _ _ Ra eR3, rfl, rfl, fun j u h => by simp at h, fun m h => (nomatch h), ep⟩
      (fun i σ H' _ h => by
        obtain ⟨c, es, nx, us, ss, o5, _, _, _, _, _, _, _, _, _, e⟩ := h
        exact SqL.of e) ?_ ?_
    · rintro i v σ H5 H5' hi ⟨c, es, nx, us, ss, o5, rfl, d5, ch5, rw5, eR, lu, ls, au, bs, ep5⟩ ⟨rfl, hv⟩
      rw [List.length_map] at hi
      replace hv : (ts.map V.str)[i]? = some v := hv
      rw [List.getElem?_map] at hv
      obtain ⟨t, ht, rfl⟩ := Option.map_eq_some_iff.mp hv
      have mt := List.mem_of_getElem? ht
      have nk := okT_iff (gd.2 t mt)
      have le := rw5.1
      have noZ : hasB gone es = false := by
        cases z : hasB gone es with
        | false => rfl
        | true =>
          obtain ⟨e, me, ee⟩ := hasB_some z
          obtain ⟨j, hj⟩ := List.mem_iff_getElem?.mp me
          have := (rw5.2 j e hj).1
          exact absurd ee (okT_iff (gd.2 _ (List.mem_of_getElem? this))).ng
      have noT : hasB t es = false := by
        cases z : hasB t es with
        | false => rfl
        | true =>
          obtain ⟨e, me, ee⟩ := hasB_some z
          obtain ⟨j, hj⟩ := List.mem_iff_getElem?.mp me
          have := (rw5.2 j e hj).1
          rw [ee, ← ht] at this
          have lj : j < es.length := (List.getElem?_eq_some_iff.mp hj).1
          have := (List.getElem?_inj (by omega) gd.1).mp this
          omega
      have z1 : gone.length ≤ 1000 := by decide +kernel
      refine ⟨fun σ' H' => ∃ (c : Addr) (nx : Int), σ' = [some (.ref a), some (.int (n : Nat)), some (.int (mm : Nat)), some (.ref c), some (.ref R), some (.str t)] ∧ Dr a H5' H' ∧ ChAt C H' c es nx, ?_, ?_⟩
      · refine ⟨_, rfl, a, 4, rfl, d5.fd, by decide, by decide, fun r H6 r0 r1 d6 => ?_⟩
        have ch6 := ch5.dr d5.fd d6
        refine ⟨rfl, _, rfl, ?_⟩
        by_cases z : r = 0
        · refine ifT (by rw [z]; rfl) ?_
          obtain ⟨dc, tnc, tdc, hcc, cp⟩ := id ch6
          refine ⟨_, rfl, c, dc, _, rfl, hcc, rfl, c, gone, 2, nx, es, rfl, ch6, z1, by omega, fun q => ?_, fun _ q => ?_, fun _ _ c' p' H7 s7 hc' ch7 => ?_⟩
          · rw [gone_ch] at q; cases q
          · rw [noZ] at q; cases q
          obtain ⟨dc', tnc', tdc', hcc', cp'⟩ := id ch7
          refine ⟨c', dc', _, rfl, hcc', rfl, c', gone, nx + 1, _, rfl, ch7, fun q => ?_, fun _ c2 H8 s8 hc2 ch8 => ?_⟩
          · have : hasB gone (es ++ [((gone, 2, nx), p')]) = true := List.any_eq_true.mpr ⟨_, List.mem_append_right _ List.mem_cons_self, decide_eq_true rfl⟩
            rw [this] at q
            cases q
          · rw [dropE_snoc noZ] at ch8
            exact ⟨c2, _, rfl, dr_same (dr_same d6 s7) s8, ch8⟩
        · refine ifF (decide_eq_false fun e => z (by injection e)) ?_
          exact ⟨c, nx, rfl, d6, ch6⟩
      rintro σ' H6 ⟨c, nx, rfl, d6, ch6⟩
      have d56 := d5.trans d6
      have eR6 := d6.sm _ _ Ra eR
      have ep6 := d6.sm _ _ pa ep5
      refine ⟨_, rfl, .inl ⟨rfl, _, SqL.of eR6⟩, _, rfl, _, rfl, _, rfl, _, _, rfl, rfl, a, ((mm : Nat) : Int) - 1, rfl, d6.fd, by omega, (by show (((mm : Nat) : Int) - 1).natAbs < 2 ^ 200; omega), fun r H7 r0 r1 d7 => ⟨_, _, rfl, rfl, (show 2 ≤ sizeLine by decide), fun u hu => ?_⟩⟩
      obtain ⟨q, rfl⟩ : ∃ q : Nat, r = ((q : Nat) : Int) := ⟨r.toNat, by omega⟩
      have ua : u ≠ a := feed_ne d7.fd hu
      have eR7 := d7.sm _ _ Ra eR6
      have uR : u ≠ R := fun e => by rw [e, eR7] at hu; cases hu
      have e2q : (2 : Int) + ((q : Nat) : Int) = ((2 + q : Nat) : Int) := by omega
      have su := same_new (o := HO.tup [V.str t, V.int (2 + ((q : Nat) : Int))]) hu
      have eu : upd H7 u (.tup [V.str t, V.int (2 + ((q : Nat) : Int))]) u = some (.tup [V.str t, V.int ((2 + q : Nat) : Int)]) := by rw [upd_same, e2q]
      have d8 := dr_same (d56.trans d7) su
      have ch8 := (ch6.dr d6.fd d7).same su
      have eR8 := su _ _ eR7
      have ep8 := su _ _ (d7.sm _ _ pa ep6)
      have au8 : ∀ (j : Nat) (u' : Addr), us[j]? = some u' → ∃ t' m', ts[j]? = some t' ∧ ss[j]? = some m' ∧ u' ≠ R ∧ upd H7 u (.tup [V.str t, V.int (2 + ((q : Nat) : Int))]) u' = some (.tup [.str t', .int ((m' : Nat) : Int)]) := fun j u' hj => by
        obtain ⟨t', m', e1, e2, e3⟩ := au j u' hj
        have na : u' ≠ a := fun z => feed_tup d5.fd _ (by rw [← z]; exact e3)
        exact ⟨t', m', e1, e2, fun z => (by rw [z, eR] at e3; cases e3), su _ _ (d7.sm _ _ na (d6.sm _ _ na e3))⟩
      show tNil _ (upd H7 u (.tup [V.str t, V.int (2 + ((q : Nat) : Int))])) _
      generalize upd H7 u (.tup [V.str t, V.int (2 + ((q : Nat) : Int))]) = H8 at eu d8 ch8 eR8 ep8 au8 ⊢
      refine ⟨R, us.map V.ref, _, rfl, rfl, eR8, by rw [List.length_map, lu]; have := sizeLine_eq; omega, ?_⟩
      have pR' : p ≠ R := pR
      have kR : ∀ b o, b ≠ R → H8 b = some o → upd H8 R (.lst (us.map V.ref ++ [V.ref u])) b = some o := fun b o nb e => by rw [upd_ne nb]; exact e
      have eR9 : upd H8 R (.lst (us.map V.ref ++ [V.ref u])) R = some (.lst ((us ++ [u]).map V.ref)) := by rw [upd_same, List.map_append]; rfl
      have d9 : Dr a H (upd H8 R (.lst (us.map V.ref ++ [V.ref u]))) := by
        refine ⟨?_, fun b o nb e => kR _ _ (fun z => ?_) (d8.sm _ _ nb e)⟩
        · obtain ⟨u', v', h1, h2⟩ := d8.fd
          exact ⟨u', v', kR _ _ (Ne.symm Ra) h1, h2⟩
        · subst z
          rw [s2 _ _ e] at hR
          cases hR
      have ch9 := ch8.off eR8 kR
      have ep9 := kR _ _ pR' ep8
      have eu9 := kR _ _ uR eu
      have au9 : ∀ (j : Nat) (u' : Addr), us[j]? = some u' → ∃ t m, ts[j]? = some t ∧ ss[j]? = some m ∧ upd H8 R (.lst (us.map V.ref ++ [V.ref u])) u' = some (.tup [.str t, .int ((m : Nat) : Int)]) := fun j u' hj => by
        obtain ⟨t', m', e1, e2, n3, e3⟩ := au8 j u' hj
        exact ⟨t', m', e1, e2, kR _ _ n3 e3⟩
      generalize upd H8 R (.lst (us.map V.ref ++ [V.ref u])) = H9 at eR9 d9 ch9 ep9 eu9 au9 ⊢
      obtain ⟨dc, tnc, tdc, hcc, cp⟩ := id ch9
      have last : atI ((us ++ [u]).map V.ref) (-1) = some (.ref u) := by
        rw [List.map_append]
        exact atI_lastR _ _
      refine ⟨_, rfl, c, dc, _, rfl, hcc, rfl, _, rfl, _, rfl, _, rfl, R, _, _, _, rfl, rfl, SqL.of eR9, last, u, _, _, _, rfl, rfl, SqT.of eu9, rfl, c, t, _, nx, es, rfl, ch9, by have := nk.len; omega, by omega, fun q => ?_, fun _ q => ?_, fun _ _ c' p' H10 s10 hc' ch10 => ?_⟩
      · rw [nk.ch] at q; cases q
      · rw [noT] at q; cases q
      refine ⟨c', _, _, us ++ [u], ss ++ [2 + q], _, rfl, dr_same d9 s10, ch10, ⟨by rw [List.length_append, le]; rfl, fun j e hj => ?_⟩, s10 _ _ eR9, by rw [List.length_append, lu]; rfl, by rw [List.length_append, ls]; rfl, fun j u' hj => ?_, fun m hm => ?_, s10 _ _ ep9⟩
      · rcases Nat.lt_or_ge j es.length with g | g
        · rw [List.getElem?_append_left g] at hj
          obtain ⟨e1, m, e2, e3⟩ := rw5.2 j e hj
          exact ⟨e1, m, by rw [List.getElem?_append_left (by omega)]; exact e2, e3⟩
        · rw [List.getElem?_append_right g] at hj
          have ej : j - es.length = 0 := by
            rcases Nat.eq_zero_or_pos (j - es.length) with w | w
            · exact w
            · rw [List.getElem?_eq_none (by rw [List.length_singleton]; exact w)] at hj; cases hj
          rw [ej] at hj
          cases hj
          have : j = i := by omega
          subst this
          exact ⟨ht, 2 + q, by rw [List.getElem?_append_right (by omega), ls, Nat.sub_self]; rfl, rfl⟩
      · rcases Nat.lt_or_ge j us.length with g | g
        · rw [List.getElem?_append_left g] at hj
          obtain ⟨t', m', e1, e2, e3⟩ := au9 j u' hj
          exact ⟨t', m', e1, by rw [List.getElem?_append_left (by omega)]; exact e2, s10 _ _ e3⟩
        · rw [List.getElem?_append_right g] at hj
          have ej : j - us.length = 0 := by
            rcases Nat.eq_zero_or_pos (j - us.length) with w | w
            · exact w
            · rw [List.getElem?_eq_none (by rw [List.length_singleton]; exact w)] at hj; cases hj
          rw [ej] at hj
          cases hj
          have : j = i := by omega
          subst this
          exact ⟨t, 2 + q, ht, by rw [List.getElem?_append_right (by omega), ls, Nat.sub_self]; rfl, s10 _ _ eu9⟩
      · rcases List.mem_append.mp hm with h | h
        · exact bs m h
        · rw [List.mem_singleton.mp h]
          omega
    rintro σ H5 ⟨c, es, nx, us, ss, o5, rfl, d5, ch5, rw5, eR, lu, ls, au, bs, ep5⟩
    rw [List.length_map] at rw5 lu ls
    refine ⟨_, rfl, _, rfl, (show 2 ≤ sizeLine by decide), fun q hq => ?_⟩
    have sq := same_new (o := HO.tup [V.ref c, V.ref R]) hq
    exact k q c R ts ss es nx _ (dr_same d5 sq) upd_same (ch5.same sq) rw5 (RowsL.same sq ⟨us, eR, by omega, au⟩) ln (by omega) gd bs
end
end R52
namespace R52
open PySem L2 L3 FT ND
open C8 (pss_cut tCut pe_gc)
abbrev sValueF : Stmt := top 52
def fTruth : Str := "truth"
def fNumber : Str := "number"
def FormOk (g : Str) (x : V) : Prop := Vl x ∧ (g = fTruth → ∃ b, x = .bl b) ∧ (g = fNumber → ∃ i : Int, x = .int i ∧ -(2 ^ 50) ≤ i ∧ i ≤ 2 ^ 50)
def spValueF : Sp := fun vs H Q _ => ∃ (a : Addr) (g : Str), vs = [.ref a, .str g] ∧ FeedAt H a ∧ ∀ (x : V) (H' : Hp), Dr a H H' → FormOk g x → Q x H'
theorem at_mem {α : Type} {xs : List α} {z : Int} (h0 : 0 ≤ z) (h1 : z < (xs.length : Nat)) : ∃ v, atI xs z = some v ∧ v ∈ xs := by
  obtain ⟨j, rfl⟩ : ∃ j : Nat, z = ((j : Nat) : Int) := ⟨z.toNat, by omega⟩
  have hj : j < xs.length := by omega
  exact ⟨xs[j], atI_nat (List.getElem?_eq_getElem hj), List.getElem_mem hj⟩
section
variable {P : Program} {w : World} {K : PySem.W.Frag} {mg : Str → Option Value} {base : Heap}
theorem scVaF : FnScope ["_law_feed_here", "_law_form"] ["_law_feed_here", "_law_form"] (defScope sValueF) := ⟨rfl, rfl, rfl, by decide +kernel, rfl, by decide +kernel, by decide +kernel⟩
theorem ok_valueF {f fT : Addr} {fd fdT : FuncData} (F : Fun K "_law_value" "_law_value" sValueF f fd) (UT : Use P w K mg base "_law_take" 1 fT fdT ["_law_feed_here", "_law_many"] spTake) (zMax : mg "max" = none) :
    FnOk P w K mg base CX0 2 f fd ["_law_feed_here", "_law_form"] spValueF := by
  refine F.ok scVaF (fun vs H Q E h => ?_) (fun cdv A outer s H vs Q E hr h => ?_)
  · obtain ⟨a, g, rfl, _⟩ := h
    rfl
  · obtain ⟨a, g, rfl, hf, k⟩ := h
    have nd := scVaF.nd
    refine ⟨_, pss_cons (ps_if (pt_cmpR op_eq (pv 1) pe_str (nomark _)) (pss_one (ps_ret (pe_cmpR op_eq (pe_call UT.G (hr.mono (by omega)) (by rfl) UT.g UT.kp UT.b .nil pass0 (pa_cons (pv 0) (pa_cons pe_int pa_nil))) pe_int (nomark _)))) pss_nil)
      (pss_cons (ps_if (pt_cmpR op_eq (pv 1) pe_str (nomark _)) (pss_one (ps_ret (pe_ix (r := rIxL K) (by exact ix_list) (pe_lst (pa_cons (pe_op op_sub (pe_call UT.G (hr.mono (by omega)) (by rfl) UT.g UT.kp UT.b .nil pass0 (pa_cons (pv 0) (pa_cons pe_int pa_nil))) pe_int) (pa_cons (pe_op op_pow pe_int pe_int) (pa_cons (pe_op op_sub pe_int pe_int) pa_nil)))) (pe_callB (call_max2 rfl) (by rfl) zMax PyProof.Rows.boot_max (pa_cons pe_int (pa_cons (pe_op op_sub (pe_call UT.G (hr.mono (by omega)) (by rfl) UT.g UT.kp UT.b .nil pass0 (pa_cons (pv 0) (pa_cons pe_int pa_nil))) pe_int) pa_nil))) (fun _ _ => rfl)))) pss_nil)
      (pss_one (ps_ret (pe_ix (r := rIxL K) (by exact ix_list) (pe_lst (pa_cons pe_non (pa_cons pe_int (pa_cons pe_int (pa_cons pe_bl (pa_cons pe_bl (pa_cons pe_str (pa_cons pe_str (pa_cons pe_int pa_nil))))))))) (pe_call UT.G (hr.mono (by omega)) (by rfl) UT.g UT.kp UT.b .nil pass0 (pa_cons (pv 0) (pa_cons pe_int pa_nil))) (fun _ _ => rfl))))), ?_⟩
    refine ⟨_, rfl, rfl, _, rfl, ?_⟩
    by_cases h1 : g = fTruth
    · refine ifT (decide_eq_true (by rw [h1]; rfl)) ⟨_, rfl, a, 2, rfl, hf, by decide, by decide, fun r H1 r0 r1 d1 => ⟨rfl, k _ _ d1 ⟨trivial, fun _ => ⟨_, rfl⟩, fun e => ?_⟩⟩⟩
      rw [h1] at e
      exact absurd e (by decide +kernel)
    refine ifF (decide_eq_false fun e => h1 (V.str.inj e)) ⟨_, rfl, rfl, _, rfl, ?_⟩
    by_cases h2 : g = fNumber
    · refine ifT (decide_eq_true (by rw [h2]; rfl)) ⟨_, rfl, a, 5, rfl, hf, by decide, by decide, fun r H1 r0 r1 d1 => ⟨_, _, rfl, rfl, _, _, rfl, rfl, ⟨by decide, by decide, by decide⟩, _, _, rfl, rfl, (show 3 ≤ sizeLine by decide), fun Z hZ => ?_⟩⟩
      have Za : Z ≠ a := feed_ne d1.fd hZ
      have d2 := dr_same d1 (same_new (o := HO.lst [V.int (r - 2), V.int 1000000000000, V.int (-7)]) hZ)
      have eZ : upd H1 Z (.lst [V.int (r - 2), V.int 1000000000000, V.int (-7)]) Z = some (.lst [V.int (r - 2), V.int 1000000000000, V.int (-7)]) := upd_same
      refine ⟨_, rfl, a, 9, rfl, d2.fd, by decide, by decide, fun q H3 q0 q1 d3 => ⟨_, _, rfl, rfl, _, _, rfl, ?_⟩⟩
      have z0 : 0 ≤ (if q - 6 > 0 then q - 6 else 0) := by split <;> omega
      have z1 : (if q - 6 > 0 then q - 6 else 0) < 3 := by split <;> omega
      generalize (if q - 6 > 0 then q - 6 else 0) = z at z0 z1 ⊢
      obtain ⟨v, e, mv⟩ := at_mem (xs := [V.int (r - 2), V.int 1000000000000, V.int (-7)]) z0 z1
      refine ⟨Z, _, _, v, rfl, rfl, SqL.of (d3.sm _ _ Za eZ), e, k _ _ (d2.trans d3) ?_⟩
      simp only [List.mem_cons, List.not_mem_nil, or_false] at mv
      rcases mv with rfl | rfl | rfl
      · exact ⟨trivial, fun e => absurd e h1, fun _ => ⟨_, rfl, by omega, by omega⟩⟩
      · exact ⟨trivial, fun e => absurd e h1, fun _ => ⟨_, rfl, by decide, by decide⟩⟩
      · exact ⟨trivial, fun e => absurd e h1, fun _ => ⟨_, rfl, by decide, by decide⟩⟩
    refine ifF (decide_eq_false fun e => h2 (V.str.inj e)) ⟨(show 8 ≤ sizeLine by decide), fun Z hZ => ?_⟩
    have Za : Z ≠ a := feed_ne hf hZ
    have d2 := dr_same (dr_refl hf) (same_new (o := HO.lst [V.non, V.int 0, V.int 1, V.bl true, V.bl false, V.str "a", V.str "b1", V.int 2]) hZ)
    have eZ : upd H Z (.lst [V.non, V.int 0, V.int 1, V.bl true, V.bl false, V.str "a", V.str "b1", V.int 2]) Z = some (.lst [V.non, V.int 0, V.int 1, V.bl true, V.bl false, V.str "a", V.str "b1", V.int 2]) := upd_same
    refine ⟨_, rfl, a, 8, rfl, d2.fd, by decide, by decide, fun q H3 q0 q1 d3 => ?_⟩
    obtain ⟨v, e, mv⟩ := at_mem (xs := [V.non, V.int 0, V.int 1, V.bl true, V.bl false, V.str "a", V.str "b1", V.int 2]) q0 q1
    refine ⟨Z, _, _, v, rfl, rfl, SqL.of (d3.sm _ _ Za eZ), e, k _ _ (d2.trans d3) ⟨?_, fun e => absurd e h1, fun e => absurd e h2⟩⟩
    simp only [List.mem_cons, List.not_mem_nil, or_false] at mv
    rcases mv with rfl | rfl | rfl | rfl | rfl | rfl | rfl | rfl <;> first | trivial | (show PyData.strOk _ = true; decide +kernel)
end
end R52
namespace FT
open PySem PySem.Spec PyProof.Rows L2 ND
open Classical
theorem snoc_ind {α : Type} {P : List α → Prop} (h0 : P []) (h1 : ∀ l a, P l → P (l ++ [a])) (l : List α) : P l := by
  have key : ∀ m : List α, P m.reverse := fun m => by
    induction m with
    | nil => exact h0
    | cons a m ih => rw [List.reverse_cons]; exact h1 _ a ih
  have := key l.reverse
  rwa [List.reverse_reverse] at this
section
variable {α : Type}
/-- each node stands behind all that is below it -/
def PC (ns : List (Tr α)) : Prop := ∀ i, Closed (ns.take i)
theorem pc_nil : PC ([] : List (Tr α)) := fun i l ts h => by simp at h
theorem pc_fin {t : Tr α} {ns : List (Tr α)} (c : PC ns) (h : ∀ l ts, t = .node l ts → ∀ u ∈ ts, u ∈ ns) : PC (fin t ns) := by
  by_cases q : t ∈ ns
  · rw [fin_of q]; exact c
  · rw [fin_new q]
    intro i
    rcases Nat.lt_or_ge ns.length i with g | g
    · rw [List.take_of_length_le (by rw [List.length_append, List.length_singleton]; omega)]
      have c2 := c ns.length
      rw [List.take_length] at c2
      have := fin_closed (t := t) c2 h
      rwa [fin_new q] at this
    · rw [List.take_append_of_le_length g]
      exact c i
theorem PC.cl {ns : List (Tr α)} (c : PC ns) : Closed ns := by
  have := c ns.length
  rwa [List.take_length] at this
mutual
theorem pc_enum : ∀ (t : Tr α) (ns : List (Tr α)), PC ns → PC (enum t ns)
  | .leaf v, ns, c => by rw [enum]; exact pc_fin c fun _ _ e => nomatch e
  | .node l ts, ns, c => by
    rw [enum]
    split
    · exact c
    · exact pc_fin (pc_enums ts ns c) fun l' ts' e => by
        cases e
        exact enums_mem ts ns
theorem pc_enums : ∀ (ts : List (Tr α)) (ns : List (Tr α)), PC ns → PC (enums ts ns)
  | [], ns, c => by rw [enums]; exact c
  | t :: ts, ns, c => by rw [enums]; exact pc_enums ts _ (pc_enum t ns c)
end
theorem kid_ne {t u : Tr V} (h : u ∈ kids t) : u ≠ t := fun e => by
  have := kids_sz h
  rw [e] at this
  exact Nat.lt_irrefl _ this
/-- what is below a node stands ahead of it -/
theorem kid_before {ns : List (Tr V)} (c : PC ns) {i : Nat} {t : Tr V} (h : ns[i]? = some t) : ∀ u ∈ kids t, u ∈ ns.take i := by
  intro u hu
  have e : ns.take (i + 1) = ns.take i ++ [t] := by rw [List.take_add_one, h]; rfl
  have m : u ∈ ns.take (i + 1) := kids_in (c (i + 1)) (by rw [e]; exact List.mem_append_right _ (List.mem_singleton.mpr rfl)) hu
  rw [e] at m
  rcases List.mem_append.mp m with m | m
  · exact m
  · exact absurd (List.mem_singleton.mp m) (kid_ne hu)
end
end FT
namespace FT
open PySem PySem.Spec PyProof.Rows L2 ND
open Classical
/-- as many options as these numbers say -/
def ksOf (ss : List Nat) (l : Nat) : Nat := ss.getD l 0
end FT
namespace R52
open PySem L2 L3 FT ND
open C8 (pss_cut tCut pe_gc)
abbrev sTreeF : Stmt := top 53
inductive LT : Type
  | val (x : V) : LT
  | cas (l : Nat) (ts : List LT) : LT
def sEqS : Str := "="
/-- a tree as it lies: its lists lie at places that B holds of -/
inductive TAt (nm : Nat → Str) (B : Addr → Prop) (H : Hp) : LT → Addr → Prop
  | val {a : Addr} {x : V} : H a = some (.tup [.str sEqS, x]) → TAt nm B H (.val x) a
  | cas {a b : Addr} {l : Nat} {ts : List LT} {us : List Addr} : H a = some (.tup [.str (nm l), .ref b]) → H b = some (.lst (us.map V.ref)) → B b → us.length = ts.length → (∀ (j : Nat) (t : LT) (u : Addr), ts[j]? = some t → us[j]? = some u → TAt nm B H t u) → TAt nm B H (.cas l ts) a
inductive TOk (n : Nat) (ks : Nat → Nat) (g : Str) : Nat → LT → Prop
  | val {d : Nat} {x : V} : FormOk g x → TOk n ks g d (.val x)
  | cas {d l : Nat} {ts : List LT} : l < n → ts.length = ks l → (∀ t ∈ ts, TOk n ks g d t) → TOk n ks g (d + 1) (.cas l ts)
theorem TAt.keep {nm : Nat → Str} {B B' X : Addr → Prop} {H H' : Hp} {t : LT} {a : Addr} (s : ∀ b o, ¬ X b → H b = some o → H' b = some o) (nb : ∀ b, B b → ¬ X b) (nt : ∀ b vs, H b = some (.tup vs) → ¬ X b) (w : ∀ b, B b → B' b) (h : TAt nm B H t a) : TAt nm B' H' t a := by
  induction h with
  | val e => exact .val (s _ _ (nt _ _ e) e)
  | cas e1 e2 hb l k ih => exact .cas (s _ _ (nt _ _ e1) e1) (s _ _ (nb _ hb) e2) (w _ hb) l ih
theorem TAt.same {nm : Nat → Str} {B : Addr → Prop} {H H' : Hp} {t : LT} {a : Addr} (s : Same H H') (h : TAt nm B H t a) : TAt nm B H' t a :=
  h.keep (X := fun _ => False) (fun b o _ e => s b o e) (fun _ _ z => z) (fun _ _ _ z => z) (fun _ h => h)
theorem TAt.dr {nm : Nat → Str} {B : Addr → Prop} {H H' : Hp} {t : LT} {a f : Addr} (nf : ∀ b, B b → b ≠ f) (hf : FeedAt H f) (d : Dr f H H') (h : TAt nm B H t a) : TAt nm B H' t a :=
  h.keep (X := fun b => b = f) (fun b o n e => d.sm b o n e) (fun b hb z => nf b hb z) (fun b vs e z => feed_tup hf vs (by rw [← z]; exact e)) (fun _ h => h)
theorem TAt.weak {nm : Nat → Str} {B B' : Addr → Prop} {H : Hp} {t : LT} {a : Addr} (w : ∀ b, B b → B' b) (h : TAt nm B H t a) : TAt nm B' H t a :=
  h.keep (X := fun _ => False) (fun b o _ e => e) (fun _ _ z => z) (fun _ _ _ z => z) w
mutual
def tev (w : Nat → Nat) : LT → V
  | .val x => x
  | .cas l ts => tevs w ts (w l)
def tevs (w : Nat → Nat) : List LT → Nat → V
  | [], _ => .non
  | t :: _, 0 => tev w t
  | _ :: r, n + 1 => tevs w r n
end
theorem tevs_get (w : Nat → Nat) : ∀ (ts : List LT) (n : Nat) (t : LT), ts[n]? = some t → tevs w ts n = tev w t
  | t :: _, 0, _, rfl => by rw [tevs]
  | _ :: r, n + 1, u, h => by rw [tevs]; exact tevs_get w r n u h
def spTreeF (d : Nat) : Sp := fun vs H Q _ => ∃ (a R : Addr) (g : Str) (ts : List Str) (ss : List Nat), vs = [.ref a, .ref R, .int (d : Nat), .str g] ∧ FeedAt H a ∧ RowsL H R ts ss ∧ ts.length = ss.length ∧ 1 ≤ ss.length ∧ ss.length ≤ 40 ∧ GoodN ts ∧ (∀ m ∈ ss, 2 ≤ m ∧ m ≤ 9) ∧
  ∀ (v : Addr) (t : LT) (H' : Hp), Dr a H H' → TAt (nmOf ts) (fun b => H b = none) H' t v → TOk ss.length (ksOf ss) g d t → Q (.ref v) H'
abbrev NTr : List Str := ["_law_feed_here", "_law_rows", "_law_deep", "_law_form", "_law_name", "_law_many", "_law_option"]
theorem dats0 {K : PySem.W.Frag} {H : Hp} : ∀ {xs : List V}, (∀ x ∈ xs, ∃ d : PyData, d.canLay0 = true ∧ d.depth ≤ 8 ∧ Dp K H x d) → ∃ ds : List PyData, DpAll K H xs ds ∧ PyData.canLayAll0 ds = true ∧ PyData.depthAll ds ≤ 8 ∧ (xs = [] ↔ ds = [])
  | [], _ => ⟨[], .nil, rfl, Nat.zero_le _, ⟨fun _ => rfl, fun _ => rfl⟩⟩
  | x :: xs, h => by
    obtain ⟨d, h1, h2, h3⟩ := h x List.mem_cons_self
    obtain ⟨ds, k1, k2, k3, _⟩ := dats0 (xs := xs) fun y hy => h y (List.mem_cons_of_mem _ hy)
    refine ⟨d :: ds, .cons h3 k1, ?_, ?_, ⟨fun e => (nomatch e), fun e => (nomatch e)⟩⟩
    · show (d.canLay0 && PyData.canLayAll0 ds) = true
      rw [h1, k2]
      rfl
    · show max d.depth (PyData.depthAll ds) ≤ 8
      omega
theorem rows_dp {K : PySem.W.Frag} {H : Hp} {R : Addr} {ts : List Str} {ss : List Nat} (g : GoodN ts) (h : RowsL H R ts ss) : ∃ us ds, H R = some (.lst us) ∧ us.length = ss.length ∧ DpAll K H us ds ∧ PyData.canLayAll0 ds = true ∧ PyData.depthAll ds ≤ 8 ∧ (us = [] ↔ ds = []) := by
  obtain ⟨us, e, l, k⟩ := h
  obtain ⟨ds, h1, h2, h3, h4⟩ := dats0 (K := K) (H := H) (xs := us.map V.ref) fun x hx => by
    obtain ⟨u, hu, rfl⟩ := List.mem_map.mp hx
    obtain ⟨j, hj⟩ := List.mem_iff_getElem?.mp hu
    obtain ⟨t, m, e1, e2, e3⟩ := k j u hj
    have nk := okT_iff (g.2 t (List.mem_of_getElem? e1))
    refine ⟨.tuple [.str t, .int m], ?_, (show (1 : Nat) ≤ 8 by decide), .tup (SqT.of e3) (.cons (.str t) (.cons (.int _) .nil))⟩
    show (PyData.strOk t && (true && true)) = true
    rw [nk.str]
    rfl
  exact ⟨us.map V.ref, ds, e, by rw [List.length_map]; exact l, h1, h2, h3, h4⟩
theorem pt_dead {X : Cx} {e : Expr} : PT X e (fun _ _ _ => False) := ⟨fun _ _ _ _ _ _ h => h.elim⟩
section
variable {P : Program} {w : World} {K : PySem.W.Frag} {mg : Str → Option Value} {base : Heap}
theorem scTrF : FnScope NTr ["_law_feed_here", "_law_rows", "_law_deep", "_law_form"] (defScope sTreeF) := ⟨rfl, rfl, rfl, by decide +kernel, rfl, by decide +kernel, by decide +kernel⟩
theorem ok_treeF {f fT fV : Addr} {fd fdT fdV : FuncData} (F : Fun K "_law_tree" "_law_tree" sTreeF f fd) (bF : Binds K fd ["_law_feed_here", "_law_rows", "_law_deep", "_law_form"] []) (gF : mg "_law_tree" = some (.ref f)) (UT : Use P w K mg base "_law_take" 1 fT fdT ["_law_feed_here", "_law_many"] spTake) (UV : Use P w K mg base "_law_value" 2 fV fdV ["_law_feed_here", "_law_form"] spValueF) (zLen : mg "len" = none) (zRng : mg "range" = none) :
    ∀ d, d ≤ 20 → FnOk P w K mg base CX0 (3 + d) f fd ["_law_feed_here", "_law_rows", "_law_deep", "_law_form"] (spTreeF d)
  | 0, _ => by
    refine F.ok scTrF (fun vs H Q E h => ?_) (fun cdv A outer s H vs Q E hr h => ?_)
    · obtain ⟨a, R, g, ts, ss, rfl, _⟩ := h
      rfl
    · obtain ⟨a, R, g, ts, ss, rfl, hf, hR, len, n1, n40, gd, sz, k⟩ := h
      have nd := scTrF.nd
      refine ⟨_, pss_cons (ps_if (PW.pt (pw_or (pt_cmpR (op_eqD hr.units) (pv 1) (pe_lst pa_nil) (nomark _)) (pw_or (pt_cmpR op_eq (pv 2) pe_int (nomark _)) (pw_or1 pt_dead)))) (pss_one (ps_ret (pe_tup (pa_cons pe_str (pa_cons (pe_call UV.G (hr.mono (by omega)) (by rfl) UV.g UV.kp UV.b .nil pass0 (pa_cons (pv 0) (pa_cons (pv 3) pa_nil))) pa_nil))))) pss_nil) pss_dead, ?_⟩
      have R0 : ∀ z, H z = none → True := fun _ _ => trivial
      refine ⟨_, rfl, (show 0 ≤ sizeLine by decide), fun z hz => ?_⟩
      have s1 := same_new (o := HO.lst []) hz
      have ez : upd H z (.lst []) z = some (.lst []) := upd_same
      have d1 := dr_same (dr_refl hf) s1
      have hR1 := hR.same s1
      show (rEqD K _ _ (upd H z (.lst [])) _)
      generalize upd H z (.lst []) = H1 at s1 ez d1 hR1 ⊢
      obtain ⟨us, ds, eR, lu, k1, k2, k3, k4⟩ := rows_dp (K := K) gd hR1
      have nds : ds ≠ [] := fun e => by
        rw [k4.mpr e] at lu
        rw [← lu] at n1
        exact absurd n1 (Nat.not_succ_le_zero 0)
      refine ⟨.list ds, .list [], .lst (SqL.of eR) k1, .lst (SqL.of ez) .nil, list_shaped k2 k3, by decide +kernel, _, rfl, ?_⟩
      rw [eqv_nil, decide_eq_false nds]
      refine ifF rfl ⟨_, rfl, rfl, _, rfl, ifT (decide_eq_true rfl) (ifT rfl ?_)⟩
      refine ⟨_, rfl, _, rfl, a, g, rfl, d1.fd, fun x H2 d2 fx => ⟨(show 2 ≤ sizeLine by decide), fun v hv => ?_⟩⟩
      have s3 := same_new (o := HO.tup [V.str sEqS, x]) hv
      exact k v (.val x) _ (dr_same (d1.trans d2) s3) (.val upd_same) (.val fx)
  | d + 1, hd => by
    have G0 := ok_treeF F bF gF UT UV zLen zRng d (by omega)
    refine F.ok scTrF (fun vs H Q E h => ?_) (fun cdv A outer s H vs Q E hr h => ?_)
    · obtain ⟨a, R, g, ts, ss, rfl, _⟩ := h
      rfl
    · obtain ⟨a, R, g, ts, ss, rfl, hf, hR, len, n1, n40, gd, sz, k⟩ := h
      have nd := scTrF.nd
      have hr' : Room (3 + d) _ := hr
      refine ⟨_, pss_cons (ps_if (PW.pt (pw_or (pt_cmpR (op_eqD hr.units) (pv 1) (pe_lst pa_nil) (nomark _)) (pw_or (pt_cmpR op_eq (pv 2) pe_int (nomark _)) (pw_or1 (pt_cmpR op_eq (pe_call UT.G (hr'.mono (by omega)) (by rfl) UT.g UT.kp UT.b .nil pass0 (pa_cons (pv 0) (pa_cons pe_int pa_nil))) pe_int (nomark _)))))) (pss_one (ps_ret (pe_tup (pa_cons pe_str (pa_cons (pe_call UV.G (hr'.mono (by omega)) (by rfl) UV.g UV.kp UV.b .nil pass0 (pa_cons (pv 0) (pa_cons (pv 3) pa_nil))) pa_nil))))) pss_nil)
        (pss_cons (ps_asg (pe_ix (r := rIxL K) (by exact ix_list) (pv 1) (pe_call UT.G (hr'.mono (by omega)) (by rfl) UT.g UT.kp UT.b .nil pass0 (pa_cons (pv 0) (pa_cons (pe_callB call_len_seq (by rfl) zLen PySem.boot_len (pa_cons (pv 1) pa_nil)) pa_nil))) (fun _ _ => rfl)) (pg_tup (by rfl) (pgs_cons (pg_name (i := 4) nd rfl (.inl rfl)) (pgs_cons (pg_name (i := 5) nd rfl (.inl rfl)) pgs_nil))))
        (pss_one (ps_ret (pe_tup (pa_cons (pv 4) (pa_cons (pe_lc (own := [("_law_option", 6)]) (g := gName 6) (tt := tYes) rfl nd (pi_range1 (by rfl) zRng (pa_cons (pv 5) pa_nil)) (blkOk_by (N := NTr) (sc := defScope sTreeF) (by decide +kernel)) (fun _ _ _ _ _ => pg_name (i := 6) nd rfl (.inl rfl)) (fun _ _ _ _ _ => pts_nil)
          (fun _ _ _ _ _ => pe_call G0 (hr'.mono (by omega)) (by rfl) gF F.kp bF .nil pass0 (pa_cons (pv 0) (pa_cons (pv 1) (pa_cons (pe_op op_sub (pv 2) pe_int) (pa_cons (pv 3) pa_nil)))))) pa_nil)))))), ?_⟩
      have R0 : ∀ z, H z = none → True := fun _ _ => trivial
      refine ⟨_, rfl, (show 0 ≤ sizeLine by decide), fun z hz => ?_⟩
      have s1 := same_new (o := HO.lst []) hz
      have ez : upd H z (.lst []) z = some (.lst []) := upd_same
      have d1 := dr_same (dr_refl hf) s1
      have hR1 := hR.same s1
      show (rEqD K _ _ (upd H z (.lst [])) _)
      generalize upd H z (.lst []) = H1 at s1 ez d1 hR1 ⊢
      obtain ⟨us, ds, eR, lu, k1, k2, k3, k4⟩ := rows_dp (K := K) gd hR1
      have nds : ds ≠ [] := fun e => by
        rw [k4.mpr e] at lu
        rw [← lu] at n1
        exact absurd n1 (Nat.not_succ_le_zero 0)
      refine ⟨.list ds, .list [], .lst (SqL.of eR) k1, .lst (SqL.of ez) .nil, list_shaped k2 k3, by decide +kernel, _, rfl, ?_⟩
      rw [eqv_nil, decide_eq_false nds]
      refine ifF rfl ⟨_, rfl, rfl, _, rfl, ifF (decide_eq_false fun e => ?_) ?_⟩
      · have := V.int.inj e
        omega
      refine ⟨_, rfl, a, 5, rfl, d1.fd, by decide, by decide, fun r H2 r0 r1 d2 => ⟨rfl, _, rfl, ?_⟩⟩
      have d12 := d1.trans d2
      by_cases r00 : r = 0
      · refine ifT (decide_eq_true (by rw [r00])) ?_
        refine ⟨_, rfl, _, rfl, a, g, rfl, d12.fd, fun x H3 d3 fx => ⟨(show 2 ≤ sizeLine by decide), fun v hv => ?_⟩⟩
        have s3 := same_new (o := HO.tup [V.str sEqS, x]) hv
        exact k v (.val x) _ (dr_same (d12.trans d3) s3) (.val upd_same) (.val fx)
      refine ifF (decide_eq_false fun e => r00 (V.int.inj e)) ?_
      have Ra : R ≠ a := hR.ne hf (by omega)
      have hR2 := hR1.dr Ra d1.fd d2
      obtain ⟨us2, eR2, lu2, _⟩ := id hR2
      refine ⟨_, rfl, _, rfl, _, rfl, R, us2.map V.ref, rfl, .inl (SqL.of eR2), a, _, rfl, d12.fd, by rw [List.length_map]; omega, (by rw [List.length_map]; show ((us2.length : Nat) : Int).natAbs < 2 ^ 200; exact Nat.lt_of_le_of_lt (by omega : ((us2.length : Nat) : Int).natAbs ≤ 40) (by decide)), fun m H3 m0 m1 d3 => ?_⟩
      obtain ⟨l, rfl⟩ : ∃ l : Nat, m = ((l : Nat) : Int) := ⟨m.toNat, by omega⟩
      rw [List.length_map] at m1
      have hl : l < ss.length := by omega
      have hR3 := hR2.dr Ra d12.fd d3
      have d13 := d12.trans d3
      obtain ⟨us3, eR3, lu3, au3⟩ := id hR3
      have hu3 : us3[l]? = some us3[l] := List.getElem?_eq_getElem (by omega)
      obtain ⟨t, mm, et, em, eu⟩ := au3 l us3[l] hu3
      have mm9 := sz mm (List.mem_of_getElem? em)
      have enm : nmOf ts l = t := by
        unfold nmOf
        rw [List.getD_eq_getElem?_getD, et]
        rfl
      have eks : ksOf ss l = mm := by
        unfold ksOf
        rw [List.getD_eq_getElem?_getD, em]
        rfl
      refine ⟨R, us3.map V.ref, ((l : Nat) : Int), .ref us3[l], rfl, rfl, SqL.of eR3, atI_nat (by rw [List.getElem?_map, hu3]; rfl), us3[l], _, rfl, SqT.of eu, rfl, _, _, rfl, _, _, rfl, rfl, ?_⟩
      refine ⟨_, rfl, _, rfl, ((mm : Nat) : Int), rfl, by omega, by omega, fun D hD => ?_⟩
      have Da : D ≠ a := feed_ne d13.fd hD
      have DR : D ≠ R := fun e => by rw [e, eR3] at hD; cases hD
      obtain ⟨fu, fv, hfa, _⟩ := id hf
      have ane : ∀ b, H b = none → b ≠ a := fun b e z => by rw [z, hfa] at e; cases e
      refine lc_range (lo := 0) (n := ((mm : Nat) : Int).toNat) (fun i H' => Dr a H3 H' ∧ ∃ (us' : List Addr) (ts' : List LT), H' D = some (.lst (us'.map V.ref)) ∧ us'.length = i ∧ ts'.length = i ∧ (∀ t ∈ ts', TOk ss.length (ksOf ss) g d t) ∧ ∀ (j : Nat) (t : LT) (u : Addr), ts'[j]? = some t → us'[j]? = some u → TAt (nmOf ts) (fun b => H b = none ∧ b ≠ D) H' t u)
        ⟨dr_put Da hD (dr_refl d13.fd), [], [], upd_same, rfl, rfl, fun _ h => (nomatch h), fun j t u h => by simp at h⟩ ?_ ?_
      · rintro i H5 hi ⟨d5, us', ts', eD, lu', lt', tk', ta'⟩
        have d15 := d13.trans d5
        have eD5 := eD
        refine ⟨rfl, _, rfl, _, rfl, _, rfl, _, _, rfl, rfl, _, rfl, a, R, g, ts, ss, (by show [V.ref a, V.ref R, V.int (((d + 1 : Nat) : Int) - 1), V.str g] = _; rw [show (((d + 1 : Nat) : Int)) - 1 = ((d : Nat) : Int) from by omega]), d15.fd, hR3.dr Ra d13.fd d5, len, n1, n40, gd, sz, fun v t' H6 d6 tv tk => ?_⟩
        have eD6 := d6.sm _ _ Da eD
        refine ⟨_, eD6, by rw [List.length_map, lu']; have := sizeLine_eq; omega, dr_put Da hD (d5.trans d6), us' ++ [v], ts' ++ [t'], by rw [upd_same, List.map_append]; rfl, by rw [List.length_append, lu']; rfl, by rw [List.length_append, lt']; rfl, fun x hx => ?_, fun j x u hx hu' => ?_⟩
        · rcases List.mem_append.mp hx with h | h
          · exact tk' x h
          · rw [List.mem_singleton.mp h]
            exact tk
        · have kp : ∀ {H0 : Hp} {B : Addr → Prop} {x : LT} {u : Addr}, Dr a H0 H6 → FeedAt H0 a → H0 D = some (.lst (us'.map V.ref)) → (∀ b, B b → H b = none ∧ b ≠ D) → TAt (nmOf ts) B H0 x u → TAt (nmOf ts) (fun b => H b = none ∧ b ≠ D) (upd H6 D (.lst (us'.map V.ref ++ [V.ref v]))) x u := fun dq fq eq wq hq => by
            refine hq.keep (X := fun b => b = a ∨ b = D) (fun b o n e => ?_) (fun b hb z => ?_) (fun b vs e z => ?_) wq
            · rw [upd_ne fun z => n (.inr z)]
              exact dq.sm b o (fun z => n (.inl z)) e
            · rcases z with z | z
              · exact ane b (wq b hb).1 z
              · exact (wq b hb).2 z
            · rcases z with z | z
              · exact feed_tup fq vs (by rw [← z]; exact e)
              · rw [z, eq] at e
                cases e
          rcases Nat.lt_or_ge j ts'.length with q | q
          · rw [List.getElem?_append_left q] at hx
            rw [List.getElem?_append_left (by omega)] at hu'
            exact kp d6 d15.fd eD5 (fun b h => h) (ta' j x u hx hu')
          · rw [List.getElem?_append_right q] at hx
            rw [List.getElem?_append_right (by omega)] at hu'
            have ej : j - ts'.length = 0 := by
              rcases Nat.eq_zero_or_pos (j - ts'.length) with w | w
              · exact w
              · rw [List.getElem?_eq_none (by rw [List.length_singleton]; exact w)] at hx; cases hx
            have ej2 : j - us'.length = 0 := by omega
            rw [ej] at hx
            rw [ej2] at hu'
            cases hx
            cases hu'
            refine kp (dr_refl d6.fd) d6.fd eD6 (fun b h => h) (tv.weak fun b h => ⟨dr_free d15 h, fun z => ?_⟩)
            rw [z, eD5] at h
            cases h
      rintro H5 ⟨d5, us', ts', eD, lu', lt', tk', ta'⟩
      refine ⟨(show 2 ≤ sizeLine by decide), fun v hv => ?_⟩
      have s6 := same_new (o := HO.tup [V.str t, V.ref D]) hv
      have HD : H D = none := dr_free d13 hD
      refine k v (.cas l ts') _ (dr_same (d13.trans d5) s6) (.cas (by rw [upd_same, enm]) (s6 _ _ eD) HD (by omega) fun j x u hx hu' => ((ta' j x u hx hu').weak fun b h => h.1).same s6) (.cas hl (by rw [lt', eks]; omega) tk')
end
end R52
namespace R52
open PySem L2 L3 FT ND
open C8 (pss_cut tCut pe_gc)
abbrev sAtF : Stmt := top 54
def wkv (nm : Nat → Str) (N : Nat) (o : Nat → Nat) : List (Key × V) := (List.range N).map fun l => ((Sum.inr (nm l) : Key), V.int ((o l : Nat) : Int))
theorem find_inj {α β : Type} [DecidableEq β] {f : α → β} {x : α} : ∀ {l : List α}, x ∈ l → (∀ y ∈ l, f y = f x → y = x) → l.find? (fun y => decide (f y = f x)) = some x
  | y :: l, m, h => by
    rw [List.find?_cons]
    by_cases e : f y = f x
    · rw [decide_eq_true e]
      rw [h y List.mem_cons_self e]
    · rw [decide_eq_false e]
      rcases List.mem_cons.mp m with z | m
      · exact absurd (by rw [z]) e
      · exact find_inj m fun y hy => h y (List.mem_cons_of_mem _ hy)
theorem nmOf_inj {ts : List Str} (nd : ts.Nodup) {i j : Nat} (hi : i < ts.length) (hj : j < ts.length) (e : nmOf ts i = nmOf ts j) : i = j := by
  unfold nmOf at e
  rw [List.getD_eq_getElem?_getD, List.getD_eq_getElem?_getD, List.getElem?_eq_getElem hi, List.getElem?_eq_getElem hj] at e
  exact (List.getElem?_inj hi nd).mp (by rw [List.getElem?_eq_getElem hi, List.getElem?_eq_getElem hj]; exact congrArg some e)
theorem nmOf_mem {ts : List Str} {i : Nat} (hi : i < ts.length) : nmOf ts i ∈ ts := by
  unfold nmOf
  rw [List.getD_eq_getElem?_getD, List.getElem?_eq_getElem hi]
  exact List.getElem_mem hi
theorem wkv_get {ts : List Str} (nd : ts.Nodup) {o : Nat → Nat} {l : Nat} (hl : l < ts.length) : valV (wkv (nmOf ts) ts.length o) (Sum.inr (nmOf ts l) : Key) = some (.int ((o l : Nat) : Int)) := by
  unfold valV wkv
  rw [List.find?_map]
  have : (List.range ts.length).find? ((fun kv : Key × V => decide (kv.1 = (Sum.inr (nmOf ts l) : Key))) ∘ fun l => ((Sum.inr (nmOf ts l) : Key), V.int ((o l : Nat) : Int))) = some l := by
    refine find_inj (f := fun l => (Sum.inr (nmOf ts l) : Key)) (List.mem_range.mpr hl) fun y hy e => ?_
    exact nmOf_inj nd (List.mem_range.mp hy) hl (Sum.inr.inj e)
  rw [this]
  rfl
theorem eqS_no : okT sEqS = false := by decide +kernel
theorem eqS_ne {ts : List Str} (g : GoodN ts) {l : Nat} (hl : l < ts.length) : nmOf ts l ≠ sEqS := fun e => by
  have := g.2 _ (nmOf_mem hl)
  rw [e, eqS_no] at this
  cases this
/-- a world as it lies -/
def WAt (H : Hp) (d : Addr) (ts : List Str) (o : Nat → Nat) : Prop := H d = some (.dK (wkv (nmOf ts) ts.length o))
def spAtF : Sp := fun vs H Q _ => ∃ (v d : Addr) (t : LT) (B : Addr → Prop) (n : Nat) (g : Str) (ts : List Str) (ss : List Nat) (o : Nat → Nat), vs = [.ref v, .ref d] ∧ TAt (nmOf ts) B H t v ∧ TOk ss.length (ksOf ss) g n t ∧ ts.length = ss.length ∧ GoodN ts ∧ WAt H d ts o ∧ Good ss.length (ksOf ss) o ∧ Q (tev o t) H
section
variable {P : Program} {w : World} {K : PySem.W.Frag} {mg : Str → Option Value} {base : Heap}
theorem scAtF : FnScope ["_law_tree_here", "_law_world_here"] ["_law_tree_here", "_law_world_here"] (defScope sAtF) := ⟨rfl, rfl, rfl, by decide +kernel, rfl, by decide +kernel, by decide +kernel⟩
theorem ok_atF {f : Addr} {fd : FuncData} (F : Fun K "_law_at" "_law_at" sAtF f fd) : FnOk P w K mg base CX0 1 f fd ["_law_tree_here", "_law_world_here"] spAtF := by
  refine F.ok scAtF (fun vs H Q E h => ?_) (fun cdv A outer s H vs Q E hr h => ?_)
  · obtain ⟨v, d, t, B, n, g, ts, ss, o, rfl, _⟩ := h
    rfl
  · obtain ⟨v, d, t, B, n, g, ts, ss, o, rfl, ta, tk, len, gd, wa, go, k⟩ := h
    have nd := scAtF.nd
    refine ⟨_, pss_cons (ps_while PassesOwn.never (pt_cmpR op_ne (pe_ix (r := rIxT K) (by exact ix_tup) (pv 0) pe_int (fun _ _ => rfl)) pe_str (nomark _))
        (pss_one (ps_set (i := 0) nd rfl (.inl rfl) (pe_ix (r := rIxL K) (by exact ix_list) (pe_ix (r := rIxT K) (by exact ix_tup) (pv 0) pe_int (fun _ _ => rfl)) (pe_dget (Nat.lt_of_le_of_lt (Nat.add_le_add_left (by decide) _) hr.units) (pv 1) (pe_ix (r := rIxT K) (by exact ix_tup) (pv 0) pe_int (fun _ _ => rfl)) (fun _ _ => rfl)) (fun _ _ => rfl)))))
      (pss_one (ps_ret (pe_ix (r := rIxT K) (by exact ix_tup) (pv 0) pe_int (fun _ _ => rfl)))), ?_⟩
    refine ⟨fun m σ H' => ∃ (v' : Addr) (t' : LT), σ = [some (.ref v'), some (.ref d)] ∧ H' = H ∧ TAt (nmOf ts) B H t' v' ∧ TOk ss.length (ksOf ss) g m t' ∧ tev o t' = tev o t, ⟨n, v, t, rfl, rfl, ta, tk, rfl⟩, ?_⟩
    rintro m σ H' ⟨v', t', rfl, rfl, ta', tk', et⟩
    cases ta' with
    | val e =>
      refine ⟨_, rfl, v', _, _, _, rfl, rfl, SqT.of e, rfl, rfl, _, rfl, ifF (by decide +kernel) ?_⟩
      refine ⟨_, rfl, v', _, _, _, rfl, rfl, SqT.of e, rfl, ?_⟩
      rw [tev] at et
      rw [et]
      exact k
    | @cas _ b l ts' us e1 e2 hb lu ks' =>
      cases tk' with
      | @cas m' _ _ hl lt' tk2 =>
        have hlt : l < ts.length := by omega
        refine ⟨_, rfl, v', _, _, _, rfl, rfl, SqT.of e1, rfl, rfl, _, rfl, ifT (by show (!decide (V.str (nmOf ts l) = V.str sEqS)) = true; rw [decide_eq_false fun e => eqS_ne gd hlt (V.str.inj e)]; rfl) ?_⟩
        have ho := go l hl
        have hj : o l < ts'.length := by omega
        have hu' : us[o l]? = some us[o l] := List.getElem?_eq_getElem (by omega)
        have ht' : ts'[o l]? = some ts'[o l] := List.getElem?_eq_getElem hj
        refine ⟨fun σ' H2 => ∃ (v' : Addr) (t' : LT), σ' = [some (.ref v'), some (.ref d)] ∧ H2 = H' ∧ TAt (nmOf ts) B H' t' v' ∧ TOk ss.length (ksOf ss) g m' t' ∧ tev o t' = tev o t, fun σ' H2 ⟨v2, t2, h⟩ => ⟨m', Nat.lt_succ_self _, v2, t2, h⟩, ?_⟩
        refine ⟨_, rfl, v', _, _, _, rfl, rfl, SqT.of e1, rfl, _, rfl, _, rfl, v', _, _, _, rfl, rfl, SqT.of e1, rfl, d, .int ((o l : Nat) : Int), rfl, .inl ⟨_, Sum.inr (nmOf ts l), ?_, rfl, (wkv_get gd.1 hlt).symm⟩, b, us.map V.ref, _, .ref us[o l], rfl, rfl, SqL.of e2, atI_nat (by rw [List.getElem?_map, hu']; rfl), ?_⟩
        · exact .inl wa
        refine ⟨_, _, rfl, rfl, ks' _ _ _ ht' hu', tk2 _ (List.getElem_mem hj), ?_⟩
        rw [← et, tev, tevs_get o ts' (o l) _ ht']
end
end R52
namespace R52
open PySem L2 L3 FT ND
open C8 (pss_cut tCut pe_gc)
abbrev sWorldF : Stmt := top 57
theorem putK_new {acc : List (Key × V)} {k : Key} {v : V} (h : ∀ kv ∈ acc, kv.1 ≠ k) : putK acc k v = acc ++ [(k, v)] := by
  unfold putK
  rw [if_neg]
  intro e
  obtain ⟨kv, m, e⟩ := List.any_eq_true.mp e
  exact h kv m (of_decide_eq_true e)
theorem mergeK_app : ∀ {more acc : List (Key × V)}, ((acc ++ more).map fun kv => kv.1).Nodup → mergeK acc more = acc ++ more
  | [], acc, _ => by rw [List.append_nil]; rfl
  | (k, v) :: more, acc, h => by
    have e : acc ++ (k, v) :: more = (acc ++ [(k, v)]) ++ more := by rw [List.append_assoc]; rfl
    rw [e] at h ⊢
    show mergeK (putK acc k v) more = _
    rw [putK_new fun kv m z => ?_]
    · exact mergeK_app h
    · rw [List.append_assoc, List.map_append, List.nodup_append] at h
      exact h.2.2 kv.1 (List.mem_map.mpr ⟨kv, m, rfl⟩) k (List.mem_cons_self) z
theorem mergeK_nil {more : List (Key × V)} (h : (more.map fun kv => kv.1).Nodup) : mergeK [] more = more := mergeK_app (acc := []) (by rw [List.nil_append]; exact h)
theorem paired_snocF {α β : Type} {F : α → β → Prop} : ∀ {xs : List α} {ys : List β} {x : α} {y : β}, Paired F xs ys → F x y → Paired F (xs ++ [x]) (ys ++ [y])
  | _, _, _, _, .nil, h => .cons h .nil
  | _, _, _, _, .cons a b, h => .cons a (paired_snocF b h)
theorem wkv_snoc {nm : Nat → Str} {n : Nat} {o : Nat → Nat} : wkv nm (n + 1) o = wkv nm n o ++ [((Sum.inr (nm n) : Key), V.int ((o n : Nat) : Int))] := by
  unfold wkv
  rw [List.range_succ, List.map_append]
  rfl
theorem wkv_congr {nm : Nat → Str} {n : Nat} {o p : Nat → Nat} (h : ∀ l, l < n → o l = p l) : wkv nm n o = wkv nm n p := by
  unfold wkv
  exact List.map_congr_left fun l hl => by rw [h l (List.mem_range.mp hl)]
theorem wkv_keys {ts : List Str} {o : Nat → Nat} : (wkv (nmOf ts) ts.length o).map (fun kv => kv.1) = ts.map fun t => (Sum.inr t : Key) := by
  unfold wkv
  rw [List.map_map]
  refine List.ext_getElem? fun i => ?_
  rw [List.getElem?_map, List.getElem?_map]
  by_cases h : i < ts.length
  · rw [List.getElem?_range h, List.getElem?_eq_getElem h]
    show some (Sum.inr (nmOf ts i) : Key) = some (Sum.inr ts[i])
    unfold nmOf
    rw [List.getD_eq_getElem?_getD, List.getElem?_eq_getElem h]
    rfl
  · rw [List.getElem?_eq_none (by rw [List.length_range]; omega), List.getElem?_eq_none (by omega)]
    rfl
theorem wkv_nodup {ts : List Str} (nd : ts.Nodup) {o : Nat → Nat} : ((wkv (nmOf ts) ts.length o).map fun kv => kv.1).Nodup := by
  rw [wkv_keys]
  exact List.Pairwise.map _ (fun a b h e => h (Sum.inr.inj e)) nd
def spWorldF : Sp := fun vs H Q _ => ∃ (a R : Addr) (ts : List Str) (ss : List Nat), vs = [.ref a, .ref R] ∧ FeedAt H a ∧ R ≠ a ∧ RowsL H R ts ss ∧ ts.length = ss.length ∧ ss.length ≤ 40 ∧ GoodN ts ∧ (∀ m ∈ ss, 2 ≤ m ∧ m ≤ 9) ∧
  ∀ (p : Addr) (o : Nat → Nat) (H' : Hp), H p = none → Dr a H H' → WAt H' p ts o → Good ss.length (ksOf ss) o → Q (.ref p) H'
abbrev NWo : List Str := ["_law_feed_here", "_law_rows", "_law_name", "_law_many"]
section
variable {P : Program} {w : World} {K : PySem.W.Frag} {mg : Str → Option Value} {base : Heap}
theorem scWoF : FnScope NWo ["_law_feed_here", "_law_rows"] (defScope sWorldF) := ⟨rfl, rfl, rfl, by decide +kernel, rfl, by decide +kernel, by decide +kernel⟩
theorem ok_worldF {f fT : Addr} {fd fdT : FuncData} (F : Fun K "_law_world" "_law_world" sWorldF f fd) (UT : Use P w K mg base "_law_take" 1 fT fdT ["_law_feed_here", "_law_many"] spTake) (zDict : mg "dict" = none) :
    FnOk P w K mg base CX0 2 f fd ["_law_feed_here", "_law_rows"] spWorldF := by
  refine F.ok scWoF (fun vs H Q E h => ?_) (fun cdv A outer s H vs Q E hr h => ?_)
  · obtain ⟨a, R, ts, ss, rfl, _⟩ := h
    rfl
  · obtain ⟨a, R, ts, ss, rfl, hf, Ra, hR, len, n40, gd, sz, k⟩ := h
    have nd := scWoF.nd
    refine ⟨_, pss_one (ps_ret (pe_callTy (call_dictP rfl) (by rfl) zDict PyProof.Rows.boot_dict (pa_cons (pe_lc (own := [("_law_name", 2), ("_law_many", 3)]) (g := gTup K 2 (gCons (gName 2) (gCons (gName 3) gNil))) (tt := tYes) rfl nd (pi_list (pv 1)) (blkOk_by (N := NWo) (sc := defScope sWorldF) (by decide +kernel)) (fun _ _ _ _ _ => pg_tup (by rfl) (pgs_cons (pg_name (i := 2) nd rfl (.inl rfl)) (pgs_cons (pg_name (i := 3) nd rfl (.inl rfl)) pgs_nil))) (fun _ _ _ _ _ => pts_nil)
      (fun _ _ _ _ _ => pe_tup (pa_cons (pv 2) (pa_cons (pe_op op_mulW (pe_call UT.G (hr.mono (by omega)) (by rfl) UT.g UT.kp UT.b .nil pass0 (pa_cons (pv 0) (pa_cons (pv 3) pa_nil))) (pe_call UT.G (hr.mono (by omega)) (by rfl) UT.g UT.kp UT.b .nil pass0 (pa_cons (pv 0) (pa_cons pe_int pa_nil)))) pa_nil)))) pa_nil))), ?_⟩
    obtain ⟨us, eR, lu, au⟩ := id hR
    refine ⟨_, rfl, R, rfl, ⟨_, SqL.of eR⟩, fun D hD => ?_⟩
    have Da : D ≠ a := feed_ne hf hD
    refine lc_it (walk_list (K := K) (a := R) (xs := us.map V.ref)) (fun n H' => Dr a H H' ∧ ∃ (bs : List Addr) (o : Nat → Nat), H' D = some (.lst (bs.map V.ref)) ∧ bs.length = n ∧ (∀ l, l < n → o l < ksOf ss l) ∧ Paired (fun p kv => H' p = some (.tup [kV kv.1, kv.2])) bs (wkv (nmOf ts) n o))
      ⟨dr_put Da hD (dr_refl hf), [], fun _ => 0, upd_same, rfl, fun l h => absurd h (Nat.not_lt_zero _), .nil⟩ (fun n H' _ h => SqL.of (h.1.sm _ _ Ra eR)) ?_ ?_
    · rintro n y H1 H1' hn ⟨d1, bs, o, eD, lb, go, pr⟩ ⟨rfl, hy⟩
      rw [List.length_map] at hn
      replace hy : (us.map V.ref)[n]? = some y := hy
      rw [List.getElem?_map, List.getElem?_eq_getElem hn] at hy
      cases hy
      obtain ⟨t, m, et, em, eu⟩ := au n us[n] (List.getElem?_eq_getElem hn)
      have na : us[n] ≠ a := fun z => feed_tup hf _ (by rw [← z]; exact eu)
      have mm := sz m (List.mem_of_getElem? em)
      have enm : nmOf ts n = t := by
        unfold nmOf
        rw [List.getD_eq_getElem?_getD, et]
        rfl
      have eks : ksOf ss n = m := by
        unfold ksOf
        rw [List.getD_eq_getElem?_getD, em]
        rfl
      refine ⟨us[n], _, rfl, SqT.of (d1.sm _ _ na eu), rfl, _, _, rfl, _, _, rfl, rfl, ?_⟩
      refine ⟨rfl, _, rfl, _, rfl, _, rfl, a, ((m : Nat) : Int), rfl, d1.fd, by omega, (by show ((m : Nat) : Int).natAbs < 2 ^ 200; omega), fun r H2 r0 r1 d2 => ⟨_, rfl, a, 2, rfl, d2.fd, by decide, by decide, fun q H3 q0 q1 d3 => ⟨_, _, rfl, rfl, Sm.mulW (n := 5) (m := 2) (by show r.natAbs < 32; omega) (by show q.natAbs < 4; omega) (by decide) (by decide) (by decide), (show 2 ≤ sizeLine by decide), fun T hT => ?_⟩⟩⟩
      obtain ⟨i, rfl⟩ : ∃ i : Nat, r = ((i : Nat) : Int) := ⟨r.toNat, by omega⟩
      obtain ⟨j, rfl⟩ : ∃ j : Nat, q = ((j : Nat) : Int) := ⟨q.toNat, by omega⟩
      have hij : i * j < m := by
        rcases Nat.lt_or_ge j 1 with h | h
        · rw [Nat.lt_one_iff.mp h]
          omega
        · rw [show j = 1 by omega, Nat.mul_one]
          omega
      have d13 := d1.trans (d2.trans d3)
      have d24 : Dr a H1' (upd H3 T (.tup [V.str t, V.int (((i : Nat) : Int) * ((j : Nat) : Int))])) := dr_same (d2.trans d3) (same_new hT)
      have eT : upd H3 T (.tup [V.str t, V.int (((i : Nat) : Int) * ((j : Nat) : Int))]) T = some (.tup [V.str (nmOf ts n), V.int ((i * j : Nat) : Int)]) := by rw [upd_same, enm, Int.natCast_mul]
      have d14 := d1.trans d24
      have eD4 := d24.sm _ _ Da eD
      show ∃ acc, (upd H3 T (.tup [V.str t, V.int (((i : Nat) : Int) * ((j : Nat) : Int))])) D = some (.lst acc) ∧ _
      generalize upd H3 T (.tup [V.str t, V.int (((i : Nat) : Int) * ((j : Nat) : Int))]) = H4 at eT d24 d14 eD4 ⊢
      have keep : ∀ {p : Addr} {vs : List V}, H4 p = some (.tup vs) → upd H4 D (.lst (bs.map V.ref ++ [V.ref T])) p = some (.tup vs) := fun {p vs} e => by
        have : p ≠ D := fun z => by rw [z, eD4] at e; cases e
        rw [upd_ne this]
        exact e
      refine ⟨_, eD4, by rw [List.length_map, lb]; have := sizeLine_eq; omega, dr_put Da hD d14, bs ++ [T], fun l => if l = n then i * j else o l, by rw [upd_same, List.map_append]; rfl, by rw [List.length_append, lb]; rfl, fun l hl => ?_, ?_⟩
      · dsimp only
        by_cases e : l = n
        · rw [if_pos e, e, eks]
          exact hij
        · rw [if_neg e]
          exact go l (by omega)
      · rw [wkv_snoc, if_pos rfl, wkv_congr (p := o) fun l hl => if_neg (by omega)]
        refine paired_snocF (Paired.mapP pr fun p kv e => keep (d24.sm _ _ (fun z => ?_) e)) (keep eT)
        exact feed_tup d1.fd _ (by rw [← z]; exact e)
    rintro H1 ⟨d1, bs, o, eD, lb, go, pr⟩
    rw [List.length_map, lu, ← len] at pr
    refine ⟨D, bs, _, rfl, SqL.of eD, Paired.mapP pr fun p kv e => SqT.of e, fun p hp => ?_⟩
    have hpH := dr_free d1 hp
    rw [mergeK_nil (wkv_nodup gd.1)]
    refine k p o _ hpH (dr_same d1 (same_new hp)) upd_same fun l hl => go l ?_
    rw [List.length_map, lu]
    exact hl
end
end R52
namespace R52
open PySem L2 L3 FT ND
open C8 (pss_cut tCut pe_gc)
abbrev sShortF : Stmt := top 58
/-- a world of which some choices with option 0 are left out -/
def ShAt (H : Hp) (d : Addr) (ts : List Str) (o : Nat → Nat) : Prop := ∃ kvs : List (Key × V), H d = some (.dK kvs) ∧ ∀ l, l < ts.length → (valV kvs (Sum.inr (nmOf ts l) : Key)).getD (.int 0) = .int ((o l : Nat) : Int)
def spShortF : Sp := fun vs H Q _ => ∃ (a d : Addr) (ts : List Str) (o : Nat → Nat), vs = [.ref a, .ref d] ∧ FeedAt H a ∧ WAt H d ts o ∧ ts.length ≤ 40 ∧ GoodN ts ∧
  ∀ (p : Addr) (H' : Hp), H p = none → Dr a H H' → ShAt H' p ts o → Q (.ref p) H'
def skv (nm : Nat → Str) (o : Nat → Nat) (L : List Nat) : List (Key × V) := L.map fun l => ((Sum.inr (nm l) : Key), V.int ((o l : Nat) : Int))
theorem skv_in {ts : List Str} (nd : ts.Nodup) {o : Nat → Nat} {L : List Nat} (hL : ∀ l ∈ L, l < ts.length) {l : Nat} (hl : l < ts.length) (m : l ∈ L) : valV (skv (nmOf ts) o L) (Sum.inr (nmOf ts l) : Key) = some (.int ((o l : Nat) : Int)) := by
  unfold valV skv
  rw [List.find?_map]
  have : L.find? ((fun kv : Key × V => decide (kv.1 = (Sum.inr (nmOf ts l) : Key))) ∘ fun l => ((Sum.inr (nmOf ts l) : Key), V.int ((o l : Nat) : Int))) = some l := by
    refine find_inj (f := fun l => (Sum.inr (nmOf ts l) : Key)) m fun y hy e => ?_
    exact nmOf_inj nd (hL y hy) hl (Sum.inr.inj e)
  rw [this]
  rfl
theorem skv_out {ts : List Str} (nd : ts.Nodup) {o : Nat → Nat} {L : List Nat} (hL : ∀ l ∈ L, l < ts.length) {l : Nat} (hl : l < ts.length) (m : l ∉ L) : valV (skv (nmOf ts) o L) (Sum.inr (nmOf ts l) : Key) = none := by
  unfold valV skv
  rw [List.find?_map]
  have : L.find? ((fun kv : Key × V => decide (kv.1 = (Sum.inr (nmOf ts l) : Key))) ∘ fun l => ((Sum.inr (nmOf ts l) : Key), V.int ((o l : Nat) : Int))) = none := by
    refine List.find?_eq_none.mpr fun y hy e => ?_
    have e := of_decide_eq_true e
    exact m (by rw [← nmOf_inj nd (hL y hy) hl (Sum.inr.inj e)]; exact hy)
  rw [this]
  rfl
theorem skv_nodup {ts : List Str} (nd : ts.Nodup) {o : Nat → Nat} {L : List Nat} (hL : ∀ l ∈ L, l < ts.length) (nL : L.Nodup) : ((skv (nmOf ts) o L).map fun kv => kv.1).Nodup := by
  unfold skv
  rw [List.map_map]
  refine List.pairwise_map.mpr (List.Pairwise.imp_of_mem (fun {x y} hx hy h e => ?_) nL)
  exact h (nmOf_inj nd (hL x hx) (hL y hy) (Sum.inr.inj e))
theorem nm_at {ts : List Str} {z : Str} (h : z ∈ ts) : ∃ l, l < ts.length ∧ z = nmOf ts l := by
  obtain ⟨l, hl, e⟩ := List.mem_iff_getElem.mp h
  refine ⟨l, hl, ?_⟩
  unfold nmOf
  rw [List.getD_eq_getElem?_getD, List.getElem?_eq_getElem hl, ← e]
  rfl
abbrev NSh : List Str := ["_law_feed_here", "_law_world_here", "_law_some_here", "_law_name"]
section
variable {P : Program} {w : World} {K : PySem.W.Frag} {mg : Str → Option Value} {base : Heap}
theorem scShF : FnScope NSh ["_law_feed_here", "_law_world_here"] (defScope sShortF) := ⟨rfl, rfl, rfl, by decide +kernel, rfl, by decide +kernel, by decide +kernel⟩
theorem ok_shortF {f fT fM : Addr} {fd fdT fdM : FuncData} (F : Fun K "_law_short" "_law_short" sShortF f fd) (UT : Use P w K mg base "_law_take" 1 fT fdT ["_law_feed_here", "_law_many"] spTake) (UM : Use P w K mg base "_law_mixed" 2 fM fdM ["_law_feed_here", "_law_items"] (spMixed K)) (zDict : mg "dict" = none) (zList : mg "list" = none) :
    FnOk P w K mg base CX0 3 f fd ["_law_feed_here", "_law_world_here"] spShortF := by
  refine F.ok scShF (fun vs H Q E h => ?_) (fun cdv A outer s H vs Q E hr h => ?_)
  · obtain ⟨a, d, ts, o, rfl, _⟩ := h
    rfl
  · obtain ⟨a, d, ts, o, rfl, hf, wa, n40, gd, k⟩ := h
    have nd := scShF.nd
    have hu : _ + 1 < cLine := Nat.lt_of_le_of_lt (Nat.add_le_add_left (by decide : 1 ≤ 64) _) hr.units
    refine ⟨_, pss_cons (ps_setLc (i := 2) (own := [("_law_name", 3)]) (g := gName 3) rfl nd rfl rfl (sw_true rfl rfl rfl (by decide +kernel)) (pi_list (pe_call UM.G (hr.mono (by omega)) (by rfl) UM.g UM.kp UM.b .nil pass0 (pa_cons (pv 0) (pa_cons (pe_callTy (call_listD rfl) (by rfl) zList PyProof.Rows.boot_list (pa_cons (pv 1) pa_nil)) pa_nil)))) (blkOk_by (N := NSh) (sc := defScope sShortF) (by decide +kernel)) (fun _ _ _ _ _ => pg_name (i := 3) nd rfl (.inl rfl))
        (fun _ _ _ _ _ => pts_one (PW.pt (pw_or (pt_cmpR op_gt (pe_dget hu (pv 1) (pv 3) (fun _ _ => rfl)) pe_int (nomark _)) (pw_or1 (pt_cmpR op_gt (pe_call UT.G (hr.mono (by omega)) (by rfl) UT.g UT.kp UT.b .nil pass0 (pa_cons (pv 0) (pa_cons pe_int pa_nil))) pe_int (nomark _)))))) (fun _ _ _ _ _ => pv 3))
      (pss_one (ps_ret (pe_callTy (call_dictP rfl) (by rfl) zDict PyProof.Rows.boot_dict (pa_cons (pe_lc (own := [("_law_name", 3)]) (g := gName 3) (tt := tYes) rfl nd (pi_list (pv 2)) (blkOk_by (N := NSh) (sc := defScope sShortF) (by decide +kernel)) (fun _ _ _ _ _ => pg_name (i := 3) nd rfl (.inl rfl)) (fun _ _ _ _ _ => pts_nil)
        (fun _ _ _ _ _ => pe_tup (pa_cons (pv 3) (pa_cons (pe_dget hu (pv 1) (pv 3) (fun _ _ => rfl)) pa_nil)))) pa_nil)))), ?_⟩
    have da : d ≠ a := fun z => by
      obtain ⟨u, v, e, _⟩ := hf
      have w2 : H d = _ := wa
      rw [z, e] at w2
      cases w2
    have eks : (wkv (nmOf ts) ts.length o).map (fun kv => kV kv.1) = ts.map V.str := by
      have := congrArg (fun l : List Key => l.map kV) (wkv_keys (ts := ts) (o := o))
      rw [List.map_map, List.map_map] at this
      exact this
    refine ⟨_, rfl, _, rfl, d, _, rfl, .inl wa, fun Z hZ => ?_⟩
    rw [eks]
    have s1 := same_new (o := HO.lst (ts.map V.str)) hZ
    have d1 := dr_same (dr_refl hf) s1
    have eZ : upd H Z (.lst (ts.map V.str)) Z = some (.lst (ts.map V.str)) := upd_same
    have wa1 : WAt (upd H Z (.lst (ts.map V.str))) d ts o := s1 _ _ wa
    generalize upd H Z (.lst (ts.map V.str)) = H1 at s1 d1 eZ wa1 ⊢
    refine ⟨a, Z, _, rfl, d1.fd, .inl (SqL.of eZ), by rw [List.length_map]; omega, fun x hx => ?_, fun p ys H2 hp d2 ep pm => ?_⟩
    · obtain ⟨t, ht, rfl⟩ := List.mem_map.mp hx
      exact dat_str (okT_iff (gd.2 t ht)).str
    obtain ⟨zs, hz, rfl⟩ := perm_strs pm
    have nz : zs.Nodup := hz.nodup_iff.mpr gd.1
    have pa : p ≠ a := feed_ne d1.fd hp
    have d12 := d1.trans d2
    have wa2 : WAt H2 d ts o := d2.sm _ _ da wa1
    refine ⟨p, rfl, ⟨_, SqL.of ep⟩, fun D hD => ?_⟩
    have Da : D ≠ a := feed_ne d2.fd hD
    have Dd : D ≠ d := fun z => by rw [z, show H2 d = _ from wa2] at hD; cases hD
    refine lc_it (walk_list (K := K) (a := p) (xs := zs.map V.str)) (fun n H' => Dr a H2 H' ∧ ∃ L : List Nat, H' D = some (.lst (L.map fun l => V.str (nmOf ts l))) ∧ L.length ≤ n ∧ L.Nodup ∧ (∀ l ∈ L, l < ts.length ∧ nmOf ts l ∈ zs.take n) ∧ ∀ l, l < ts.length → nmOf ts l ∈ zs.take n → l ∉ L → o l = 0)
      ⟨dr_put Da hD (dr_refl d2.fd), [], upd_same, Nat.le_refl _, List.nodup_nil, fun l h => (nomatch h), fun l _ h => by simp at h⟩ (fun n H' _ h => SqL.of (h.1.sm _ _ pa ep)) ?_ ?_
    · rintro n y H3 H3' hn ⟨d3, L, eD, lL, nL, aL, zL⟩ ⟨rfl, hy⟩
      rw [List.length_map] at hn
      replace hy : (zs.map V.str)[n]? = some y := hy
      rw [List.getElem?_map, List.getElem?_eq_getElem hn] at hy
      cases hy
      obtain ⟨l, hl, el⟩ := nm_at (hz.mem_iff.mp (List.getElem_mem hn))
      have tk : ∀ t, t ∈ zs.take (n + 1) ↔ t ∈ zs.take n ∨ t = nmOf ts l := fun t => by
        rw [List.take_add_one, List.getElem?_eq_getElem hn, el, List.mem_append]
        exact or_congr Iff.rfl List.mem_singleton
      have nin : nmOf ts l ∉ zs.take n := fun m => by
        obtain ⟨j, hj, e⟩ := List.mem_iff_getElem.mp m
        rw [List.length_take] at hj
        rw [List.getElem_take, ← el] at e
        have := (List.getElem?_inj (by omega) nz).mp (by rw [List.getElem?_eq_getElem (show j < zs.length by omega), List.getElem?_eq_getElem hn, e])
        omega
      have nlL : l ∉ L := fun m => nin (aL l m).2
      have wa3 : WAt H3' d ts o := d3.sm _ _ da wa2
      have put : ∀ H4, Dr a H3' H4 → ∃ acc, H4 D = some (.lst acc) ∧ acc.length < sizeLine ∧ Dr a H2 (upd H4 D (.lst (acc ++ [V.str zs[n]]))) ∧ ∃ L : List Nat, upd H4 D (.lst (acc ++ [V.str zs[n]])) D = some (.lst (L.map fun l => V.str (nmOf ts l))) ∧ L.length ≤ n + 1 ∧ L.Nodup ∧ (∀ l ∈ L, l < ts.length ∧ nmOf ts l ∈ zs.take (n + 1)) ∧ ∀ l, l < ts.length → nmOf ts l ∈ zs.take (n + 1) → l ∉ L → o l = 0 := fun H4 d4 => by
        have eD4 := d4.sm _ _ Da eD
        have lz := hz.length_eq
        refine ⟨_, eD4, by rw [List.length_map]; have := sizeLine_eq; omega, dr_put Da hD (d3.trans d4), L ++ [l], by rw [upd_same, el, List.map_append]; rfl, by rw [List.length_append, List.length_singleton]; omega, ?_, fun x hx => ?_, fun x hx m nx => ?_⟩
        · refine List.nodup_append.mpr ⟨nL, (by simp : [l].Nodup), fun x hx y hy e => ?_⟩
          rw [List.mem_singleton.mp hy] at e
          exact nlL (by rw [← e]; exact hx)
        · rcases List.mem_append.mp hx with h | h
          · exact ⟨(aL x h).1, (tk _).mpr (.inl (aL x h).2)⟩
          · rw [List.mem_singleton.mp h]
            exact ⟨hl, (tk _).mpr (.inr rfl)⟩
        · rcases (tk _).mp m with m | m
          · exact zL x hx m fun h => nx (List.mem_append_left _ h)
          · exact absurd (List.mem_append_right _ (List.mem_singleton.mpr (nmOf_inj gd.1 hx hl m))) nx
      refine ⟨rfl, _, rfl, _, rfl, d, .int ((o l : Nat) : Int), rfl, .inl ⟨_, Sum.inr (nmOf ts l), .inl wa3, by rw [el]; rfl, (wkv_get gd.1 hl).symm⟩, _, _, rfl, rfl, _, rfl, ?_⟩
      by_cases p0 : 0 < o l
      · refine ifT (decide_eq_true (by omega)) (ifT rfl ⟨_, rfl, ?_⟩)
        exact put H3' (dr_refl d3.fd)
      · refine ifF (decide_eq_false (by omega)) ⟨_, rfl, a, 2, rfl, d3.fd, by decide, by decide, fun r H4 r0 r1 d4 => ⟨_, _, rfl, rfl, _, rfl, ?_⟩⟩
        by_cases r00 : r > 0
        · refine ifT (decide_eq_true r00) ⟨_, rfl, ?_⟩
          exact put H4 d4
        · refine ifF (decide_eq_false r00) ⟨d3.trans d4, L, d4.sm _ _ Da eD, by omega, nL, fun x hx => ⟨(aL x hx).1, (tk _).mpr (.inl (aL x hx).2)⟩, fun x hx m nx => ?_⟩
          rcases (tk _).mp m with m | m
          · exact zL x hx m nx
          · rw [nmOf_inj gd.1 hx hl m]
            omega
    rintro H3 ⟨d3, L, eD, lL, nL, aL, zL⟩
    rw [List.length_map, List.take_of_length_le (Nat.le_refl _)] at aL zL
    rw [List.length_map, hz.length_eq] at lL
    have wa3 : WAt H3 d ts o := d3.sm _ _ da wa2
    have d13 := d12.trans d3
    refine ⟨_, rfl, D, rfl, ⟨_, SqL.of eD⟩, fun G hG => ?_⟩
    have Ga : G ≠ a := feed_ne d3.fd hG
    have GD : G ≠ D := fun z => by rw [z, eD] at hG; cases hG
    have Gd : G ≠ d := fun z => by rw [z, show H3 d = _ from wa3] at hG; cases hG
    refine lc_it (walk_list (K := K) (a := D) (xs := L.map fun l => V.str (nmOf ts l))) (fun n H' => (∀ b u, b ≠ G → H3 b = some u → H' b = some u) ∧ ∃ bs : List Addr, H' G = some (.lst (bs.map V.ref)) ∧ bs.length = n ∧ Paired (fun p kv => H' p = some (.tup [kV kv.1, kv.2])) bs (skv (nmOf ts) o (L.take n)))
      ⟨fun b u nb e => by rw [upd_ne nb]; exact e, [], upd_same, rfl, .nil⟩ (fun n H' _ h => SqL.of (h.1 _ _ (Ne.symm GD) eD)) ?_ ?_
    · rintro n y H4 H4' hn ⟨k4, bs, eG, lb, pr⟩ ⟨rfl, hy⟩
      rw [List.length_map] at hn
      replace hy : (L.map fun l => V.str (nmOf ts l))[n]? = some y := hy
      rw [List.getElem?_map, List.getElem?_eq_getElem hn] at hy
      cases hy
      have hl := (aL L[n] (List.getElem_mem hn)).1
      have wa4 : WAt H4' d ts o := k4 _ _ (Ne.symm Gd) wa3
      refine ⟨rfl, _, rfl, _, rfl, _, rfl, d, .int ((o L[n] : Nat) : Int), rfl, .inl ⟨_, Sum.inr (nmOf ts L[n]), .inl wa4, rfl, (wkv_get gd.1 hl).symm⟩, (show 2 ≤ sizeLine by decide), fun T hT => ?_⟩
      have sT := same_new (o := HO.tup [V.str (nmOf ts L[n]), V.int ((o L[n] : Nat) : Int)]) hT
      have eT : upd H4' T (.tup [V.str (nmOf ts L[n]), V.int ((o L[n] : Nat) : Int)]) T = some (.tup [V.str (nmOf ts L[n]), V.int ((o L[n] : Nat) : Int)]) := upd_same
      have eG5 := sT _ _ eG
      generalize upd H4' T (.tup [V.str (nmOf ts L[n]), V.int ((o L[n] : Nat) : Int)]) = H5 at sT eT eG5 ⊢
      have keep : ∀ {p : Addr} {vs : List V}, H5 p = some (.tup vs) → upd H5 G (.lst (bs.map V.ref ++ [V.ref T])) p = some (.tup vs) := fun {p vs} e => by
        have : p ≠ G := fun z => by rw [z, eG5] at e; cases e
        rw [upd_ne this]
        exact e
      refine ⟨_, eG5, by rw [List.length_map, lb]; have := sizeLine_eq; omega, fun b u nb e => by rw [upd_ne nb]; exact sT _ _ (k4 b u nb e), bs ++ [T], by rw [upd_same, List.map_append]; rfl, by rw [List.length_append, lb]; rfl, ?_⟩
      rw [List.take_add_one, List.getElem?_eq_getElem hn]
      unfold skv
      rw [List.map_append]
      exact paired_snocF (Paired.mapP pr fun p kv e => keep (sT _ _ e)) (keep eT)
    rintro H4 ⟨k4, bs, eG, lb, pr⟩
    rw [List.length_map, List.take_of_length_le (Nat.le_refl _)] at pr
    refine ⟨G, bs, _, rfl, SqL.of eG, Paired.mapP pr fun p kv e => SqT.of e, fun q hq => ?_⟩
    rw [mergeK_nil (skv_nodup gd.1 (fun l h => (aL l h).1) nL)]
    have d4 : Dr a H3 H4 := by
      obtain ⟨u, v, e, hv⟩ := d3.fd
      refine ⟨⟨u, v, k4 _ _ (Ne.symm Ga) e, hv⟩, fun b u nb e => k4 _ _ (fun z => ?_) e⟩
      rw [z, hG] at e
      cases e
    have d14 := d13.trans d4
    refine k q _ (dr_free d14 hq) (dr_same d14 (same_new hq)) ⟨_, upd_same, fun l hl => ?_⟩
    by_cases m : l ∈ L
    · rw [skv_in gd.1 (fun l h => (aL l h).1) hl m]
      rfl
    · rw [skv_out gd.1 (fun l h => (aL l h).1) hl m, zL l hl (hz.mem_iff.mpr (nmOf_mem hl)) m]
      rfl
end
end R52
namespace R52
open PySem L2 L3 FT ND
open C8 (pss_cut tCut pe_gc)
abbrev sRowF : Stmt := top 59
abbrev sNamedF : Stmt := top 60
/-- the choices in which a world differs, with its options -/
def diffR (N : Nat) (o x : Nat → Nat) : List (Nat × Nat) := ((List.range N).filter fun l => decide (x l ≠ o l)).map fun l => (l, x l)
theorem diffR_succ {N : Nat} {o x : Nat → Nat} : diffR (N + 1) o x = diffR N o x ++ if x N = o N then [] else [(N, x N)] := by
  unfold diffR
  rw [List.range_succ, List.filter_append, List.map_append]
  congr 1
  by_cases h : x N = o N
  · rw [if_pos h, List.filter_cons, if_neg (by rw [decide_eq_false (fun z => z h)]; decide)]
    rfl
  · rw [if_neg h, List.filter_cons, if_pos (decide_eq_true h)]
    rfl
theorem diffR_len {N : Nat} {o x : Nat → Nat} : (diffR N o x).length ≤ N := by
  unfold diffR
  rw [List.length_map]
  exact Nat.le_trans (List.length_filter_le _ _) (Nat.le_of_eq List.length_range)
/-- a tuple of pairs -/
def PrAt (f : Nat → V) (H : Hp) (p : Addr) (D : List (Nat × Nat)) : Prop := ∃ bs : List Addr, H p = some (.tup (bs.map V.ref)) ∧ Paired (fun b (x : Nat × Nat) => H b = some (.tup [f x.1, .int ((x.2 : Nat) : Int)])) bs D
theorem PrAt.same {f : Nat → V} {H H' : Hp} {p : Addr} {D : List (Nat × Nat)} (s : Same H H') (h : PrAt f H p D) : PrAt f H' p D := by
  obtain ⟨bs, e, pr⟩ := h
  exact ⟨bs, s _ _ e, Paired.mapP pr fun _ _ e => s _ _ e⟩
abbrev numV (l : Nat) : V := .int ((l : Nat) : Int)
abbrev namV (ts : List Str) (l : Nat) : V := .str (nmOf ts l)
def spRowF : Sp := fun vs H Q _ => ∃ (R d e : Addr) (ts : List Str) (ss : List Nat) (o x : Nat → Nat), vs = [.ref R, .ref d, .ref e] ∧ RowsL H R ts ss ∧ ts.length = ss.length ∧ ss.length ≤ 40 ∧ GoodN ts ∧ WAt H d ts o ∧ WAt H e ts x ∧
  ∀ (p : Addr) (H' : Hp), H p = none → Same H H' → PrAt numV H' p (diffR ss.length o x) → Q (.ref p) H'
abbrev NRo : List Str := ["_law_rows", "_law_world_here", "_law_other", "_law_at_here", "_law_row_here"]
section
variable {P : Program} {w : World} {K : PySem.W.Frag} {mg : Str → Option Value} {base : Heap}
theorem scRoF : FnScope NRo ["_law_rows", "_law_world_here", "_law_other"] (defScope sRowF) := ⟨rfl, rfl, rfl, by decide +kernel, rfl, by decide +kernel, by decide +kernel⟩
theorem ok_rowF {f : Addr} {fd : FuncData} (F : Fun K "_law_row" "_law_row" sRowF f fd) (zTup : mg "tuple" = none) (zEnu : mg "enumerate" = none) :
    FnOk P w K mg base CX0 1 f fd ["_law_rows", "_law_world_here", "_law_other"] spRowF := by
  refine F.ok scRoF (fun vs H Q E h => ?_) (fun cdv A outer s H vs Q E hr h => ?_)
  · obtain ⟨R, d, e, ts, ss, o, x, rfl, _⟩ := h
    rfl
  · obtain ⟨R, d, e, ts, ss, o, x, rfl, hR, len, n40, gd, wd, we, k⟩ := h
    have nd := scRoF.nd
    have hu : _ + 1 < cLine := Nat.lt_of_le_of_lt (Nat.add_le_add_left (by decide : 1 ≤ 64) _) hr.units
    refine ⟨_, pss_one (ps_ret (pe_callTy call_tuple_of (by rfl) zTup PyProof.Rows.boot_tuple (pa_cons (pe_lc (own := [("_law_at_here", 3), ("_law_row_here", 4)]) (g := gTup K 2 (gCons (gName 3) (gCons (gName 4) gNil))) rfl nd (pi_enum (by rfl) zEnu (pa_cons (pv 0) pa_nil)) (blkOk_by (N := NRo) (sc := defScope sRowF) (by decide +kernel)) (fun _ _ _ _ _ => pg_tup (by rfl) (pgs_cons (pg_name (i := 3) nd rfl (.inl rfl)) (pgs_cons (pg_name (i := 4) nd rfl (.inl rfl)) pgs_nil)))
      (fun _ _ _ _ _ => pts_one (pt_cmpR op_ne (pe_dget hu (pv 2) (pe_ix (r := rIxT K) (by exact ix_tup) (pv 4) pe_int (fun _ _ => rfl)) (fun _ _ => rfl)) (pe_dget hu (pv 1) (pe_ix (r := rIxT K) (by exact ix_tup) (pv 4) pe_int (fun _ _ => rfl)) (fun _ _ => rfl)) (nomark _)))
      (fun _ _ _ _ _ => pe_tup (pa_cons (pv 3) (pa_cons (pe_dget hu (pv 2) (pe_ix (r := rIxT K) (by exact ix_tup) (pv 4) pe_int (fun _ _ => rfl)) (fun _ _ => rfl)) pa_nil)))) pa_nil))), ?_⟩
    obtain ⟨us, eR, lu, au⟩ := id hR
    refine ⟨_, rfl, R, _, rfl, SqL.of eR, fun G hG => ?_⟩
    have kp0 : ∀ {b : Addr} {u : HO}, H b = some u → b ≠ G := fun e z => by rw [z, hG] at e; cases e
    refine lc_it (walk_enum (K := K) (a := R) (xs := us.map V.ref)) (fun n H' => (∀ b u, b ≠ G → H b = some u → H' b = some u) ∧ ∃ bs : List Addr, H' G = some (.lst (bs.map V.ref)) ∧ Paired (fun b (x : Nat × Nat) => H' b = some (.tup [numV x.1, .int ((x.2 : Nat) : Int)])) bs (diffR n o x))
      ⟨fun b u nb e => by rw [upd_ne nb]; exact e, [], upd_same, .nil⟩ (fun n H' _ h => SqL.of (h.1 _ _ (kp0 eR) eR)) ?_ ?_
    · rintro n y H1 H1' hn ⟨k1, bs, eG, pr⟩ ⟨q, v1, v2, rfl, nq, rfl, hv1, hv2⟩
      rw [List.length_map] at hn
      cases hv1
      replace hv2 : (us.map V.ref)[n]? = some v2 := hv2
      rw [List.getElem?_map, List.getElem?_eq_getElem hn] at hv2
      cases hv2
      obtain ⟨t, m, et, em, eu⟩ := au n us[n] (List.getElem?_eq_getElem hn)
      have hl : n < ts.length := by omega
      have enm : nmOf ts n = t := by
        unfold nmOf
        rw [List.getD_eq_getElem?_getD, et]
        rfl
      have sq := same_new (o := HO.tup [V.int ((n : Nat) : Int), V.ref us[n]]) nq
      have eq : upd H1 q (.tup [V.int ((n : Nat) : Int), V.ref us[n]]) q = some (.tup [V.int ((n : Nat) : Int), V.ref us[n]]) := upd_same
      have k2 : ∀ b u, b ≠ G → H b = some u → upd H1 q (.tup [V.int ((n : Nat) : Int), V.ref us[n]]) b = some u := fun b u nb e => sq _ _ (k1 b u nb e)
      have eG2 := sq _ _ eG
      have pr2 := Paired.mapP pr fun b x e => sq _ _ e
      generalize upd H1 q (.tup [V.int ((n : Nat) : Int), V.ref us[n]]) = H2 at eq k2 eG2 pr2 ⊢
      have eu2 := k2 _ _ (kp0 eu) eu
      have wd2 : WAt H2 d ts o := k2 _ _ (kp0 wd) wd
      have we2 : WAt H2 e ts x := k2 _ _ (kp0 we) we
      have gx : some (V.int ((x n : Nat) : Int)) = valV (wkv (nmOf ts) ts.length x) (Sum.inr t : Key) := by rw [← enm]; exact (wkv_get gd.1 hl).symm
      have go : some (V.int ((o n : Nat) : Int)) = valV (wkv (nmOf ts) ts.length o) (Sum.inr t : Key) := by rw [← enm]; exact (wkv_get gd.1 hl).symm
      refine ⟨q, _, rfl, SqT.of eq, rfl, _, _, rfl, _, _, rfl, rfl, ?_⟩
      refine ⟨rfl, _, rfl, _, rfl, us[n], _, _, _, rfl, rfl, SqT.of eu2, rfl, e, .int ((x n : Nat) : Int), rfl, .inl ⟨_, Sum.inr t, .inl we2, rfl, gx⟩, _, rfl, _, rfl, us[n], _, _, _, rfl, rfl, SqT.of eu2, rfl, d, .int ((o n : Nat) : Int), rfl, .inl ⟨_, Sum.inr t, .inl wd2, rfl, go⟩, rfl, _, rfl, ?_⟩
      by_cases h : x n = o n
      · refine ifF (by rw [h, decide_eq_true rfl]; rfl) ⟨k2, bs, eG2, ?_⟩
        rw [diffR_succ, if_pos h, List.append_nil]
        exact pr2
      · refine ifT (by rw [decide_eq_false fun z => h (by have := V.int.inj z; omega)]; rfl) ?_
        refine ⟨_, rfl, _, rfl, _, rfl, us[n], _, _, _, rfl, rfl, SqT.of eu2, rfl, e, .int ((x n : Nat) : Int), rfl, .inl ⟨_, Sum.inr t, .inl we2, rfl, gx⟩, (show 2 ≤ sizeLine by decide), fun T hT => ?_⟩
        have sT := same_new (o := HO.tup [V.int ((n : Nat) : Int), V.int ((x n : Nat) : Int)]) hT
        have eT : upd H2 T (.tup [V.int ((n : Nat) : Int), V.int ((x n : Nat) : Int)]) T = some (.tup [V.int ((n : Nat) : Int), V.int ((x n : Nat) : Int)]) := upd_same
        have eG3 := sT _ _ eG2
        have k3 : ∀ b u, b ≠ G → H b = some u → upd H2 T (.tup [V.int ((n : Nat) : Int), V.int ((x n : Nat) : Int)]) b = some u := fun b u nb e => sT _ _ (k2 b u nb e)
        generalize upd H2 T (.tup [V.int ((n : Nat) : Int), V.int ((x n : Nat) : Int)]) = H3 at sT eT eG3 k3 ⊢
        have keep : ∀ {p : Addr} {vs : List V}, H3 p = some (.tup vs) → upd H3 G (.lst (bs.map V.ref ++ [V.ref T])) p = some (.tup vs) := fun {p vs} e => by
          have : p ≠ G := fun z => by rw [z, eG3] at e; cases e
          rw [upd_ne this]
          exact e
        have lb : bs.length ≤ n := by
          rw [Paired.length pr]
          exact diffR_len
        refine ⟨_, eG3, by rw [List.length_map]; have := sizeLine_eq; omega, fun b u nb e => by rw [upd_ne nb]; exact k3 b u nb e, bs ++ [T], by rw [upd_same, List.map_append]; rfl, ?_⟩
        rw [diffR_succ, if_neg h]
        exact paired_snocF (Paired.mapP pr2 fun b x e => keep (sT _ _ e)) (keep eT)
    rintro H1 ⟨k1, bs, eG, pr⟩
    rw [List.length_map, lu] at pr
    refine ⟨G, _, rfl, .inl ⟨SqL.of eG, fun p hp => ?_⟩⟩
    have sp := same_new (o := HO.tup (bs.map V.ref)) hp
    refine k p _ ?_ (fun b u e => sp _ _ (k1 b u (kp0 e) e)) ⟨bs, upd_same, Paired.mapP pr fun b x e => sp _ _ e⟩
    cases z : H p with
    | none => rfl
    | some u =>
      rw [k1 p u (kp0 z) z] at hp
      cases hp
theorem pgetF {α β : Type} {F : α → β → Prop} {l₁ : List α} {l₂ : List β} (h : Paired F l₁ l₂) : ∀ {j : Nat} {x : β}, l₂[j]? = some x → ∃ y, l₁[j]? = some y ∧ F y x := by
  induction h with
  | nil => exact fun e => by simp at e
  | cons h t ih =>
    intro j x e
    cases j with
    | zero =>
      cases e
      exact ⟨_, rfl, h⟩
    | succ j => exact ih e
def spNamedF : Sp := fun vs H Q _ => ∃ (R r : Addr) (ts : List Str) (ss : List Nat) (D : List (Nat × Nat)), vs = [.ref R, .ref r] ∧ RowsL H R ts ss ∧ ts.length = ss.length ∧ ss.length ≤ 40 ∧ GoodN ts ∧ PrAt numV H r D ∧ D.length ≤ 1000 ∧ (∀ x ∈ D, x.1 < ss.length) ∧
  ∀ (p : Addr) (H' : Hp), H p = none → Same H H' → PrAt (namV ts) H' p D → Q (.ref p) H'
abbrev NNa : List Str := ["_law_rows", "_law_row_here", "_law_at_here", "_law_option"]
theorem scNaF : FnScope NNa ["_law_rows", "_law_row_here"] (defScope sNamedF) := ⟨rfl, rfl, rfl, by decide +kernel, rfl, by decide +kernel, by decide +kernel⟩
theorem ok_namedF {f : Addr} {fd : FuncData} (F : Fun K "_law_named" "_law_named" sNamedF f fd) (zTup : mg "tuple" = none) :
    FnOk P w K mg base CX0 1 f fd ["_law_rows", "_law_row_here"] spNamedF := by
  refine F.ok scNaF (fun vs H Q E h => ?_) (fun cdv A outer s H vs Q E hr h => ?_)
  · obtain ⟨R, r, ts, ss, D, rfl, _⟩ := h
    rfl
  · obtain ⟨R, r, ts, ss, D, rfl, hR, len, n40, gd, hD, lD, bD, k⟩ := h
    have nd := scNaF.nd
    refine ⟨_, pss_one (ps_ret (pe_callTy call_tuple_of (by rfl) zTup PyProof.Rows.boot_tuple (pa_cons (pe_lc (own := [("_law_at_here", 2), ("_law_option", 3)]) (g := gTup K 2 (gCons (gName 2) (gCons (gName 3) gNil))) (tt := tYes) rfl nd (pi_tup (pv 1)) (blkOk_by (N := NNa) (sc := defScope sNamedF) (by decide +kernel)) (fun _ _ _ _ _ => pg_tup (by rfl) (pgs_cons (pg_name (i := 2) nd rfl (.inl rfl)) (pgs_cons (pg_name (i := 3) nd rfl (.inl rfl)) pgs_nil)))
      (fun _ _ _ _ _ => pts_nil)
      (fun _ _ _ _ _ => pe_tup (pa_cons (pe_ix (r := rIxT K) (by exact ix_tup) (pe_ix (r := rIxL K) (by exact ix_list) (pv 0) (pv 2) (fun _ _ => rfl)) pe_int (fun _ _ => rfl)) (pa_cons (pv 3) pa_nil)))) pa_nil))), ?_⟩
    obtain ⟨us, eR, lu, au⟩ := id hR
    obtain ⟨bs, er, pr⟩ := id hD
    refine ⟨_, rfl, r, rfl, ⟨_, SqT.of er⟩, fun G hG => ?_⟩
    have kp0 : ∀ {b : Addr} {u : HO}, H b = some u → b ≠ G := fun e z => by rw [z, hG] at e; cases e
    refine lc_it (walk_tup (K := K) (a := r) (xs := bs.map V.ref)) (fun n H' => (∀ b u, b ≠ G → H b = some u → H' b = some u) ∧ ∃ cs : List Addr, H' G = some (.lst (cs.map V.ref)) ∧ cs.length = n ∧ Paired (fun b (x : Nat × Nat) => H' b = some (.tup [namV ts x.1, .int ((x.2 : Nat) : Int)])) cs (D.take n))
      ⟨fun b u nb e => by rw [upd_ne nb]; exact e, [], upd_same, rfl, .nil⟩ (fun n H' _ h => SqT.of (h.1 _ _ (kp0 er) er)) ?_ ?_
    · rintro n y H1 H1' hn ⟨k1, cs, eG, lc, pc⟩ ⟨rfl, hy⟩
      rw [List.length_map] at hn
      replace hy : (bs.map V.ref)[n]? = some y := hy
      rw [List.getElem?_map, List.getElem?_eq_getElem hn] at hy
      cases hy
      have lbD := Paired.length pr
      have hnD : n < D.length := by omega
      have eb : H bs[n] = some (.tup [numV D[n].1, .int ((D[n].2 : Nat) : Int)]) := by
        obtain ⟨y, e1, e2⟩ := pgetF pr (List.getElem?_eq_getElem hnD)
        rw [List.getElem?_eq_getElem hn] at e1
        cases e1
        exact e2
      have hl := bD D[n] (List.getElem_mem hnD)
      have hu' : us[D[n].1]? = some us[D[n].1] := List.getElem?_eq_getElem (by omega)
      obtain ⟨t, m, et, em, eu⟩ := au _ _ hu'
      have enm : nmOf ts D[n].1 = t := by
        unfold nmOf
        rw [List.getD_eq_getElem?_getD, et]
        rfl
      refine ⟨bs[n], _, rfl, SqT.of (k1 _ _ (kp0 eb) eb), rfl, _, _, rfl, _, _, rfl, rfl, ?_⟩
      refine ⟨rfl, _, rfl, _, rfl, R, _, _, _, rfl, rfl, SqL.of (k1 _ _ (kp0 eR) eR), atI_nat (by rw [List.getElem?_map, hu']; rfl), us[D[n].1], _, _, _, rfl, rfl, SqT.of (k1 _ _ (kp0 eu) eu), rfl, _, rfl, (show 2 ≤ sizeLine by decide), fun T hT => ?_⟩
      have sT := same_new (o := HO.tup [V.str t, V.int ((D[n].2 : Nat) : Int)]) hT
      have eT : upd H1' T (.tup [V.str t, V.int ((D[n].2 : Nat) : Int)]) T = some (.tup [namV ts D[n].1, V.int ((D[n].2 : Nat) : Int)]) := by
        rw [upd_same]
        unfold namV
        rw [enm]
      have eG3 := sT _ _ eG
      have k3 : ∀ b u, b ≠ G → H b = some u → upd H1' T (.tup [V.str t, V.int ((D[n].2 : Nat) : Int)]) b = some u := fun b u nb e => sT _ _ (k1 b u nb e)
      show ∃ acc, (upd H1' T (.tup [V.str t, V.int ((D[n].2 : Nat) : Int)])) G = some (.lst acc) ∧ _
      generalize upd H1' T (.tup [V.str t, V.int ((D[n].2 : Nat) : Int)]) = H3 at sT eT eG3 k3 ⊢
      have keep : ∀ {p : Addr} {vs : List V}, H3 p = some (.tup vs) → upd H3 G (.lst (cs.map V.ref ++ [V.ref T])) p = some (.tup vs) := fun {p vs} e => by
        have : p ≠ G := fun z => by rw [z, eG3] at e; cases e
        rw [upd_ne this]
        exact e
      refine ⟨_, eG3, by rw [List.length_map, lc]; have := sizeLine_eq; omega, fun b u nb e => by rw [upd_ne nb]; exact k3 b u nb e, cs ++ [T], by rw [upd_same, List.map_append]; rfl, by rw [List.length_append, lc]; rfl, ?_⟩
      rw [List.take_add_one, List.getElem?_eq_getElem hnD]
      exact paired_snocF (Paired.mapP pc fun b x e => keep (sT _ _ e)) (keep eT)
    rintro H1 ⟨k1, cs, eG, lc, pc⟩
    rw [List.length_map, Paired.length pr, List.take_of_length_le (Nat.le_refl _)] at pc
    refine ⟨G, _, rfl, .inl ⟨SqL.of eG, fun p hp => ?_⟩⟩
    have sp := same_new (o := HO.tup (cs.map V.ref)) hp
    refine k p _ ?_ (fun b u e => sp _ _ (k1 b u (kp0 e) e)) ⟨cs, upd_same, Paired.mapP pc fun b x e => sp _ _ e⟩
    cases z : H p with
    | none => rfl
    | some u =>
      rw [k1 p u (kp0 z) z] at hp
      cases hp
end
end R52
namespace R52
open PySem L2 L3 FT ND
open C8 (pss_cut tCut pe_gc)
abbrev sWorldsF : Stmt := top 56
def wstF (ws : List (List Nat)) (m : Nat) : List (List Nat) := ws.flatMap fun x => (List.range m).map fun k => x ++ [k]
def wlF (ss : List Nat) : List (List Nat) := ss.foldl wstF [[]]
theorem wlF_snoc (ss : List Nat) (m : Nat) : wlF (ss ++ [m]) = wstF (wlF ss) m := by
  unfold wlF
  rw [List.foldl_append]
  rfl
abbrev wof (x : List Nat) (l : Nat) : Nat := x.getD l 0
theorem snoc_ind {α : Type} {P : List α → Prop} (h0 : P []) (h1 : ∀ l a, P l → P (l ++ [a])) (l : List α) : P l := by
  have h : ∀ l : List α, P l.reverse := fun l => by
    induction l with
    | nil => exact h0
    | cons a l ih => rw [List.reverse_cons]; exact h1 _ _ ih
  rw [← List.reverse_reverse l]
  exact h _
theorem paired_appF {α β : Type} {F : α → β → Prop} {xs : List α} {ys : List β} {us : List α} {vs : List β} (h : Paired F xs ys) (k : Paired F us vs) : Paired F (xs ++ us) (ys ++ vs) := by
  induction h with
  | nil => exact k
  | cons a _ ih => exact .cons a ih
theorem wstF_len (ws : List (List Nat)) (m : Nat) : (wstF ws m).length = ws.length * m := by
  unfold wstF
  induction ws with
  | nil => simp
  | cons x ws ih => rw [List.flatMap_cons, List.length_append, ih, List.length_map, List.length_range, List.length_cons, Nat.add_mul, Nat.one_mul, Nat.add_comm]
theorem wlF_le (ss : List Nat) : (∀ m ∈ ss, m ≤ 4) → (wlF ss).length ≤ 4 ^ ss.length := by
  refine snoc_ind (P := fun ss => (∀ m ∈ ss, m ≤ 4) → (wlF ss).length ≤ 4 ^ ss.length) (fun _ => Nat.le_refl 1) (fun ss m ih h => ?_) ss
  rw [wlF_snoc, wstF_len, List.length_append, List.length_singleton, Nat.pow_succ]
  exact Nat.mul_le_mul (ih fun x hx => h x (List.mem_append_left _ hx)) (h m (List.mem_append_right _ (List.mem_singleton.mpr rfl)))
theorem wstF_take {ws : List (List Nat)} {m i : Nat} {x : List Nat} (h : ws[i]? = some x) : wstF (ws.take (i + 1)) m = wstF (ws.take i) m ++ (List.range m).map fun k => x ++ [k] := by
  unfold wstF
  rw [List.take_add_one, h, List.flatMap_append]
  congr 1
  show List.flatMap _ [x] = _
  rw [List.flatMap_cons, List.flatMap_nil, List.append_nil]
theorem wlF_lens (ss : List Nat) : ∀ {x : List Nat}, x ∈ wlF ss → x.length = ss.length := by
  refine snoc_ind (P := fun ss => ∀ {x : List Nat}, x ∈ wlF ss → x.length = ss.length) (fun {x} h => by rw [List.mem_singleton.mp (show x ∈ [[]] from h)]) (fun ss m ih x h => ?_) ss
  rw [wlF_snoc] at h
  obtain ⟨y, hy, h⟩ := List.mem_flatMap.mp h
  obtain ⟨k, _, rfl⟩ := List.mem_map.mp h
  rw [List.length_append, List.length_append, ih hy]
  rfl
theorem cut_last (xs : List V) (x : V) : cutV (xs ++ [x]) none (some (-1)) = xs := by
  unfold cutV
  rw [HT.sIx_none, List.drop_zero, Nat.sub_zero]
  have e : HT.sIx (xs ++ [x]).length (xs ++ [x]).length (some (-1)) = xs.length := by
    show (if (-1 : Int) < 0 then ((-1 : Int) + ((xs ++ [x]).length : Int)).toNat else min (-1 : Int).toNat (xs ++ [x]).length) = xs.length
    rw [if_pos (by decide), List.length_append, List.length_singleton]
    omega
  rw [e, List.take_left' rfl]
theorem nm_left {ts : List Str} {t : Str} {l : Nat} (h : l < ts.length) : nmOf (ts ++ [t]) l = nmOf ts l := by
  unfold nmOf
  rw [List.getD_eq_getElem?_getD, List.getD_eq_getElem?_getD, List.getElem?_append_left h]
theorem nm_last {ts : List Str} {t : Str} : nmOf (ts ++ [t]) ts.length = t := by
  unfold nmOf
  rw [List.getD_eq_getElem?_getD, List.getElem?_append_right (Nat.le_refl _), Nat.sub_self]
  rfl
theorem wkv_step {ts : List Str} {t : Str} {x : List Nat} {k : Nat} (h : x.length = ts.length) : wkv (nmOf ts) ts.length (wof x) ++ [((Sum.inr t : Key), V.int ((k : Nat) : Int))] = wkv (nmOf (ts ++ [t])) (ts ++ [t]).length (wof (x ++ [k])) := by
  rw [List.length_append, List.length_singleton, wkv_snoc, nm_last]
  have e1 : wof (x ++ [k]) ts.length = k := by
    unfold wof
    rw [List.getD_eq_getElem?_getD, List.getElem?_append_right (by omega), h, Nat.sub_self]
    rfl
  rw [e1]
  congr 1
  unfold wkv
  refine List.map_congr_left fun l hl => ?_
  have hl := List.mem_range.mp hl
  rw [nm_left hl]
  congr 3
  unfold wof
  rw [List.getD_eq_getElem?_getD, List.getD_eq_getElem?_getD, List.getElem?_append_left (by omega)]
abbrev NWs : List Str := ["_law_rows", "_law_name", "_law_many", "_law_found", "_law_one", "_law_option"]
section
variable {P : Program} {w : World} {K : PySem.W.Frag} {mg : Str → Option Value} {base : Heap}
theorem scWsF : FnScope NWs ["_law_rows"] (defScope sWorldsF) := ⟨rfl, rfl, rfl, by decide +kernel, rfl, by decide +kernel, by decide +kernel⟩
def rDictP (K : PySem.W.Frag) : List V → Hp → VK → Prop := fun xs H Q => ∃ (a : Addr) (ps : List Addr) (kvs : List (Key × V)), xs = [.ref a] ∧ SqL K H a (ps.map V.ref) ∧ Paired (fun p kv => SqT K H p [kV kv.1, kv.2]) ps kvs ∧ ∀ p, H p = none → Q (.ref p) (upd H p (.dK (mergeK [] kvs)))
theorem call_dictPK {X : Cx} (hc : X.calm = true) : CallR X (.type "dict") (rDictP X.K) := call_dictP hc
def spWorldsF (n : Nat) : Sp := fun vs H Q _ => ∃ (R : Addr) (ts : List Str) (ss : List Nat), vs = [.ref R] ∧ RowsL H R ts ss ∧ ts.length = ss.length ∧ ss.length = n ∧ GoodN ts ∧ (∀ m ∈ ss, 2 ≤ m ∧ m ≤ 4) ∧
  ∀ (p : Addr) (bs : List Addr) (H' : Hp), H p = none → Same H H' → H' p = some (.lst (bs.map V.ref)) → Paired (fun b x => WAt H' b ts (wof x)) bs (wlF ss) → Q (.ref p) H'
theorem ok_worldsF {f : Addr} {fd : FuncData} (F : Fun K "_law_worlds" "_law_worlds" sWorldsF f fd) (bF : Binds K fd ["_law_rows"] []) (gF : mg "_law_worlds" = some (.ref f)) (zRng : mg "range" = none) (zDict : mg "dict" = none) (zList : mg "list" = none) :
    ∀ n, n ≤ 6 → FnOk P w K mg base CX0 (1 + n) f fd ["_law_rows"] (spWorldsF n)
  | 0, _ => by
    refine F.ok scWsF (fun vs H Q E h => ?_) (fun cdv A outer s H vs Q E hr h => ?_)
    · obtain ⟨R, ts, ss, rfl, _⟩ := h
      rfl
    · obtain ⟨R, ts, ss, rfl, hR, len, n0, gd, sz, k⟩ := h
      have nd := scWsF.nd
      refine ⟨_, pss_cons (ps_if (pt_cmpR (op_eqD hr.units) (pv 0) (pe_lst pa_nil) (nomark _)) (pss_one (ps_ret (pe_lst (pa_cons pe_dnewK pa_nil)))) pss_nil) pss_dead, ?_⟩
      refine ⟨_, rfl, (show 0 ≤ sizeLine by decide), fun z hz => ?_⟩
      have s1 := same_new (o := HO.lst []) hz
      have ez : upd H z (.lst []) z = some (.lst []) := upd_same
      have hR1 := hR.same s1
      show (rEqD K _ _ (upd H z (.lst [])) _)
      generalize upd H z (.lst []) = H1 at s1 ez hR1 ⊢
      obtain ⟨us, ds, eR, lu, k1, k2, k3, k4⟩ := rows_dp (K := K) gd hR1
      have eus : us = [] := List.length_eq_zero_iff.mp (lu.trans n0)
      have nds : ds = [] := k4.mp eus
      refine ⟨.list ds, .list [], .lst (SqL.of eR) k1, .lst (SqL.of ez) .nil, list_shaped k2 k3, by decide +kernel, _, rfl, ?_⟩
      rw [eqv_nil, decide_eq_true nds]
      refine ifT rfl ?_
      have e0 : ss = [] := List.length_eq_zero_iff.mp n0
      have e1 : ts = [] := List.length_eq_zero_iff.mp (len.trans n0)
      subst e0 e1
      refine fun d hd => ⟨(show 1 ≤ sizeLine by decide), fun p hp => ?_⟩
      have s2 := same_new (o := HO.dK []) hd
      have s3 := same_new (o := HO.lst [V.ref d]) hp
      refine k p [d] _ (s1.free (s2.free hp)) (s1.trans (s2.trans s3)) upd_same (.cons (s3 _ _ upd_same) .nil)
  | n + 1, hn => by
    have G0 := ok_worldsF F bF gF zRng zDict zList n (by omega)
    refine F.ok scWsF (fun vs H Q E h => ?_) (fun cdv A outer s H vs Q E hr h => ?_)
    · obtain ⟨R, ts, ss, rfl, _⟩ := h
      rfl
    · obtain ⟨R, ts, ss, rfl, hR, len, n1, gd, sz, k⟩ := h
      have nd := scWsF.nd
      have hr' : Room (1 + n) _ := hr
      refine ⟨_, pss_cons (ps_if (pt_cmpR (op_eqD hr.units) (pv 0) (pe_lst pa_nil) (nomark _)) (pss_one (ps_ret pe_dead)) pss_nil)
        (pss_cons (ps_asg (pe_tup (pa_cons (pe_ix (r := rIxL K) (by exact ix_list) (pv 0) (pe_un un_neg pe_int) (fun _ _ => rfl)) (pa_cons (pe_lst pa_nil) pa_nil))) (pg_tup (by rfl) (pgs_cons (pg_tup (by rfl) (pgs_cons (pg_name (i := 1) nd rfl (.inr rfl)) (pgs_cons (pg_name (i := 2) nd rfl (.inl rfl)) pgs_nil))) (pgs_cons (pg_name (i := 3) nd rfl (.inl rfl)) pgs_nil))))
        (pss_cons (ps_for PassesOwn.never rfl (pi_list (pe_call G0 (hr'.mono (by omega)) (by rfl) gF F.kp bF .nil pass0 (pa_cons (pe_slice (r := rSlL K) (by exact sl_list) (pv 0) po_none (po_some (pe_un un_neg pe_int))) pa_nil))) (pg_name (i := 4) nd rfl (.inr rfl))
          (pss_one (ps_expr (pe_bm PySem.F.plainAttrs_list PySem.F.slot_list_extend PySem.F.type_list_extend mt_extend (pv 3) (pa_cons (pe_lc (own := [("_law_option", 5)]) (g := gName 5) (tt := tYes) rfl nd (pi_range1 (by rfl) zRng (pa_cons (pv 2) pa_nil)) (blkOk_by (N := NWs) (sc := defScope sWorldsF) (by decide +kernel)) (fun _ _ _ _ _ => pg_name (i := 5) nd rfl (.inl rfl)) (fun _ _ _ _ _ => pts_nil)
            (fun _ _ _ _ _ => pe_callTy (r := rDictP K) (by exact call_dictPK rfl) (by rfl) zDict PyProof.Rows.boot_dict (pa_cons (pe_op op_cat (LiI.pe_listItems rfl (pv 4) (by rfl) zList PyProof.Rows.boot_list) (pe_lst (pa_cons (pe_tup (pa_cons (pv 1) (pa_cons (pv 5) pa_nil))) pa_nil))) pa_nil))) pa_nil)))))
        (pss_one (ps_ret (pv 3))))), ?_⟩
      refine ⟨_, rfl, (show 0 ≤ sizeLine by decide), fun z hz => ?_⟩
      have s1 := same_new (o := HO.lst []) hz
      have ez : upd H z (.lst []) z = some (.lst []) := upd_same
      have hR1 := hR.same s1
      show (rEqD K _ _ (upd H z (.lst [])) _)
      generalize upd H z (.lst []) = H1 at s1 ez hR1 ⊢
      obtain ⟨vs, ds, eR, lu, k1, k2, k3, k4⟩ := rows_dp (K := K) gd hR1
      have nds : ds ≠ [] := fun e => by
        rw [k4.mpr e] at lu
        rw [n1] at lu
        exact nomatch lu
      refine ⟨.list ds, .list [], .lst (SqL.of eR) k1, .lst (SqL.of ez) .nil, list_shaped k2 k3, by decide +kernel, _, rfl, ?_⟩
      rw [eqv_nil, decide_eq_false nds]
      refine ifF rfl ?_
      clear k1 k2 k3 k4 nds eR lu
      obtain ⟨us, eR, lu, au⟩ := hR1
      obtain ⟨ss0, m, rfl⟩ : ∃ ss0 m, ss = ss0 ++ [m] := ⟨ss.dropLast, ss.getLast (fun e => by rw [e] at n1; cases n1), (List.dropLast_concat_getLast _).symm⟩
      obtain ⟨ts0, t, rfl⟩ : ∃ ts0 t, ts = ts0 ++ [t] := ⟨ts.dropLast, ts.getLast (fun e => by rw [e, n1] at len; cases len), (List.dropLast_concat_getLast _).symm⟩
      obtain ⟨us0, ul, rfl⟩ : ∃ us0 ul, us = us0 ++ [ul] := ⟨us.dropLast, us.getLast (fun e => by rw [e, n1] at lu; cases lu), (List.dropLast_concat_getLast _).symm⟩
      simp only [List.length_append, List.length_singleton] at len n1 lu
      have lt0 : ts0.length = ss0.length := by omega
      obtain ⟨t', m', et, em, eul⟩ := au us0.length ul (by rw [List.getElem?_append_right (Nat.le_refl _), Nat.sub_self]; rfl)
      rw [List.getElem?_append_right (by omega), show us0.length - ts0.length = 0 by omega] at et
      rw [List.getElem?_append_right (by omega), show us0.length - ss0.length = 0 by omega] at em
      cases et
      cases em
      have mm := sz m (List.mem_append_right _ (List.mem_singleton.mpr rfl))
      have last : atI ((us0 ++ [ul]).map V.ref) (-1) = some (.ref ul) := by
        rw [List.map_append]
        exact atI_lastR _ _
      refine ⟨_, rfl, _, rfl, R, _, _, _, rfl, rfl, SqL.of eR, last, (show 0 ≤ sizeLine by decide), fun G hG => ⟨(show 2 ≤ sizeLine by decide), fun T hT => ?_⟩⟩
      have s2 := same_new (o := HO.lst []) hG
      have eG : upd H1 G (.lst []) G = some (.lst []) := upd_same
      have HG : H G = none := s1.free hG
      have HT := same_new (o := HO.tup [V.ref ul, V.ref G]) hT
      have eT : upd (upd H1 G (.lst [])) T (.tup [V.ref ul, V.ref G]) T = some (.tup [V.ref ul, V.ref G]) := upd_same
      have eG2 := HT _ _ eG
      have s3 : Same H1 (upd (upd H1 G (.lst [])) T (.tup [V.ref ul, V.ref G])) := s2.trans HT
      generalize upd (upd H1 G (.lst [])) T (.tup [V.ref ul, V.ref G]) = H2 at eT eG2 s3 ⊢
      refine ⟨T, _, rfl, SqT.of eT, rfl, _, _, rfl, ul, _, rfl, SqT.of (s3 _ _ eul), rfl, _, _, rfl, _, _, rfl, rfl, _, _, rfl, rfl, ?_⟩
      refine ⟨_, rfl, _, rfl, _, rfl, R, _, rfl, SqL.of (s3 _ _ eR), fun R2 hR2 => ?_⟩
      have e0 : (us0 ++ [ul]).map V.ref = us0.map V.ref ++ [V.ref ul] := by rw [List.map_append]; rfl
      rw [e0, cut_last]
      have s4 := same_new (o := HO.lst (us0.map V.ref)) hR2
      have eR4 : upd H2 R2 (.lst (us0.map V.ref)) R2 = some (.lst (us0.map V.ref)) := upd_same
      have s34 := s3.trans s4
      have eG4 := s4 _ _ eG2
      generalize upd H2 R2 (.lst (us0.map V.ref)) = H4 at s4 eR4 s34 eG4 ⊢
      have hR4 : RowsL H4 R2 ts0 ss0 := by
        refine ⟨us0, eR4, by omega, fun j u hj => ?_⟩
        have lj := (List.getElem?_eq_some_iff.mp hj).1
        obtain ⟨t', m', e1, e2, e3⟩ := au j u (by rw [List.getElem?_append_left lj]; exact hj)
        rw [List.getElem?_append_left (by omega)] at e1 e2
        exact ⟨t', m', e1, e2, s34 _ _ e3⟩
      have gd0 : GoodN ts0 := ⟨(List.nodup_append.mp gd.1).1, fun t ht => gd.2 t (List.mem_append_left _ ht)⟩
      have sz0 : ∀ m ∈ ss0, 2 ≤ m ∧ m ≤ 4 := fun m hm => sz m (List.mem_append_left _ hm)
      refine ⟨R2, ts0, ss0, rfl, hR4, lt0, by omega, gd0, sz0, fun p bs H5 hp s5 ep pr => ⟨p, rfl, ⟨_, SqL.of ep⟩, ?_⟩⟩
      have s15 : Same H H5 := s1.trans (s34.trans s5)
      have kG : ∀ {b : Addr} {u : HO}, H b = some u → b ≠ G := fun e z => by rw [z, HG] at e; cases e
      have eG5 := s5 _ _ eG4
      have pG : p ≠ G := fun z => by rw [z, eG4] at hp; cases hp
      have few : (wlF ss0).length ≤ 1024 := Nat.le_trans (wlF_le ss0 fun m hm => (sz0 m hm).2) (Nat.pow_le_pow_right (by decide) (show ss0.length ≤ 5 by omega))
      refine for_it (walk_list (K := K) (a := p) (xs := bs.map V.ref)) (fun i σ H' => ∃ (cs : List Addr) (o4 : Option V), σ = [some (.ref R), some (.str t), some (.int ((m : Nat) : Int)), some (.ref G), o4, none] ∧ (∀ b u, b ≠ G → H5 b = some u → H' b = some u) ∧ H' G = some (.lst (cs.map V.ref)) ∧ Paired (fun b x => WAt H' b (ts0 ++ [t]) (wof x)) cs (wstF ((wlF ss0).take i) m))
        ⟨[], none, rfl, fun _ _ _ e => e, eG5, .nil⟩ (fun i σ H' _ ⟨_, _, _, k', _, _⟩ => SqL.of (k' _ _ pG ep)) ?_ ?_
      · rintro i y σ H6 H6' hi ⟨cs, o4, rfl, k6, eG6, pc⟩ ⟨rfl, hy⟩
        rw [List.length_map] at hi
        replace hy : (bs.map V.ref)[i]? = some y := hy
        rw [List.getElem?_map, List.getElem?_eq_getElem hi] at hy
        cases hy
        have lb := Paired.length pr
        have hx : (wlF ss0)[i]? = some (wlF ss0)[i] := List.getElem?_eq_getElem (by omega)
        obtain ⟨b', e1, wb⟩ := pgetF pr hx
        rw [List.getElem?_eq_getElem hi] at e1
        cases e1
        have mx := List.getElem_mem (show i < (wlF ss0).length by omega)
        generalize (wlF ss0)[i] = x at hx wb mx
        have lx := wlF_lens ss0 mx
        have bG : bs[i] ≠ G := fun z => by
          have w5 : H5 bs[i] = _ := wb
          rw [z, eG5] at w5
          cases w5
        generalize bs[i] = b at wb bG
        have wb6 : WAt H6' b ts0 (wof x) := k6 _ _ bG wb
        have lc : cs.length ≤ 4096 := by
          rw [Paired.length pc, wstF_len, List.length_take]
          exact Nat.le_trans (Nat.mul_le_mul (Nat.min_le_right _ _) mm.2) (by omega)
        refine ⟨_, rfl, .inl ⟨rfl, _, SqL.of eG6⟩, _, rfl, ((m : Nat) : Int), rfl, by omega, by omega, fun D hD => ?_⟩
        have DG : D ≠ G := fun z => by rw [z, eG6] at hD; cases hD
        refine lc_range (lo := 0) (n := ((m : Nat) : Int).toNat) (fun j H' => (∀ b u, b ≠ D → H6' b = some u → H' b = some u) ∧ ∃ ws : List Addr, H' D = some (.lst (ws.map V.ref)) ∧ ws.length = j ∧ Paired (fun b x => WAt H' b (ts0 ++ [t]) (wof x)) ws ((List.range j).map fun k => x ++ [k]))
          ⟨fun b u nb e => by rw [upd_ne nb]; exact e, [], upd_same, rfl, .nil⟩ ?_ ?_
        · rintro j H7 hj ⟨k7, ws, eD, lw, pw⟩
          have bD : b ≠ D := fun z => by
            have w6 : H6' b = _ := wb6
            rw [z, hD] at w6
            cases w6
          have wb7 : WAt H7 b ts0 (wof x) := k7 _ _ bD wb6
          refine ⟨rfl, _, rfl, b, _, rfl, wb7, fun H8 q as s8 hq has qas eq pa => ?_⟩
          refine ⟨_, rfl, _, rfl, (show 2 ≤ sizeLine by decide), fun T2 hT2 => ⟨(show 1 ≤ sizeLine by decide), fun L hL => ?_⟩⟩
          have e0j : (0 : Int) + ((j : Nat) : Int) = ((j : Nat) : Int) := Int.zero_add _
          rw [e0j] at hL ⊢
          have s9 := same_new (o := HO.tup [V.str t, V.int ((j : Nat) : Int)]) hT2
          have s10 := same_new (o := HO.lst [V.ref T2]) hL
          have eT2 : upd (upd H8 T2 (.tup [V.str t, V.int ((j : Nat) : Int)])) L (.lst [V.ref T2]) T2 = some (.tup [V.str t, V.int ((j : Nat) : Int)]) := s10 _ _ upd_same
          have eL : upd (upd H8 T2 (.tup [V.str t, V.int ((j : Nat) : Int)])) L (.lst [V.ref T2]) L = some (.lst [V.ref T2]) := upd_same
          have s810 : Same H8 (upd (upd H8 T2 (.tup [V.str t, V.int ((j : Nat) : Int)])) L (.lst [V.ref T2])) := s9.trans s10
          generalize upd (upd H8 T2 (.tup [V.str t, V.int ((j : Nat) : Int)])) L (.lst [V.ref T2]) = H10 at eT2 eL s810 ⊢
          have las : as.length = ts0.length := by
            rw [Paired.length pa]
            unfold wkv
            rw [List.length_map, List.length_range]
          refine ⟨q, L, _, _, rfl, rfl, s810 _ _ eq, eL, ?_, fun Z hZ => ?_⟩
          · rw [List.length_map, las]
            have := sizeLine_eq
            simp only [List.length_cons, List.length_nil]
            omega
          have s11 := same_new (o := HO.lst (as.map V.ref ++ [V.ref T2])) hZ
          have eZ : upd H10 Z (.lst (as.map V.ref ++ [V.ref T2])) Z = some (.lst ((as ++ [T2]).map V.ref)) := by rw [upd_same, List.map_append]; rfl
          refine ⟨Z, as ++ [T2], _, rfl, SqL.of eZ, paired_snocF (y := ((Sum.inr t : Key), V.int ((j : Nat) : Int))) (Paired.mapP pa fun b x e => SqT.of (s11 _ _ (s810 _ _ e))) (SqT.of (s11 _ _ eT2)), fun d hd => ?_⟩
          rw [wkv_step (lx.trans lt0.symm), mergeK_nil (wkv_nodup gd.1)]
          have s12 := same_new (o := HO.dK (wkv (nmOf (ts0 ++ [t])) (ts0 ++ [t]).length (wof (x ++ [j])))) hd
          have wd : WAt (upd (upd H10 Z (.lst (as.map V.ref ++ [V.ref T2]))) d (.dK (wkv (nmOf (ts0 ++ [t])) (ts0 ++ [t]).length (wof (x ++ [j]))))) d (ts0 ++ [t]) (wof (x ++ [j])) := upd_same
          have s712 : Same H7 (upd (upd H10 Z (.lst (as.map V.ref ++ [V.ref T2]))) d (.dK (wkv (nmOf (ts0 ++ [t])) (ts0 ++ [t]).length (wof (x ++ [j]))))) := (show Same H7 H8 from s8).trans (s810.trans (s11.trans s12))
          generalize upd (upd H10 Z (.lst (as.map V.ref ++ [V.ref T2]))) d (.dK (wkv (nmOf (ts0 ++ [t])) (ts0 ++ [t]).length (wof (x ++ [j])))) = H12 at wd s712 ⊢
          have eD12 := s712 _ _ eD
          have keep : ∀ {b : Addr} {o : Nat → Nat}, WAt H12 b (ts0 ++ [t]) o → WAt (upd H12 D (.lst (ws.map V.ref ++ [V.ref d]))) b (ts0 ++ [t]) o := fun {b o} e => by
            have e' : H12 b = _ := e
            have : b ≠ D := fun z => by rw [z, eD12] at e'; cases e'
            show upd H12 D _ b = _
            rw [upd_ne this]
            exact e
          refine ⟨_, eD12, by rw [List.length_map, lw]; have := sizeLine_eq; omega, fun b u nb e => by rw [upd_ne nb]; exact s712 _ _ (k7 b u nb e), ws ++ [d], by rw [upd_same, List.map_append]; rfl, by rw [List.length_append, lw]; rfl, ?_⟩
          rw [List.range_succ, List.map_append]
          exact paired_snocF (Paired.mapP pw fun b x e => keep (s712 _ _ e)) (keep wd)
        rintro H7 ⟨k7, ws, eD, lw, pw⟩
        have eG7 := k7 _ _ (Ne.symm DG) eG6
        have lw4 : ws.length ≤ 4 := by omega
        refine ⟨G, D, _, _, rfl, rfl, eG7, eD, ?_, ?_⟩
        · rw [List.length_map, List.length_map]
          have := sizeLine_eq
          omega
        have keep : ∀ {b : Addr} {o : Nat → Nat}, WAt H7 b (ts0 ++ [t]) o → WAt (upd H7 G (.lst (cs.map V.ref ++ ws.map V.ref))) b (ts0 ++ [t]) o := fun {b o} e => by
          have e' : H7 b = _ := e
          have : b ≠ G := fun z => by rw [z, eG7] at e'; cases e'
          show upd H7 G _ b = _
          rw [upd_ne this]
          exact e
        have nD : ∀ {b : Addr} {u : HO}, H6' b = some u → b ≠ D := fun e z => by rw [z, hD] at e; cases e
        refine ⟨cs ++ ws, _, rfl, fun b u nb e => by rw [upd_ne nb]; exact k7 _ _ (nD (k6 b u nb e)) (k6 b u nb e), by rw [upd_same, List.map_append], ?_⟩
        rw [wstF_take hx]
        refine paired_appF (Paired.mapP pc fun b x e => keep (k7 _ _ (nD e) e)) ?_
        have em : ((m : Nat) : Int).toNat = m := by omega
        rw [em] at pw
        exact Paired.mapP pw fun b x e => keep e
      rintro σ H6 ⟨cs, o4, rfl, k6, eG6, pc⟩
      rw [List.length_map, Paired.length pr, List.take_of_length_le (Nat.le_refl _), ← wlF_snoc] at pc
      refine ⟨_, rfl, k G cs H6 HG (fun b u e => k6 _ _ (kG e) (s15 _ _ e)) eG6 pc⟩
end
end R52
namespace R52
open PySem L2 L3 FT ND
open C8 (pss_cut tCut pe_gc)
section
variable {P : Program} {w : World} {K : PySem.W.Frag} {mg : Str → Option Value} {base : Heap} {CC C : Addr} {nm : Nat → Str} {N : Nat}
def spBranchL (CC C : Addr) (nm : Nat → Str) (N : Nat) : Sp := fun vs H Q _ => ∃ (c : Addr) (es : List (Row × Addr)) (nx : Int) (l M : Nat) (ks : Nat → Nat) (s : Addr) (xs : List V), vs = [.ref c, .str (nm l), .ref s] ∧ ChAt CC H c es nx ∧ ChIs N ks nm es ∧ Sce N M ks nm ∧ l < N ∧
  H s = some (.lst xs) ∧ xs.length = ks l ∧ (∀ x ∈ xs, Vl x) ∧ ∀ (H' : Hp) (r : V), Same H H' → FormT C nm N (FDt (red N (.node l (xs.map Tr.leaf)))) H' r → Q r H'
theorem ok_branchL {f fN fF fH fL fD : Addr} {fd fdN fdF fdH fdL fdD : FuncData} (F : Fun K "branched" "branched" sBranch f fd) (T : KitT K) (UN : Use P w K mg base "kind_of" 1 fN fdN ["value"] (spKind K)) (KF : FormK P w K mg base C fF fdF) (O : Own2 P w K mg base CC fH fL fdH fdL)
    (UD : Use P w K mg base "drawn" 6 fD fdD ["form"] (spDrawn C nm N)) (cC : Cls K CC) (nN : NoAttr K CC "names") (zLen : mg "len" = none) (zTup : mg "tuple" = none) (zRng : mg "range" = none) :
    FnOk P w K mg base CX0 7 f fd ["choices", "name", "values"] (spBranchL CC C nm N) := by
  refine F.ok scBr (fun vs H Q E h => ?_) (fun cdv A outer s H vs Q E hr h => ?_)
  · obtain ⟨c, es, nx, l, M, ks, s, xs, rfl, _⟩ := h
    rfl
  · obtain ⟨c, es, nx, l, M, ks, a, xs, rfl, hc, ci, S, hl, ha, lx, vx, k⟩ := h
    have nd := scBr.nd
    refine ⟨_, pss_cons (ps_setLc (i := 3) (own := [("value", 6)]) (g := gName 6) (tt := tYes) rfl nd rfl rfl (sw_true rfl rfl rfl (by decide +kernel)) (pi_list (pv 2)) (blkOk_by (N := NBr) (sc := defScope sBranch) (by decide +kernel)) (fun _ _ _ _ _ => pg_name (i := 6) nd rfl (.inl rfl)) (fun _ _ _ _ _ => pts_nil)
        (fun _ _ _ _ _ => pe_tup (pa_cons (pe_call UN.G (hr.mono (by omega)) (by rfl) UN.g UN.kp UN.b .nil pass0 (pa_cons (pv 6) pa_nil)) (pa_cons (pv 6) pa_nil))))
      (pss_cons (ps_setLc (i := 4) (own := [("_", 7)]) (g := gName 7) (tt := tYes) rfl nd rfl rfl (sw_true rfl rfl rfl (by decide +kernel)) (pi_list (pv 3)) (blkOk_by (N := NBr) (sc := defScope sBranch) (by decide +kernel)) (fun _ _ _ _ _ => pg_name (i := 7) nd rfl (.inl rfl)) (fun _ _ _ _ _ => pts_nil)
        (fun _ _ _ _ _ => pe_callB (call_lenOwn O.GL (hr.mono (by omega)) O.bL pass0 O.sL O.fL) (by rfl) zLen PySem.boot_len (pa_cons (pv 0) pa_nil)))
      (pss_cons (ps_set (i := 5) nd rfl (.inl rfl) (pe_tup (pa_cons (pv 1) (pa_cons (pe_tupRg rfl (by rfl) zTup (prg_1 (by rfl) zRng (pe_callB call_len_seq (by rfl) zLen PySem.boot_len (pa_cons (pv 3) pa_nil)))) pa_nil))))
      (pss_one (ps_ret (pe_call UD.G hr (by rfl) UD.g UD.kp UD.b .nil pass0 (pa_cons (pe_make KF.M KF.G (hr.mono (by omega)) (by rfl) KF.g KF.b .nil pass0
        (pa_cons (pe_lst (StX.pa_star (pv 3) (pa_cons (pv 5) pa_nil))) (pa_cons (pe_lst (StX.pa_star (pv 4) (pa_cons (pe_tm PySem.F.slot_tuple_index PySem.F.type_tuple_index mt_tup_index (pe_fld (pv 0) rfl) (pa_cons (pv 1) pa_nil)) pa_nil))) pa_nil))) pa_nil)))))), ?_⟩
    have lsz := sizeLine_eq
    have lx1 : xs.length ≤ 1000 := by
      have a := S.hk l hl
      have b := S.hM
      omega
    obtain ⟨dx, tn, td, hcc, cp⟩ := hc
    have hle := cp.le
    have hN := ci.len
    -- the values' nodes
    refine ⟨_, rfl, a, rfl, ⟨_, SqL.of ha⟩, fun D hD => ?_⟩
    refine lc_it (walk_list (K := K) (a := a) (xs := xs)) (fun j H' => Same H H' ∧ ∃ vs, H' D = some (.lst vs) ∧ vs.length = j ∧ ∀ (i : Nat) (v x : V), vs[i]? = some v → xs[i]? = some x → NodeI nm H' (.leaf x) [] v) ⟨same_new hD, [], upd_same, rfl, fun i v x e => by simp at e⟩ (fun j H' _ h => SqL.of (h.1 _ _ ha)) ?_ ?_
    · rintro j z H1 H1' hj ⟨sm, vs, e1, e2, e3⟩ ⟨rfl, hz⟩
      have hv := vx _ (List.mem_of_getElem? hz)
      refine ⟨rfl, _, rfl, ?_⟩
      unfold tNil
      simp only [List.append_nil]
      refine kind_of T (Val.of hv) ⟨_, rfl, (by show 2 ≤ sizeLine; decide), fun q hq => ⟨vs, ?_, by omega, ?_, vs ++ [V.ref q], upd_same, by rw [List.length_append, e2]; rfl, ?_⟩⟩
      · rw [upd_ne (ne_of_none e1 hq)]; exact e1
      · exact same_off (same_off sm (none_of sm hq)) hD
      · have nq : D ≠ q := ne_of_none e1 hq
        have kt : KT H1' (upd (upd H1' q (.tup [.str (kindV z), z])) D (.lst (vs ++ [V.ref q]))) := fun b us e => by
          have n1 : b ≠ D := fun w => by rw [w, e1] at e; cases e
          rw [upd_ne n1, upd_ne (ne_of_none e hq)]
          exact e
        intro i v x h1 h2
        rcases Nat.lt_or_ge i vs.length with g | g
        · rw [List.getElem?_append_left g] at h1
          exact (e3 i v x h1 h2).kt kt
        · rw [List.getElem?_append_right g] at h1
          have ei : i - vs.length = 0 := by
            rcases Nat.eq_zero_or_pos (i - vs.length) with w | w
            · exact w
            · rw [List.getElem?_eq_none (by rw [List.length_singleton]; exact w)] at h1; cases h1
          rw [ei] at h1
          cases h1
          have : i = j := by omega
          rw [this, hz] at h2
          cases h2
          exact ⟨hv, q, rfl, by rw [upd_ne (Ne.symm nq)]; exact upd_same⟩
    rintro H1 ⟨s1, vs, e1, e2, e3⟩
    have c1 := s1 _ _ hcc
    have cp1 := cp.same s1
    -- their levels
    refine ⟨_, rfl, D, rfl, ⟨_, SqL.of e1⟩, fun L hL => ?_⟩
    refine lc_it (walk_list (K := K) (a := D) (xs := vs)) (fun j H' => H' = upd H1 L (.lst (List.replicate j (V.int (N : Nat))))) rfl (fun j H' _ h => by rw [h]; exact SqL.of (same_new hL _ _ e1)) ?_ ?_
    · rintro j z H2 H2' hj rfl ⟨rfl, hz⟩
      refine ⟨rfl, _, rfl, c, dx, _, rfl, same_new hL _ _ c1, c, nx, es, rfl, ⟨dx, tn, td, same_new hL _ _ c1, cp1.same (same_new hL)⟩, _, rfl, by omega, by omega, _, upd_same, by rw [List.length_replicate]; omega, ?_⟩
      rw [upd_two, hN]
      congr 2
      rw [List.replicate_succ']
    rintro H2 rfl
    rw [e2]
    have s2 := same_new (o := HO.lst (List.replicate xs.length (V.int (N : Nat)))) hL
    have u2 : upd H1 L (.lst (List.replicate xs.length (V.int (N : Nat)))) L = some (.lst (List.replicate xs.length (V.int (N : Nat)))) := upd_same
    generalize upd H1 L (.lst (List.replicate xs.length (V.int (N : Nat)))) = H2 at s2 u2 ⊢
    -- the choice above
    refine ⟨_, rfl, _, rfl, D, _, rfl, .inl (SqL.of (s2 _ _ e1)), _, rfl, .of_le (by omega) (by omega) (by omega) (by omega), fun u hu => ⟨(by show 2 ≤ sizeLine; decide), fun v hv => ?_⟩⟩
    have s3 := same_new (o := HO.tup (rgV 0 vs.length)) hu
    have u3 : upd H2 u (.tup (rgV 0 vs.length)) u = some (.tup (rgV 0 vs.length)) := upd_same
    generalize upd H2 u (.tup (rgV 0 vs.length)) = H3 at s3 u3 hv ⊢
    have s4 := same_new (o := HO.tup [V.str (nm l), V.ref u]) hv
    have u4 : upd H3 v (.tup [V.str (nm l), V.ref u]) v = some (.tup [V.str (nm l), V.ref u]) := upd_same
    generalize upd H3 v (.tup [V.str (nm l), V.ref u]) = H4 at s4 u4 ⊢
    have t4 : Same H1 H4 := fun b o e => s4 _ _ (s3 _ _ (s2 _ _ e))
    refine ⟨_, rfl, D, vs, rfl, .inr (SqL.of (t4 _ _ e1)), _, rfl, by rw [List.length_append, e2, List.length_singleton]; omega, fun n1 hn1 => ?_⟩
    have s5 := same_new (o := HO.lst (vs ++ [V.ref v])) hn1
    have u5 : upd H4 n1 (.lst (vs ++ [V.ref v])) n1 = some (.lst (vs ++ [V.ref v])) := upd_same
    generalize upd H4 n1 (.lst (vs ++ [V.ref v])) = H5 at s5 u5 ⊢
    have t5 : Same H1 H5 := fun b o e => s5 _ _ (t4 _ _ e)
    have L5 : H5 L = some (.lst (List.replicate xs.length (V.int (N : Nat)))) := s5 _ _ (s4 _ _ (s3 _ _ u2))
    have cp5 := cp1.same t5
    obtain ⟨el, hel⟩ : ∃ el, es[l]? = some el := ⟨_, List.getElem?_eq_getElem (by omega)⟩
    have enames : (es.map fun e => V.str e.1.1) = (es.map fun e => e.1.1).map V.str := by rw [List.map_map]; rfl
    refine ⟨_, rfl, L, _, rfl, .inr (SqL.of L5), _, rfl, c, CC, dx, _, _, rfl, t5 _ _ c1, cC, nN, lk_names, tn, _, rfl, cp5.tn, _, rfl, tn, es.map fun e => e.1.1, nm l, l, rfl, rfl, by rw [← enames]; exact cp5.tn.sq, by rw [List.getElem?_map, hel]; exact congrArg some (ci.nm l el hel), fun m hm z => ?_, ?_⟩
    · rw [List.getElem?_map] at z
      obtain ⟨em, hem, ez⟩ := Option.map_eq_some_iff.mp z
      have := S.nmI m l (by omega) hl ((ci.nm m em hem).symm.trans ez)
      omega
    refine ⟨by rw [List.length_append, List.length_replicate, List.length_singleton]; omega, fun n2 hn2 => ?_⟩
    have s6 := same_new (o := HO.lst (List.replicate xs.length (V.int (N : Nat)) ++ [V.int (l : Nat)])) hn2
    have u6 : upd H5 n2 (.lst (List.replicate xs.length (V.int (N : Nat)) ++ [V.int (l : Nat)])) n2 = some (.lst (List.replicate xs.length (V.int (N : Nat)) ++ [V.int (l : Nat)])) := upd_same
    refine fun p dp hp hdp hne => ⟨p, dp, n1, n2, rfl, upd_same, rfl, ?_⟩
    replace hp : upd H5 n2 (.lst (List.replicate xs.length (V.int (N : Nat)) ++ [V.int (l : Nat)])) p = none := hp
    replace hdp : upd H5 n2 (.lst (List.replicate xs.length (V.int (N : Nat)) ++ [V.int (l : Nat)])) dp = none := hdp
    show spDrawn C nm N [V.ref p] (upd (upd (upd (upd (upd H5 n2 (.lst (List.replicate xs.length (V.int (N : Nat)) ++ [V.int (l : Nat)]))) dp (.own p)) p (.ins C dp [])) p (.ins C dp (putF "nodes" (.ref n1) []))) p (.ins C dp (ffl n1 n2))) Q E0
    generalize upd H5 n2 (.lst (List.replicate xs.length (V.int (N : Nat)) ++ [V.int (l : Nat)])) = H6 at s6 u6 hp hdp ⊢
    have s7 := make_same (C := C) (t2 := n1) (t3 := n2) hp hdp
    have u7 : upd (upd (upd (upd H6 dp (.own p)) p (.ins C dp [])) p (.ins C dp (putF "nodes" (.ref n1) []))) p (.ins C dp (ffl n1 n2)) p = some (.ins C dp (ffl n1 n2)) := upd_same
    generalize upd (upd (upd (upd H6 dp (.own p)) p (.ins C dp [])) p (.ins C dp (putF "nodes" (.ref n1) []))) p (.ins C dp (ffl n1 n2)) = H7 at s7 u7 ⊢
    have t7 : Same H1 H7 := fun b o e => s7 _ _ (s6 _ _ (t5 _ _ e))
    have n7 : H7 n1 = some (.lst (vs ++ [V.ref v])) := s7 _ _ (s6 _ _ u5)
    have l7 : H7 n2 = some (.lst (List.replicate xs.length (V.int (N : Nat)) ++ [V.int (l : Nat)])) := s7 _ _ u6
    have u7' : H7 u = some (.tup (rgV 0 vs.length)) := s7 _ _ (s6 _ _ (s5 _ _ (s4 _ _ u3)))
    have v7 : H7 v = some (.tup [V.str (nm l), V.ref u]) := s7 _ _ (s6 _ _ (s5 _ _ u4))
    have pk := S.pos l hl
    have nx0 : xs ≠ [] := fun z => by rw [z] at lx; rw [List.length_nil] at lx; omega
    have rg0 : rgV 0 vs.length = (List.range xs.length).map fun k : Nat => V.int (k : Nat) := by
      unfold rgV
      rw [e2]
      have : ((xs.length : Int) - 0).toNat = xs.length := by omega
      rw [this]
      exact List.map_congr_left fun k _ => by rw [Int.zero_add]
    have okA : (FD.br l xs).Okay N ks := br_okay hl lx nx0 vx
    have bl := br_len l xs
    refine ⟨FD.br l xs, ks, M, p, dp, n1, n2, rfl, u7, ⟨⟨_, .inl n7, by rw [bl, List.length_append, e2]; rfl, fun i y hy => ?_⟩, .inl ?_⟩, S, okA, by omega, ⟨0, xs[0]'(List.length_pos_iff.mpr nx0), by omega, br_at (List.getElem?_eq_getElem _)⟩, fun H' r sm fm => ?_⟩
    · rcases Nat.lt_or_ge i xs.length with g | g
      · rw [List.getElem?_append_left (by omega)] at hy
        have hx := List.getElem?_eq_getElem g
        rw [br_at hx]
        exact (e3 i y _ hy hx).same t7
      · rw [List.getElem?_append_right (by omega)] at hy
        have ei : i - vs.length = 0 := by
          rcases Nat.eq_zero_or_pos (i - vs.length) with w | w
          · exact w
          · rw [List.getElem?_eq_none (by rw [List.length_singleton]; exact w)] at hy; cases hy
        rw [ei] at hy
        cases hy
        have en : i = xs.length := by omega
        subst en
        rw [br_top]
        have ek : (FD.br l xs).kd xs.length = List.range xs.length := if_pos rfl
        rw [ek]
        exact ⟨v, u, rfl, v7, by rw [← rg0]; exact u7'⟩
    · rw [l7]
      congr 2
      show _ = (xs.map Tr.leaf ++ [Tr.node l (xs.map Tr.leaf)]).map _
      rw [List.map_append, List.map_map]
      congr 1
      exact (List.eq_replicate_iff.mpr ⟨by rw [List.length_map], fun y hy => by
        obtain ⟨x, _, rfl⟩ := List.mem_map.mp hy
        rfl⟩).symm
    · have et : (FD.br l xs).tr ((FD.br l xs).ts.length - 1) = .node l (xs.map Tr.leaf) := by rw [bl, Nat.add_sub_cancel, br_top]
      rw [et] at fm
      exact k H' r (fun b o e => sm _ _ (t7 _ _ (s1 _ _ e))) fm
end
section
variable {P : Program} {w : World} {K : PySem.W.Frag} {mg : Str → Option Value} {base : Heap} {CW CC C : Addr} {nm : Nat → Str} {N : Nat}
def spByL (CW CC C : Addr) (nm : Nat → Str) (N : Nat) : Sp := fun vs H Q _ => ∃ (c : Addr) (es : List (Row × Addr)) (nx : Int) (l M : Nat) (ks : Nat → Nat) (s : Addr) (xs : List V), vs = [.ref CW, .ref c, .str (nm l), .ref s] ∧ ChAt CC H c es nx ∧ ChIs N ks nm es ∧ Sce N M ks nm ∧ l < N ∧
  H s = some (.lst xs) ∧ xs.length = ks l ∧ (∀ x ∈ xs, Vl x) ∧ ∀ (H' : Hp) (a : Addr), Same H H' → WorthI CW C nm N (red N (.node l (xs.map Tr.leaf))) c H' a → Q (.ref a) H'
theorem ok_byL {f fW fB fH fL : Addr} {fd fdW fdB fdH fdL : FuncData} (F : Fun K "by" "Worth.by" sBy f fd) (KW : WorthK P w K mg base CW CC C fW fdW nm N) (UB : Use P w K mg base "branched" 7 fB fdB ["choices", "name", "values"] (spBranchL CC C nm N)) (O : Own2 P w K mg base CC fH fL fdH fdL) :
    FnOk P w K mg base CX0 8 f fd ["cls", "choices", "name", "values"] (spByL CW CC C nm N) := by
  refine F.ok scBy (fun vs H Q E h => ?_) (fun cdv A outer s H vs Q E hr h => ?_)
  · obtain ⟨c, es, nx, l, M, ks, s, xs, rfl, _⟩ := h
    rfl
  · obtain ⟨c, es, nx, l, M, ks, a, xs, rfl, hc, ci, S, hl, ha, lx, vx, k⟩ := h
    refine ⟨_, pss_cons (ps_if (pt_cmpR (op_ownNotIn O.GH (hr.mono (by omega)) O.bH (E := E0) pass0 O.sH O.fH) (pv 2) (pv 1) (by rfl)) pss_dead pss_nil)
      (pss_one (ps_ret (pe_makeL KW.M KW.G (hr.mono (by omega)) KW.b pass0 (pv 0) (pa_cons (pv 1) (pa_cons (pe_call UB.G hr (by rfl) UB.g UB.kp UB.b .nil pass0 (pa_cons (pv 1) (pa_cons (pv 2) (pa_cons (pv 3) pa_nil)))) pa_nil))))), ?_⟩
    obtain ⟨dc, tnc, tdc, hcc, cp⟩ := id hc
    have hN := ci.len
    obtain ⟨el, hel⟩ : ∃ el, es[l]? = some el := ⟨_, List.getElem?_eq_getElem (by omega)⟩
    have hb : hasB (nm l) es = true := List.any_eq_true.mpr ⟨el, List.mem_of_getElem? hel, decide_eq_true (ci.nm l el hel)⟩
    have nx0 : xs ≠ [] := fun z => by
      have := S.pos l hl
      rw [z, List.length_nil] at lx
      omega
    refine ⟨_, rfl, _, rfl, c, dc, _, rfl, hcc, c, nm l, nx, es, rfl, hc, _, rfl, _, rfl, ifF (by rw [hb]; rfl) ?_⟩
    refine ⟨_, rfl, rfl, _, rfl, _, rfl, _, rfl, _, rfl, c, es, nx, l, M, ks, a, xs, rfl, hc, ci, S, hl, ha, lx, vx, fun H1 r s1 fm => ?_⟩
    have gt : TGood N ks (red N (.node l (xs.map Tr.leaf))) := (red_good (br_wo hl lx nx0 vx)).1
    exact wmake (hc.same s1) ci S gt (.inr fm) fun H' b sm _ wi => k H' b (fun x o e => sm _ _ (s1 _ _ e)) wi
end
end R52
namespace FT
open PySem PySem.Spec PyProof.Rows L2 ND
open Classical
/-- the k-th of parts of n each -/
def part (T : List V) (n k : Nat) : List V := (T.drop (k * n)).take n
theorem part_len {T : List V} {n m k : Nat} (h : T.length = m * n) (hk : k < m) : (part T n k).length = n := by
  unfold part
  have : (k + 1) * n ≤ m * n := Nat.mul_le_mul_right _ hk
  rw [Nat.add_mul, Nat.one_mul] at this
  rw [List.length_take, List.length_drop]
  omega
end FT
namespace FT
open PySem PySem.Spec PyProof.Rows L2 ND
open Classical
end FT
namespace FT
open PySem PySem.Spec PyProof.Rows L2 ND
end FT
namespace FT
open PySem PySem.Spec PyProof.Rows L2 ND
end FT
namespace R52
open PySem L2 L3 FT ND
open C8 (pss_cut tCut pe_gc)
abbrev sWorthF : Stmt := top 55
theorem pick_lim {x y : V} : opF sLim x y = if tt y = true then x else .non := by
  unfold opF
  rw [if_neg (by decide +kernel)]
  unfold pickF
  rw [if_neg (by decide +kernel), if_neg (by decide +kernel), if_neg (by decide +kernel), if_pos (by decide +kernel)]
theorem leaf_good {N : Nat} {ks : Nat → Nat} {x : V} (h : Vl x) : TGood N ks (.leaf x) := ⟨by rw [Wf]; trivial, by rw [Lv]; exact h⟩
theorem tells_row {ss : List Nat} {d : Nat} {T : List V} (pos : ∀ l, l < ss.length → 0 < ksOf ss l) (hd : d < ss.length) (hv : ∀ x ∈ T, Vl x) (hl : T.length = ksOf ss d) :
    TGood ss.length (ksOf ss) (red ss.length (.node d (T.map Tr.leaf))) ∧ ∀ w, Good ss.length (ksOf ss) w → ev (red ss.length (.node d (T.map Tr.leaf))) w = T.getD (w d) .non := by
  have ne : T ≠ [] := fun z => by
    have := pos d hd
    rw [z, List.length_nil] at hl
    omega
  obtain ⟨g, e⟩ := red_good (br_wo hd hl ne hv)
  refine ⟨g, fun w gw => ?_⟩
  have lw := gw d hd
  rw [e w gw, br_ev (N := 0) (x := T.getD (w d) .non) (by rw [List.getD_eq_getElem?_getD, List.getElem?_eq_getElem (by omega)]; rfl)]
structure SceneF (ts : List Str) (ss : List Nat) : Prop where
  len : ts.length = ss.length
  one : 1 ≤ ss.length
  few : ss.length ≤ 6
  gd : GoodN ts
  sz : ∀ m ∈ ss, 2 ≤ m ∧ m ≤ 4
  geo : ∃ M, (∀ m ∈ ss, m ≤ M) ∧ M ≤ 4 ∧ geo M ss.length ≤ 2000
theorem SceneF.sce {ts : List Str} {ss : List Nat} (h : SceneF ts ss) : ∃ M, Sce ss.length M (ksOf ss) (nmOf ts) := by
  obtain ⟨M, hM, h4, hg⟩ := h.geo
  have at_ : ∀ l, l < ss.length → ksOf ss l ∈ ss := fun l hl => by
    unfold ksOf
    rw [List.getD_eq_getElem?_getD, List.getElem?_eq_getElem hl]
    exact List.getElem_mem hl
  have len := h.len
  exact ⟨M, fun l hl => hM _ (at_ l hl), fun l hl => by have := (h.sz _ (at_ l hl)).1; omega, by omega, by have := h.few; omega, hg,
    fun i j hi hj e => nmOf_inj h.gd.1 (by omega) (by omega) e, fun i hi => (okT_iff (h.gd.2 _ (nmOf_mem (by omega)))).str⟩
theorem rows_ciF {ts : List Str} {ss : List Nat} {es : List (Row × Addr)} (h : RowsAre ts ss ts.length es) (len : ts.length = ss.length) : ChIs ss.length (ksOf ss) (nmOf ts) es where
  len := h.1.trans len
  nm := fun i e he => by
    unfold nmOf
    rw [List.getD_eq_getElem?_getD, (h.2 i e he).1]
    rfl
  ks := fun i e he => by
    obtain ⟨m, hm, e1⟩ := (h.2 i e he).2
    unfold ksOf
    rw [List.getD_eq_getElem?_getD, hm, e1]
    rfl
structure StandF (CC : Addr) (ts : List Str) (ss : List Nat) (c : Addr) (es : List (Row × Addr)) (nx : Int) (H : Hp) : Prop where
  hc : ChAt CC H c es nx
  sc : SceneF ts ss
  rw' : RowsAre ts ss ts.length es
theorem StandF.same {CC : Addr} {ts : List Str} {ss : List Nat} {c : Addr} {es : List (Row × Addr)} {nx : Int} {H H' : Hp} (s : Same H H') (h : StandF CC ts ss c es nx H) : StandF CC ts ss c es nx H' := ⟨h.hc.same s, h.sc, h.rw'⟩
theorem StandF.ci {CC : Addr} {ts : List Str} {ss : List Nat} {c : Addr} {es : List (Row × Addr)} {nx : Int} {H : Hp} (h : StandF CC ts ss c es nx H) : ChIs ss.length (ksOf ss) (nmOf ts) es := rows_ciF h.rw' h.sc.len
/-- what _law_worth uses -/
structure WLUse (P : Program) (w : World) (K : PySem.W.Frag) (mg : Str → Option Value) (base : Heap) (CW CC C fW fB fO fL pB : Addr) (fdW fdB fdO fdL : FuncData) (mc : Value) : Prop where
  KW : ∀ (nm : Nat → Str) (N : Nat), WorthK P w K mg base CW CC C fW fdW nm N
  GB : ∀ (nm : Nat → Str) (N : Nat), FnOk P w K mg base CX0 8 fB fdB ["cls", "choices", "name", "values"] (spByL CW CC C nm N)
  bB : Binds K fdB ["cls", "choices", "name", "values"] []
  rd : ClX.CRead K CW mc
  cm : ClX.CMet K CW mc "by" pB fB
  GO : ∀ (nm : Nat → Str) (N : Nat), FnOk P w K mg base CX0 7 fO fdO ["self", "other"] (spWTwo sElse CW CC C nm N)
  mO : Meth K CW "or_else" fO
  bO : Binds K fdO ["self", "other"] []
  GL : ∀ (nm : Nat → Str) (N : Nat), FnOk P w K mg base CX0 7 fL fdL ["self", "truth"] (spWTwo sLim CW CC C nm N)
  mL : Meth K CW "limited" fL
  bL : Binds K fdL ["self", "truth"] []
/-- a worth that tells what a tree tells -/
def spWorthF (d : Nat) (CW CC C : Addr) : Sp := fun vs H Q _ => ∃ (c v : Addr) (t : LT) (B : Addr → Prop) (g : Str) (ts : List Str) (ss : List Nat) (es : List (Row × Addr)) (nx : Int), vs = [.ref c, .ref v] ∧ TAt (nmOf ts) B H t v ∧ TOk ss.length (ksOf ss) g d t ∧ StandF CC ts ss c es nx H ∧
  ∀ (r : Addr) (T : Tr V) (H' : Hp), Same H H' → TGood ss.length (ksOf ss) T → (∀ w, Good ss.length (ksOf ss) w → ev T w = tev w t) → WorthI CW C (nmOf ts) ss.length T c H' r → Q (.ref r) H'
abbrev NLf : List Str := ["_law_made", "_law_tree_here", "_law_found", "_law_at_here", "_law_inner", "_law_here", "_law_one"]
section
variable {P : Program} {w : World} {K : PySem.W.Frag} {mg : Str → Option Value} {base : Heap} {CW CC C : Addr}
theorem scLf : FnScope NLf ["_law_made", "_law_tree_here"] (defScope sWorthF) := ⟨rfl, rfl, rfl, by decide +kernel, rfl, by decide +kernel, by decide +kernel⟩
theorem ok_worthF {f fW fB fO fL pB : Addr} {fd fdW fdB fdO fdL : FuncData} {mc : Value} (F : Fun K "_law_worth" "_law_worth" sWorthF f fd) (bF : Binds K fd ["_law_made", "_law_tree_here"] []) (gF : mg "_law_worth" = some (.ref f)) (U : WLUse P w K mg base CW CC C fW fB fO fL pB fdW fdB fdO fdL mc) (gW : mg "Worth" = some (.ref CW)) (zLen : mg "len" = none) (zRng : mg "range" = none) (zEnu : mg "enumerate" = none) :
    ∀ d, d ≤ 20 → FnOk P w K mg base CX0 (9 + d) f fd ["_law_made", "_law_tree_here"] (spWorthF d CW CC C)
  | 0, _ => by
    refine F.ok scLf (fun vs H Q E h => ?_) (fun cdv A outer s H vs Q E hr h => ?_)
    · obtain ⟨c, v, t, B, g, ts, ss, es, nx, rfl, _⟩ := h
      rfl
    · obtain ⟨c, v, t, B, g, ts, ss, es, nx, rfl, ta, tk, st, k⟩ := h
      have nd := scLf.nd
      have W := U.KW (nmOf ts) ss.length
      refine ⟨_, pss_cons (ps_if (pt_cmpR op_eq (pe_ix (r := rIxT K) (by exact ix_tup) (pv 1) pe_int (fun _ _ => rfl)) pe_str (nomark _)) (pss_one (ps_ret (pe_make W.M W.G (hr.mono (by omega)) (by rfl) W.g W.b .nil pass0 (pa_cons (pv 0) (pa_cons (pe_ix (r := rIxT K) (by exact ix_tup) (pv 1) pe_int (fun _ _ => rfl)) pa_nil))))) pss_nil) pss_dead, ?_⟩
      obtain ⟨M, S⟩ := st.sc.sce
      cases ta with
      | val e =>
        cases tk with
        | val fx =>
          refine ⟨_, rfl, v, _, _, _, rfl, rfl, SqT.of e, rfl, rfl, _, rfl, ifT (by decide +kernel) ?_⟩
          refine ⟨_, rfl, _, rfl, v, _, _, _, rfl, rfl, SqT.of e, rfl, ?_⟩
          intro r dx hr0 hdx ne
          rename_i x
          have sm : Same H (upd (upd H dx (.own r)) r (.ins CW dx [])) := fun b o e => by
            rw [upd_ne (ne_of_none e hr0), upd_ne (ne_of_none e hdx)]
            exact e
          have st2 := st.same sm
          refine ⟨r, dx, c, es, nx, M, ksOf ss, x, .leaf x, rfl, upd_same, st2.hc, st2.ci, S, leaf_good fx.1, .inl ⟨fx.1, rfl⟩, fun H' keep wi => ⟨rfl, k r (.leaf x) H' (fun b o e => keep b o (ne_of_none e hr0) (sm b o e)) (leaf_good fx.1) (fun w _ => by rw [ev, tev]) wi⟩⟩
      | cas e1 e2 hb lu ks' => cases tk
  | d + 1, hd => by
    have G0 := ok_worthF F bF gF U gW zLen zRng zEnu d (by omega)
    refine F.ok scLf (fun vs H Q E h => ?_) (fun cdv A outer s H vs Q E hr h => ?_)
    · obtain ⟨c, v, t, B, g, ts, ss, es, nx, rfl, _⟩ := h
      rfl
    · obtain ⟨c, v, t, B, g, ts, ss, es, nx, rfl, ta, tk, st, k⟩ := h
      have nd := scLf.nd
      have hr' : Room (9 + d) _ := hr
      have W := U.KW (nmOf ts) ss.length
      refine ⟨_, pss_cons (ps_if (pt_cmpR op_eq (pe_ix (r := rIxT K) (by exact ix_tup) (pv 1) pe_int (fun _ _ => rfl)) pe_str (nomark _)) (pss_one (ps_ret (pe_make W.M W.G (hr'.mono (by omega)) (by rfl) W.g W.b .nil pass0 (pa_cons (pv 0) (pa_cons (pe_ix (r := rIxT K) (by exact ix_tup) (pv 1) pe_int (fun _ _ => rfl)) pa_nil))))) pss_nil)
        (pss_cons (ps_set (i := 2) nd rfl (.inl rfl) (pe_make W.M W.G (hr'.mono (by omega)) (by rfl) W.g W.b .nil pass0 (pa_cons (pv 0) (pa_cons pe_non pa_nil))))
        (pss_cons (ps_for PassesOwn.never rfl (pi_enum (by rfl) zEnu (pa_cons (pe_ix (r := rIxT K) (by exact ix_tup) (pv 1) pe_int (fun _ _ => rfl)) pa_nil)) (pg_tup (by rfl) (pgs_cons (pg_name (i := 3) nd rfl (.inr rfl)) (pgs_cons (pg_name (i := 4) nd rfl (.inl rfl)) pgs_nil)))
          (pss_cons (ps_set (i := 5) nd rfl (.inl rfl) (ClX.pe_cmeth (pe_glob (v := .ref CW) rfl gW rfl) U.rd U.cm ((U.GB (nmOf ts) ss.length).raw U.bB .nil) (hr'.mono (by omega)) pass0 (pa_cons (pv 0) (pa_cons (pe_ix (r := rIxT K) (by exact ix_tup) (pv 1) pe_int (fun _ _ => rfl)) (pa_cons (pe_lc (own := [("_law_one", 6)]) (g := gName 6) (tt := tYes) rfl nd (pi_range1 (by rfl) zRng (pa_cons (pe_callB call_len_seq (by rfl) zLen PySem.boot_len (pa_cons (pe_ix (r := rIxT K) (by exact ix_tup) (pv 1) pe_int (fun _ _ => rfl)) pa_nil)) pa_nil)) (blkOk_by (N := NLf) (sc := defScope sWorthF) (by decide +kernel)) (fun _ _ _ _ _ => pg_name (i := 6) nd rfl (.inl rfl)) (fun _ _ _ _ _ => pts_nil)
              (fun _ _ _ _ _ => pe_cmpR op_eq (pv 6) (pv 3) (nomark _))) pa_nil)))))
          (pss_one (ps_set (i := 2) nd rfl (.inl rfl) (pe_meth (pv 2) W.T.cl U.mO (U.GO (nmOf ts) ss.length) (hr'.mono (by omega)) U.bO .nil pass0 (pa_cons (pe_meth (pe_call G0 (hr'.mono (by omega)) (by rfl) gF F.kp bF .nil pass0 (pa_cons (pv 0) (pa_cons (pv 4) pa_nil))) W.T.cl U.mL (U.GL (nmOf ts) ss.length) (hr'.mono (by omega)) U.bL .nil pass0 (pa_cons (pv 5) pa_nil)) pa_nil))))))
        (pss_one (ps_ret (pv 2))))), ?_⟩
      obtain ⟨M, S⟩ := st.sc.sce
      cases ta with
      | val e =>
        cases tk with
        | val fx =>
          refine ⟨_, rfl, v, _, _, _, rfl, rfl, SqT.of e, rfl, rfl, _, rfl, ifT (by decide +kernel) ?_⟩
          refine ⟨_, rfl, _, rfl, v, _, _, _, rfl, rfl, SqT.of e, rfl, ?_⟩
          intro r dx hr0 hdx ne
          rename_i x
          have sm : Same H (upd (upd H dx (.own r)) r (.ins CW dx [])) := fun b o e => by
            rw [upd_ne (ne_of_none e hr0), upd_ne (ne_of_none e hdx)]
            exact e
          have st2 := st.same sm
          refine ⟨r, dx, c, es, nx, M, ksOf ss, x, .leaf x, rfl, upd_same, st2.hc, st2.ci, S, leaf_good fx.1, .inl ⟨fx.1, rfl⟩, fun H' keep wi => ⟨rfl, k r (.leaf x) H' (fun b o e => keep b o (ne_of_none e hr0) (sm b o e)) (leaf_good fx.1) (fun w _ => by rw [ev, tev]) wi⟩⟩
      | @cas _ b l ts' us e1 e2 hb lu ks' =>
        cases tk with
        | @cas _ _ _ hl lt tk2 =>
        have len := st.sc.len
        have hlt : l < ts.length := by omega
        have k4 : ksOf ss l ≤ 4 := by
          unfold ksOf
          rw [List.getD_eq_getElem?_getD, List.getElem?_eq_getElem hl]
          exact (st.sc.sz _ (List.getElem_mem hl)).2
        refine ⟨_, rfl, v, _, _, _, rfl, rfl, SqT.of e1, rfl, rfl, _, rfl, ifF (by show decide (V.str (nmOf ts l) = V.str sEqS) = false; exact decide_eq_false fun e => eqS_ne st.sc.gd hlt (V.str.inj e)) ?_⟩
        refine ⟨_, rfl, ?_⟩
        intro r0 dx0 hr0 hdx0 ne0
        have sm : Same H (upd (upd H dx0 (.own r0)) r0 (.ins CW dx0 [])) := fun b o e => by
          rw [upd_ne (ne_of_none e hr0), upd_ne (ne_of_none e hdx0)]
          exact e
        have st2 := st.same sm
        refine ⟨r0, dx0, c, es, nx, M, ksOf ss, .non, .leaf .non, rfl, upd_same, st2.hc, st2.ci, S, leaf_good trivial, .inl ⟨trivial, rfl⟩, fun H1 keep w0 => ⟨rfl, ?_⟩⟩
        have s1 : Same H H1 := fun b o e => keep b o (ne_of_none e hr0) (sm b o e)
        refine ⟨_, rfl, v, _, _, _, rfl, rfl, SqT.of (s1 _ _ e1), rfl, b, us.map V.ref, rfl, SqL.of (s1 _ _ e2), ?_⟩
        refine for_it (walk_enum (K := K) (a := b) (xs := us.map V.ref)) (fun i σ H' => ∃ (r : Addr) (T : Tr V) (o3 o4 o5 : Option V), σ = [some (.ref c), some (.ref v), some (.ref r), o3, o4, o5, none] ∧ Same H H' ∧ TGood ss.length (ksOf ss) T ∧ (∀ w, Good ss.length (ksOf ss) w → ev T w = if w l < i then tevs w ts' (w l) else .non) ∧ WorthI CW C (nmOf ts) ss.length T c H' r)
          ⟨r0, .leaf .non, none, none, none, rfl, s1, leaf_good trivial, fun w _ => by rw [ev, if_neg (Nat.not_lt_zero _)], w0⟩ (fun i σ H' _ ⟨_, _, _, _, _, _, s', _⟩ => SqL.of (s' _ _ e2)) ?_ ?_
        · rintro i y σ H2 H2' hi ⟨r, T, o3, o4, o5, rfl, s2, gT, eT, wT⟩ ⟨q, v1, v2, rfl, nq, rfl, hv1, hv2⟩
          rw [List.length_map] at hi
          cases hv1
          replace hv2 : (us.map V.ref)[i]? = some v2 := hv2
          rw [List.getElem?_map, List.getElem?_eq_getElem hi] at hv2
          cases hv2
          have sq := same_new (o := HO.tup [V.int ((i : Nat) : Int), V.ref us[i]]) nq
          have eq : upd H2 q (.tup [V.int ((i : Nat) : Int), V.ref us[i]]) q = some (.tup [V.int ((i : Nat) : Int), V.ref us[i]]) := upd_same
          have s3 := s2.trans sq
          have wT3 := wT.same sq
          generalize upd H2 q (.tup [V.int ((i : Nat) : Int), V.ref us[i]]) = H3 at eq s3 wT3 ⊢
          refine ⟨q, _, rfl, SqT.of eq, rfl, _, _, rfl, _, _, rfl, rfl, ?_⟩
          have lus : us.length = ksOf ss l := by omega
          refine ⟨rfl, _, rfl, _, rfl, v, _, _, _, rfl, rfl, SqT.of (s3 _ _ e1), rfl, _, rfl, v, _, _, _, rfl, rfl, SqT.of (s3 _ _ e1), rfl, b, us.map V.ref, rfl, .inl (SqL.of (s3 _ _ e2)), ((us.map V.ref).length : Nat), rfl, by omega, by rw [List.length_map]; omega, fun D hD => ?_⟩
          refine lc_range (lo := 0) (n := (((us.map V.ref).length : Nat) : Int).toNat) (fun j H' => (∀ b u, b ≠ D → H3 b = some u → H' b = some u) ∧ H' D = some (.lst ((List.range j).map fun q => V.bl (decide (q = i)))))
            ⟨fun b u nb e => by rw [upd_ne nb]; exact e, upd_same⟩ ?_ ?_
          · rintro j H4 hj ⟨k4', eD⟩
            refine ⟨rfl, _, rfl, _, rfl, rfl, _, eD, ?_, fun b u nb e => by rw [upd_ne nb]; exact k4' b u nb e, ?_⟩
            · rw [List.length_map, List.length_range]
              have := sizeLine_eq
              rw [List.length_map] at hj
              omega
            · rw [upd_same, List.range_succ, List.map_append]
              have e : decide (V.int (0 + ((j : Nat) : Int)) = V.int ((i : Nat) : Int)) = decide (j = i) := by
                by_cases h : j = i
                · rw [h, Int.zero_add, decide_eq_true rfl, decide_eq_true rfl]
                · rw [decide_eq_false h, decide_eq_false fun z => h (by have := V.int.inj z; omega)]
              rw [e]
              rfl
          rintro H4 ⟨k4', eD⟩
          have s4 : Same H3 H4 := fun b u e => k4' b u (fun z => by rw [z, hD] at e; cases e) e
          have s14 := s3.trans s4
          have st4 := st.same s14
          have em : (((us.map V.ref).length : Nat) : Int).toNat = ksOf ss l := by rw [List.length_map]; omega
          rw [em] at eD
          have lxs : ((List.range (ksOf ss l)).map fun q => V.bl (decide (q = i))).length = ksOf ss l := by rw [List.length_map, List.length_range]
          have vxs : ∀ x ∈ (List.range (ksOf ss l)).map fun q => V.bl (decide (q = i)), Vl x := fun x hx => by
            obtain ⟨q, _, rfl⟩ := List.mem_map.mp hx
            trivial
          obtain ⟨gc, ec⟩ := tells_row S.pos hl vxs lxs
          refine ⟨c, es, nx, l, M, ksOf ss, D, _, rfl, st4.hc, st4.ci, S, hl, eD, lxs, vxs, fun H5 a s5 wc => ?_⟩
          have s15 := s14.trans s5
          have wT5 := (wT3.same s4).same s5
          obtain ⟨dr, _, _, _, _, _, _, hr1, _⟩ := id wT5
          have hi' : i < ts'.length := by omega
          refine ⟨_, rfl, r, dr, _, rfl, hr1, rfl, _, rfl, _, rfl, c, us[i], ts'[i], B, g, ts, ss, es, nx, rfl, (ks' i _ _ (List.getElem?_eq_getElem hi') (List.getElem?_eq_getElem hi)).same s15, tk2 _ (List.getElem_mem hi'), st.same s15, fun r2 T2 H6 s6 g2 e2' w2 => ?_⟩
          obtain ⟨dr2, _, _, _, _, _, _, hr2, _⟩ := id w2
          have wc6 := wc.same s6
          have st6 := st.same (s15.trans s6)
          refine ⟨r2, dr2, _, rfl, hr2, rfl, _, rfl, r2, a, c, T2, _, es, nx, M, ksOf ss, rfl, w2, wc6, st6.hc, st6.ci, S, g2, gc, fun H7 r3 s7 w3 => ?_⟩
          have wT7 := (wT5.same s6).same s7
          have st7 := st6.same s7
          obtain ⟨g3, e3⟩ := join_good (f := opF sLim) (fun x y hx hy => op_vl hx hy) ⟨g2.1.wo, g2.2⟩ ⟨gc.1.wo, gc.2⟩
          obtain ⟨g5, e5⟩ := join_good (f := opF sElse) (fun x y hx hy => op_vl hx hy) ⟨gT.1.wo, gT.2⟩ ⟨g3.1.wo, g3.2⟩
          refine ⟨r, r3, c, T, _, es, nx, M, ksOf ss, rfl, wT7, w3, st7.hc, st7.ci, S, gT, g3, fun H8 r4 s8 w4 => ?_⟩
          refine ⟨r4, _, _, _, _, rfl, (s15.trans (s6.trans s7)).trans s8, g5, fun w gw => ?_, w4⟩
          have hw := gw l hl
          rw [e5 w gw, pick_else, e3 w gw, pick_lim, ec w gw, eT w gw, e2' w gw]
          have exi : ((List.range (ksOf ss l)).map fun q => V.bl (decide (q = i))).getD (w l) .non = V.bl (decide (w l = i)) := by
            rw [List.getD_eq_getElem?_getD, List.getElem?_map, List.getElem?_range hw]
            rfl
          rw [exi]
          rcases Nat.lt_trichotomy (w l) i with h | h | h
          · rw [if_pos h, if_pos (show w l < i + 1 by omega), decide_eq_false (show ¬ w l = i by omega)]
            by_cases z : tevs w ts' (w l) = .non
            · rw [if_pos z, z]
              rfl
            · rw [if_neg z]
          · rw [if_neg (show ¬ w l < i by omega), if_pos rfl, if_pos (show w l < i + 1 by omega), decide_eq_true h, h, tevs_get w ts' i _ (List.getElem?_eq_getElem hi')]
            rfl
          · rw [if_neg (show ¬ w l < i by omega), if_pos rfl, if_neg (show ¬ w l < i + 1 by omega), decide_eq_false (show ¬ w l = i by omega)]
            rfl
        rintro σ H2 ⟨r, T, o3, o4, o5, rfl, s2, gT, eT, wT⟩
        refine ⟨_, rfl, k r T H2 s2 gT (fun w gw => ?_) wT⟩
        have hw := gw l hl
        rw [eT w gw, tev, List.length_map, if_pos (by omega)]
end
end R52
namespace R52
open PySem L2 L3 FT ND
open C8 (pss_cut tCut pe_gc)
abbrev sSceneF : Stmt := top 62
theorem good_ne2 {N : Nat} {ks : Nat → Nat} {t : Tr V} (h : TGood N ks t) : (enum t []).length ≠ 2 := by
  cases t with
  | leaf x => rw [enum_leaf]; exact fun h : 1 = 2 => absurd h (by decide)
  | node l ts =>
    obtain ⟨h, _⟩ := h
    rw [Wf] at h
    obtain ⟨_, _, _, ⟨x, hx, y, hy, ne⟩, _⟩ := h
    have c := enum_closed (.node l ts) [] (fun _ _ e => nomatch e)
    have mt := enum_mem (.node l ts) []
    have mx := c l ts mt x hx
    have my := c l ts mt y hy
    have nx : x ≠ .node l ts := fun e => by
      have := List.sizeOf_lt_of_mem hx
      rw [e] at this
      simp at this
      omega
    have ny : y ≠ .node l ts := fun e => by
      have := List.sizeOf_lt_of_mem hy
      rw [e] at this
      simp at this
      omega
    intro e2
    generalize enum (.node l ts) [] = L at mt mx my e2
    match L, e2 with
    | [p, q], _ =>
      simp only [List.mem_cons, List.not_mem_nil, or_false] at mt mx my
      rcases mt with mt | mt <;> rcases mx with mx | mx <;> rcases my with my | my
      · exact nx (mx.trans mt.symm)
      · exact nx (mx.trans mt.symm)
      · exact ny (my.trans mt.symm)
      · exact ne (mx.trans my.symm)
      · exact ne (mx.trans my.symm)
      · exact ny (my.trans mt.symm)
      · exact nx (mx.trans mt.symm)
      · exact nx (mx.trans mt.symm)
theorem WorthI.dr {CW C c x a : Addr} {nm : Nat → Str} {N : Nat} {ks : Nat → Nat} {t : Tr V} {H H' : Hp} (g : TGood N ks t) (f : FeedAt H a) (d : Dr a H H') (h : WorthI CW C nm N t c H x) : WorthI CW C nm N t c H' x := by
  obtain ⟨u, v, hu, _⟩ := f
  have off : ∀ {y : Addr} {o : HO}, (∀ vs, o ≠ HO.lst vs) → H y = some o → H' y = some o := fun {y o} n e => d.sm y o (fun z => by
    rw [z, hu] at e
    exact n _ (Option.some.inj e).symm) e
  have kt : KT H H' := fun b vs e => off (by intro _ z; cases z) e
  obtain ⟨dx, fo, df, tn, tl, to, td, h1, h2, h3, ⟨v1, h4⟩, ⟨v2, h5⟩, v3, h6⟩ := h
  obtain ⟨ws, g1, g2, g3⟩ := h3.tn
  have ew : ws = v1 := by
    rcases g1 with g | g
    · rw [h4] at g; cases g
    · rw [h4] at g; cases g; rfl
  subst ew
  refine ⟨dx, fo, df, tn, tl, to, td, off (by intro _ z; cases z) h1, off (by intro _ z; cases z) h2, ⟨⟨ws, .inr (off (by intro _ z; cases z) h4), g2, fun i v b => (g3 i v b).kt kt⟩, ?_⟩, ⟨ws, off (by intro _ z; cases z) h4⟩, ⟨v2, off (by intro _ z; cases z) h5⟩, v3, off (by intro _ z; cases z) h6⟩
  rcases h3.tl with q | q
  · refine .inl (d.sm _ _ (fun z => ?_) q)
    rw [z, hu] at q
    have e := HO.lst.inj (Option.some.inj q)
    have l := congrArg List.length e
    rw [List.length_map, FDt_len] at l
    exact good_ne2 g l.symm
  · exact .inr (off (by intro _ z; cases z) q)
theorem StandF.dr {CC a : Addr} {ts : List Str} {ss : List Nat} {c : Addr} {es : List (Row × Addr)} {nx : Int} {H H' : Hp} (f : FeedAt H a) (d : Dr a H H') (h : StandF CC ts ss c es nx H) : StandF CC ts ss c es nx H' := ⟨h.hc.dr f d, h.sc, h.rw'⟩
theorem okd_any {P : Program} {w : World} {K : PySem.W.Frag} {mg : Str → Option Value} {base : Heap} {CX : CXT} {k : Nat} {f : Addr} {fd : FuncData} {ps : List Str} {ι : Type} {sp : ι → Sp} (F : ∀ i, FnOk P w K mg base CX k f fd ps (sp i)) : FnOk P w K mg base CX k f fd ps (fun vs H Q E => ∃ i, sp i vs H Q E) :=
  ⟨fun vs H Q E ⟨i, h⟩ => (F i).len vs H Q E h, fun A outer s H args us vs Q E hr e0 hb r ⟨i, h⟩ => (F i).run A outer s H args us vs Q E hr e0 hb r h⟩
/-- all that a scene lays -/
structure ScAt (K : PySem.W.Frag) (CW CC C a : Addr) (g : Str) (H : Hp) (c R v r d : Addr) (ts : List Str) (ss : List Nat) (t : LT) (T : Tr V) (es : List (Row × Addr)) (nx : Int) (o : Nat → Nat) : Prop where
  st : StandF CC ts ss c es nx H
  rows : RowsL H R ts ss
  Ra : R ≠ a
  tr : TAt (nmOf ts) (fun b => b ≠ a) H t v
  tk : ∃ n, n ≤ 4 ∧ TOk ss.length (ksOf ss) g n t
  gT : TGood ss.length (ksOf ss) T
  eT : ∀ w, Good ss.length (ksOf ss) w → ev T w = tev w t
  wo : WorthI CW C (nmOf ts) ss.length T c H r
  wd : WAt H d ts o
  go : Good ss.length (ksOf ss) o
theorem WAt.dr {H H' : Hp} {a d : Addr} {ts : List Str} {o : Nat → Nat} (f : FeedAt H a) (dr : Dr a H H') (h : WAt H d ts o) : WAt H' d ts o := dr.sm _ _ (fun z => by
  obtain ⟨u, v, e, _⟩ := f
  have h' : H d = _ := h
  rw [z, e] at h'
  cases h') h
theorem ScAt.dr {K : PySem.W.Frag} {CW CC C a : Addr} {g : Str} {H H' : Hp} {c R v r d : Addr} {ts : List Str} {ss : List Nat} {t : LT} {T : Tr V} {es : List (Row × Addr)} {nx : Int} {o : Nat → Nat} (f : FeedAt H a) (dr : Dr a H H') (h : ScAt K CW CC C a g H c R v r d ts ss t T es nx o) : ScAt K CW CC C a g H' c R v r d ts ss t T es nx o :=
  ⟨h.st.dr f dr, h.rows.dr h.Ra f dr, h.Ra, h.tr.dr (fun _ n => n) f dr, h.tk, h.gT, h.eT, h.wo.dr h.gT f dr, h.wd.dr f dr, h.go⟩
theorem ScAt.same {K : PySem.W.Frag} {CW CC C a : Addr} {g : Str} {H H' : Hp} {c R v r d : Addr} {ts : List Str} {ss : List Nat} {t : LT} {T : Tr V} {es : List (Row × Addr)} {nx : Int} {o : Nat → Nat} (s : Same H H') (h : ScAt K CW CC C a g H c R v r d ts ss t T es nx o) : ScAt K CW CC C a g H' c R v r d ts ss t T es nx o :=
  ⟨h.st.same s, h.rows.same s, h.Ra, h.tr.same s, h.tk, h.gT, h.eT, h.wo.same s, s _ _ h.wd, h.go⟩
def spSceneF (K : PySem.W.Frag) (CW CC C : Addr) : Sp := fun vs H Q _ => ∃ (a : Addr) (n : Nat) (g : Str), vs = [.ref a, .int (n : Nat), .str g] ∧ FeedAt H a ∧ 1 ≤ n ∧ n ≤ 6 ∧
  ∀ (p c R v r d : Addr) (ts : List Str) (ss : List Nat) (t : LT) (T : Tr V) (es : List (Row × Addr)) (nx : Int) (o : Nat → Nat) (H' : Hp), Dr a H H' → H' p = some (.tup [.ref c, .ref R, .ref v, .ref r, .ref d]) → ss.length ≤ n → ScAt K CW CC C a g H' c R v r d ts ss t T es nx o → Q (.ref p) H'
def mostL : List Nat := [4, 4, 3, 3, 2, 2]
theorem most_geo {n : Nat} (h1 : 1 ≤ n) (h6 : n ≤ 6) : 2 ≤ mostL.getD (n - 1) 0 ∧ mostL.getD (n - 1) 0 ≤ 4 ∧ geo (mostL.getD (n - 1) 0) n ≤ 2000 := by
  have : n = 1 ∨ n = 2 ∨ n = 3 ∨ n = 4 ∨ n = 5 ∨ n = 6 := by omega
  rcases this with rfl | rfl | rfl | rfl | rfl | rfl <;> decide +kernel
abbrev NSc : List Str := ["_law_feed_here", "_law_most", "_law_form", "_law_many", "_law_made", "_law_rows", "_law_tree_here"]
section
variable {P : Program} {w : World} {K : PySem.W.Frag} {mg : Str → Option Value} {base : Heap} {CW CC C : Addr}
theorem scScF : FnScope NSc ["_law_feed_here", "_law_most", "_law_form"] (defScope sSceneF) := ⟨rfl, rfl, rfl, by decide +kernel, rfl, by decide +kernel, by decide +kernel⟩
theorem ok_sceneF {f fT fS fR fW fO : Addr} {fd fdT fdS fdR fdW fdO : FuncData} (F : Fun K "_law_scene" "_law_scene" sSceneF f fd) (UT : Use P w K mg base "_law_take" 1 fT fdT ["_law_feed_here", "_law_many"] spTake) (US : Use P w K mg base "_law_some" 4 fS fdS ["_law_feed_here", "_law_many", "_law_most"] (spSome CC))
    (GR : ∀ d, d ≤ 20 → FnOk P w K mg base CX0 (3 + d) fR fdR ["_law_feed_here", "_law_rows", "_law_deep", "_law_form"] (spTreeF d)) (gR : mg "_law_tree" = some (.ref fR)) (kR : PySem.W.keepIn K (.ref fR) = true) (bR : Binds K fdR ["_law_feed_here", "_law_rows", "_law_deep", "_law_form"] [])
    (GW : ∀ d, d ≤ 20 → FnOk P w K mg base CX0 (9 + d) fW fdW ["_law_made", "_law_tree_here"] (spWorthF d CW CC C)) (gW : mg "_law_worth" = some (.ref fW)) (kW : PySem.W.keepIn K (.ref fW) = true) (bW : Binds K fdW ["_law_made", "_law_tree_here"] [])
    (UO : Use P w K mg base "_law_world" 2 fO fdO ["_law_feed_here", "_law_rows"] spWorldF) (zMin : mg "min" = none) :
    FnOk P w K mg base CX0 14 f fd ["_law_feed_here", "_law_most", "_law_form"] (spSceneF K CW CC C) := by
  have GR' := okd_any (fun i : Fin 5 => (GR i.val (by omega)).mono (show 3 + i.val ≤ 7 by omega))
  have GW' := okd_any (fun i : Fin 5 => (GW i.val (by omega)).mono (show 9 + i.val ≤ 13 by omega))
  refine F.ok scScF (fun vs H Q E h => ?_) (fun cdv A outer s H vs Q E hr h => ?_)
  · obtain ⟨a, n, g, rfl, _⟩ := h
    rfl
  · obtain ⟨a, n, g, rfl, hf, n1, n6, k⟩ := h
    have nd := scScF.nd
    refine ⟨_, pss_cons (ps_set (i := 3) nd rfl (.inl rfl) (pe_op op_add pe_int (pe_call UT.G (hr.mono (by omega)) (by rfl) UT.g UT.kp UT.b .nil pass0 (pa_cons (pv 0) (pa_cons (pv 1) pa_nil)))))
      (pss_cons (ps_asg (pe_call US.G (hr.mono (by omega)) (by rfl) US.g US.kp US.b .nil pass0 (pa_cons (pv 0) (pa_cons (pv 3) (pa_cons (pe_ix (r := rIxL K) (by exact ix_list) (pe_lst (pa_cons pe_int (pa_cons pe_int (pa_cons pe_int (pa_cons pe_int (pa_cons pe_int (pa_cons pe_int pa_nil))))))) (pe_callB (call_min2 rfl) (by rfl) zMin PyProof.Rows.boot_min (pa_cons pe_int (pa_cons (pe_op op_sub (pv 3) pe_int) pa_nil))) (fun _ _ => rfl)) pa_nil)))) (pg_tup (by rfl) (pgs_cons (pg_name (i := 4) nd rfl (.inl rfl)) (pgs_cons (pg_name (i := 5) nd rfl (.inl rfl)) pgs_nil))))
      (pss_cons (ps_set (i := 6) nd rfl (.inl rfl) (pe_call GR' (hr.mono (by omega)) (by rfl) gR kR bR .nil pass0 (pa_cons (pv 0) (pa_cons (pv 5) (pa_cons (pe_op op_add pe_int (pe_call UT.G (hr.mono (by omega)) (by rfl) UT.g UT.kp UT.b .nil pass0 (pa_cons (pv 0) (pa_cons pe_int pa_nil)))) (pa_cons (pv 2) pa_nil))))))
      (pss_one (ps_ret (pe_tup (pa_cons (pv 4) (pa_cons (pv 5) (pa_cons (pv 6) (pa_cons (pe_call GW' (hr.mono (by omega)) (by rfl) gW kW bW .nil pass0 (pa_cons (pv 4) (pa_cons (pv 6) pa_nil))) (pa_cons (pe_call UO.G (hr.mono (by omega)) (by rfl) UO.g UO.kp UO.b .nil pass0 (pa_cons (pv 0) (pa_cons (pv 5) pa_nil))) pa_nil)))))))))), ?_⟩
    refine ⟨_, rfl, _, rfl, a, ((n : Nat) : Int), rfl, hf, by omega, (by show ((n : Nat) : Int).natAbs < 2 ^ 200; omega), fun m H1 m0 m1 d1 => ⟨_, _, rfl, rfl, ?_⟩⟩
    obtain ⟨q, rfl⟩ : ∃ q : Nat, m = ((q : Nat) : Int) := ⟨m.toNat, by omega⟩
    have e1 : (1 : Int) + ((q : Nat) : Int) = ((q + 1 : Nat) : Int) := by omega
    have hq : q + 1 ≤ 6 := by omega
    obtain ⟨g2, g4, gg⟩ := most_geo (n := q + 1) (by omega) hq
    rw [Nat.add_sub_cancel] at g2 g4 gg
    refine ⟨_, rfl, _, rfl, (show 6 ≤ sizeLine by decide), fun Z hZ => ?_⟩
    have Za : Z ≠ a := feed_ne d1.fd hZ
    have s2 := same_new (o := HO.lst (mostL.map fun k : Nat => V.int (k : Nat))) hZ
    have eZ : upd H1 Z (.lst (mostL.map fun k : Nat => V.int (k : Nat))) Z = some (.lst (mostL.map fun k : Nat => V.int (k : Nat))) := upd_same
    have d2 := dr_same d1 s2
    show tCB _ _ _ (upd H1 Z (.lst (mostL.map fun k : Nat => V.int (k : Nat)))) _
    generalize upd H1 Z (.lst (mostL.map fun k : Nat => V.int (k : Nat))) = H2 at eZ d2 ⊢
    refine ⟨_, rfl, _, _, rfl, rfl, _, _, rfl, ?_⟩
    have emin : (if (1 : Int) + ((q : Nat) : Int) - 1 < 5 then (1 : Int) + ((q : Nat) : Int) - 1 else 5) = ((q : Nat) : Int) := by split <;> omega
    have at1 : atI (mostL.map fun k : Nat => V.int (k : Nat)) (if (1 : Int) + ((q : Nat) : Int) - 1 < 5 then (1 : Int) + ((q : Nat) : Int) - 1 else 5) = some (.int ((mostL.getD q 0 : Nat) : Int)) := by
      rw [emin]
      refine atI_nat ?_
      have hl : q < mostL.length := by show q < 6; omega
      rw [List.getElem?_map, List.getD_eq_getElem?_getD, List.getElem?_eq_getElem hl]
      rfl
    refine ⟨Z, _, _, _, rfl, rfl, SqL.of eZ, at1, a, q + 1, mostL.getD q 0, (by show [V.ref a, V.int (1 + ((q : Nat) : Int)), V.int ((mostL.getD q 0 : Nat) : Int)] = _; rw [e1]), d2.fd, by omega, by omega, g2, by omega, fun p c R ts ss es nx H3 d3 ep ch rw' hR lt ls gd sz => ?_⟩
    refine ⟨p, _, rfl, SqT.of ep, rfl, _, _, rfl, _, _, rfl, rfl, ?_⟩
    have d13 := d2.trans d3
    have sc : SceneF ts ss := ⟨lt.trans ls.symm, by omega, by omega, gd, fun m hm => ⟨(sz m hm).1, Nat.le_trans (sz m hm).2 g4⟩, mostL.getD q 0, fun m hm => (sz m hm).2, g4, by rw [ls]; exact gg⟩
    have st : StandF CC ts ss c es nx H3 := ⟨ch, sc, rw'⟩
    have Ra : R ≠ a := hR.ne d13.fd (by omega)
    refine ⟨_, rfl, _, rfl, _, rfl, a, 3, rfl, d13.fd, by decide, by decide, fun r H4 r0 r1 d4 => ⟨_, _, rfl, rfl, _, rfl, ?_⟩⟩
    obtain ⟨i, rfl⟩ : ∃ i : Nat, r = ((i : Nat) : Int) := ⟨r.toNat, by omega⟩
    have e2 : (2 : Int) + ((i : Nat) : Int) = ((i + 2 : Nat) : Int) := by omega
    have d14 := d13.trans d4
    refine ⟨⟨i + 2, by omega⟩, a, R, g, ts, ss, (by show [V.ref a, V.ref R, V.int (2 + ((i : Nat) : Int)), V.str g] = _; rw [e2]), d14.fd, hR.dr Ra d13.fd d4, sc.len, sc.one, by omega, gd, fun m hm => ⟨(sz m hm).1, by have := (sz m hm).2; omega⟩, fun v t H5 d5 ta tk => ?_⟩
    have d15 := d14.trans d5
    have st5 := (st.dr d13.fd d4).dr d14.fd d5
    obtain ⟨fu, fv, hfa, _⟩ := id d14.fd
    have ta5 : TAt (nmOf ts) (fun b => b ≠ a) H5 t v := ta.weak fun b e z => by rw [z, hfa] at e; cases e
    refine ⟨_, rfl, _, rfl, _, rfl, _, rfl, _, rfl, ⟨⟨i + 2, by omega⟩, c, v, t, _, g, ts, ss, es, nx, rfl, ta5, tk, st5, fun r T H6 s6 gT eT wT => ?_⟩⟩
    have d16 := dr_same d15 s6
    have hR6 := ((hR.dr Ra d13.fd d4).dr Ra d14.fd d5).same s6
    refine ⟨_, rfl, _, rfl, a, R, ts, ss, rfl, d16.fd, Ra, hR6, sc.len, by omega, gd, fun m hm => ⟨(sz m hm).1, by have := (sz m hm).2; omega⟩, fun d o H7 hd d7 wd go => ⟨(show 5 ≤ sizeLine by decide), fun P hP => ?_⟩⟩
    have sP := same_new (o := HO.tup [V.ref c, V.ref R, V.ref v, V.ref r, V.ref d]) hP
    have sca : ScAt K CW CC C a g H7 c R v r d ts ss t T es nx o :=
      ⟨(st5.same s6).dr d16.fd d7, hR6.dr Ra d16.fd d7, Ra, (ta5.same s6).dr (fun _ n => n) d16.fd d7, ⟨i + 2, by omega, tk⟩, gT, eT, wT.dr gT d16.fd d7, wd, go⟩
    exact k P c R v r d ts ss t T es nx o _ (dr_same (d16.trans d7) sP) upd_same (by omega) (sca.same sP)
end
end R52
namespace R52
open PySem L2 L3 FT ND
open C8 (pss_cut tCut pe_gc)
abbrev sFullC : Stmt := inClass (top 42) 9
abbrev NFu : List Str := ["self", "world", "name"]
section
variable {P : Program} {w : World} {K : PySem.W.Frag} {mg : Str → Option Value} {base : Heap} {C CI CT CU fi ft fu : Addr}
theorem scFuC : FnScope NFu ["self", "world"] (defScope sFullC) := ⟨rfl, rfl, rfl, by decide +kernel, rfl, by decide +kernel, by decide +kernel⟩
/-- a world with all choices -/
def spFull (C : Addr) : Sp := fun vs H Q _ => ∃ (c d : Addr) (ts : List Str) (ss : List Nat) (es : List (Row × Addr)) (nx : Int) (o : Nat → Nat), vs = [.ref c, .ref d] ∧ StandF C ts ss c es nx H ∧ ShAt H d ts o ∧
  ∀ (p : Addr) (H' : Hp), H p = none → Same H H' → WAt H' p ts o → Q (.ref p) H'
theorem ok_full {f : Addr} {fd : FuncData} (F : Fun K "full" "Choices.full" sFullC f fd) (T : Txt P K mg C CI CT CU fi ft fu) : FnOk P w K mg base CX0 1 f fd ["self", "world"] (spFull C) := by
  refine F.ok scFuC (fun vs H Q E h => ?_) (fun cdv A outer s H vs Q E hr h => ?_)
  · obtain ⟨c, d, ts, ss, es, nx, o, rfl, _⟩ := h
    rfl
  · obtain ⟨c, d, ts, ss, es, nx, o, rfl, st, sh, k⟩ := h
    have nd := scFuC.nd
    have hu : _ + 1 < cLine := Nat.lt_of_le_of_lt (Nat.add_le_add_left (by decide : 1 ≤ 64) _) hr.units
    refine ⟨_, pss_one (ps_ret (pe_dd (o0 := .dK []) (own := [("name", 2)]) (g := gName 2) (tt := tYes) (.inl rfl) (by exact hr.units0) rfl nd (pi_tup (pe_fld (pv 0) rfl)) (blkOk_by (N := NFu) (sc := defScope sFullC) (by decide +kernel)) (fun _ _ _ _ _ => pg_name (i := 2) nd rfl (.inl rfl)) (fun _ _ _ _ _ => pts_nil)
      (fun _ _ _ _ _ => pv 2) (fun _ _ _ _ _ => pe_dget2 hu (pv 1) (pv 2) pe_int ⟨by rfl, by rfl, by rfl, by rfl⟩))), ?_⟩
    obtain ⟨dx, tn, td, hcc, cp⟩ := id st.hc
    obtain ⟨kvs, ed, gd'⟩ := id sh
    have len := st.sc.len
    refine ⟨_, rfl, c, C, dx, _, _, rfl, hcc, T.cl, T.nN, lk_names, tn, rfl, ⟨_, cp.tn.sq⟩, fun D hD => ?_⟩
    refine dd_it (walk_tup (K := K) (a := tn) (xs := es.map fun e => V.str e.1.1)) (fun j H' => Same H H' ∧ H' D = some (.dK (wkv (nmOf ts) j o))) ⟨same_new hD, upd_same⟩ (fun j H' _ h => (cp.tn.same h.1).sq) ?_ ?_
    · rintro j z H2 H3 hj ⟨sm, eD⟩ ⟨rfl, hz⟩
      rw [List.length_map] at hj
      replace hz : (es.map fun e => V.str e.1.1)[j]? = some z := hz
      have le := st.rw'.1
      have e1 := (st.rw'.2 j es[j] (List.getElem?_eq_getElem hj)).1
      have enm : nmOf ts j = es[j].1.1 := by
        unfold nmOf
        rw [List.getD_eq_getElem?_getD, e1]
        rfl
      have hz' : z = V.str (nmOf ts j) := by
        rw [List.getElem?_map, List.getElem?_eq_getElem hj] at hz
        rw [enm]
        exact (Option.some.inj hz).symm
      subst hz'
      refine ⟨rfl, _, rfl, _, rfl, d, rfl, .inl ⟨kvs, .inl (sm _ _ ed)⟩, _, rfl, valV kvs (Sum.inr (nmOf ts j) : Key), .inl ⟨kvs, Sum.inr (nmOf ts j), .inl (sm _ _ ed), rfl, rfl⟩, _, DPut.k (k := .inr (nmOf ts j)) eD ?_, same_off sm hD, ?_⟩
      · unfold wkv
        rw [List.length_map, List.length_range]
        have := cp.le
        have := sizeLine_eq
        omega
      · rw [upd_same, gd' j (by omega), putK_new fun kv m e => ?_, wkv_snoc]
        obtain ⟨i, hi, rfl⟩ := List.mem_map.mp m
        have hi := List.mem_range.mp hi
        have := nmOf_inj st.sc.gd.1 (by omega) (by omega) (Sum.inr.inj e)
        omega
    · rintro H2 ⟨sm, eD⟩
      rw [List.length_map, st.rw'.1] at eD
      exact k D H2 hD sm eD
end
end R52
namespace R52
open PySem L2 L3 FT ND
open C8 (pss_cut tCut pe_gc)
abbrev sPriced : Stmt := top 28
theorem passAtQ {X : Cx} {σ : L2.St} : PassesAt (L2.CX X.prog X.w) X σ E0 := fun _ _ _ _ _ _ h => by
  obtain ⟨_, _, _, _, _, _, _, _, _, _, _, _, z⟩ := h
  exact z.elim
structure OwnQ (P : Program) (w : World) (K : PySem.W.Frag) (mg : Str → Option Value) (base : Heap) (C CU fG : Addr) (fdG : FuncData) : Prop where
  G : FnOk P w K mg base (L2.CX P w) 2 fG fdG ["self", "name"] (spGet 0 C CU)
  b : Binds K fdG ["self", "name"] []
  s : PySem.W.findIn K (.ref C) "__getitem__" = some (some (.ref fG))
  i : PySem.W.fnIn K fG = true
  f : PySem.W.isFn K (.ref fG) = true
/-- prices as they are told: a list, a tuple, nothing -/
def PricesAt (H : Hp) (q : Addr) (ts : List Str) (ss : List Nat) (pr : Nat → Nat → Int) : Prop := ∃ kvs : List (Key × V), H q = some (.dK kvs) ∧ ∀ l, l < ts.length →
  (valV kvs (Sum.inr (nmOf ts l) : Key) = none ∧ ∀ k, k < ksOf ss l → pr l k = 1) ∨ ∃ (E : Addr) (xs : List Int), valV kvs (Sum.inr (nmOf ts l) : Key) = some (.ref E) ∧ (H E = some (.lst (xs.map V.int)) ∨ H E = some (.tup (xs.map V.int))) ∧ xs.length = ksOf ss l ∧ ∀ k, k < ksOf ss l → xs[k]? = some (pr l k)
/-- what an option costs -/
def CostV (H : Hp) (v : V) : Option (Int × Int) → Prop
  | none => v = .non
  | some (x, y) => ∃ b, v = .ref b ∧ H b = some (.tup [.int x, .int y])
def CostL (H : Hp) (vs : List V) (n : Nat) (f : Nat → Option (Int × Int)) : Prop := vs.length = n ∧ ∀ k v, vs[k]? = some v → CostV H v (f k)
theorem CostV.same {H H' : Hp} {v : V} (s : Same H H') : ∀ {o : Option (Int × Int)}, CostV H v o → CostV H' v o
  | none, h => h
  | some (_, _), ⟨b, e, h⟩ => ⟨b, e, s _ _ h⟩
theorem CostL.same {H H' : Hp} {vs : List V} {n : Nat} {f : Nat → Option (Int × Int)} (s : Same H H') (h : CostL H vs n f) : CostL H' vs n f := ⟨h.1, fun k v e => (h.2 k v e).same s⟩
/-- all options of all choices -/
def CostsAt (H : Hp) (p : Addr) (ts : List Str) (ss : List Nat) (cs : Nat → Nat → Option (Int × Int)) : Prop := ∃ kvs : List (Key × V), H p = some (.dK kvs) ∧ ∀ l, l < ts.length → ∃ (L : Addr) (vs : List V), valV kvs (Sum.inr (nmOf ts l) : Key) = some (.ref L) ∧ H L = some (.lst vs) ∧ CostL H vs (ksOf ss l) (cs l)
theorem CostsAt.same {H H' : Hp} {p : Addr} {ts : List Str} {ss : List Nat} {cs : Nat → Nat → Option (Int × Int)} (s : Same H H') (h : CostsAt H p ts ss cs) : CostsAt H' p ts ss cs := by
  obtain ⟨kvs, e, k⟩ := h
  refine ⟨kvs, s _ _ e, fun l hl => ?_⟩
  obtain ⟨L, vs, e1, e2, e3⟩ := k l hl
  exact ⟨L, vs, e1, s _ _ e2, e3.same s⟩
theorem CostV.off {H H' : Hp} {D : Addr} {kvs : List (Key × V)} {v : V} (eD : H D = some (.dK kvs)) (s : ∀ b u, b ≠ D → H b = some u → H' b = some u) : ∀ {o : Option (Int × Int)}, CostV H v o → CostV H' v o
  | none, h => h
  | some (_, _), ⟨b, e, h⟩ => ⟨b, e, s _ _ (fun z => by rw [z, eD] at h; cases h) h⟩
theorem CostV.offL {H H' : Hp} {D : Addr} {us : List V} {v : V} (eD : H D = some (.lst us)) (s : ∀ b u, b ≠ D → H b = some u → H' b = some u) : ∀ {o : Option (Int × Int)}, CostV H v o → CostV H' v o
  | none, h => h
  | some (_, _), ⟨b, e, h⟩ => ⟨b, e, s _ _ (fun z => by rw [z, eD] at h; cases h) h⟩
theorem CostL.off {H H' : Hp} {D : Addr} {kvs : List (Key × V)} {vs : List V} {n : Nat} {f : Nat → Option (Int × Int)} (eD : H D = some (.dK kvs)) (s : ∀ b u, b ≠ D → H b = some u → H' b = some u) (h : CostL H vs n f) : CostL H' vs n f := ⟨h.1, fun k v e => (h.2 k v e).off eD s⟩
theorem ones : ∀ n : Nat, (List.replicate n [V.int 1]).flatten = (List.replicate n (1 : Int)).map V.int
  | 0 => rfl
  | n + 1 => by
    rw [List.replicate_succ, List.flatten_cons, ones n, List.replicate_succ]
    rfl
theorem has_nm {nm : Nat → Str} {N : Nat} {ks : Nat → Nat} {es : List (Row × Addr)} (ci : ChIs N ks nm es) {l : Nat} (hl : l < N) : hasB (nm l) es = true := by
  have hN := ci.len
  obtain ⟨el, hel⟩ : ∃ el, es[l]? = some el := ⟨_, List.getElem?_eq_getElem (by omega)⟩
  exact List.any_eq_true.mpr ⟨el, List.mem_of_getElem? hel, decide_eq_true (ci.nm l el hel)⟩
theorem get_ks {C c : Addr} {ts : List Str} {ss : List Nat} {es : List (Row × Addr)} {nx : Int} {H : Hp} (st : StandF C ts ss c es nx H) {l : Nat} (hl : l < ss.length) {e : Row × Addr} (me : e ∈ es) (ez : e.1.1 = nmOf ts l) : rowI 0 e.1 = ((ksOf ss l : Nat) : Int) := by
  obtain ⟨M, S⟩ := st.sc.sce
  have ci := st.ci
  obtain ⟨j, hj⟩ := List.mem_iff_getElem?.mp me
  have lj : j < ss.length := by
    have := (List.getElem?_eq_some_iff.mp hj).1
    rw [ci.len] at this
    exact this
  have : j = l := S.nmI j l lj hl ((ci.nm j e hj).symm.trans ez)
  subst this
  exact ci.ks j e hj
theorem ks_two {C c : Addr} {ts : List Str} {ss : List Nat} {es : List (Row × Addr)} {nx : Int} {H : Hp} (st : StandF C ts ss c es nx H) {l : Nat} (hl : l < ss.length) : 2 ≤ ksOf ss l ∧ ksOf ss l ≤ 4 := by
  unfold ksOf
  rw [List.getD_eq_getElem?_getD, List.getElem?_eq_getElem hl]
  exact st.sc.sz _ (List.getElem_mem hl)
def pricedC (o : Nat → Nat) (pr : Nat → Nat → Int) (l k : Nat) : Option (Int × Int) := some (if k = o l then (0, 0) else (pr l k, 1))
abbrev NPr : List Str := ["choices", "world", "prices", "costs", "name", "each", "option"]
section
variable {P : Program} {w : World} {K : PySem.W.Frag} {mg : Str → Option Value} {base : Heap} {C CI CT CU fi ft fu : Addr}
theorem scPr : FnScope NPr ["choices", "world", "prices"] (defScope sPriced) := ⟨rfl, rfl, rfl, by decide +kernel, rfl, by decide +kernel, by decide +kernel⟩
def spPriced (C : Addr) : Sp := fun vs H Q _ => ∃ (c d q : Addr) (ts : List Str) (ss : List Nat) (es : List (Row × Addr)) (nx : Int) (o : Nat → Nat) (pr : Nat → Nat → Int), vs = [.ref c, .ref d, .ref q] ∧ StandF C ts ss c es nx H ∧ WAt H d ts o ∧ Good ss.length (ksOf ss) o ∧ PricesAt H q ts ss pr ∧
  ∀ (p : Addr) (H' : Hp), H p = none → Same H H' → CostsAt H' p ts ss (pricedC o pr) → Q (.ref p) H'
theorem ok_priced {f fQ : Addr} {fd fdQ : FuncData} (F : Fun K "priced" "priced" sPriced f fd) (T : Txt P K mg C CI CT CU fi ft fu) (G : OwnQ P w K mg base C CU fQ fdQ) (zRng : mg "range" = none) : FnOk P w K mg base CX0 4 f fd ["choices", "world", "prices"] (spPriced C) := by
  refine F.ok scPr (fun vs H Q E h => ?_) (fun cdv A outer s H vs Q E hr h => ?_)
  · obtain ⟨c, d, q, ts, ss, es, nx, o, pr, rfl, _⟩ := h
    rfl
  · obtain ⟨c, d, q, ts, ss, es, nx, o, pr, rfl, st, wa, go, pa, k⟩ := h
    have nd := scPr.nd
    have hu : _ + 1 < cLine := Nat.lt_of_le_of_lt (Nat.add_le_add_left (by decide : 1 ≤ 64) _) hr.units
    refine ⟨_, pss_cons (ps_set (i := 3) nd rfl (.inl rfl) pe_dnewK)
      (pss_cons (ps_for PassesOwn.never rfl (pi_tup (pe_fld (pv 0) rfl)) (pg_name (i := 4) nd rfl (.inr rfl))
        (pss_cons (ps_set (i := 5) nd rfl (.inr rfl) (pe_dget2 hu (pv 2) (pv 4) (pe_op op_repT (pe_tup (pa_cons pe_int pa_nil)) (pe_ixOwn G.G (hr.mono (by omega)) G.b (fun σ => passAtQ) G.s G.i G.f (pv 0) (pv 4))) ⟨by rfl, by rfl, by rfl, by rfl⟩))
        (pss_one (ps_dput hu (pv 3) (pv 4) (pe_lc (own := [("option", 6)]) (g := gName 6) (tt := tYes) rfl nd (pi_range1 (by rfl) zRng (pa_cons (pe_ixOwn G.G (hr.mono (by omega)) G.b (fun σ => passAtQ) G.s G.i G.f (pv 0) (pv 4)) pa_nil)) (blkOk_by (N := NPr) (sc := defScope sPriced) (by decide +kernel)) (fun _ _ _ _ _ => pg_name (i := 6) nd rfl (.inl rfl)) (fun _ _ _ _ _ => pts_nil)
          (fun _ _ _ _ _ => pe_ifExp (pt_cmpR op_eq (pv 6) (pe_dget hu (pv 1) (pv 4) (fun _ _ => rfl)) (nomark _)) (pe_tup (pa_cons pe_int (pa_cons pe_int pa_nil))) (pe_tup (pa_cons (pe_ix (r := rIx K) (by exact ix_seq) (pv 5) (pv 6) (fun _ _ => rfl)) (pa_cons pe_int pa_nil))))) rfl))))
      (pss_one (ps_ret (pv 3)))), ?_⟩
    obtain ⟨dx, tn, td, hcc, cp⟩ := id st.hc
    obtain ⟨kvp, eq, gp⟩ := id pa
    have len := st.sc.len
    refine fun D hD => ?_
    have s1 := same_new (o := HO.dK []) hD
    refine ⟨_, rfl, c, C, dx, _, _, rfl, s1 _ _ hcc, T.cl, T.nN, lk_names, tn, rfl, ⟨_, (cp.tn.same s1).sq⟩, ?_⟩
    have kD : ∀ {b : Addr} {u : HO}, H b = some u → b ≠ D := fun e z => by rw [z, hD] at e; cases e
    have same_of : ∀ {H' : Hp}, (∀ b u, b ≠ D → H b = some u → H' b = some u) → Same H H' := fun h b u e => h b u (kD e) e
    refine for_it (walk_tup (K := K) (a := tn) (xs := es.map fun e => V.str e.1.1)) (fun j σ H' => ∃ (o4 o5 : Option V) (kvs : List (Key × V)), σ = [some (.ref c), some (.ref d), some (.ref q), some (.ref D), o4, o5, none] ∧ Same H H' ∧ H' D = some (.dK kvs) ∧ kvs.length ≤ j ∧ ∀ l, l < j → ∃ (L : Addr) (vs : List V), valV kvs (Sum.inr (nmOf ts l) : Key) = some (.ref L) ∧ H' L = some (.lst vs) ∧ CostL H' vs (ksOf ss l) (pricedC o pr l))
      ⟨none, none, [], rfl, s1, upd_same, Nat.le_refl _, fun l h => absurd h (Nat.not_lt_zero _)⟩ (fun j σ H' _ ⟨_, _, _, _, h, _⟩ => (cp.tn.same h).sq) ?_ ?_
    · rintro j z σ H2 H3 hj ⟨o4, o5, kvs, rfl, sm, eD, lk, inv⟩ ⟨rfl, hz⟩
      rw [List.length_map] at hj
      replace hz : (es.map fun e => V.str e.1.1)[j]? = some z := hz
      have le := st.rw'.1
      have e1 := (st.rw'.2 j es[j] (List.getElem?_eq_getElem hj)).1
      have enm : nmOf ts j = es[j].1.1 := by
        unfold nmOf
        rw [List.getD_eq_getElem?_getD, e1]
        rfl
      have hz' : z = V.str (nmOf ts j) := by
        rw [List.getElem?_map, List.getElem?_eq_getElem hj] at hz
        rw [enm]
        exact (Option.some.inj hz).symm
      subst hz'
      have hjs : j < ss.length := by omega
      have st3 := st.same sm
      obtain ⟨k2, k4⟩ := ks_two st hjs
      refine ⟨_, rfl, q, rfl, .inl ⟨kvp, .inl (sm _ _ eq)⟩, _, rfl, (show 1 ≤ sizeLine by decide), fun T1 hT1 => ?_⟩
      have sT := same_new (o := HO.tup [V.int 1]) hT1
      have eT : upd H3 T1 (.tup [V.int 1]) T1 = some (.tup [V.int 1]) := upd_same
      have eD4 := sT _ _ eD
      show tIxOwn _ _ _ _ _ _ (upd H3 T1 (.tup [V.int 1])) _
      generalize upd H3 T1 (.tup [V.int 1]) = H4 at sT eT eD4 ⊢
      have st4 := st3.same sT
      have sm4 := sm.trans sT
      refine ⟨_, rfl, _, rfl, c, dx, _, rfl, sm4 _ _ hcc, c, nmOf ts j, nx, es, rfl, st4.hc, fun hb => absurd ((has_nm st4.ci hjs).symm.trans hb) (by decide), fun e me ez => ?_⟩
      rw [get_ks st4 hjs me ez]
      refine ⟨T1, _, _, rfl, rfl, SqT.of eT, (fun e => nomatch e), by omega, by omega, by decide, fun p hp => ?_⟩
      have en : (((ksOf ss j : Nat) : Int)).toNat = ksOf ss j := by omega
      rw [en, ones]
      have s5 := same_new (o := HO.tup ((List.replicate (ksOf ss j) (1 : Int)).map V.int)) hp
      have ep : upd H4 p (.tup ((List.replicate (ksOf ss j) (1 : Int)).map V.int)) p = some (.tup ((List.replicate (ksOf ss j) (1 : Int)).map V.int)) := upd_same
      have eD5 := s5 _ _ eD4
      have s35 := sT.trans s5
      have sm5 := sm4.trans s5
      generalize upd H4 p (.tup ((List.replicate (ksOf ss j) (1 : Int)).map V.int)) = H5 at s5 ep eD5 s35 sm5 ⊢
      refine ⟨_, .inl ⟨kvp, Sum.inr (nmOf ts j), .inl (sm5 _ _ eq), rfl, rfl⟩, ?_⟩
      obtain ⟨E', xs, eE, sE, lE, aE⟩ : ∃ (E' : Addr) (xs : List Int), (valV kvp (Sum.inr (nmOf ts j) : Key)).getD (.ref p) = .ref E' ∧ (H5 E' = some (.lst (xs.map V.int)) ∨ H5 E' = some (.tup (xs.map V.int))) ∧ xs.length = ksOf ss j ∧ ∀ k, k < ksOf ss j → xs[k]? = some (pr j k) := by
        rcases gp j (by omega) with ⟨h1, h2⟩ | ⟨E', xs, h1, h2, h3, h4⟩
        · exact ⟨p, _, by rw [h1]; rfl, .inr ep, List.length_replicate, fun k hk => by rw [List.getElem?_replicate, if_pos hk, h2 k hk]⟩
        · exact ⟨E', xs, by rw [h1]; rfl, h2.imp (sm5 _ _) (sm5 _ _), h3, h4⟩
      rw [eE]
      have st5 := st4.same s5
      refine ⟨_, rfl, _, rfl, c, dx, _, rfl, sm5 _ _ hcc, c, nmOf ts j, nx, es, rfl, st5.hc, fun hb => absurd ((has_nm st5.ci hjs).symm.trans hb) (by decide), fun e me ez => ?_⟩
      rw [get_ks st5 hjs me ez]
      refine ⟨_, rfl, by omega, by omega, fun L hL => ?_⟩
      refine lc_range (lo := 0) (n := (((ksOf ss j : Nat) : Int)).toNat) (fun i H' => (∀ b u, b ≠ L → H5 b = some u → H' b = some u) ∧ ∃ vs : List V, H' L = some (.lst vs) ∧ vs.length = i ∧ ∀ k v, vs[k]? = some v → CostV H' v (pricedC o pr j k))
        ⟨fun b u nb e => by rw [upd_ne nb]; exact e, [], upd_same, rfl, fun k v e => by simp at e⟩ ?_ ?_
      · rintro i H6 hi ⟨k6, vs, eL, lv, av⟩
        rw [en] at hi
        have s6 : Same H5 H6 := fun b u e => k6 b u (fun z => by rw [z, hL] at e; cases e) e
        have put : ∀ (b : Addr) (x y : Int), H6 b = none → some (x, y) = pricedC o pr j i → ∃ acc, upd H6 b (.tup [.int x, .int y]) L = some (.lst acc) ∧ acc.length < sizeLine ∧ (∀ b' u, b' ≠ L → H5 b' = some u → upd (upd H6 b (.tup [.int x, .int y])) L (.lst (acc ++ [V.ref b])) b' = some u) ∧ ∃ vs : List V, upd (upd H6 b (.tup [.int x, .int y])) L (.lst (acc ++ [V.ref b])) L = some (.lst vs) ∧ vs.length = i + 1 ∧ ∀ k v, vs[k]? = some v → CostV (upd (upd H6 b (.tup [.int x, .int y])) L (.lst (acc ++ [V.ref b]))) v (pricedC o pr j k) := fun b x y hb e => by
          have sb := same_new (o := HO.tup [.int x, .int y]) hb
          have bL : b ≠ L := fun z => by rw [z, eL] at hb; cases hb
          have off : ∀ b' u, b' ≠ L → upd H6 b (.tup [.int x, .int y]) b' = some u → upd (upd H6 b (.tup [.int x, .int y])) L (.lst (vs ++ [V.ref b])) b' = some u := fun b' u nb e => by rw [upd_ne nb]; exact e
          refine ⟨vs, sb _ _ eL, by have := sizeLine_eq; omega, fun b' u nb e' => off _ _ nb (sb _ _ (k6 _ _ nb e')), vs ++ [V.ref b], upd_same, by rw [List.length_append, lv]; rfl, fun k' v hv => ?_⟩
          rcases Nat.lt_or_ge k' vs.length with g | g
          · rw [List.getElem?_append_left g] at hv
            exact ((av k' v hv).same sb).offL (sb _ _ eL) off
          · rw [List.getElem?_append_right g] at hv
            have ek : k' - vs.length = 0 := by
              rcases Nat.eq_zero_or_pos (k' - vs.length) with w | w
              · exact w
              · rw [List.getElem?_eq_none (by rw [List.length_singleton]; exact w)] at hv; cases hv
            rw [ek] at hv
            cases hv
            have : k' = i := by omega
            rw [this, ← e]
            exact ⟨b, rfl, off _ _ bL upd_same⟩
        have wa6 : WAt H6 d ts o := s6 _ _ (sm5 _ _ wa)
        refine ⟨rfl, _, rfl, _, rfl, _, rfl, d, .int ((o j : Nat) : Int), rfl, .inl ⟨_, Sum.inr (nmOf ts j), .inl wa6, rfl, (wkv_get st.sc.gd.1 (by omega)).symm⟩, rfl, _, rfl, ?_⟩
        by_cases h : i = o j
        · refine ifT (decide_eq_true (by rw [h, Int.zero_add])) ⟨(show 2 ≤ sizeLine by decide), fun b hb => ?_⟩
          exact put b 0 0 hb (by unfold pricedC; rw [if_pos h])
        · refine ifF (decide_eq_false fun z => h (by have := V.int.inj z; omega)) ?_
          have hx := aE i hi
          refine ⟨_, rfl, _, rfl, ?_⟩
          have at1 : atI (xs.map V.int) (0 + ((i : Nat) : Int)) = some (.int (pr j i)) := by
            rw [Int.zero_add]
            exact atI_nat (by rw [List.getElem?_map, hx]; rfl)
          have fin := fun b hb => put b (pr j i) 1 hb (by unfold pricedC; rw [if_neg h])
          rcases sE with sE | sE
          · exact .inl ⟨E', _, _, _, rfl, rfl, SqL.of (s6 _ _ sE), at1, (show 2 ≤ sizeLine by decide), fun b hb => fin b hb⟩
          · exact .inr (.inl ⟨E', _, _, _, rfl, rfl, SqT.of (s6 _ _ sE), at1, (show 2 ≤ sizeLine by decide), fun b hb => fin b hb⟩)
      rintro H6 ⟨k6, vs, eL, lv, av⟩
      rw [en] at lv
      have s6 : Same H5 H6 := fun b u e => k6 b u (fun z => by rw [z, hL] at e; cases e) e
      refine ⟨_, rfl, _, rfl, D, _, rfl, DPut.k (k := .inr (nmOf ts j)) (s6 _ _ eD5) ?_, _, _, _, rfl, ?_, upd_same, ?_, fun l hl => ?_⟩
      · have := st.sc.few
        have := sizeLine_eq
        omega
      · exact fun b u e => by rw [upd_ne (kD e)]; exact s6 _ _ (sm5 _ _ e)
      · have := length_putK kvs (Sum.inr (nmOf ts j) : Key) (.ref L)
        omega
      · have offD : ∀ b u, b ≠ D → H6 b = some u → upd H6 D (.dK (putK kvs (Sum.inr (nmOf ts j) : Key) (.ref L))) b = some u := fun b u nb e => by rw [upd_ne nb]; exact e
        have LD : L ≠ D := fun z => by rw [z, eD5] at hL; cases hL
        have eD6 := s6 _ _ eD5
        rw [valV_put]
        by_cases h : l = j
        · subst h
          rw [if_pos rfl]
          exact ⟨L, vs, rfl, offD _ _ LD eL, CostL.off eD6 offD ⟨lv, av⟩⟩
        · rw [if_neg fun z => h (nmOf_inj st.sc.gd.1 (by omega) (by omega) (Sum.inr.inj z))]
          obtain ⟨L', vs', e1, e2, e3⟩ := inv l (by omega)
          have LD' : L' ≠ D := fun z => by rw [z, eD] at e2; cases e2
          have s36 := s35.trans s6
          exact ⟨L', vs', e1, offD _ _ LD' (s36 _ _ e2), (e3.same s36).off eD6 offD⟩
    rintro σ H2 ⟨o4, o5, kvs, rfl, sm, eD, lk, inv⟩
    rw [List.length_map, st.rw'.1] at inv
    exact ⟨_, rfl, k D H2 hD sm ⟨kvs, eD, inv⟩⟩
end
end R52
namespace L2
open PySem PySem.Spec PyProof.Rows
section
variable {X : Cx}
def PairV (H : Hp) (y : V) (x : Int × Int) : Prop := ∃ t, y = V.ref t ∧ H t = some (.tup [.int x.1, .int x.2])
def rMinP (K : PySem.W.Frag) : List V → List V → Hp → VK → Prop := fun vs zs H Q => ∃ (a : Addr) (ys : List V) (ns : List (Int × Int)), vs = [V.ref a] ∧ zs = [V.non] ∧ SqL K H a ys ∧ Paired (PairV H) ys ns ∧ (ns = [] → Q .non H) ∧
  ∀ (x : Int × Int) (xs : List (Int × Int)) (i : Nat) (v : V), ns = x :: xs → ys[i]? = some v → ns[i]? = some (PySem.W.minOf x xs) → Q v H
theorem pairs_dp {K : PySem.W.Frag} {H : Hp} {ys : List V} {ns : List (Int × Int)} (h : Paired (PairV H) ys ns) : DpAll K H ys (ns.map PySem.W.Datum.toD) := by
  induction h with
  | nil => exact .nil
  | cons a _ ih =>
    obtain ⟨t, rfl, e⟩ := a
    exact .cons (.tup (SqT.of e) (.cons (.int _) (.cons (.int _) .nil))) ih
theorem paired_at {α β : Type} {F : α → β → Prop} {xs : List α} {ys : List β} (h : Paired F xs ys) : ∀ {j : Nat} {x : α}, xs[j]? = some x → ∃ y, ys[j]? = some y ∧ F x y := by
  induction h with
  | nil => exact fun e => by simp at e
  | cons a _ ih =>
    intro j x e
    cases j with
    | zero => cases e; exact ⟨_, rfl, a⟩
    | succ j => exact ih e
theorem paired_at2 {α β : Type} {F : α → β → Prop} {xs : List α} {ys : List β} (h : Paired F xs ys) : ∀ {j : Nat} {y : β}, ys[j]? = some y → ∃ x, xs[j]? = some x ∧ F x y := by
  induction h with
  | nil => exact fun e => by simp at e
  | cons a _ ih =>
    intro j x e
    cases j with
    | zero => cases e; exact ⟨_, rfl, a⟩
    | succ j => exact ih e
theorem cr_minP (hc : X.calm = true) (hu : X.A.units + 64 < cLine) : CallRK X (.builtin "min") [Str.ofString "default"] (rMinP X.K) := by
  intro pins s σ H vs zs us ws Q I r rz h
  obtain ⟨a, ys, ns, rfl, rfl, hs, hp, h0, h1⟩ := h
  obtain ⟨w1, rfl, e1⟩ := vals1 rz
  cases (show w1 = Value.none from e1)
  obtain ⟨its, rv, hl, _⟩ := I.list hs
  rw [Vals.ref1 r]
  obtain ⟨as, ra⟩ := Dp.readsAll I (ns.map PySem.W.Datum.toD) ys its (pairs_dp hp) rv
  refine PySem.W.min_list_datum_default (α := Int × Int) (xs := ns) (I.ok.hd hc) hl.isList ⟨as, by simpa using ra⟩ (Nat.lt_of_le_of_lt (Nat.add_le_add_left (show 1 + 1 ≤ 64 by decide) X.A.units |> fun z => by rw [Nat.add_assoc]; exact z) hu) (fun e h' tk hk => ⟨.non, H, I.kept hk, rfl, h0 e⟩) fun y xs i v h' tk e hi hr hk => ?_
  have hi' : its[i]? = some v := by simpa using hi
  obtain ⟨y0, ey, ry⟩ := paired_at2 rv hi'
  obtain ⟨n0, en, t, rfl, et⟩ := paired_at hp ey
  refine ⟨.ref t, H, I.kept hk, ry, h1 y xs i _ e ey ?_⟩
  obtain ⟨bs, rb⟩ := hr
  obtain ⟨cs, rc⟩ := Dp.reads I (PySem.W.Datum.toD n0) (.ref t) v (.tup (SqT.of et) (.cons (.int _) (.cons (.int _) .nil))) ry
  have e2 := (reads_det (fun b o e _ => hk b o e) rc rb).1
  have inj : ∀ p q : Int × Int, (PySem.W.Datum.toD p : PyData) = PySem.W.Datum.toD q → p = q := fun p q e => by
    have e' : PyData.tuple [.int p.1, .int p.2] = PyData.tuple [.int q.1, .int q.2] := e
    injection e' with e'
    injection e' with a b
    injection b with b _
    injection a with a
    injection b with b
    exact Prod.ext a b
  rw [en, inj _ _ e2]
end
end L2
namespace ZN
open PySem PySem.Spec PyProof.Rows L2 RZ
def ItK : Bool → Heap → Addr → Addr → Nat → Prop
  | true => Heap.IsTupleIter
  | false => Heap.IsListIter
def ObK : Bool → Heap → Addr → Array Value → Prop
  | true => Heap.IsTuple
  | false => Heap.IsList
def SqK : Bool → PySem.W.Frag → Hp → Addr → List V → Prop
  | true => SqT
  | false => SqL
def itC : Bool → String
  | true => "tuple_iterator"
  | false => "list_iterator"
section
variable {k : Bool} {h h' : Heap} {a l : Addr} {i : Nat} {xs : Array Value}
theorem ItK.at (x : ItK k h a l i) (e : ∀ o, h.get? a = some o → h'.get? a = some o) : ItK k h' a l i := by
  cases k
  · exact Heap.IsListIter.at x e
  · exact Heap.IsTupleIter.at x e
theorem ObK.at (x : ObK k h a xs) (e : ∀ o, h.get? a = some o → h'.get? a = some o) : ObK k h' a xs := by
  cases k
  · exact Heap.IsList.at x e
  · exact Heap.IsTuple.at x e
theorem ItK.obj (x : ItK k h a l i) : ∃ o, h.get? a = some o ∧ o.data = .fields #[.ref l, .int i 0] := by
  cases k <;> (obtain ⟨o, e, _, d⟩ := x; exact ⟨o, e, d⟩)
theorem ItK.new (e : h.get? a = some { cls := .type (itC k), data := .fields #[.ref l, .int 0 0] }) : ItK k h a l 0 := by
  cases k
  · exact ⟨_, e, rfl, rfl⟩
  · exact ⟨_, e, rfl, rfl⟩
end
section
variable {prog : Program} {w : World} {A : Around} {E : Value → Shared → Prop} {s : Shared} {k : Bool} {it l : Addr} {i : Nat} {xs : Array Value}
theorem iter_k {Q : Value → Shared → Prop} (hl : ObK k s.heap l xs) (h : Q (.ref s.heap.objs.size) { s with heap := s.heap.push { cls := .type (itC k), data := .fields #[.ref l, .int 0 0] } }) : wpAny (model prog w) A (pyIter (.ref l)) Q E s := by
  cases k
  · exact wpAny_pyIter_list hl h
  · exact wpAny_pyIter_tuple hl h
/-- the next item, or the end -/
theorem next_k {Q : Value → Shared → Prop} (hh : A.handled = none ∨ i < xs.size) (hit : ItK k s.heap it l i) (hl : ObK k s.heap l xs)
    (hQ : ∀ x h', xs[i]? = some x → ItK k h' it l (i + 1) → Heap.SameBut it s.heap h' → Q x { s with heap := h' })
    (hE : ∀ h' e, xs[i]? = none → Heap.ExtBut it s.heap h' → (∃ o, h'.get? e = some o ∧ o.cls = .type "StopIteration") → E (.ref e) { s with heap := h' }) : wpAny (model prog w) A (Builtin.SmallTypes.nextOf (.ref it)) Q E s := by
  cases hx : xs[i]? with
  | some x =>
    cases k
    · exact wpAny_nextOf_list_item hit hl hx fun h' => hQ x h' hx
    · exact nextOf_tuple_item hit hl hx fun h' => hQ x h' hx
  | none =>
    have hh : A.handled = none := hh.resolve_right fun q => by rw [Array.getElem?_eq_getElem q] at hx; cases hx
    cases k
    · exact wpAny_nextOf_list_end hh hit hl hx fun h' e => hE h' e hx
    · exact nextOf_tuple_end hh hit hl hx fun h' e => hE h' e hx
/-- a loop whose state is told by the number of turns -/
theorem wp_each {M : Model} {α β : Type} {f : α → β → Sem (ForInStep β)} (b : Nat → β) (P : Nat → Shared → Prop) {Q : β → Shared → Prop} : ∀ (l : List α) (n : Nat) (s : Shared),
    (∀ j x s', l[j]? = some x → P (n + j) s' → wpAny M A (f x (b (n + j))) (fun r s'' => r = .yield (b (n + j + 1)) ∧ P (n + j + 1) s'') E s') → P n s → (∀ s', P (n + l.length) s' → Q (b (n + l.length)) s') → wpAny M A (forIn l (b n) f) Q E s
  | [], n, s, _, h0, hd => by
    rw [List.forIn_nil]
    exact wpAny_pure (hd s h0)
  | x :: l, n, s, hs, h0, hd => by
    rw [List.forIn_cons]
    refine wpAny_bind (thn (hs 0 x s rfl h0) fun r s' ⟨e, p⟩ => ?_)
    rw [e]
    refine wp_each b P l (n + 1) s' (fun j y s'' hy p => ?_) p fun s'' p => ?_
    · have := hs (j + 1) y s'' hy (by rw [show n + (j + 1) = n + 1 + j by omega]; exact p)
      rw [show n + (j + 1) = n + 1 + j by omega] at this
      exact this
    · have := hd s'' (by rw [List.length_cons, show n + (l.length + 1) = n + 1 + l.length by omega]; exact p)
      rw [List.length_cons, show n + (l.length + 1) = n + 1 + l.length by omega] at this
      exact this
end
structure Src where
  k : Bool
  it : Addr
  l : Addr
  xs : Array Value
abbrev refsI (ss : List Src) : List Value := ss.map fun c => .ref c.it
structure Apt (z TI TO : Addr) (ss : List Src) : Prop where
  TIz : TI ≠ z
  TOz : TO ≠ z
  TITO : TI ≠ TO
  it : ∀ c ∈ ss, c.it ≠ z ∧ c.it ≠ TI ∧ c.it ≠ TO
  l : ∀ c ∈ ss, c.l ≠ z ∧ c.l ≠ TO
  li : ∀ c ∈ ss, ∀ d ∈ ss, c.l ≠ d.it
  inj : ∀ (i j : Nat) (c d : Src), ss[i]? = some c → ss[j]? = some d → c.it = d.it → i = j
/-- a tuple of these -/
abbrev TupV (h : Heap) (T : Addr) (vs : List Value) : Prop := h.get? T = some { cls := .type "tuple", data := .seq vs.toArray }
/-- all that stands elsewhere -/
def Else (z TO : Addr) (ss : List Src) (h h' : Heap) : Prop := ∀ c o, c ≠ z → c ≠ TO → (∀ d ∈ ss, c ≠ d.it) → h.get? c = some o → h'.get? c = some o
/-- each source stands at its place -/
def AtI (ss : List Src) (p : Nat → Nat) (h : Heap) : Prop := ∀ j c, ss[j]? = some c → ItK c.k h c.it c.l (p j) ∧ ObK c.k h c.l c.xs
/-- what each gives at a turn -/
def vals (ss : List Src) (i : Nat) : List Value := ss.map fun c => c.xs[i]?.getD .none
theorem vals_len (ss : List Src) (i : Nat) : (vals ss i).length = ss.length := List.length_map _
theorem vals_at {ss : List Src} {i j : Nat} {c : Src} (h : ss[j]? = some c) {x : Value} (hx : c.xs[i]? = some x) : (vals ss i)[j]? = some x := by
  unfold vals
  rw [List.getElem?_map, h, Option.map_some, hx]
  rfl
theorem put_next {vs old : List Value} {j : Nat} {x : Value} (hl : old.length = vs.length) (h : vs[j]? = some x) : ((vs.take j ++ old.drop j).toArray.setIfInBounds j x) = (vs.take (j + 1) ++ old.drop (j + 1)).toArray := by
  have hj : j < vs.length := (List.getElem?_eq_some_iff.mp h).1
  rw [List.setIfInBounds_toArray, List.set_append_right _ _ (by rw [List.length_take]; omega), List.length_take, Nat.min_eq_left (by omega), Nat.sub_self, List.take_add_one, h, List.drop_eq_getElem_cons (by omega : j < old.length), List.set_cons_zero, List.append_assoc]
  rfl
section
variable {prog : Program} {w : World} {A : Around} {E : Value → Shared → Prop} {s : Shared} {z TI TO : Addr} {ss : List Src} {i : Nat}
/-- a turn of a zip whose tuple is its own -/
theorem own_turn {old : List Value} {Q : Value → Shared → Prop} (D : Apt z TI TO ss) (ne : ss ≠ []) (few : ss.length ≤ 1000) (hh : A.handled = none ∨ ∀ c ∈ ss, i < c.xs.size) (hz : IsZip s.heap z TI TO .none) (hTI : TupV s.heap TI (refsI ss)) (hTO : TupV s.heap TO old) (hl : old.length = ss.length)
    (hI : AtI ss (fun _ => i) s.heap)
    (hQ : (∀ c ∈ ss, i < c.xs.size) → ∀ h', IsZip h' z TI TO (rawInt s.heap.objs.size) → TupV h' TO (vals ss i) → AtI ss (fun _ => i + 1) h' → TupV h' s.heap.objs.size (vals ss i) → h'.objs.size = s.heap.objs.size + 1 → Else z TO ss s.heap h' → Q (.ref s.heap.objs.size) { s with heap := h' })
    (hE : (∃ c ∈ ss, c.xs[i]? = none) → ∀ h' e, Else z TO ss s.heap h' → (∃ o, h'.get? e = some o ∧ o.cls = .type "StopIteration") → E (.ref e) { s with heap := h' }) :
    wpAny (model prog w) A (Builtin.«zip.__next__» ⟨[.ref z], []⟩) (fun fin s' => ∃ v, fin = .done (.ret v) ∧ Q v s') E s := by
  show wpAny _ _ (field (.ref z) 2 >>= _) _ _ _
  refine wpAny_bind (wpAny_field hz rfl (x := .bool false) rfl ?_); show wpAny _ _ (field (.ref z) 3 >>= _) _ _ _
  refine wpAny_bind (wpAny_field hz rfl (x := .ref TI) rfl (wpAny_bind (wpAny_seqItems hTI rfl ?_)))
  have ne' : (refsI ss).toArray.isEmpty = false := by
    cases ss with
    | nil => exact absurd rfl ne
    | cons c r => rfl
  simp only [ne', Bool.false_eq_true, if_false]
  refine wpAny_bind ?_
  unfold Builtin.SmallTypes.ownedTupleIsFree
  refine wpAny_bind (wpAny_field hz rfl (x := .none) rfl (wpAny_pure ?_)); simp only [if_true]
  refine wpAny_bind (wpAny_rule (wpAny_bind (wpAny_field hz rfl (x := .ref TO) rfl ?_)))
  refine wpAny_bind (wpAny_setField_rec hz (by simp) fun h₁ hz₁ hs₁ => ?_)
  replace hz₁ : IsZip h₁ z TI TO .ellipsis := hz₁
  refine wpAny_bind ?_
  have at₁ : AtI ss (fun _ => i) h₁ := fun j c hc => ⟨(hI j c hc).1.at fun o e => hs₁.extBut _ _ (D.it c (List.mem_of_getElem? hc)).1 e, (hI j c hc).2.at fun o e => hs₁.extBut _ _ (D.l c (List.mem_of_getElem? hc)).1 e⟩
  refine wp_each (fun _ => (none, ())) (fun j st => ∃ h, st = { s with heap := h } ∧ h.objs.size = s.heap.objs.size ∧ IsZip h z TI TO .ellipsis ∧ TupV h TO ((vals ss i).take j ++ old.drop j) ∧ AtI ss (fun m => if m < j then i + 1 else i) h ∧ Else z TO ss s.heap h ∧ ∀ m c, m < j → ss[m]? = some c → i < c.xs.size)
    (refsI ss).zipIdx 0 _ ?_ ⟨h₁, rfl, hs₁.1, hz₁, hs₁.extBut _ _ D.TOz hTO, fun j c hc => at₁ j c hc, fun c o c1 _ _ e => hs₁.extBut _ _ c1 e, fun m c hm _ => absurd hm (Nat.not_lt_zero _)⟩ ?_
  · rintro j ⟨v, n⟩ st hv ⟨h, rfl, hsz, hz', hto, hat, els, had⟩
    rw [List.getElem?_zipIdx, List.getElem?_map] at hv
    obtain ⟨v', hv', e⟩ := Option.map_eq_some_iff.mp hv
    obtain ⟨c, hc, rfl⟩ := Option.map_eq_some_iff.mp hv'
    cases e
    rw [Nat.zero_add] at hto hat had ⊢
    have mc := List.mem_of_getElem? hc
    obtain ⟨it1, ob1⟩ := hat j c hc
    replace it1 : ItK c.k h c.it c.l (if j < j then i + 1 else i) := it1
    rw [if_neg (Nat.lt_irrefl j)] at it1
    obtain ⟨nz, nTI, nTO⟩ := D.it c mc
    refine wpAny_bind (wpAny_onRaise ?_)
    show wpAny _ _ (Builtin.SmallTypes.nextOf (.ref c.it) >>= _) _ _ _
    refine wpAny_bind (next_k (hh.imp id fun q => q c mc) it1 ob1 (fun x h2 hx it2 sb => wpAny_pure ?_) fun h2 e hx eb he => ?_)
    · have hto2 : TupV h2 TO ((vals ss i).take j ++ old.drop j) := sb.extBut _ _ nTO.symm hto
      have size : ((vals ss i).take j ++ old.drop j).length ≤ 2000 := by
        have := vals_len ss i
        rw [List.length_append, List.length_take, List.length_drop]
        omega
      have lsz := sizeLine_eq
      refine wpAny_bind (wpAny_seqItems hto2 rfl (wpAny_bind (wpAny_updateSeq (hz := by rw [List.size_toArray, lsz]; omega) (_hz' := by rw [Array.size_setIfInBounds, List.size_toArray, lsz]; omega) hto2 rfl (wpAny_bind (wpAny_letGo (wpAny_pure ?_))))))
      have put := put_next (old := old) (hl.trans (vals_len ss i).symm) (vals_at hc hx)
      have sb3 : Heap.SameBut TO h2 (h2.update TO (Obj.mapSeq fun x_1 => x_1.setIfInBounds j x)) := Heap.SameBut.update ..
      have hto3 := Heap.get?_update_self (Obj.mapSeq fun x_1 => x_1.setIfInBounds j x) hto2 rfl
      refine ⟨rfl, _, rfl, ?_, ?_, ?_, fun m d hd => ?_, fun a o a1 a2 a3 e => ?_, fun m d hm hd => ?_⟩
      · rw [sb3.1, sb.1, hsz]
      · exact sb3.extBut _ _ D.TOz.symm (sb.extBut _ _ nz.symm hz')
      · show (h2.update TO _).get? TO = _
        rw [hto3, ← put]
        simp [Obj.mapSeq]
      · have md := List.mem_of_getElem? hd
        obtain ⟨p1, p2⟩ := hat m d hd
        refine ⟨?_, p2.at fun o e => sb3.extBut _ _ (D.l d md).2 (sb.extBut _ _ (D.li d md c mc) e)⟩
        show ItK d.k _ d.it d.l (if m < j + 1 then i + 1 else i)
        replace p1 : ItK d.k h d.it d.l (if m < j then i + 1 else i) := p1
        by_cases q : m = j
        · subst q
          rw [hd] at hc
          cases hc
          rw [if_pos (Nat.lt_succ_self _)]
          exact it2.at fun o e => sb3.extBut _ _ nTO e
        · have en : (if m < j + 1 then i + 1 else i) = if m < j then i + 1 else i := by
            by_cases g : m < j
            · rw [if_pos g, if_pos (by omega)]
            · rw [if_neg g, if_neg (by omega)]
          rw [en]
          exact p1.at fun o e => sb3.extBut _ _ (D.it d md).2.2 (sb.extBut _ _ (fun z => q (D.inj m j d c hd hc z)) e)
      · exact sb3.extBut _ _ a2 (sb.extBut _ _ (a3 c mc) (els a o a1 a2 a3 e))
      · by_cases g : m < j
        · exact had m d g hd
        · have : m = j := by omega
          subst this
          rw [hd] at hc
          cases hc
          exact (Array.getElem?_eq_some_iff.mp hx).1
    · have hz2 : IsZip h2 z TI TO .ellipsis := eb _ _ nz.symm hz'
      obtain ⟨oe, hoe, hce⟩ := he
      have ez : e ≠ z := fun q => by
        rw [q, hz2] at hoe
        cases hoe
        simp at hce
      refine wpAny_setField_rec hz2 (by simp) fun h3 _ sb3 => hE ⟨c, mc, hx⟩ h3 e (fun a o a1 a2 a3 e => sb3.extBut _ _ a1 (eb _ _ (a3 c mc) (els a o a1 a2 a3 e))) ⟨oe, sb3.extBut _ _ ez hoe, hce⟩
  · rintro st ⟨h, rfl, hsz, hz', hto, hat, els, had⟩
    have len : 0 + (refsI ss).zipIdx.length = ss.length := by rw [List.length_zipIdx, List.length_map, Nat.zero_add]
    rw [len] at hto hat had
    rw [List.take_of_length_le (by rw [vals_len]; exact Nat.le_refl _), List.drop_eq_nil_of_le (by omega), List.append_nil] at hto
    have all : ∀ c ∈ ss, i < c.xs.size := fun c hc => by
      obtain ⟨j, hj⟩ := List.mem_iff_getElem?.mp hc
      exact had j c (List.getElem?_eq_some_iff.mp hj).1 hj
    refine wpAny_bind (wpAny_seqItems hto rfl (wpAny_bind (wpAny_newTuple (hsz := by show (vals ss i).length ≤ sizeLine; rw [vals_len, sizeLine_eq]; omega) ?_)))
    have hzlt : z < h.objs.size := Heap.lt_size hz'
    have up6 : ∀ a o, h.get? a = some o → (h.push { cls := .type "tuple", data := .seq (vals ss i).toArray }).get? a = some o := fun a o e => Heap.get?_push_of_some _ e
    show wpAny _ _ (Builtin.SmallTypes.ownedTupleHandOut (.ref z) (.ref h.objs.size) >>= _) _ _ _
    unfold Builtin.SmallTypes.ownedTupleHandOut
    refine wpAny_bind (wpAny_bind (wpAny_setField_rec (up6 _ _ hz') (by simp) fun h7 hz7 hs7 => ?_))
    replace hz7 : IsZip h7 z TI TO (rawInt h.objs.size) := hz7
    refine wpAny_setField_rec hz7 (by simp) fun h8 hz8 hs8 => ?_
    replace hz8 : IsZip h8 z TI TO (rawInt h.objs.size) := hz8
    have up : ∀ a o, a ≠ z → h.get? a = some o → h8.get? a = some o := fun a o a1 e => hs8.extBut _ _ a1 (hs7.extBut _ _ a1 (up6 _ _ e))
    have hT : TupV h8 h.objs.size (vals ss i) := hs8.extBut _ _ (Nat.ne_of_gt hzlt) (hs7.extBut _ _ (Nat.ne_of_gt hzlt) (Heap.get?_push_size _ rfl))
    have hs : h8.objs.size = h.objs.size + 1 := by rw [hs8.1, hs7.1, Heap.size_push]
    rw [hsz] at hz8 hT hs
    refine wpAny_pure ⟨_, rfl, ?_⟩
    show Q (.ref h.objs.size) _
    rw [hsz]
    refine hQ all h8 hz8 (up _ _ D.TOz hto) (fun j c hc => ?_) hT hs fun a o a1 a2 a3 e => up a o a1 (els a o a1 a2 a3 e)
    have mc := List.mem_of_getElem? hc
    obtain ⟨p1, p2⟩ := hat j c hc
    replace p1 : ItK c.k h c.it c.l (if j < ss.length then i + 1 else i) := p1
    rw [if_pos (List.getElem?_eq_some_iff.mp hc).1] at p1
    exact ⟨p1.at fun o e => up _ _ (D.it c mc).1 e, p2.at fun o e => up _ _ (D.l c mc).1 e⟩
theorem next_own {old : List Value} {Q : Option Value → Shared → Prop} (D : Apt z TI TO ss) (ne : ss ≠ []) (few : ss.length ≤ 1000) (hh : A.handled = none ∨ ∀ c ∈ ss, i < c.xs.size) (hz : IsZip s.heap z TI TO .none) (hTI : TupV s.heap TI (refsI ss)) (hTO : TupV s.heap TO old) (hl : old.length = ss.length)
    (hI : AtI ss (fun _ => i) s.heap)
    (hQ : (∀ c ∈ ss, i < c.xs.size) → ∀ h', IsZip h' z TI TO (rawInt s.heap.objs.size) → TupV h' TO (vals ss i) → AtI ss (fun _ => i + 1) h' → TupV h' s.heap.objs.size (vals ss i) → h'.objs.size = s.heap.objs.size + 1 → Else z TO ss s.heap h' → Q (some (.ref s.heap.objs.size)) { s with heap := h' })
    (hE : (∃ c ∈ ss, c.xs[i]? = none) → ∀ h', Else z TO ss s.heap h' → Q none { s with heap := h' }) : wpAny (model prog w) A (pyNext (.ref z)) Q E s := by
  have ty : s.TypeIs (.ref z) "zip" := ⟨_, hz, rfl⟩
  unfold pyNext; refine wpAny_bind (wpAny_attempt (wpAny_callSpecial?_slot (name := Str.ofString "__next__") ty F.slot_zip_next (wpAny_call_entry F.slot_zip_next ty F.entry_zip_next
    (own_turn (Q := fun v s' => _) D ne few hh hz hTI hTO hl hI (fun all h' a1 a2 a3 a4 a5 a6 => wpAny_pure (hQ all h' a1 a2 a3 a4 a5 a6)) fun he h' e els ⟨o, ho, hc⟩ => ?_) (F.args_zip_next_1 _))))
  exact wpAny_bind (wpAny_isInstance (T := "StopIteration") (b := true) ⟨o, ho, hc⟩ isSubtype_stop (wpAny_pure (hE he h' els)))
end
abbrev itO (k : Bool) (l : Addr) : Obj := { cls := .type (itC k), data := .fields #[.ref l, .int 0 0] }
abbrev tuO (vs : List Value) : Obj := { cls := .type "tuple", data := .seq vs.toArray }
abbrev ziO (TI TO : Addr) : Obj := { cls := .type "zip", data := .fields #[.none, .bool false, .bool false, .ref TI, .ref TO] }
theorem live_it (k : Bool) (l : Addr) : (itO k l).isFreed = false := by cases k <;> rfl
theorem meets2 (k1 k2 : Bool) (l1 l2 : Addr) (xs ys : Array Value) :
    Meets (Builtin.«zip.__new__» ⟨[.type "zip", .ref l1, .ref l2], []⟩) (fun _ R s => ObK k1 s.heap l1 xs ∧ ObK k2 s.heap l2 ys ∧ ∀ n a1 a2 a3 a4 a5, n = s.heap.objs.size → a1 = s.heap.push (itO k1 l1) → a2 = a1.push (itO k2 l2) → a3 = a2.push (tuO [.ref n, .ref a1.objs.size]) → a4 = a3.push (tuO [.none, .none]) → a5 = a4.push (ziO a2.objs.size a3.objs.size) →
      R (.ok (.ret (.ref a4.objs.size))) { s with heap := a5 }) :=
  .of_wp fun prog w A R s h => by
    obtain ⟨hp, g, d, tk, os⟩ := s
    obtain ⟨hl1, hl2, h⟩ := h
    have hsub := sub_zip
    have b1 : ObK k1 (Shared.heap ⟨hp, g, d, tk, os⟩) l1 xs := hl1
    have b2 : ObK k2 (Shared.heap ⟨hp.push (itO k1 l1), g, d, tk, os⟩) l2 ys := ObK.at hl2 fun o e => Heap.get?_push_of_some _ e
    wp_walk using iter_k b1, iter_k b2
    exact ⟨_, rfl, h _ _ _ _ _ _ rfl rfl rfl rfl rfl rfl⟩
end ZN
namespace ZN
open PySem PySem.Spec PyProof.Rows L2 RZ
theorem apt2 {n a b : Nat} (ha : a < n) (hb : b < n) (k1 k2 : Bool) (xs ys : Array Value) : Apt (n + 4) (n + 2) (n + 3) [⟨k1, n, a, xs⟩, ⟨k2, n + 1, b, ys⟩] where
  TIz := fun e => by have : n + 2 = n + 4 := e; omega
  TOz := fun e => by have : n + 3 = n + 4 := e; omega
  TITO := fun e => by have : n + 2 = n + 3 := e; omega
  it := fun c hc => by
    rcases List.mem_cons.mp hc with rfl | hc
    · exact ⟨fun e => by have : n = n + 4 := e; omega, fun e => by have : n = n + 2 := e; omega, fun e => by have : n = n + 3 := e; omega⟩
    · rw [List.mem_singleton.mp hc]
      exact ⟨fun e => by have : n + 1 = n + 4 := e; omega, fun e => by have : n + 1 = n + 2 := e; omega, fun e => by have : n + 1 = n + 3 := e; omega⟩
  l := fun c hc => by
    rcases List.mem_cons.mp hc with rfl | hc
    · exact ⟨fun e => by have : a = n + 4 := e; omega, fun e => by have : a = n + 3 := e; omega⟩
    · rw [List.mem_singleton.mp hc]
      exact ⟨fun e => by have : b = n + 4 := e; omega, fun e => by have : b = n + 3 := e; omega⟩
  li := fun c hc d hd e => by
    have l : @LT.lt Nat _ c.l n := by
      rcases List.mem_cons.mp hc with rfl | hc
      · exact ha
      · rw [List.mem_singleton.mp hc]; exact hb
    have r : @LE.le Nat _ n d.it := by
      rcases List.mem_cons.mp hd with rfl | hd
      · exact Nat.le_refl _
      · rw [List.mem_singleton.mp hd]; exact Nat.le_add_right _ _
    have : @Eq Nat c.l d.it := e
    omega
  inj := fun i j c d hc hd e => by
    have num : ∀ (i : Nat) (c : Src), [(⟨k1, n, a, xs⟩ : Src), ⟨k2, n + 1, b, ys⟩][i]? = some c → @Eq Nat c.it (n + i) := by
      intro i c h
      match i, h with
      | 0, h => cases h; rfl
      | 1, h => cases h; rfl
    have := num i c hc
    have := num j d hd
    have : @Eq Nat c.it d.it := e
    omega
section
variable {prog : Program} {w : World} {A : Around} {E : Value → Shared → Prop} {s : Shared} {k1 k2 k3 : Bool} {l1 l2 l3 : Addr} {xs ys zs : Array Value}
theorem call2 {Q : Value → Shared → Prop} (h1 : ObK k1 s.heap l1 xs) (h2 : ObK k2 s.heap l2 ys)
    (h : ∀ h' n, n = s.heap.objs.size → IsZip h' (n + 4) (n + 2) (n + 3) .none → TupV h' (n + 2) [.ref n, .ref (n + 1)] → TupV h' (n + 3) [.none, .none] → ItK k1 h' n l1 0 → ItK k2 h' (n + 1) l2 0 → (∀ c o, s.heap.get? c = some o → h'.get? c = some o) → Q (.ref (n + 4)) { s with heap := h' }) :
    wpAny (model prog w) A (call (.type "zip") [.ref l1, .ref l2]) Q E s := by
  refine callType_new F.called_zip (by decide) (F.typeCall_zip_2 _ _) (F.newCall_zip_2 _ _) (fun obj => F.args_object_init_3 obj _ _) F.entry_zip_new (meets2 k1 k2 l1 l2 xs ys) ⟨h1, h2, ?_⟩
  intro n a1 a2 a3 a4 a5 en e1 e2 e3 e4 e5
  have z1 : a1.objs.size = n + 1 := by rw [e1, Heap.size_push, en]
  have z2 : a2.objs.size = n + 2 := by rw [e2, Heap.size_push, z1]
  have z3 : a3.objs.size = n + 3 := by rw [e3, Heap.size_push, z2]
  have z4 : a4.objs.size = n + 4 := by rw [e4, Heap.size_push, z3]
  have k2' : ∀ c o, a1.get? c = some o → a2.get? c = some o := fun c o e => by rw [e2]; exact Heap.get?_push_of_some _ e
  have k3' : ∀ c o, a2.get? c = some o → a3.get? c = some o := fun c o e => by rw [e3]; exact Heap.get?_push_of_some _ e
  have k4' : ∀ c o, a3.get? c = some o → a4.get? c = some o := fun c o e => by rw [e4]; exact Heap.get?_push_of_some _ e
  have k5' : ∀ c o, a4.get? c = some o → a5.get? c = some o := fun c o e => by rw [e5]; exact Heap.get?_push_of_some _ e
  have g1 : a1.get? n = some (itO k1 l1) := by rw [e1, en]; exact Heap.get?_push_size _ (live_it _ _)
  have g2 : a2.get? (n + 1) = some (itO k2 l2) := by rw [← z1, e2]; exact Heap.get?_push_size _ (live_it _ _)
  have g3 : a3.get? (n + 2) = some (tuO [.ref n, .ref (n + 1)]) := by
    have : (a2.push (tuO [.ref n, .ref a1.objs.size])).get? a2.objs.size = some (tuO [.ref n, .ref a1.objs.size]) := Heap.get?_push_size _ rfl
    rw [← e3, z2, z1] at this
    exact this
  have g4 : a4.get? (n + 3) = some (tuO [.none, .none]) := by
    have : (a3.push (tuO [.none, .none])).get? a3.objs.size = some (tuO [.none, .none]) := Heap.get?_push_size _ rfl
    rw [← e4, z3] at this
    exact this
  have g5 : a5.get? (n + 4) = some (ziO (n + 2) (n + 3)) := by
    have : (a4.push (ziO a2.objs.size a3.objs.size)).get? a4.objs.size = some (ziO a2.objs.size a3.objs.size) := Heap.get?_push_size _ rfl
    rw [← e5, z2, z3, z4] at this
    exact this
  show _ ∧ _
  rw [z4]
  exact ⟨⟨_, g5, rfl⟩, h a5 n en g5 (k5' _ _ (k4' _ _ g3)) (k5' _ _ g4) (ItK.new (k5' _ _ (k4' _ _ (k3' _ _ (k2' _ _ g1))))) (ItK.new (k5' _ _ (k4' _ _ (k3' _ _ g2)))) fun c o e => k5' _ _ (k4' _ _ (k3' _ _ (k2' _ _ (by rw [e1]; exact Heap.get?_push_of_some _ e))))⟩
end
section
variable {X : Cx} {pins : List (Addr × Obj)} {σ : L2.St} {H : Hp} {s : Shared}
theorem inv_k {k : Bool} {a : Addr} {xs : List V} (I : Inv X pins σ H s) (h : SqK k X.K H a xs) : ∃ its : List Value, Vals xs its ∧ ObK k s.heap a its.toArray ∧ a < s.heap.objs.size := by
  cases k with
  | false =>
    obtain ⟨its, r, p, _⟩ := I.list h
    exact ⟨its, r, p.isList, p.lt⟩
  | true =>
    obtain ⟨its, r, p, _⟩ := I.tuple h
    obtain ⟨o, e, _⟩ := id p
    exact ⟨its, r, p, Heap.lt_size e⟩
theorem inj_k {k : Bool} {a : Addr} {xs ys : List V} (I : Inv X pins σ H s) (h : SqK k X.K H a xs) (h' : SqK k X.K H a ys) : xs = ys := by
  cases k with
  | false => exact I.list_inj h h'
  | true => exact I.tuple_inj h h'
theorem fresh_fp {n : Addr} (I : Inv X pins σ H s) (e : n = s.heap.objs.size) : ∀ m c, c = n + m → FpOk X pins H c := fun m c hc => by
  have hle : s.heap.objs.size ≤ c := by rw [hc, e]; exact Nat.le_add_right _ _
  exact I.fpOk hle (I.hok.fresh hle)
end
def Itz2 (k1 k2 : Bool) (K : PySem.W.Frag) (a b : Addr) : It where
  go := fun i H => ∃ (xs ys : List V) (x y : V), SqK k1 K H a xs ∧ SqK k2 K H b ys ∧ xs[i]? = some x ∧ ys[i]? = some y
  yld := fun i H v H' => ∃ T x y, v = .ref T ∧ H T = none ∧ H' = upd H T (.tup [x, y]) ∧ (∀ xs, SqK k1 K H a xs → xs[i]? = some x) ∧ ∀ ys, SqK k2 K H b ys → ys[i]? = some y
  stop := fun i H => ∃ xs ys : List V, SqK k1 K H a xs ∧ SqK k2 K H b ys ∧ (xs.length ≤ i ∨ ys.length ≤ i)
theorem turn2 {P : Program} {w : World} {K : PySem.W.Frag} {elts : List Expr} {kk : Nat} {tpos : Pos} {k1 k2 : Bool} {a b z TI TO i1 i2 : Addr} (D : ∀ xs ys, Apt z TI TO [⟨k1, i1, a, xs⟩, ⟨k2, i2, b, ys⟩]) :
    Turn P w K (.Tuple elts kk tpos) (Itz2 k1 k2 K a b) [z, TI, TO, i1, i2] z (fun i h => IsZip h z TI TO .none ∧ TupV h TI [.ref i1, .ref i2] ∧ (∃ old, old.length = 2 ∧ TupV h TO old) ∧ ItK k1 h i1 a i ∧ ItK k2 h i2 b i) where
  mem := by simp
  obj := fun i h ⟨hz, hTI, ⟨old, _, hTO⟩, h1, h2⟩ c hc => by
    obtain ⟨o1, e1, d1⟩ := h1.obj
    obtain ⟨o2, e2, d2⟩ := h2.obj
    simp only [List.mem_cons, List.not_mem_nil, or_false] at hc
    rcases hc with rfl | rfl | rfl | rfl | rfl
    · exact ⟨_, hz, fun v q => nomatch q⟩
    · exact ⟨_, hTI, fun v q => nomatch q⟩
    · exact ⟨_, hTO, fun v q => nomatch q⟩
    · exact ⟨o1, e1, fun v q => by rw [d1] at q; cases q⟩
    · exact ⟨o2, e2, fun v q => by rw [d2] at q; cases q⟩
  keep := fun i h h' ⟨hz, hTI, ⟨old, lo, hTO⟩, h1, h2⟩ k =>
    ⟨k z (by simp) _ hz, k TI (by simp) _ hTI, ⟨old, lo, k TO (by simp) _ hTO⟩, h1.at fun o q => k i1 (by simp) o q, h2.at fun o q => k i2 (by simp) o q⟩
  item := by
    intro X hP hw hK hc i pins s σ H E I hf st hg
    subst hP hw hK
    obtain ⟨hz, hTI, ⟨old, lo, hTO⟩, h1, h2⟩ := st
    obtain ⟨xs, ys, x, y, hqx, hqy, hx, hy⟩ := hg
    obtain ⟨its, rv, p, _⟩ := inv_k I hqx
    obtain ⟨its2, rv2, p2, _⟩ := inv_k I hqy
    obtain ⟨u, hu, ru⟩ := rv.get hx
    obtain ⟨u2, hu2, ru2⟩ := rv2.get hy
    have l1 : i < its.toArray.size := (List.getElem?_eq_some_iff.mp hu).1
    have l2 : i < its2.toArray.size := (List.getElem?_eq_some_iff.mp hu2).1
    have D' := D its.toArray its2.toArray
    have ev : vals [⟨k1, i1, a, its.toArray⟩, ⟨k2, i2, b, its2.toArray⟩] i = [u, u2] := by
      show [its.toArray[i]?.getD .none, its2.toArray[i]?.getD .none] = _
      rw [List.getElem?_toArray, List.getElem?_toArray, hu, hu2]
      rfl
    have hzl : z < s.heap.objs.size := Heap.lt_size hz
    have all : ∀ c ∈ [(⟨k1, i1, a, its.toArray⟩ : Src), ⟨k2, i2, b, its2.toArray⟩], i < c.xs.size := fun c hc => by
      rcases List.mem_cons.mp hc with rfl | hc
      · exact l1
      · rw [List.mem_singleton.mp hc]; exact l2
    refine next_own D' (fun z => nomatch z) (by show 2 ≤ 1000; decide) (.inr all) hz hTI hTO lo (fun j c hc => ?_) (fun _ h' z' TO' at' hT hsz hk => ?_) fun ⟨c, mc, no⟩ => absurd (all c mc) (by rw [Array.getElem?_eq_none_iff] at no; omega)
    · match j, hc with
      | 0, hc => cases hc; exact ⟨h1, p⟩
      | 1, hc => cases hc; exact ⟨h2, p2⟩
    rw [ev] at TO' hT
    refine ⟨_, rfl, wpAny_letOwnedTupleGo_zip (s := { s with heap := h' }) z' fun h'' z'' sb => ?_⟩
    have up : ∀ c o, c ≠ z → h'.get? c = some o → h''.get? c = some o := fun c o n e => (sb.2 _ n).trans e
    have old' : ∀ c o, c ∉ [z, TI, TO, i1, i2] → s.heap.get? c = some o → h''.get? c = some o := fun c o nc e => by
      simp only [List.mem_cons, List.not_mem_nil, or_false, not_or] at nc
      refine up c o nc.1 (hk c o nc.1 nc.2.2.1 (fun d hd => ?_) e)
      rcases List.mem_cons.mp hd with rfl | hd
      · exact nc.2.2.2.1
      · rw [List.mem_singleton.mp hd]; exact nc.2.2.2.2
    have I1 : Inv X pins σ (upd H s.heap.objs.size (.tup [x, y])) { s with heap := h'' } :=
      I.turnedNew (t' := s.toks) (ch := [z, TI, TO, i1, i2]) old' hf (Nat.le_refl _) ⟨by show 2 ≤ sizeLine; decide, [u, u2], .cons ru (.cons ru2 .nil), ⟨_, up _ _ (Nat.ne_of_gt hzl) hT, rfl, _, rfl⟩⟩
    have mem1 : (⟨k1, i1, a, its.toArray⟩ : Src) ∈ [(⟨k1, i1, a, its.toArray⟩ : Src), ⟨k2, i2, b, its2.toArray⟩] := List.mem_cons_self
    have mem2 : (⟨k2, i2, b, its2.toArray⟩ : Src) ∈ [(⟨k1, i1, a, its.toArray⟩ : Src), ⟨k2, i2, b, its2.toArray⟩] := List.mem_cons_of_mem _ List.mem_cons_self
    have tiKeep : h''.get? TI = some (tuO [.ref i1, .ref i2]) := up _ _ D'.TIz (hk _ _ D'.TIz D'.TITO (fun d hd => (D'.it d hd).2.1.symm) hTI)
    refine ⟨.ref s.heap.objs.size, _, I1, rfl, ⟨_, x, y, rfl, I.hok.fresh (Nat.le_refl _), rfl, fun l hl => by rw [inj_k I hl hqx]; exact hx, fun l hl => by rw [inj_k I hl hqy]; exact hy⟩,
      ⟨z'', tiKeep, ⟨[u, u2], rfl, up _ _ D'.TOz TO'⟩, (at' 0 _ rfl).1.at fun o q => up _ _ (D'.it _ mem1).1 q, (at' 1 _ rfl).1.at fun o q => up _ _ (D'.it _ mem2).1 q⟩, fun c hcm => ?_⟩
    have hlt : c < s.heap.objs.size := by
      have e' := hcm
      simp only [List.mem_cons, List.not_mem_nil, or_false] at e'
      rcases e' with rfl | rfl | rfl | rfl | rfl
      · exact hzl
      · exact Heap.lt_size hTI
      · exact Heap.lt_size hTO
      · obtain ⟨_, e1, _⟩ := h1.obj; exact Heap.lt_size e1
      · obtain ⟨_, e2, _⟩ := h2.obj; exact Heap.lt_size e2
    rw [upd_ne (Nat.ne_of_lt hlt)]
    exact (hf c hcm).1
  done := by
    intro X hP hw hK hc i pins s σ H E I hf st hg
    subst hP hw hK
    obtain ⟨hz, hTI, ⟨old, lo, hTO⟩, h1, h2⟩ := st
    obtain ⟨xs, ys, hqx, hqy, hend⟩ := hg
    obtain ⟨its, rv, p, _⟩ := inv_k I hqx
    obtain ⟨its2, rv2, p2, _⟩ := inv_k I hqy
    have l1 := rv.length
    have l2 := rv2.length
    refine next_own (i := i) (D its.toArray its2.toArray) (fun z => nomatch z) (by show 2 ≤ 1000; decide) (.inl (I.ok.hd hc)) hz hTI hTO lo (fun j c hc => ?_) (fun all => ?_) fun _ h' hk => ⟨rfl, I.turnedL (t' := s.toks) (ch := [z, TI, TO, i1, i2]) (fun c o nc e => ?_) hf⟩
    · match j, hc with
      | 0, hc => cases hc; exact ⟨h1, p⟩
      | 1, hc => cases hc; exact ⟨h2, p2⟩
    · have g1 : i < its.length := all ⟨k1, i1, a, its.toArray⟩ List.mem_cons_self
      have g2 : i < its2.length := all ⟨k2, i2, b, its2.toArray⟩ (List.mem_cons_of_mem _ List.mem_cons_self)
      omega
    · simp only [List.mem_cons, List.not_mem_nil, or_false, not_or] at nc
      refine hk c o nc.1 nc.2.2.1 (fun d hd => ?_) e
      rcases List.mem_cons.mp hd with rfl | hd
      · exact nc.2.2.2.1
      · rw [List.mem_singleton.mp hd]; exact nc.2.2.2.2
  self := fun A i s Q E st h => wpAny_pyIter_zip st.1 h
def iZip2 (k1 k2 : Bool) (K : PySem.W.Frag) (ta : TA) : TI := fun σ H R => ta σ H fun vs H1 => ∃ a b xs ys, vs = [.ref a, .ref b] ∧ SqK k1 K H1 a xs ∧ SqK k2 K H1 b ys ∧ R (Itz2 k1 k2 K a b) H1
theorem pi_zip2 (k1 k2 : Bool) {X : Cx} {e e2 : Expr} {ta : TA} {p pos tpos : Pos} {elts : List Expr} {kk : Nat} (hg : Gl X "zip") (hm : X.mg "zip" = none) (ha : PA X [e, e2] ta)
    (hs : starEach [e, e2] X.env = (false, eval e X.env) :: starEach [e2] X.env := by rfl) (hpl : (backTo pos (starEach [e2] X.env)).any (·.1) = false := by rfl) :
    PI X (.Tuple elts kk tpos) (.Call (.Name "zip" p) [e, e2] [] pos) (iZip2 k1 k2 X.K ta) :=
  ⟨fun pins s σ H R I h => Call_ (ld_blt I hg hm PyProof.Rows.boot_zip (PyProof.Rows.callWith_type1 (thn (ha.run pos pins s σ H _ I h) fun us s1 ⟨vs, H1, I1, r1, q1⟩ => by
    obtain ⟨a, b, xs, ys, rfl, hqx, hqy, q⟩ := q1
    cases r1 with | cons r r1 => cases r1 with | cons r2 r1 =>
    cases r1
    cases r
    cases r2
    obtain ⟨its, rv, p1, la⟩ := inv_k I1 hqx
    obtain ⟨its2, rv2, p2, lb⟩ := inv_k I1 hqy
    refine call2 p1 p2 fun h' n en hz hTI hTO h1 h2 hk => wpAny_pyIter_zip hz ?_
    refine ⟨n + 4, [n + 4, n + 2, n + 3, n, n + 1], _, _, H1, rfl, I1.kept (t' := s1.toks) hk, turn2 (apt2 (by rw [en]; exact la) (by rw [en]; exact lb) k1 k2), ⟨hz, hTI, ⟨_, rfl, hTO⟩, h1, h2⟩, fun c hc => ?_, q⟩
    simp only [List.mem_cons, List.not_mem_nil, or_false] at hc
    rcases hc with rfl | rfl | rfl | rfl | rfl
    · exact fresh_fp I1 en 4 _ rfl
    · exact fresh_fp I1 en 2 _ rfl
    · exact fresh_fp I1 en 3 _ rfl
    · exact fresh_fp I1 en 0 _ rfl
    · exact fresh_fp I1 en 1 _ rfl) hs hpl))⟩
theorem walk_zip2 {k1 k2 : Bool} {K : PySem.W.Frag} {a b : Addr} {xs ys : List V} {n : Nat} (hn : n = min xs.length ys.length) : Walk (Itz2 k1 k2 K a b) n (fun H => SqK k1 K H a xs ∧ SqK k2 K H b ys) (YPair (fun i => xs[i]?) (fun i => ys[i]?)) :=
  ⟨fun i H hi ⟨q1, q2⟩ => ⟨xs, ys, xs[i]'(by omega), ys[i]'(by omega), q1, q2, List.getElem?_eq_getElem _, List.getElem?_eq_getElem _⟩, fun H ⟨q1, q2⟩ => ⟨xs, ys, q1, q2, by omega⟩,
    fun i H v H' _ ⟨q1, q2⟩ ⟨T, x, z, h1, h2, h3, h4, h5⟩ => ⟨T, x, z, h1, h2, h3, h4 xs q1, h5 ys q2⟩⟩
end ZN
namespace R52
open PySem L2 L3 FT ND
open C8 (pss_cut tCut pe_gc)
abbrev sCostsB : Stmt := top 32
def addC : Option (Int × Int) → Option (Int × Int) → Option (Int × Int)
  | some a, some b => some (a.1 + b.1, a.2 + b.2)
  | _, _ => none
theorem addC_n1 {b : Option (Int × Int)} : addC none b = none := by cases b <;> rfl
theorem addC_n2 {a : Option (Int × Int)} : addC a none = none := by cases a <;> rfl
theorem CostV.isN {H : Hp} {v : V} {o : Option (Int × Int)} (h : CostV H v o) : decide (v = .non) = o.isNone := by
  cases o with
  | none => rw [show v = .non from h]; rfl
  | some x =>
    obtain ⟨x, y⟩ := x
    obtain ⟨b, rfl, _⟩ := h
    rfl
abbrev NCb : List Str := ["node", "costs", "least", "steps", "step", "lower", "below"]
section
variable {P : Program} {w : World} {K : PySem.W.Frag} {mg : Str → Option Value} {base : Heap}
theorem scCb : FnScope NCb ["node", "costs", "least"] (defScope sCostsB) := ⟨rfl, rfl, rfl, by decide +kernel, rfl, by decide +kernel, by decide +kernel⟩
def spCostsB : Sp := fun vs H Q _ => ∃ (nd nd2 p ls : Addr) (ts : List Str) (ss : List Nat) (l : Nat) (kd : List Nat) (cs : Nat → Nat → Option (Int × Int)) (lv : List V) (f : Nat → Option (Int × Int)), vs = [.ref nd, .ref p, .ref ls] ∧ H nd = some (.tup [.str (nmOf ts l), .ref nd2]) ∧ H nd2 = some (.tup (kd.map fun k : Nat => V.int (k : Nat))) ∧ CostsAt H p ts ss cs ∧ l < ts.length ∧ kd.length = ksOf ss l ∧ kd.length ≤ 1000 ∧ H ls = some (.lst lv) ∧ (∀ k ∈ kd, k < lv.length) ∧ (∀ i v, lv[i]? = some v → CostV H v (f i)) ∧
  ∀ (S : Addr) (vs : List V) (H' : Hp), H S = none → Same H H' → H' S = some (.lst vs) → CostL H' vs (ksOf ss l) (fun k => addC (cs l k) (f (kd.getD k 0))) → Q (.ref S) H'
theorem ok_costsB {f : Addr} {fd : FuncData} (F : Fun K "costs_below" "costs_below" sCostsB f fd) (zZip : mg "zip" = none) : FnOk P w K mg base CX0 1 f fd ["node", "costs", "least"] spCostsB := by
  refine F.ok scCb (fun vs H Q E h => ?_) (fun cdv A outer s H vs Q E hr h => ?_)
  · obtain ⟨nd, nd2, p, ls, ts, ss, l, kd, cs, lv, g, rfl, _⟩ := h
    rfl
  · obtain ⟨nd, nd2, p, ls, ts, ss, l, kd, cs, lv, g, rfl, e1, e2, ca, hl, lk, few, el, kb, av, k⟩ := h
    have hnd := scCb.nd
    have nd' := hnd
    have hu : _ + 1 < cLine := Nat.lt_of_le_of_lt (Nat.add_le_add_left (by decide : 1 ≤ 64) _) hr.units
    refine ⟨_, pss_cons (ps_set (i := 3) hnd rfl (.inl rfl) (pe_lst pa_nil))
      (pss_cons (ps_for PassesOwn.never rfl (ZN.pi_zip2 false true (by rfl) zZip (pa_cons (pe_dget hu (pv 1) (pe_ix (r := rIxT K) (by exact ix_tup) (pv 0) pe_int (fun _ _ => rfl)) (fun _ _ => rfl)) (pa_cons (pe_ix (r := rIxT K) (by exact ix_tup) (pv 0) pe_int (fun _ _ => rfl)) pa_nil))) (pg_tup (by rfl) (pgs_cons (pg_name (i := 4) hnd rfl (.inl rfl)) (pgs_cons (pg_name (i := 5) hnd rfl (.inl rfl)) pgs_nil)))
        (pss_cons (ps_set (i := 6) hnd rfl (.inl rfl) (pe_ix (r := rIxL K) (by exact ix_list) (pv 2) (pv 5) (fun _ _ => rfl)))
        (pss_one (ps_if (PW.pt (pw_or (pt_cmpR op_isN (pv 4) pe_non (nomark _)) (pw_or1 (pt_cmpR op_isN (pv 6) pe_non (nomark _)))))
          (pss_one (ps_expr (pe_bm PySem.F.plainAttrs_list PySem.F.slot_list_append PySem.F.type_list_append mt_append (pv 3) (pa_cons pe_non pa_nil))))
          (pss_one (ps_expr (pe_bm PySem.F.plainAttrs_list PySem.F.slot_list_append PySem.F.type_list_append mt_append (pv 3) (pa_cons (pe_tup (pa_cons (pe_op op_add (pe_ix (r := rIxT K) (by exact ix_tup) (pv 4) pe_int (fun _ _ => rfl)) (pe_ix (r := rIxT K) (by exact ix_tup) (pv 6) pe_int (fun _ _ => rfl))) (pa_cons (pe_op op_add (pe_ix (r := rIxT K) (by exact ix_tup) (pv 4) pe_int (fun _ _ => rfl)) (pe_ix (r := rIxT K) (by exact ix_tup) (pv 6) pe_int (fun _ _ => rfl))) pa_nil))) pa_nil))))))))
      (pss_one (ps_ret (pv 3)))), ?_⟩
    obtain ⟨kvs, ep, gp⟩ := id ca
    obtain ⟨L, cv, g1, g2, g3⟩ := gp l hl
    refine ⟨(show 0 ≤ sizeLine by decide), fun S hS => ?_⟩
    have s1 := same_new (o := HO.lst []) hS
    refine ⟨_, rfl, _, rfl, nd, _, _, _, rfl, rfl, SqT.of (s1 _ _ e1), rfl, p, .ref L, rfl, .inl ⟨kvs, Sum.inr (nmOf ts l), .inl (s1 _ _ ep), rfl, g1.symm⟩, _, rfl, nd, _, _, _, rfl, rfl, SqT.of (s1 _ _ e1), rfl, L, nd2, cv, kd.map (fun k : Nat => V.int (k : Nat)), rfl, SqL.of (s1 _ _ g2), SqT.of (s1 _ _ e2), ?_⟩
    have few2 : cv.length = kd.length := g3.1.trans lk.symm
    refine for_it (ZN.walk_zip2 (k1 := false) (k2 := true) (K := K) (a := L) (b := nd2) (xs := cv) (ys := kd.map fun k : Nat => V.int (k : Nat)) (n := kd.length) (by rw [few2, List.length_map, Nat.min_self])) (fun i σ H' => ∃ (o4 o5 o6 : Option V) (vs : List V), σ = [some (.ref nd), some (.ref p), some (.ref ls), some (.ref S), o4, o5, o6] ∧ Same H H' ∧ H' S = some (.lst vs) ∧ vs.length = i ∧ ∀ k v, vs[k]? = some v → CostV H' v (addC (cs l k) (g (kd.getD k 0))))
      ⟨none, none, none, [], rfl, s1, upd_same, rfl, fun k v e => by simp at e⟩ (fun i σ H' _ ⟨_, _, _, _, _, h, _⟩ => ⟨SqL.of (h _ _ g2), SqT.of (h _ _ e2)⟩) ?_ ?_
    · rintro i y σ H2 H2' hi ⟨o4, o5, o6, vs, rfl, sm, eS, lvs, cvs⟩ ⟨q, v1, v2, rfl, nq, rfl, hv1, hv2⟩
      replace hv1 : cv[i]? = some v1 := hv1
      replace hv2 : (kd.map fun k : Nat => V.int (k : Nat))[i]? = some v2 := hv2
      rw [List.getElem?_map, List.getElem?_eq_getElem hi] at hv2
      cases hv2
      have c1 := g3.2 i v1 hv1
      have hk := kb kd[i] (List.getElem_mem hi)
      have hw : lv[kd[i]]? = some lv[kd[i]] := List.getElem?_eq_getElem hk
      have c2 := av _ _ hw
      have ek : kd.getD i 0 = kd[i] := by
        rw [List.getD_eq_getElem?_getD, List.getElem?_eq_getElem hi]
        rfl
      generalize lv[kd[i]] = v3 at hw c2
      have sq := same_new (o := HO.tup [v1, V.int ((kd[i] : Nat) : Int)]) nq
      have eq : upd H2 q (.tup [v1, V.int ((kd[i] : Nat) : Int)]) q = some (.tup [v1, V.int ((kd[i] : Nat) : Int)]) := upd_same
      have sm3 := sm.trans sq
      have eS3 := sq _ _ eS
      have cvs3 : ∀ k v, vs[k]? = some v → CostV (upd H2 q (.tup [v1, V.int ((kd[i] : Nat) : Int)])) v (addC (cs l k) (g (kd.getD k 0))) := fun k v e => (cvs k v e).same sq
      generalize upd H2 q (.tup [v1, V.int ((kd[i] : Nat) : Int)]) = H3 at eq sm3 eS3 cvs3 ⊢
      have d1 := c1.same sm3
      have d2 := c2.same sm3
      refine ⟨q, _, rfl, SqT.of eq, rfl, _, _, rfl, _, _, rfl, rfl, ?_⟩
      refine ⟨_, rfl, _, rfl, ls, lv, _, v3, rfl, rfl, SqL.of (sm3 _ _ el), atI_nat hw, ?_⟩
      have lz := sizeLine_eq
      have put : ∀ (H4 : Hp) (v : V), Same H3 H4 → CostV H4 v (addC (cs l i) (g (kd.getD i 0))) → ∃ xs, H4 S = some (.lst xs) ∧ xs.length < sizeLine ∧ Same H (upd H4 S (.lst (xs ++ [v]))) ∧ ∃ ws : List V, upd H4 S (.lst (xs ++ [v])) S = some (.lst ws) ∧ ws.length = i + 1 ∧ ∀ k w, ws[k]? = some w → CostV (upd H4 S (.lst (xs ++ [v]))) w (addC (cs l k) (g (kd.getD k 0))) := fun H4 v s4 cv4 => by
        have eS4 := s4 _ _ eS3
        have off : ∀ b u, b ≠ S → H4 b = some u → upd H4 S (.lst (vs ++ [v])) b = some u := fun b u nb e => by rw [upd_ne nb]; exact e
        refine ⟨vs, eS4, by omega, fun b u e => off b u (fun z => by rw [z, hS] at e; cases e) (s4 _ _ (sm3 _ _ e)), vs ++ [v], upd_same, by rw [List.length_append, lvs]; rfl, fun k w hw => ?_⟩
        rcases Nat.lt_or_ge k vs.length with r | r
        · rw [List.getElem?_append_left r] at hw
          exact ((cvs3 k w hw).same s4).offL eS4 off
        · rw [List.getElem?_append_right r] at hw
          have ez : k - vs.length = 0 := by
            rcases Nat.eq_zero_or_pos (k - vs.length) with w | w
            · exact w
            · rw [List.getElem?_eq_none (by rw [List.length_singleton]; exact w)] at hw; cases hw
          rw [ez] at hw
          cases hw
          rw [show k = i by omega]
          exact cv4.offL eS4 off
      refine ⟨_, rfl, rfl, _, rfl, ?_⟩
      rw [d1.isN]
      cases h1 : cs l i with
      | none =>
        refine ifT rfl (ifT rfl ?_)
        obtain ⟨xs, p1, p2, p3, ws, p4, p5, p6⟩ := put H3 .non (Same.refl _) (by rw [h1, addC_n1]; rfl)
        exact ⟨_, rfl, .inl ⟨rfl, _, SqL.of p1⟩, S, xs, _, rfl, rfl, p1, p2, _, _, _, _, rfl, p3, p4, p5, p6⟩
      | some x =>
        refine ifF rfl ⟨_, rfl, rfl, _, rfl, ?_⟩
        rw [d2.isN]
        rw [← ek] at d2 ⊢
        cases h2 : g (kd.getD i 0) with
        | none =>
          refine ifT rfl ?_
          obtain ⟨xs, p1, p2, p3, ws, p4, p5, p6⟩ := put H3 .non (Same.refl _) (by rw [h2, addC_n2]; rfl)
          exact ⟨_, rfl, .inl ⟨rfl, _, SqL.of p1⟩, S, xs, _, rfl, rfl, p1, p2, _, _, _, _, rfl, p3, p4, p5, p6⟩
        | some y =>
          rw [h1] at d1
          rw [h2] at d2
          obtain ⟨x1, x2⟩ := x
          obtain ⟨y1, y2⟩ := y
          obtain ⟨b1, rfl, eb1⟩ := d1
          obtain ⟨b2, rfl, eb2⟩ := d2
          refine ifF rfl ?_
          refine ⟨_, rfl, .inl ⟨rfl, _, SqL.of eS3⟩, _, rfl, b1, _, _, _, rfl, rfl, SqT.of eb1, rfl, _, rfl, b2, _, _, _, rfl, rfl, SqT.of eb2, rfl, _, _, rfl, rfl, _, rfl, b1, _, _, _, rfl, rfl, SqT.of eb1, rfl, _, rfl, b2, _, _, _, rfl, rfl, SqT.of eb2, rfl, _, _, rfl, rfl, (show 2 ≤ sizeLine by decide), fun T hT => ?_⟩
          obtain ⟨xs, p1, p2, p3, ws, p4, p5, p6⟩ := put (upd H3 T (.tup [V.int (x1 + y1), V.int (x2 + y2)])) (.ref T) (same_new hT) (by rw [h1, h2]; exact ⟨T, rfl, upd_same⟩)
          exact ⟨S, xs, _, rfl, rfl, p1, p2, _, _, _, _, rfl, p3, p4, p5, p6⟩
    rintro σ H2 ⟨o4, o5, o6, vs, rfl, sm, eS, lvs, cvs⟩
    exact ⟨_, rfl, k S vs H2 hS sm eS ⟨lvs.trans lk, cvs⟩⟩
end
end R52
namespace R52
open PySem L2 L3 FT ND
open C8 (pss_cut tCut pe_gc)
abbrev sLeast : Stmt := top 31
def minO (L : List (Option (Int × Int))) : Option (Int × Int) := match L.filterMap id with
  | [] => none
  | x :: xs => some (PySem.W.minOf x xs)
mutual
def lcT (cs : Nat → Nat → Option (Int × Int)) (E : V → Bool) : Tr V → Option (Int × Int)
  | .leaf x => if E x = true then some (0, 0) else none
  | .node l ts => minO (lcL cs E l 0 ts)
def lcL (cs : Nat → Nat → Option (Int × Int)) (E : V → Bool) (l k : Nat) : List (Tr V) → List (Option (Int × Int))
  | [] => []
  | t :: r => addC (cs l k) (lcT cs E t) :: lcL cs E l (k + 1) r
end
theorem lcL_map {cs : Nat → Nat → Option (Int × Int)} {E : V → Bool} {l : Nat} : ∀ {ts : List (Tr V)} {k : Nat}, lcL cs E l k ts = (List.range ts.length).map fun i => addC (cs l (k + i)) (((ts[i]?).map (lcT cs E)).getD none)
  | [], _ => by rw [lcL]; rfl
  | t :: r, k => by
    rw [lcL, lcL_map (ts := r), List.length_cons, List.range_succ_eq_map, List.map_cons, List.map_map]
    congr 1
    refine List.map_congr_left fun i _ => ?_
    show addC (cs l (k + 1 + i)) _ = addC (cs l (k + (i + 1))) _
    rw [show k + 1 + i = k + (i + 1) by omega]
    rfl
/-- the ends of the nodes -/
def endB (E : V → Bool) : Tr V → Bool
  | .leaf x => E x
  | .node _ _ => false
theorem kd_before {t : Tr V} {i k : Nat} (hi : i < (FDt t).ts.length) (hk : k ∈ (FDt t).kd i) : k < i := by
  have h := FD.get (A := FDt t) hi
  obtain ⟨u, hu, rfl⟩ := List.mem_map.mp (show k ∈ (FT.kids ((FDt t).tr i)).map (ix (enum t [])) from hk)
  have m := kid_before (pc_enum t [] pc_nil) (show (enum t [])[i]? = some ((FDt t).tr i) from h) u hu
  obtain ⟨j, hj⟩ := List.mem_iff_getElem?.mp m
  have lj := (List.getElem?_eq_some_iff.mp hj).1
  rw [List.length_take] at lj
  rw [List.getElem?_take, if_pos (by omega)] at hj
  refine Nat.lt_of_le_of_lt (Nat.le_of_not_lt fun q => ?_) (show j < i by omega)
  have q' : j < (enum t []).findIdx fun u' => @decide (u' = u) (Classical.propDecidable _) := q
  have := List.not_of_lt_findIdx q'
  rw [(List.getElem?_eq_some_iff.mp hj).2] at this
  simp at this
theorem lc_node {T : Tr V} {cs : Nat → Nat → Option (Int × Int)} {E : V → Bool} {l j : Nat} {ts' : List (Tr V)} (kk : ((FDt T).kd j).map (FDt T).tr = ts') : lcT cs E (.node l ts') = minO ((List.range ((FDt T).kd j).length).map fun i => addC (cs l i) (lcT cs E ((FDt T).tr (((FDt T).kd j).getD i 0)))) := by
  rw [lcT, lcL_map, ← kk, List.length_map]
  congr 1
  refine List.map_congr_left fun i hi => ?_
  have hi := List.mem_range.mp hi
  rw [Nat.zero_add, List.getElem?_map, List.getElem?_eq_getElem hi, List.getD_eq_getElem?_getD, List.getElem?_eq_getElem hi]
  rfl
abbrev NLc : List Str := ["worth", "costs", "ends", "least", "node", "is_end", "steps", "cost"]
section
variable {P : Program} {w : World} {K : PySem.W.Frag} {mg : Str → Option Value} {base : Heap} {CW C : Addr} {nm : Nat → Str}
theorem scLc' : FnScope NLc ["worth", "costs", "ends"] (defScope sLeast) := ⟨rfl, rfl, rfl, by decide +kernel, rfl, by decide +kernel, by decide +kernel⟩
def LeastL (H : Hp) (vs : List V) (T : Tr V) (cs : Nat → Nat → Option (Int × Int)) (E : V → Bool) (n : Nat) : Prop := vs.length = n ∧ ∀ i v, vs[i]? = some v → CostV H v (lcT cs E ((FDt T).tr i))
def spLeast (CW C : Addr) : Sp := fun vs H Q _ => ∃ (r p e c : Addr) (ts : List Str) (ss : List Nat) (T : Tr V) (cs : Nat → Nat → Option (Int × Int)) (E : V → Bool), vs = [.ref r, .ref p, .ref e] ∧ SceneF ts ss ∧ WorthI CW C (nmOf ts) ss.length T c H r ∧ TGood ss.length (ksOf ss) T ∧ CostsAt H p ts ss cs ∧ H e = some (.lst ((List.range (FDt T).ts.length).map fun i => V.bl (endB E ((FDt T).tr i)))) ∧
  ∀ (S : Addr) (vs : List V) (H' : Hp), H S = none → Same H H' → H' S = some (.lst vs) → LeastL H' vs T cs E (FDt T).ts.length → Q (.ref S) H'
theorem ok_least {f fI fB : Addr} {fd fdI fdB : FuncData} (F : Fun K "least_costs" "least_costs" sLeast f fd) (TW : WorthC K CW) (UI : ∀ nm : Nat → Str, Use P w K mg base "is_choice" 1 fI fdI ["node"] (spIsC nm)) (UB : Use P w K mg base "costs_below" 1 fB fdB ["node", "costs", "least"] spCostsB) (zZip : mg "zip" = none) (zMin : mg "min" = none) :
    FnOk P w K mg base CX0 2 f fd ["worth", "costs", "ends"] (spLeast CW C) := by
  refine F.ok scLc' (fun vs H Q E h => ?_) (fun cdv A outer s H vs Q E hr h => ?_)
  · obtain ⟨r, p, e, c, ts, ss, T, cs, E, rfl, _⟩ := h
    rfl
  · obtain ⟨r, p, e, c, ts, ss, T, cs, E, rfl, sc, wi, gT, ca, ee, k⟩ := h
    have nd := scLc'.nd
    have UI := UI (nmOf ts)
    refine ⟨_, pss_cons (ps_set (i := 3) nd rfl (.inl rfl) (pe_lst pa_nil))
      (pss_cons (ps_for PassesOwn.never rfl (ZN.pi_zip2 true false (by rfl) zZip (pa_cons (pe_fld (pv 0) rfl) (pa_cons (pv 2) pa_nil))) (pg_tup (by rfl) (pgs_cons (pg_name (i := 4) nd rfl (.inl rfl)) (pgs_cons (pg_name (i := 5) nd rfl (.inl rfl)) pgs_nil)))
        (pss_one (ps_if (pt_val (pe_call UI.G (hr.mono (by omega)) (by rfl) UI.g UI.kp UI.b .nil pass0 (pa_cons (pv 4) pa_nil)))
          (pss_cons (ps_set (i := 6) nd rfl (.inl rfl) (pe_call UB.G (hr.mono (by omega)) (by rfl) UB.g UB.kp UB.b .nil pass0 (pa_cons (pv 4) (pa_cons (pv 1) (pa_cons (pv 3) pa_nil)))))
          (pss_one (ps_expr (pe_bm PySem.F.plainAttrs_list PySem.F.slot_list_append PySem.F.type_list_append mt_append (pv 3) (pa_cons (pe_callBK (cr_minP rfl hr.units) (by rfl) zMin PyProof.Rows.boot_min (pa_cons (pe_lc (own := [("cost", 7)]) (g := gName 7) rfl nd (pi_list (pv 6)) (blkOk_by (N := NLc) (sc := defScope sLeast) (by decide +kernel)) (fun _ _ _ _ _ => pg_name (i := 7) nd rfl (.inl rfl)) (fun _ _ _ _ _ => pts_one (pt_cmpR op_notN (pv 7) pe_non (nomark _))) (fun _ _ _ _ _ => pv 7)) pa_nil) (pk_cons pe_non pk_nil)) pa_nil)))))
          (pss_one (ps_expr (pe_bm PySem.F.plainAttrs_list PySem.F.slot_list_append PySem.F.type_list_append mt_append (pv 3) (pa_cons (pe_ifExp (pt_val (pv 5)) (pe_tup (pa_cons pe_int (pa_cons pe_int pa_nil))) pe_non) pa_nil)))))))
      (pss_one (ps_ret (pv 3)))), ?_⟩
    obtain ⟨dx, fo, df, tn, tl, to, td, h1, h2, h3, ⟨v1, h4⟩, _⟩ := id wi
    obtain ⟨ws, g1, g2, g3⟩ := h3.tn
    have ew : ws = v1 := by
      rcases g1 with g | g
      · rw [h4] at g; cases g
      · rw [h4] at g; cases g; rfl
    subst ew
    have lsz := sizeLine_eq
    obtain ⟨M, Sc⟩ := sc.sce
    have fewT : (FDt T).ts.length ≤ 2000 := Nat.le_trans (FDt_few Sc.hk gT.1) Sc.geo
    refine ⟨(show 0 ≤ sizeLine by decide), fun S hS => ?_⟩
    have s1 := same_new (o := HO.lst []) hS
    refine ⟨_, rfl, r, CW, dx, _, _, rfl, s1 _ _ h1, TW.cl, TW.nN, lk_wn, _, rfl, tn, e, ws, _, rfl, SqT.of (s1 _ _ h4), SqL.of (s1 _ _ ee), ?_⟩
    refine for_it (ZN.walk_zip2 (k1 := true) (k2 := false) (K := K) (a := tn) (b := e) (xs := ws) (ys := (List.range (FDt T).ts.length).map fun i => V.bl (endB E ((FDt T).tr i))) (n := (FDt T).ts.length) (by rw [g2, List.length_map, List.length_range, Nat.min_self])) (fun j σ H' => ∃ (o4 o5 o6 : Option V) (vs : List V), σ = [some (.ref r), some (.ref p), some (.ref e), some (.ref S), o4, o5, o6, none] ∧ Same H H' ∧ H' S = some (.lst vs) ∧ LeastL H' vs T cs E j)
      ⟨none, none, none, [], rfl, s1, upd_same, rfl, fun k v e => by simp at e⟩ (fun j σ H' _ ⟨_, _, _, _, _, h, _⟩ => ⟨SqT.of (h _ _ h4), SqL.of (h _ _ ee)⟩) ?_ ?_
    · rintro j y σ H2 H2' hj ⟨o4, o5, o6, vs, rfl, sm, eS, lvs, cvs⟩ ⟨q0, z1, z2, rfl, nq, rfl, hv1, hv2⟩
      replace hv1 : ws[j]? = some z1 := hv1
      replace hv2 : ((List.range (FDt T).ts.length).map fun i => V.bl (endB E ((FDt T).tr i)))[j]? = some z2 := hv2
      rw [List.getElem?_map, List.getElem?_range hj] at hv2
      replace hv2 : z2 = V.bl (endB E ((FDt T).tr j)) := (Option.some.inj hv2).symm
      subst hv2
      have sq := same_new (o := HO.tup [z1, V.bl (endB E ((FDt T).tr j))]) nq
      have eq : upd H2 q0 (.tup [z1, V.bl (endB E ((FDt T).tr j))]) q0 = some (.tup [z1, V.bl (endB E ((FDt T).tr j))]) := upd_same
      have sm3 := sm.trans sq
      have eS3 := sq _ _ eS
      have cvs3 : ∀ k v, vs[k]? = some v → CostV (upd H2 q0 (.tup [z1, V.bl (endB E ((FDt T).tr j))])) v (lcT cs E ((FDt T).tr k)) := fun k v e => (cvs k v e).same sq
      generalize upd H2 q0 (.tup [z1, V.bl (endB E ((FDt T).tr j))]) = H3 at eq sm3 eS3 cvs3 ⊢
      have nz := (g3 j z1 hv1).same sm3
      refine ⟨q0, _, rfl, SqT.of eq, rfl, _, _, rfl, _, _, rfl, rfl, ?_⟩
      have put : ∀ (H4 : Hp) (v : V), Same H3 H4 → CostV H4 v (lcT cs E ((FDt T).tr j)) → ∃ xs, H4 S = some (.lst xs) ∧ xs.length < sizeLine ∧ Same H (upd H4 S (.lst (xs ++ [v]))) ∧ ∃ ws : List V, upd H4 S (.lst (xs ++ [v])) S = some (.lst ws) ∧ LeastL (upd H4 S (.lst (xs ++ [v]))) ws T cs E (j + 1) := fun H4 v s4 cv4 => by
        have eS4 := s4 _ _ eS3
        have off : ∀ b u, b ≠ S → H4 b = some u → upd H4 S (.lst (vs ++ [v])) b = some u := fun b u nb e => by rw [upd_ne nb]; exact e
        refine ⟨vs, eS4, by omega, fun b u e => off b u (fun z => by rw [z, hS] at e; cases e) (s4 _ _ (sm3 _ _ e)), vs ++ [v], upd_same, by rw [List.length_append, lvs]; rfl, fun k w hw => ?_⟩
        rcases Nat.lt_or_ge k vs.length with r | r
        · rw [List.getElem?_append_left r] at hw
          exact ((cvs3 k w hw).same s4).offL eS4 off
        · rw [List.getElem?_append_right r] at hw
          have ez : k - vs.length = 0 := by
            rcases Nat.eq_zero_or_pos (k - vs.length) with w | w
            · exact w
            · rw [List.getElem?_eq_none (by rw [List.length_singleton]; exact w)] at hw; cases hw
          rw [ez] at hw
          cases hw
          rw [show k = j by omega]
          exact cv4.offL eS4 off
      refine ⟨_, rfl, (FDt T).tr j, (FDt T).kd j, z1, rfl, nz, _, rfl, ?_⟩
      have kk := FD.kids (FDt T) j
      have wo := ((FDt_okay gT).at_ j).1
      have kb : ∀ k ∈ (FDt T).kd j, k < j := fun k hk => kd_before hj hk
      have lcn := fun l ts' (h : ((FDt T).kd j).map (FDt T).tr = ts') => lc_node (cs := cs) (E := E) (l := l) h
      generalize (FDt T).tr j = u at nz kk put wo
      cases u with
      | leaf y =>
        obtain ⟨hy, q, rfl, hq⟩ := nz
        refine ifF rfl ⟨_, rfl, .inl ⟨rfl, _, SqL.of eS3⟩, _, rfl, _, rfl, ?_⟩
        cases hE : E y with
        | true =>
          refine ifT hE ⟨(show 2 ≤ sizeLine by decide), fun b hb => ?_⟩
          obtain ⟨xs, p1, p2, p3, ws', p4, p5⟩ := put (upd H3 b (.tup [V.int 0, V.int 0])) (.ref b) (same_new hb) (by rw [lcT, hE]; exact ⟨b, rfl, upd_same⟩)
          exact ⟨S, xs, _, rfl, rfl, p1, p2, _, _, _, _, rfl, p3, p4, p5⟩
        | false =>
          refine ifF hE ?_
          obtain ⟨xs, p1, p2, p3, ws', p4, p5⟩ := put H3 .non (Same.refl _) (by rw [lcT, hE]; rfl)
          exact ⟨S, xs, _, rfl, rfl, p1, p2, _, _, _, _, rfl, p3, p4, p5⟩
      | node l ts' =>
        obtain ⟨q, q2, rfl, hq, hq2⟩ := nz
        rw [Wo] at wo
        replace kk : ((FDt T).kd j).map (FDt T).tr = ts' := kk
        have lcn' := lcn l ts' kk
        have lkd : ((FDt T).kd j).length = ts'.length := by rw [← kk, List.length_map]
        generalize (FDt T).kd j = kd at kk kb hq2 lcn' lkd
        have hl : l < ss.length := wo.2.1
        have lks : ts'.length = ksOf ss l := wo.2.2.1
        have k4 := Sc.hk l hl
        have hM := Sc.hM
        refine ifT rfl ⟨_, rfl, _, rfl, _, rfl, q, q2, p, S, ts, ss, l, kd, cs, vs, fun i => lcT cs E ((FDt T).tr i), rfl, hq, hq2, ca.same sm3, by have := sc.len; omega, by omega, by omega, eS3, fun k hk => by have := kb k hk; omega, cvs3, fun S2 vs2 H5 hS2 s5 eS2 cl => ?_⟩
        obtain ⟨F, eF⟩ : ∃ F : Nat → Option (Int × Int), F = fun k => addC (cs l k) (lcT cs E ((FDt T).tr (kd.getD k 0))) := ⟨_, rfl⟩
        have clF : CostL H5 vs2 (ksOf ss l) F := by rw [eF]; exact cl
        have lcF : lcT cs E (.node l ts') = minO ((List.range kd.length).map F) := by rw [eF]; exact lcn'
        clear cl lcn' lcn
        refine ⟨_, rfl, .inl ⟨rfl, _, SqL.of (s5 _ _ eS3)⟩, _, rfl, S2, rfl, ⟨_, SqL.of eS2⟩, fun G hG => ?_⟩
        refine lc_it (walk_list (K := K) (a := S2) (xs := vs2)) (fun i H' => Same H5 H' ∧ ∃ (ys : List V) (ns : List (Int × Int)), H' G = some (.lst ys) ∧ ys.length ≤ i ∧ Paired (PairV H5) ys ns ∧ ns = ((List.range i).map F).filterMap id) ⟨same_new hG, [], [], upd_same, Nat.le_refl _, .nil, rfl⟩ (fun i H' _ h => SqL.of (h.1 _ _ eS2)) ?_ ?_
        · rintro i y H6 H6' hi ⟨s6, ys, ns, eG, ly, pn, en⟩ ⟨rfl, hy⟩
          have c1 := clF.2 i y hy
          have stp : ((List.range (i + 1)).map F).filterMap id = ns ++ (F i).toList := by
            rw [List.range_succ, List.map_append, List.filterMap_append, ← en]
            refine congrArg (ns ++ ·) ?_
            show List.filterMap id [F i] = _
            cases F i <;> rfl
          refine ⟨rfl, _, rfl, rfl, _, rfl, ?_⟩
          rw [c1.isN]
          cases hF : F i with
          | none =>
            refine ifF rfl ⟨s6, ys, ns, eG, by omega, pn, ?_⟩
            rw [stp, hF]
            exact (List.append_nil _).symm
          | some x =>
            rw [hF] at c1
            obtain ⟨x1, x2⟩ := x
            obtain ⟨b, rfl, eb⟩ := c1
            have lv2 := clF.1
            refine ifT rfl ⟨_, rfl, ys, eG, by omega, fun b' u e => by rw [upd_ne (ne_of_none e hG)]; exact s6 _ _ e, ys ++ [.ref b], ns ++ [(x1, x2)], upd_same, by rw [List.length_append, List.length_singleton]; omega, paired_snocF pn ⟨b, rfl, eb⟩, ?_⟩
            rw [stp, hF]
            rfl
        rintro H6 ⟨s6, ys, ns, eG, ly, pn, en⟩
        rw [clF.1, ← lks, ← lkd] at en
        refine ⟨G, ys, ns, rfl, rfl, SqL.of eG, Paired.mapP pn fun y x h => ?_, fun e0 => ?_, fun x xs i v e0 hv hm => ?_⟩
        · obtain ⟨t, rfl, et⟩ := h
          exact ⟨t, rfl, s6 _ _ et⟩
        · obtain ⟨xs, p1, p2, p3, ws', p4, p5⟩ := put H6 .non (s5.trans s6) (by
            rw [lcF]
            unfold minO
            rw [← en, e0]
            rfl)
          exact ⟨S, xs, _, rfl, rfl, p1, p2, _, _, _, _, rfl, p3, p4, p5⟩
        · obtain ⟨y0, ey, t, rfl, et⟩ := L2.paired_at pn hv |> fun h => h
          obtain ⟨xs', p1, p2, p3, ws', p4, p5⟩ := put H6 (.ref t) (s5.trans s6) (by
            rw [lcF]
            unfold minO
            rw [← en, e0]
            rw [hm] at ey
            cases ey
            exact ⟨t, rfl, s6 _ _ et⟩)
          exact ⟨S, xs', _, rfl, rfl, p1, p2, _, _, _, _, rfl, p3, p4, p5⟩
    rintro σ H2 ⟨o4, o5, o6, vs, rfl, sm, eS, lvs⟩
    exact ⟨_, rfl, k S vs H2 hS sm eS lvs⟩
end
end R52
namespace R52
open PySem L2 L3 FT ND
open C8 (pss_cut tCut pe_gc)
abbrev sTrueE : Stmt := top 29
theorem op_isTr {X : Cx} : OpR X (compareOp .Is) (fun x y H Q => y = .bl true ∧ ((Val x ∧ Q (.bl (decide (x = .bl true))) H) ∨ ∃ a, x = .ref a ∧ Q (.bl false) H)) := by
  intro pins s σ H x y v u Q I rx ry h
  obtain ⟨rfl, ⟨hx, q⟩ | ⟨a, rfl, q⟩⟩ := h
  · exact op_isT pins s σ H x _ v u Q I rx ry ⟨hx, rfl, q⟩
  · cases (show u = Value.bool true from ry)
    cases (show v = Value.ref a from rx)
    exact wpAny_is_other rfl (fun z => nomatch z) ⟨.bl false, H, I, rfl, q⟩
noncomputable def isTrue (x : V) : Bool := decide (x = .bl true)
abbrev NTe : List Str := ["worth", "node"]
section
variable {P : Program} {w : World} {K : PySem.W.Frag} {mg : Str → Option Value} {base : Heap} {CW C : Addr}
theorem scTe : FnScope NTe ["worth"] (defScope sTrueE) := ⟨rfl, rfl, rfl, by decide +kernel, rfl, by decide +kernel, by decide +kernel⟩
def spTrueE (CW C : Addr) : Sp := fun vs H Q _ => ∃ (r c : Addr) (ts : List Str) (ss : List Nat) (T : Tr V), vs = [.ref r] ∧ SceneF ts ss ∧ WorthI CW C (nmOf ts) ss.length T c H r ∧ TGood ss.length (ksOf ss) T ∧
  ∀ (e : Addr) (H' : Hp), H e = none → Same H H' → H' e = some (.lst ((List.range (FDt T).ts.length).map fun i => V.bl (endB isTrue ((FDt T).tr i)))) → Q (.ref e) H'
theorem ok_trueE {f : Addr} {fd : FuncData} (F : Fun K "true_ends" "true_ends" sTrueE f fd) (TW : WorthC K CW) : FnOk P w K mg base CX0 1 f fd ["worth"] (spTrueE CW C) := by
  refine F.ok scTe (fun vs H Q E h => ?_) (fun cdv A outer s H vs Q E hr h => ?_)
  · obtain ⟨r, c, ts, ss, T, rfl, _⟩ := h
    rfl
  · obtain ⟨r, c, ts, ss, T, rfl, sc, wi, gT, k⟩ := h
    have nd := scTe.nd
    refine ⟨_, pss_one (ps_ret (pe_lc (own := [("node", 1)]) (g := gName 1) (tt := tYes) rfl nd (pi_tup (pe_fld (pv 0) rfl)) (blkOk_by (N := NTe) (sc := defScope sTrueE) (by decide +kernel)) (fun _ _ _ _ _ => pg_name (i := 1) nd rfl (.inl rfl)) (fun _ _ _ _ _ => pts_nil)
      (fun _ _ _ _ _ => pe_cmpR op_isTr (pe_ix (r := rIxT K) (by exact ix_tup) (pv 1) pe_int (fun _ _ => rfl)) pe_bl (nomark _)))), ?_⟩
    obtain ⟨dx, fo, df, tn, tl, to, td, h1, h2, h3, ⟨v1, h4⟩, _⟩ := id wi
    obtain ⟨ws, g1, g2, g3⟩ := h3.tn
    have ew : ws = v1 := by
      rcases g1 with g | g
      · rw [h4] at g; cases g
      · rw [h4] at g; cases g; rfl
    subst ew
    have lsz := sizeLine_eq
    obtain ⟨M, Sc⟩ := sc.sce
    have fewT : (FDt T).ts.length ≤ 2000 := Nat.le_trans (FDt_few Sc.hk gT.1) Sc.geo
    refine ⟨_, rfl, r, CW, dx, _, _, rfl, h1, TW.cl, TW.nN, lk_wn, tn, rfl, ⟨_, SqT.of h4⟩, fun D hD => ?_⟩
    refine lc_it (walk_tup (K := K) (a := tn) (xs := ws)) (fun j H' => (∀ b u, b ≠ D → H b = some u → H' b = some u) ∧ H' D = some (.lst ((List.range j).map fun i => V.bl (endB isTrue ((FDt T).tr i))))) ⟨fun b u nb e => by rw [upd_ne nb]; exact e, upd_same⟩ (fun j H' _ h => SqT.of (h.1 _ _ (fun z => by rw [z, hD] at h4; cases h4) h4)) ?_ ?_
    · rintro j z H2 H2' hj ⟨sm, eD⟩ ⟨rfl, hz⟩
      rw [g2] at hj
      have s2 : Same H H2' := fun b u e => sm b u (fun z => by rw [z, hD] at e; cases e) e
      have nz := (g3 j z hz).same s2
      have fin : ∀ b, b = endB isTrue ((FDt T).tr j) → ∃ acc, H2' D = some (.lst acc) ∧ acc.length < sizeLine ∧ (∀ b' u, b' ≠ D → H b' = some u → upd H2' D (.lst (acc ++ [V.bl b])) b' = some u) ∧ upd H2' D (.lst (acc ++ [V.bl b])) D = some (.lst ((List.range (j + 1)).map fun i => V.bl (endB isTrue ((FDt T).tr i)))) := fun b e => by
        refine ⟨_, eD, by rw [List.length_map, List.length_range]; omega, fun b' u nb e' => by rw [upd_ne nb]; exact sm b' u nb e', ?_⟩
        rw [upd_same, List.range_succ, List.map_append, e]
        rfl
      generalize (FDt T).tr j = u at nz fin
      cases u with
      | leaf y =>
        obtain ⟨hy, q, rfl, hq⟩ := nz
        exact ⟨rfl, _, rfl, q, _, _, _, rfl, rfl, SqT.of hq, rfl, rfl, .inl ⟨Val.of hy, fin _ rfl⟩⟩
      | node l ts' =>
        obtain ⟨q, q2, rfl, hq, hq2⟩ := nz
        exact ⟨rfl, _, rfl, q, _, _, _, rfl, rfl, SqT.of hq, rfl, rfl, .inr ⟨q2, rfl, fin _ rfl⟩⟩
    rintro H2 ⟨sm, eD⟩
    rw [g2] at eD
    exact k D H2 hD (fun b u e => sm b u (fun z => by rw [z, hD] at e; cases e) e) eD
end
end R52
namespace CH
open FT
abbrev PC := Int × Int
abbrev RwT := List (Nat × Nat)
def leC (p q : PC) : Prop := p.1 < q.1 ∨ (p.1 = q.1 ∧ p.2 ≤ q.2)
def ltR : RwT → RwT → Bool
  | [], [] => false
  | [], _ :: _ => true
  | _ :: _, [] => false
  | x :: xs, y :: ys => if x = y then ltR xs ys else if x.1 = y.1 then decide (x.2 < y.2) else decide (x.1 < y.1)
theorem ltR_tri : ∀ {a b : RwT}, ltR a b = false → ltR b a = false → a = b
  | [], [], _, _ => rfl
  | [], _ :: _, h, _ => nomatch h
  | _ :: _, [], _, h => nomatch h
  | x :: xs, y :: ys, h, k => by
    rw [ltR] at h k
    by_cases e : x = y
    · rw [if_pos e] at h
      rw [if_pos e.symm] at k
      rw [e, ltR_tri h k]
    · rw [if_neg e] at h
      rw [if_neg fun z => e z.symm] at k
      by_cases e1 : x.1 = y.1
      · rw [if_pos e1, decide_eq_false_iff_not] at h
        rw [if_pos e1.symm, decide_eq_false_iff_not] at k
        exact absurd (Prod.ext e1 (by omega)) e
      · rw [if_neg e1, decide_eq_false_iff_not] at h
        rw [if_neg fun z => e1 z.symm, decide_eq_false_iff_not] at k
        omega
/-- the choices from b on in which a world differs, with its options -/
def rw' (o x : Nat → Nat) (b n : Nat) : RwT := ((List.range' b n).filter fun l => decide (x l ≠ o l)).map fun l => (l, x l)
def cst (pr : Nat → Nat → Int) (r : RwT) : Int := (r.map fun p => pr p.1 p.2).sum
def key (pr : Nat → Nat → Int) (r : RwT) : PC := (cst pr r, ((r.length : Nat) : Int))
theorem cst_app {pr : Nat → Nat → Int} {a b : RwT} : cst pr (a ++ b) = cst pr a + cst pr b := by
  unfold cst
  rw [List.map_append, List.sum_append]
theorem rw_app {o x : Nat → Nat} {b m n : Nat} : rw' o x b (m + n) = rw' o x b m ++ rw' o x (b + m) n := by
  unfold rw'
  have e : List.range' b (m + n) = List.range' b m ++ List.range' (b + m) n := by
    have := List.range'_append (s := b) (m := m) (n := n) (step := 1)
    rw [Nat.one_mul] at this
    exact this.symm
  rw [e, List.filter_append, List.map_append]
theorem rw_one {o x : Nat → Nat} {l : Nat} : rw' o x l 1 = if x l = o l then [] else [(l, x l)] := by
  unfold rw'
  rw [show List.range' l 1 = [l] from rfl, List.filter_cons]
  by_cases h : x l = o l
  · rw [if_pos h, if_neg (by rw [decide_eq_false (fun z => z h)]; decide)]
    rfl
  · rw [if_neg h, if_pos (decide_eq_true h)]
    rfl
theorem rw_cut {o x : Nat → Nat} {b l N : Nat} (h1 : b ≤ l) (h2 : l < N) : rw' o x b (N - b) = rw' o x b (l - b) ++ ((if x l = o l then [] else [(l, x l)]) ++ rw' o x (l + 1) (N - (l + 1))) := by
  rw [show N - b = (l - b) + (1 + (N - (l + 1))) by omega, rw_app, rw_app, show b + (l - b) = l by omega, rw_one]
theorem rw_mem {o x : Nat → Nat} {b n : Nat} {p : Nat × Nat} (h : p ∈ rw' o x b n) : b ≤ p.1 ∧ p.1 < b + n ∧ p.2 = x p.1 ∧ x p.1 ≠ o p.1 := by
  unfold rw' at h
  obtain ⟨l, hl, rfl⟩ := List.mem_map.mp h
  obtain ⟨h1, h2⟩ := List.mem_filter.mp hl
  have h1 := List.mem_range'_1.mp h1
  exact ⟨h1.1, h1.2, rfl, of_decide_eq_true h2⟩
theorem rw_none {o x : Nat → Nat} {b n : Nat} (h : ∀ l, b ≤ l → l < b + n → x l = o l) : rw' o x b n = [] := by
  cases e : rw' o x b n with
  | nil => rfl
  | cons p r =>
    have := rw_mem (show p ∈ rw' o x b n by rw [e]; exact List.mem_cons_self)
    exact absurd (h _ this.1 this.2.1) this.2.2.2
theorem rw_same {o x y : Nat → Nat} {b n : Nat} (h : ∀ l, b ≤ l → l < b + n → x l = y l) : rw' o x b n = rw' o y b n := by
  unfold rw'
  have e : (List.range' b n).filter (fun l => decide (x l ≠ o l)) = (List.range' b n).filter (fun l => decide (y l ≠ o l)) := List.filter_congr fun l hl => by
    have := List.mem_range'_1.mp hl
    rw [h l this.1 this.2]
  rw [e]
  refine List.map_congr_left fun l hl => ?_
  have := List.mem_range'_1.mp (List.mem_filter.mp hl).1
  rw [h l this.1 this.2]
section
variable {pr : Nat → Nat → Int}
theorem cst_pos (hp : ∀ l k, 0 ≤ pr l k) (r : RwT) : 0 ≤ cst pr r := by
  induction r with
  | nil => exact Int.le_refl 0
  | cons p r ih =>
    have := hp p.1 p.2
    show 0 ≤ pr p.1 p.2 + cst pr r
    omega
theorem sz_kid {α : Type} {l : Nat} {ts : List (Tr α)} {t : Tr α} (h : t ∈ ts) : sz t < sz (.node l ts) := by
  have := sz_mem h
  rw [sz]
  omega
def addO : Option PC → Option PC → Option PC
  | some a, some b => some (a.1 + b.1, a.2 + b.2)
  | _, _ => none
variable {α : Type} {N : Nat} {ks o : Nat → Nat} {E : α → Bool}
/-- a step and what lies below it -/
def stepC (pr : Nat → Nat → Int) (o : Nat → Nat) (l k : Nat) : Option PC := some (if k = o l then (0, 0) else (pr l k, 1))
/-- what the costs of the forms below, and their ways, are to keep -/
structure IsLeast (N : Nat) (pr : Nat → Nat → Int) (o : Nat → Nat) (E : α → Bool) (lc : Tr α → Option PC) (fw : Tr α → RwT) : Prop where
  leaf : ∀ v, lc (.leaf v) = if E v = true then some (0, 0) else none
  fleaf : ∀ v, fw (.leaf v) = []
  le : ∀ l (ts : List (Tr α)) k t c, ts[k]? = some t → addO (stepC pr o l k) (lc t) = some c → ∃ m, lc (.node l ts) = some m ∧ leC m c
  mem : ∀ l (ts : List (Tr α)) m, lc (.node l ts) = some m → ∃ k t, ts[k]? = some t ∧ addO (stepC pr o l k) (lc t) = some m
  way : ∀ l (ts : List (Tr α)) m, lc (.node l ts) = some m → (∃ k t, ts[k]? = some t ∧ k ≠ o l ∧ addO (stepC pr o l k) (lc t) = some m ∧ (∀ j u, ts[j]? = some u → j ≠ o l → addO (stepC pr o l j) (lc u) = some m → k ≤ j) ∧ fw (.node l ts) = (l, k) :: fw t) ∨
    ((∀ j u, ts[j]? = some u → j ≠ o l → addO (stepC pr o l j) (lc u) ≠ some m) ∧ ∀ t, ts[o l]? = some t → fw (.node l ts) = fw t)
theorem add_some {pr : Nat → Nat → Int} {l k : Nat} {d : Option PC} {c : PC} (h : addO (stepC pr o l k) d = some c) : ∃ e, d = some e ∧ c = ((if k = o l then (0, 0) else (pr l k, 1) : PC).1 + e.1, (if k = o l then (0, 0) else (pr l k, 1) : PC).2 + e.2) := by
  cases d with
  | none => cases h
  | some e => exact ⟨e, rfl, (Option.some.inj h).symm⟩
theorem lc_pos {lc : Tr α → Option PC} {fw : Tr α → RwT} (L : IsLeast N pr o E lc fw) (hp : ∀ l k, 0 ≤ pr l k) : ∀ (n : Nat) (t : Tr α) (c : PC), sz t ≤ n → lc t = some c → 0 ≤ c.1 ∧ 0 ≤ c.2
  | 0, t, _, h, _ => absurd h (by have := sz_pos t; omega)
  | n + 1, .leaf v, c, _, h => by
    rw [L.leaf] at h
    split at h
    · cases h; exact ⟨Int.le_refl _, Int.le_refl _⟩
    · cases h
  | n + 1, .node l ts, c, hs, h => by
    obtain ⟨k, t, ht, h⟩ := L.mem l ts c h
    obtain ⟨e, he, rfl⟩ := add_some h
    have st : sz t ≤ n := by
      have := sz_kid (ts := ts) (l := l) (List.mem_of_getElem? ht)
      omega
    obtain ⟨h1, h2⟩ := lc_pos L hp n t e st he
    have := hp l k
    by_cases q : k = o l
    · simp only [q, if_true]; omega
    · simp only [q, if_false]; omega
variable [Inhabited α]
theorem lc_low {lc : Tr α → Option PC} {fw : Tr α → RwT} (L : IsLeast N pr o E lc fw) (hp : ∀ l k, 0 ≤ pr l k) : ∀ (n : Nat) (t : Tr α) (b : Nat) (x : Nat → Nat), sz t ≤ n → Wf N ks b t → Good N ks x → E (ev t x) = true →
    ∃ c, lc t = some c ∧ leC c (key pr (rw' o x b (N - b))) ∧ (key pr (rw' o x b (N - b)) = c → ltR (rw' o x b (N - b)) (fw t) = false)
  | 0, t, _, _, h, _, _, _ => absurd h (by have := sz_pos t; omega)
  | n + 1, .leaf v, b, x, _, _, _, h => by
    rw [ev] at h
    refine ⟨(0, 0), by rw [L.leaf, if_pos h], ?_, fun _ => ?_⟩
    · have := cst_pos hp (rw' o x b (N - b))
      unfold leC key
      simp only
      omega
    · rw [L.fleaf]
      cases rw' o x b (N - b) <;> rfl
  | n + 1, .node l ts, b, x, hs, hw, hg, h => by
    rw [Wf] at hw
    obtain ⟨b1, b2, b3, _, b4⟩ := hw
    have hx := hg l b2
    obtain ⟨t, ht⟩ : ∃ t, ts[x l]? = some t := ⟨_, List.getElem?_eq_getElem (by omega)⟩
    rw [ev, evAt_get ht] at h
    have mt := List.mem_of_getElem? ht
    have st : sz t ≤ n := by
      have := sz_kid (ts := ts) (l := l) mt
      omega
    obtain ⟨c', e1, e2, e3⟩ := lc_low L hp n t (l + 1) x st (wfAll_iff.mp b4 t mt) hg h
    obtain ⟨c, ec⟩ : ∃ c, addO (stepC pr o l (x l)) (lc t) = some c := by rw [e1]; exact ⟨_, rfl⟩
    obtain ⟨m, em, hm⟩ := L.le l ts (x l) t c ht ec
    obtain ⟨e', he', rfl⟩ := add_some ec
    rw [e1] at he'
    obtain rfl := Option.some.inj he'
    rw [rw_cut b1 b2]
    have p1 := cst_pos hp (rw' o x b (l - b))
    have hpx := hp l (x l)
    have ln : (rw' o x (l + 1) (N - (l + 1))).length = (rw' o x (l + 1) (N - (l + 1))).length := rfl
    have low : ∀ p ∈ rw' o x (l + 1) (N - (l + 1)), l < p.1 := fun p hp => (rw_mem hp).1
    generalize rw' o x (l + 1) (N - (l + 1)) = r at e2 e3 low
    generalize rw' o x b (l - b) = q at p1
    have kq : key pr (q ++ ((if x l = o l then [] else [(l, x l)]) ++ r)) = (cst pr q + ((if x l = o l then (0, 0) else (pr l (x l), 1) : PC).1 + cst pr r), (q.length : Int) + ((if x l = o l then (0, 0) else (pr l (x l), 1) : PC).2 + (r.length : Int))) := by
      unfold key
      rw [cst_app, cst_app, List.length_append, List.length_append]
      by_cases z : x l = o l
      · simp only [z, if_true]; refine Prod.ext ?_ ?_
        · show cst pr q + (cst pr [] + cst pr r) = _; rfl
        · show (((q.length + (0 + r.length)) : Nat) : Int) = _; simp only; omega
      · simp only [z, if_false]; refine Prod.ext ?_ ?_
        · show cst pr q + (pr l (x l) + 0 + cst pr r) = _; simp only; omega
        · show (((q.length + (1 + r.length)) : Nat) : Int) = _; simp only; omega
    refine ⟨m, em, ?_, fun hk => ?_⟩
    · rw [kq]
      unfold leC key at *
      simp only at *
      omega
    · rw [kq] at hk
      have q0 : q = [] ∧ key pr r = c' ∧ addO (stepC pr o l (x l)) (lc t) = some m := by
        have h1 : (if x l = o l then (0, 0) else (pr l (x l), 1) : PC).1 + c'.1 = m.1 ∧ (if x l = o l then (0, 0) else (pr l (x l), 1) : PC).2 + c'.2 = m.2 ∧ q.length = 0 ∧ cst pr r = c'.1 ∧ (r.length : Int) = c'.2 := by
          rw [← hk] at hm ⊢
          unfold leC key at *
          simp only at *
          omega
        refine ⟨List.length_eq_zero_iff.mp h1.2.2.1, Prod.ext h1.2.2.2.1 h1.2.2.2.2, ?_⟩
        rw [ec]
        exact congrArg some (Prod.ext h1.1 h1.2.1)
      obtain ⟨rfl, kr, eF⟩ := q0
      have e3 := e3 kr
      rw [List.nil_append]
      rcases L.way l ts m em with ⟨k, t', hk1, hk2, hk3, hk4, hk5⟩ | ⟨hk1, hk2⟩
      · rw [hk5]
        by_cases z : x l = o l
        · rw [if_pos z, List.nil_append]
          cases r with
          | nil =>
            exfalso
            obtain ⟨e, he, rfl⟩ := add_some hk3
            have ps := (lc_pos L hp _ t' e (Nat.le_refl _) he).2
            have := congrArg Prod.snd hk
            rw [if_neg hk2] at this
            simp only [z, if_true, List.length_nil] at this
            omega
          | cons p r =>
            have lp := low p List.mem_cons_self
            rw [ltR, if_neg (fun e => by rw [e] at lp; exact Nat.lt_irrefl _ lp), if_neg (by show ¬ p.1 = l; omega)]
            exact decide_eq_false (by show ¬ p.1 < l; omega)
        · rw [if_neg z]
          have := hk4 (x l) t ht z eF
          show ltR ((l, x l) :: r) _ = false
          by_cases y : x l = k
          · subst y
            rw [ht] at hk1
            obtain rfl := Option.some.inj hk1
            rw [ltR, if_pos rfl]
            exact e3
          · rw [ltR, if_neg (fun e => y (congrArg Prod.snd e)), if_pos rfl]
            exact decide_eq_false (by show ¬ x l < k; omega)
      · have z : x l = o l := Classical.byContradiction fun z => hk1 (x l) t ht z eF
        rw [hk2 t (by rw [← z]; exact ht), if_pos z, List.nil_append]
        exact e3
theorem lc_got {lc : Tr α → Option PC} {fw : Tr α → RwT} (L : IsLeast N pr o E lc fw) (ho : Good N ks o) : ∀ (n : Nat) (t : Tr α) (b : Nat) (c : PC), sz t ≤ n → Wf N ks b t → lc t = some c →
    ∃ x, Good N ks x ∧ E (ev t x) = true ∧ (∀ l, l < b → x l = o l) ∧ rw' o x b (N - b) = fw t ∧ key pr (fw t) = c
  | 0, t, _, _, h, _, _ => absurd h (by have := sz_pos t; omega)
  | n + 1, .leaf v, b, c, _, _, h => by
    rw [L.leaf] at h
    split at h
    · next hE =>
      cases h
      exact ⟨o, ho, by rw [ev]; exact hE, fun _ _ => rfl, by rw [L.fleaf]; exact rw_none fun _ _ _ => rfl, by rw [L.fleaf]; rfl⟩
    · cases h
  | n + 1, .node l ts, b, m, hs, hw, h => by
    rw [Wf] at hw
    obtain ⟨b1, b2, b3, _, b4⟩ := hw
    obtain ⟨j, t, ht, hj, hf⟩ : ∃ j t, ts[j]? = some t ∧ addO (stepC pr o l j) (lc t) = some m ∧ fw (.node l ts) = (if j = o l then [] else [(l, j)]) ++ fw t := by
      rcases L.way l ts m h with ⟨k, t', hk1, hk2, hk3, hk4, hk5⟩ | ⟨hk1, hk2⟩
      · exact ⟨k, t', hk1, hk3, by rw [hk5, if_neg hk2]; rfl⟩
      · obtain ⟨k, t, h1, h2⟩ := L.mem l ts m h
        have z : k = o l := Classical.byContradiction fun z => hk1 k t h1 z h2
        exact ⟨k, t, h1, h2, by rw [hk2 t (by rw [← z]; exact h1), if_pos z]; rfl⟩
    have mt := List.mem_of_getElem? ht
    have st : sz t ≤ n := by
      have := sz_kid (ts := ts) (l := l) mt
      omega
    obtain ⟨e, he, rfl⟩ := add_some hj
    have wt := wfAll_iff.mp b4 t mt
    obtain ⟨x, h1, h2, h3, h4, h5⟩ := lc_got L ho n t (l + 1) e st wt he
    have hjl : j < ks l := by rw [← b3]; exact (List.getElem?_eq_some_iff.mp ht).1
    refine ⟨fun i => if i = l then j else x i, fun i hi => ?_, ?_, fun i hi => ?_, ?_, ?_⟩
    · simp only
      by_cases z : i = l
      · rw [if_pos z, z]; exact hjl
      · rw [if_neg z]; exact h1 i hi
    · rw [ev]
      simp only [if_true]
      rw [evAt_get ht, ← ev_below (N := N) (ks := ks) _ t (l + 1) x _ (Nat.le_refl _) wt h1 fun i hi _ => by rw [if_neg (show ¬ i = l by omega)]]
      exact h2
    · exact (if_neg (by omega)).trans (h3 i (by omega))
    · rw [rw_cut b1 b2, hf]
      rw [rw_none (b := b) fun i hi hi2 => (if_neg (show ¬ i = l by omega)).trans (h3 i (by omega))]
      simp only [if_true]
      rw [List.nil_append, ← h4]
      congr 1
      exact rw_same fun i hi _ => if_neg (show ¬ i = l by omega)
    · rw [hf]
      unfold key at h5 ⊢
      rw [cst_app, List.length_append, ← h5]
      by_cases z : j = o l
      · simp only [z, if_true]; refine Prod.ext ?_ ?_
        · rfl
        · show (((0 + (fw t).length) : Nat) : Int) = _; simp only; omega
      · simp only [z, if_false]; refine Prod.ext ?_ ?_
        · show pr l j + 0 + cst pr (fw t) = _; simp only; omega
        · show (((1 + (fw t).length) : Nat) : Int) = _; simp only; omega
end
end CH
namespace R52
open PySem L2 L3 FT ND
open CH (IsLeast addO stepC leC PC RwT)
theorem minOf_spec : ∀ (xs : List PC) (x : PC), (PySem.W.minOf x xs = x ∨ PySem.W.minOf x xs ∈ xs) ∧ leC (PySem.W.minOf x xs) x ∧ ∀ y ∈ xs, leC (PySem.W.minOf x xs) y
  | [], x => ⟨.inl rfl, .inr ⟨rfl, Int.le_refl _⟩, fun _ h => nomatch h⟩
  | y :: xs, x => by
    have e : PySem.W.minOf x (y :: xs) = PySem.W.minOf (if PySem.W.DatumOrd.lt y x = true then y else x) xs := rfl
    rw [e]
    have d : PySem.W.DatumOrd.lt y x = if y.1 = x.1 then decide (y.2 < x.2) else decide (y.1 < x.1) := rfl
    obtain ⟨h1, h2, h3⟩ := minOf_spec xs (if PySem.W.DatumOrd.lt y x = true then y else x)
    generalize PySem.W.minOf (if PySem.W.DatumOrd.lt y x = true then y else x) xs = m at h1 h2 h3 ⊢
    by_cases q : PySem.W.DatumOrd.lt y x = true
    · rw [if_pos q] at h1 h2
      have q' : leC y x := by
        rw [d] at q
        split at q
        · next z => exact .inr ⟨z, Int.le_of_lt (of_decide_eq_true q)⟩
        · exact .inl (of_decide_eq_true q)
      refine ⟨.inr (h1.elim (fun z => by rw [z]; exact List.mem_cons_self) fun z => List.mem_cons_of_mem _ z), ?_, fun z hz => ?_⟩
      · unfold leC at *; omega
      · rcases List.mem_cons.mp hz with rfl | hz
        · exact h2
        · exact h3 z hz
    · rw [if_neg q] at h1 h2
      have q' : leC x y := by
        rw [d] at q
        unfold leC
        split at q
        · next z => exact .inr ⟨z.symm, Int.not_lt.mp fun h => q (decide_eq_true h)⟩
        · next z => have h2 := Int.not_lt.mp fun h => q (decide_eq_true h); exact .inl (by omega)
      refine ⟨h1.elim .inl fun z => .inr (List.mem_cons_of_mem _ z), h2, fun z hz => ?_⟩
      · rcases List.mem_cons.mp hz with rfl | hz
        · unfold leC at *; omega
        · exact h3 z hz
theorem minO_le {L : List (Option PC)} {c : PC} (h : some c ∈ L) : ∃ m, minO L = some m ∧ leC m c := by
  have hm : c ∈ L.filterMap id := List.mem_filterMap.mpr ⟨some c, h, rfl⟩
  unfold minO
  cases e : L.filterMap id with
  | nil => rw [e] at hm; cases hm
  | cons x xs =>
    rw [e] at hm
    have sp := minOf_spec xs x
    refine ⟨_, rfl, ?_⟩
    rcases List.mem_cons.mp hm with rfl | hm
    · exact sp.2.1
    · exact sp.2.2 c hm
theorem minO_mem {L : List (Option PC)} {m : PC} (h : minO L = some m) : some m ∈ L := by
  unfold minO at h
  cases e : L.filterMap id with
  | nil => rw [e] at h; cases h
  | cons x xs =>
    rw [e] at h
    obtain rfl := Option.some.inj h
    have sp := (minOf_spec xs x).1
    have : PySem.W.minOf x xs ∈ L.filterMap id := by
      rw [e]
      rcases sp with z | z
      · rw [z]; exact List.mem_cons_self
      · exact List.mem_cons_of_mem _ z
    obtain ⟨a, ha, hb⟩ := List.mem_filterMap.mp this
    rw [show a = some (PySem.W.minOf x xs) from hb] at ha
    exact ha
/-- the first other option that costs as little -/
def pickO (cs : Nat → Nat → Option (Int × Int)) (E : V → Bool) (o : Nat → Nat) (l : Nat) (ts : List (Tr V)) : Option Nat := (List.range ts.length).find? fun k => decide ((lcL cs E l 0 ts).getD k none = minO (lcL cs E l 0 ts)) && decide (k ≠ o l)
mutual
def fwT (cs : Nat → Nat → Option (Int × Int)) (E : V → Bool) (o : Nat → Nat) : Tr V → RwT
  | .leaf _ => []
  | .node l ts => match pickO cs E o l ts with
    | some k => (l, k) :: fwL cs E o ts k
    | none => fwL cs E o ts (o l)
def fwL (cs : Nat → Nat → Option (Int × Int)) (E : V → Bool) (o : Nat → Nat) : List (Tr V) → Nat → RwT
  | [], _ => []
  | t :: _, 0 => fwT cs E o t
  | _ :: r, n + 1 => fwL cs E o r n
end
theorem fwL_get {cs : Nat → Nat → Option (Int × Int)} {E : V → Bool} {o : Nat → Nat} : ∀ {ts : List (Tr V)} {n : Nat} {t : Tr V}, ts[n]? = some t → fwL cs E o ts n = fwT cs E o t
  | t :: _, 0, _, rfl => by rw [fwL]
  | _ :: r, n + 1, u, h => by rw [fwL]; exact fwL_get (ts := r) h
theorem addC_addO (a b : Option (Int × Int)) : addC a b = addO a b := by cases a <;> cases b <;> rfl
theorem lcL_at {cs : Nat → Nat → Option (Int × Int)} {E : V → Bool} {l : Nat} {ts : List (Tr V)} {k : Nat} {t : Tr V} (h : ts[k]? = some t) : (lcL cs E l 0 ts)[k]? = some (addC (cs l k) (lcT cs E t)) := by
  have hk := (List.getElem?_eq_some_iff.mp h).1
  rw [lcL_map, List.getElem?_map, List.getElem?_range hk]
  show some (addC (cs l (0 + k)) _) = _
  rw [h, Nat.zero_add]
  rfl
theorem lcL_len {cs : Nat → Nat → Option (Int × Int)} {E : V → Bool} {l : Nat} {ts : List (Tr V)} : (lcL cs E l 0 ts).length = ts.length := by
  rw [lcL_map, List.length_map, List.length_range]
theorem isLeast {N : Nat} {pr : Nat → Nat → Int} {o : Nat → Nat} {E : V → Bool} : IsLeast N pr o E (lcT (pricedC o pr) E) (fwT (pricedC o pr) E o) where
  leaf v := by rw [lcT]
  fleaf v := by rw [fwT]
  le l ts k t c ht hc := by
    rw [lcT]
    refine minO_le (List.mem_of_getElem? (i := k) ?_)
    rw [lcL_at ht, addC_addO]
    exact congrArg some hc
  mem l ts m h := by
    rw [lcT] at h
    obtain ⟨k, hk⟩ := List.mem_iff_getElem?.mp (minO_mem h)
    have hl : k < ts.length := by
      have := (List.getElem?_eq_some_iff.mp hk).1
      rw [lcL_len] at this
      exact this
    have ht : ts[k]? = some ts[k] := List.getElem?_eq_getElem hl
    rw [lcL_at ht, addC_addO] at hk
    exact ⟨k, _, ht, Option.some.inj hk⟩
  way l ts m h := by
    rw [lcT] at h
    have at_ : ∀ {k : Nat} {t : Tr V}, ts[k]? = some t → (lcL (pricedC o pr) E l 0 ts).getD k none = addO (stepC pr o l k) (lcT (pricedC o pr) E t) := fun {k t} ht => by
      rw [List.getD_eq_getElem?_getD, lcL_at ht, addC_addO]
      rfl
    cases e : pickO (pricedC o pr) E o l ts with
    | some k =>
      obtain ⟨h1, h2, h3⟩ := List.find?_range_eq_some.mp e
      have hl : k < ts.length := List.mem_range.mp h2
      have ht : ts[k]? = some ts[k] := List.getElem?_eq_getElem hl
      rw [Bool.and_eq_true, decide_eq_true_eq, decide_eq_true_eq, at_ ht, h] at h1
      refine .inl ⟨k, _, ht, h1.2, h1.1, fun j u hu hj hc => Nat.le_of_not_lt fun lt => ?_, by rw [fwT, e]; simp only; rw [fwL_get ht]⟩
      have := h3 j lt
      rw [Bool.not_eq_true', Bool.and_eq_false_iff, decide_eq_false_iff_not, decide_eq_false_iff_not, at_ hu, h] at this
      exact this.elim (fun z => z hc) fun z => z hj
    | none =>
      have hn := List.find?_eq_none.mp e
      refine .inr ⟨fun j u hu hj hc => ?_, fun t ht => by rw [fwT, e]; simp only; rw [fwL_get ht]⟩
      have := hn j (List.mem_range.mpr (List.getElem?_eq_some_iff.mp hu).1)
      rw [Bool.and_eq_true, decide_eq_true_eq, decide_eq_true_eq, at_ hu, h] at this
      exact this ⟨hc, hj⟩
end R52
namespace R52
open PySem L2 L3 FT ND
open CH (RwT)
open C8 (pss_cut tCut pe_gc)
abbrev sFirst : Stmt := top 30
def costD : Option (Int × Int) → PyData
  | none => .none
  | some p => .tuple [.int p.1, .int p.2]
theorem CostV.dp {K : PySem.W.Frag} {H : Hp} {v : V} : ∀ {o : Option (Int × Int)}, CostV H v o → Dp K H v (costD o)
  | none, h => by rw [show v = .non from h]; exact .non
  | some (_, _), ⟨b, e, h⟩ => by rw [e]; exact .tup (SqT.of h) (.cons (.int _) (.cons (.int _) .nil))
theorem costD_eqv : ∀ a b : Option (Int × Int), PyData.eqv (costD a) (costD b) = decide (a = b)
  | none, none => rfl
  | none, some _ => rfl
  | some _, none => rfl
  | some (a, b), some (c, d) => by
    have e : PyData.eqv (costD (some (a, b))) (costD (some (c, d))) = ((a == c) && ((b == d) && true)) := rfl
    rw [e, Bool.and_true]
    by_cases h1 : a = c
    · by_cases h2 : b = d
      · rw [h1, h2, decide_eq_true rfl, beq_self_eq_true, beq_self_eq_true]; rfl
      · rw [decide_eq_false (fun z => h2 (congrArg Prod.snd (Option.some.inj z))), beq_false_of_ne h2, Bool.and_false]
    · rw [decide_eq_false (fun z => h1 (congrArg Prod.fst (Option.some.inj z))), beq_false_of_ne h1, Bool.false_and]
theorem costD_sh (a : Option (Int × Int)) : SeqAt.shaped (costD a) = true := by
  cases a <;> rfl
abbrev NFw : List Str := ["worth", "world", "costs", "ends", "least", "pairs", "at", "name", "below", "steps", "option", "others", "cost"]
section
variable {P : Program} {w : World} {K : PySem.W.Frag} {mg : Str → Option Value} {base : Heap} {CW C : Addr}
theorem scFw : FnScope NFw ["worth", "world", "costs", "ends"] (defScope sFirst) := ⟨rfl, rfl, rfl, by decide +kernel, rfl, by decide +kernel, by decide +kernel⟩
def spFirst (CW C : Addr) : Sp := fun vs H Q _ => ∃ (r d p e c : Addr) (ts : List Str) (ss : List Nat) (T : Tr V) (o : Nat → Nat) (cs : Nat → Nat → Option (Int × Int)) (E : V → Bool), vs = [.ref r, .ref d, .ref p, .ref e] ∧ SceneF ts ss ∧ WorthI CW C (nmOf ts) ss.length T c H r ∧ TGood ss.length (ksOf ss) T ∧ WAt H d ts o ∧ Good ss.length (ksOf ss) o ∧ CostsAt H p ts ss cs ∧ H e = some (.lst ((List.range (FDt T).ts.length).map fun i => V.bl (endB E ((FDt T).tr i)))) ∧
  (∀ H', lcT cs E T = none → Same H H' → Q .non H') ∧
  ∀ (q b : Addr) (m n : Int) (H' : Hp), lcT cs E T = some (m, n) → H q = none → Same H H' → H' q = some (.tup [.int m, .ref b]) → PrAt (namV ts) H' b (fwT cs E o T) → Q (.ref q) H'
def WFw (r d p e S G : Addr) (H1 : Hp) (ts : List Str) (T : Tr V) (cs : Nat → Nat → Option (Int × Int)) (E : V → Bool) (o : Nat → Nat) (j : Nat) (σ : L2.St) (H' : Hp) : Prop := j < (FDt T).ts.length ∧ ∃ (D : RwT) (gs : List Addr) (o7 o8 o9 o10 o11 : Option V), σ = [some (.ref r), some (.ref d), some (.ref p), some (.ref e), some (.ref S), some (.ref G), some (.int ((j : Nat) : Int)), o7, o8, o9, o10, o11, none] ∧ (∀ b u, b ≠ G → H1 b = some u → H' b = some u) ∧ H' G = some (.lst (gs.map V.ref)) ∧ gs.length + j < (FDt T).ts.length ∧ Paired (fun b (x : Nat × Nat) => H' b = some (.tup [namV ts x.1, .int ((x.2 : Nat) : Int)])) gs D ∧ D ++ fwT cs E o ((FDt T).tr j) = fwT cs E o T
theorem find_filter {α : Type} (p : α → Bool) : ∀ l : List α, l.find? p = (l.filter p).head?
  | [] => rfl
  | x :: l => by
    rw [List.find?_cons, List.filter_cons]
    cases p x with
    | true => rfl
    | false => exact find_filter p l
theorem ok_first {f fI fB fL : Addr} {fd fdI fdB fdL : FuncData} (F : Fun K "first_way" "first_way" sFirst f fd) (TW : WorthC K CW) (UI : ∀ nm : Nat → Str, Use P w K mg base "is_choice" 1 fI fdI ["node"] (spIsC nm)) (UB : Use P w K mg base "costs_below" 1 fB fdB ["node", "costs", "least"] spCostsB) (UL : Use P w K mg base "least_costs" 2 fL fdL ["worth", "costs", "ends"] (spLeast CW C)) (zLen : mg "len" = none) (zEnu : mg "enumerate" = none) (zTup : mg "tuple" = none) :
    FnOk P w K mg base CX0 3 f fd ["worth", "world", "costs", "ends"] (spFirst CW C) := by
  refine F.ok scFw (fun vs H Q E h => ?_) (fun cdv A outer s H vs Q E hr h => ?_)
  · obtain ⟨r, d, p, e, c, ts, ss, T, o, cs, E, rfl, _⟩ := h
    rfl
  · obtain ⟨r, d, p, e, c, ts, ss, T, o, cs, E, rfl, sc, wi, gT, wd, go, ca, ee, kN, kS⟩ := h
    have nd := scFw.nd
    have UI := UI (nmOf ts)
    have hu : _ + 1 < cLine := Nat.lt_of_le_of_lt (Nat.add_le_add_left (by decide : 1 ≤ 64) _) hr.units
    refine ⟨_, pss_cons (ps_set (i := 4) nd rfl (.inr rfl) (pe_call UL.G (hr.mono (by omega)) (by rfl) UL.g UL.kp UL.b .nil pass0 (pa_cons (pv 0) (pa_cons (pv 2) (pa_cons (pv 3) pa_nil)))))
      (pss_cons (ps_if (pt_cmpR op_isN (pe_ix (r := rIxL K) (by exact ix_list) (pv 4) (pe_un un_neg pe_int) (fun _ _ => rfl)) pe_non (nomark _)) (pss_one (ps_ret pe_non)) pss_nil)
      (pss_cons (ps_set (i := 5) nd rfl (.inl rfl) (pe_lst pa_nil))
      (pss_cons (ps_set (i := 6) nd rfl (.inr rfl) (pe_op op_sub (pe_callB call_len_seq (by rfl) zLen PySem.boot_len (pa_cons (pe_fld (pv 0) rfl) pa_nil)) pe_int))
      (pss_cons (ps_while PassesOwn.never (pt_val (pe_call UI.G (hr.mono (by omega)) (by rfl) UI.g UI.kp UI.b .nil pass0 (pa_cons (pe_ix (r := rIxT K) (by exact ix_tup) (pe_fld (pv 0) rfl) (pv 6) (fun _ _ => rfl)) pa_nil)))
        (pss_cons (ps_asg (pe_ix (r := rIxT K) (by exact ix_tup) (pe_fld (pv 0) rfl) (pv 6) (fun _ _ => rfl)) (pg_tup (by rfl) (pgs_cons (pg_name (i := 7) nd rfl (.inr rfl)) (pgs_cons (pg_name (i := 8) nd rfl (.inl rfl)) pgs_nil))))
        (pss_cons (ps_set (i := 9) nd rfl (.inl rfl) (pe_call UB.G (hr.mono (by omega)) (by rfl) UB.g UB.kp UB.b .nil pass0 (pa_cons (pe_ix (r := rIxT K) (by exact ix_tup) (pe_fld (pv 0) rfl) (pv 6) (fun _ _ => rfl)) (pa_cons (pv 2) (pa_cons (pv 4) pa_nil)))))
        (pss_cons (ps_setLc (i := 11) (own := [("option", 10), ("cost", 12)]) (g := gTup K 2 (gCons (gName 10) (gCons (gName 12) gNil))) rfl nd rfl rfl (sw_true rfl rfl rfl (by decide +kernel)) (pi_enum (by rfl) zEnu (pa_cons (pv 9) pa_nil)) (blkOk_by (N := NFw) (sc := defScope sFirst) (by decide +kernel)) (fun _ _ _ _ _ => pg_tup (by rfl) (pgs_cons (pg_name (i := 10) nd rfl (.inl rfl)) (pgs_cons (pg_name (i := 12) nd rfl (.inl rfl)) pgs_nil)))
          (fun _ _ _ _ _ => pts_one (PW.pt (pw_and (pt_cmpR (r := rEqD K) (by exact op_eqD hr.units) (pv 12) (pe_ix (r := rIxL K) (by exact ix_list) (pv 4) (pv 6) (fun _ _ => rfl)) (nomark _)) (pw_and1 (pt_cmpR op_ne (pv 10) (pe_dget hu (pv 1) (pv 7) (fun _ _ => rfl)) (nomark _))))))
          (fun _ _ _ _ _ => pv 10))
        (pss_cons (ps_set (i := 10) nd rfl (.inl rfl) (pe_ifExp (pt_truth (pv 11) (by intro _; rfl)) (pe_ix (r := rIxL K) (by exact ix_list) (pv 11) pe_int (fun _ _ => rfl)) (pe_dget hu (pv 1) (pv 7) (fun _ _ => rfl))))
        (pss_cons (ps_if (pt_truth (pv 11) (by intro _; rfl)) (pss_one (ps_expr (pe_bm PySem.F.plainAttrs_list PySem.F.slot_list_append PySem.F.type_list_append mt_append (pv 5) (pa_cons (pe_tup (pa_cons (pv 7) (pa_cons (pv 10) pa_nil))) pa_nil)))) pss_nil)
        (pss_one (ps_set (i := 6) nd rfl (.inr rfl) (pe_ix (r := rIxT K) (by exact ix_tup) (pv 8) (pv 10) (fun _ _ => rfl))))))))))
      (pss_one (ps_ret (pe_tup (pa_cons (pe_ix (r := rIxT K) (by exact ix_tup) (pe_ix (r := rIxL K) (by exact ix_list) (pv 4) (pe_un un_neg pe_int) (fun _ _ => rfl)) pe_int (fun _ _ => rfl)) (pa_cons (pe_callTy call_tuple_of (by rfl) zTup PyProof.Rows.boot_tuple (pa_cons (pv 5) pa_nil)) pa_nil))))))))), ?_⟩
    obtain ⟨dx, fo, df, tn, tl, to, td, h1, h2, h3, ⟨v1, h4⟩, _⟩ := id wi
    obtain ⟨ws, g1, g2, g3⟩ := h3.tn
    have ew : ws = v1 := by
      rcases g1 with g | g
      · rw [h4] at g; cases g
      · rw [h4] at g; cases g; rfl
    subst ew
    have lsz := sizeLine_eq
    obtain ⟨M, Sc⟩ := sc.sce
    have fewT : (FDt T).ts.length ≤ 2000 := Nat.le_trans (FDt_few Sc.hk gT.1) Sc.geo
    obtain ⟨m0, em⟩ := enum_last T
    have lm : (FDt T).ts = m0 ++ [T] := em
    have ll : (FDt T).ts.length = m0.length + 1 := by rw [lm, List.length_append]; rfl
    have tr0 : (FDt T).tr m0.length = T := by
      have := FD.get (A := FDt T) (i := m0.length) (by omega)
      rw [lm, List.getElem?_append_right (Nat.le_refl _), Nat.sub_self] at this
      exact (Option.some.inj this).symm
    refine ⟨_, rfl, _, rfl, _, rfl, r, p, e, c, ts, ss, T, cs, E, rfl, sc, wi, gT, ca, ee, fun S vs H1 hS s1 eS lv => ?_⟩
    obtain ⟨lvs, cvs⟩ := lv
    have e0 : vs[m0.length]? = some vs[m0.length] := List.getElem?_eq_getElem (by omega)
    have cv0 := cvs _ _ e0
    rw [tr0] at cv0
    generalize vs[m0.length] = v0 at e0 cv0
    have at1 : atI vs (-1) = some v0 := by
      obtain ⟨xs, x, ex⟩ : ∃ xs x, vs = xs ++ [x] := ⟨vs.dropLast, vs.getLast (fun e => by rw [e] at lvs; exact absurd lvs (by rw [ll]; exact fun z => nomatch z)), (List.dropLast_concat_getLast _).symm⟩
      have lx : xs.length = m0.length := by
        have := congrArg List.length ex
        rw [List.length_append, List.length_singleton] at this
        omega
      rw [ex, ← lx, List.getElem?_append_right (Nat.le_refl _), Nat.sub_self] at e0
      rw [ex, atI_last]
      exact e0
    refine ⟨_, rfl, 1, rfl, S, vs, -1, v0, rfl, rfl, SqL.of eS, at1, rfl, _, rfl, ?_⟩
    rw [cv0.isN]
    cases hc : lcT cs E T with
    | none => exact ifT rfl (kN H1 hc s1)
    | some mn =>
      rw [hc] at cv0
      obtain ⟨m, n⟩ := mn
      obtain ⟨t0, rfl, et0⟩ := cv0
      refine ifF rfl ⟨(show 0 ≤ sizeLine by decide), fun G hG => ?_⟩
      have sG := same_new (o := HO.lst []) hG
      have eG : upd H1 G (.lst []) G = some (.lst []) := upd_same
      refine ⟨_, rfl, r, CW, dx, _, _, rfl, sG _ _ (s1 _ _ h1), TW.cl, TW.nN, lk_wn, tn, ws, rfl, .inr (SqT.of (sG _ _ (s1 _ _ h4))), _, _, rfl, rfl, ?_⟩
      have kG : ∀ {b : Addr} {u : HO}, H1 b = some u → b ≠ G := fun e z => by rw [z, hG] at e; cases e
      refine ⟨WFw r d p e S G H1 ts T cs E o, ⟨m0.length, by omega, [], [], none, none, none, none, none, ?_, fun b u nb e => by rw [upd_ne nb]; exact e, eG, by rw [List.length_nil]; omega, .nil, by rw [tr0]; rfl⟩, ?_⟩
      · show [some (V.ref r), some (V.ref d), some (V.ref p), some (V.ref e), some (V.ref S), some (V.ref G), some (V.int (((ws.length : Nat) : Int) - 1)), none, none, none, none, none, none] = _
        rw [show ((ws.length : Nat) : Int) - 1 = ((m0.length : Nat) : Int) by omega]
      rintro j σ H2 ⟨hj, D, gs, o7, o8, o9, o10, o11, rfl, kp, eG2, lg, pg, ef⟩
      have s2 : Same H1 H2 := fun b u e => kp b u (kG e) e
      have s12 := s1.trans s2
      obtain ⟨z, hz⟩ : ∃ z, ws[j]? = some z := ⟨_, List.getElem?_eq_getElem (by omega)⟩
      have nz := (g3 j z hz).same s12
      refine ⟨_, rfl, r, CW, dx, _, _, rfl, s12 _ _ h1, TW.cl, TW.nN, lk_wn, _, rfl, tn, ws, _, z, rfl, rfl, SqT.of (s12 _ _ h4), atI_nat hz, (FDt T).tr j, (FDt T).kd j, z, rfl, nz, _, rfl, ?_⟩
      have kk := FD.kids (FDt T) j
      have wo := ((FDt_okay gT).at_ j).1
      have kb : ∀ k ∈ (FDt T).kd j, k < j := fun k hk => kd_before hj hk
      obtain ⟨jv, hjv⟩ : ∃ jv, vs[j]? = some jv := ⟨_, List.getElem?_eq_getElem (by omega)⟩
      have cj := cvs j jv hjv
      generalize (FDt T).tr j = u at nz kk wo ef cj
      cases u with
      | leaf y =>
        rw [fwT, List.append_nil] at ef
        subst ef
        refine ifF rfl ⟨_, rfl, 1, rfl, S, vs, -1, _, rfl, rfl, SqL.of (s2 _ _ eS), at1, t0, _, _, _, rfl, rfl, SqT.of (s2 _ _ et0), rfl, _, rfl, G, _, rfl, .inl ⟨SqL.of eG2, fun b hb => ⟨(show 2 ≤ sizeLine by decide), fun q hq => ?_⟩⟩⟩
        have sb := same_new (o := HO.tup (gs.map V.ref)) hb
        have sq := same_new (o := HO.tup [V.int m, V.ref b]) hq
        exact kS q b m n _ hc (s12.free (sb.free hq)) (s12.trans (sb.trans sq)) upd_same ⟨gs, sq _ _ upd_same, Paired.mapP pg fun _ _ e => sq _ _ (sb _ _ e)⟩
      | node l ts' =>
        obtain ⟨q, q2, rfl, hq, hq2⟩ := nz
        rw [Wo] at wo
        replace kk : ((FDt T).kd j).map (FDt T).tr = ts' := kk
        have lkd : ((FDt T).kd j).length = ts'.length := by rw [← kk, List.length_map]
        generalize (FDt T).kd j = kd at kk kb hq2 lkd
        have hl : l < ss.length := wo.2.1
        have lks : ts'.length = ksOf ss l := wo.2.2.1
        have k4 := Sc.hk l hl
        have hM := Sc.hM
        have hlt : l < ts.length := by have := sc.len; omega
        have gow := (wkv_get (o := o) sc.gd.1 hlt).symm
        have gol := go l hl
        refine ifT rfl ⟨fun σ' H' => ∃ j', j' < j ∧ WFw r d p e S G H1 ts T cs E o j' σ' H', fun σ' H' h => h, ?_⟩
        refine ⟨_, rfl, r, CW, dx, _, _, rfl, s12 _ _ h1, TW.cl, TW.nN, lk_wn, _, rfl, tn, ws, _, _, rfl, rfl, SqT.of (s12 _ _ h4), atI_nat hz, q, _, rfl, SqT.of hq, rfl, _, _, rfl, _, _, rfl, rfl, ?_⟩
        refine ⟨_, rfl, r, CW, dx, _, _, rfl, s12 _ _ h1, TW.cl, TW.nN, lk_wn, _, rfl, tn, ws, _, _, rfl, rfl, SqT.of (s12 _ _ h4), atI_nat hz, _, rfl, _, rfl, q, q2, p, S, ts, ss, l, kd, cs, vs, fun i => lcT cs E ((FDt T).tr i), rfl, hq, hq2, ca.same s12, hlt, by omega, by omega, s2 _ _ eS, fun k hk => by have := kb k hk; omega, fun i v e => (cvs i v e).same s2, fun S2 vs2 H5 hS2 s5 eS2 cl => ?_⟩
        have F_at : ∀ k, k < ts'.length → (lcL cs E l 0 ts').getD k none = addC (cs l k) (lcT cs E ((FDt T).tr (kd.getD k 0))) := fun k hk => by
          have hkd : k < kd.length := by omega
          have e1 : ts'[k]? = some ((FDt T).tr kd[k]) := by rw [← kk, List.getElem?_map, List.getElem?_eq_getElem hkd]; rfl
          rw [List.getD_eq_getElem?_getD, lcL_at e1, List.getD_eq_getElem?_getD, List.getElem?_eq_getElem hkd]
          rfl
        have efN : lcT cs E (.node l ts') = minO (lcL cs E l 0 ts') := by rw [lcT]
        rw [efN] at cj
        have s25 := s2.trans s5
        refine ⟨_, rfl, S2, _, rfl, SqL.of eS2, fun X hX => ?_⟩
        refine lc_it (walk_enum (K := K) (a := S2) (xs := vs2)) (fun i H' => Same H5 H' ∧ H' X = some (.lst (((List.range i).filter fun k => decide ((lcL cs E l 0 ts').getD k none = minO (lcL cs E l 0 ts')) && decide (k ≠ o l)).map fun k : Nat => V.int (k : Nat)))) ⟨same_new hX, upd_same⟩ (fun i H' _ h => SqL.of (h.1 _ _ eS2)) ?_ ?_
        · rintro i y H6 H6' hi ⟨s6, eX⟩ ⟨q0, z1, z2, rfl, nq, rfl, hv1, hv2⟩
          cases hv1
          replace hv2 : vs2[i]? = some z2 := hv2
          have c2 := cl.2 i z2 hv2
          have lv2 := cl.1
          simp only at c2
          rw [← F_at i (by omega)] at c2
          have sq := same_new (o := HO.tup [V.int ((i : Nat) : Int), z2]) nq
          have eq : upd H6 q0 (.tup [V.int ((i : Nat) : Int), z2]) q0 = some (.tup [V.int ((i : Nat) : Int), z2]) := upd_same
          have s57 := s6.trans sq
          have eX7 := sq _ _ eX
          generalize upd H6 q0 (.tup [V.int ((i : Nat) : Int), z2]) = H7 at eq s57 eX7 ⊢
          have s17 := s25.trans s57
          refine ⟨q0, _, rfl, SqT.of eq, rfl, _, _, rfl, _, _, rfl, rfl, rfl, _, rfl, _, rfl, _, rfl, S, vs, _, jv, rfl, rfl, SqL.of (s17 _ _ eS), atI_nat hjv, costD _, costD _, (c2.same s57).dp, (cj.same s17).dp, costD_sh _, costD_sh _, _, rfl, ?_⟩
          rw [costD_eqv]
          have stp : ∀ b : Bool, (decide ((lcL cs E l 0 ts').getD i none = minO (lcL cs E l 0 ts')) && decide (i ≠ o l)) = b → ((List.range (i + 1)).filter fun k => decide ((lcL cs E l 0 ts').getD k none = minO (lcL cs E l 0 ts')) && decide (k ≠ o l)) = ((List.range i).filter fun k => decide ((lcL cs E l 0 ts').getD k none = minO (lcL cs E l 0 ts')) && decide (k ≠ o l)) ++ if b = true then [i] else [] := fun b hb => by
            rw [List.range_succ, List.filter_append]
            refine congrArg _ ?_
            rw [List.filter_cons, hb]
            cases b <;> rfl
          by_cases hA : (lcL cs E l 0 ts').getD i none = minO (lcL cs E l 0 ts')
          · refine ifT (decide_eq_true hA) ⟨_, rfl, _, rfl, _, rfl, d, .int ((o l : Nat) : Int), rfl, .inl ⟨_, Sum.inr (nmOf ts l), .inl (s17 _ _ (s1 _ _ wd)), rfl, gow⟩, rfl, _, rfl, ?_⟩
            by_cases hB : i = o l
            · refine ifF (by rw [hB, decide_eq_true rfl]; rfl) ⟨s57, ?_⟩
              rw [stp false (by rw [hB, Bool.and_eq_false_iff]; exact .inr (decide_eq_false fun z => z rfl)), if_neg (by decide), List.append_nil]
              exact eX7
            · refine ifT (by rw [decide_eq_false fun z => hB (by have := V.int.inj z; omega)]; rfl) ⟨_, rfl, _, eX7, ?_, fun b u e => by rw [upd_ne (ne_of_none e hX)]; exact s57 _ _ e, ?_⟩
              · rw [List.length_map]
                have := List.length_filter_le (fun k => decide ((lcL cs E l 0 ts').getD k none = minO (lcL cs E l 0 ts')) && decide (k ≠ o l)) (List.range i)
                rw [List.length_range] at this
                omega
              · rw [stp true (by rw [Bool.and_eq_true]; exact ⟨decide_eq_true hA, decide_eq_true hB⟩), if_pos rfl, upd_same, List.map_append]
                rfl
          · refine ifF (decide_eq_false hA) (ifF rfl ⟨s57, ?_⟩)
            rw [stp false (by rw [Bool.and_eq_false_iff]; exact .inl (decide_eq_false hA)), if_neg (by decide), List.append_nil]
            exact eX7
        rintro H6 ⟨s6, eX⟩
        rw [cl.1, ← lks] at eX
        have eP : pickO cs E o l ts' = _ := find_filter _ _
        have kp6 : ∀ b u, b ≠ G → H1 b = some u → H6 b = some u := fun b u nb e => s6 _ _ (s5 _ _ (kp b u nb e))
        have eG6 := s6 _ _ (s5 _ _ eG2)
        have pg6 := Paired.mapP pg fun b (x : Nat × Nat) e => s6 _ _ (s5 _ _ e)
        have s16 := s25.trans s6
        have hq26 := s6 _ _ (s5 _ _ hq2)
        have below : ∀ k, k < ts'.length → ∃ i, kd[k]? = some i ∧ i < j ∧ ∀ D', fwL cs E o ts' k = D' → fwT cs E o ((FDt T).tr i) = D' := fun k hk => by
          have hkd : k < kd.length := by omega
          refine ⟨kd[k], List.getElem?_eq_getElem hkd, kb _ (List.getElem_mem hkd), fun D' e => ?_⟩
          rw [← e]
          refine (fwL_get ?_).symm
          rw [← kk, List.getElem?_map, List.getElem?_eq_getElem hkd]
          rfl
        have wd6 : WAt H6 d ts o := s16 _ _ (s1 _ _ wd)
        cases hO : (List.range ts'.length).filter fun k => decide ((lcL cs E l 0 ts').getD k none = minO (lcL cs E l 0 ts')) && decide (k ≠ o l) with
        | nil =>
          rw [hO] at eX eP
          obtain ⟨i, hi, ij, hf⟩ := below (o l) (by omega)
          refine ⟨_, rfl, _, .inl ⟨_, SqL.of eX, rfl⟩, ifF rfl ⟨_, rfl, _, rfl, d, .int ((o l : Nat) : Int), rfl, .inl ⟨_, Sum.inr (nmOf ts l), .inl wd6, rfl, gow⟩, ?_⟩⟩
          refine ⟨_, rfl, _, .inl ⟨_, SqL.of eX, rfl⟩, ifF rfl ?_⟩
          refine ⟨_, rfl, _, rfl, q2, _, _, .int ((i : Nat) : Int), rfl, rfl, SqT.of hq26, atI_nat (by rw [List.getElem?_map, hi]; rfl), ?_⟩
          refine ⟨i, ij, by omega, D, gs, _, _, _, _, _, rfl, kp6, eG6, by omega, pg6, ?_⟩
          rw [hf _ rfl, ← ef, fwT, eP]
          rfl
        | cons k rr =>
          rw [hO] at eX eP
          have hk : k < ts'.length := by
            have : k ∈ (List.range ts'.length).filter fun k => decide ((lcL cs E l 0 ts').getD k none = minO (lcL cs E l 0 ts')) && decide (k ≠ o l) := by rw [hO]; exact List.mem_cons_self
            exact List.mem_range.mp (List.mem_filter.mp this).1
          obtain ⟨i, hi, ij, hf⟩ := below k hk
          refine ⟨_, rfl, _, .inl ⟨_, SqL.of eX, rfl⟩, ifT rfl ⟨_, rfl, X, _, _, .int ((k : Nat) : Int), rfl, rfl, SqL.of eX, (by exact atI_nat (j := 0) rfl), ?_⟩⟩
          refine ⟨_, rfl, _, .inl ⟨_, SqL.of eX, rfl⟩, ifT rfl ⟨_, rfl, .inl ⟨rfl, _, SqL.of eG6⟩, _, rfl, _, rfl, (show 2 ≤ sizeLine by decide), fun B hB => ?_⟩⟩
          have sB := same_new (o := HO.tup [V.str (nmOf ts l), V.int ((k : Nat) : Int)]) hB
          have eB : upd H6 B (.tup [V.str (nmOf ts l), V.int ((k : Nat) : Int)]) B = some (.tup [V.str (nmOf ts l), V.int ((k : Nat) : Int)]) := upd_same
          have eG7 := sB _ _ eG6
          have kp7 : ∀ b u, b ≠ G → H1 b = some u → upd H6 B (.tup [V.str (nmOf ts l), V.int ((k : Nat) : Int)]) b = some u := fun b u nb e => sB _ _ (kp6 b u nb e)
          have hq27 := sB _ _ hq26
          have pg7 := Paired.mapP pg6 fun b (x : Nat × Nat) e => sB _ _ e
          show ∃ a xs, _
          generalize upd H6 B (.tup [V.str (nmOf ts l), V.int ((k : Nat) : Int)]) = H7 at eB eG7 kp7 hq27 pg7 ⊢
          have keep : ∀ {b : Addr} {vs : List V}, H7 b = some (.tup vs) → upd H7 G (.lst (gs.map V.ref ++ [V.ref B])) b = some (.tup vs) := fun {b vs} e => by
            rw [upd_ne (fun z => by rw [z, eG7] at e; cases e)]
            exact e
          refine ⟨G, _, _, rfl, rfl, eG7, by rw [List.length_map]; omega, _, rfl, _, rfl, q2, _, _, .int ((i : Nat) : Int), rfl, rfl, SqT.of (keep hq27), atI_nat (by rw [List.getElem?_map, hi]; rfl), ?_⟩
          refine ⟨i, ij, by omega, D ++ [(l, k)], gs ++ [B], _, _, _, _, _, rfl, fun b u nb e => by rw [upd_ne nb]; exact kp7 b u nb e, by rw [upd_same, List.map_append]; rfl, by rw [List.length_append, List.length_singleton]; omega, paired_snocF (Paired.mapP pg7 fun b x e => keep e) (keep eB), ?_⟩
          rw [hf _ rfl, ← ef, fwT, eP, List.append_assoc]
          rfl
end
end R52
namespace R52
open PySem L2 L3 FT ND
open CH (RwT)
open C8 (pss_cut tCut pe_gc)
abbrev sCheap : Stmt := top 34
abbrev NCh : List Str := ["worth", "standing", "prices", "world"]
section
variable {P : Program} {w : World} {K : PySem.W.Frag} {mg : Str → Option Value} {base : Heap} {CW C CI CT CU fi ft fu : Addr}
theorem scCp : FnScope NCh ["worth", "standing", "prices"] (defScope sCheap) := ⟨rfl, rfl, rfl, by decide +kernel, rfl, by decide +kernel, by decide +kernel⟩
def spCheap (CW CC C : Addr) : Sp := fun vs H Q _ => ∃ (r d q c : Addr) (ts : List Str) (ss : List Nat) (es : List (Row × Addr)) (nx : Int) (T : Tr V) (o : Nat → Nat) (pr : Nat → Nat → Int), vs = [.ref r, .ref d, .ref q] ∧ StandF CC ts ss c es nx H ∧ WorthI CW C (nmOf ts) ss.length T c H r ∧ TGood ss.length (ksOf ss) T ∧ ShAt H d ts o ∧ Good ss.length (ksOf ss) o ∧ PricesAt H q ts ss pr ∧
  (∀ H', lcT (pricedC o pr) isTrue T = none → Same H H' → Q .non H') ∧
  ∀ (a b : Addr) (m n : Int) (H' : Hp), lcT (pricedC o pr) isTrue T = some (m, n) → H a = none → Same H H' → H' a = some (.tup [.int m, .ref b]) → PrAt (namV ts) H' b (fwT (pricedC o pr) isTrue o T) → Q (.ref a) H'
theorem PricesAt.same {H H' : Hp} {q : Addr} {ts : List Str} {ss : List Nat} {pr : Nat → Nat → Int} (s : Same H H') (h : PricesAt H q ts ss pr) : PricesAt H' q ts ss pr := by
  obtain ⟨kvs, e, k⟩ := h
  refine ⟨kvs, s _ _ e, fun l hl => (k l hl).imp id fun ⟨E, xs, e1, e2, e3⟩ => ⟨E, xs, e1, e2.imp (s _ _) (s _ _), e3⟩⟩
theorem ok_cheap {CC f fU fP fE fW : Addr} {fd fdU fdP fdE fdW : FuncData} (F : Fun K "cheapest" "cheapest" sCheap f fd) (TW : WorthC K CW) (T : Txt P K mg CC CI CT CU fi ft fu) (GU : FnOk P w K mg base CX0 1 fU fdU ["self", "world"] (spFull CC)) (mU : Meth K CC "full" fU) (bU : Binds K fdU ["self", "world"] [])
    (UP : Use P w K mg base "priced" 4 fP fdP ["choices", "world", "prices"] (spPriced CC)) (UE : Use P w K mg base "true_ends" 1 fE fdE ["worth"] (spTrueE CW C)) (UW : Use P w K mg base "first_way" 3 fW fdW ["worth", "world", "costs", "ends"] (spFirst CW C)) :
    FnOk P w K mg base CX0 5 f fd ["worth", "standing", "prices"] (spCheap CW CC C) := by
  refine F.ok scCp (fun vs H Q E h => ?_) (fun cdv A outer s H vs Q E hr h => ?_)
  · obtain ⟨r, d, q, c, ts, ss, es, nx, T, o, pr, rfl, _⟩ := h
    rfl
  · obtain ⟨r, d, q, c, ts, ss, es, nx, U, o, pr, rfl, st, wi, gT, sh, go, pa, kN, kS⟩ := h
    have nd := scCp.nd
    refine ⟨_, pss_cons (ps_set (i := 3) nd rfl (.inl rfl) (pe_meth (pe_fld (pv 0) rfl) T.cl mU GU (hr.mono (by omega)) bU .nil pass0 (pa_cons (pv 1) pa_nil)))
      (pss_one (ps_ret (pe_call UW.G (hr.mono (by omega)) (by rfl) UW.g UW.kp UW.b .nil pass0 (pa_cons (pv 0) (pa_cons (pv 3) (pa_cons (pe_call UP.G (hr.mono (by omega)) (by rfl) UP.g UP.kp UP.b .nil pass0 (pa_cons (pe_fld (pv 0) rfl) (pa_cons (pv 3) (pa_cons (pv 2) pa_nil)))) (pa_cons (pe_call UE.G (hr.mono (by omega)) (by rfl) UE.g UE.kp UE.b .nil pass0 (pa_cons (pv 0) pa_nil)) pa_nil))))))), ?_⟩
    obtain ⟨dx, fo, df, tn, tl, to, td, h1, _⟩ := id wi
    obtain ⟨dc, tn2, td2, hcc, cp⟩ := id st.hc
    refine ⟨_, rfl, r, CW, dx, _, _, rfl, h1, TW.cl, TW.nC, lk_wc, c, dc, _, rfl, hcc, rfl, _, rfl, c, d, ts, ss, es, nx, o, rfl, st, sh, fun D H1 hD s1 wd => ?_⟩
    refine ⟨_, rfl, _, rfl, _, rfl, r, CW, dx, _, _, rfl, s1 _ _ h1, TW.cl, TW.nC, lk_wc, _, rfl, _, rfl, c, D, q, ts, ss, es, nx, o, pr, rfl, st.same s1, wd, go, pa.same s1, fun p H2 hp s2 ca => ?_⟩
    refine ⟨_, rfl, r, c, ts, ss, U, rfl, st.sc, (wi.same s1).same s2, gT, fun e H3 he s3 ee => ?_⟩
    have s13 := s1.trans (s2.trans s3)
    exact ⟨r, D, p, e, c, ts, ss, U, o, pricedC o pr, isTrue, rfl, st.sc, wi.same s13, gT, s3 _ _ (s2 _ _ wd), go, ca.same s3, ee, fun H' h s4 => kN H' h (s13.trans s4), fun a b m n H' h ha s4 ea pr' => kS a b m n H' h (s13.free ha) (s13.trans s4) ea pr'⟩
end
end R52
namespace R52
open PySem L2 L3 FT ND
open CH (RwT leC PC)
def rI (D : RwT) : List (Int × Int) := D.map fun p => (((p.1 : Nat) : Int), ((p.2 : Nat) : Int))
abbrev KT3 := PySem.W.T3 Int Int (PySem.W.Tup (Int × Int))
def k3 (m n : Int) (D : RwT) : KT3 := ⟨m, n, ⟨rI D⟩⟩
theorem listLt_ltR : ∀ a b : RwT, PySem.W.listLt (rI a) (rI b) = CH.ltR a b
  | [], [] => rfl
  | [], _ :: _ => rfl
  | _ :: _, [] => rfl
  | x :: xs, y :: ys => by
    have e : PySem.W.listLt (rI (x :: xs)) (rI (y :: ys)) = if ((((x.1 : Nat) : Int), ((x.2 : Nat) : Int)) : Int × Int) = (((y.1 : Nat) : Int), ((y.2 : Nat) : Int)) then PySem.W.listLt (rI xs) (rI ys) else if ((x.1 : Nat) : Int) = ((y.1 : Nat) : Int) then decide (((x.2 : Nat) : Int) < ((y.2 : Nat) : Int)) else decide (((x.1 : Nat) : Int) < ((y.1 : Nat) : Int)) := rfl
    rw [e, CH.ltR, listLt_ltR xs ys]
    by_cases h : x = y
    · rw [if_pos h, if_pos (by rw [h])]
    · rw [if_neg h, if_neg (fun z => h (Prod.ext (by have := congrArg Prod.fst z; simp only at this; omega) (by have := congrArg Prod.snd z; simp only at this; omega)))]
      by_cases h1 : x.1 = y.1
      · rw [if_pos h1, if_pos (by rw [h1])]
        exact decide_eq_decide.mpr (by omega)
      · rw [if_neg h1, if_neg (by omega)]
        exact decide_eq_decide.mpr (by omega)
theorem k3_lt {m n m' n' : Int} {D D' : RwT} : PySem.W.DatumOrd.lt (k3 m n D) (k3 m' n' D') = if m = m' then (if n = n' then CH.ltR D D' else decide (n < n')) else decide (m < m') := by
  have e : PySem.W.DatumOrd.lt (k3 m n D) (k3 m' n' D') = if m = m' then (if n = n' then PySem.W.listLt (rI D) (rI D') else decide (n < n')) else decide (m < m') := rfl
  rw [e, listLt_ltR]
theorem k3_tri {m n m' n' : Int} {D D' : RwT} (h : PySem.W.DatumOrd.lt (k3 m n D) (k3 m' n' D') = false) (k : PySem.W.DatumOrd.lt (k3 m' n' D') (k3 m n D) = false) : m = m' ∧ n = n' ∧ D = D' := by
  rw [k3_lt] at h k
  by_cases e1 : m = m'
  · rw [if_pos e1] at h
    rw [if_pos e1.symm] at k
    by_cases e2 : n = n'
    · rw [if_pos e2] at h
      rw [if_pos e2.symm] at k
      exact ⟨e1, e2, CH.ltR_tri h k⟩
    · rw [if_neg e2, decide_eq_false_iff_not] at h
      rw [if_neg fun z => e2 z.symm, decide_eq_false_iff_not] at k
      omega
  · rw [if_neg e1, decide_eq_false_iff_not] at h
    rw [if_neg fun z => e1 z.symm, decide_eq_false_iff_not] at k
    omega
theorem diffR_rw {N : Nat} {o x : Nat → Nat} : diffR N o x = CH.rw' o x 0 N := by
  unfold diffR CH.rw'
  rw [List.range_eq_range']
theorem ks_left {ss : List Nat} {m l : Nat} (h : l < ss.length) : ksOf (ss ++ [m]) l = ksOf ss l := by
  unfold ksOf
  rw [List.getD_eq_getElem?_getD, List.getD_eq_getElem?_getD, List.getElem?_append_left h]
theorem ks_last {ss : List Nat} {m : Nat} : ksOf (ss ++ [m]) ss.length = m := by
  unfold ksOf
  rw [List.getD_eq_getElem?_getD, List.getElem?_append_right (Nat.le_refl _), Nat.sub_self]
  rfl
theorem wl_good (ss : List Nat) : ∀ {x : List Nat}, x ∈ wlF ss → Good ss.length (ksOf ss) (wof x) := by
  refine snoc_ind (P := fun ss => ∀ {x : List Nat}, x ∈ wlF ss → Good ss.length (ksOf ss) (wof x)) (fun {x} h l hl => absurd hl (Nat.not_lt_zero _)) (fun ss m ih x h l hl => ?_) ss
  rw [wlF_snoc] at h
  obtain ⟨y, hy, h⟩ := List.mem_flatMap.mp h
  obtain ⟨k, hk, rfl⟩ := List.mem_map.mp h
  have hk := List.mem_range.mp hk
  have ly := wlF_lens ss hy
  rw [List.length_append, List.length_singleton] at hl
  unfold wof
  rw [List.getD_eq_getElem?_getD]
  rcases Nat.lt_or_ge l ss.length with q | q
  · rw [ks_left q, List.getElem?_append_left (by omega), ← List.getD_eq_getElem?_getD]
    exact ih hy l q
  · obtain rfl : l = ss.length := by omega
    rw [ks_last, List.getElem?_append_right (by omega), ly, Nat.sub_self]
    exact hk
theorem wl_mem (w : Nat → Nat) (ss : List Nat) : Good ss.length (ksOf ss) w → (List.range ss.length).map w ∈ wlF ss := by
  refine snoc_ind (P := fun ss => Good ss.length (ksOf ss) w → (List.range ss.length).map w ∈ wlF ss) (fun _ => List.mem_singleton.mpr rfl) (fun ss m ih h => ?_) ss
  rw [wlF_snoc, List.length_append, List.length_singleton, List.range_succ, List.map_append]
  rw [List.length_append, List.length_singleton] at h
  refine List.mem_flatMap.mpr ⟨_, ih fun l hl => ?_, List.mem_map.mpr ⟨w ss.length, List.mem_range.mpr ?_, rfl⟩⟩
  · rw [← ks_left (m := m) hl]
    exact h l (by omega)
  · have := h ss.length (by omega)
    rw [ks_last] at this
    exact this
theorem wof_map {N l : Nat} {w : Nat → Nat} (h : l < N) : wof ((List.range N).map w) l = w l := by
  unfold wof
  rw [List.getD_eq_getElem?_getD, List.getElem?_map, List.getElem?_range h]
  rfl
section
variable {ss : List Nat} {T : Tr V} {o : Nat → Nat} {pr : Nat → Nat → Int}
/-- the price of a world, the number of its other choices, these -/
def kx (pr : Nat → Nat → Int) (N : Nat) (o : Nat → Nat) (x : List Nat) : KT3 := k3 (CH.cst pr (diffR N o (wof x))) (((diffR N o (wof x)).length : Nat) : Int) (diffR N o (wof x))
theorem due_none (gT : TGood ss.length (ksOf ss) T) (hp : ∀ l k, 0 ≤ pr l k) (h : lcT (pricedC o pr) isTrue T = none) {x : List Nat} (hx : x ∈ wlF ss) : isTrue (ev T (wof x)) = false := by
  cases q : isTrue (ev T (wof x)) with
  | false => rfl
  | true =>
    obtain ⟨c, hc, _⟩ := CH.lc_low (isLeast (N := ss.length) (pr := pr) (o := o) (E := isTrue)) hp _ T 0 (wof x) (Nat.le_refl _) gT.1 (wl_good ss hx) q
    rw [h] at hc
    cases hc
theorem due_some (gT : TGood ss.length (ksOf ss) T) (go : Good ss.length (ksOf ss) o) (hp : ∀ l k, 0 ≤ pr l k) {m n : Int} (h : lcT (pricedC o pr) isTrue T = some (m, n)) :
    (∃ x ∈ wlF ss, isTrue (ev T (wof x)) = true ∧ kx pr ss.length o x = k3 m n (fwT (pricedC o pr) isTrue o T)) ∧
    ∀ x ∈ wlF ss, isTrue (ev T (wof x)) = true → PySem.W.DatumOrd.lt (kx pr ss.length o x) (k3 m n (fwT (pricedC o pr) isTrue o T)) = false := by
  have L := isLeast (N := ss.length) (pr := pr) (o := o) (E := isTrue)
  refine ⟨?_, fun x hx ht => ?_⟩
  · obtain ⟨x, h1, h2, h3, h4, h5⟩ := CH.lc_got L go _ T 0 (m, n) (Nat.le_refl _) gT.1 h
    refine ⟨_, wl_mem x ss h1, ?_, ?_⟩
    · rw [ev_below (N := ss.length) (ks := ksOf ss) _ T 0 _ x (Nat.le_refl _) gT.1 (wl_good ss (wl_mem x ss h1)) fun l _ hl => wof_map hl]
      exact h2
    · have e : diffR ss.length o (wof ((List.range ss.length).map x)) = fwT (pricedC o pr) isTrue o T := by
        rw [diffR_rw, ← h4, Nat.sub_zero]
        exact CH.rw_same fun l _ hl => wof_map (by omega)
      unfold kx
      rw [e]
      unfold CH.key at h5
      have h6 : CH.cst pr (fwT (pricedC o pr) isTrue o T) = m := congrArg Prod.fst h5
      have h7 : (((fwT (pricedC o pr) isTrue o T).length : Nat) : Int) = n := congrArg Prod.snd h5
      rw [h6, h7]
  · obtain ⟨c, hc, le, eq⟩ := CH.lc_low L hp _ T 0 (wof x) (Nat.le_refl _) gT.1 (wl_good ss hx) ht
    rw [h] at hc
    obtain rfl := Option.some.inj hc
    rw [Nat.sub_zero, ← diffR_rw] at le eq
    unfold kx
    rw [k3_lt]
    unfold leC CH.key at le
    simp only at le
    by_cases e1 : CH.cst pr (diffR ss.length o (wof x)) = m
    · rw [if_pos e1]
      by_cases e2 : (((diffR ss.length o (wof x)).length : Nat) : Int) = n
      · rw [if_pos e2]
        exact eq (Prod.ext e1 e2)
      · rw [if_neg e2]
        exact decide_eq_false (by omega)
    · rw [if_neg e1]
      exact decide_eq_false (by omega)
end
/-- the first of a sorted list -/
theorem sort_first {β : Type} {bs : List β} {enc : β → PyData} {b : β} (hb : b ∈ bs) : ∃ h r, bs.mergeSort (PySem.W.dataLe false enc) = h :: r ∧ h ∈ bs ∧ PySem.W.dataLt (enc b) (enc h) = false := by
  have P := List.mergeSort_perm bs (PySem.W.dataLe false enc)
  have TL : PySem.W.TotalLe (PySem.W.dataLe false enc) := PySem.W.sortLe_total _ _ _
  have S := PySem.W.sort_pairwise TL bs
  cases e : bs.mergeSort (PySem.W.dataLe false enc) with
  | nil =>
    rw [e] at P
    exact absurd (P.mem_iff.mpr hb) (fun z => nomatch z)
  | cons h r =>
    rw [e] at P S
    refine ⟨h, r, rfl, P.mem_iff.mp List.mem_cons_self, ?_⟩
    have le : PySem.W.dataLe false enc h b = true := by
      rcases List.mem_cons.mp (P.mem_iff.mpr hb) with z | z
      · rw [z]
        exact (TL.total h h).elim id id
      · exact (List.pairwise_cons.mp S).1 b z
    have le : (!PySem.W.dataLt (enc b) (enc h)) = true := le
    rw [Bool.not_eq_true'] at le
    exact le
end R52
namespace R52
open PySem L2 L3 FT ND
open CH (RwT)
open C8 (pss_cut tCut pe_gc)
abbrev sDueF : Stmt := top 63
/-- what is found of a world -/
def FoAt (pr : Nat → Nat → Int) (N : Nat) (o : Nat → Nat) (H : Hp) (b : Addr) (x : List Nat) : Prop := ∃ r, H b = some (.tup [.int (CH.cst pr (diffR N o (wof x))), .int (((diffR N o (wof x)).length : Nat) : Int), .ref r]) ∧ PrAt numV H r (diffR N o (wof x))
theorem FoAt.same {pr : Nat → Nat → Int} {N : Nat} {o : Nat → Nat} {H H' : Hp} {b : Addr} {x : List Nat} (s : Same H H') (h : FoAt pr N o H b x) : FoAt pr N o H' b x := by
  obtain ⟨r, e, p⟩ := h
  exact ⟨r, s _ _ e, p.same s⟩
theorem PrAt.offL {f : Nat → V} {H H' : Hp} {p S : Addr} {us : List V} {D : List (Nat × Nat)} (eS : H S = some (.lst us)) (s : ∀ b u, b ≠ S → H b = some u → H' b = some u) (h : PrAt f H p D) : PrAt f H' p D := by
  obtain ⟨bs, e, pr⟩ := h
  refine ⟨bs, s _ _ (fun z => by rw [z, eS] at e; cases e) e, Paired.mapP pr fun b _ e => s _ _ (fun z => by rw [z, eS] at e; cases e) e⟩
theorem FoAt.offL {pr : Nat → Nat → Int} {N : Nat} {o : Nat → Nat} {H H' : Hp} {b S : Addr} {us : List V} {x : List Nat} (eS : H S = some (.lst us)) (s : ∀ b u, b ≠ S → H b = some u → H' b = some u) (h : FoAt pr N o H b x) : FoAt pr N o H' b x := by
  obtain ⟨r, e, p⟩ := h
  exact ⟨r, s _ _ (fun z => by rw [z, eS] at e; cases e) e, p.offL eS s⟩
theorem pairs_dpR {K : PySem.W.Frag} {H : Hp} {bs : List Addr} {D : RwT} (h : Paired (fun b (x : Nat × Nat) => H b = some (.tup [numV x.1, .int ((x.2 : Nat) : Int)])) bs D) : DpAll K H (bs.map V.ref) ((rI D).map PySem.W.Datum.toD) := by
  induction h with
  | nil => exact .nil
  | cons e _ ih => exact .cons (.tup (SqT.of e) (.cons (.int _) (.cons (.int _) .nil))) ih
theorem FoAt.dp {K : PySem.W.Frag} {pr : Nat → Nat → Int} {N : Nat} {o : Nat → Nat} {H : Hp} {b : Addr} {x : List Nat} (h : FoAt pr N o H b x) : Dp K H (.ref b) (PySem.W.Datum.toD (kx pr N o x)) := by
  obtain ⟨r, e, bs, eb, p⟩ := h
  exact .tup (SqT.of e) (.cons (.int _) (.cons (.int _) (.cons (.tup (SqT.of eb) (pairs_dpR p)) .nil)))
theorem kx_lay (k : KT3) : (PySem.W.Datum.toD k).canLay0 = true := by
  obtain ⟨m, n, ⟨D⟩⟩ := k
  have h : ∀ D : List (Int × Int), PyData.canLayAll0 (D.map PySem.W.Datum.toD) = true := fun D => by
    induction D with
    | nil => rfl
    | cons p D ih =>
      show ((true && (true && true)) && PyData.canLayAll0 (D.map PySem.W.Datum.toD)) = true
      rw [ih]
      rfl
  show (true && (true && (PyData.canLayAll0 (D.map PySem.W.Datum.toD) && true))) = true
  rw [h D]
  rfl
theorem kx_depth (k : KT3) : (PySem.W.Datum.toD k).depth ≤ 8 := Nat.le_trans (PySem.W.Datum.depth_le k) (by decide)
theorem ksz {ts : List Str} {ss : List Nat} (sc : SceneF ts ss) {l : Nat} (hl : l < ss.length) : 2 ≤ ksOf ss l ∧ ksOf ss l ≤ 4 := by
  unfold ksOf
  rw [List.getD_eq_getElem?_getD, List.getElem?_eq_getElem hl]
  exact sc.sz _ (List.getElem_mem hl)
abbrev NDu : List Str := ["_law_rows", "_law_tree_here", "_law_world_here", "_law_prices", "_law_found", "_law_other", "_law_row_here", "_law_cost", "_law_at_here", "_law_option"]
section
variable {P : Program} {w : World} {K : PySem.W.Frag} {mg : Str → Option Value} {base : Heap}
theorem scDu : FnScope NDu ["_law_rows", "_law_tree_here", "_law_world_here", "_law_prices"] (defScope sDueF) := ⟨rfl, rfl, rfl, by decide +kernel, rfl, by decide +kernel, by decide +kernel⟩
def spDueF : Sp := fun vs H Q _ => ∃ (R v d q : Addr) (t : LT) (B : Addr → Prop) (n : Nat) (g : Str) (ts : List Str) (ss : List Nat) (T : Tr V) (o : Nat → Nat) (pr : Nat → Nat → Int), vs = [.ref R, .ref v, .ref d, .ref q] ∧ RowsL H R ts ss ∧ SceneF ts ss ∧ TAt (nmOf ts) B H t v ∧ TOk ss.length (ksOf ss) g n t ∧ TGood ss.length (ksOf ss) T ∧ (∀ w, Good ss.length (ksOf ss) w → ev T w = tev w t) ∧ WAt H d ts o ∧ Good ss.length (ksOf ss) o ∧ PricesAt H q ts ss pr ∧ (∀ l k, 0 ≤ pr l k) ∧
  (∀ H', lcT (pricedC o pr) isTrue T = none → Same H H' → Q .non H') ∧
  ∀ (a b : Addr) (m n : Int) (H' : Hp), lcT (pricedC o pr) isTrue T = some (m, n) → H a = none → Same H H' → H' a = some (.tup [.int m, .ref b]) → PrAt (namV ts) H' b (fwT (pricedC o pr) isTrue o T) → Q (.ref a) H'
theorem ok_dueF {f fW fA fR fN : Addr} {fd fdW fdA fdR fdN : FuncData} (F : Fun K "_law_due" "_law_due" sDueF f fd)
    (GW : ∀ n, n ≤ 6 → FnOk P w K mg base CX0 (1 + n) fW fdW ["_law_rows"] (spWorldsF n)) (gW : mg "_law_worlds" = some (.ref fW)) (kW : PySem.W.keepIn K (.ref fW) = true) (bW : Binds K fdW ["_law_rows"] [])
    (UA : Use P w K mg base "_law_at" 1 fA fdA ["_law_tree_here", "_law_world_here"] spAtF) (UR : Use P w K mg base "_law_row" 1 fR fdR ["_law_rows", "_law_world_here", "_law_other"] spRowF) (UN : Use P w K mg base "_law_named" 1 fN fdN ["_law_rows", "_law_row_here"] spNamedF)
    (zSum : mg "sum" = none) (zLen : mg "len" = none) (zSort : mg "sorted" = none) :
    FnOk P w K mg base CX0 8 f fd ["_law_rows", "_law_tree_here", "_law_world_here", "_law_prices"] spDueF := by
  have GW' := okd_any (fun i : Fin 7 => (GW i.val (by omega)).mono (show 1 + i.val ≤ 7 by omega))
  refine F.ok scDu (fun vs H Q E h => ?_) (fun cdv A outer s H vs Q E hr h => ?_)
  · obtain ⟨R, v, d, q, t, B, n, g, ts, ss, T, o, pr, rfl, _⟩ := h
    rfl
  · obtain ⟨R, v, d, q, t, B, n, g, ts, ss, T, o, pr, rfl, hR, sc, ta, tk, gT, eT, wd, go, pa, hpos, kN, kS⟩ := h
    have nd := scDu.nd
    have hu : _ + 1 < cLine := Nat.lt_of_le_of_lt (Nat.add_le_add_left (by decide : 1 ≤ 64) _) hr.units
    refine ⟨_, pss_cons (ps_set (i := 4) nd rfl (.inl rfl) (pe_lst pa_nil))
      (pss_cons (ps_for PassesOwn.never rfl (pi_list (pe_call GW' (hr.mono (by omega)) (by rfl) gW kW bW .nil pass0 (pa_cons (pv 0) pa_nil))) (pg_name (i := 5) nd rfl (.inl rfl))
        (pss_one (ps_if (pt_cmpR op_isTr (pe_call UA.G (hr.mono (by omega)) (by rfl) UA.g UA.kp UA.b .nil pass0 (pa_cons (pv 1) (pa_cons (pv 5) pa_nil))) pe_bl (nomark _))
          (pss_cons (ps_set (i := 6) nd rfl (.inl rfl) (pe_call UR.G (hr.mono (by omega)) (by rfl) UR.g UR.kp UR.b .nil pass0 (pa_cons (pv 0) (pa_cons (pv 2) (pa_cons (pv 5) pa_nil)))))
          (pss_cons (ps_set (i := 7) nd rfl (.inl rfl) (pe_callB (cr_sum rfl) (by rfl) zSum PyProof.Rows.boot_sum (pa_cons (pe_lc (own := [("_law_at_here", 8), ("_law_option", 9)]) (g := gTup K 2 (gCons (gName 8) (gCons (gName 9) gNil))) (tt := tYes) rfl nd (pi_tup (pv 6)) (blkOk_by (N := NDu) (sc := defScope sDueF) (by decide +kernel)) (fun _ _ _ _ _ => pg_tup (by rfl) (pgs_cons (pg_name (i := 8) nd rfl (.inl rfl)) (pgs_cons (pg_name (i := 9) nd rfl (.inl rfl)) pgs_nil)))
            (fun _ _ _ _ _ => pts_nil)
            (fun _ _ _ _ _ => pe_ix (r := rIx K) (by exact ix_seq) (pe_dget2 hu (pv 3) (pe_ix (r := rIxT K) (by exact ix_tup) (pe_ix (r := rIxL K) (by exact ix_list) (pv 0) (pv 8) (fun _ _ => rfl)) pe_int (fun _ _ => rfl)) (pe_lst (pa_cons pe_int (pa_cons pe_int (pa_cons pe_int (pa_cons pe_int pa_nil))))) ⟨by rfl, by rfl, by rfl, by rfl⟩) (pv 9) (fun _ _ => rfl))) pa_nil)))
          (pss_one (ps_expr (pe_bm PySem.F.plainAttrs_list PySem.F.slot_list_append PySem.F.type_list_append mt_append (pv 4) (pa_cons (pe_tup (pa_cons (pv 7) (pa_cons (pe_callB call_len_seq (by rfl) zLen PySem.boot_len (pa_cons (pv 6) pa_nil)) (pa_cons (pv 6) pa_nil)))) pa_nil)))))) pss_nil)))
      (pss_one (ps_ret (pe_ifExp (pt_cmpR (op_neD hr.units) (pv 4) (pe_lst pa_nil) (nomark _))
        (pe_tup (pa_cons (pe_ix (r := rIxT K) (by exact ix_tup) (pe_ix (r := rIxL K) (by exact ix_list) (pe_callB (cr_sortedD hr.units) (by rfl) zSort PyProof.Rows.boot_sorted (pa_cons (pv 4) pa_nil)) pe_int (fun _ _ => rfl)) pe_int (fun _ _ => rfl))
          (pa_cons (pe_call UN.G (hr.mono (by omega)) (by rfl) UN.g UN.kp UN.b .nil pass0 (pa_cons (pv 0) (pa_cons (pe_ix (r := rIxT K) (by exact ix_tup) (pe_ix (r := rIxL K) (by exact ix_list) (pe_callB (cr_sortedD hr.units) (by rfl) zSort PyProof.Rows.boot_sorted (pa_cons (pv 4) pa_nil)) pe_int (fun _ _ => rfl)) pe_int (fun _ _ => rfl)) pa_nil))) pa_nil))) pe_non)))), ?_⟩
    obtain ⟨us, eR, lu, au⟩ := id hR
    obtain ⟨kvp, eq, gp⟩ := id pa
    have len := sc.len
    have few := sc.few
    have lsz := sizeLine_eq
    refine ⟨(show 0 ≤ sizeLine by decide), fun S hS => ?_⟩
    have s1 := same_new (o := HO.lst []) hS
    have eS1 : upd H S (.lst []) S = some (.lst []) := upd_same
    refine ⟨_, rfl, ⟨ss.length, by omega⟩, R, ts, ss, rfl, hR.same s1, len, rfl, sc.gd, sc.sz, fun p bs H5 hp s5 ep pw => ⟨p, rfl, ⟨_, SqL.of ep⟩, ?_⟩⟩
    have s15 := s1.trans s5
    have eS5 := s5 _ _ eS1
    have kS' : ∀ {b : Addr} {u : HO}, H b = some u → b ≠ S := fun e z => by rw [z, hS] at e; cases e
    have pS : p ≠ S := fun z => by rw [z, eS1] at hp; cases hp
    have fewW : (wlF ss).length ≤ 4096 := Nat.le_trans (wlF_le ss fun m hm => (sc.sz m hm).2) (Nat.pow_le_pow_right (by decide) (show ss.length ≤ 6 by omega))
    have lbs := Paired.length pw
    refine for_it (walk_list (K := K) (a := p) (xs := bs.map V.ref)) (fun i σ H' => ∃ (fs : List (Addr × List Nat)) (o5 o6 o7 : Option V), σ = [some (.ref R), some (.ref v), some (.ref d), some (.ref q), some (.ref S), o5, o6, o7, none, none] ∧ (∀ b u, b ≠ S → H5 b = some u → H' b = some u) ∧ H' S = some (.lst (fs.map fun z => V.ref z.1)) ∧ fs.map (·.2) = ((wlF ss).take i).filter (fun x => isTrue (ev T (wof x))) ∧ ∀ z ∈ fs, FoAt pr ss.length o H' z.1 z.2)
      ⟨[], none, none, none, rfl, fun _ _ _ e => e, eS5, rfl, fun z h => nomatch h⟩ (fun i σ H' _ ⟨_, _, _, _, _, k', _⟩ => SqL.of (k' _ _ pS ep)) ?_ ?_
    · rintro i y σ H6 H6' hi ⟨fs, o5, o6, o7, rfl, k6, eS6, ef, af⟩ ⟨rfl, hy⟩
      rw [List.length_map] at hi
      replace hy : (bs.map V.ref)[i]? = some y := hy
      rw [List.getElem?_map, List.getElem?_eq_getElem hi] at hy
      cases hy
      have hx : (wlF ss)[i]? = some (wlF ss)[i] := List.getElem?_eq_getElem (by omega)
      obtain ⟨b', e1, wb⟩ := pgetF pw hx
      rw [List.getElem?_eq_getElem hi] at e1
      cases e1
      have mx := List.getElem_mem (show i < (wlF ss).length by omega)
      generalize (wlF ss)[i] = x at hx wb mx
      have bS : bs[i] ≠ S := fun z => by
        have w5 : H5 bs[i] = _ := wb
        rw [z, eS5] at w5
        cases w5
      generalize bs[i] = b at wb bS
      have wb6 : WAt H6' b ts (wof x) := k6 _ _ bS wb
      have gx := wl_good ss mx
      have s6 : Same H H6' := fun b u e => k6 _ _ (kS' e) (s15 _ _ e)
      have vx : Vl (tev (wof x) t) := by
        rw [← eT _ gx]
        exact ev_in _ 0 T (wof x) (Nat.le_refl _) gT.1.wo gT.2 gx
      have stp : ∀ c : Bool, isTrue (ev T (wof x)) = c → ((wlF ss).take (i + 1)).filter (fun x => isTrue (ev T (wof x))) = fs.map (·.2) ++ if c = true then [x] else [] := fun c hc => by
        rw [List.take_add_one, hx, List.filter_append, ← ef]
        refine congrArg _ ?_
        show List.filter _ [x] = _
        rw [List.filter_cons, hc]
        cases c <;> rfl
      rw [eT _ gx] at stp
      refine ⟨_, rfl, _, rfl, v, b, t, B, n, g, ts, ss, wof x, rfl, ta.same s6, tk, len, sc.gd, wb6, gx, rfl, .inl ⟨Val.of vx, _, rfl, ?_⟩⟩
      cases hE : isTrue (tev (wof x) t) with
      | false =>
        refine ifF hE ⟨fs, _, _, _, rfl, k6, eS6, ?_, af⟩
        rw [stp false hE, if_neg (by decide), List.append_nil]
      | true =>
        refine ifT hE ?_
        refine ⟨_, rfl, _, rfl, _, rfl, R, d, b, ts, ss, o, wof x, rfl, hR.same s6, len, by omega, sc.gd, s6 _ _ wd, wb6, fun r H7 hr7 s7 pr7 => ?_⟩
        obtain ⟨ps, er, pp⟩ := id pr7
        have s67 := s6.trans s7
        refine ⟨_, rfl, r, rfl, ⟨_, SqT.of er⟩, fun G hG => ?_⟩
        have inD : ∀ z ∈ diffR ss.length o (wof x), z.1 < ss.length ∧ z.2 < ksOf ss z.1 := fun z hz => by
          rw [diffR_rw] at hz
          obtain ⟨_, h2, h3, _⟩ := CH.rw_mem hz
          have h2 : z.1 < ss.length := by omega
          exact ⟨h2, by rw [h3]; exact gx _ h2⟩
        have lD : (diffR ss.length o (wof x)).length ≤ ss.length := diffR_len
        have lps := Paired.length pp
        have kG : ∀ {b : Addr} {u : HO}, H7 b = some u → b ≠ G := fun e z => by rw [z, hG] at e; cases e
        refine lc_it (walk_tup (K := K) (a := r) (xs := ps.map V.ref)) (fun i H' => (∀ b u, b ≠ G → H7 b = some u → H' b = some u) ∧ H' G = some (.lst ((((diffR ss.length o (wof x)).take i).map fun p => pr p.1 p.2).map V.int)))
          ⟨fun b u nb e => by rw [upd_ne nb]; exact e, upd_same⟩ (fun i H' _ h => SqT.of (h.1 _ _ (kG er) er)) ?_ ?_
        · rintro j y H8 H8' hj ⟨k8, eG⟩ ⟨rfl, hy⟩
          rw [List.length_map] at hj
          replace hy : (ps.map V.ref)[j]? = some y := hy
          rw [List.getElem?_map, List.getElem?_eq_getElem hj] at hy
          cases hy
          have hz : (diffR ss.length o (wof x))[j]? = some (diffR ss.length o (wof x))[j] := List.getElem?_eq_getElem (by omega)
          obtain ⟨b', e1, ez⟩ := pgetF pp hz
          rw [List.getElem?_eq_getElem hj] at e1
          cases e1
          obtain ⟨hl, hk⟩ := inD _ (List.mem_of_getElem? hz)
          generalize (diffR ss.length o (wof x))[j] = z at hz ez hl hk
          obtain ⟨l, k⟩ := z
          simp only at ez hl hk
          have s78 : Same H7 H8' := fun b u e => k8 b u (kG e) e
          have s8 := s67.trans s78
          have hu' : us[l]? = some us[l] := List.getElem?_eq_getElem (by omega)
          obtain ⟨t', m', et, em, eu⟩ := au _ _ hu'
          have enm : nmOf ts l = t' := by
            unfold nmOf
            rw [List.getD_eq_getElem?_getD, et]
            rfl
          subst enm
          refine ⟨ps[j], _, rfl, SqT.of (s78 _ _ ez), rfl, _, _, rfl, _, _, rfl, rfl, rfl, _, rfl, q, rfl, .inl ⟨kvp, .inl (s8 _ _ eq)⟩, _, rfl, _, rfl, R, _, _, _, rfl, rfl, SqL.of (s8 _ _ eR), atI_nat (by rw [List.getElem?_map, hu']; rfl), us[l], _, _, _, rfl, rfl, SqT.of (s8 _ _ eu), rfl, (show 4 ≤ sizeLine by decide), fun Z hZ => ?_⟩
          have sZ := same_new (o := HO.lst [V.int 1, V.int 1, V.int 1, V.int 1]) hZ
          have eZ : upd H8' Z (.lst [V.int 1, V.int 1, V.int 1, V.int 1]) Z = some (.lst [V.int 1, V.int 1, V.int 1, V.int 1]) := upd_same
          have eG9 := sZ _ _ eG
          have s89 := s8.trans sZ
          have k9 : ∀ b u, b ≠ G → H7 b = some u → upd H8' Z (.lst [V.int 1, V.int 1, V.int 1, V.int 1]) b = some u := fun b u nb e => sZ _ _ (k8 b u nb e)
          generalize upd H8' Z (.lst [V.int 1, V.int 1, V.int 1, V.int 1]) = H9 at eZ eG9 s89 k9 ⊢
          refine ⟨_, .inl ⟨kvp, Sum.inr (nmOf ts l), .inl (s89 _ _ eq), rfl, rfl⟩, _, rfl, ?_⟩
          obtain ⟨k2, k4⟩ := ksz sc hl
          obtain ⟨E', xs, eE, sE, aE⟩ : ∃ (E' : Addr) (xs : List Int), (valV kvp (Sum.inr (nmOf ts l) : Key)).getD (.ref Z) = .ref E' ∧ (H9 E' = some (.lst (xs.map V.int)) ∨ H9 E' = some (.tup (xs.map V.int))) ∧ xs[k]? = some (pr l k) := by
            rcases gp l (by omega) with ⟨h1, h2⟩ | ⟨E', xs, h1, h2, h3, h4⟩
            · exact ⟨Z, List.replicate 4 (1 : Int), by rw [h1]; rfl, .inl eZ, by rw [List.getElem?_replicate, if_pos (by omega), h2 k hk]⟩
            · exact ⟨E', xs, by rw [h1]; rfl, h2.imp (s89 _ _) (s89 _ _), h4 k hk⟩
          rw [eE]
          have at1 : atI (xs.map V.int) ((k : Nat) : Int) = some (.int (pr l k)) := atI_nat (by rw [List.getElem?_map, aE]; rfl)
          have fin : ∃ acc, H9 G = some (.lst acc) ∧ acc.length < sizeLine ∧ (∀ b u, b ≠ G → H7 b = some u → upd H9 G (.lst (acc ++ [V.int (pr l k)])) b = some u) ∧ upd H9 G (.lst (acc ++ [V.int (pr l k)])) G = some (.lst ((((diffR ss.length o (wof x)).take (j + 1)).map fun p => pr p.1 p.2).map V.int)) := by
            refine ⟨_, eG9, ?_, fun b u nb e => by rw [upd_ne nb]; exact k9 b u nb e, ?_⟩
            · rw [List.length_map, List.length_map, List.length_take]
              omega
            · rw [upd_same, List.take_add_one, hz, List.map_append, List.map_append]
              rfl
          rcases sE with sE | sE
          · exact .inl ⟨E', _, _, _, rfl, rfl, SqL.of sE, at1, fin⟩
          · exact .inr (.inl ⟨E', _, _, _, rfl, rfl, SqT.of sE, at1, fin⟩)
        rintro H8 ⟨k8, eG⟩
        rw [List.length_map, lps, List.take_of_length_le (Nat.le_refl _)] at eG
        refine ⟨G, _, rfl, SqL.of eG, ?_⟩
        have s78 : Same H7 H8 := fun b u e => k8 b u (kG e) e
        have s68 := s7.trans s78
        have eS8 := s68 _ _ eS6
        refine ⟨_, rfl, .inl ⟨rfl, _, SqL.of eS8⟩, _, rfl, _, rfl, r, _, rfl, .inr (SqT.of (s78 _ _ er)), _, rfl, (show 3 ≤ sizeLine by decide), fun Z hZ => ?_⟩
        have elen : (((ps.map V.ref).length : Nat) : Int) = (((diffR ss.length o (wof x)).length : Nat) : Int) := by rw [List.length_map, lps]
        rw [elen]
        have sZ := same_new (o := HO.tup [V.int (((diffR ss.length o (wof x)).map fun p => pr p.1 p.2).sum), V.int (((diffR ss.length o (wof x)).length : Nat) : Int), V.ref r]) hZ
        have fz : FoAt pr ss.length o (upd H8 Z (.tup [V.int (((diffR ss.length o (wof x)).map fun p => pr p.1 p.2).sum), V.int (((diffR ss.length o (wof x)).length : Nat) : Int), V.ref r])) Z x := ⟨r, upd_same, (pr7.same s78).same sZ⟩
        have s69 := s68.trans sZ
        show ∃ a xs, _
        refine ⟨S, fs.map (fun z => V.ref z.1), _, rfl, rfl, s69 _ _ eS6, ?_, ?_⟩
        · rw [List.length_map]
          have := congrArg List.length ef
          rw [List.length_map] at this
          have := List.length_filter_le (fun x => isTrue (ev T (wof x))) ((wlF ss).take i)
          rw [List.length_take] at this
          omega
        have eS9 := s69 _ _ eS6
        have k9 : ∀ b u, b ≠ S → H5 b = some u → (upd H8 Z (.tup [V.int (((diffR ss.length o (wof x)).map fun p => pr p.1 p.2).sum), V.int (((diffR ss.length o (wof x)).length : Nat) : Int), V.ref r])) b = some u := fun b u nb e => s69 _ _ (k6 b u nb e)
        have af9 : ∀ z ∈ fs, FoAt pr ss.length o (upd H8 Z (.tup [V.int (((diffR ss.length o (wof x)).map fun p => pr p.1 p.2).sum), V.int (((diffR ss.length o (wof x)).length : Nat) : Int), V.ref r])) z.1 z.2 := fun z hz => (af z hz).same s69
        show ∃ fs', _
        generalize upd H8 Z (.tup [V.int (((diffR ss.length o (wof x)).map fun p => pr p.1 p.2).sum), V.int (((diffR ss.length o (wof x)).length : Nat) : Int), V.ref r]) = H9 at fz eS9 k9 af9 ⊢
        have off : ∀ b u, b ≠ S → H9 b = some u → upd H9 S (.lst (fs.map (fun z => V.ref z.1) ++ [V.ref Z])) b = some u := fun b u nb e => by rw [upd_ne nb]; exact e
        refine ⟨fs ++ [(Z, x)], _, _, _, rfl, fun b u nb e => off b u nb (k9 b u nb e), by rw [upd_same, List.map_append]; rfl, ?_, fun z hz => ?_⟩
        · rw [stp true hE, if_pos rfl, List.map_append]
          rfl
        · rcases List.mem_append.mp hz with hz | hz
          · exact (af9 z hz).offL eS9 off
          · rw [List.mem_singleton.mp hz]
            exact fz.offL eS9 off
    rintro σ H6 ⟨fs, o5, o6, o7, rfl, k6, eS6, ef, af⟩
    rw [List.length_map, lbs, List.take_of_length_le (Nat.le_refl _)] at ef
    have s6 : Same H H6 := fun b u e => k6 _ _ (kS' e) (s15 _ _ e)
    refine ⟨_, rfl, (show 0 ≤ sizeLine by decide), fun z hz => ?_⟩
    have sz := same_new (o := HO.lst []) hz
    have ez : upd H6 z (.lst []) z = some (.lst []) := upd_same
    have eS7 := sz _ _ eS6
    have s7 := s6.trans sz
    have af7 : ∀ y ∈ fs, FoAt pr ss.length o (upd H6 z (.lst [])) y.1 y.2 := fun y hy => (af y hy).same sz
    show ∃ d e, _
    generalize upd H6 z (.lst []) = H7 at ez eS7 s7 af7 ⊢
    have da : ∀ gs : List (Addr × List Nat), (∀ z ∈ gs, FoAt pr ss.length o H7 z.1 z.2) → DpAll K H7 (gs.map fun z => V.ref z.1) (gs.map fun z => PySem.W.Datum.toD (kx pr ss.length o z.2)) ∧ PyData.canLayAll0 (gs.map fun z => PySem.W.Datum.toD (kx pr ss.length o z.2)) = true ∧ PyData.depthAll (gs.map fun z => PySem.W.Datum.toD (kx pr ss.length o z.2)) ≤ 8 := fun gs h => by
      induction gs with
      | nil => exact ⟨.nil, rfl, Nat.zero_le _⟩
      | cons z gs ih =>
        obtain ⟨h1, h2, h3⟩ := ih fun y hy => h y (List.mem_cons_of_mem _ hy)
        refine ⟨.cons (h z List.mem_cons_self).dp h1, ?_, ?_⟩
        · show ((PySem.W.Datum.toD (kx pr ss.length o z.2)).canLay0 && PyData.canLayAll0 _) = true
          rw [kx_lay, h2]
          rfl
        · show max (PySem.W.Datum.toD (kx pr ss.length o z.2)).depth _ ≤ 8
          have := kx_depth (kx pr ss.length o z.2)
          omega
    obtain ⟨d1, d2, d3⟩ := da fs af7
    refine ⟨.list _, .list [], .lst (SqL.of eS7) d1, .lst (SqL.of ez) .nil, list_shaped d2 d3, by decide +kernel, _, rfl, ?_⟩
    rw [eqv_nil]
    cases fs with
    | nil =>
      refine ifF rfl (kN H7 ?_ s7)
      cases hc : lcT (pricedC o pr) isTrue T with
      | none => rfl
      | some c =>
        exfalso
        obtain ⟨m, n⟩ := c
        obtain ⟨⟨x, h1, h2, _⟩, _⟩ := due_some gT go hpos hc
        have := List.mem_filter (p := fun x => isTrue (ev T (wof x))).mpr ⟨h1, h2⟩
        rw [← ef] at this
        cases this
    | cons f0 fr =>
      refine ifT (by rw [decide_eq_false (fun e => nomatch e)]; rfl) ?_
      have mem : ∀ x ∈ wlF ss, isTrue (ev T (wof x)) = true → ∃ z ∈ f0 :: fr, z.2 = x := fun x h1 h2 => by
        have := List.mem_filter (p := fun x => isTrue (ev T (wof x))).mpr ⟨h1, h2⟩
        rw [← ef] at this
        obtain ⟨z, hz, e⟩ := List.mem_map.mp this
        exact ⟨z, hz, e⟩
      have mem' : ∀ z ∈ f0 :: fr, z.2 ∈ wlF ss ∧ isTrue (ev T (wof z.2)) = true := fun z hz => by
        have : z.2 ∈ (wlF ss).filter (fun x => isTrue (ev T (wof x))) := by rw [← ef]; exact List.mem_map.mpr ⟨z, hz, rfl⟩
        exact List.mem_filter.mp this
      cases hc : lcT (pricedC o pr) isTrue T with
      | none =>
        exfalso
        have h := mem' f0 List.mem_cons_self
        rw [due_none gT hpos hc h.1] at h
        exact absurd h.2 (by decide)
      | some c =>
        obtain ⟨m, n'⟩ := c
        obtain ⟨⟨x0, h1, h2, h3⟩, h4⟩ := due_some gT go hpos hc
        obtain ⟨z0, hz0, rfl⟩ := mem x0 h1 h2
        obtain ⟨h, rr, es, hm, hlt⟩ := sort_first (enc := fun z : Addr × List Nat => PySem.W.Datum.toD (kx pr ss.length o z.2)) hz0
        rw [PySem.W.DatumOrd.lt_eq, h3] at hlt
        have hh := mem' h hm
        obtain ⟨e1, e2, e3⟩ := k3_tri (h4 h.2 hh.1 hh.2) hlt
        obtain ⟨r, ea, pa7⟩ := af7 h hm
        rw [e1, e2] at ea
        rw [e3] at pa7
        have lD : (fwT (pricedC o pr) isTrue o T).length ≤ ss.length := by rw [← e3]; exact diffR_len
        have inD : ∀ z ∈ fwT (pricedC o pr) isTrue o T, z.1 < ss.length := fun z hz => by
          rw [← e3, diffR_rw] at hz
          have := (CH.rw_mem hz).2.1
          omega
        have al : PySem.W.AllAlike ((f0 :: fr).map fun z : Addr × List Nat => PySem.W.Datum.toD (kx pr ss.length o z.2)) := fun d hd d' hd' => by
          obtain ⟨y, _, rfl⟩ := List.mem_map.mp hd
          obtain ⟨y', _, rfl⟩ := List.mem_map.mp hd'
          exact PySem.W.DatumOrd.alike _ _
        have so : PySem.W.Sortable ((f0 :: fr).map fun z : Addr × List Nat => PySem.W.Datum.toD (kx pr ss.length o z.2)) := .inl fun d hd => by
          obtain ⟨y, _, rfl⟩ := List.mem_map.mp hd
          exact ⟨_, _, rfl⟩
        refine ⟨_, rfl, S, Addr × List Nat, f0 :: fr, fun z => V.ref z.1, fun z => PySem.W.Datum.toD (kx pr ss.length o z.2), rfl, SqL.of eS7, fun z hz => (af7 z hz).dp, al, so, fun z hz => Nat.le_trans (kx_depth _) (by decide), fun p1 hp1 => ?_⟩
        have sp1 := same_new (o := HO.lst (((f0 :: fr).mergeSort (PySem.W.dataLe false fun z : Addr × List Nat => PySem.W.Datum.toD (kx pr ss.length o z.2))).map fun z => V.ref z.1)) hp1
        have ep1 : upd H7 p1 (.lst (((f0 :: fr).mergeSort (PySem.W.dataLe false fun z : Addr × List Nat => PySem.W.Datum.toD (kx pr ss.length o z.2))).map fun z => V.ref z.1)) p1 = some (.lst (V.ref h.1 :: rr.map fun z => V.ref z.1)) := by
          rw [upd_same, es]
          rfl
        generalize upd H7 p1 (.lst (((f0 :: fr).mergeSort (PySem.W.dataLe false fun z : Addr × List Nat => PySem.W.Datum.toD (kx pr ss.length o z.2))).map fun z => V.ref z.1)) = H8 at sp1 ep1 ⊢
        refine ⟨p1, _, _, _, rfl, rfl, SqL.of ep1, (by exact atI_nat (j := 0) rfl), h.1, _, _, _, rfl, rfl, SqT.of (sp1 _ _ ea), rfl, ?_⟩
        refine ⟨_, rfl, _, rfl, S, Addr × List Nat, f0 :: fr, fun z => V.ref z.1, fun z => PySem.W.Datum.toD (kx pr ss.length o z.2), rfl, SqL.of (sp1 _ _ eS7), fun z hz => ((af7 z hz).same sp1).dp, al, so, fun z hz => Nat.le_trans (kx_depth _) (by decide), fun p2 hp2 => ?_⟩
        have sp2 := same_new (o := HO.lst (((f0 :: fr).mergeSort (PySem.W.dataLe false fun z : Addr × List Nat => PySem.W.Datum.toD (kx pr ss.length o z.2))).map fun z => V.ref z.1)) hp2
        have ep2 : upd H8 p2 (.lst (((f0 :: fr).mergeSort (PySem.W.dataLe false fun z : Addr × List Nat => PySem.W.Datum.toD (kx pr ss.length o z.2))).map fun z => V.ref z.1)) p2 = some (.lst (V.ref h.1 :: rr.map fun z => V.ref z.1)) := by
          rw [upd_same, es]
          rfl
        generalize upd H8 p2 (.lst (((f0 :: fr).mergeSort (PySem.W.dataLe false fun z : Addr × List Nat => PySem.W.Datum.toD (kx pr ss.length o z.2))).map fun z => V.ref z.1)) = H9 at sp2 ep2 ⊢
        refine ⟨p2, _, _, _, rfl, rfl, SqL.of ep2, (by exact atI_nat (j := 0) rfl), h.1, _, _, _, rfl, rfl, SqT.of (sp2 _ _ (sp1 _ _ ea)), rfl, ?_⟩
        have s79 := sp1.trans sp2
        refine ⟨R, r, ts, ss, fwT (pricedC o pr) isTrue o T, rfl, hR.same (s7.trans s79), len, by omega, sc.gd, pa7.same s79, by omega, inD, fun b Hf hb sf pb => ⟨(show 2 ≤ sizeLine by decide), fun a ha => ?_⟩⟩
        have sa := same_new (o := HO.tup [V.int m, V.ref b]) ha
        have sA := (s7.trans s79).trans sf
        exact kS a b m n' _ hc (sA.free ha) (sA.trans sa) upd_same (pb.same sa)
end
end R52
namespace L3
open PySem PySem.Spec PyProof.Rows L2
def keyD : Key → PyData
  | .inl i => .int i
  | .inr x => .str x
/-- an entry and what it shows -/
def EntD (K : PySem.W.Frag) (H : Hp) (p : Key × V) (d : PyData × PyData) : Prop := d.1 = keyD p.1 ∧ Dp K H p.2 d.2 ∧ d.2.hasDict = false
def DictD (K : PySem.W.Frag) (H : Hp) (kvs : List (Key × V)) (D : List (PyData × PyData)) : Prop := Paired (EntD K H) kvs D
theorem entd_none {K : PySem.W.Frag} {H : Hp} {kvs : List (Key × V)} {D : List (PyData × PyData)} (h : DictD K H kvs D) : PyData.hasDictAll (D.map (·.2)) = false := by
  induction h with
  | nil => rfl
  | cons a _ ih =>
    show (_ || PyData.hasDictAll _) = false
    rw [a.2.2, ih]
    rfl
theorem pairs_read {X : Cx} {pins : List (Addr × Obj)} {σ : L2.St} {H : Hp} {s : Shared} (I : Inv X pins σ H s) : ∀ {kvs : List (Key × V)} {D : List (PyData × PyData)} {vs : List (Key × Value)}, DictD X.K H kvs D → KV kvs vs → ∃ bs, PyProof.V.PairsRead s.heap keyD vs D bs
  | [], [], [], .nil, .nil => ⟨_, .nil⟩
  | p :: kvs, d :: D, q :: vs, .cons h t, .cons r u => by
    obtain ⟨bs, hb⟩ := pairs_read I t u
    obtain ⟨h1, h2, _⟩ := h
    obtain ⟨k, v⟩ := q
    obtain ⟨r1, r2⟩ := r
    obtain ⟨as, ra⟩ := Dp.reads I _ _ v h2 r2
    obtain ⟨d1, d2⟩ := d
    replace h1 : d1 = keyD p.1 := h1
    replace r1 : p.1 = k := r1
    rw [h1, r1]
    exact ⟨_, .cons ra hb⟩
/-- repr(x), x a dict -/
def rReprK (K : PySem.W.Frag) : List V → Hp → VK → Prop := fun xs H Q => ∃ (a : Addr) (kvs : List (Key × V)) (D : List (PyData × PyData)), xs = [.ref a] ∧ H a = some (.dK kvs) ∧ DictD K H kvs D ∧ (PyData.dict D).showable = true ∧ (PyData.dict D).depth ≤ 60 ∧ (PyData.dict D).shown.length ≤ sizeLine ∧ Q (.str (PyData.dict D).shown) H
theorem call_reprK {X : Cx} (g : Calm X.A) (hu : X.A.units + 64 < cLine) : CallR X (.builtin "repr") (rReprK X.K) := by
  intro pins s σ H xs us Q I rx h
  obtain ⟨a, kvs, D, rfl, ha, hD, shw, dep, len, q⟩ := h
  obtain ⟨u, rfl, ru⟩ := vals1 rx
  obtain rfl : u = Value.ref a := ru
  obtain ⟨hz, hsys, vs, rkv, hd⟩ := dk_of I.hok ha
  obtain ⟨bs, pr⟩ := pairs_read I hD rkv
  have hkey : ∀ (k : Key) (v : Value), (mixKind X.prog X.w).is k v = true → Reads s.heap v (keyD k) [] := fun k v e => by
    rcases keyIs_shape e with ⟨i, t, rfl, rfl⟩ | ⟨x, t, rfl, rfl⟩
    · exact Reads.int i t
    · exact Reads.str x t
  have whole := PyProof.V.reads_dictOf hkey hd pr
  obtain ⟨ob, ens, place, at1, ex, dat, _, prs, _⟩ := hd
  obtain ⟨readK, readV⟩ := PyProof.V.readsAll_of_pairs hkey prs pr
  have size0 : (dictText (PyData.shownKv D)).length ≤ sizeLine := by
    rw [PyData.shown] at len
    exact len
  obtain ⟨sh1, sh2⟩ := PyData.showableKv_split D (by rw [PyData.showable] at shw; exact shw)
  obtain ⟨c1, m1, t1⟩ := ReprAllK.of_readsAll (prog := X.prog) (w := X.w) readK sh1 (fun _ z => nomatch z) fun x hx => by
    obtain ⟨y, hy, le⟩ := PyData.shownKv_key_le D x hx
    exact Nat.le_trans le (Nat.le_trans (dictText_mem_le hy) size0)
  obtain ⟨c2, m2, t2⟩ := ReprAllK.of_readsAll (prog := X.prog) (w := X.w) readV sh2 (fun z => by rw [entd_none hD] at z; cases z) fun x hx => by
    obtain ⟨y, hy, le⟩ := PyData.shownKv_val_le D x hx
    exact Nat.le_trans le (Nat.le_trans (dictText_mem_le hy) size0)
  have both := (m1.mono (PyData.depthAll_keys_le D)).append (m2.mono (PyData.depthAll_vals_le D))
  have notIn : a ∉ c1 ++ c2 := not_mem_of_deeper whole (by rw [PyData.depth]; omega) both
  have k1 := t1.more_le (as' := c1 ++ c2) (fun y my => List.mem_append_left c2 my) (PyData.depthAll_keys_le D)
  have k2 := t2.more_le (as' := c1 ++ c2) (fun y my => List.mem_append_right c1 my) (PyData.depthAll_vals_le D)
  have dep' : PyData.depthKv D + 1 ≤ 60 := by
    rw [PyData.depth] at dep
    exact dep
  refine call_repr_slot (T := "dict") (idr := "dict.__repr__") (by omega) ⟨ob, at1, ex.1⟩ F.slot_dict_repr ?_
  refine call_dict_reprK at1 ex.1 dat hsys notIn (ReprEntriesK.of_two ens.toList _ _ k1 k2) g (fun y _ => Clear.nil y) ?_ (fun _ _ e => e) (fun h' u' tk keep => ?_) ?_
  · show X.A.units + 1 + _ < cLine
    omega
  · rw [← PyData.shownKv_eq]
    rw [PyData.shown] at q
    exact ⟨_, _, rfl, .str _, H, I.kept keep, ⟨u', rfl⟩, q⟩
  · rw [← PyData.shownKv_eq]
    exact size0
def RpAt (K : PySem.W.Frag) (H : Hp) (x : V) (d : PyData) : Prop := (Dp K H x d ∧ Fine d) ∨ ∃ (a : Addr) (kvs : List (Key × V)) (D : List (PyData × PyData)), x = .ref a ∧ d = .dict D ∧ H a = some (.dK kvs) ∧ DictD K H kvs D ∧ (PyData.dict D).showable = true ∧ (PyData.dict D).depth ≤ 60 ∧ (PyData.dict D).shown.length ≤ sizeLine
def rRepr2 (K : PySem.W.Frag) : List V → Hp → VK → Prop := fun xs H Q => ∃ (x : V) (d : PyData), xs = [x] ∧ RpAt K H x d ∧ Q (.str (rtext d)) H
theorem call_repr2 {X : Cx} (g : Calm X.A) (hu : X.A.units + 64 < cLine) : CallR X (.builtin "repr") (rRepr2 X.K) := by
  intro pins s σ H xs us Q I rx h
  obtain ⟨x, d, rfl, h | ⟨a, kvs, D, rfl, rfl, h1, h2, h3, h4, h5⟩, q⟩ := h
  · exact call_repr g hu pins s σ H _ us Q I rx ⟨x, d, rfl, h.1, h.2, q⟩
  · exact call_reprK g hu pins s σ H _ us Q I rx ⟨a, kvs, D, rfl, h1, h2, h3, h4, h5, q⟩
/-- _law_same of data, or of dicts -/
def spSame2 (K : PySem.W.Frag) : Sp := fun vs H Q _ => ∃ (x y : V) (d e : PyData), vs = [x, y] ∧ RpAt K H x d ∧ RpAt K H y e ∧ Q (.bl (decide (V.str (rtext d) = V.str (rtext e)))) H
end L3
namespace L3
open PySem PySem.Spec PyProof.Rows L2
def tDUpd (td ty : TE) : TE := fun σ H Q => td σ H fun x H1 => ∃ a, x = .ref a ∧ IsD H1 a ∧ ty σ H1 fun y H2 => ∃ b kvs more, y = .ref b ∧ a ≠ b ∧ H2 a = some (.dK kvs) ∧ H2 b = some (.dK more) ∧ kvs.length + more.length ≤ sizeLine ∧ Q .non (upd H2 a (.dK (mergeK kvs more)))
section
variable {X : Cx} {o e : Expr} {apos cpos : Pos} {td ty : TE}
theorem pe_dupd (ho : PE X o td) (he : PE X e ty) (m : M1 X o "update" apos e cpos) : PE X (.Call (.Attribute o "update" apos) [e] [] cpos) (tDUpd td ty) := by
  constructor
  intro pins s σ H Q I h
  refine wpAny_Call_method m.base m.few m.line PySem.F.plainAttrs_dict PySem.F.slot_dict_update PySem.F.type_dict_update (thn (ho.run pins s σ H _ I h) fun u0 s1 ⟨x, H1, I1, r0, a, e0, isd, q1⟩ => ?_)
  rw [e0] at r0
  cases (show u0 = Value.ref a from r0)
  obtain ⟨ty1, ty2, _⟩ := isD_at I1 isd
  refine ⟨ty1, ty2, ?_⟩
  rw [m.trees]
  refine Calls.callWith_builtin rfl (Calls.evalArgs_plain (Calls.spliced_cons (thn (he.run pins s1 σ H1 _ I1 q1) fun u1 s2 ⟨y, H2, I2, r1, b, kvs, more, e1, ne, ea, eb, sz, q2⟩ => Calls.spliced_nil ?_)))
  rw [e1] at r1
  cases (show u1 = Value.ref b from r1)
  obtain ⟨_, sysA, vsA, rA, dA⟩ := dk_of I2.hok ea
  obtain ⟨_, sysB, vsB, rB, dB⟩ := dk_of I2.hok eb
  have lA : vsA.length = kvs.length := rA.length.symm
  have lB : vsB.length = more.length := rB.length.symm
  refine call_meetsIn PySem.F.slot_dict_update dA.typeIs PySem.F.entry_dict_update (PySem.F.args_dict_update_2 _ _) (meets_dict_update (mixKind X.prog X.w) a b ne sysB) ⟨vsA, vsB, dA, dB, by omega, fun h' dN _ only => ?_⟩
  have sz2 : (mergeK kvs more).length ≤ sizeLine := Nat.le_trans (length_mergeK more kvs) sz
  have at' : ∃ ob, h'.get? a = some ob := let ⟨ob, _, _, g, _⟩ := dN; ⟨ob, g⟩
  exact ⟨.non, _, d_write I2 (by rw [ea]; exact True.intro) only at' (dk_new sz2 sysA (rB.merge rA) dN), rfl, q2⟩
end
end L3
namespace R52
open PySem L2 L3 FT ND
open CH (RwT)
structure Sz (d : PyData) (n k : Nat) : Prop where
  sh : d.showable = true
  nd : d.hasDict = false
  dp : d.depth ≤ k
  ln : d.shown.length ≤ n
theorem Sz.mono {d : PyData} {n k m j : Nat} (h : Sz d n k) (a : n ≤ m) (b : k ≤ j) : Sz d m j := ⟨h.sh, h.nd, Nat.le_trans h.dp b, Nat.le_trans h.ln a⟩
theorem int_len {i : Int} (h : i.natAbs < 2 ^ 140) : (Str.ofString (toString i)).length ≤ 60 := by
  have e : (Str.ofString (toString i)).length = (toString i).length := by
    show (Str.ofString (toString i)).cps.size = _
    rw [← Array.length_toList, PyProof.Rows.signs_ofString, List.length_map]
    rfl
  have rep : ∀ n : Nat, n < 2 ^ 140 → (Nat.repr n).length ≤ 50 := fun n hn => (Nat.length_repr_le_iff (n := n) (by decide : 0 < 50)).mpr (Nat.lt_trans hn (by decide))
  rw [e]
  cases i with
  | ofNat n =>
    have := rep n h
    show (Nat.repr n).length ≤ 60
    omega
  | negSucc n =>
    have := rep (n + 1) h
    show ("-" ++ Nat.repr (n + 1)).length ≤ 60
    rw [String.length_append]
    have : ("-" : String).length = 1 := rfl
    omega
theorem sz_int {i : Int} (h : i.natAbs < 2 ^ 140) : Sz (.int i) 60 0 := by
  refine ⟨?_, rfl, Nat.le_refl _, int_len h⟩
  rw [PyData.showable]
  exact decide_eq_true (log_small h)
theorem sz_all {ds : List PyData} {n k : Nat} (h : ∀ d ∈ ds, Sz d n k) : PyData.showableAll ds = true ∧ PyData.hasDictAll ds = false ∧ PyData.depthAll ds ≤ k ∧ PySem.piled (PyData.shownAll ds) ≤ (n + 2) * ds.length := by
  induction ds with
  | nil => exact ⟨rfl, rfl, Nat.zero_le _, Nat.le_refl _⟩
  | cons d ds ih =>
    obtain ⟨h1, h2, h3, h4⟩ := h d List.mem_cons_self
    obtain ⟨i1, i2, i3, i5⟩ := ih fun e m => h e (List.mem_cons_of_mem _ m)
    refine ⟨?_, ?_, ?_, ?_⟩
    · rw [PyData.showableAll, h1, i1]; rfl
    · rw [PyData.hasDictAll, h2, i2]; rfl
    · rw [PyData.depthAll]; exact Nat.max_le.mpr ⟨h3, i3⟩
    · rw [PyData.shownAll, PySem.piled_cons, List.length_cons, Nat.mul_add, Nat.mul_one]; omega
theorem sz_list {ds : List PyData} {n k : Nat} (h : ∀ d ∈ ds, Sz d n k) : Sz (.list ds) ((n + 2) * ds.length + 3) (k + 1) := by
  obtain ⟨i1, i2, i3, i5⟩ := sz_all h
  refine ⟨by rw [PyData.showable]; exact i1, by rw [PyData.hasDict]; exact i2, by rw [PyData.depth]; omega, ?_⟩
  rw [PyData.shown_list, len_app, len_app]
  by_cases q : PyData.shownAll ds = []
  · rw [q]
    show 1 + 0 + 1 ≤ _
    omega
  · have := PySem.join_length_add _ q
    show 1 + (Str.join ", " (PyData.shownAll ds)).length + 1 ≤ _
    omega
theorem sz_tuple {ds : List PyData} {n k : Nat} (h : ∀ d ∈ ds, Sz d n k) : Sz (.tuple ds) ((n + 2) * ds.length + 4) (k + 1) := by
  obtain ⟨i1, i2, i3, i5⟩ := sz_all h
  refine ⟨by rw [PyData.showable]; exact i1, by rw [PyData.hasDict]; exact i2, by rw [PyData.depth]; omega, ?_⟩
  rw [PyData.shown_tuple, len_app, len_app]
  have e1 : (Str.ofString "(").length = 1 := rfl
  have e2 : (Str.ofString (if ds.length == 1 then ",)" else ")")).length ≤ 2 := by split <;> decide
  by_cases q : PyData.shownAll ds = []
  · rw [q]
    show 1 + 0 + (Str.ofString _).length ≤ _
    omega
  · have := PySem.join_length_add _ q
    show 1 + (Str.join ", " (PyData.shownAll ds)).length + (Str.ofString _).length ≤ _
    omega
theorem fine_tuple {ds : List PyData} {n k : Nat} (h : ∀ d ∈ ds, Sz d n k) (hk : k ≤ 50) (hn : (n + 2) * ds.length ≤ 10000000) : Fine (.tuple ds) := by
  have s := sz_tuple h
  have e0 := sizeLine_eq
  exact ⟨s.sh, s.nd, Nat.le_trans s.dp (by omega), Nat.le_trans s.ln (by omega)⟩
theorem sz_name {t : Str} (h : NameOk t) : Sz (.str t) 40 0 := ⟨by rw [PyData.showable], rfl, Nat.le_refl _, h.rep⟩
theorem dict_fine {D : List (PyData × PyData)} {n : Nat} (h : ∀ d ∈ D, Sz d.1 40 0 ∧ Sz d.2 n 1) (hl : D.length ≤ 40) (hn : n ≤ 1000) : (PyData.dict D).showable = true ∧ (PyData.dict D).depth ≤ 60 ∧ (PyData.dict D).shown.length ≤ sizeLine := by
  have all : PyData.showableKv D = true ∧ PyData.depthKv D ≤ 1 ∧ ((PyData.shownKv D).map (·.length)).sum ≤ (n + 42) * D.length := by
    clear hl
    induction D with
    | nil => exact ⟨rfl, Nat.zero_le _, Nat.zero_le _⟩
    | cons d D ih =>
      obtain ⟨i1, i2, i3⟩ := ih fun e m => h e (List.mem_cons_of_mem _ m)
      obtain ⟨h1, h2⟩ := h d List.mem_cons_self
      obtain ⟨k, v⟩ := d
      refine ⟨?_, ?_, ?_⟩
      · rw [PyData.showableKv, h1.sh, h2.sh, i1]; rfl
      · rw [PyData.depthKv]
        have := h1.dp
        have := h2.dp
        simp only at *
        omega
      · rw [PyData.shownKv, List.map_cons, List.sum_cons, List.length_cons, Nat.mul_add, Nat.mul_one, len_app, len_app]
        have := h1.ln
        have := h2.ln
        have e : (Str.ofString ": ").length = 2 := rfl
        simp only at *
        omega
  obtain ⟨a1, a2, a3⟩ := all
  refine ⟨by rw [PyData.showable]; exact a1, by rw [PyData.depth]; omega, ?_⟩
  rw [PyData.shown]
  refine Nat.le_trans (dictText_len_le _) ?_
  rw [PyData.shownKv_length]
  have e0 := sizeLine_eq
  have : (n + 42) * D.length ≤ 1042 * 40 := Nat.mul_le_mul (by omega) hl
  omega
theorem dict_data {K : PySem.W.Frag} {H : Hp} {n : Nat} : ∀ {kvs : List (Key × V)}, (∀ p ∈ kvs, Sz (keyD p.1) 40 0 ∧ ∃ d, Dp K H p.2 d ∧ Sz d n 1) → ∃ D, DictD K H kvs D ∧ (∀ d ∈ D, Sz d.1 40 0 ∧ Sz d.2 n 1) ∧ D.length = kvs.length
  | [], _ => ⟨[], .nil, fun d h => (nomatch h), rfl⟩
  | p :: kvs, h => by
    obtain ⟨D, h1, h2, h3⟩ := dict_data (kvs := kvs) fun q m => h q (List.mem_cons_of_mem _ m)
    obtain ⟨k1, d, k2, k3⟩ := h p List.mem_cons_self
    refine ⟨(keyD p.1, d) :: D, .cons ⟨rfl, k2, k3.nd⟩ h1, fun e m => ?_, congrArg (· + 1) h3⟩
    rcases List.mem_cons.mp m with rfl | m
    · exact ⟨k1, k3⟩
    · exact h2 e m
/-- the entries of the choices with prices -/
def tkv (nm : Nat → Str) (E : Nat → Option Addr) (i : Nat) : List (Key × V) := (List.range i).filterMap fun l => (E l).map fun a => ((Sum.inr (nm l) : Key), V.ref a)
theorem tkv_succ {nm : Nat → Str} {E : Nat → Option Addr} {i : Nat} : tkv nm E (i + 1) = tkv nm E i ++ ((E i).map fun a => ((Sum.inr (nm i) : Key), V.ref a)).toList := by
  unfold tkv
  rw [List.range_succ, List.filterMap_append]
  refine congrArg (_ ++ ·) ?_
  show List.filterMap _ [i] = _
  cases e : E i with
  | none => rw [List.filterMap_cons, e]; rfl
  | some a => rw [List.filterMap_cons, e]; rfl
theorem tkv_mem {nm : Nat → Str} {E : Nat → Option Addr} {i : Nat} {p : Key × V} (h : p ∈ tkv nm E i) : ∃ l a, l < i ∧ E l = some a ∧ p = ((Sum.inr (nm l) : Key), V.ref a) := by
  obtain ⟨l, hl, e⟩ := List.mem_filterMap.mp h
  obtain ⟨a, ha, rfl⟩ := Option.map_eq_some_iff.mp e
  exact ⟨l, a, List.mem_range.mp hl, ha, rfl⟩
theorem tkv_len {nm : Nat → Str} {E : Nat → Option Addr} {i : Nat} : (tkv nm E i).length ≤ i := by
  unfold tkv
  exact Nat.le_trans (List.length_filterMap_le _ _) (Nat.le_of_eq List.length_range)
theorem tkv_congr {nm : Nat → Str} {E E' : Nat → Option Addr} : ∀ {i : Nat}, (∀ l, l < i → E l = E' l) → tkv nm E i = tkv nm E' i
  | 0, _ => rfl
  | i + 1, h => by rw [tkv_succ, tkv_succ, tkv_congr fun l hl => h l (by omega), h i (by omega)]
theorem valV_one {k k' : Key} {v : V} : valV [(k, v)] k' = if k = k' then some v else none := by
  unfold valV
  rw [List.find?_cons]
  by_cases h : k = k'
  · rw [if_pos h, decide_eq_true h]
    rfl
  · rw [if_neg h, decide_eq_false h]
    rfl
theorem valV_app {a b : List (Key × V)} {k : Key} : valV (a ++ b) k = match valV a k with | some v => some v | none => valV b k := by
  unfold valV
  rw [List.find?_append]
  cases a.find? fun kv => decide (kv.1 = k) <;> rfl
theorem tkv_get {ts : List Str} (nd : ts.Nodup) {E : Nat → Option Addr} : ∀ {i : Nat}, i ≤ ts.length → ∀ {l : Nat}, l < ts.length → valV (tkv (nmOf ts) E i) (Sum.inr (nmOf ts l) : Key) = if l < i then (E l).map V.ref else none
  | 0, _, l, hl => rfl
  | i + 1, hi, l, hl => by
    rw [tkv_succ, valV_app, tkv_get nd (show i ≤ ts.length by omega) hl]
    rcases Nat.lt_trichotomy l i with h | h | h
    · rw [if_pos h, if_pos (by omega)]
      cases E l with
      | some a => rfl
      | none =>
        show valV _ _ = none
        cases E i with
        | none => rfl
        | some b =>
          show valV [_] _ = none
          rw [valV_one, if_neg fun e => by have := nmOf_inj nd (by omega) hl (Sum.inr.inj e); omega]
    · subst h
      rw [if_neg (by omega), if_pos (by omega)]
      cases E l with
      | none => rfl
      | some b =>
        show valV [_] _ = _
        rw [valV_one, if_pos rfl]
        rfl
    · rw [if_neg (by omega), if_neg (by omega)]
      show valV _ _ = none
      cases E i with
      | none => rfl
      | some b =>
        show valV [_] _ = none
        rw [valV_one, if_neg fun e => by have := nmOf_inj nd (by omega) hl (Sum.inr.inj e); omega]
def pMost : Int := 1000000000
/-- what is told of the choices below i -/
structure Told (H : Hp) (a q : Addr) (ts : List Str) (ss : List Nat) (i : Nat) (E : Nat → Option Addr) (X : Nat → List Int) : Prop where
  at_ : H q = some (.dK (tkv (nmOf ts) E i))
  some_ : ∀ l b, E l = some b → l < i ∧ b ≠ a ∧ (H b = some (.lst ((X l).map V.int)) ∨ H b = some (.tup ((X l).map V.int))) ∧ (X l).length = ksOf ss l ∧ ∀ x ∈ X l, 0 ≤ x ∧ x ≤ pMost
def prT (E : Nat → Option Addr) (X : Nat → List Int) (l k : Nat) : Int := match E l with
  | some _ => (X l).getD k 0
  | none => 1
theorem getD_in {xs : List Int} {k : Nat} (h : ∀ x ∈ xs, 0 ≤ x ∧ x ≤ pMost) : 0 ≤ xs.getD k 0 ∧ xs.getD k 0 ≤ pMost := by
  rw [List.getD_eq_getElem?_getD]
  cases e : xs[k]? with
  | none => exact ⟨Int.le_refl 0, by decide⟩
  | some x => exact h x (List.mem_of_getElem? e)
theorem Told.pr {H : Hp} {a q : Addr} {ts : List Str} {ss : List Nat} {i : Nat} {E : Nat → Option Addr} {X : Nat → List Int} (h : Told H a q ts ss i E X) (l k : Nat) : 0 ≤ prT E X l k ∧ prT E X l k ≤ pMost := by
  unfold prT
  cases e : E l with
  | none => exact ⟨(by decide : (0 : Int) ≤ 1), (by decide : (1 : Int) ≤ pMost)⟩
  | some b => exact getD_in (h.some_ l b e).2.2.2.2
theorem Told.prices {H : Hp} {a q p : Addr} {ts : List Str} {ss : List Nat} {E : Nat → Option Addr} {X : Nat → List Int} (nd : ts.Nodup) (h : Told H a q ts ss ts.length E X) (hp : H p = some (.dK (tkv (nmOf ts) E ts.length))) : PricesAt H p ts ss (prT E X) := by
  refine ⟨_, hp, fun l hl => ?_⟩
  rw [tkv_get nd (Nat.le_refl _) hl, if_pos hl]
  cases e : E l with
  | none => exact .inl ⟨rfl, fun k _ => by unfold prT; rw [e]⟩
  | some b =>
    obtain ⟨_, _, h1, h2, _⟩ := h.some_ l b e
    refine .inr ⟨b, X l, rfl, h1, h2, fun k hk => ?_⟩
    unfold prT
    rw [e, List.getElem?_eq_getElem (by omega)]
    simp only
    rw [List.getD_eq_getElem?_getD, List.getElem?_eq_getElem (by omega)]
    rfl
theorem Told.off {H H' : Hp} {a q : Addr} {ts : List Str} {ss : List Nat} {i : Nat} {E : Nat → Option Addr} {X : Nat → List Int} (h : Told H a q ts ss i E X) (s : ∀ b o, b ≠ q → H b = some o → H' b = some o) {l : Nat} {b : Addr} (e : E l = some b) : l < i ∧ b ≠ a ∧ (H' b = some (.lst ((X l).map V.int)) ∨ H' b = some (.tup ((X l).map V.int))) ∧ (X l).length = ksOf ss l ∧ ∀ x ∈ X l, 0 ≤ x ∧ x ≤ pMost := by
  obtain ⟨h1, h2, h3, h4⟩ := h.some_ l b e
  refine ⟨h1, h2, ?_, h4⟩
  rcases h3 with h3 | h3
  · exact .inl (s _ _ (fun z => by rw [z, h.at_] at h3; cases h3) h3)
  · exact .inr (s _ _ (fun z => by rw [z, h.at_] at h3; cases h3) h3)
theorem Told.top {H : Hp} {a q : Addr} {ts : List Str} {ss : List Nat} {i : Nat} {E : Nat → Option Addr} {X : Nat → List Int} (h : Told H a q ts ss i E X) : E i = none := by
  cases e : E i with
  | none => rfl
  | some b => exact absurd (h.some_ i b e).1 (Nat.lt_irrefl _)
theorem Told.step0 {H : Hp} {a q : Addr} {ts : List Str} {ss : List Nat} {i : Nat} {E : Nat → Option Addr} {X : Nat → List Int} (h : Told H a q ts ss i E X) : Told (upd H q (.dK (mergeK (tkv (nmOf ts) E i) []))) a q ts ss (i + 1) E X := by
  refine ⟨?_, fun l b e => ?_⟩
  · rw [upd_same, tkv_succ, h.top]
    show some (HO.dK (tkv (nmOf ts) E i)) = some (.dK (_ ++ []))
    rw [List.append_nil]
  · obtain ⟨h1, h2⟩ := h.off (H' := upd H q (.dK (mergeK (tkv (nmOf ts) E i) []))) (fun b o nb e => by rw [upd_ne nb]; exact e) e
    exact ⟨by omega, h2⟩
theorem Told.step1 {H : Hp} {a q b : Addr} {ts : List Str} {ss : List Nat} {i : Nat} {E : Nat → Option Addr} {X : Nat → List Int} {xs : List Int} (h : Told H a q ts ss i E X) (nd : ts.Nodup) (hi : i < ts.length) (ba : b ≠ a) (e : H b = some (.lst (xs.map V.int)) ∨ H b = some (.tup (xs.map V.int))) (len : xs.length = ksOf ss i) (bx : ∀ x ∈ xs, 0 ≤ x ∧ x ≤ pMost) :
    Told (upd H q (.dK (mergeK (tkv (nmOf ts) E i) [(Sum.inr (nmOf ts i), .ref b)]))) a q ts ss (i + 1) (fun l => if l = i then some b else E l) (fun l => if l = i then xs else X l) := by
  have off : ∀ c o, c ≠ q → H c = some o → upd H q (.dK (mergeK (tkv (nmOf ts) E i) [(Sum.inr (nmOf ts i), .ref b)])) c = some o := fun c o nb e => by rw [upd_ne nb]; exact e
  refine ⟨?_, fun l c ec => ?_⟩
  · rw [upd_same, tkv_succ, if_pos rfl, tkv_congr (E' := E) fun l hl => if_neg (by omega)]
    show some (HO.dK (putK (tkv (nmOf ts) E i) (Sum.inr (nmOf ts i)) (.ref b))) = some (.dK (tkv (nmOf ts) E i ++ [(Sum.inr (nmOf ts i), .ref b)]))
    rw [putK_new fun kv m e' => ?_]
    obtain ⟨l, c, hl, _, rfl⟩ := tkv_mem m
    have := nmOf_inj nd (by omega) hi (Sum.inr.inj e')
    omega
  · by_cases q' : l = i
    · rw [if_pos q'] at ec ⊢
      obtain rfl := Option.some.inj ec
      subst q'
      refine ⟨Nat.lt_succ_self _, ba, ?_, len, bx⟩
      rcases e with e | e
      · exact .inl (off _ _ (fun z => by rw [z, h.at_] at e; cases e) e)
      · exact .inr (off _ _ (fun z => by rw [z, h.at_] at e; cases e) e)
    · rw [if_neg q'] at ec ⊢
      obtain ⟨h1, h2⟩ := h.off off ec
      exact ⟨by omega, h2⟩
theorem Told.keep {H H' : Hp} {a q : Addr} {ts : List Str} {ss : List Nat} {i : Nat} {E : Nat → Option Addr} {X : Nat → List Int} (qa : q ≠ a) (s : ∀ b o, b ≠ a → H b = some o → H' b = some o) (h : Told H a q ts ss i E X) : Told H' a q ts ss i E X :=
  ⟨s _ _ qa h.at_, fun l b e => by
    obtain ⟨h1, h2, h3, h4⟩ := h.some_ l b e
    exact ⟨h1, h2, h3.imp (s _ _ h2) (s _ _ h2), h4⟩⟩
theorem ints_dp {K : PySem.W.Frag} {H : Hp} : ∀ xs : List Int, DpAll K H (xs.map V.int) (xs.map PyData.int)
  | [] => .nil
  | x :: xs => .cons (.int x) (ints_dp xs)
theorem Told.rp {K : PySem.W.Frag} {H : Hp} {a q : Addr} {ts : List Str} {ss : List Nat} {i : Nat} {E : Nat → Option Addr} {X : Nat → List Int} (gd : GoodN ts) (hi : i ≤ ts.length) (h6 : ts.length ≤ 6) (h4 : ∀ l, l < ts.length → ksOf ss l ≤ 4) (h : Told H a q ts ss i E X) : ∃ d, ∀ p, H p = some (.dK (tkv (nmOf ts) E i)) → RpAt K H (.ref p) d := by
  obtain ⟨D, h1, h2, h3⟩ := dict_data (K := K) (H := H) (n := 252) (kvs := tkv (nmOf ts) E i) fun p hp => by
    obtain ⟨l, b, hl, e, rfl⟩ := tkv_mem hp
    obtain ⟨_, _, k3, k4, k5⟩ := h.some_ l b e
    have l4 := h4 l (by omega)
    have sz : ∀ d ∈ (X l).map PyData.int, Sz d 60 0 := fun d hd => by
      obtain ⟨x, hx, rfl⟩ := List.mem_map.mp hd
      obtain ⟨x0, x1⟩ := k5 x hx
      exact sz_int (Nat.lt_of_le_of_lt (show x.natAbs ≤ 1000000000 by unfold pMost at x1; omega) (by decide))
    have lm : (62 * ((X l).map PyData.int).length) ≤ 248 := by rw [List.length_map]; omega
    refine ⟨sz_name (okT_iff (gd.2 _ (nmOf_mem (by omega)))), ?_⟩
    rcases k3 with k3 | k3
    · exact ⟨_, .lst (SqL.of k3) (ints_dp _), (sz_list sz).mono (by omega) (by omega)⟩
    · exact ⟨_, .tup (SqT.of k3) (ints_dp _), (sz_tuple sz).mono (by omega) (by omega)⟩
  obtain ⟨f1, f2, f3⟩ := dict_fine h2 (by have := tkv_len (nm := nmOf ts) (E := E) (i := i); omega) (by decide)
  exact ⟨.dict D, fun p hp => .inr ⟨p, _, D, rfl, rfl, hp, h1, f1, f2, f3⟩⟩
def ansD (ts : List Str) (m : Int) (D : RwT) : PyData := .tuple [.int m, .tuple (D.map fun p => .tuple [.str (nmOf ts p.1), .int ((p.2 : Nat) : Int)])]
theorem ans_rp {K : PySem.W.Frag} {H : Hp} {a b : Addr} {ts : List Str} {m : Int} {D : RwT} (gd : GoodN ts) (hm : m.natAbs < 2 ^ 100) (hD : ∀ p ∈ D, p.1 < ts.length ∧ p.2 < 1000) (hl : D.length ≤ 40) (e : H a = some (.tup [.int m, .ref b])) (pr : PrAt (namV ts) H b D) : RpAt K H (.ref a) (ansD ts m D) := by
  obtain ⟨bs, eb, pp⟩ := pr
  have dp : ∀ {bs : List Addr} {D : RwT}, Paired (fun b (x : Nat × Nat) => H b = some (.tup [namV ts x.1, .int ((x.2 : Nat) : Int)])) bs D → DpAll K H (bs.map V.ref) (D.map fun p => .tuple [.str (nmOf ts p.1), .int ((p.2 : Nat) : Int)]) := fun {bs D} h => by
    induction h with
    | nil => exact .nil
    | cons e _ ih => exact .cons (.tup (SqT.of e) (.cons (.str _) (.cons (.int _) .nil))) ih
  refine .inl ⟨.tup (SqT.of e) (.cons (.int _) (.cons (.tup (SqT.of eb) (dp pp)) .nil)), ?_⟩
  have s1 : ∀ d ∈ (D.map fun p => (PyData.tuple [.str (nmOf ts p.1), .int ((p.2 : Nat) : Int)])), Sz d 128 1 := fun d hd => by
    obtain ⟨p, hp, rfl⟩ := List.mem_map.mp hd
    obtain ⟨p1, p2⟩ := hD p hp
    refine (sz_tuple (n := 60) (k := 0) fun d hd => ?_).mono (by show 62 * 2 + 4 ≤ 128; decide) (Nat.le_refl _)
    rcases List.mem_cons.mp hd with rfl | hd
    · exact (sz_name (okT_iff (gd.2 _ (nmOf_mem p1)))).mono (by decide) (Nat.le_refl _)
    · rw [List.mem_singleton.mp hd]
      exact sz_int (Nat.lt_of_le_of_lt (show ((p.2 : Nat) : Int).natAbs ≤ 1000 by omega) (by decide))
  have s2 := sz_tuple s1
  rw [List.length_map] at s2
  have s3 := s2.mono (m := 5300) (j := 2) (by omega) (Nat.le_refl _)
  refine fine_tuple (n := 5300) (k := 2) (fun d hd => ?_) (by decide) (by show 5302 * 2 ≤ _; decide)
  rcases List.mem_cons.mp hd with rfl | hd
  · exact (sz_int (Nat.lt_trans hm (by decide))).mono (by decide) (by decide)
  · rw [List.mem_singleton.mp hd]
    exact s3
section
variable {ss : List Nat} {T : Tr V} {o : Nat → Nat} {pr : Nat → Nat → Int}
theorem cst_most (hp : ∀ l k, 0 ≤ pr l k ∧ pr l k ≤ pMost) (D : RwT) : 0 ≤ CH.cst pr D ∧ CH.cst pr D ≤ pMost * D.length := by
  induction D with
  | nil => exact ⟨Int.le_refl 0, Int.le_refl 0⟩
  | cons p D ih =>
    have h := hp p.1 p.2
    show 0 ≤ pr p.1 p.2 + CH.cst pr D ∧ pr p.1 p.2 + CH.cst pr D ≤ pMost * ((D.length + 1 : Nat) : Int)
    unfold pMost at *
    omega
theorem due_small (gT : TGood ss.length (ksOf ss) T) (go : Good ss.length (ksOf ss) o) (h6 : ss.length ≤ 6) (h4 : ∀ l, l < ss.length → ksOf ss l ≤ 4) (hp : ∀ l k, 0 ≤ pr l k ∧ pr l k ≤ pMost) {m n : Int} (h : lcT (pricedC o pr) isTrue T = some (m, n)) :
    m.natAbs < 2 ^ 100 ∧ (fwT (pricedC o pr) isTrue o T).length ≤ 6 ∧ ∀ p ∈ fwT (pricedC o pr) isTrue o T, p.1 < ss.length ∧ p.2 < 1000 := by
  obtain ⟨⟨x, h1, h2, h3⟩, _⟩ := due_some gT go (fun l k => (hp l k).1) h
  have e1 : CH.cst pr (diffR ss.length o (wof x)) = m := congrArg PySem.W.T3.a h3
  have gx := wl_good ss h1
  have e3 : diffR ss.length o (wof x) = fwT (pricedC o pr) isTrue o T := by
    obtain ⟨_, _, e⟩ := k3_tri (show PySem.W.DatumOrd.lt (k3 _ _ _) (k3 m n (fwT (pricedC o pr) isTrue o T)) = false by rw [show k3 _ _ _ = k3 m n (fwT (pricedC o pr) isTrue o T) from h3, ← PySem.W.DatumOrd.lt_eq]; exact PySem.W.dataLt_self _) (show PySem.W.DatumOrd.lt (k3 m n (fwT (pricedC o pr) isTrue o T)) (k3 _ _ _) = false by rw [show k3 _ _ _ = k3 m n (fwT (pricedC o pr) isTrue o T) from h3, ← PySem.W.DatumOrd.lt_eq]; exact PySem.W.dataLt_self _)
    exact e
  have lD : (diffR ss.length o (wof x)).length ≤ ss.length := diffR_len
  rw [← e3, ← e1]
  obtain ⟨c0, c1⟩ := cst_most hp (diffR ss.length o (wof x))
  refine ⟨?_, by omega, fun p hp => ?_⟩
  · refine Nat.lt_of_le_of_lt (show _ ≤ 6000000000 from ?_) (by decide)
    unfold pMost at c1
    omega
  · rw [diffR_rw] at hp
    obtain ⟨_, q2, q3, _⟩ := CH.rw_mem hp
    have q2 : p.1 < ss.length := by omega
    have := gx p.1 q2
    have := h4 p.1 q2
    exact ⟨q2, by omega⟩
end
section
variable {P : Program} {w : World} {K : PySem.W.Frag} {mg : Str → Option Value} {base : Heap}
theorem ok_same2 {f : Addr} {fd : FuncData} (F : Fun K "_law_same" "_law_same" sSame f fd) (zRepr : mg "repr" = none) : FnG P w K mg base CX0 1 f fd ["_law_one", "_law_other"] (spSame2 K) := by
  refine gok F scSm (fun vs H Q E h => ?_) (fun cdv A outer s H vs Q E g hr h => ?_)
  · obtain ⟨x, y, d, e, rfl, _⟩ := h
    rfl
  · obtain ⟨x, y, d, e, rfl, h1, h2, k⟩ := h
    have hu := hr.units
    refine ⟨_, pss_one (ps_ret (pe_cmpR op_eq (pe_callB (call_repr2 g hu) (by rfl) zRepr PyProof.Rows.boot_repr (pa_cons (pv 0) pa_nil)) (pe_callB (call_repr2 g hu) (by rfl) zRepr PyProof.Rows.boot_repr (pa_cons (pv 1) pa_nil)) (nomark _))), ?_⟩
    exact ⟨_, rfl, _, d, rfl, h1, _, rfl, _, e, rfl, h2, rfl, k⟩
end
end R52
namespace R52
open PySem L2 L3 FT ND
open C8 (pss_cut tCut pe_gc)
abbrev sLaw : Stmt := top 64
abbrev NLw : List Str := ["_law_script", "_law_k", "_law_feed_here", "_law_form", "_law_made", "_law_rows", "_law_tree_here", "_law_worth_here", "_law_first", "_law_world_here", "_law_told", "_law_name", "_law_many", "_law_some_here", "_law_kept", "_law_found", "_law_option"]
def spLaw (K : PySem.W.Frag) : Sp := fun vs H Q _ => ∃ (a : Addr) (ns : List Int), vs = [.ref a] ∧ SqL K H a (ns.map V.int) ∧ ns.length ≤ 63 ∧ ∀ H', Q (.bl true) H'
structure ZLw (mg : Str → Option Value) : Prop where
  len : mg "len" = none
  rng : mg "range" = none
  max_ : mg "max" = none
  min_ : mg "min" = none
  dict : mg "dict" = none
  tup : mg "tuple" = none
section
variable {P : Program} {w : World} {K : PySem.W.Frag} {mg : Str → Option Value} {base : Heap} {CW CC C : Addr}
theorem scLa : FnScope NLw ["_law_script"] (defScope sLaw) := ⟨rfl, rfl, rfl, by decide +kernel, rfl, by decide +kernel, by decide +kernel⟩
theorem ok_law {f fF fT fS fO fH fC fD fM : Addr} {fd fdF fdT fdS fdO fdH fdC fdD fdM : FuncData} (F : Fun K "law" "law" sLaw f fd) (z : ZLw mg) (UF : Use P w K mg base "_law_feed" 1 fF fdF ["_law_script", "_law_k"] (spFeed K)) (UT : Use P w K mg base "_law_take" 1 fT fdT ["_law_feed_here", "_law_many"] spTake)
    (US : Use P w K mg base "_law_scene" 14 fS fdS ["_law_feed_here", "_law_most", "_law_form"] (spSceneF K CW CC C)) (UO : Use P w K mg base "_law_world" 2 fO fdO ["_law_feed_here", "_law_rows"] spWorldF) (UH : Use P w K mg base "_law_short" 3 fH fdH ["_law_feed_here", "_law_world_here"] spShortF)
    (UC : Use P w K mg base "cheapest" 5 fC fdC ["worth", "standing", "prices"] (spCheap CW CC C)) (UD : Use P w K mg base "_law_due" 8 fD fdD ["_law_rows", "_law_tree_here", "_law_world_here", "_law_prices"] spDueF)
    (GM : FnG P w K mg base CX0 1 fM fdM ["_law_one", "_law_other"] (spSame2 K)) (kM : PySem.W.keepIn K (.ref fM) = true) (bM : Binds K fdM ["_law_one", "_law_other"] []) (gM : mg "_law_same" = some (.ref fM)) :
    FnG P w K mg base CX0 16 f fd ["_law_script"] (spLaw K) := by
  refine gok F scLa (fun vs H Q E h => ?_) (fun cdv A outer s H vs Q' E g hr h => ?_)
  · obtain ⟨a, ns, rfl, _⟩ := h
    rfl
  · obtain ⟨s0, ns, rfl, hS, hn, k⟩ := h
    have hu := hr.units
    have nd := scLa.nd
    have gA : Calm _ := g
    refine ⟨_, pss_cons (ps_for PassesOwn.never rfl (pi_range1 (by rfl) z.rng (pa_cons (pe_callB (call_max2 rfl) (by rfl) z.max_ PyProof.Rows.boot_max (pa_cons pe_int (pa_cons (pe_callB (call_min2 rfl) (by rfl) z.min_ PyProof.Rows.boot_min (pa_cons pe_int (pa_cons (pe_callB call_len_seq (by rfl) z.len PySem.boot_len (pa_cons (pv 0) pa_nil)) pa_nil))) pa_nil))) pa_nil)) (pg_name (i := 1) nd rfl (.inl rfl))
      (pss_cons (ps_set (i := 2) nd rfl (.inr rfl) (pe_call UF.G (hr.mono (by omega)) (by rfl) UF.g UF.kp UF.b .nil pass0 (pa_cons (pv 0) (pa_cons (pv 1) pa_nil))))
      (pss_one (ps_for PassesOwn.never rfl (pi_list (pe_lst (pa_cons pe_str (pa_cons pe_str (pa_cons pe_str pa_nil))))) (pg_name (i := 3) nd rfl (.inl rfl))
        (pss_cons (ps_asg (pe_call US.G (hr.mono (by omega)) (by rfl) US.g US.kp US.b .nil pass0 (pa_cons (pv 2) (pa_cons pe_int (pa_cons (pv 3) pa_nil)))) (pg_tup (by rfl) (pgs_cons (pg_name (i := 4) nd rfl (.inl rfl)) (pgs_cons (pg_name (i := 5) nd rfl (.inl rfl)) (pgs_cons (pg_name (i := 6) nd rfl (.inl rfl)) (pgs_cons (pg_name (i := 7) nd rfl (.inl rfl)) (pgs_cons (pg_name (i := 8) nd rfl (.inl rfl)) pgs_nil)))))))
        (pss_one (ps_for PassesOwn.never rfl (pi_list (pe_lst (pa_cons (pv 8) (pa_cons (pe_call UO.G (hr.mono (by omega)) (by rfl) UO.g UO.kp UO.b .nil pass0 (pa_cons (pv 2) (pa_cons (pv 5) pa_nil))) (pa_cons (pv 8) pa_nil))))) (pg_name (i := 9) nd rfl (.inl rfl))
          (pss_cons (ps_set (i := 10) nd rfl (.inl rfl) pe_dnewK)
          (pss_cons (ps_for PassesOwn.never rfl (pi_list (pv 5)) (pg_tup (by rfl) (pgs_cons (pg_name (i := 11) nd rfl (.inl rfl)) (pgs_cons (pg_name (i := 12) nd rfl (.inl rfl)) pgs_nil)))
            (pss_cons (ps_setLc (i := 13) (own := [("_law_option", 16)]) (g := gName 16) (tt := tYes) rfl nd rfl rfl (sw_true rfl rfl rfl (by decide +kernel)) (pi_range1 (by rfl) z.rng (pa_cons (pv 12) pa_nil)) (blkOk_by (N := NLw) (sc := defScope sLaw) (by decide +kernel)) (fun _ _ _ _ _ => pg_name (i := 16) nd rfl (.inl rfl)) (fun _ _ _ _ _ => pts_nil)
              (fun _ _ _ _ _ => pe_op op_mulW (pe_call UT.G (hr.mono (by omega)) (by rfl) UT.g UT.kp UT.b .nil pass0 (pa_cons (pv 2) (pa_cons pe_int pa_nil))) (pe_ix (r := rIxL K) (by exact ix_list) (pe_lst (pa_cons pe_int (pa_cons (pe_op op_pow pe_int pe_int) pa_nil))) (pe_call UT.G (hr.mono (by omega)) (by rfl) UT.g UT.kp UT.b .nil pass0 (pa_cons (pv 2) (pa_cons pe_int pa_nil))) (fun _ _ => rfl))))
            (pss_one (ps_expr (pe_dupd (pv 10) (pe_ix (r := rIxL K) (by exact ix_list) (pe_lst (pa_cons pe_dnewK (pa_cons (pe_disp (pps_cons (pv 11) (pe_callTy call_tuple_of (by rfl) z.tup PyProof.Rows.boot_tuple (pa_cons (pv 13) pa_nil)) pps_nil) (by rfl) (by rfl) (fun z => by cases z) (by decide)) (pa_cons (pe_disp (pps_cons (pv 11) (pv 13) pps_nil) (by rfl) (by rfl) (fun z => by cases z) (by decide)) pa_nil)))) (pe_call UT.G (hr.mono (by omega)) (by rfl) UT.g UT.kp UT.b .nil pass0 (pa_cons (pv 2) (pa_cons pe_int pa_nil))) (fun _ _ => rfl)) ⟨by rfl, by rfl, by rfl, by rfl⟩)))))
          (pss_cons (ps_set (i := 14) nd rfl (.inl rfl) (pe_callTy call_dictD (by rfl) z.dict PyProof.Rows.boot_dict (pa_cons (pv 10) pa_nil)))
          (pss_cons (ps_set (i := 15) nd rfl (.inl rfl) (pe_call UC.G (hr.mono (by omega)) (by rfl) UC.g UC.kp UC.b .nil pass0 (pa_cons (pv 7) (pa_cons (pe_call UH.G (hr.mono (by omega)) (by rfl) UH.g UH.kp UH.b .nil pass0 (pa_cons (pv 2) (pa_cons (pv 9) pa_nil))) (pa_cons (pv 10) pa_nil)))))
          (pss_one (ps_if (PW.pt (pw_or (pt_not (pt_val (pe_callG GM gA (hr.mono (by omega)) (by rfl) gM kM bM .nil pass0 (pa_cons (pv 15) (pa_cons (pe_call UD.G (hr.mono (by omega)) (by rfl) UD.g UD.kp UD.b .nil pass0 (pa_cons (pv 5) (pa_cons (pv 6) (pa_cons (pv 9) (pa_cons (pv 14) pa_nil))))) pa_nil))))) (pw_or1 (pt_not (pt_val (pe_callG GM gA (hr.mono (by omega)) (by rfl) gM kM bM .nil pass0 (pa_cons (pv 10) (pa_cons (pv 14) pa_nil))))))))
            (pss_one (ps_ret pe_bl)) pss_nil)))))))))))))
      (pss_one (ps_ret pe_bl)), ?_⟩
    have lsz := sizeLine_eq
    refine ⟨_, rfl, s0, _, rfl, .inl hS, _, _, rfl, _, _, rfl, _, rfl, ?_, ?_, for_range (fun i σ H' => ∃ v1 v2 v3 v4 v5 v6 v7 v8 v9 v10 v11 v12 v13 v14 v15 v16 : Option V, σ = [some (.ref s0), v1, v2, v3, v4, v5, v6, v7, v8, v9, v10, v11, v12, v13, v14, v15, v16] ∧ Same H H')
      ⟨none, none, none, none, none, none, none, none, none, none, none, none, none, none, none, none, rfl, Same.refl H⟩ ?_ ?_⟩
    · split <;> omega
    · split <;> (try split) <;> omega
    · rintro i σ Hs hi ⟨v1, v2, v3, v4, v5, v6, v7, v8, v9, v10, v11, v12, v13, v14, v15, v16, rfl, sH⟩
      refine ⟨_, rfl, _, rfl, s0, ns, i, (by rw [Int.zero_add]; rfl), sH.seq hS, hn, ?_, fun a H1 ha S1 fd1 => ?_⟩
      · have : i < 4 := by
          refine Nat.lt_of_lt_of_le hi ?_
          split <;> (try split) <;> omega
        omega
      refine ⟨(show 3 ≤ sizeLine by decide), fun L hL => ⟨L, rfl, ⟨_, SqL.of upd_same⟩, ?_⟩⟩
      have La : L ≠ a := feed_ne fd1 hL
      have sL := same_new (o := HO.lst [V.str "truth", V.str "any", V.str "truth"]) hL
      have eL : upd H1 L (.lst [V.str "truth", V.str "any", V.str "truth"]) L = some (.lst [V.str "truth", V.str "any", V.str "truth"]) := upd_same
      have d2 := dr_same (dr_refl fd1) sL
      refine for_it (walk_list (K := K) (a := L) (xs := [V.str "truth", V.str "any", V.str "truth"])) (fun j σ H' => ∃ v1 v3 v4 v5 v6 v7 v8 v9 v10 v11 v12 v13 v14 v15 v16 : Option V, σ = [some (.ref s0), v1, some (.ref a), v3, v4, v5, v6, v7, v8, v9, v10, v11, v12, v13, v14, v15, v16] ∧ Dr a (upd H1 L (.lst [V.str "truth", V.str "any", V.str "truth"])) H')
        ⟨_, _, _, _, _, _, _, _, _, _, _, _, _, _, _, rfl, dr_refl d2.fd⟩ (fun j σ H' _ h => by
          obtain ⟨_, _, _, _, _, _, _, _, _, _, _, _, _, _, _, _, d⟩ := h
          exact SqL.of (d.sm _ _ La eL)) ?_ ?_
      · rintro j y σ H3 H3' hj ⟨v1, v3, v4, v5, v6, v7, v8, v9, v10, v11, v12, v13, v14, v15, v16, rfl, d3⟩ ⟨rfl, hy⟩
        obtain ⟨g', rfl⟩ : ∃ g' : Str, y = V.str g' := by
          have := List.mem_of_getElem? hy
          simp only [List.mem_cons, List.not_mem_nil, or_false] at this
          rcases this with e | e | e <;> exact ⟨_, e⟩
        refine ⟨_, rfl, _, rfl, a, 5, g', rfl, d3.fd, by decide, by decide, fun p c R v r d ts ss t T es nx o H4 d4 ep ln sc => ⟨p, _, rfl, SqT.of ep, rfl, _, _, rfl, _, _, rfl, _, _, rfl, _, _, rfl, _, _, rfl, rfl, ?_⟩⟩
        have few := sc.st.sc.few
        have len := sc.st.sc.len
        have gd := sc.st.sc.gd
        have sz := sc.st.sc.sz
        have k4 : ∀ l, l < ss.length → ksOf ss l ≤ 4 := fun l hl => (ksz sc.st.sc hl).2
        refine ⟨_, rfl, _, rfl, _, rfl, a, R, ts, ss, rfl, d4.fd, sc.Ra, sc.rows, len, by omega, gd, fun m hm => ⟨(sz m hm).1, by have := (sz m hm).2; omega⟩, fun e2 o2 H5 he2 d5 we2 go2 => ⟨_, rfl, (show 3 ≤ sizeLine by decide), fun W hW => ⟨W, rfl, ⟨_, SqL.of upd_same⟩, ?_⟩⟩⟩
        have sc5 := sc.dr d4.fd d5
        have Wa : W ≠ a := feed_ne d5.fd hW
        have sW := same_new (o := HO.lst [V.ref d, V.ref e2, V.ref d]) hW
        have eW : upd H5 W (.lst [V.ref d, V.ref e2, V.ref d]) W = some (.lst [V.ref d, V.ref e2, V.ref d]) := upd_same
        have sc6 := sc5.same sW
        have we6 : WAt (upd H5 W (.lst [V.ref d, V.ref e2, V.ref d])) e2 ts o2 := sW _ _ we2
        have d36 : Dr a H3' (upd H5 W (.lst [V.ref d, V.ref e2, V.ref d])) := dr_same (d4.trans d5) sW
        generalize upd H5 W (.lst [V.ref d, V.ref e2, V.ref d]) = H6 at eW sc6 we6 d36 ⊢
        refine for_it (walk_list (K := K) (a := W) (xs := [V.ref d, V.ref e2, V.ref d])) (fun j σ H' => ∃ v1 v3 v9 v10 v11 v12 v13 v14 v15 v16 : Option V, σ = [some (.ref s0), v1, some (.ref a), v3, some (.ref c), some (.ref R), some (.ref v), some (.ref r), some (.ref d), v9, v10, v11, v12, v13, v14, v15, v16] ∧ Dr a H6 H')
          ⟨_, _, _, _, _, _, _, _, _, _, rfl, dr_refl d36.fd⟩ (fun j σ H' _ ⟨_, _, _, _, _, _, _, _, _, _, _, d⟩ => SqL.of (d.sm _ _ Wa eW)) ?_ ?_
        · rintro j2 y2 σ H7 H7' hj2 ⟨v1, v3, v9, v10, v11, v12, v13, v14, v15, v16, rfl, d7⟩ ⟨rfl, hy2⟩
          obtain ⟨dw, ow, rfl, ww, gow⟩ : ∃ (dw : Addr) (ow : Nat → Nat), y2 = V.ref dw ∧ WAt H6 dw ts ow ∧ Good ss.length (ksOf ss) ow := by
            have := List.mem_of_getElem? hy2
            simp only [List.mem_cons, List.not_mem_nil, or_false] at this
            rcases this with e | e | e
            · exact ⟨d, o, e, sc6.wd, sc6.go⟩
            · exact ⟨e2, o2, e, we6, go2⟩
            · exact ⟨d, o, e, sc6.wd, sc6.go⟩
          have sc7 := sc6.dr d36.fd d7
          have ww7 : WAt H7' dw ts ow := WAt.dr d36.fd d7 ww
          refine fun q hq => ?_
          have qa : q ≠ a := feed_ne d7.fd hq
          have sq := same_new (o := HO.dK []) hq
          have eq : upd H7' q (.dK []) q = some (.dK []) := upd_same
          have d8 : Dr a H7' (upd H7' q (.dK [])) := dr_same (dr_refl d7.fd) sq
          obtain ⟨us, eR, lu, au⟩ := id sc7.rows
          have Ra := sc7.Ra
          refine ⟨_, rfl, R, rfl, ⟨_, SqL.of (d8.sm _ _ Ra eR)⟩, for_it (walk_list (K := K) (a := R) (xs := us.map V.ref)) (fun n σ H' => ∃ (v1 v3 v11 v12 v13 v14 v15 v16 : Option V) (E : Nat → Option Addr) (X : Nat → List Int), σ = [some (.ref s0), v1, some (.ref a), v3, some (.ref c), some (.ref R), some (.ref v), some (.ref r), some (.ref d), some (.ref dw), some (.ref q), v11, v12, v13, v14, v15, v16] ∧ Dr a H7' H' ∧ Told H' a q ts ss n E X)
            ⟨_, _, _, _, _, _, _, _, fun _ => none, fun _ => [], rfl, d8, ⟨eq, fun l b e => nomatch e⟩⟩ (fun n σ H' _ h => by
              obtain ⟨_, _, _, _, _, _, _, _, _, _, _, d, _⟩ := h
              exact SqL.of (d.sm _ _ Ra eR)) ?_ ?_⟩
          · rintro n y σ H8 H8' hn' ⟨v1, v3, v11, v12, v13, v14, v15, v16, E, X, rfl, d8, tl⟩ ⟨rfl, hy⟩
            rw [List.length_map] at hn'
            replace hy : (us.map V.ref)[n]? = some y := hy
            rw [List.getElem?_map, List.getElem?_eq_getElem hn'] at hy
            cases hy
            obtain ⟨t', m, et, em, eu⟩ := au n us[n] (List.getElem?_eq_getElem hn')
            have mm := sz m (List.mem_of_getElem? em)
            have enm : nmOf ts n = t' := by
              unfold nmOf
              rw [List.getD_eq_getElem?_getD, et]
              rfl
            have eks : ksOf ss n = m := by
              unfold ksOf
              rw [List.getD_eq_getElem?_getD, em]
              rfl
            subst enm
            have na : us[n] ≠ a := fun z => feed_tup d7.fd _ (by rw [← z]; exact eu)
            refine ⟨us[n], _, rfl, SqT.of (d8.sm _ _ na eu), rfl, _, _, rfl, _, _, rfl, rfl, ?_⟩
            refine ⟨_, rfl, ((m : Nat) : Int), rfl, by omega, by omega, fun G hG => ?_⟩
            have Ga : G ≠ a := feed_ne d8.fd hG
            refine lc_range (lo := 0) (n := ((m : Nat) : Int).toNat) (fun k H' => Dr a H8' H' ∧ ∃ xs : List Int, H' G = some (.lst (xs.map V.int)) ∧ xs.length = k ∧ ∀ x ∈ xs, 0 ≤ x ∧ x ≤ pMost)
              ⟨dr_put Ga hG (dr_refl d8.fd), [], upd_same, rfl, fun x h => (nomatch h)⟩ ?_ ?_
            · rintro k H9 hk ⟨d9, xs, eG, lx, bx⟩
              refine ⟨rfl, _, rfl, a, 4, rfl, d9.fd, by decide, by decide, fun r1 H10 r10 r11 d10 => ⟨_, _, rfl, rfl, ⟨by decide, by decide, by decide⟩, (show 2 ≤ sizeLine by decide), fun Z hZ => ?_⟩⟩
              have Za : Z ≠ a := feed_ne d10.fd hZ
              have sZ := same_new (o := HO.lst [V.int 1, V.int 100000000]) hZ
              have eZ : upd H10 Z (.lst [V.int 1, V.int 100000000]) Z = some (.lst [V.int 1, V.int 100000000]) := upd_same
              have d11 := dr_same d10 sZ
              refine ⟨_, rfl, a, 2, rfl, d11.fd, by decide, by decide, fun q1 H12 q10 q11 d12 => ?_⟩
              obtain ⟨x, e, mx⟩ := at_mem (xs := [(1 : Int), 100000000]) q10 q11
              have eat : atI [V.int 1, V.int 100000000] q1 = some (.int x) := by
                obtain ⟨j, rfl⟩ : ∃ j : Nat, q1 = ((j : Nat) : Int) := ⟨q1.toNat, by omega⟩
                have : j = 0 ∨ j = 1 := by omega
                rcases this with rfl | rfl
                · have e' : atI [(1 : Int), 100000000] ((0 : Nat) : Int) = some 1 := atI_nat rfl
                  rw [e'] at e
                  cases e
                  exact atI_nat rfl
                · have e' : atI [(1 : Int), 100000000] ((1 : Nat) : Int) = some 100000000 := atI_nat rfl
                  rw [e'] at e
                  cases e
                  exact atI_nat rfl
              have bx1 : 1 ≤ x ∧ x ≤ 100000000 := by
                simp only [List.mem_cons, List.not_mem_nil, or_false] at mx
                rcases mx with rfl | rfl <;> exact ⟨by decide, by decide⟩
              refine ⟨Z, _, _, _, rfl, rfl, SqL.of (d12.sm _ _ Za eZ), eat, _, _, rfl, rfl, Sm.mulW (n := 5) (m := 30) (by show r1.natAbs < 32; omega) (by show x.natAbs < 2 ^ 30; omega) (by decide) (by decide) (by decide), ?_⟩
              have d912 : Dr a H9 H12 := d11.trans d12
              refine ⟨_, d912.sm _ _ Ga eG, by rw [List.length_map]; omega, dr_put Ga hG (d9.trans d912), xs ++ [r1 * x], by rw [upd_same, List.map_append]; rfl, by rw [List.length_append, lx]; rfl, fun y hy => ?_⟩
              rcases List.mem_append.mp hy with hy | hy
              · exact bx y hy
              · rw [List.mem_singleton.mp hy]
                have r3 : r1 = 0 ∨ r1 = 1 ∨ r1 = 2 ∨ r1 = 3 := by omega
                unfold pMost
                rcases r3 with rfl | rfl | rfl | rfl <;> omega
            rintro H9 ⟨d9, xs, eG, lx, bx⟩
            rw [show ((m : Nat) : Int).toNat = m by omega] at lx
            have tl9 := tl.keep qa d9.sm
            have d79 := d8.trans d9
            refine ⟨_, rfl, q, rfl, .inl ⟨_, .inl tl9.at_⟩, fun D0 hD0 D1 hD1 => ?_⟩
            have s0' := same_new (o := HO.dK []) hD0
            have s1' := same_new (o := HO.dK []) hD1
            have eG1 := s1' _ _ (s0' _ _ eG)
            refine ⟨_, rfl, _, rfl, G, _, rfl, .inl ⟨SqL.of eG1, fun Tp hTp => ⟨?_, [(Sum.inr (nmOf ts n), .ref Tp)], rfl, (show 1 ≤ 15 by decide), fun D2 hD2 => ⟨_, rfl, _, rfl, ?_, [(Sum.inr (nmOf ts n), .ref G)], rfl, (show 1 ≤ 15 by decide), (show 3 ≤ sizeLine by decide), fun Z hZ => ?_⟩⟩⟩⟩
            · exact same_new hTp _ _ upd_same
            · exact upd_same
            have sT := same_new (o := HO.tup (xs.map V.int)) hTp
            have eT : (upd (upd (upd H9 D0 (.dK [])) D1 (.dK [])) Tp (.tup (xs.map V.int))) Tp = some (.tup (xs.map V.int)) := upd_same
            have e0 : (upd (upd (upd H9 D0 (.dK [])) D1 (.dK [])) Tp (.tup (xs.map V.int))) D0 = some (.dK []) := sT _ _ (s1' _ _ upd_same)
            have eGc := sT _ _ eG1
            have s9c : Same H9 (upd (upd (upd H9 D0 (.dK [])) D1 (.dK [])) Tp (.tup (xs.map V.int))) := s0'.trans (s1'.trans sT)
            have e1 : (upd (upd (upd H9 D0 (.dK [])) D1 (.dK [])) Tp (.tup (xs.map V.int))) D1 = some (.dK []) := sT _ _ upd_same
            have n1 : H9 D1 = none := s0'.free hD1
            have n01 : D0 ≠ D1 := fun z => by
              have e : upd H9 D0 (HO.dK []) D0 = some (.dK []) := upd_same
              rw [z] at e
              rw [z, e] at hD1
              cases hD1
            generalize upd (upd (upd H9 D0 (.dK [])) D1 (.dK [])) Tp (.tup (xs.map V.int)) = Hc at eT e0 eGc s9c e1 hD2 hZ ⊢
            have kd : ∀ b u, b ≠ D1 → Hc b = some u → upd Hc D1 (.dK (mergeK [] [(Sum.inr (nmOf ts n), V.ref Tp)])) b = some u := fun b u nb e => by rw [upd_ne nb]; exact e
            have s9d : Same H9 (upd Hc D1 (.dK (mergeK [] [(Sum.inr (nmOf ts n), V.ref Tp)]))) := fun b u e => kd b u (fun z => by rw [z, n1] at e; cases e) (s9c _ _ e)
            have eTd := kd _ _ (fun z => by rw [z, e1] at eT; cases eT) eT
            have eGd := kd _ _ (fun z => by rw [z, e1] at eGc; cases eGc) eGc
            have e0d := kd _ _ n01 e0
            have e1d : upd Hc D1 (.dK (mergeK [] [(Sum.inr (nmOf ts n), V.ref Tp)])) D1 = some (.dK [(Sum.inr (nmOf ts n), V.ref Tp)]) := upd_same
            generalize upd Hc D1 (.dK (mergeK [] [(Sum.inr (nmOf ts n), V.ref Tp)])) = Hd at s9d eTd eGd e0d e1d hD2 hZ ⊢
            have sdf : Same Hd (upd (upd Hd D2 (.dK [])) D2 (.dK (mergeK [] [(Sum.inr (nmOf ts n), V.ref G)]))) := fun b u e => by
              rw [upd_ne (ne_of_none e hD2), upd_ne (ne_of_none e hD2)]
              exact e
            have e2f : upd (upd Hd D2 (.dK [])) D2 (.dK (mergeK [] [(Sum.inr (nmOf ts n), V.ref G)])) D2 = some (.dK [(Sum.inr (nmOf ts n), V.ref G)]) := upd_same
            generalize upd (upd Hd D2 (.dK [])) D2 (.dK (mergeK [] [(Sum.inr (nmOf ts n), V.ref G)])) = Hf at sdf e2f hZ ⊢
            have sZ := same_new (o := HO.lst [V.ref D0, V.ref D1, V.ref D2]) hZ
            have eZ : upd Hf Z (.lst [V.ref D0, V.ref D1, V.ref D2]) Z = some (.lst [V.ref D0, V.ref D1, V.ref D2]) := upd_same
            have s9g := s9d.trans (sdf.trans sZ)
            have d9g : Dr a H9 (upd Hf Z (.lst [V.ref D0, V.ref D1, V.ref D2])) := dr_same (dr_refl d9.fd) s9g
            have Za : Z ≠ a := feed_ne (dr_same (dr_refl d9.fd) (s9d.trans sdf)).fd hZ
            have nTa : Tp ≠ a := feed_ne (dr_same (dr_refl d9.fd) (s0'.trans s1')).fd hTp
            have n0a : D0 ≠ a := feed_ne d9.fd hD0
            have n1a : D1 ≠ a := feed_ne d9.fd n1
            have n2a : D2 ≠ a := feed_ne (dr_same (dr_refl d9.fd) s9d).fd hD2
            have nq : ∀ {b : Addr}, H9 b = none → q ≠ b := fun e z => by rw [← z, tl9.at_] at e; cases e
            have nq2 : q ≠ D2 := fun z => by
              have := s9d _ _ tl9.at_
              rw [z, hD2] at this
              cases this
            refine ⟨_, rfl, a, 3, rfl, d9g.fd, by decide, by decide, fun r3 Hh r30 r31 dh => ?_⟩
            have d9h := d9g.trans dh
            have tlh := tl9.keep qa d9h.sm
            have szk := tkv_len (nm := nmOf ts) (E := E) (i := n)
            have hnt : n < ts.length := by omega
            have eTh := dh.sm _ _ nTa (sZ _ _ (sdf _ _ eTd))
            have eGh := dh.sm _ _ Ga (sZ _ _ (sdf _ _ eGd))
            obtain ⟨j3, rfl⟩ : ∃ j : Nat, r3 = ((j : Nat) : Int) := ⟨r3.toNat, by omega⟩
            have : j3 = 0 ∨ j3 = 1 ∨ j3 = 2 := by omega
            rcases this with rfl | rfl | rfl
            · refine ⟨Z, _, _, .ref D0, rfl, rfl, SqL.of (dh.sm _ _ Za eZ), (by exact atI_nat rfl), D0, _, _, rfl, nq hD0, tlh.at_, dh.sm _ _ n0a (sZ _ _ (sdf _ _ e0d)), (by rw [List.length_nil]; omega), ?_⟩
              exact ⟨_, _, _, _, _, _, _, _, _, _, rfl, dr_put qa hq (d79.trans d9h), tlh.step0⟩
            · refine ⟨Z, _, _, .ref D1, rfl, rfl, SqL.of (dh.sm _ _ Za eZ), (by exact atI_nat rfl), D1, _, _, rfl, nq n1, tlh.at_, dh.sm _ _ n1a (sZ _ _ (sdf _ _ e1d)), (by rw [List.length_singleton]; omega), ?_⟩
              exact ⟨_, _, _, _, _, _, _, _, _, _, rfl, dr_put qa hq (d79.trans d9h), tlh.step1 gd.1 hnt nTa (.inr eTh) (by rw [lx, eks]) bx⟩
            · refine ⟨Z, _, _, .ref D2, rfl, rfl, SqL.of (dh.sm _ _ Za eZ), (by exact atI_nat rfl), D2, _, _, rfl, nq2, tlh.at_, dh.sm _ _ n2a (sZ _ _ e2f), (by rw [List.length_singleton]; omega), ?_⟩
              exact ⟨_, _, _, _, _, _, _, _, _, _, rfl, dr_put qa hq (d79.trans d9h), tlh.step1 gd.1 hnt Ga (.inl eGh) (by rw [lx, eks]) bx⟩
          · rintro σ H8 ⟨v1, v3, v11, v12, v13, v14, v15, v16, E, X, rfl, d8, tl⟩
            rw [List.length_map, show us.length = ts.length by omega] at tl
            refine ⟨_, rfl, q, _, rfl, .inl tl.at_, fun p hp => ?_⟩
            have pa : p ≠ a := feed_ne d8.fd hp
            have sp := same_new (o := HO.dK (tkv (nmOf ts) E ts.length)) hp
            have ep9 : upd H8 p (.dK (tkv (nmOf ts) E ts.length)) p = some (.dK (tkv (nmOf ts) E ts.length)) := upd_same
            have d89 : Dr a H8 (upd H8 p (.dK (tkv (nmOf ts) E ts.length))) := dr_same (dr_refl d8.fd) sp
            generalize upd H8 p (.dK (tkv (nmOf ts) E ts.length)) = H9 at ep9 d89 ⊢
            have ww9 : WAt H9 dw ts ow := WAt.dr d7.fd (d8.trans d89) ww7
            refine ⟨_, rfl, _, rfl, _, rfl, a, dw, ts, ow, rfl, d89.fd, ww9, by omega, gd, fun sd H10 hsd d10 sh => ?_⟩
            have d710 := (d8.trans d89).trans d10
            have sc10 := sc7.dr d7.fd d710
            have tl10 := tl.keep qa (d89.trans d10).sm
            have ep10 := d10.sm _ _ pa ep9
            have pr0 := tl10.pr
            have done : ∀ (H12 : Hp) (x y : V) (dd : PyData), Same H10 H12 → RpAt K H12 x dd → RpAt K H12 y dd → True := fun _ _ _ _ _ _ _ => trivial
            have fin : ∀ (H12 : Hp) (Qn : Prop), Same H10 H12 → (Dr a H6 H12 → Qn) → Qn := fun H12 Qn s h => h (dr_same (d7.trans d710) s)
            have two : ∀ H12 : Hp, Same H10 H12 → ∃ d', RpAt K H12 (.ref q) d' ∧ RpAt K H12 (.ref p) d' := fun H12 s => by
              have tl12 : Told H12 a q ts ss ts.length E X := tl10.keep qa fun b o _ e => s _ _ e
              obtain ⟨d', hd'⟩ := tl12.rp (K := K) gd (Nat.le_refl _) (by omega) (fun l hl => k4 l (by omega))
              exact ⟨d', hd' q tl12.at_, hd' p (s _ _ ep10)⟩
            obtain ⟨nt, nt4, tk⟩ := sc10.tk
            refine ⟨_, rfl, r, sd, q, c, ts, ss, es, nx, T, ow, prT E X, rfl, sc10.st, sc10.wo, sc10.gT, sh, gow, tl10.prices gd.1 tl10.at_, fun H11 hN s11 => ?_, fun fa fb m n' H11 hL hfa s11 efa pfa => ?_⟩
            · have sc11 := sc10.same s11
              have tl11 : Told H11 a q ts ss ts.length E X := tl10.keep qa fun b o _ e => s11 _ _ e
              refine ⟨_, rfl, _, rfl, _, rfl, _, rfl, _, rfl, R, v, dw, p, t, _, nt, g', ts, ss, T, ow, prT E X, rfl, sc11.rows, sc11.st.sc, sc11.tr, tk, sc11.gT, sc11.eT, s11 _ _ (d10.sm _ _ (fun z => by rw [z] at ww9; obtain ⟨_, _, e, _⟩ := d89.fd; have w9 : H9 a = _ := ww9; rw [e] at w9; cases w9) ww9), gow, tl11.prices gd.1 (s11 _ _ ep10), fun l k => (pr0 l k).1, fun H12 _ s12 => ?_, fun _ _ m n' _ hL => (by rw [hN] at hL; cases hL)⟩
              refine ⟨.non, .non, .none, .none, rfl, .inl ⟨.non, trivial⟩, .inl ⟨.non, trivial⟩, _, rfl, ifF (by rw [decide_eq_true rfl]; rfl) ?_⟩
              obtain ⟨d', rq, rp⟩ := two H12 (s11.trans s12)
              refine ⟨_, rfl, _, rfl, .ref q, .ref p, d', d', rfl, rq, rp, _, rfl, ifF (by rw [decide_eq_true rfl]; rfl) ?_⟩
              exact ⟨_, _, _, _, _, _, _, _, _, _, rfl, dr_same (d7.trans d710) (s11.trans s12)⟩
            · have sc11 := sc10.same s11
              have tl11 : Told H11 a q ts ss ts.length E X := tl10.keep qa fun b o _ e => s11 _ _ e
              obtain ⟨b1, b2, b3⟩ := due_small sc11.gT gow few k4 pr0 hL
              refine ⟨_, rfl, _, rfl, _, rfl, _, rfl, _, rfl, R, v, dw, p, t, _, nt, g', ts, ss, T, ow, prT E X, rfl, sc11.rows, sc11.st.sc, sc11.tr, tk, sc11.gT, sc11.eT, s11 _ _ (d10.sm _ _ (fun z => by rw [z] at ww9; obtain ⟨_, _, e, _⟩ := d89.fd; have w9 : H9 a = _ := ww9; rw [e] at w9; cases w9) ww9), gow, tl11.prices gd.1 (s11 _ _ ep10), fun l k => (pr0 l k).1, fun H12 hN _ => (by rw [hN] at hL; cases hL), fun ga gb m2 n2 H12 hL2 hga s12 ega pga => ?_⟩
              rw [hL] at hL2
              cases hL2
              have b3' : ∀ p ∈ fwT (pricedC ow (prT E X)) isTrue ow T, p.1 < ts.length ∧ p.2 < 1000 := fun p hp => ⟨by have := (b3 p hp).1; omega, (b3 p hp).2⟩
              refine ⟨.ref fa, .ref ga, _, _, rfl, ans_rp gd b1 b3' (by omega) (s12 _ _ efa) (pfa.same s12), ans_rp gd b1 b3' (by omega) ega pga, _, rfl, ifF (by rw [decide_eq_true rfl]; rfl) ?_⟩
              obtain ⟨d', rq, rp⟩ := two H12 (s11.trans s12)
              refine ⟨_, rfl, _, rfl, .ref q, .ref p, d', d', rfl, rq, rp, _, rfl, ifF (by rw [decide_eq_true rfl]; rfl) ?_⟩
              exact ⟨_, _, _, _, _, _, _, _, _, _, rfl, dr_same (d7.trans d710) (s11.trans s12)⟩
        · rintro σ H7 ⟨v1, v3, v9, v10, v11, v12, v13, v14, v15, v16, rfl, d7⟩
          exact ⟨_, _, _, _, _, _, _, _, _, _, _, _, _, _, _, rfl, d3.trans (d36.trans d7)⟩
      · rintro σ H3 ⟨v1, v3, v4, v5, v6, v7, v8, v9, v10, v11, v12, v13, v14, v15, v16, rfl, d3⟩
        refine ⟨_, _, _, _, _, _, _, _, _, _, _, _, _, _, _, _, rfl, fun y u e => d3.sm y u (fun z => ?_) (sL _ _ (S1 _ _ (sH _ _ e)))⟩
        rw [z] at e
        exact absurd ((sH _ _ e).symm.trans ha) (fun h => nomatch h)
    · rintro σ H' ⟨v1, v2, v3, v4, v5, v6, v7, v8, v9, v10, v11, v12, v13, v14, v15, v16, rfl, s'⟩
      exact k H'
end
end R52
namespace R52
open PySem L2 L3 FT ND
open PySem.HandSPX (refsVE)
section
variable {P : Program} {K : PySem.W.Frag} {mg : Str → Option Value} {C f cc cda : Addr} {kV doc pm ct : Value} {an : Option Addr} {nm q : Str} {N : Addr} {bs bm : List Value} {sn : List Str} {sub : List Value} {ab : Bool} {col : Option Bool} {dd : Option Addr} {k0 k1 k2 k3 k5 : Option Value}
abbrev st0 : Stmt := inClass (top 37) 0
abbrev fn0 (kV doc pm : Value) (an : Option Addr) (cda : Addr) (ct : Value) (cc : Addr) : FuncData := initFn "InvalidName.__init__" (defArgs st0) (defBody st0) (defScope st0) .none kV doc pm an cda ct cc
theorem err0 (I : InK K P C f cc cda (fn0 kV doc pm an cda ct cc) "InvalidName.__init__") (hs : supB K C f "ValueError" "ValueError.__init__" ["name"] = true) (he : excB K C = true) (hC : K.lookup C = some (PySem.excClassObj nm q C N bs bm true sn sub ab col dd k0 k1 k2 k3 k5 "ValueError.__new__")) (hb : refsVE bm = true) (noS : mg "super" = none) (g : mg "InvalidName" = some (.ref C)) :
    ErrF P K mg C f "InvalidName" ["name"] := by
  have S := supB_ok hs
  obtain ⟨E, X⟩ := excB_ok he
  have V := over_of hC hb
  have St : Sto K C := sto_ve V S.sa
  have M := supK_of I S hC St noS
  exact ⟨g, fun w => init1 (initF_of PySem.F.excBase_ValueError.toExcCallFacts) PySem.W.kxs_ValueError M rfl (S.no _ (by simp)) rfl rfl rfl rfl rfl rfl rfl rfl (by decide +kernel) (by decide +kernel) (by decide +kernel) (fun _ _ => rfl) (fun _ => rfl) (fun _ => rfl) (fun _ => rfl) (fun _ => rfl),
    ⟨"ValueError", _, _, _, bm, PySem.F.excBase_ValueError, above_ve hb, nm, q, N, bs, true, sn, sub, ab, col, dd, k0, k1, k2, k3, k5, hC⟩, S.kC, S.iC, S.tI, E, X, S.no⟩
abbrev st5 : Stmt := inClass (top 39) 0
abbrev fn5 (kV doc pm : Value) (an : Option Addr) (cda : Addr) (ct : Value) (cc : Addr) : FuncData := initFn "Taken.__init__" (defArgs st5) (defBody st5) (defScope st5) .none kV doc pm an cda ct cc
theorem err5 (I : InK K P C f cc cda (fn5 kV doc pm an cda ct cc) "Taken.__init__") (hs : supB K C f "ValueError" "ValueError.__init__" ["name"] = true) (he : excB K C = true) (hC : K.lookup C = some (PySem.excClassObj nm q C N bs bm true sn sub ab col dd k0 k1 k2 k3 k5 "ValueError.__new__")) (hb : refsVE bm = true) (noS : mg "super" = none) (g : mg "Taken" = some (.ref C)) :
    ErrF P K mg C f "Taken" ["name"] := by
  have S := supB_ok hs
  obtain ⟨E, X⟩ := excB_ok he
  have V := over_of hC hb
  have St : Sto K C := sto_ve V S.sa
  have M := supK_of I S hC St noS
  exact ⟨g, fun w => init1 (initF_of PySem.F.excBase_ValueError.toExcCallFacts) PySem.W.kxs_ValueError M rfl (S.no _ (by simp)) rfl rfl rfl rfl rfl rfl rfl rfl (by decide +kernel) (by decide +kernel) (by decide +kernel) (fun _ _ => rfl) (fun _ => rfl) (fun _ => rfl) (fun _ => rfl) (fun _ => rfl),
    ⟨"ValueError", _, _, _, bm, PySem.F.excBase_ValueError, above_ve hb, nm, q, N, bs, true, sn, sub, ab, col, dd, k0, k1, k2, k3, k5, hC⟩, S.kC, S.iC, S.tI, E, X, S.no⟩
abbrev st13 : Stmt := inClass (top 40) 0
abbrev fn13 (kV doc pm : Value) (an : Option Addr) (cda : Addr) (ct : Value) (cc : Addr) : FuncData := initFn "UnknownName.__init__" (defArgs st13) (defBody st13) (defScope st13) .none kV doc pm an cda ct cc
theorem err13 (I : InK K P C f cc cda (fn13 kV doc pm an cda ct cc) "UnknownName.__init__") (hs : supB K C f "KeyError" "KeyError.__init__" ["name"] = true) (he : excB K C = true) (hC : K.lookup C = some (PySem.excClassObj nm q C N bs keTail true sn sub ab col dd k0 k1 k2 k3 k5 "LookupError.__new__")) (noS : mg "super" = none) (g : mg "UnknownName" = some (.ref C)) :
    ErrF P K mg C f "UnknownName" ["name"] := by
  have S := supB_ok hs
  obtain ⟨E, X⟩ := excB_ok he
  have St : Sto K C := sto_ke hC S.sa
  have M := supK_of I S hC St noS
  exact ⟨g, fun w => init1 initF_KeyError kxs_KeyError M rfl (S.no _ (by simp)) rfl rfl rfl rfl rfl rfl rfl rfl (by decide +kernel) (by decide +kernel) (by decide +kernel) (fun _ _ => rfl) (fun _ => rfl) (fun _ => rfl) (fun _ => rfl) (fun _ => rfl),
    ⟨"LookupError", _, _, _, keTail, PySem.F.excBase_LookupError, above_ke, nm, q, N, bs, true, sn, sub, ab, col, dd, k0, k1, k2, k3, k5, hC⟩, S.kC, S.iC, S.tI, E, X, S.no⟩
end
end R52
namespace R52
open PySem L2 L3 FT ND
theorem all_mk {l : PySem.W.OpenLaw} {w : World} {K : PySem.W.Frag} {h : Heap} {mg : Str → Option Value} {fa C CF CW pB dK aS0 aS1 aS2 aS3 aS4 aS5 aS6 aS7 aS8 c0 f0 da0 cc0 N0 c5 f5 da5 cc5 N5 c13 f13 da13 cc13 N13 fI fP fW fHa fLe fE fGc fFu fFi fWi fWj fLi fOe fBy fN fD fCh fKd fIs fRk fIo fCo fBr fIc fDr fJo fUp fBe fCb fPk fWk fPc fTe fFw fLc fCw fCp fF fT fMi fNm fSo fVa fTr fAt fLw fWs fWo fSh fRo fNa fM fSc fDu fZ : Addr} {tL tD tM tk0_0 tk1_0 tk2_0 tk3_0 tk4_0 tk5_0 tk5_1 tk6_0 tk6_1 tk6_2 tk7_0 tk8_0 : Tok} {nS0 nS1 nS2 nS3 nS4 nS5 nS6 nS7 nS8 : Nat} {odpB odS0 odS1 odS2 odS3 odS4 odS5 odS6 odS7 odS8 od0 an0 odD0 odC0 dd0 od5 an5 odD5 odC5 dd5 od13 an13 odD13 odC13 dd13 odI anI odP anP odW anW odHa anHa odLe anLe odE anE odGc anGc odFu anFu odFi anFi odWi anWi odWj anWj odLi anLi odOe anOe odBy anBy odN anN odD anD odCh anCh odKd anKd odIs anIs odRk anRk odIo anIo odCo anCo odBr anBr odIc anIc odDr anDr odJo anJo odUp anUp odBe anBe odCb anCb odPk anPk odWk anWk odPc anPc odTe anTe odFw anFw odLc anLc odCw anCw odCp anCp odF anF odT anT odMi anMi odNm anNm odSo anSo odVa anVa odTr anTr odAt anAt odLw anLw odWs anWs odWo anWo odSh anSh odRo anRo odNa anNa odM anM odSc anSc odDu anDu odZ anZ : Option Addr} {slpB slS0 slS1 slS2 slS3 slS4 slS5 slS6 slS7 slS8 sl0 slD0 slC0 sl5 slD5 slC5 sl13 slD13 slC13 slI slP slW slHa slLe slE slGc slFu slFi slWi slWj slLi slOe slBy slN slD slCh slKd slIs slRk slIo slCo slBr slIc slDr slJo slUp slBe slCb slPk slWk slPc slTe slFw slLc slCw slCp slF slT slMi slNm slSo slVa slTr slAt slLw slWs slWo slSh slRo slNa slM slSc slDu slZ : Array (Option Value)} {vspB vs0 vs5 vs13 : Array Value} {oc0 kV0 dc0 pm0 ct0 ocD0 ocC0 oc5 kV5 dc5 pm5 ct5 ocD5 ocC5 oc13 kV13 dc13 pm13 ct13 ocD13 ocC13 ocI kVI dcI pmI cdI ctI ocP kVP dcP pmP cdP ctP ocW kVW dcW pmW cdW ctW ocHa kVHa dcHa pmHa cdHa ctHa ocLe kVLe dcLe pmLe cdLe ctLe ocE kVE dcE pmE cdE ctE ocGc kVGc dcGc pmGc cdGc ctGc ocFu kVFu dcFu pmFu cdFu ctFu ocFi kVFi dcFi pmFi cdFi ctFi ocWi kVWi dcWi pmWi cdWi ctWi ocWj kVWj dcWj pmWj cdWj ctWj ocLi kVLi dcLi pmLi cdLi ctLi ocOe kVOe dcOe pmOe cdOe ctOe ocBy kVBy dcBy pmBy cdBy ctBy ocN kVN dcN pmN cdN ctN ocD kVD dcD pmD cdD ctD ocCh kVCh dcCh pmCh cdCh ctCh ocKd kVKd dcKd pmKd cdKd ctKd ocIs kVIs dcIs pmIs cdIs ctIs ocRk kVRk dcRk pmRk cdRk ctRk ocIo kVIo dcIo pmIo cdIo ctIo ocCo kVCo dcCo pmCo cdCo ctCo ocBr kVBr dcBr pmBr cdBr ctBr ocIc kVIc dcIc pmIc cdIc ctIc ocDr kVDr dcDr pmDr cdDr ctDr ocJo kVJo dcJo pmJo cdJo ctJo ocUp kVUp dcUp pmUp cdUp ctUp ocBe kVBe dcBe pmBe cdBe ctBe ocCb kVCb dcCb pmCb cdCb ctCb ocPk kVPk dcPk pmPk cdPk ctPk ocWk kVWk dcWk pmWk cdWk ctWk ocPc kVPc dcPc pmPc cdPc ctPc ocTe kVTe dcTe pmTe cdTe ctTe ocFw kVFw dcFw pmFw cdFw ctFw ocLc kVLc dcLc pmLc cdLc ctLc ocCw kVCw dcCw pmCw cdCw ctCw ocCp kVCp dcCp pmCp cdCp ctCp ocF kVF dcF pmF cdF ctF ocT kVT dcT pmT cdT ctT ocMi kVMi dcMi pmMi cdMi ctMi ocNm kVNm dcNm pmNm cdNm ctNm ocSo kVSo dcSo pmSo cdSo ctSo ocVa kVVa dcVa pmVa cdVa ctVa ocTr kVTr dcTr pmTr cdTr ctTr ocAt kVAt dcAt pmAt cdAt ctAt ocLw kVLw dcLw pmLw cdLw ctLw ocWs kVWs dcWs pmWs cdWs ctWs ocWo kVWo dcWo pmWo cdWo ctWo ocSh kVSh dcSh pmSh cdSh ctSh ocRo kVRo dcRo pmRo cdRo ctRo ocNa kVNa dcNa pmNa cdNa ctNa ocM kVM dcM pmM cdM ctM ocSc kVSc dcSc pmSc cdSc ctSc ocDu kVDu dcDu pmDu cdDu ctDu ocZ kVZ dcZ pmZ cdZ ctZ : Value} {file0 nm0 q0 file5 nm5 q5 file13 nm13 q13 : Str} {tf0 tf5 tf13 : Tok} {restB bs0 bm0 sub0 bs5 bm5 sub5 bs13 sub13 : List Value} {sn0 sn5 sn13 : List Str} {ab0 ab5 ab13 : Bool} {col0 col5 col13 : Option Bool} {k00 k10 k20 k30 k50 k05 k15 k25 k35 k55 k013 k113 k213 k313 k513 : Option Value} (X : K.In h) (G : h.Ns mainGlobals mg) (hfa : mg "law" = some (.ref fa))
    (a0 : PySem.W.nsIn K mainGlobals "InvalidName" = some (some (.ref c0)))
    (n0 : PySem.W.findIn K (.ref c0) "__init__" = some (some (.ref f0)))
    (l0 : K.lookup f0 = some ⟨oc0, od0, .func (fn0 kV0 dc0 pm0 an0 da0 ct0 cc0), sl0⟩)
    (o0 : K.lookup da0 = some ⟨ocD0, odD0, .fields vs0, slD0⟩)
    (v0 : vs0[2]? = some (.str file0 tf0))
    (p0 : ((l.prog.main.file : Str) == file0) = true)
    (d0 : PySem.W.codeIn K (.ref da0) "InvalidName.__init__" = true)
    (x0 : K.lookup cc0 = some ⟨ocC0, odC0, .cell (some (.ref c0)), slC0⟩)
    (h0 : K.lookup c0 = some (PySem.excClassObj nm0 q0 c0 N0 bs0 bm0 true sn0 sub0 ab0 col0 dd0 k00 k10 k20 k30 k50 "ValueError.__new__"))
    (r0 : PySem.HandSPX.refsVE bm0 = true)
    (s0 : supB K c0 f0 "ValueError" "ValueError.__init__" ["name"] = true)
    (e0 : excB K c0 = true)
    (t0 : PySem.W.typeIn K (.ref c0) = some (.type "type"))
    (a5 : PySem.W.nsIn K mainGlobals "Taken" = some (some (.ref c5)))
    (n5 : PySem.W.findIn K (.ref c5) "__init__" = some (some (.ref f5)))
    (l5 : K.lookup f5 = some ⟨oc5, od5, .func (fn5 kV5 dc5 pm5 an5 da5 ct5 cc5), sl5⟩)
    (o5 : K.lookup da5 = some ⟨ocD5, odD5, .fields vs5, slD5⟩)
    (v5 : vs5[2]? = some (.str file5 tf5))
    (p5 : ((l.prog.main.file : Str) == file5) = true)
    (d5 : PySem.W.codeIn K (.ref da5) "Taken.__init__" = true)
    (x5 : K.lookup cc5 = some ⟨ocC5, odC5, .cell (some (.ref c5)), slC5⟩)
    (h5 : K.lookup c5 = some (PySem.excClassObj nm5 q5 c5 N5 bs5 bm5 true sn5 sub5 ab5 col5 dd5 k05 k15 k25 k35 k55 "ValueError.__new__"))
    (r5 : PySem.HandSPX.refsVE bm5 = true)
    (s5 : supB K c5 f5 "ValueError" "ValueError.__init__" ["name"] = true)
    (e5 : excB K c5 = true)
    (t5 : PySem.W.typeIn K (.ref c5) = some (.type "type"))
    (a13 : PySem.W.nsIn K mainGlobals "UnknownName" = some (some (.ref c13)))
    (n13 : PySem.W.findIn K (.ref c13) "__init__" = some (some (.ref f13)))
    (l13 : K.lookup f13 = some ⟨oc13, od13, .func (fn13 kV13 dc13 pm13 an13 da13 ct13 cc13), sl13⟩)
    (o13 : K.lookup da13 = some ⟨ocD13, odD13, .fields vs13, slD13⟩)
    (v13 : vs13[2]? = some (.str file13 tf13))
    (p13 : ((l.prog.main.file : Str) == file13) = true)
    (d13 : PySem.W.codeIn K (.ref da13) "UnknownName.__init__" = true)
    (x13 : K.lookup cc13 = some ⟨ocC13, odC13, .cell (some (.ref c13)), slC13⟩)
    (h13 : K.lookup c13 = some (PySem.excClassObj nm13 q13 c13 N13 bs13 keTail true sn13 sub13 ab13 col13 dd13 k013 k113 k213 k313 k513 "LookupError.__new__"))
    (s13 : supB K c13 f13 "KeyError" "KeyError.__init__" ["name"] = true)
    (e13 : excB K c13 = true)
    (t13 : PySem.W.typeIn K (.ref c13) = some (.type "type"))
    (top : (l.prog.main.scope.names.lookup ("super" : Str)).isSome = false)
    (attG : PySem.W.specialIn K (.builtin "object.__class__") "__get__" = some (some (.builtin "getset_descriptor.__get__")))
    (attT : PySem.W.takesIn K (.builtin "object.__class__") = some true)
    (acC : PySem.W.nsIn K mainGlobals "Choices" = some (some (.ref C)))
    (pgC : PySem.W.plainGet K C Str.empty = true)
    (hdC : PySem.W.hasDictIn K C = true)
    (poC : PySem.W.plainOver K C = true)
    (saC : PySem.W.findIn K (.ref C) "__setattr__" = some (some (.builtin "object.__setattr__")))
    (mkC : PySem.W.makesIn K C = true)
    (kcC : PySem.W.keepIn K (.ref C) = true)
    (nC_names : PySem.W.findIn K (.ref C) "names" = some none)
    (nC__choices : PySem.W.findIn K (.ref C) "_choices" = some none)
    (nC__next : PySem.W.findIn K (.ref C) "_next" = some none)
    (attAC : PySem.W.findIn K (.ref C) "__class__" = some (some (.builtin "object.__class__")))
    (attMC : PySem.W.mroIn K C (.type "object") = some true)
    (kCCC : PySem.W.kitOne K (.ref C) (.ref C) = some true)
    (acCF : PySem.W.nsIn K mainGlobals "Form" = some (some (.ref CF)))
    (pgCF : PySem.W.plainGet K CF Str.empty = true)
    (hdCF : PySem.W.hasDictIn K CF = true)
    (poCF : PySem.W.plainOver K CF = true)
    (saCF : PySem.W.findIn K (.ref CF) "__setattr__" = some (some (.builtin "object.__setattr__")))
    (mkCF : PySem.W.makesIn K CF = true)
    (kcCF : PySem.W.keepIn K (.ref CF) = true)
    (nCF_nodes : PySem.W.findIn K (.ref CF) "nodes" = some none)
    (nCF_levels : PySem.W.findIn K (.ref CF) "levels" = some none)
    (attACF : PySem.W.findIn K (.ref CF) "__class__" = some (some (.builtin "object.__class__")))
    (attMCF : PySem.W.mroIn K CF (.type "object") = some true)
    (kCCCF : PySem.W.kitOne K (.ref CF) (.ref CF) = some true)
    (acCW : PySem.W.nsIn K mainGlobals "Worth" = some (some (.ref CW)))
    (pgCW : PySem.W.plainGet K CW Str.empty = true)
    (hdCW : PySem.W.hasDictIn K CW = true)
    (poCW : PySem.W.plainOver K CW = true)
    (saCW : PySem.W.findIn K (.ref CW) "__setattr__" = some (some (.builtin "object.__setattr__")))
    (mkCW : PySem.W.makesIn K CW = true)
    (kcCW : PySem.W.keepIn K (.ref CW) = true)
    (nCW_choices : PySem.W.findIn K (.ref CW) "choices" = some none)
    (nCW_form : PySem.W.findIn K (.ref CW) "form" = some none)
    (nCW_nodes : PySem.W.findIn K (.ref CW) "nodes" = some none)
    (nCW_outcomes : PySem.W.findIn K (.ref CW) "outcomes" = some none)
    (nCW_depends : PySem.W.findIn K (.ref CW) "depends" = some none)
    (attACW : PySem.W.findIn K (.ref CW) "__class__" = some (some (.builtin "object.__class__")))
    (attMCW : PySem.W.mroIn K CW (.type "object") = some true)
    (kCCCW : PySem.W.kitOne K (.ref CW) (.ref CW) = some true)
    (kLi : PySem.W.kitOne K (.type "list") (.ref C) = some false)
    (neC : PySem.W.findIn K (.ref C) "__ne__" = some (some (.builtin "object.__ne__")))
    (kFn : PySem.W.kitOne K (.type "NoneType") (.ref CF) = some false)
    (kFb : PySem.W.kitOne K (.type "bool") (.ref CF) = some false)
    (kFi' : PySem.W.kitOne K (.type "int") (.ref CF) = some false)
    (kFs : PySem.W.kitOne K (.type "str") (.ref CF) = some false)
    (aI : PySem.W.findIn K (.ref C) "__init__" = some (some (.ref fI)))
    (iI : PySem.W.isFn K (.ref fI) = true)
    (lI : K.lookup fI = some ⟨ocI, odI, .func (PySem.W.fnOf "__init__" "Choices.__init__" (defArgs sInit) (defBody sInit) (defScope sInit) .none kVI dcI pmI anI cdI ctI), slI⟩)
    (cI : PySem.W.codeIn K cdI "Choices.__init__" = true)
    (kI : PySem.W.keepIn K (.ref fI) = true)
    (aP : PySem.W.findIn K (.ref C) "put" = some (some (.ref fP)))
    (iP : PySem.W.isFn K (.ref fP) = true)
    (lP : K.lookup fP = some ⟨ocP, odP, .func (PySem.W.fnOf "put" "Choices.put" (defArgs sPut) (defBody sPut) (defScope sPut) .none kVP dcP pmP anP cdP ctP), slP⟩)
    (cP : PySem.W.codeIn K cdP "Choices.put" = true)
    (kP : PySem.W.keepIn K (.ref fP) = true)
    (aW : PySem.W.findIn K (.ref C) "without" = some (some (.ref fW)))
    (iW : PySem.W.isFn K (.ref fW) = true)
    (lW : K.lookup fW = some ⟨ocW, odW, .func (PySem.W.fnOf "without" "Choices.without" (defArgs sWithout) (defBody sWithout) (defScope sWithout) .none kVW dcW pmW anW cdW ctW), slW⟩)
    (cW : PySem.W.codeIn K cdW "Choices.without" = true)
    (kW : PySem.W.keepIn K (.ref fW) = true)
    (aHa : PySem.W.findIn K (.ref C) "__contains__" = some (some (.ref fHa)))
    (iHa : PySem.W.isFn K (.ref fHa) = true)
    (lHa : K.lookup fHa = some ⟨ocHa, odHa, .func (PySem.W.fnOf "__contains__" "Choices.__contains__" (defArgs sHas) (defBody sHas) (defScope sHas) .none kVHa dcHa pmHa anHa cdHa ctHa), slHa⟩)
    (cHa : PySem.W.codeIn K cdHa "Choices.__contains__" = true)
    (kHa : PySem.W.keepIn K (.ref fHa) = true)
    (aLe : PySem.W.findIn K (.ref C) "__len__" = some (some (.ref fLe)))
    (iLe : PySem.W.isFn K (.ref fLe) = true)
    (lLe : K.lookup fLe = some ⟨ocLe, odLe, .func (PySem.W.fnOf "__len__" "Choices.__len__" (defArgs sLen) (defBody sLen) (defScope sLen) .none kVLe dcLe pmLe anLe cdLe ctLe), slLe⟩)
    (cLe : PySem.W.codeIn K cdLe "Choices.__len__" = true)
    (kLe : PySem.W.keepIn K (.ref fLe) = true)
    (aE : PySem.W.findIn K (.ref C) "__eq__" = some (some (.ref fE)))
    (iE : PySem.W.isFn K (.ref fE) = true)
    (lE : K.lookup fE = some ⟨ocE, odE, .func (PySem.W.fnOf "__eq__" "Choices.__eq__" (defArgs sEq) (defBody sEq) (defScope sEq) .none kVE dcE pmE anE cdE ctE), slE⟩)
    (cE : PySem.W.codeIn K cdE "Choices.__eq__" = true)
    (kE : PySem.W.keepIn K (.ref fE) = true)
    (aGc : PySem.W.findIn K (.ref C) "__getitem__" = some (some (.ref fGc)))
    (iGc : PySem.W.isFn K (.ref fGc) = true)
    (lGc : K.lookup fGc = some ⟨ocGc, odGc, .func (PySem.W.fnOf "__getitem__" "Choices.__getitem__" (defArgs sGet) (defBody sGet) (defScope sGet) .none kVGc dcGc pmGc anGc cdGc ctGc), slGc⟩)
    (cGc : PySem.W.codeIn K cdGc "Choices.__getitem__" = true)
    (kGc : PySem.W.keepIn K (.ref fGc) = true)
    (aFu : PySem.W.findIn K (.ref C) "full" = some (some (.ref fFu)))
    (iFu : PySem.W.isFn K (.ref fFu) = true)
    (lFu : K.lookup fFu = some ⟨ocFu, odFu, .func (PySem.W.fnOf "full" "Choices.full" (defArgs sFullC) (defBody sFullC) (defScope sFullC) .none kVFu dcFu pmFu anFu cdFu ctFu), slFu⟩)
    (cFu : PySem.W.codeIn K cdFu "Choices.full" = true)
    (kFu : PySem.W.keepIn K (.ref fFu) = true)
    (aFi : PySem.W.findIn K (.ref CF) "__init__" = some (some (.ref fFi)))
    (iFi : PySem.W.isFn K (.ref fFi) = true)
    (lFi : K.lookup fFi = some ⟨ocFi, odFi, .func (PySem.W.fnOf "__init__" "Form.__init__" (defArgs sFInit) (defBody sFInit) (defScope sFInit) .none kVFi dcFi pmFi anFi cdFi ctFi), slFi⟩)
    (cFi : PySem.W.codeIn K cdFi "Form.__init__" = true)
    (kFi : PySem.W.keepIn K (.ref fFi) = true)
    (aWi : PySem.W.findIn K (.ref CW) "__init__" = some (some (.ref fWi)))
    (iWi : PySem.W.isFn K (.ref fWi) = true)
    (lWi : K.lookup fWi = some ⟨ocWi, odWi, .func (PySem.W.fnOf "__init__" "Worth.__init__" (defArgs sWInit) (defBody sWInit) (defScope sWInit) .none kVWi dcWi pmWi anWi cdWi ctWi), slWi⟩)
    (cWi : PySem.W.codeIn K cdWi "Worth.__init__" = true)
    (kWi : PySem.W.keepIn K (.ref fWi) = true)
    (aWj : PySem.W.findIn K (.ref CW) "_joined" = some (some (.ref fWj)))
    (iWj : PySem.W.isFn K (.ref fWj) = true)
    (lWj : K.lookup fWj = some ⟨ocWj, odWj, .func (PySem.W.fnOf "_joined" "Worth._joined" (defArgs sWJoin) (defBody sWJoin) (defScope sWJoin) .none kVWj dcWj pmWj anWj cdWj ctWj), slWj⟩)
    (cWj : PySem.W.codeIn K cdWj "Worth._joined" = true)
    (kWj : PySem.W.keepIn K (.ref fWj) = true)
    (aLi : PySem.W.findIn K (.ref CW) "limited" = some (some (.ref fLi)))
    (iLi : PySem.W.isFn K (.ref fLi) = true)
    (lLi : K.lookup fLi = some ⟨ocLi, odLi, .func (PySem.W.fnOf "limited" "Worth.limited" (defArgs sLimited) (defBody sLimited) (defScope sLimited) .none kVLi dcLi pmLi anLi cdLi ctLi), slLi⟩)
    (cLi : PySem.W.codeIn K cdLi "Worth.limited" = true)
    (kLi' : PySem.W.keepIn K (.ref fLi) = true)
    (aOe : PySem.W.findIn K (.ref CW) "or_else" = some (some (.ref fOe)))
    (iOe : PySem.W.isFn K (.ref fOe) = true)
    (lOe : K.lookup fOe = some ⟨ocOe, odOe, .func (PySem.W.fnOf "or_else" "Worth.or_else" (defArgs sOrElse) (defBody sOrElse) (defScope sOrElse) .none kVOe dcOe pmOe anOe cdOe ctOe), slOe⟩)
    (cOe : PySem.W.codeIn K cdOe "Worth.or_else" = true)
    (kOe : PySem.W.keepIn K (.ref fOe) = true)
    (apB : PySem.W.findIn K (.ref CW) "by" = some (some (.ref pB)))
    (rdW : PySem.W.readsIn K CW (.type "type") = true)
    (gaW : PySem.W.specialIn K (.ref CW) "__getattribute__" = some (some (.builtin "type.__getattribute__")))
    (atB : PySem.W.findCls K (.ref CW) (.type "type") "by" = some (.get (.builtin "classmethod.__get__") (.ref pB) .none (.ref CW)))
    (lpB : K.lookup pB = some ⟨.type "classmethod", odpB, .fields vspB, slpB⟩)
    (hvB : vspB.toList = Value.ref fBy :: restB)
    (lBy : K.lookup fBy = some ⟨ocBy, odBy, .func (PySem.W.fnOf "by" "Worth.by" (defArgs sBy) (defBody sBy) (defScope sBy) .none kVBy dcBy pmBy anBy cdBy ctBy), slBy⟩)
    (fnB : PySem.W.fnIn K fBy = true)
    (cBy : PySem.W.codeIn K cdBy "Worth.by" = true)
    (kBy : PySem.W.keepIn K (.ref fBy) = true)
    (aN : PySem.W.nsIn K mainGlobals "is_name" = some (some (.ref fN)))
    (lN : K.lookup fN = some ⟨ocN, odN, .func (PySem.W.fnOf "is_name" "is_name" (defArgs sIsName) (defBody sIsName) (defScope sIsName) .none kVN dcN pmN anN cdN ctN), slN⟩)
    (cN : PySem.W.codeIn K cdN "is_name" = true)
    (kN : PySem.W.keepIn K (.ref fN) = true)
    (aD : PySem.W.nsIn K mainGlobals "is_decimal" = some (some (.ref fD)))
    (lD : K.lookup fD = some ⟨ocD, odD, .func (PySem.W.fnOf "is_decimal" "is_decimal" (defArgs sIsDec) (defBody sIsDec) (defScope sIsDec) .none kVD dcD pmD anD cdD ctD), slD⟩)
    (cD : PySem.W.codeIn K cdD "is_decimal" = true)
    (kD : PySem.W.keepIn K (.ref fD) = true)
    (aCh : PySem.W.nsIn K mainGlobals "is_choice_name" = some (some (.ref fCh)))
    (lCh : K.lookup fCh = some ⟨ocCh, odCh, .func (PySem.W.fnOf "is_choice_name" "is_choice_name" (defArgs sIsCh) (defBody sIsCh) (defScope sIsCh) .none kVCh dcCh pmCh anCh cdCh ctCh), slCh⟩)
    (cCh : PySem.W.codeIn K cdCh "is_choice_name" = true)
    (kCh : PySem.W.keepIn K (.ref fCh) = true)
    (aKd : PySem.W.nsIn K mainGlobals "kind_of" = some (some (.ref fKd)))
    (lKd : K.lookup fKd = some ⟨ocKd, odKd, .func (PySem.W.fnOf "kind_of" "kind_of" (defArgs sKind) (defBody sKind) (defScope sKind) .none kVKd dcKd pmKd anKd cdKd ctKd), slKd⟩)
    (cKd : PySem.W.codeIn K cdKd "kind_of" = true)
    (kKd : PySem.W.keepIn K (.ref fKd) = true)
    (aIs : PySem.W.nsIn K mainGlobals "is_same" = some (some (.ref fIs)))
    (lIs : K.lookup fIs = some ⟨ocIs, odIs, .func (PySem.W.fnOf "is_same" "is_same" (defArgs sIsSame) (defBody sIsSame) (defScope sIsSame) .none kVIs dcIs pmIs anIs cdIs ctIs), slIs⟩)
    (cIs : PySem.W.codeIn K cdIs "is_same" = true)
    (kIs : PySem.W.keepIn K (.ref fIs) = true)
    (aRk : PySem.W.nsIn K mainGlobals "rank" = some (some (.ref fRk)))
    (lRk : K.lookup fRk = some ⟨ocRk, odRk, .func (PySem.W.fnOf "rank" "rank" (defArgs sRank) (defBody sRank) (defScope sRank) .none kVRk dcRk pmRk anRk cdRk ctRk), slRk⟩)
    (cRk : PySem.W.codeIn K cdRk "rank" = true)
    (kRk : PySem.W.keepIn K (.ref fRk) = true)
    (aIo : PySem.W.nsIn K mainGlobals "in_order" = some (some (.ref fIo)))
    (lIo : K.lookup fIo = some ⟨ocIo, odIo, .func (PySem.W.fnOf "in_order" "in_order" (defArgs sInOrder) (defBody sInOrder) (defScope sInOrder) .none kVIo dcIo pmIo anIo cdIo ctIo), slIo⟩)
    (cIo : PySem.W.codeIn K cdIo "in_order" = true)
    (kIo : PySem.W.keepIn K (.ref fIo) = true)
    (aCo : PySem.W.nsIn K mainGlobals "constant" = some (some (.ref fCo)))
    (lCo : K.lookup fCo = some ⟨ocCo, odCo, .func (PySem.W.fnOf "constant" "constant" (defArgs sConst) (defBody sConst) (defScope sConst) .none kVCo dcCo pmCo anCo cdCo ctCo), slCo⟩)
    (cCo : PySem.W.codeIn K cdCo "constant" = true)
    (kCo : PySem.W.keepIn K (.ref fCo) = true)
    (aBr : PySem.W.nsIn K mainGlobals "branched" = some (some (.ref fBr)))
    (lBr : K.lookup fBr = some ⟨ocBr, odBr, .func (PySem.W.fnOf "branched" "branched" (defArgs sBranch) (defBody sBranch) (defScope sBranch) .none kVBr dcBr pmBr anBr cdBr ctBr), slBr⟩)
    (cBr : PySem.W.codeIn K cdBr "branched" = true)
    (kBr : PySem.W.keepIn K (.ref fBr) = true)
    (aIc : PySem.W.nsIn K mainGlobals "is_choice" = some (some (.ref fIc)))
    (lIc : K.lookup fIc = some ⟨ocIc, odIc, .func (PySem.W.fnOf "is_choice" "is_choice" (defArgs sIsC) (defBody sIsC) (defScope sIsC) .none kVIc dcIc pmIc anIc cdIc ctIc), slIc⟩)
    (cIc : PySem.W.codeIn K cdIc "is_choice" = true)
    (kIc : PySem.W.keepIn K (.ref fIc) = true)
    (aDr : PySem.W.nsIn K mainGlobals "drawn" = some (some (.ref fDr)))
    (lDr : K.lookup fDr = some ⟨ocDr, odDr, .func (PySem.W.fnOf "drawn" "drawn" (defArgs sDrawn) (defBody sDrawn) (defScope sDrawn) .none kVDr dcDr pmDr anDr cdDr ctDr), slDr⟩)
    (cDr : PySem.W.codeIn K cdDr "drawn" = true)
    (kDr : PySem.W.keepIn K (.ref fDr) = true)
    (aJo : PySem.W.nsIn K mainGlobals "joined" = some (some (.ref fJo)))
    (lJo : K.lookup fJo = some ⟨ocJo, odJo, .func (PySem.W.fnOf "joined" "joined" (defArgs sJoin) (defBody sJoin) (defScope sJoin) .none kVJo dcJo pmJo anJo cdJo ctJo), slJo⟩)
    (cJo : PySem.W.codeIn K cdJo "joined" = true)
    (kJo : PySem.W.keepIn K (.ref fJo) = true)
    (aUp : PySem.W.nsIn K mainGlobals "upper_name" = some (some (.ref fUp)))
    (lUp : K.lookup fUp = some ⟨ocUp, odUp, .func (PySem.W.fnOf "upper_name" "upper_name" (defArgs sUp) (defBody sUp) (defScope sUp) .none kVUp dcUp pmUp anUp cdUp ctUp), slUp⟩)
    (cUp : PySem.W.codeIn K cdUp "upper_name" = true)
    (kUp : PySem.W.keepIn K (.ref fUp) = true)
    (aBe : PySem.W.nsIn K mainGlobals "pairs_below" = some (some (.ref fBe)))
    (lBe : K.lookup fBe = some ⟨ocBe, odBe, .func (PySem.W.fnOf "pairs_below" "pairs_below" (defArgs sBelow) (defBody sBelow) (defScope sBelow) .none kVBe dcBe pmBe anBe cdBe ctBe), slBe⟩)
    (cBe : PySem.W.codeIn K cdBe "pairs_below" = true)
    (kBe : PySem.W.keepIn K (.ref fBe) = true)
    (aCb : PySem.W.nsIn K mainGlobals "combined" = some (some (.ref fCb)))
    (lCb : K.lookup fCb = some ⟨ocCb, odCb, .func (PySem.W.fnOf "combined" "combined" (defArgs sComb) (defBody sComb) (defScope sComb) .none kVCb dcCb pmCb anCb cdCb ctCb), slCb⟩)
    (cCb : PySem.W.codeIn K cdCb "combined" = true)
    (kCb : PySem.W.keepIn K (.ref fCb) = true)
    (aPk : PySem.W.nsIn K mainGlobals "picked" = some (some (.ref fPk)))
    (lPk : K.lookup fPk = some ⟨ocPk, odPk, .func (PySem.W.fnOf "picked" "picked" (defArgs sPicked) (defBody sPicked) (defScope sPicked) .none kVPk dcPk pmPk anPk cdPk ctPk), slPk⟩)
    (cPk : PySem.W.codeIn K cdPk "picked" = true)
    (kPk : PySem.W.keepIn K (.ref fPk) = true)
    (aWk : PySem.W.nsIn K mainGlobals "worked" = some (some (.ref fWk)))
    (lWk : K.lookup fWk = some ⟨ocWk, odWk, .func (PySem.W.fnOf "worked" "worked" (defArgs sWorked) (defBody sWorked) (defScope sWorked) .none kVWk dcWk pmWk anWk cdWk ctWk), slWk⟩)
    (cWk : PySem.W.codeIn K cdWk "worked" = true)
    (kWk : PySem.W.keepIn K (.ref fWk) = true)
    (aPc : PySem.W.nsIn K mainGlobals "priced" = some (some (.ref fPc)))
    (lPc : K.lookup fPc = some ⟨ocPc, odPc, .func (PySem.W.fnOf "priced" "priced" (defArgs sPriced) (defBody sPriced) (defScope sPriced) .none kVPc dcPc pmPc anPc cdPc ctPc), slPc⟩)
    (cPc : PySem.W.codeIn K cdPc "priced" = true)
    (kPc : PySem.W.keepIn K (.ref fPc) = true)
    (aTe : PySem.W.nsIn K mainGlobals "true_ends" = some (some (.ref fTe)))
    (lTe : K.lookup fTe = some ⟨ocTe, odTe, .func (PySem.W.fnOf "true_ends" "true_ends" (defArgs sTrueE) (defBody sTrueE) (defScope sTrueE) .none kVTe dcTe pmTe anTe cdTe ctTe), slTe⟩)
    (cTe : PySem.W.codeIn K cdTe "true_ends" = true)
    (kTe : PySem.W.keepIn K (.ref fTe) = true)
    (aFw : PySem.W.nsIn K mainGlobals "first_way" = some (some (.ref fFw)))
    (lFw : K.lookup fFw = some ⟨ocFw, odFw, .func (PySem.W.fnOf "first_way" "first_way" (defArgs sFirst) (defBody sFirst) (defScope sFirst) .none kVFw dcFw pmFw anFw cdFw ctFw), slFw⟩)
    (cFw : PySem.W.codeIn K cdFw "first_way" = true)
    (kFw : PySem.W.keepIn K (.ref fFw) = true)
    (aLc : PySem.W.nsIn K mainGlobals "least_costs" = some (some (.ref fLc)))
    (lLc : K.lookup fLc = some ⟨ocLc, odLc, .func (PySem.W.fnOf "least_costs" "least_costs" (defArgs sLeast) (defBody sLeast) (defScope sLeast) .none kVLc dcLc pmLc anLc cdLc ctLc), slLc⟩)
    (cLc : PySem.W.codeIn K cdLc "least_costs" = true)
    (kLc : PySem.W.keepIn K (.ref fLc) = true)
    (aCw : PySem.W.nsIn K mainGlobals "costs_below" = some (some (.ref fCw)))
    (lCw : K.lookup fCw = some ⟨ocCw, odCw, .func (PySem.W.fnOf "costs_below" "costs_below" (defArgs sCostsB) (defBody sCostsB) (defScope sCostsB) .none kVCw dcCw pmCw anCw cdCw ctCw), slCw⟩)
    (cCw : PySem.W.codeIn K cdCw "costs_below" = true)
    (kCw : PySem.W.keepIn K (.ref fCw) = true)
    (aCp : PySem.W.nsIn K mainGlobals "cheapest" = some (some (.ref fCp)))
    (lCp : K.lookup fCp = some ⟨ocCp, odCp, .func (PySem.W.fnOf "cheapest" "cheapest" (defArgs sCheap) (defBody sCheap) (defScope sCheap) .none kVCp dcCp pmCp anCp cdCp ctCp), slCp⟩)
    (cCp : PySem.W.codeIn K cdCp "cheapest" = true)
    (kCp : PySem.W.keepIn K (.ref fCp) = true)
    (aF : PySem.W.nsIn K mainGlobals "_law_feed" = some (some (.ref fF)))
    (lF : K.lookup fF = some ⟨ocF, odF, .func (PySem.W.fnOf "_law_feed" "_law_feed" (defArgs sFeed) (defBody sFeed) (defScope sFeed) .none kVF dcF pmF anF cdF ctF), slF⟩)
    (cF : PySem.W.codeIn K cdF "_law_feed" = true)
    (kF : PySem.W.keepIn K (.ref fF) = true)
    (aT : PySem.W.nsIn K mainGlobals "_law_take" = some (some (.ref fT)))
    (lT : K.lookup fT = some ⟨ocT, odT, .func (PySem.W.fnOf "_law_take" "_law_take" (defArgs sTake) (defBody sTake) (defScope sTake) .none kVT dcT pmT anT cdT ctT), slT⟩)
    (cT : PySem.W.codeIn K cdT "_law_take" = true)
    (kT : PySem.W.keepIn K (.ref fT) = true)
    (aMi : PySem.W.nsIn K mainGlobals "_law_mixed" = some (some (.ref fMi)))
    (lMi : K.lookup fMi = some ⟨ocMi, odMi, .func (PySem.W.fnOf "_law_mixed" "_law_mixed" (defArgs sMixed) (defBody sMixed) (defScope sMixed) .none kVMi dcMi pmMi anMi cdMi ctMi), slMi⟩)
    (cMi : PySem.W.codeIn K cdMi "_law_mixed" = true)
    (kMi : PySem.W.keepIn K (.ref fMi) = true)
    (aNm : PySem.W.nsIn K mainGlobals "_law_names" = some (some (.ref fNm)))
    (lNm : K.lookup fNm = some ⟨ocNm, odNm, .func (PySem.W.fnOf "_law_names" "_law_names" (defArgs sNames) (defBody sNames) (defScope sNames) .none kVNm dcNm pmNm anNm cdNm ctNm), slNm⟩)
    (cNm : PySem.W.codeIn K cdNm "_law_names" = true)
    (kNm : PySem.W.keepIn K (.ref fNm) = true)
    (aSo : PySem.W.nsIn K mainGlobals "_law_some" = some (some (.ref fSo)))
    (lSo : K.lookup fSo = some ⟨ocSo, odSo, .func (PySem.W.fnOf "_law_some" "_law_some" (defArgs sSomeF) (defBody sSomeF) (defScope sSomeF) .none kVSo dcSo pmSo anSo cdSo ctSo), slSo⟩)
    (cSo : PySem.W.codeIn K cdSo "_law_some" = true)
    (kSo : PySem.W.keepIn K (.ref fSo) = true)
    (aVa : PySem.W.nsIn K mainGlobals "_law_value" = some (some (.ref fVa)))
    (lVa : K.lookup fVa = some ⟨ocVa, odVa, .func (PySem.W.fnOf "_law_value" "_law_value" (defArgs sValueF) (defBody sValueF) (defScope sValueF) .none kVVa dcVa pmVa anVa cdVa ctVa), slVa⟩)
    (cVa : PySem.W.codeIn K cdVa "_law_value" = true)
    (kVa : PySem.W.keepIn K (.ref fVa) = true)
    (aTr : PySem.W.nsIn K mainGlobals "_law_tree" = some (some (.ref fTr)))
    (lTr : K.lookup fTr = some ⟨ocTr, odTr, .func (PySem.W.fnOf "_law_tree" "_law_tree" (defArgs sTreeF) (defBody sTreeF) (defScope sTreeF) .none kVTr dcTr pmTr anTr cdTr ctTr), slTr⟩)
    (cTr : PySem.W.codeIn K cdTr "_law_tree" = true)
    (kTr : PySem.W.keepIn K (.ref fTr) = true)
    (aAt : PySem.W.nsIn K mainGlobals "_law_at" = some (some (.ref fAt)))
    (lAt : K.lookup fAt = some ⟨ocAt, odAt, .func (PySem.W.fnOf "_law_at" "_law_at" (defArgs sAtF) (defBody sAtF) (defScope sAtF) .none kVAt dcAt pmAt anAt cdAt ctAt), slAt⟩)
    (cAt : PySem.W.codeIn K cdAt "_law_at" = true)
    (kAt : PySem.W.keepIn K (.ref fAt) = true)
    (aLw : PySem.W.nsIn K mainGlobals "_law_worth" = some (some (.ref fLw)))
    (lLw : K.lookup fLw = some ⟨ocLw, odLw, .func (PySem.W.fnOf "_law_worth" "_law_worth" (defArgs sWorthF) (defBody sWorthF) (defScope sWorthF) .none kVLw dcLw pmLw anLw cdLw ctLw), slLw⟩)
    (cLw : PySem.W.codeIn K cdLw "_law_worth" = true)
    (kLw : PySem.W.keepIn K (.ref fLw) = true)
    (aWs : PySem.W.nsIn K mainGlobals "_law_worlds" = some (some (.ref fWs)))
    (lWs : K.lookup fWs = some ⟨ocWs, odWs, .func (PySem.W.fnOf "_law_worlds" "_law_worlds" (defArgs sWorldsF) (defBody sWorldsF) (defScope sWorldsF) .none kVWs dcWs pmWs anWs cdWs ctWs), slWs⟩)
    (cWs : PySem.W.codeIn K cdWs "_law_worlds" = true)
    (kWs : PySem.W.keepIn K (.ref fWs) = true)
    (aWo : PySem.W.nsIn K mainGlobals "_law_world" = some (some (.ref fWo)))
    (lWo : K.lookup fWo = some ⟨ocWo, odWo, .func (PySem.W.fnOf "_law_world" "_law_world" (defArgs sWorldF) (defBody sWorldF) (defScope sWorldF) .none kVWo dcWo pmWo anWo cdWo ctWo), slWo⟩)
    (cWo : PySem.W.codeIn K cdWo "_law_world" = true)
    (kWo : PySem.W.keepIn K (.ref fWo) = true)
    (aSh : PySem.W.nsIn K mainGlobals "_law_short" = some (some (.ref fSh)))
    (lSh : K.lookup fSh = some ⟨ocSh, odSh, .func (PySem.W.fnOf "_law_short" "_law_short" (defArgs sShortF) (defBody sShortF) (defScope sShortF) .none kVSh dcSh pmSh anSh cdSh ctSh), slSh⟩)
    (cSh : PySem.W.codeIn K cdSh "_law_short" = true)
    (kSh : PySem.W.keepIn K (.ref fSh) = true)
    (aRo : PySem.W.nsIn K mainGlobals "_law_row" = some (some (.ref fRo)))
    (lRo : K.lookup fRo = some ⟨ocRo, odRo, .func (PySem.W.fnOf "_law_row" "_law_row" (defArgs sRowF) (defBody sRowF) (defScope sRowF) .none kVRo dcRo pmRo anRo cdRo ctRo), slRo⟩)
    (cRo : PySem.W.codeIn K cdRo "_law_row" = true)
    (kRo : PySem.W.keepIn K (.ref fRo) = true)
    (aNa : PySem.W.nsIn K mainGlobals "_law_named" = some (some (.ref fNa)))
    (lNa : K.lookup fNa = some ⟨ocNa, odNa, .func (PySem.W.fnOf "_law_named" "_law_named" (defArgs sNamedF) (defBody sNamedF) (defScope sNamedF) .none kVNa dcNa pmNa anNa cdNa ctNa), slNa⟩)
    (cNa : PySem.W.codeIn K cdNa "_law_named" = true)
    (kNa : PySem.W.keepIn K (.ref fNa) = true)
    (aM : PySem.W.nsIn K mainGlobals "_law_same" = some (some (.ref fM)))
    (lM : K.lookup fM = some ⟨ocM, odM, .func (PySem.W.fnOf "_law_same" "_law_same" (defArgs sSame) (defBody sSame) (defScope sSame) .none kVM dcM pmM anM cdM ctM), slM⟩)
    (cM : PySem.W.codeIn K cdM "_law_same" = true)
    (kM : PySem.W.keepIn K (.ref fM) = true)
    (aSc : PySem.W.nsIn K mainGlobals "_law_scene" = some (some (.ref fSc)))
    (lSc : K.lookup fSc = some ⟨ocSc, odSc, .func (PySem.W.fnOf "_law_scene" "_law_scene" (defArgs sSceneF) (defBody sSceneF) (defScope sSceneF) .none kVSc dcSc pmSc anSc cdSc ctSc), slSc⟩)
    (cSc : PySem.W.codeIn K cdSc "_law_scene" = true)
    (kSc : PySem.W.keepIn K (.ref fSc) = true)
    (aDu : PySem.W.nsIn K mainGlobals "_law_due" = some (some (.ref fDu)))
    (lDu : K.lookup fDu = some ⟨ocDu, odDu, .func (PySem.W.fnOf "_law_due" "_law_due" (defArgs sDueF) (defBody sDueF) (defScope sDueF) .none kVDu dcDu pmDu anDu cdDu ctDu), slDu⟩)
    (cDu : PySem.W.codeIn K cdDu "_law_due" = true)
    (kDu : PySem.W.keepIn K (.ref fDu) = true)
    (aZ : PySem.W.nsIn K mainGlobals "law" = some (some (.ref fZ)))
    (lZ : K.lookup fZ = some ⟨ocZ, odZ, .func (PySem.W.fnOf "law" "law" (defArgs sLaw) (defBody sLaw) (defScope sLaw) .none kVZ dcZ pmZ anZ cdZ ctZ), slZ⟩)
    (cZ : PySem.W.codeIn K cdZ "law" = true)
    (kZ : PySem.W.keepIn K (.ref fZ) = true)
    (z_super : PySem.W.nsIn K mainGlobals "super" = some none)
    (z_range : PySem.W.nsIn K mainGlobals "range" = some none)
    (z_max : PySem.W.nsIn K mainGlobals "max" = some none)
    (z_min : PySem.W.nsIn K mainGlobals "min" = some none)
    (z_len : PySem.W.nsIn K mainGlobals "len" = some none)
    (z_isinstance : PySem.W.nsIn K mainGlobals "isinstance" = some none)
    (z_int : PySem.W.nsIn K mainGlobals "int" = some none)
    (z_bool : PySem.W.nsIn K mainGlobals "bool" = some none)
    (z_tuple : PySem.W.nsIn K mainGlobals "tuple" = some none)
    (z_list : PySem.W.nsIn K mainGlobals "list" = some none)
    (z_str : PySem.W.nsIn K mainGlobals "str" = some none)
    (z_repr : PySem.W.nsIn K mainGlobals "repr" = some none)
    (z_abs : PySem.W.nsIn K mainGlobals "abs" = some none)
    (z_all : PySem.W.nsIn K mainGlobals "all" = some none)
    (z_set : PySem.W.nsIn K mainGlobals "set" = some none)
    (z_sorted : PySem.W.nsIn K mainGlobals "sorted" = some none)
    (z_zip : PySem.W.nsIn K mainGlobals "zip" = some none)
    (z_sum : PySem.W.nsIn K mainGlobals "sum" = some none)
    (z_dict : PySem.W.nsIn K mainGlobals "dict" = some none)
    (z_enumerate : PySem.W.nsIn K mainGlobals "enumerate" = some none)
    (gLe : PySem.W.nsIn K mainGlobals "LETTERS" = some (some (.str letters tL)))
    (gDi : PySem.W.nsIn K mainGlobals "DIGITS" = some (some (.str digits tD)))
    (gMo : PySem.W.nsIn K mainGlobals "MOST_SIGNS" = some (some (.int 6 tM)))
    (gKi : PySem.W.nsIn K mainGlobals "KINDS" = some (some (.ref dK)))
    (dic : He.dicW K dK = some (He.keysIn w.params ["+", "-", "*", "least", "most", "and", "or", "below", "same"]))
    (nsE : PySem.W.nsIn K dK sElse = some none)
    (nsL : PySem.W.nsIn K dK sLim = some none)
    (nsS0 : PySem.W.nsIn K dK "+" = some (some (.ref aS0)))
    (lS0 : K.lookup aS0 = some ⟨.type "tuple", odS0, .seq #[.str "number" tk0_0] nS0, slS0⟩)
    (nsS1 : PySem.W.nsIn K dK "-" = some (some (.ref aS1)))
    (lS1 : K.lookup aS1 = some ⟨.type "tuple", odS1, .seq #[.str "number" tk1_0] nS1, slS1⟩)
    (nsS2 : PySem.W.nsIn K dK "*" = some (some (.ref aS2)))
    (lS2 : K.lookup aS2 = some ⟨.type "tuple", odS2, .seq #[.str "number" tk2_0] nS2, slS2⟩)
    (nsS3 : PySem.W.nsIn K dK "least" = some (some (.ref aS3)))
    (lS3 : K.lookup aS3 = some ⟨.type "tuple", odS3, .seq #[.str "number" tk3_0] nS3, slS3⟩)
    (nsS4 : PySem.W.nsIn K dK "most" = some (some (.ref aS4)))
    (lS4 : K.lookup aS4 = some ⟨.type "tuple", odS4, .seq #[.str "number" tk4_0] nS4, slS4⟩)
    (nsS5 : PySem.W.nsIn K dK "below" = some (some (.ref aS5)))
    (lS5 : K.lookup aS5 = some ⟨.type "tuple", odS5, .seq #[.str "number" tk5_0, .str "word" tk5_1] nS5, slS5⟩)
    (nsS6 : PySem.W.nsIn K dK "same" = some (some (.ref aS6)))
    (lS6 : K.lookup aS6 = some ⟨.type "tuple", odS6, .seq #[.str "number" tk6_0, .str "word" tk6_1, .str "truth" tk6_2] nS6, slS6⟩)
    (nsS7 : PySem.W.nsIn K dK "and" = some (some (.ref aS7)))
    (lS7 : K.lookup aS7 = some ⟨.type "tuple", odS7, .seq #[.str "truth" tk7_0] nS7, slS7⟩)
    (nsS8 : PySem.W.nsIn K dK "or" = some (some (.ref aS8)))
    (lS8 : K.lookup aS8 = some ⟨.type "tuple", odS8, .seq #[.str "truth" tk8_0] nS8, slS8⟩)
    (fiGc : PySem.W.fnIn K fGc = true) :
    ∃ fd : FuncData, (∀ (s : Shared) (v : Value), BindsTo s fd ⟨[v], []⟩ [("_law_script", v)]) ∧ ∀ base : Heap, K.In base → base.Ns mainGlobals mg → FnG l.prog w K mg base CX0 16 fa fd ["_law_script"] (spLaw K) := by
  have e := hfa.symm.trans (PySem.W.mg_of X G aZ)
  cases e
  have y_super := PySem.W.mg_none_of X G z_super
  have y_range := PySem.W.mg_none_of X G z_range
  have y_max := PySem.W.mg_none_of X G z_max
  have y_min := PySem.W.mg_none_of X G z_min
  have y_len := PySem.W.mg_none_of X G z_len
  have y_isinstance := PySem.W.mg_none_of X G z_isinstance
  have y_int := PySem.W.mg_none_of X G z_int
  have y_bool := PySem.W.mg_none_of X G z_bool
  have y_tuple := PySem.W.mg_none_of X G z_tuple
  have y_list := PySem.W.mg_none_of X G z_list
  have y_str := PySem.W.mg_none_of X G z_str
  have y_repr := PySem.W.mg_none_of X G z_repr
  have y_abs := PySem.W.mg_none_of X G z_abs
  have y_all := PySem.W.mg_none_of X G z_all
  have y_set := PySem.W.mg_none_of X G z_set
  have y_sorted := PySem.W.mg_none_of X G z_sorted
  have y_zip := PySem.W.mg_none_of X G z_zip
  have y_sum := PySem.W.mg_none_of X G z_sum
  have y_dict := PySem.W.mg_none_of X G z_dict
  have y_enumerate := PySem.W.mg_none_of X G z_enumerate
  have I0 : InK K l.prog c0 f0 cc0 da0 (fn0 kV0 dc0 pm0 an0 da0 ct0 cc0) "InvalidName.__init__" := ⟨⟨oc0, od0, sl0, l0⟩, ⟨ocD0, odD0, vs0, slD0, file0, tf0, o0, v0, p0⟩, d0, top, ⟨ocC0, odC0, slC0, x0⟩⟩
  have E0 := err0 I0 s0 e0 h0 r0 y_super (PySem.W.mg_of X G a0)
  have I5 : InK K l.prog c5 f5 cc5 da5 (fn5 kV5 dc5 pm5 an5 da5 ct5 cc5) "Taken.__init__" := ⟨⟨oc5, od5, sl5, l5⟩, ⟨ocD5, odD5, vs5, slD5, file5, tf5, o5, v5, p5⟩, d5, top, ⟨ocC5, odC5, slC5, x5⟩⟩
  have E5 := err5 I5 s5 e5 h5 r5 y_super (PySem.W.mg_of X G a5)
  have I13 : InK K l.prog c13 f13 cc13 da13 (fn13 kV13 dc13 pm13 an13 da13 ct13 cc13) "UnknownName.__init__" := ⟨⟨oc13, od13, sl13, l13⟩, ⟨ocD13, odD13, vs13, slD13, file13, tf13, o13, v13, p13⟩, d13, top, ⟨ocC13, odC13, slC13, x13⟩⟩
  have E13 := err13 I13 s13 e13 h13 y_super (PySem.W.mg_of X G a13)
  have FI := fun_mk (st := sInit) lI cI kI
  have bI := FI.binds (ps := ["self"]) fun _ _ _ _ _ _ us hl => match us, hl with | [_], _ => rfl
  have FP := fun_mk (st := sPut) lP cP kP
  have bP := FP.binds (ps := ["self", "name", "many"]) fun _ _ _ _ _ _ us hl => match us, hl with | [_, _, _], _ => rfl
  have FW := fun_mk (st := sWithout) lW cW kW
  have bW := FW.binds (ps := ["self", "name"]) fun _ _ _ _ _ _ us hl => match us, hl with | [_, _], _ => rfl
  have FHa := fun_mk (st := sHas) lHa cHa kHa
  have bHa := FHa.binds (ps := ["self", "name"]) fun _ _ _ _ _ _ us hl => match us, hl with | [_, _], _ => rfl
  have FLe := fun_mk (st := sLen) lLe cLe kLe
  have bLe := FLe.binds (ps := ["self"]) fun _ _ _ _ _ _ us hl => match us, hl with | [_], _ => rfl
  have FE := fun_mk (st := sEq) lE cE kE
  have bE := FE.binds (ps := ["self", "other"]) fun _ _ _ _ _ _ us hl => match us, hl with | [_, _], _ => rfl
  have FGc := fun_mk (st := sGet) lGc cGc kGc
  have bGc := FGc.binds (ps := ["self", "name"]) fun _ _ _ _ _ _ us hl => match us, hl with | [_, _], _ => rfl
  have FFu := fun_mk (st := sFullC) lFu cFu kFu
  have bFu := FFu.binds (ps := ["self", "world"]) fun _ _ _ _ _ _ us hl => match us, hl with | [_, _], _ => rfl
  have FFi := fun_mk (st := sFInit) lFi cFi kFi
  have bFi := FFi.binds (ps := ["self", "nodes", "levels"]) fun _ _ _ _ _ _ us hl => match us, hl with | [_, _, _], _ => rfl
  have FWi := fun_mk (st := sWInit) lWi cWi kWi
  have bWi := FWi.binds (ps := ["self", "choices", "value"]) fun _ _ _ _ _ _ us hl => match us, hl with | [_, _, _], _ => rfl
  have FWj := fun_mk (st := sWJoin) lWj cWj kWj
  have bWj := FWj.binds (ps := ["self", "sign", "other"]) fun _ _ _ _ _ _ us hl => match us, hl with | [_, _, _], _ => rfl
  have FLi := fun_mk (st := sLimited) lLi cLi kLi'
  have bLi := FLi.binds (ps := ["self", "truth"]) fun _ _ _ _ _ _ us hl => match us, hl with | [_, _], _ => rfl
  have FOe := fun_mk (st := sOrElse) lOe cOe kOe
  have bOe := FOe.binds (ps := ["self", "other"]) fun _ _ _ _ _ _ us hl => match us, hl with | [_, _], _ => rfl
  have FBy := fun_mk (st := sBy) lBy cBy kBy
  have bBy := FBy.binds (ps := ["cls", "choices", "name", "values"]) fun _ _ _ _ _ _ us hl => match us, hl with | [_, _, _, _], _ => rfl
  have FN := fun_mk (st := sIsName) lN cN kN
  have bN := FN.binds (ps := ["value"]) fun _ _ _ _ _ _ us hl => match us, hl with | [_], _ => rfl
  have FD := fun_mk (st := sIsDec) lD cD kD
  have bD := FD.binds (ps := ["text", "most"]) fun _ _ _ _ _ _ us hl => match us, hl with | [_, _], _ => rfl
  have FCh := fun_mk (st := sIsCh) lCh cCh kCh
  have bCh := FCh.binds (ps := ["text"]) fun _ _ _ _ _ _ us hl => match us, hl with | [_], _ => rfl
  have FKd := fun_mk (st := sKind) lKd cKd kKd
  have bKd := FKd.binds (ps := ["value"]) fun _ _ _ _ _ _ us hl => match us, hl with | [_], _ => rfl
  have FIs := fun_mk (st := sIsSame) lIs cIs kIs
  have bIs := FIs.binds (ps := ["one", "other"]) fun _ _ _ _ _ _ us hl => match us, hl with | [_, _], _ => rfl
  have FRk := fun_mk (st := sRank) lRk cRk kRk
  have bRk := FRk.binds (ps := ["value"]) fun _ _ _ _ _ _ us hl => match us, hl with | [_], _ => rfl
  have FIo := fun_mk (st := sInOrder) lIo cIo kIo
  have bIo := FIo.binds (ps := ["values"]) fun _ _ _ _ _ _ us hl => match us, hl with | [_], _ => rfl
  have FCo := fun_mk (st := sConst) lCo cCo kCo
  have bCo := FCo.binds (ps := ["choices", "value"]) fun _ _ _ _ _ _ us hl => match us, hl with | [_, _], _ => rfl
  have FBr := fun_mk (st := sBranch) lBr cBr kBr
  have bBr := FBr.binds (ps := ["choices", "name", "values"]) fun _ _ _ _ _ _ us hl => match us, hl with | [_, _, _], _ => rfl
  have FIc := fun_mk (st := sIsC) lIc cIc kIc
  have bIc := FIc.binds (ps := ["node"]) fun _ _ _ _ _ _ us hl => match us, hl with | [_], _ => rfl
  have FDr := fun_mk (st := sDrawn) lDr cDr kDr
  have bDr := FDr.binds (ps := ["form"]) fun _ _ _ _ _ _ us hl => match us, hl with | [_], _ => rfl
  have FJo := fun_mk (st := sJoin) lJo cJo kJo
  have bJo := FJo.binds (ps := ["sign", "one", "other"]) fun _ _ _ _ _ _ us hl => match us, hl with | [_, _, _], _ => rfl
  have FUp := fun_mk (st := sUp) lUp cUp kUp
  have bUp := FUp.binds (ps := ["one", "other", "pair"]) fun _ _ _ _ _ _ us hl => match us, hl with | [_, _, _], _ => rfl
  have FBe := fun_mk (st := sBelow) lBe cBe kBe
  have bBe := FBe.binds (ps := ["one", "other", "pair"]) fun _ _ _ _ _ _ us hl => match us, hl with | [_, _, _], _ => rfl
  have FCb := fun_mk (st := sComb) lCb cCb kCb
  have bCb := FCb.binds (ps := ["sign", "one", "other"]) fun _ _ _ _ _ _ us hl => match us, hl with | [_, _, _], _ => rfl
  have FPk := fun_mk (st := sPicked) lPk cPk kPk
  have bPk := FPk.binds (ps := ["sign", "one", "other"]) fun _ _ _ _ _ _ us hl => match us, hl with | [_, _, _], _ => rfl
  have FWk := fun_mk (st := sWorked) lWk cWk kWk
  have bWk := FWk.binds (ps := ["sign", "one", "other"]) fun _ _ _ _ _ _ us hl => match us, hl with | [_, _, _], _ => rfl
  have FPc := fun_mk (st := sPriced) lPc cPc kPc
  have bPc := FPc.binds (ps := ["choices", "world", "prices"]) fun _ _ _ _ _ _ us hl => match us, hl with | [_, _, _], _ => rfl
  have FTe := fun_mk (st := sTrueE) lTe cTe kTe
  have bTe := FTe.binds (ps := ["worth"]) fun _ _ _ _ _ _ us hl => match us, hl with | [_], _ => rfl
  have FFw := fun_mk (st := sFirst) lFw cFw kFw
  have bFw := FFw.binds (ps := ["worth", "world", "costs", "ends"]) fun _ _ _ _ _ _ us hl => match us, hl with | [_, _, _, _], _ => rfl
  have FLc := fun_mk (st := sLeast) lLc cLc kLc
  have bLc := FLc.binds (ps := ["worth", "costs", "ends"]) fun _ _ _ _ _ _ us hl => match us, hl with | [_, _, _], _ => rfl
  have FCw := fun_mk (st := sCostsB) lCw cCw kCw
  have bCw := FCw.binds (ps := ["node", "costs", "least"]) fun _ _ _ _ _ _ us hl => match us, hl with | [_, _, _], _ => rfl
  have FCp := fun_mk (st := sCheap) lCp cCp kCp
  have bCp := FCp.binds (ps := ["worth", "standing", "prices"]) fun _ _ _ _ _ _ us hl => match us, hl with | [_, _, _], _ => rfl
  have FF := fun_mk (st := sFeed) lF cF kF
  have bF := FF.binds (ps := ["_law_script", "_law_k"]) fun _ _ _ _ _ _ us hl => match us, hl with | [_, _], _ => rfl
  have FT := fun_mk (st := sTake) lT cT kT
  have bT := FT.binds (ps := ["_law_feed_here", "_law_many"]) fun _ _ _ _ _ _ us hl => match us, hl with | [_, _], _ => rfl
  have FMi := fun_mk (st := sMixed) lMi cMi kMi
  have bMi := FMi.binds (ps := ["_law_feed_here", "_law_items"]) fun _ _ _ _ _ _ us hl => match us, hl with | [_, _], _ => rfl
  have FNm := fun_mk (st := sNames) lNm cNm kNm
  have bNm := FNm.binds (ps := ["_law_feed_here", "_law_many"]) fun _ _ _ _ _ _ us hl => match us, hl with | [_, _], _ => rfl
  have FSo := fun_mk (st := sSomeF) lSo cSo kSo
  have bSo := FSo.binds (ps := ["_law_feed_here", "_law_many", "_law_most"]) fun _ _ _ _ _ _ us hl => match us, hl with | [_, _, _], _ => rfl
  have FVa := fun_mk (st := sValueF) lVa cVa kVa
  have bVa := FVa.binds (ps := ["_law_feed_here", "_law_form"]) fun _ _ _ _ _ _ us hl => match us, hl with | [_, _], _ => rfl
  have FTr := fun_mk (st := sTreeF) lTr cTr kTr
  have bTr := FTr.binds (ps := ["_law_feed_here", "_law_rows", "_law_deep", "_law_form"]) fun _ _ _ _ _ _ us hl => match us, hl with | [_, _, _, _], _ => rfl
  have FAt := fun_mk (st := sAtF) lAt cAt kAt
  have bAt := FAt.binds (ps := ["_law_tree_here", "_law_world_here"]) fun _ _ _ _ _ _ us hl => match us, hl with | [_, _], _ => rfl
  have FLw := fun_mk (st := sWorthF) lLw cLw kLw
  have bLw := FLw.binds (ps := ["_law_made", "_law_tree_here"]) fun _ _ _ _ _ _ us hl => match us, hl with | [_, _], _ => rfl
  have FWs := fun_mk (st := sWorldsF) lWs cWs kWs
  have bWs := FWs.binds (ps := ["_law_rows"]) fun _ _ _ _ _ _ us hl => match us, hl with | [_], _ => rfl
  have FWo := fun_mk (st := sWorldF) lWo cWo kWo
  have bWo := FWo.binds (ps := ["_law_feed_here", "_law_rows"]) fun _ _ _ _ _ _ us hl => match us, hl with | [_, _], _ => rfl
  have FSh := fun_mk (st := sShortF) lSh cSh kSh
  have bSh := FSh.binds (ps := ["_law_feed_here", "_law_world_here"]) fun _ _ _ _ _ _ us hl => match us, hl with | [_, _], _ => rfl
  have FRo := fun_mk (st := sRowF) lRo cRo kRo
  have bRo := FRo.binds (ps := ["_law_rows", "_law_world_here", "_law_other"]) fun _ _ _ _ _ _ us hl => match us, hl with | [_, _, _], _ => rfl
  have FNa := fun_mk (st := sNamedF) lNa cNa kNa
  have bNa := FNa.binds (ps := ["_law_rows", "_law_row_here"]) fun _ _ _ _ _ _ us hl => match us, hl with | [_, _], _ => rfl
  have FM := fun_mk (st := sSame) lM cM kM
  have bM := FM.binds (ps := ["_law_one", "_law_other"]) fun _ _ _ _ _ _ us hl => match us, hl with | [_, _], _ => rfl
  have FSc := fun_mk (st := sSceneF) lSc cSc kSc
  have bSc := FSc.binds (ps := ["_law_feed_here", "_law_most", "_law_form"]) fun _ _ _ _ _ _ us hl => match us, hl with | [_, _, _], _ => rfl
  have FDu := fun_mk (st := sDueF) lDu cDu kDu
  have bDu := FDu.binds (ps := ["_law_rows", "_law_tree_here", "_law_world_here", "_law_prices"]) fun _ _ _ _ _ _ us hl => match us, hl with | [_, _, _, _], _ => rfl
  have FZ := fun_mk (st := sLaw) lZ cZ kZ
  have gN := PySem.W.mg_of X G aN
  have gD := PySem.W.mg_of X G aD
  have gCh := PySem.W.mg_of X G aCh
  have gKd := PySem.W.mg_of X G aKd
  have gIs := PySem.W.mg_of X G aIs
  have gRk := PySem.W.mg_of X G aRk
  have gIo := PySem.W.mg_of X G aIo
  have gCo := PySem.W.mg_of X G aCo
  have gBr := PySem.W.mg_of X G aBr
  have gIc := PySem.W.mg_of X G aIc
  have gDr := PySem.W.mg_of X G aDr
  have gJo := PySem.W.mg_of X G aJo
  have gUp := PySem.W.mg_of X G aUp
  have gBe := PySem.W.mg_of X G aBe
  have gCb := PySem.W.mg_of X G aCb
  have gPk := PySem.W.mg_of X G aPk
  have gWk := PySem.W.mg_of X G aWk
  have gPc := PySem.W.mg_of X G aPc
  have gTe := PySem.W.mg_of X G aTe
  have gFw := PySem.W.mg_of X G aFw
  have gLc := PySem.W.mg_of X G aLc
  have gCw := PySem.W.mg_of X G aCw
  have gCp := PySem.W.mg_of X G aCp
  have gF := PySem.W.mg_of X G aF
  have gT := PySem.W.mg_of X G aT
  have gMi := PySem.W.mg_of X G aMi
  have gNm := PySem.W.mg_of X G aNm
  have gSo := PySem.W.mg_of X G aSo
  have gVa := PySem.W.mg_of X G aVa
  have gTr := PySem.W.mg_of X G aTr
  have gAt := PySem.W.mg_of X G aAt
  have gLw := PySem.W.mg_of X G aLw
  have gWs := PySem.W.mg_of X G aWs
  have gWo := PySem.W.mg_of X G aWo
  have gSh := PySem.W.mg_of X G aSh
  have gRo := PySem.W.mg_of X G aRo
  have gNa := PySem.W.mg_of X G aNa
  have gM := PySem.W.mg_of X G aM
  have gSc := PySem.W.mg_of X G aSc
  have gDu := PySem.W.mg_of X G aDu
  have gZ := PySem.W.mg_of X G aZ
  have clC : Cls K C := ⟨pgC, hdC, poC, saC⟩
  have clF : Cls K CF := ⟨pgCF, hdCF, poCF, saCF⟩
  have clW : Cls K CW := ⟨pgCW, hdCW, poCW, saCW⟩
  have M : Mk K C fI := ⟨mkC, aI, iI, kcC⟩
  have MF : Mk K CF fFi := ⟨mkCF, aFi, iFi, kcCF⟩
  have MW : Mk K CW fWi := ⟨mkCW, aWi, iWi, kcCW⟩
  have gC := PySem.W.mg_of X G acC
  have gF' := PySem.W.mg_of X G acCF
  have gW' := PySem.W.mg_of X G acCW
  have insC : C8.InsC K C := ⟨clC, attAC, attG, attT, attMC, kCCC⟩
  have insF : C8.InsC K CF := ⟨clF, attACF, attG, attT, attMCF, kCCCF⟩
  have insW : C8.InsC K CW := ⟨clW, attACW, attG, attT, attMCW, kCCCW⟩
  have T : Txt l.prog K mg C c0 c5 c13 f0 f5 f13 := ⟨clC, nC_names, nC__choices, nC__next, gC, E0, E5, E13, t0, t5, t13⟩
  have TE : TxE K mg C := ⟨attAC, attG, attT, attMC, kCCC, kLi, y_isinstance, y_len⟩
  have TF : FormC K mg CF := ⟨clF, nCF_nodes, nCF_levels⟩
  have TW : WorthC K CW := ⟨clW, nCW_choices, nCW_form, nCW_nodes, nCW_outcomes, nCW_depends⟩
  have KT : KitT K := ⟨kit_ty (by decide +kernel), kit_ty (by decide +kernel), kit_ty (by decide +kernel), kit_ty (by decide +kernel), kit_ty (by decide +kernel), kit_ty (by decide +kernel), kit_ty (by decide +kernel), kit_ty (by decide +kernel), kit_ty (by decide +kernel), kit_ty (by decide +kernel), kit_ty (by decide +kernel), kit_ty (by decide +kernel)⟩
  have KN : KitN K := ⟨kit_ty (by decide +kernel), kit_ty (by decide +kernel), kit_ty (by decide +kernel), kit_ty (by decide +kernel), kit_ty (by decide +kernel)⟩
  have KC : KitC K CF := ⟨kFn, kFb, kFi', kFs, insF⟩
  obtain ⟨esK, nK, KD⟩ := He.dicW_ok (w := w) dic
  have KK : KindsK K dK := fun g hg => by
    simp only [sgns, List.mem_cons, List.not_mem_nil, or_false] at hg
    rcases hg with rfl | rfl | rfl | rfl | rfl | rfl | rfl | rfl | rfl
    · have e : kindsOf "+" = (["number"] : List Str) := by decide +kernel
      rw [e]
      exact ⟨aS0, nsS0, fun H => .inr ⟨_, #[.str "number" tk0_0], nS0, lS0, rfl, rfl, (by show 1 ≤ sizeLine; decide), .cons ⟨tk0_0, rfl⟩ .nil⟩⟩
    · have e : kindsOf "-" = (["number"] : List Str) := by decide +kernel
      rw [e]
      exact ⟨aS1, nsS1, fun H => .inr ⟨_, #[.str "number" tk1_0], nS1, lS1, rfl, rfl, (by show 1 ≤ sizeLine; decide), .cons ⟨tk1_0, rfl⟩ .nil⟩⟩
    · have e : kindsOf "*" = (["number"] : List Str) := by decide +kernel
      rw [e]
      exact ⟨aS2, nsS2, fun H => .inr ⟨_, #[.str "number" tk2_0], nS2, lS2, rfl, rfl, (by show 1 ≤ sizeLine; decide), .cons ⟨tk2_0, rfl⟩ .nil⟩⟩
    · have e : kindsOf "least" = (["number"] : List Str) := by decide +kernel
      rw [e]
      exact ⟨aS3, nsS3, fun H => .inr ⟨_, #[.str "number" tk3_0], nS3, lS3, rfl, rfl, (by show 1 ≤ sizeLine; decide), .cons ⟨tk3_0, rfl⟩ .nil⟩⟩
    · have e : kindsOf "most" = (["number"] : List Str) := by decide +kernel
      rw [e]
      exact ⟨aS4, nsS4, fun H => .inr ⟨_, #[.str "number" tk4_0], nS4, lS4, rfl, rfl, (by show 1 ≤ sizeLine; decide), .cons ⟨tk4_0, rfl⟩ .nil⟩⟩
    · have e : kindsOf "below" = (["number", "word"] : List Str) := by decide +kernel
      rw [e]
      exact ⟨aS5, nsS5, fun H => .inr ⟨_, #[.str "number" tk5_0, .str "word" tk5_1], nS5, lS5, rfl, rfl, (by show 2 ≤ sizeLine; decide), .cons ⟨tk5_0, rfl⟩ (.cons ⟨tk5_1, rfl⟩ .nil)⟩⟩
    · have e : kindsOf "same" = (["number", "word", "truth"] : List Str) := by decide +kernel
      rw [e]
      exact ⟨aS6, nsS6, fun H => .inr ⟨_, #[.str "number" tk6_0, .str "word" tk6_1, .str "truth" tk6_2], nS6, lS6, rfl, rfl, (by show 3 ≤ sizeLine; decide), .cons ⟨tk6_0, rfl⟩ (.cons ⟨tk6_1, rfl⟩ (.cons ⟨tk6_2, rfl⟩ .nil))⟩⟩
    · have e : kindsOf "and" = (["truth"] : List Str) := by decide +kernel
      rw [e]
      exact ⟨aS7, nsS7, fun H => .inr ⟨_, #[.str "truth" tk7_0], nS7, lS7, rfl, rfl, (by show 1 ≤ sizeLine; decide), .cons ⟨tk7_0, rfl⟩ .nil⟩⟩
    · have e : kindsOf "or" = (["truth"] : List Str) := by decide +kernel
      rw [e]
      exact ⟨aS8, nsS8, fun H => .inr ⟨_, #[.str "truth" tk8_0], nS8, lS8, rfl, rfl, (by show 1 ≤ sizeLine; decide), .cons ⟨tk8_0, rfl⟩ .nil⟩⟩
  have gKi' := PySem.W.mg_of X G gKi
  have rB : PySem.W.recIn K pB "classmethod" = some (Value.ref fBy :: restB) := by
    unfold PySem.W.recIn
    rw [lpB]
    exact congrArg some hvB
  refine ⟨PySem.W.fnOf "law" "law" (defArgs sLaw) (defBody sLaw) (defScope sLaw) .none kVZ dcZ pmZ anZ cdZ ctZ, fun s v => .of_eq rfl, fun base _ _ => ?_⟩
  have rL : ∃ u, mg "LETTERS" = some u ∧ RelV (.str letters) u := ⟨_, PySem.W.mg_of X G gLe, ⟨_, rfl⟩⟩
  have rD : ∃ u, mg "DIGITS" = some u ∧ RelV (.str digits) u := ⟨_, PySem.W.mg_of X G gDi, ⟨_, rfl⟩⟩
  have GN := ok_isname (P := l.prog) (w := w) (base := base) FN y_isinstance y_str y_len y_all rL rD ⟨_, PySem.W.mg_of X G gMo, ⟨_, rfl⟩⟩ (kit_ty (by decide +kernel))
  have GD := ok_isdec (P := l.prog) (w := w) (base := base) FD y_len y_all rD
  have GCh := ok_isch FCh GN FN.kp bN gN GD FD.kp bD gD
  have GI := ok_init (P := l.prog) (w := w) (base := base) FI T
  have GP := ok_put FP T M FI bI GCh FCh.kp bCh gCh
  have GW := ok_without (w := w) (base := base) FW T M FI bI y_tuple
  have O2 : Own2 l.prog w K mg base C fHa fLe _ _ := ⟨ok_has FHa T, bHa, aHa, iHa, ok_len FLe T y_len, bLe, aLe, iLe⟩
  have OE : OwnE l.prog w K mg base C fE _ := ⟨ok_eq FE T TE, bE, aE, iE, neC, insC⟩
  have UKd : Use l.prog w K mg base "kind_of" 1 fKd _ ["value"] (spKind K) := ⟨ok_kind FKd y_isinstance y_str y_bool y_int, gKd, FKd.kp, bKd⟩
  have GIs := ok_issame FIs KT UKd.G FKd.kp bKd gKd
  have GPk := ok_picked FPk GIs FIs.kp bIs gIs
  have UWk : Use l.prog w K mg base "worked" 1 fWk _ ["sign", "one", "other"] spWork := ⟨ok_work FWk y_min y_max, gWk, FWk.kp, bWk⟩
  have GCb := ok_combO FCb KD gKi' KT GPk FPk.kp bPk gPk UWk UKd.G FKd.kp bKd gKd
  have GRk := ok_rank FRk KT y_int UKd.G FKd.kp bKd gKd
  have UIo : Use l.prog w K mg base "in_order" 3 fIo _ ["values"] (spInOrder K) := ⟨ok_inorder FIo y_list y_sorted GRk FRk.kp bRk gRk, gIo, FIo.kp, bIo⟩
  have GFi := ok_finit (P := l.prog) (w := w) (base := base) FFi TF
  have KF : FormK l.prog w K mg base CF fFi _ := ⟨MF, GFi, bFi, gF', TF⟩
  have UCo : ∀ (nm : Nat → Str) (N : Nat), Use l.prog w K mg base "constant" 3 fCo _ ["choices", "value"] (spConst C CF nm N) := fun nm N => ⟨ok_const FCo KT UKd KF O2 y_len, gCo, FCo.kp, bCo⟩
  have UIc : ∀ (nm : Nat → Str), Use l.prog w K mg base "is_choice" 1 fIc _ ["node"] (spIsC nm) := fun nm => ⟨ok_isc FIc KN y_isinstance y_tuple, gIc, FIc.kp, bIc⟩
  have UUp : ∀ (nm : Nat → Str) (N : Nat), Use l.prog w K mg base "upper_name" 1 fUp _ ["one", "other", "pair"] (spUp CF nm N) := fun nm N => ⟨ok_up FUp TF, gUp, FUp.kp, bUp⟩
  have UBe : ∀ (nm : Nat → Str) (N : Nat), Use l.prog w K mg base "pairs_below" 2 fBe _ ["one", "other", "pair"] (spBelow CF nm N) := fun nm N => ⟨ok_below FBe TF FIc bIc gIc KN y_isinstance y_tuple y_list y_zip, gBe, FBe.kp, bBe⟩
  have UJo : ∀ (nm : Nat → Str) (N : Nat), Use l.prog w K mg base "joined" 5 fJo _ ["sign", "one", "other"] (spJoin CF K dK nm N) := fun nm N => ⟨ok_join FJo (UBe nm N).G FBe.kp bBe gBe (UUp nm N).G FUp.kp bUp gUp GCb FCb.kp bCb gCb MF GFi bFi gF' TF y_len y_tuple y_set y_min, gJo, FJo.kp, bJo⟩
  have UDr : ∀ (nm : Nat → Str) (N : Nat), Use l.prog w K mg base "drawn" 6 fDr _ ["form"] (spDrawn CF nm N) := fun nm N => ⟨ok_drawn FDr (UJo nm N) nsE KF y_max, gDr, FDr.kp, bDr⟩
  have UBr : ∀ (nm : Nat → Str) (N : Nat), Use l.prog w K mg base "branched" 7 fBr _ ["choices", "name", "values"] (spBranchL C CF nm N) := fun nm N => ⟨ok_branchL FBr KT UKd KF O2 (UDr nm N) clC nC_names y_len y_tuple y_range, gBr, FBr.kp, bBr⟩
  have KW : ∀ (nm : Nat → Str) (N : Nat), WorthK l.prog w K mg base CW C CF fWi _ nm N := fun nm N => ⟨MW, ok_winit FWi TW TF KC gF' (UCo nm N) (UIc nm) UIo clC nC_names y_isinstance y_tuple, bWi, gW', TW⟩
  have mWj : Meth K CW "_joined" fWj := ⟨aWj, iWj, kWj⟩
  have GWj := fun (nm : Nat → Str) (N : Nat) => ok_wjoin FWj (KW nm N) (UJo nm N) OE
  have U : WLUse l.prog w K mg base CW C CF fWi fBy fOe fLi pB _ _ _ _ (.type "type") := ⟨KW, fun nm N => ok_byL FBy (KW nm N) (UBr nm N) O2, bBy, ⟨rdW, gaW⟩, ⟨atB, ⟨_, rB⟩, fnB⟩, fun nm N => ok_orelse FOe clW mWj (GWj nm N) bWj nsE, ⟨aOe, iOe, kOe⟩, bOe, fun nm N => ok_limited FLi clW mWj (GWj nm N) bWj nsL, ⟨aLi, iLi, kLi'⟩, bLi⟩
  have OG : OwnQ l.prog w K mg base C c13 fGc _ := ⟨ok_get FGc T, bGc, aGc, fiGc, iGc⟩
  have UF : Use l.prog w K mg base "_law_feed" 1 fF _ ["_law_script", "_law_k"] (spFeed K) := ⟨ok_feed FF y_len y_abs, gF, FF.kp, bF⟩
  have UT : Use l.prog w K mg base "_law_take" 1 fT _ ["_law_feed_here", "_law_many"] (spTake) := ⟨ok_take FT, gT, FT.kp, bT⟩
  have UMi : Use l.prog w K mg base "_law_mixed" 2 fMi _ ["_law_feed_here", "_law_items"] (spMixed K) := ⟨ok_mixed FMi FT bT gT y_list y_len, gMi, FMi.kp, bMi⟩
  have UNm : Use l.prog w K mg base "_law_names" 3 fNm _ ["_law_feed_here", "_law_many"] (spNames) := ⟨ok_names FNm UT UMi y_str y_range, gNm, FNm.kp, bNm⟩
  have USo : Use l.prog w K mg base "_law_some" 4 fSo _ ["_law_feed_here", "_law_many", "_law_most"] (spSome C) := ⟨ok_some' FSo T UT UNm M GI bI GP ⟨aP, iP, kP⟩ bP GW ⟨aW, iW, kW⟩ bW, gSo, FSo.kp, bSo⟩
  have UVa : Use l.prog w K mg base "_law_value" 2 fVa _ ["_law_feed_here", "_law_form"] (spValueF) := ⟨ok_valueF FVa UT y_max, gVa, FVa.kp, bVa⟩
  have GTr := ok_treeF FTr bTr gTr UT UVa y_len y_range
  have UAt : Use l.prog w K mg base "_law_at" 1 fAt _ ["_law_tree_here", "_law_world_here"] (spAtF) := ⟨ok_atF FAt, gAt, FAt.kp, bAt⟩
  have GLw := ok_worthF FLw bLw gLw U gW' y_len y_range y_enumerate
  have GWs := ok_worldsF (P := l.prog) (w := w) (base := base) FWs bWs gWs y_range y_dict y_list
  have UWo : Use l.prog w K mg base "_law_world" 2 fWo _ ["_law_feed_here", "_law_rows"] (spWorldF) := ⟨ok_worldF FWo UT y_dict, gWo, FWo.kp, bWo⟩
  have USh : Use l.prog w K mg base "_law_short" 3 fSh _ ["_law_feed_here", "_law_world_here"] (spShortF) := ⟨ok_shortF FSh UT UMi y_dict y_list, gSh, FSh.kp, bSh⟩
  have URo : Use l.prog w K mg base "_law_row" 1 fRo _ ["_law_rows", "_law_world_here", "_law_other"] (spRowF) := ⟨ok_rowF FRo y_tuple y_enumerate, gRo, FRo.kp, bRo⟩
  have UNa : Use l.prog w K mg base "_law_named" 1 fNa _ ["_law_rows", "_law_row_here"] (spNamedF) := ⟨ok_namedF FNa y_tuple, gNa, FNa.kp, bNa⟩
  have USc : Use l.prog w K mg base "_law_scene" 14 fSc _ ["_law_feed_here", "_law_most", "_law_form"] (spSceneF K CW C CF) := ⟨ok_sceneF FSc UT USo GTr gTr FTr.kp bTr GLw gLw FLw.kp bLw UWo y_min, gSc, FSc.kp, bSc⟩
  have UPc : Use l.prog w K mg base "priced" 4 fPc _ ["choices", "world", "prices"] (spPriced C) := ⟨ok_priced FPc T OG y_range, gPc, FPc.kp, bPc⟩
  have UTe : Use l.prog w K mg base "true_ends" 1 fTe _ ["worth"] (spTrueE CW CF) := ⟨ok_trueE FTe TW, gTe, FTe.kp, bTe⟩
  have UCw : Use l.prog w K mg base "costs_below" 1 fCw _ ["node", "costs", "least"] (spCostsB) := ⟨ok_costsB FCw y_zip, gCw, FCw.kp, bCw⟩
  have ULc : Use l.prog w K mg base "least_costs" 2 fLc _ ["worth", "costs", "ends"] (spLeast CW CF) := ⟨ok_least FLc TW UIc UCw y_zip y_min, gLc, FLc.kp, bLc⟩
  have UFw : Use l.prog w K mg base "first_way" 3 fFw _ ["worth", "world", "costs", "ends"] (spFirst CW CF) := ⟨ok_first FFw TW UIc UCw ULc y_len y_enumerate y_tuple, gFw, FFw.kp, bFw⟩
  have UCp : Use l.prog w K mg base "cheapest" 5 fCp _ ["worth", "standing", "prices"] (spCheap CW C CF) := ⟨ok_cheap FCp TW T (ok_full FFu T) ⟨aFu, iFu, kFu⟩ bFu UPc UTe UFw, gCp, FCp.kp, bCp⟩
  have UDu : Use l.prog w K mg base "_law_due" 8 fDu _ ["_law_rows", "_law_tree_here", "_law_world_here", "_law_prices"] (spDueF) := ⟨ok_dueF FDu GWs gWs FWs.kp bWs UAt URo UNa y_sum y_len y_sorted, gDu, FDu.kp, bDu⟩
  have GM := ok_same2 (P := l.prog) (w := w) (base := base) FM y_repr
  exact ok_law FZ ⟨y_len, y_range, y_max, y_min, y_dict, y_tuple⟩ UF UT USc UWo USh UCp UDu GM FM.kp bM gM
theorem walk {l : PySem.W.OpenLaw} {q : Program} {loose : List Str} {XP : (Str → Option Value) → Heap → Prop} {YP : World → Heap → Prop} {d : DefRec} {K : Params → PySem.W.Frag} (hn : l.most = some 63) (hdf : d.params.defaults = [])
    (hY : ∀ (w : World) (h : Heap), YP w h → (K w.params).In h)
    (F : ∀ (w : World) (mg : Str → Option Value) (fa : Addr) (h : Heap), (K w.params).In h → h.Ns mainGlobals mg → mg d.name = some (.ref fa) →
      ∃ fd : FuncData, (∀ (s : Shared) (u : Value), BindsTo s fd ⟨[u], []⟩ [("_law_script", u)]) ∧ ∀ base : Heap, (K w.params).In base → base.Ns mainGlobals mg → FnG l.prog w (K w.params) mg base CX0 16 fa fd ["_law_script"] (spLaw (K w.params))) :
    PySem.W.WalkO q loose XP YP l.row.toRowW d [] (fun f vs => PySem.call f vs) :=
  walk_ofG (n := 63) (k := 16) (x := "_law_script") (CX := fun _ => CX0) (sp := fun w => spLaw (K w.params)) hn (by decide) hdf ⟨rfl, by decide, by decide⟩ hY F (fun _ _ a ns hl _ hS => ⟨a, ns, rfl, hS, hl, fun _ => rfl⟩) fun _ _ _ _ _ z => z
end R52
open PySem PySem.W PyProof.Rows
set_option maxRecDepth 100000 in
set_option maxHeartbeats 0 in
theorem PySem.Challenge.cw_hadnot_k52_cheapest_worlds_holds : PySem.Challenge.rw_hadnot_k52_cheapest_worlds.Holds := by
  w_on; o_law; k_head; (case hw => w_witness2)
  k_fill
  refine R52.walk (l := PySem.Challenge.rw_hadnot_k52_cheapest_worlds) rfl rfl (fun w h Y => PySem.W.kIn_of Y) ?F
  case F =>
    intro w mg fa h KX G hmg
    refine' R52.all_mk KX G hmg ?a0 ?n0 ?l0 ?o0 ?v0 ?p0 ?d0 ?x0 ?h0 ?r0 ?s0 ?e0 ?t0 ?a5 ?n5 ?l5 ?o5 ?v5 ?p5 ?d5 ?x5 ?h5 ?r5 ?s5 ?e5 ?t5 ?a13 ?n13 ?l13 ?o13 ?v13 ?p13 ?d13 ?x13 ?h13 ?s13 ?e13 ?t13 ?top ?attG ?attT ?acC ?pgC ?hdC ?poC ?saC ?mkC ?kcC ?nC_names ?nC__choices ?nC__next ?attAC ?attMC ?kCCC ?acCF ?pgCF ?hdCF ?poCF ?saCF ?mkCF ?kcCF ?nCF_nodes ?nCF_levels ?attACF ?attMCF ?kCCCF ?acCW ?pgCW ?hdCW ?poCW ?saCW ?mkCW ?kcCW ?nCW_choices ?nCW_form ?nCW_nodes ?nCW_outcomes ?nCW_depends ?attACW ?attMCW ?kCCCW ?kLi ?neC ?kFn ?kFb ?kFi' ?kFs ?aI ?iI ?lI ?cI ?kI ?aP ?iP ?lP ?cP ?kP ?aW ?iW ?lW ?cW ?kW ?aHa ?iHa ?lHa ?cHa ?kHa ?aLe ?iLe ?lLe ?cLe ?kLe ?aE ?iE ?lE ?cE ?kE ?aGc ?iGc ?lGc ?cGc ?kGc ?aFu ?iFu ?lFu ?cFu ?kFu ?aFi ?iFi ?lFi ?cFi ?kFi ?aWi ?iWi ?lWi ?cWi ?kWi ?aWj ?iWj ?lWj ?cWj ?kWj ?aLi ?iLi ?lLi ?cLi ?kLi' ?aOe ?iOe ?lOe ?cOe ?kOe ?apB ?rdW ?gaW ?atB ?lpB ?hvB ?lBy ?fnB ?cBy ?kBy ?aN ?lN ?cN ?kN ?aD ?lD ?cD ?kD ?aCh ?lCh ?cCh ?kCh ?aKd ?lKd ?cKd ?kKd ?aIs ?lIs ?cIs ?kIs ?aRk ?lRk ?cRk ?kRk ?aIo ?lIo ?cIo ?kIo ?aCo ?lCo ?cCo ?kCo ?aBr ?lBr ?cBr ?kBr ?aIc ?lIc ?cIc ?kIc ?aDr ?lDr ?cDr ?kDr ?aJo ?lJo ?cJo ?kJo ?aUp ?lUp ?cUp ?kUp ?aBe ?lBe ?cBe ?kBe ?aCb ?lCb ?cCb ?kCb ?aPk ?lPk ?cPk ?kPk ?aWk ?lWk ?cWk ?kWk ?aPc ?lPc ?cPc ?kPc ?aTe ?lTe ?cTe ?kTe ?aFw ?lFw ?cFw ?kFw ?aLc ?lLc ?cLc ?kLc ?aCw ?lCw ?cCw ?kCw ?aCp ?lCp ?cCp ?kCp ?aF ?lF ?cF ?kF ?aT ?lT ?cT ?kT ?aMi ?lMi ?cMi ?kMi ?aNm ?lNm ?cNm ?kNm ?aSo ?lSo ?cSo ?kSo ?aVa ?lVa ?cVa ?kVa ?aTr ?lTr ?cTr ?kTr ?aAt ?lAt ?cAt ?kAt ?aLw ?lLw ?cLw ?kLw ?aWs ?lWs ?cWs ?kWs ?aWo ?lWo ?cWo ?kWo ?aSh ?lSh ?cSh ?kSh ?aRo ?lRo ?cRo ?kRo ?aNa ?lNa ?cNa ?kNa ?aM ?lM ?cM ?kM ?aSc ?lSc ?cSc ?kSc ?aDu ?lDu ?cDu ?kDu ?aZ ?lZ ?cZ ?kZ ?z_super ?z_range ?z_max ?z_min ?z_len ?z_isinstance ?z_int ?z_bool ?z_tuple ?z_list ?z_str ?z_repr ?z_abs ?z_all ?z_set ?z_sorted ?z_zip ?z_sum ?z_dict ?z_enumerate ?gLe ?gDi ?gMo ?gKi ?dic ?nsE ?nsL ?nsS0 ?lS0 ?nsS1 ?lS1 ?nsS2 ?lS2 ?nsS3 ?lS3 ?nsS4 ?lS4 ?nsS5 ?lS5 ?nsS6 ?lS6 ?nsS7 ?lS7 ?nsS8 ?lS8 ?fiGc
    (case a0 => k_is)
    (case n0 => k_is)
    (case l0 => k_is)
    (case o0 => k_is)
    (case v0 => rfl)
    (case p0 => first | rfl | decide +kernel | kernel_rfl)
    (case d0 => k_is)
    (case x0 => k_is)
    (case h0 => k_is)
    (case r0 => first | rfl | decide +kernel)
    (case s0 => kernel_rfl)
    (case e0 => kernel_rfl)
    (case t0 => first | k_is | kernel_rfl | decide +kernel)
    (case a5 => k_is)
    (case n5 => k_is)
    (case l5 => k_is)
    (case o5 => k_is)
    (case v5 => rfl)
    (case p5 => first | rfl | decide +kernel | kernel_rfl)
    (case d5 => k_is)
    (case x5 => k_is)
    (case h5 => k_is)
    (case r5 => first | rfl | decide +kernel)
    (case s5 => kernel_rfl)
    (case e5 => kernel_rfl)
    (case t5 => first | k_is | kernel_rfl | decide +kernel)
    (case a13 => k_is)
    (case n13 => k_is)
    (case l13 => k_is)
    (case o13 => k_is)
    (case v13 => rfl)
    (case p13 => first | rfl | decide +kernel | kernel_rfl)
    (case d13 => k_is)
    (case x13 => k_is)
    (case h13 => k_is)
    (case s13 => kernel_rfl)
    (case e13 => kernel_rfl)
    (case t13 => first | k_is | kernel_rfl | decide +kernel)
    (case top => first | rfl | decide +kernel | kernel_rfl)
    (case attG => k_is)
    (case attT => k_is)
    (case acC => k_is)
    (case pgC => k_is)
    (case hdC => k_is)
    (case poC => k_is)
    (case saC => k_is)
    (case mkC => k_is)
    (case kcC => k_is)
    (case nC_names => k_is)
    (case nC__choices => k_is)
    (case nC__next => k_is)
    (case attAC => k_is)
    (case attMC => k_is)
    (case kCCC => kernel_rfl)
    (case acCF => k_is)
    (case pgCF => k_is)
    (case hdCF => k_is)
    (case poCF => k_is)
    (case saCF => k_is)
    (case mkCF => k_is)
    (case kcCF => k_is)
    (case nCF_nodes => k_is)
    (case nCF_levels => k_is)
    (case attACF => k_is)
    (case attMCF => k_is)
    (case kCCCF => kernel_rfl)
    (case acCW => k_is)
    (case pgCW => k_is)
    (case hdCW => k_is)
    (case poCW => k_is)
    (case saCW => k_is)
    (case mkCW => k_is)
    (case kcCW => k_is)
    (case nCW_choices => k_is)
    (case nCW_form => k_is)
    (case nCW_nodes => k_is)
    (case nCW_outcomes => k_is)
    (case nCW_depends => k_is)
    (case attACW => k_is)
    (case attMCW => k_is)
    (case kCCCW => kernel_rfl)
    (case kLi => kernel_rfl)
    (case neC => k_is)
    (case kFn => kernel_rfl)
    (case kFb => kernel_rfl)
    (case kFi' => kernel_rfl)
    (case kFs => kernel_rfl)
    (case aI => k_is)
    (case iI => k_is)
    (case lI => k_is)
    (case cI => k_is)
    (case kI => k_is)
    (case aP => k_is)
    (case iP => k_is)
    (case lP => k_is)
    (case cP => k_is)
    (case kP => k_is)
    (case aW => k_is)
    (case iW => k_is)
    (case lW => k_is)
    (case cW => k_is)
    (case kW => k_is)
    (case aHa => k_is)
    (case iHa => k_is)
    (case lHa => k_is)
    (case cHa => k_is)
    (case kHa => k_is)
    (case aLe => k_is)
    (case iLe => k_is)
    (case lLe => k_is)
    (case cLe => k_is)
    (case kLe => k_is)
    (case aE => k_is)
    (case iE => k_is)
    (case lE => k_is)
    (case cE => k_is)
    (case kE => k_is)
    (case aGc => k_is)
    (case iGc => k_is)
    (case lGc => k_is)
    (case cGc => k_is)
    (case kGc => k_is)
    (case aFu => k_is)
    (case iFu => k_is)
    (case lFu => k_is)
    (case cFu => k_is)
    (case kFu => k_is)
    (case aFi => k_is)
    (case iFi => k_is)
    (case lFi => k_is)
    (case cFi => k_is)
    (case kFi => k_is)
    (case aWi => k_is)
    (case iWi => k_is)
    (case lWi => k_is)
    (case cWi => k_is)
    (case kWi => k_is)
    (case aWj => k_is)
    (case iWj => k_is)
    (case lWj => k_is)
    (case cWj => k_is)
    (case kWj => k_is)
    (case aLi => k_is)
    (case iLi => k_is)
    (case lLi => k_is)
    (case cLi => k_is)
    (case kLi' => k_is)
    (case aOe => k_is)
    (case iOe => k_is)
    (case lOe => k_is)
    (case cOe => k_is)
    (case kOe => k_is)
    (case apB => k_is)
    (case rdW => first | k_is | kernel_rfl | decide +kernel)
    (case gaW => k_is)
    (case atB => kernel_rfl)
    (case lpB => k_is)
    (case hvB => rfl)
    (case lBy => k_is)
    (case fnB => first | k_is | kernel_rfl | decide +kernel)
    (case cBy => k_is)
    (case kBy => k_is)
    (case aN => k_is)
    (case lN => k_is)
    (case cN => k_is)
    (case kN => k_is)
    (case aD => k_is)
    (case lD => k_is)
    (case cD => k_is)
    (case kD => k_is)
    (case aCh => k_is)
    (case lCh => k_is)
    (case cCh => k_is)
    (case kCh => k_is)
    (case aKd => k_is)
    (case lKd => k_is)
    (case cKd => k_is)
    (case kKd => k_is)
    (case aIs => k_is)
    (case lIs => k_is)
    (case cIs => k_is)
    (case kIs => k_is)
    (case aRk => k_is)
    (case lRk => k_is)
    (case cRk => k_is)
    (case kRk => k_is)
    (case aIo => k_is)
    (case lIo => k_is)
    (case cIo => k_is)
    (case kIo => k_is)
    (case aCo => k_is)
    (case lCo => k_is)
    (case cCo => k_is)
    (case kCo => k_is)
    (case aBr => k_is)
    (case lBr => k_is)
    (case cBr => k_is)
    (case kBr => k_is)
    (case aIc => k_is)
    (case lIc => k_is)
    (case cIc => k_is)
    (case kIc => k_is)
    (case aDr => k_is)
    (case lDr => k_is)
    (case cDr => k_is)
    (case kDr => k_is)
    (case aJo => k_is)
    (case lJo => k_is)
    (case cJo => k_is)
    (case kJo => k_is)
    (case aUp => k_is)
    (case lUp => k_is)
    (case cUp => k_is)
    (case kUp => k_is)
    (case aBe => k_is)
    (case lBe => k_is)
    (case cBe => k_is)
    (case kBe => k_is)
    (case aCb => k_is)
    (case lCb => k_is)
    (case cCb => k_is)
    (case kCb => k_is)
    (case aPk => k_is)
    (case lPk => k_is)
    (case cPk => k_is)
    (case kPk => k_is)
    (case aWk => k_is)
    (case lWk => k_is)
    (case cWk => k_is)
    (case kWk => k_is)
    (case aPc => k_is)
    (case lPc => k_is)
    (case cPc => k_is)
    (case kPc => k_is)
    (case aTe => k_is)
    (case lTe => k_is)
    (case cTe => k_is)
    (case kTe => k_is)
    (case aFw => k_is)
    (case lFw => k_is)
    (case cFw => k_is)
    (case kFw => k_is)
    (case aLc => k_is)
    (case lLc => k_is)
    (case cLc => k_is)
    (case kLc => k_is)
    (case aCw => k_is)
    (case lCw => k_is)
    (case cCw => k_is)
    (case kCw => k_is)
    (case aCp => k_is)
    (case lCp => k_is)
    (case cCp => k_is)
    (case kCp => k_is)
    (case aF => k_is)
    (case lF => k_is)
    (case cF => k_is)
    (case kF => k_is)
    (case aT => k_is)
    (case lT => k_is)
    (case cT => k_is)
    (case kT => k_is)
    (case aMi => k_is)
    (case lMi => k_is)
    (case cMi => k_is)
    (case kMi => k_is)
    (case aNm => k_is)
    (case lNm => k_is)
    (case cNm => k_is)
    (case kNm => k_is)
    (case aSo => k_is)
    (case lSo => k_is)
    (case cSo => k_is)
    (case kSo => k_is)
    (case aVa => k_is)
    (case lVa => k_is)
    (case cVa => k_is)
    (case kVa => k_is)
    (case aTr => k_is)
    (case lTr => k_is)
    (case cTr => k_is)
    (case kTr => k_is)
    (case aAt => k_is)
    (case lAt => k_is)
    (case cAt => k_is)
    (case kAt => k_is)
    (case aLw => k_is)
    (case lLw => k_is)
    (case cLw => k_is)
    (case kLw => k_is)
    (case aWs => k_is)
    (case lWs => k_is)
    (case cWs => k_is)
    (case kWs => k_is)
    (case aWo => k_is)
    (case lWo => k_is)
    (case cWo => k_is)
    (case kWo => k_is)
    (case aSh => k_is)
    (case lSh => k_is)
    (case cSh => k_is)
    (case kSh => k_is)
    (case aRo => k_is)
    (case lRo => k_is)
    (case cRo => k_is)
    (case kRo => k_is)
    (case aNa => k_is)
    (case lNa => k_is)
    (case cNa => k_is)
    (case kNa => k_is)
    (case aM => k_is)
    (case lM => k_is)
    (case cM => k_is)
    (case kM => k_is)
    (case aSc => k_is)
    (case lSc => k_is)
    (case cSc => k_is)
    (case kSc => k_is)
    (case aDu => k_is)
    (case lDu => k_is)
    (case cDu => k_is)
    (case kDu => k_is)
    (case aZ => k_is)
    (case lZ => k_is)
    (case cZ => k_is)
    (case kZ => k_is)
    (case z_super => k_is)
    (case z_range => k_is)
    (case z_max => k_is)
    (case z_min => k_is)
    (case z_len => k_is)
    (case z_isinstance => k_is)
    (case z_int => k_is)
    (case z_bool => k_is)
    (case z_tuple => k_is)
    (case z_list => k_is)
    (case z_str => k_is)
    (case z_repr => k_is)
    (case z_abs => k_is)
    (case z_all => k_is)
    (case z_set => k_is)
    (case z_sorted => k_is)
    (case z_zip => k_is)
    (case z_sum => k_is)
    (case z_dict => k_is)
    (case z_enumerate => k_is)
    (case gLe => k_is)
    (case gDi => k_is)
    (case gMo => k_is)
    (case gKi => k_is)
    (case dic => kernel_rfl)
    (case nsE => first | k_is | kernel_rfl | decide +kernel)
    (case nsL => first | k_is | kernel_rfl | decide +kernel)
    (case nsS0 => k_is)
    (case lS0 => k_is)
    (case nsS1 => k_is)
    (case lS1 => k_is)
    (case nsS2 => k_is)
    (case lS2 => k_is)
    (case nsS3 => k_is)
    (case lS3 => k_is)
    (case nsS4 => k_is)
    (case lS4 => k_is)
    (case nsS5 => k_is)
    (case lS5 => k_is)
    (case nsS6 => k_is)
    (case lS6 => k_is)
    (case nsS7 => k_is)
    (case lS7 => k_is)
    (case nsS8 => k_is)
    (case lS8 => k_is)
    (case fiGc => first | k_is | kernel_rfl | decide +kernel)
