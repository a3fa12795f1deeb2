import PyProof.Rows.All
import Wide.All
import OpenK.AllK
import Wide.FinOn
import HandS.ForMost
import HandS.ExcOwn
import HandS.EndBits
import HandS.Codes
import HandS.Wide
import HandS.TupAny
import HandS.ForExc
import HandS.IsInst
import HandS.Strs
import HandS.SetKeys
import HandS.TupMul
import HandS.TryMany
import HandS.DictComp
import HandS.Conv
import HandS.SortKw
import KE.KExcInit
import KE.SortKeyHeap
import KE.KDictSum
import PyProof.NeData
import PyProof.EqKinds
import OpenK.KMake
import HandS.TupLen
import HandS.Walk
import HandS.Iter
import KE.KDictDisplayH
import HandS.DictTup
import HandS.ListItems
import KE.KDictItemsList
import HandS.SortInts
import HandS.More
import HandS.ExcIs
import KE.KExcIs
import HandS.DictEq
import KE.KEqNest
import KE.DataEq
import HandS.Flow
import KE.SortData
import PyProof.Rows.SortWalk
import KE.KNestM
import HandS.Zip
import KE.GoesMore
import KE.GoesEnum
import HandS.Style
import HandS.StrMore
import KE.IntTextLaws
import HandS.WrittenGet
import HandS.FStr
import PyProof.StrBlock2
import HandS.Star
import HandS.RaiseMore
import HandS.TryOnly
import KE.KUnpackStar
import KE.KTryMore
import KE.KDictPairs
import KE.KDictCopyH
import HandS.TupLe
import HandS.Defaults
import HandS.MakeKwOnly
import HandS.SetFor
import PySem.Challenge.RW_seenbefore_k58_whole_needed_values_and_c
set_option Elab.async false
set_option linter.all false
set_option maxRecDepth 100000
set_option maxHeartbeats 4000000
namespace Sb
open PySem PySem.Spec PyProof.Rows L2
/-- as FnOk, for calls around which no repr is under way -/
structure FnG (P : Program) (w : World) (K : PySem.W.Frag) (mg : Str → Option Value) (base : Heap) (CX : CXT) (k : Nat) (f : Addr)
    (fd : FuncData) (ps : List Str) (sp : Sp) : Prop where
  len : ∀ vs H Q E, sp vs H Q E → vs.length = ps.length
  run : ∀ (A : Around) (outer : List Env) (s : Shared) (H : Hp) (args : Args) (us : List Value) (vs : List V) (Q : VK) (E : XK),
    A.guards = some [] → Room k A → Env0 P w K mg base A outer s H → BindsTo s fd args (ps.zip us) → Vals vs us → sp vs H Q E →
    codeAny (model P w) A (.call (.ref f) args) (CR CX outer P w H s Q E) s
section
variable {P : Program} {w : World} {K : PySem.W.Frag} {mg : Str → Option Value} {base : Heap} {CX : CXT} {k : Nat} {f : Addr}
theorem FnG.mono {j : Nat} {fd : FuncData} {ps : List Str} {sp : Sp} (F : FnG P w K mg base CX j f fd ps sp) (h : j ≤ k) : FnG P w K mg base CX k f fd ps sp :=
  { len := F.len, run := fun A o s H a us vs Q E g r => F.run A o s H a us vs Q E g (r.mono h) }
theorem FnG.of {fd : FuncData} {ps : List Str} {sp : Sp} (F : FnOk P w K mg base CX k f fd ps sp) : FnG P w K mg base CX k f fd ps sp :=
  { len := F.len, run := fun A o s H a us vs Q E _ r => F.run A o s H a us vs Q E r }
/-- from a body to its def -/
theorem fnG_body {name qual : Str} {params : Arguments} {body : List Stmt} {sc : Scope} {dV kV doc pm cdv ct oc : Value} {an od : Option Addr} {osl : Array (Option Value)} {N ps : List Str} {sp : Sp}
    (lk : K.lookup f = some ⟨oc, od, .func (PySem.W.fnOf name qual params body sc dV kV doc pm an cdv ct), osl⟩) (hcd : PySem.W.codeIn K cdv qual = true) (S : FnScope N ps sc)
    (len : ∀ vs H Q E, sp vs H Q E → vs.length = ps.length)
    (walk : ∀ (A : Around) (outer : List Env) (s : Shared) (H : Hp) (vs : List V) (Q : VK) (E : XK), A.guards = some [] →
      Room k (A.deeper (envOfC qual sc s.heap.objs.size f cdv)) → sp vs H Q E →
      ∃ t, PSs (cxOf CX P w K mg base N qual sc f cdv A outer s H E) body t ∧ t { nx := fun _ H' => Q .non H', rt := Q } (start N vs) H) :
    FnG P w K mg base CX (k + 1) f (PySem.W.fnOf name qual params body sc dV kV doc pm an cdv ct) ps sp := by
  constructor
  · exact len
  intro A outer s H args us vs Q E gd room e0 bd rv want
  have inK : K.In s.heap := e0.mod.kin.keeps fun b o q => (e0.bs b o q).1
  have noLim : s.heap.NoLimit := e0.mod.nolimit.keeps fun b o q => (e0.bs b o q).1
  have kinds : ∀ y ∈ ps.zip us, sc.names.lookup y.1 = some .local ∨
      (sc.names.lookup y.1 = some .cell ∧ ((cellsFrom (s.heap.objs.size + 1) sc.names []).lookup y.1).isSome = true) := by
    rintro ⟨n, v⟩ hy
    cases S.par n (List.of_mem_zip hy).1 with
    | inl q => exact Or.inl q
    | inr q => exact Or.inr ⟨q, PySem.W.cellsFrom_some _ _ _ (Or.inl q)⟩
  apply codeAny_call_function room.depth (inK _ _ lk) rfl S.co S.gen rfl (PySem.W.codeRec_of inK hcd)
  apply bd
  apply wpAny_newFunctionEnv_cells S.kind kinds
  intro env he s1 x
  subst he
  refine ⟨noLim.keeps x.toInCall.keep, ?_⟩
  apply codeAny_func
  obtain ⟨t, ht, hq⟩ := walk A outer s H vs Q E gd (room.deeper _) want
  have I := inv_start (CX := CX) (E := E) S room.hd e0 (len _ _ _ _ want) rv x
  refine wpAny_mono (ht.run [] s1 (start N vs) H _ I hq) (fun fl s' hs => ?_) (fun _ _ hs => hs)
  match fl, hs with
  | .ret u, ⟨v, σ', H', J, r', q⟩ => exact ⟨v, H', J.os, J.bare, J.base, J.hok, r', q⟩
  | .next, ⟨σ', H', J, q⟩ => exact ⟨V.non, H', J.os, J.bare, J.base, J.hok, rfl, q⟩
  | .brk, ⟨_, _, _, q⟩ => exact q.elim
  | .cont, ⟨_, _, _, q⟩ => exact q.elim
/-- a def of the text; its walk may use that no repr is under way -/
theorem okG {x qual : Str} {st : Stmt} {fd : FuncData} {N ps : List Str} {sp : Sp} (F : Fun K x qual st f fd) (S : FnScope N ps (defScope st)) (len : ∀ vs H Q E, sp vs H Q E → vs.length = ps.length)
    (walk : ∀ (cdv : Value) (A : Around) (outer : List Env) (s : Shared) (H : Hp) (vs : List V) (Q : VK) (E : XK), A.guards = some [] →
      Room k (A.deeper (envOfC qual (defScope st) s.heap.objs.size f cdv)) → sp vs H Q E →
      ∃ t, PSs (cxOf CX0 P w K mg base N qual (defScope st) f cdv A outer s H E).nox (defBody st) t ∧ t { nx := fun _ H' => Q .non H', rt := Q } (start N vs) H) :
    FnG P w K mg base CX0 (k + 1) f fd ps sp := by
  obtain ⟨oc, od, kV, doc, pm, an, cdv, ct, osl, e, lk, hcd⟩ := F.ex
  subst e
  apply fnG_body lk hcd S len
  intro A outer s H vs Q E gd room want
  obtain ⟨t, h, q⟩ := walk cdv A outer s H vs Q E gd room want
  exact ⟨t, h.nox, q⟩
/-- the same for a def that may raise -/
theorem okGX {x qual : Str} {st : Stmt} {fd : FuncData} {N ps : List Str} {sp : Sp} (F : Fun K x qual st f fd) (S : FnScope N ps (defScope st)) (len : ∀ vs H Q E, sp vs H Q E → vs.length = ps.length)
    (walk : ∀ (cdv : Value) (A : Around) (outer : List Env) (s : Shared) (H : Hp) (vs : List V) (Q : VK) (E : XK), A.guards = some [] →
      Room k (A.deeper (envOfC qual (defScope st) s.heap.objs.size f cdv)) → sp vs H Q E →
      ∃ t, PSs (cxOf (L2.CX P w) P w K mg base N qual (defScope st) f cdv A outer s H E) (defBody st) t ∧ t { nx := fun _ H' => Q .non H', rt := Q } (start N vs) H) :
    FnG P w K mg base (L2.CX P w) (k + 1) f fd ps sp := by
  obtain ⟨oc, od, kV, doc, pm, an, cdv, ct, osl, e, lk, hcd⟩ := F.ex
  subst e
  exact fnG_body lk hcd S len fun A outer s H vs Q E gd room want => walk cdv A outer s H vs Q E gd room want
end
section
variable {X : Cx} {CX : CXT} {k : Nat} {f C : Addr} {fd : FuncData} {ps : List Str} {sp : Sp} {dvs : List V} {ds : List Value} {x m : Str} {p pos apos : Pos} {e o : Expr} {es : List Expr} {ta : TE} {t : TA}
/-- the callee runs; E hangs on the slots -/
theorem runG {pins : List (Addr × Obj)} {σ : L2.St} {H : Hp} {s : Shared} {Q : VK} {E : XK} {us : List Value} {vs : List V} (F : FnG X.prog X.w X.K X.mg X.base CX k f fd ps sp) (gd : X.A.guards = some []) (hr : Room k X.A)
    (hb : Binds X.K fd ps ds) (hd : Vals dvs ds) (hx : ∀ (e : Value) (s' : Shared), CX X.stack H s E e s' → X.xe e s') (I : Inv X pins σ H s) (r : Vals vs us) (h : sp (vs ++ dvs) H Q E) :
    wpAny (model X.prog X.w) X.A (call (.ref f) us) (EP X pins σ Q) X.xe s := by
  have rr := r.append hd
  have nl : (us ++ ds).length = ps.length := rr.length ▸ F.len _ _ _ _ h
  apply wpAny_call
  refine codeAny_mono (F.run X.A X.stack s H ⟨us, []⟩ _ _ Q E gd hr I.env0 (hb s us I.kIn nl) rr h) ?_
  intro res s' hres
  match res, hres with
  | .error er, z => exact hx er s' z
  | .ok (.ret u), z => exact I.after z
  | .ok .next, z => exact z.elim
  | .ok .brk, z => exact z.elim
  | .ok .cont, z => exact z.elim
/-- f(e, ..) -/
theorem pe_callG {E : XK} (F : FnG X.prog X.w X.K X.mg X.base CX k f fd ps sp) (gd : X.A.guards = some []) (hr : Room k X.A) (hg : Gl X x) (hm : X.mg x = some (.ref f)) (hk : PySem.W.keepIn X.K (.ref f) = true)
    (hb : Binds X.K fd ps ds) (hd : Vals dvs ds) (hx : Passes CX X E) (ha : PA X (e :: es) t) (hdb : (x == ("__debug__" : Str)) = false := by decide)
    (he : starEach (e :: es) X.env = (false, eval e X.env) :: starEach es X.env := by rfl)
    (hpl : (backTo pos (starEach es X.env)).any (·.1) = false := by rfl) : PE X (.Call (.Name x p) (e :: es) [] pos) (tCall sp dvs E t) := by
  constructor
  intro pins s σ H Q I h
  apply wpAny_Call_Name_kw
  apply ld_glob I hg hm _ hdb
  apply PySem.W.callWith_K (h₀ := X.base) I.ok.mod.kin hk _ he hpl
  refine thn (ha.run pos pins s σ H _ I h) ?_
  rintro us s1 ⟨vs, H1, I1, r, q⟩
  exact ⟨I1.kIn, runG F gd hr hb hd (fun er s' z => hx pins σ H1 s1 er s' I1 z) I1 r q⟩
end
end Sb
namespace Sb
open PySem PySem.Spec PyProof.Rows L2
section
variable {P : Program} {w : World} {K : PySem.W.Frag} {mg mb : Str → Option Value} {k : Nat} {fa a : Addr} {fd : FuncData} {x : Str} {sp : Sp} {s1 : Shared} {vs : List Value} {ns : List Int}
/-- what the row asks of the law's call -/
abbrev Done (P : Program) (w : World) (fa a : Addr) (s1 : Shared) : Prop := codeAny (model P w) callerA (.call (.ref fa) ⟨[.ref a], []⟩)
  (fun r s' => r = .ok (.ret (.bool true)) ∧ OldK s1.heap s'.heap ∧ s'.os = s1.os ∧ AllBare s'.gens) s1
/-- the law's call over an abstract heap that tracks the script at most -/
theorem overH {H : Hp} (KX : K.In s1.heap) (hns : s1.heap.Ns mainGlobals mg) (hb : s1.heap.Ns builtinsNs mb) (hbb : ∀ x : Str, x ≠ "__name__" → mb x = bootBuiltins x) (hlim : s1.heap.NoLimit) (hg : s1.gens = #[])
    (ha : s1.heap.get? a = some { cls := .type "list", data := .seq vs.toArray }) (hr : Room k callerA)
    (F : ∀ base : Heap, K.In base → base.Ns mainGlobals mg → FnG P w K mg base CX0 k fa fd [x] sp) (bd : ∀ (s : Shared) (u : Value), BindsTo s fd ⟨[u], []⟩ [(x, u)])
    (hO : Only H) (ok : HOk P w H s1.heap) (onlyA : ∀ b, H b ≠ none → b = a) (notK : H a ≠ none → K.lookup a = none)
    (want : sp [.ref a] H (fun v _ => v = .bl true) fun _ _ _ => False) : Done P w fa a s1 := by
  have free : ∀ {b : Addr} {o : Obj}, s1.heap.get? b = some o → (b = a → H b = none) → H b = none := by
    intro b o _ z
    cases q : H b with
    | none => rfl
    | some u =>
      have e : b = a := onlyA b (by simp [q])
      rw [z e] at q
      cases q
  have dict : ∀ {b : Addr} {o : Obj} {es : Array DictEntry} {ep : Nat}, s1.heap.get? b = some o → o.data = .dict es ep → H b = none := by
    intro b o es ep e d
    apply free e
    intro z
    subst z
    rw [ha] at e
    cases e
    cases (show Data.seq vs.toArray _ = Data.dict es ep from d)
  have spaces : ∀ {b : Addr} {m : Str → Option Value}, s1.heap.Ns b m → (hidT s1.heap H).Ns b m := by
    rintro b m ⟨o, es, ep, e, d, r⟩
    exact ⟨o, es, ep, hidT_get e (dict e d), d, r⟩
  have inB : K.In (hidT s1.heap H) := by
    intro b o e
    refine hidT_get (KX b o e) (free (KX b o e) fun z => ?_)
    subst z
    cases q : H b with
    | none => rfl
    | some u =>
      rw [notK (by simp [q])] at e
      cases e
  obtain ⟨mc, c1, c2⟩ := hlim
  have md : Mod K mg (hidT s1.heap H) := ⟨inB, spaces hns, ⟨mb, spaces hb, hbb⟩, ⟨mc, spaces c1, c2⟩⟩
  have e0 : Env0 P w K mg (hidT s1.heap H) callerA [] s1 H :=
    { frames := rfl, mod := md, bs := fun b o e => of_hidT e, bsz := Nat.le_of_eq (hidT_size _ _), funs := trivial, frf := (fun b z => (by cases z)), hok := ok, bare := .of_eq hg }
  have run := (F _ inB (spaces hns)).run callerA [] s1 H ⟨[.ref a], []⟩ [.ref a] [.ref a] _ _ rfl hr e0 (bd s1 (.ref a)) (.cons rfl .nil) want
  refine codeAny_mono run ?_
  intro r s' z
  match r, z with
  | .error e, z =>
    exact False.elim z
  | .ok .next, z => exact False.elim z
  | .ok .brk, z => exact False.elim z
  | .ok .cont, z => exact False.elim z
  | .ok (.ret u), ⟨v, H', os, bare, un, ok', rel, q⟩ =>
    subst q
    obtain rfl : u = Value.bool true := rel
    refine ⟨rfl, OldK.of_keep ?_, os, bare⟩
    intro b o e
    cases q : H b with
    | none => exact un.keep b o e q (fun z => by cases z) (fun z => by cases z)
    | some u =>
      cases hO b with
      | inl z =>
        rw [q] at z
        cases z
      | inr z =>
        obtain ⟨ob, xs, z⟩ := z
        have e1 := (ok b _ z).1
        have e2 := (ok' b _ (un.frzs b ob _ z)).1
        rw [e] at e1
        cases e1
        exact e2
/-- the law's call -/
theorem law_callG (KX : K.In s1.heap) (hns : s1.heap.Ns mainGlobals mg) (hb : s1.heap.Ns builtinsNs mb) (hbb : ∀ x : Str, x ≠ "__name__" → mb x = bootBuiltins x) (hlim : s1.heap.NoLimit) (hg : s1.gens = #[])
    (ha : s1.heap.get? a = some { cls := .type "list", data := .seq vs.toArray }) (hi : IntsAre vs ns) (hl : ns.length ≤ sizeLine) (hr : Room k callerA)
    (F : ∀ base : Heap, K.In base → base.Ns mainGlobals mg → FnG P w K mg base CX0 k fa fd [x] sp) (bd : ∀ (s : Shared) (u : Value), BindsTo s fd ⟨[u], []⟩ [(x, u)])
    (want : ∀ H : Hp, Only H → SqL K H a (ns.map V.int) → sp [.ref a] H (fun v _ => v = .bl true) fun _ _ _ => False) : Done P w fa a s1 := by
  have rv := vals_ints hi
  have nv := hi.length
  by_cases hk : K.lookup a = none
  · let H : Hp := fun b => if b = a then some (.frz { cls := .type "list", data := .seq vs.toArray } (.lst (ns.map V.int))) else none
    have at_a : H a = some (.frz { cls := .type "list", data := .seq vs.toArray } (.lst (ns.map V.int))) := if_pos rfl
    have off : ∀ b, b ≠ a → H b = none := fun b z => if_neg z
    have hO : Only H := by
      intro b
      by_cases e : b = a
      · subst e
        exact Or.inr ⟨_, _, at_a⟩
      · exact Or.inl (off b e)
    refine overH (H := H) KX hns hb hbb hlim hg ha hr F bd hO ?_ ?_ (fun _ => hk) (want H hO (Or.inl (Or.inr ⟨_, at_a⟩)))
    · intro b u z
      by_cases e : b = a
      · subst e
        rw [at_a] at z
        cases z
        exact ⟨ha, by rw [List.length_map]; exact hl, vs, _, rv, ha⟩
      · rw [off b e] at z
        cases z
    · intro b z
      by_cases e : b = a
      · exact e
      · exact absurd (off b e) z
  · cases q : K.lookup a with
    | none => exact absurd q hk
    | some o =>
      have e := KX a o q
      rw [ha] at e
      cases e
      have hO : Only fun _ => none := fun _ => Or.inl rfl
      refine overH (H := fun _ => none) KX hns hb hbb hlim hg ha hr F bd hO (fun b u z => by cases z) (fun b z => absurd rfl z) (fun z => absurd rfl z) (want _ hO (Or.inr ?_))
      exact ⟨_, vs.toArray, _, q, rfl, rfl, rfl, by rw [List.size_toArray, nv]; exact hl, by simpa using rv⟩
end
/-- the row's end, from the law's promise -/
theorem walk_ofG {l : PySem.W.OpenLaw} {n k : Nat} {q : Program} {loose : List Str} {XP : (Str → Option Value) → Heap → Prop} {YP : World → Heap → Prop} {d : DefRec} {K : Params → PySem.W.Frag} {sp : PySem.W.Frag → Sp} {x : Str}
    (hn : l.most = some n) (hn2 : n ≤ sizeLine) (hdf : d.params.defaults = []) (hr : Room k callerA) (hY : ∀ (w : World) (h : Heap), YP w h → (K w.params).In h)
    (F : ∀ (w : World) (mg : Str → Option Value) (fa : Addr) (h : Heap), (K w.params).In h → h.Ns mainGlobals mg → mg d.name = some (.ref fa) →
      ∃ fd : FuncData, (∀ (s : Shared) (u : Value), BindsTo s fd ⟨[u], []⟩ [(x, u)]) ∧
        ∀ base : Heap, (K w.params).In base → base.Ns mainGlobals mg → FnG l.prog w (K w.params) mg base CX0 k fa fd [x] (sp (K w.params)))
    (want : ∀ (K : PySem.W.Frag) (H : Hp) (a : Addr) (ns : List Int), ns.length ≤ n → (∀ z ∈ ns, Builtin.Int.intBits z ≤ 1048576) → Only H → SqL K H a (ns.map V.int) →
      sp K [.ref a] H (fun v _ => v = .bl true) fun _ _ _ => False) : PySem.W.WalkO q loose XP YP l.row.toRowW d [] (fun f vs => PySem.call f vs) := by
  apply Att.attach_callB hn hdf
  intro w s0 s1 mg mb fa o pm cd doc a vs ns G Y ho hd hcd hmg hobj hints hlen hbits hg
  obtain ⟨fd, bd, hF⟩ := F w mg fa _ (hY w _ Y) G.T.g hmg
  exact law_callG (hY w _ Y) G.T.g G.T.b G.T.builtins G.T.nolimit hg hobj hints (Nat.le_trans hlen hn2) hr hF bd (fun H hO hS => want _ H a ns hlen hbits hO hS)
end Sb
namespace Sb
open PySem PySem.Spec PyProof.Rows L2
structure Nice (n m : Nat) (d : PyData) : Prop where
  lay : d.canLay0 = true
  dep : d.depth ≤ n
  sho : d.showable = true
  nod : d.hasDict = false
  len : d.shown.length ≤ m
theorem Nice.mono {n m n' m' : Nat} {d : PyData} (h : Nice n m d) (hn : n ≤ n') (hm : m ≤ m') : Nice n' m' d :=
  { h with dep := Nat.le_trans h.dep hn, len := Nat.le_trans h.len hm }
theorem Nice.shaped {n m : Nat} {d : PyData} (h : Nice n m d) (hn : n ≤ 64) : SeqAt.shaped d = true := by
  unfold SeqAt.shaped
  rw [h.lay, decide_eq_true (Nat.le_trans h.dep hn)]
  rfl
theorem log_small {i : Int} (h : i.natAbs < 10 ^ 99) : i.natAbs.log2 < 400 :=
  PySem.Flt.log2_lt_of (by decide) (Nat.lt_of_lt_of_le h (by decide +kernel))
theorem Nice.int {i : Int} (h : i.natAbs < 10 ^ 99) : Nice 0 100 (.int i) := by
  refine ⟨rfl, Nat.le_refl _, ?_, rfl, ?_⟩
  · have := log_small h
    simp only [PyData.showable, decide_eq_true_eq]
    omega
  · have e := int_text_length_le10 (k := 99) (by decide) h
    show (Str.ofString (toString i)).length ≤ 100
    rw [PySem.ofString_length]
    exact e
theorem Nice.bool (b : Bool) : Nice 0 5 (.bool b) := by
  refine ⟨rfl, Nat.le_refl _, rfl, rfl, ?_⟩
  cases b <;> decide
theorem Nice.none : Nice 0 4 .none := ⟨rfl, Nat.le_refl _, rfl, rfl, by decide⟩
theorem niceAll {n m : Nat} : ∀ {ds : List PyData}, (∀ d ∈ ds, Nice n m d) → PyData.canLayAll0 ds = true ∧ PyData.depthAll ds ≤ n ∧ PyData.showableAll ds = true ∧ PyData.hasDictAll ds = false ∧
    ((PyData.shownAll ds).map (·.length)).sum ≤ ds.length * m ∧ (PyData.shownAll ds).length = ds.length
  | [], _ => ⟨rfl, Nat.zero_le _, rfl, rfl, by simp [PyData.shownAll], rfl⟩
  | d :: ds, h => by
    have hd := h d List.mem_cons_self
    obtain ⟨a, b, c, e, f, g⟩ := niceAll (ds := ds) fun x hx => h x (List.mem_cons_of_mem _ hx)
    refine ⟨?_, ?_, ?_, ?_, ?_, ?_⟩
    · simp only [PyData.canLayAll0, hd.lay, a, Bool.and_self]
    · simp only [PyData.depthAll]
      exact Nat.max_le.mpr ⟨hd.dep, b⟩
    · simp only [PyData.showableAll, hd.sho, c, Bool.and_self]
    · simp only [PyData.hasDictAll, hd.nod, e, Bool.or_self]
    · simp only [PyData.shownAll, List.map_cons, List.sum_cons, List.length_cons]
      have := hd.len
      rw [Nat.succ_mul]
      omega
    · simp only [PyData.shownAll, List.length_cons, g]
theorem Nice.tuple {n m k : Nat} {ds : List PyData} (h : ∀ d ∈ ds, Nice n m d) (hk : ds.length ≤ k) : Nice (n + 1) (k * m + 2 * k + 3) (.tuple ds) := by
  obtain ⟨a, b, c, e, f, g⟩ := niceAll h
  refine ⟨a, by simp only [PyData.depth]; omega, c, e, ?_⟩
  have l := tupleText_len_le (PyData.shownAll ds)
  simp only [PyData.shown]
  rw [g] at l
  have l2 : ds.length * m ≤ k * m := Nat.mul_le_mul_right _ hk
  omega
theorem Nice.list {n m k : Nat} {ds : List PyData} (h : ∀ d ∈ ds, Nice n m d) (hk : ds.length ≤ k) : Nice (n + 1) (k * m + 2 * k + 3) (.list ds) := by
  obtain ⟨a, b, c, e, f, g⟩ := niceAll h
  refine ⟨a, by simp only [PyData.depth]; omega, c, e, ?_⟩
  have l := listText_len_le (PyData.shownAll ds)
  simp only [PyData.shown]
  rw [g] at l
  have l2 : ds.length * m ≤ k * m := Nat.mul_le_mul_right _ hk
  omega
theorem shaped_ints (l : List Int) : SeqAt.shaped (.list (l.map PyData.int)) = true := by
  unfold SeqAt.shaped
  have h : PyData.canLayAll0 (l.map PyData.int) = true ∧ PyData.depthAll (l.map PyData.int) = 0 := by
    induction l with
    | nil => exact ⟨rfl, rfl⟩
    | cons x r ih => exact ⟨by simp only [List.map_cons, PyData.canLayAll0, PyData.canLay0, ih.1, Bool.and_self], by simp only [List.map_cons, PyData.depthAll, PyData.depth, ih.2, Nat.max_self]⟩
  simp only [PyData.canLay0, PyData.depth, h.1, h.2, Bool.true_and, decide_eq_true_eq]
  decide
theorem dp_ints (K : PySem.W.Frag) (H : Hp) : ∀ l : List Int, DpAll K H (l.map V.int) (l.map PyData.int)
  | [] => .nil
  | x :: r => .cons (.int x) (dp_ints K H r)
theorem div_wide {i j : Int} (h : 0 < j) (h2 : j < 2 ^ 100) : CDivW i j := wide_div (b := 100) h (by omega) (by decide) (by decide)
end Sb
namespace Sb
open PySem PySem.Spec PyProof.Rows L2
mutual
inductive TD (H : Hp) : V → PyData → Prop
  | non : TD H .non .none
  | bl (b : Bool) : TD H (.bl b) (.bool b)
  | int (i : Int) : TD H (.int i) (.int i)
  | str (x : Str) : TD H (.str x) (.str x)
  | tup {a : Addr} {xs : List V} {ds : List PyData} : H a = some (.tup xs) → TDs H xs ds → TD H (.ref a) (.tuple ds)
inductive TDs (H : Hp) : List V → List PyData → Prop
  | nil : TDs H [] []
  | cons {v : V} {vs : List V} {d : PyData} {ds : List PyData} : TD H v d → TDs H vs ds → TDs H (v :: vs) (d :: ds)
end
/-- tuples stay -/
def Tups (H H' : Hp) : Prop := ∀ a xs, H a = some (.tup xs) → H' a = some (.tup xs)
theorem Tups.refl {H : Hp} : Tups H H := fun _ _ h => h
theorem Tups.trans {H H1 H2 : Hp} (a : Tups H H1) (b : Tups H1 H2) : Tups H H2 := fun x y h => b x y (a x y h)
theorem Tups.same {H H' : Hp} (h : Same H H') : Tups H H' := fun a xs e => h a _ e
theorem Tups.new {H : Hp} {a : Addr} {o : HO} (h : H a = none) : Tups H (upd H a o) := fun b xs e => by
  rw [upd_ne (ne_of_none e h)]
  exact e
theorem Tups.put {H : Hp} {a : Addr} {o u : HO} (h : H a = some u) (hu : ∀ xs, u ≠ .tup xs) : Tups H (upd H a o) := fun b xs e => by
  rw [upd_ne (ne_of e h (hu xs).symm)]
  exact e
theorem Tups.lst {H : Hp} {a : Addr} {o : HO} {l : List V} (h : H a = some (.lst l)) : Tups H (upd H a o) := Tups.put h (fun _ z => by cases z)
mutual
theorem TD.mono {H H' : Hp} (t : Tups H H') : ∀ {v : V} (d : PyData), TD H v d → TD H' v d
  | _, .none, h => by cases h; exact .non
  | _, .bool b, h => by cases h; exact .bl b
  | _, .int i, h => by cases h; exact .int i
  | _, .str x, h => by cases h; exact .str x
  | _, .tuple ds, h => by
    cases h with
    | tup e r => exact .tup (t _ _ e) (TDs.mono t ds r)
  | _, .list _, h => by cases h
  | _, .dict _, h => by cases h
theorem TDs.mono {H H' : Hp} (t : Tups H H') : ∀ {vs : List V} (ds : List PyData), TDs H vs ds → TDs H' vs ds
  | _, [], h => by cases h; exact .nil
  | _, d :: ds, h => by
    cases h with
    | cons a r => exact .cons (TD.mono t d a) (TDs.mono t ds r)
end
mutual
theorem TD.dp {K : PySem.W.Frag} {H : Hp} : ∀ {v : V} (d : PyData), TD H v d → Dp K H v d
  | _, .none, h => by cases h; exact .non
  | _, .bool b, h => by cases h; exact .bl b
  | _, .int i, h => by cases h; exact .int i
  | _, .str x, h => by cases h; exact .str x
  | _, .tuple ds, h => by
    cases h with
    | tup e r => exact .tup (SqT.of e) (TDs.dp ds r)
  | _, .list _, h => by cases h
  | _, .dict _, h => by cases h
theorem TDs.dp {K : PySem.W.Frag} {H : Hp} : ∀ {vs : List V} (ds : List PyData), TDs H vs ds → DpAll K H vs ds
  | _, [], h => by cases h; exact .nil
  | _, d :: ds, h => by
    cases h with
    | cons a r => exact .cons (TD.dp d a) (TDs.dp ds r)
end
theorem TDs.length {H : Hp} : ∀ {vs : List V} {ds : List PyData}, TDs H vs ds → vs.length = ds.length
  | _, _, .nil => rfl
  | _, _, .cons _ r => congrArg (· + 1) r.length
theorem TDs.get {H : Hp} : ∀ {vs : List V} {ds : List PyData} {i : Nat} {v : V}, TDs H vs ds → vs[i]? = some v → ∃ d, ds[i]? = some d ∧ TD H v d
  | _, _, _, _, .nil, e => by simp at e
  | _, _, 0, _, .cons a _, e => by
    simp at e
    subst e
    exact ⟨_, rfl, a⟩
  | _, _, i + 1, v, .cons _ r, e => by
    obtain ⟨d, h1, h2⟩ := TDs.get (i := i) (v := v) r (by simpa using e)
    exact ⟨d, by simpa using h1, h2⟩
theorem TDs.at {H : Hp} : ∀ {vs : List V} {ds : List PyData} {i : Nat} {d : PyData}, TDs H vs ds → ds[i]? = some d → ∃ v, vs[i]? = some v ∧ TD H v d
  | _, _, _, _, .nil, e => by simp at e
  | _, _, 0, _, .cons a _, e => by
    simp at e
    subst e
    exact ⟨_, rfl, a⟩
  | _, _, i + 1, v, .cons _ r, e => by
    obtain ⟨d, h1, h2⟩ := TDs.at (i := i) (d := v) r (by simpa using e)
    exact ⟨d, by simpa using h1, h2⟩
theorem TDs.app {H : Hp} : ∀ {vs us : List V} {ds es : List PyData}, TDs H vs ds → TDs H us es → TDs H (vs ++ us) (ds ++ es)
  | _, _, _, _, .nil, s => s
  | _, _, _, _, .cons a r, s => .cons a (r.app s)
theorem TDs.take {H : Hp} : ∀ {vs : List V} {ds : List PyData} (n : Nat), TDs H vs ds → TDs H (vs.take n) (ds.take n)
  | _, _, 0, _ => .nil
  | _, _, _ + 1, .nil => .nil
  | _, _, n + 1, .cons a r => .cons a (r.take n)
theorem TDs.drop {H : Hp} : ∀ {vs : List V} {ds : List PyData} (n : Nat), TDs H vs ds → TDs H (vs.drop n) (ds.drop n)
  | _, _, 0, r => r
  | _, _, _ + 1, .nil => .nil
  | _, _, n + 1, .cons _ r => r.drop n
/-- a tuple at v -/
theorem TD.isTup {H : Hp} {v : V} {ds : List PyData} (h : TD H v (.tuple ds)) : ∃ a xs, v = .ref a ∧ H a = some (.tup xs) ∧ TDs H xs ds := by
  cases h with
  | tup e r => exact ⟨_, _, rfl, e, r⟩
/-- a pair of ints -/
theorem TD.pair {H : Hp} {v : V} {i j : Int} (h : TD H v (.tuple [.int i, .int j])) : ∃ a, v = .ref a ∧ H a = some (.tup [.int i, .int j]) := by
  obtain ⟨a, xs, rfl, e, r⟩ := h.isTup
  cases r with
  | cons h1 r =>
    cases r with
    | cons h2 r =>
      cases r
      cases h1
      cases h2
      exact ⟨a, rfl, e⟩
theorem TD.ofPair {H : Hp} {a : Addr} {i j : Int} (h : H a = some (.tup [.int i, .int j])) : TD H (.ref a) (.tuple [.int i, .int j]) := .tup h (.cons (.int i) (.cons (.int j) .nil))
def msgD (m : Int × Int) : PyData := .tuple [.int m.1, .int m.2]
theorem TDs.msg {H : Hp} {vs : List V} {ms : List (Int × Int)} {i : Nat} {v : V} (r : TDs H vs (ms.map msgD)) (h : vs[i]? = some v) : ∃ m a, ms[i]? = some m ∧ v = .ref a ∧ H a = some (.tup [.int m.1, .int m.2]) := by
  obtain ⟨d, h1, h2⟩ := r.get h
  rw [List.getElem?_map] at h1
  cases e : ms[i]? with
  | none => rw [e] at h1; cases h1
  | some m =>
    rw [e] at h1
    cases h1
    obtain ⟨a, h3, h4⟩ := TD.pair h2
    exact ⟨m, a, rfl, h3, h4⟩
theorem TDs.msgs_len {H : Hp} {vs : List V} {ms : List (Int × Int)} (r : TDs H vs (ms.map msgD)) : vs.length = ms.length := by
  rw [r.length, List.length_map]
end Sb
namespace Sb
open PySem PySem.Spec PyProof.Rows L2
theorem same_new {H : Hp} {p : Addr} {o : HO} (h : H p = none) : Same H (upd H p o) := fun b u e => by
  rw [upd_ne (ne_of_none e h)]
  exact e
section
variable {X : Cx}
theorem opImp {f : Value → Value → Sem Value} {r r' : R2} (h : OpR X f r) (i : ∀ x y H Q, r' x y H Q → r x y H Q) : OpR X f r' :=
  fun pins s σ H x y v u Q I rx ry z => h pins s σ H x y v u Q I rx ry (i x y H Q z)
/-- a part of a list, by its bounds -/
def cutA {α : Type} (xs : List α) (lo hi : Option Int) : List α := (xs.drop (HT.sIx xs.length 0 lo)).take (HT.sIx xs.length xs.length hi - HT.sIx xs.length 0 lo)
theorem cutA_to {α : Type} (xs : List α) {k : Nat} (h : k ≤ xs.length) : cutA xs none (some (k : Int)) = xs.take k := by
  unfold cutA
  rw [HT.sIx_none, HT.sIx_nat, List.drop_zero, Nat.sub_zero, Nat.min_eq_left h]
theorem cutA_from {α : Type} (xs : List α) {k : Nat} (h : k ≤ xs.length) : cutA xs (some (k : Int)) none = xs.drop k := by
  unfold cutA
  rw [HT.sIx_none, HT.sIx_nat, Nat.min_eq_left h]
  exact List.take_of_length_le (by rw [List.length_drop]; exact Nat.le_refl _)
theorem TDs.cut {H : Hp} {xs : List V} {ds : List PyData} (h : TDs H xs ds) (lo hi : Option Int) : TDs H (cutV xs lo hi) (cutA ds lo hi) := by
  unfold cutV cutA
  rw [h.length]
  exact (h.drop _).take _
/-- t[lo:hi] -/
def rSlD : V → Option Int → Option Int → Hp → VK → Prop := fun x lo hi H Q => ∃ ds, TD H x (.tuple ds) ∧ ∀ p H', Same H H' → TD H' (.ref p) (.tuple (cutA ds lo hi)) → Q (.ref p) H'
theorem sl_D : SlR X rSlD := by
  intro pins s σ H x v vl vu lo hi sl Q I rx hs pl pu h
  refine sl_tupA pins s σ H x v vl vu lo hi sl Q I rx hs pl pu ?_
  obtain ⟨ds, hT, q⟩ := h
  obtain ⟨a, xs, rfl, ha, hx⟩ := hT.isTup
  refine ⟨a, xs, rfl, SqT.of ha, ?_, ?_⟩
  · rintro ⟨e1, e2⟩
    refine q a H (Same.refl H) ?_
    have e : cutA ds lo hi = ds := by
      unfold cutA
      rw [← hx.length, e1, e2, List.drop_zero, Nat.sub_zero]
      exact List.take_of_length_le (by rw [hx.length]; exact Nat.le_refl _)
    rw [e]
    exact hT
  · intro _ p np
    exact q p _ (same_new np) (.tup upd_same (TDs.mono (Tups.new np) _ (hx.cut lo hi)))
/-- x == y, x != y over data that never changes -/
def rEqT : R2 := fun x y H Q => ∃ d e, TD H x d ∧ TD H y e ∧ SeqAt.shaped d = true ∧ SeqAt.shaped e = true ∧ Q (.bl (PyData.eqv d e)) H
def rNeT : R2 := fun x y H Q => ∃ d e, TD H x d ∧ TD H y e ∧ SeqAt.shaped d = true ∧ SeqAt.shaped e = true ∧ Q (.bl (!PyData.eqv d e)) H
theorem op_eqT (hu : X.A.units + 64 < cLine) : OpR X (compareOp .Eq) rEqT := opImp (op_eqD hu) fun x y H Q ⟨d, e, h1, h2, r⟩ => ⟨d, e, h1.dp _, h2.dp _, r⟩
theorem op_neT (hu : X.A.units + 64 < cLine) : OpR X (compareOp .NotEq) rNeT := opImp (op_neD hu) fun x y H Q ⟨d, e, h1, h2, r⟩ => ⟨d, e, h1.dp _, h2.dp _, r⟩
end
end Sb
namespace PySem
namespace OwnE
open PySem.W PySem.Calls PyProof.Rows PySem.HandSPX Builtin Builtin.ObjectAttr
/-- the base: its name, its __new__, its __init__, its mro -/
structure Base where
  B : String
  newId : String
  initId : String
  bm : List Value
structure Base.Ok (b : Base) : Prop where
  fb : ExcBaseFacts b.B b.newId b.initId b.bm
  sb : StoreFacts b.B b.bm "object.__setattr__" "object"
  ne : b.bm.isEmpty = false
section
variable {prog : Program} {w : World} {A : Around} {R : Result → Shared → Prop} {hp : Heap} {g : Array GenState} {d : Drawn} {t : Nat} {os : OsState}
theorem tail_some {b : Base} (ok : b.Ok) : ∀ l : List Value, excTail b.bm l = true → l.isEmpty = false
  | [], e => by
    have z : b.bm = [] := (beq_iff_eq.mp e).symm
    have n := ok.ne
    rw [z] at n
    exact absurd n (by decide)
  | _ :: _, _ => rfl
/-- x.name = v, x a new error -/
theorem stored {b : Base} (ok : b.Ok) {K : W.Frag} {name : Str} {tk : Tok} {v : Value} {x C : Addr} {fv : Array Value} {cd : ClassData} (inK : K.In hp)
    (at_x : hp.get? x = some { cls := .ref C, data := .fields fv }) (at_C : W.clsIn K C = some cd) (tail : excTail b.bm cd.mro = true) (own : cd.hasDict = true) (free : W.findIn K (.ref C) name = some none)
    (want : ∀ h' tk' dx, (∀ c o, c ≠ x → hp.get? c = some o → h'.get? c = some o) → hp.objs.size ≤ dx → dx ≠ x →
      h'.get? x = some { cls := .ref C, dict := some dx, data := .fields fv } → h'.Ns1 dx (fun y => if y = name then some v else none) →
      R (.ok (.ret .none)) ⟨h', g, d, tk', os⟩) :
    codeAny (model prog w) A (.call (.builtin "object.__setattr__") ⟨[.ref x, .str name tk, v], []⟩) R ⟨hp, g, d, t, os⟩ := by
  have inst : W.InstAt hp x { cls := .ref C, data := .fields fv } C none := ⟨at_x, rfl, rfl, trivial⟩
  have so := F.store_object
  have some_ := tail_some ok _ tail
  have object : cd.mro.contains (.type "object") = true := by rw [excTail_contains "object" _ tail]; exact ok.sb.hasOwner
  have apart : x ≠ hp.objs.size := Nat.ne_of_lt (Heap.lt_size at_x)
  have under : W.Looks (model prog w) hp (isInstance (.ref x) (.type "object")) true := by
    refine inst.type.andThen (W.looks_mroIn inK ?_)
    unfold W.mroIn
    rw [at_C, Option.bind_some, if_neg (by rw [some_]; decide), object]
  have data : W.Looks (model prog w) hp (classData C) cd := W.looks_clsIn inK at_C
  have order : W.Looks (model prog w) hp (mroOf (.ref C)) cd.mro := data.andThen .now
  have nobody : W.Looks (model prog w) hp (storeTaker? none) none := .now
  apply codeAny_call_builtin so.slot.plain so.entry
  apply @W.check_slot (model prog w) _ _ ⟨hp, g, d, t, os⟩ "object.__setattr__" "object" "__setattr__" (.ref x) [.str name tk, v] [] _ so.kind so.split under (so.args (.ref x) (.str name tk) v)
  rw [W.osa_eq, refuse_eq]
  apply wpAny_bind
  apply wpAny_bind
  apply inst.type.at
  apply wpAny_bind
  apply order.at
  rw [excTail_pass _ (ok.sb.passes _) _ tail]
  apply wpAny_pure
  apply wpAny_bind
  apply inst.type.at
  apply wpAny_bind
  apply (W.looks_findIn inK free).at
  apply wpAny_bind
  apply nobody.at
  show wpAny _ _ (storeInOwnDict (.ref x) (.ref C) (.str name tk) name v false) _ _ _
  obtain ⟨nm, bs, mro, ns, qn, hd, sn, sb, ab, col, del⟩ := cd
  dsimp only at own
  subst own
  unfold storeInOwnDict ownDictForStores
  repeat (first
    | with_reducible refine store_in_new ?_ ?_
    | with_reducible refine wpAny_loadPart_at at_x ?_
    | with_reducible refine data.at ?_
    | wp_step)
  · exact ⟨_, #[], _, (Heap.get?_update_ne _ _ _ _ apart.symm).trans (Heap.get?_push_at rfl rfl), rfl, (fun e he => absurd he (by simp)), (fun _ => rfl)⟩
  · intro h' tk' ns1 but
    have still : (hp.push { cls := .type "dict", data := .dict #[] }).get? x = some { cls := .ref C, data := .fields fv } := Heap.get?_push_of_some _ at_x
    refine want h' tk' hp.objs.size ?_ (Nat.le_refl _) apart.symm ?_ ns1
    · intro c o hc ho
      rw [but.2 c (Nat.ne_of_lt (Heap.lt_size ho)), Heap.get?_update_ne _ _ _ _ hc]
      exact Heap.get?_push_of_some _ ho
    · rw [but.2 x apart]
      exact Heap.get?_update_self _ still rfl
end
def iA (f : Str) (p1 p2 : Pos) : Arguments := { posonlyargs := [], args := [{ arg := "self", annotation := none, pos := p1 }, { arg := f, annotation := none, pos := p2 }], vararg := none, kwonlyargs := [], kw_defaults := [], kwarg := none, defaults := [] }
def iB (f : Str) (q1 q2 q3 q4 : Pos) : List Stmt := [.Assign [.Attribute (.Name "self" q1) f q2] (.Name f q3) q4]
/-- what the written part says of the class x, at C, and of its __init__, at fI -/
structure ErrTxt (b : Base) (x f qual : Str) (K : Frag) (mg : Str → Option Value) (C fI : Addr) : Prop where
  gC : mg x = some (.ref C)
  cls : ∃ nm q N bs bm sn sub ab col dd k0 k1 k2 k3 k5, K.lookup C = some (excClassObj nm q C N bs bm true sn sub ab col dd k0 k1 k2 k3 k5 b.newId) ∧ excTail b.bm bm = true
  sa : findIn K (.ref C) "__setattr__" = some (some (.builtin "object.__setattr__"))
  ga : findIn K (.ref C) "__getattribute__" = some (some (.builtin "BaseException.__getattribute__"))
  gg : findIn K (.ref C) "__getattr__" = some none
  noN : findIn K (.ref C) f = some none
  iC : findIn K (.ref C) "__init__" = some (some (.ref fI))
  tC : typeIn K (.ref fI) = some (.type "function")
  kC : keepIn K (.ref C) = true
  exC : subIn K (.ref C) (.type "BaseException") = some true
  tyC : typeIn K (.ref C) = some (.type "type")
  hdC : hasDictIn K C = true
  te : exmOne K (.ref C) (.ref C) = some true
  fn : ∃ (oc : Value) (od : Option Addr) (doc pm : Value) (an : Option Addr) (cdv ct : Value) (osl : Array (Option Value)) (p1 p2 q1 q2 q3 q4 : Pos) (iS : Scope),
    K.lookup fI = some ⟨oc, od, .func (fnOf "__init__" qual (iA f p1 p2) (iB f q1 q2 q3 q4) iS .none .none doc pm an cdv ct), osl⟩ ∧ codeIn K cdv qual = true ∧
    iS.kind = .function ∧ iS.names.lookup ("self" : Str) = some .local ∧ iS.names.lookup f = some .local ∧ iS.isCoroutine = false ∧ iS.isGenerator = false
theorem one_le_line (v : Value) : [v].length ≤ sizeLine := by
  show 1 ≤ sizeLine
  decide
theorem ldE {M : Model} {s : Shared} {name : Str} {scope : Scope} {L a : Addr} {cd : Value} {m : Str → Option Value} {x : Str} {pos : Pos} {v : Value} {Q : Value → Shared → Prop} {A : Around} {E : Value → Shared → Prop} (hn : s.heap.Ns L m) (hv : m x = some v) (h : Q v s)
    (hk : scope.kind = .function) (hl : scope.names.lookup x = some .local) (hd : (x == ("__debug__" : Str)) = false) :
    wpAny M A (eval (.Name x pos) (envOfC name scope L a cd)) Q E s := wpAny_Name (wpAny_loadName_local hk hl hn hv h) hd
/-- what __init__ leaves of a fresh exception at x -/
structure Left (h h' : Heap) (x C dx t1 : Addr) (f : Str) (v : Value) : Prop where
  keep : ∀ b o, b ≠ x → h.get? b = some o → h'.get? b = some o
  obj : h'.get? x = some { cls := .ref C, dict := some dx, data := .fields #[.ref t1, .none, .none, .none, .bool false, .none] }
  dbig : h.objs.size ≤ dx
  dne : dx ≠ x
  ns : h'.Ns1 dx (fun y => if y = f then some v else none)
/-- a made error -/
structure Made1 (h h' : Heap) (e C d : Addr) (f : Str) (v : Value) : Prop where
  keep : ∀ b o, h.get? b = some o → h'.get? b = some o
  new : h.objs.size ≤ e
  obj : ∃ oe vs, h'.get? e = some oe ∧ oe.cls = .ref C ∧ oe.dict = some d ∧ oe.data = .fields vs ∧ vs[1]? = some .none
  dbig : h.objs.size ≤ d
  dne : d ≠ e
  ns : h'.Ns1 d (fun y => if y = f then some v else none)
section
variable {prog : Program} {w : World} {A : Around} {E : Value → Shared → Prop} {R : Result → Shared → Prop} {s : Shared} {b : Base} {x f qual : Str} {K : Frag} {mg : Str → Option Value} {C fI : Addr}
theorem run_init (ok : b.Ok) (T : ErrTxt b x f qual K mg C fI) (hf1 : ¬ f = ("self" : Str)) (hf2 : (f == ("__debug__" : Str)) = false)
    (bind : ∀ (oc : Value) (od : Option Addr) (doc pm : Value) (an : Option Addr) (cdv ct : Value) (p1 p2 q1 q2 q3 q4 : Pos) (iS : Scope) (u v : Value),
      bindArgs (fnOf "__init__" qual (iA f p1 p2) (iB f q1 q2 q3 q4) iS .none .none doc pm an cdv ct) ⟨[u, v], []⟩ = pure [(("self" : Str), u), (f, v)])
    {e t0 : Addr} {v : Value} (X : K.In s.heap) (hlim : s.heap.NoLimit) (he : s.heap.get? e = some (excO C t0)) (hnx : K.lookup e = none) (hroom : A.depth < recursionLimit)
    (want : ∀ h' tk dx, Left s.heap h' e C dx t0 f v → R (.ok (.ret .none)) { s with heap := h', toks := tk }) :
    codeAny (model prog w) A (.call (.ref fI) ⟨[.ref e, v], []⟩) R s := by
  obtain ⟨oc, od, doc, pm, an, cdv, ct, osl, p1, p2, q1, q2, q3, q4, iS, ho, hcd, sk, s1, s2, s3, s4⟩ := T.fn
  obtain ⟨nm, q, N, bs, bm, sn, sub, ab, col, dd, k0, k1, k2, k3, k5, hC, hbm⟩ := T.cls
  have hcl : clsIn K C = some { name := nm, bases := bs, mro := .ref C :: bm, ns := N, qualname := q, hasDict := true, slotNames := sn, subclasses := sub, abstract := ab, collection := col, hasDel := false } := by
    unfold clsIn
    rw [hC] <;> rfl
  refine Att.call_fn (binds := [(("self" : Str), .ref e), (f, v)]) X hlim ho hcd hroom (BindsTo.of_eq (bind oc od doc pm an cdv ct p1 p2 q1 q2 q3 q4 iS _ _)) ?_ (fun z IC => ?_) s3 s4 sk
  · simp [s1, s2]
  obtain ⟨hh, tk1, rfl⟩ := IC.toInCall.same
  have keep := IC.toInCall.keep
  have ns := IC.toInCall.ns
  have X1 : K.In hh := X.keeps keep
  have at_e := keep _ _ he
  have of_f : bindL (envOfC qual iS s.heap.objs.size fI cdv).kindOf [(("self" : Str), .ref e), (f, v)] (fun _ => none) f = some v := by
    have a1 : (envOfC qual iS s.heap.objs.size fI cdv).kindOf f = some .local := s2
    simp only [bindL, a1, if_true]
  have of_s : bindL (envOfC qual iS s.heap.objs.size fI cdv).kindOf [(("self" : Str), .ref e), (f, v)] (fun _ => none) ("self" : Str) = some (.ref e) := by
    have a1 : (envOfC qual iS s.heap.objs.size fI cdv).kindOf f = some .local := s2
    have a2 : (envOfC qual iS s.heap.objs.size fI cdv).kindOf ("self" : Str) = some .local := s1
    simp only [bindL, a1, a2, if_true]
    rw [if_neg (fun z => hf1 z.symm)]
  show wpAny _ _ (execs _ _) _ _ _
  refine wpAny_execs_cons (plainObj_wpAny_Assign_Attribute ?_)
  apply ldE (v := v) ns of_f _ sk s2 hf2
  apply ldE (v := .ref e) ns of_s _ sk s1 (by decide)
  refine set_plain X1 (ox := excO C t0) (od := none) ⟨at_e, rfl, rfl, trivial⟩ T.sa ?_
  refine stored ok X1 at_e hcl (show excTail b.bm (.ref C :: bm) = true from hbm) rfl T.noN ?_
  intro h3 tk3 dx keep3 dn dne at3 ns3
  show wpAny _ _ (execs _ _) _ _ _
  have z : s.heap.objs.size < hh.objs.size := ns.lt
  refine wpAny_execs_nil (want h3 tk3 dx ?_)
  exact { keep := fun c o hc q => keep3 c o hc (keep c o q), obj := at3, dbig := Nat.le_of_lt (Nat.lt_of_lt_of_le z dn), dne := dne, ns := ns3 }
theorem run_made (ok : b.Ok) (T : ErrTxt b x f qual K mg C fI) (hf1 : ¬ f = ("self" : Str)) (hf2 : (f == ("__debug__" : Str)) = false)
    (bind : ∀ (oc : Value) (od : Option Addr) (doc pm : Value) (an : Option Addr) (cdv ct : Value) (p1 p2 q1 q2 q3 q4 : Pos) (iS : Scope) (u v : Value),
      bindArgs (fnOf "__init__" qual (iA f p1 p2) (iB f q1 q2 q3 q4) iS .none .none doc pm an cdv ct) ⟨[u, v], []⟩ = pure [(("self" : Str), u), (f, v)])
    {v : Value} (X : K.In s.heap) (hlim : s.heap.NoLimit) (hroom : A.depth + 1 < recursionLimit)
    (want : ∀ h' tk e d, Made1 s.heap h' e C d f v → R (.ok (.ret (.ref e))) { s with heap := h', toks := tk }) :
    codeAny (model prog w) A (.call (.ref C) ⟨[v], []⟩) R s := by
  obtain ⟨nm, q, N, bs, bm, sn, sub, ab, col, dd, k0, k1, k2, k3, k5, hC, hbm⟩ := T.cls
  obtain ⟨hp, g, dr, tk, os⟩ := s
  have keep : ∀ c o, hp.get? c = some o → ((hp.push (kdv_tup [v])).push (excO C hp.objs.size)).get? c = some o := by
    intro c o z
    exact Heap.get?_push_of_some _ (Heap.get?_push_of_some _ z)
  have there : ((hp.push (kdv_tup [v])).push (excO C hp.objs.size)).get? (hp.objs.size + 1) = some (excO C hp.objs.size) := by heap_get
  have new : K.lookup (hp.objs.size + 1) = none := by
    cases e : K.lookup (hp.objs.size + 1) with
    | none => rfl
    | some o => exact absurd (Nat.lt_of_succ_lt (Heap.lt_size (X _ _ e))) (Nat.lt_irrefl _)
  apply call_own ok.fb (fun X => excTail_contains X bm hbm) (X _ _ hC) (looks_findIn X T.iC) (fun self => bind_fn X self T.tC) (one_le_line v)
  refine run_init (s := ⟨(hp.push (kdv_tup [v])).push (excO C hp.objs.size), g, dr, tk, os⟩) ok T hf1 hf2 bind (X.keeps keep) (hlim.keeps keep) there new hroom ?_
  rintro h' tk' dx ⟨keep2, at2, dn, dne, ns2⟩
  have z : hp.objs.size + 1 + 1 ≤ dx := by
    have q := dn
    rw [Heap.size_push, Heap.size_push] at q
    exact q
  refine ⟨rfl, want h' tk' (hp.objs.size + 1) dx ?_⟩
  refine { keep := fun c o q => keep2 c o ?_ (keep c o q), new := Nat.le_succ _, obj := ⟨_, _, at2, rfl, rfl, rfl, rfl⟩, dbig := (by show hp.objs.size ≤ dx; omega), dne := dne, ns := ns2 }
  exact Nat.ne_of_lt (Nat.lt_succ_of_lt (Heap.lt_size q))
end
end OwnE
end PySem
namespace L2
open PySem PySem.Spec PyProof.Rows
theorem relO_one {f : Str} {v : V} {v' : Value} (r : RelV v v') (y : Str) : RelO (List.lookup y [(f, v)]) (if y = f then some v' else none) := by
  by_cases h : y = f
  · subst h
    rw [if_pos rfl]
    have q : List.lookup y [(y, v)] = some v := by simp [List.lookup]
    rw [q]
    exact r
  · rw [if_neg h]
    have q1 : (y == f) = false := by simpa using h
    have q : List.lookup y [(f, v)] = none := by simp [List.lookup, q1]
    rw [q]
    trivial
section
variable {X : Cx} {b : OwnE.Base} {x f qual : Str} {C fI : Addr}
/-- what an error class's text gives, at any state -/
structure ErrOk (b : OwnE.Base) (x f qual : Str) (K : PySem.W.Frag) (mg : Str → Option Value) (C fI : Addr) : Prop where
  ok : b.Ok
  T : PySem.OwnE.ErrTxt b x f qual K mg C fI
  hf1 : ¬ f = ("self" : Str)
  hf2 : (f == ("__debug__" : Str)) = false
  bind : ∀ (oc : Value) (od : Option Addr) (doc pm : Value) (an : Option Addr) (cdv ct : Value) (p1 p2 q1 q2 q3 q4 : Pos) (iS : Scope) (u v : Value),
      bindArgs (PySem.W.fnOf "__init__" qual (OwnE.iA f p1 p2) (OwnE.iB f q1 q2 q3 q4) iS .none .none doc pm an cdv ct) ⟨[u, v], []⟩ = pure [(("self" : Str), u), (f, v)]
/-- x(e) -/
def tMkE (C : Addr) (f : Str) (ta : TA) : St → Hp → XK → Prop := fun σ H Q => ta σ H fun vs H1 => ∃ v, vs = [v] ∧ ∀ d, H1 d = none → Q (.ref C) (some d) (upd H1 d (.xd [(f, v)]))
theorem pmk_E {a : Expr} {ta : TA} {p pos : Pos} {k : Nat} (T : ErrOk b x f qual X.K X.mg C fI) (hr : Room k X.A) (ha : PA X [a] ta) (hg : Gl X x := by rfl) (hdb : (x == ("__debug__" : Str)) = false := by decide)
    (he : starEach (a :: []) X.env = (false, eval a X.env) :: starEach [] X.env := by rfl) (hpl : (backTo pos (starEach [] X.env)).any (·.1) = false := by rfl) :
    PMk X (.Call (.Name x p) [a] [] pos) (tMkE C f ta) := by
  intro pins s σ H Q I h
  apply wpAny_Call_Name_kw
  apply ld_glob I hg T.T.gC _ hdb
  apply PySem.W.callWith_K (h₀ := X.base) I.ok.mod.kin T.T.kC _ he hpl
  refine thn (ha.run pos pins s σ H _ I h) ?_
  rintro us s1 ⟨vs, H1, I1, r1, v, ev, q1⟩
  subst ev
  refine ⟨I1.kIn, ?_⟩
  match us, r1 with
  | [v'], .cons rv .nil =>
    show wpAny _ _ (call (.ref C) [v']) _ _ _
    have hlim := I1.nolimit
    obtain ⟨hp, g, dr, tk, os⟩ := s1
    apply wpAny_call
    refine PySem.OwnE.run_made T.ok T.T T.hf1 T.hf2 T.bind I1.kIn hlim (by have := hr.dp; omega) ?_
    intro h' tk' e d M
    show MkP X pins σ Q (.ref e) ⟨h', g, dr, tk', os⟩
    obtain ⟨oe, fv, hoe, hc, hd, hdat, h1⟩ := M.obj
    have hns := M.ns
    obtain ⟨G', g1, g2⟩ := restrict h' fun c => decide (c ≠ e)
    have gk : ∀ c, c ≠ e → G'.get? c = h'.get? c := fun c hc => g1 c (decide_eq_true hc)
    have ge : G'.get? e = none := g2 e (by simp)
    have old : ∀ c o, hp.get? c = some o → G'.get? c = some o := by
      intro c o q
      rw [gk c (Nat.ne_of_lt (Nat.lt_of_lt_of_le (Heap.lt_size q) M.new))]
      exact M.keep c o q
    have ob : ObjOk X.prog X.w (upd H1 d (.xd [(f, v)])) G' d (.xd [(f, v)]) := ⟨_, hns.at (fun o q => (gk d M.dne).trans q), fun y => relO_one rv y⟩
    have J : Inv X pins σ (upd H1 d (.xd [(f, v)])) ⟨G', g, dr, tk', os⟩ := I1.laid (t' := tk') old M.dbig ob
    refine ⟨e, oe, fv, ⟨G', g, dr, tk', os⟩, _, .ref C, some d, rfl, J, ?_, ge, hoe, ⟨hc, hd⟩, hdat, h1, ?_, rfl, I1.bare, raises_own T.T.exC T.T.tyC, q1 d (I1.hok.fresh M.dbig)⟩
    · intro c o q
      by_cases hc : c = e
      · have q' : G'.get? c = some o := q
        rw [hc, ge] at q'
        cases q'
      · exact (gk c hc).symm.trans q
    · rw [upd_ne (Ne.symm M.dne)]
      exact I1.hok.fresh M.new
/-- raise x(e) -/
def tRaiseE (C : Addr) (f : Str) (W : WX) (ta : TA) : TS := fun _ σ H => tMkE C f ta σ H fun cls d H' => W cls d σ H'
theorem ps_raiseE {a : Expr} {ta : TA} {W : WX} {p pos pos2 : Pos} {k : Nat} (hc : X.calm = true) (T : ErrOk b x f qual X.K X.mg C fI) (hr : Room k X.A) (tk : Takes X W) (ha : PA X [a] ta) (hg : Gl X x := by rfl) (hdb : (x == ("__debug__" : Str)) = false := by decide)
    (he : starEach (a :: []) X.env = (false, eval a X.env) :: starEach [] X.env := by rfl) (hpl : (backTo pos (starEach [] X.env)).any (·.1) = false := by rfl) :
    PS X (.Raise (some (.Call (.Name x p) [a] [] pos)) none pos2) (tRaiseE C f W ta) := ps_raise hc tk (pmk_E T hr ha hg hdb he hpl)
end
end L2
namespace PySem.OwnE
def bVE : Base := ⟨"ValueError", "ValueError.__new__", "ValueError.__init__", [Value.type "ValueError", Value.type "Exception", Value.type "BaseException", Value.type "object"]⟩
def bLE : Base := ⟨"LookupError", "LookupError.__new__", "LookupError.__init__", [Value.type "LookupError", Value.type "Exception", Value.type "BaseException", Value.type "object"]⟩
def bRE : Base := ⟨"RuntimeError", "RuntimeError.__new__", "RuntimeError.__init__", [Value.type "RuntimeError", Value.type "Exception", Value.type "BaseException", Value.type "object"]⟩
def bOE : Base := ⟨"OverflowError", "OverflowError.__new__", "OverflowError.__init__", [Value.type "OverflowError", Value.type "ArithmeticError", Value.type "Exception", Value.type "BaseException", Value.type "object"]⟩
theorem bVE_ok : bVE.Ok := ⟨F.excBase_ValueError, F.store_ValueError, rfl⟩
theorem bLE_ok : bLE.Ok := ⟨F.excBase_LookupError, F.store_LookupError, rfl⟩
theorem bRE_ok : bRE.Ok := ⟨F.excBase_RuntimeError, F.store_RuntimeError, rfl⟩
theorem bOE_ok : bOE.Ok := ⟨F.excBase_OverflowError, F.store_OverflowError, rfl⟩
/-- an error of its own class is what the class's clause names -/
theorem exm_own {K : W.Frag} {S : Addr} (h1 : W.subIn K (.ref S) (.type "BaseException") = some true) (h2 : W.isClsIn K S = true) (h3 : W.typeIn K (.ref S) = some (.type "type")) (h4 : W.subIn K (.ref S) (.ref S) = some true) : W.exmOne K (.ref S) (.ref S) = some true := by
  have e1 : (W.subIn K (.ref S) (.type "BaseException") == some true) = true := by
    rw [h1]
    rfl
  have e2 : ((W.clsIn K S).isSome && W.typeIn K (.ref S) == some (.type "type")) = true := by
    rw [show (W.clsIn K S).isSome = true from h2, h3]
    rfl
  unfold W.exmOne
  rw [if_pos e1]
  show (if ((W.clsIn K S).isSome && W.typeIn K (.ref S) == some (.type "type")) = true then W.subIn K (.ref S) (.ref S) else none) = some true
  rw [if_pos e2]
  exact h4
end PySem.OwnE
namespace Sb
open PySem PySem.Spec PyProof.Rows L2
structure Dn (K : PySem.W.Frag) (mg : Str → Option Value) (nm : Str) (st : Stmt) (ps : List Str) where
  f : Addr
  fd : FuncData
  F : Fun K nm nm st f fd
  b : Binds K fd ps []
  g : mg nm = some (.ref f)
structure Mn (K : PySem.W.Frag) (C : Addr) (nm qual : Str) (st : Stmt) (ps : List Str) where
  f : Addr
  fd : FuncData
  F : Fun K nm qual st f fd
  b : Binds K fd ps []
  M : Meth K C nm f
structure Cn (K : PySem.W.Frag) (mg : Str → Option Value) (nm : Str) where
  C : Addr
  cl : Cls K C
  g : mg nm = some (.ref C)
structure En (K : PySem.W.Frag) (mg : Str → Option Value) (bs : OwnE.Base) (nm fld qual : Str) where
  C : Addr
  i : Addr
  e : L2.ErrOk bs nm fld qual K mg C i
end Sb
namespace Sb
open PySem PySem.Spec PyProof.Rows L2
mutual
inductive LD (p : Addr) (H : Hp) : V → PyData → Prop
  | non : LD p H .non .none
  | bl (b : Bool) : LD p H (.bl b) (.bool b)
  | int (i : Int) : LD p H (.int i) (.int i)
  | str (x : Str) : LD p H (.str x) (.str x)
  | tup {a : Addr} {xs : List V} {ds : List PyData} : a ≠ p → H a = some (.tup xs) → LDs p H xs ds → LD p H (.ref a) (.tuple ds)
  | lst {a : Addr} {xs : List V} {ds : List PyData} : a ≠ p → a ≠ sysModules → H a = some (.lst xs) → LDs p H xs ds → LD p H (.ref a) (.list ds)
  | dic {a : Addr} : a ≠ p → H a = some (.dK []) → LD p H (.ref a) (.dict [])
  | dct {a : Addr} : a ≠ p → H a = some (.dT []) → LD p H (.ref a) (.dict [])
inductive LDs (p : Addr) (H : Hp) : List V → List PyData → Prop
  | nil : LDs p H [] []
  | cons {v : V} {vs : List V} {d : PyData} {ds : List PyData} : LD p H v d → LDs p H vs ds → LDs p H (v :: vs) (d :: ds)
end
/-- all but p stands -/
abbrev But (p : Addr) (H H' : Hp) : Prop := ∀ b o, H b = some o → b ≠ p → H' b = some o
theorem But.same {p : Addr} {H H' : Hp} (h : Same H H') : But p H H' := fun b o e _ => h b o e
mutual
theorem LD.mono {p : Addr} {H H' : Hp} (t : But p H H') : ∀ {v : V} (d : PyData), LD p H v d → LD p H' v d
  | _, .none, h => by cases h; exact .non
  | _, .bool b, h => by cases h; exact .bl b
  | _, .int i, h => by cases h; exact .int i
  | _, .str x, h => by cases h; exact .str x
  | _, .tuple ds, h => by
    cases h with
    | tup n e r => exact .tup n (t _ _ e n) (LDs.mono t ds r)
  | _, .list ds, h => by
    cases h with
    | lst n m e r => exact .lst n m (t _ _ e n) (LDs.mono t ds r)
  | _, .dict _, h => by
    cases h with
    | dic n e => exact .dic n (t _ _ e n)
    | dct n e => exact .dct n (t _ _ e n)
theorem LDs.mono {p : Addr} {H H' : Hp} (t : But p H H') : ∀ {vs : List V} (ds : List PyData), LDs p H vs ds → LDs p H' vs ds
  | _, [], h => by cases h; exact .nil
  | _, d :: ds, h => by
    cases h with
    | cons a r => exact .cons (LD.mono t d a) (LDs.mono t ds r)
end
theorem LDs.length {p : Addr} {H : Hp} : ∀ {vs : List V} {ds : List PyData}, LDs p H vs ds → vs.length = ds.length
  | _, _, .nil => rfl
  | _, _, .cons _ r => congrArg (· + 1) r.length
theorem LDs.get {p : Addr} {H : Hp} : ∀ {vs : List V} {ds : List PyData} {i : Nat} {v : V}, LDs p H vs ds → vs[i]? = some v → ∃ d, ds[i]? = some d ∧ LD p H v d
  | _, _, _, _, .nil, e => by simp at e
  | _, _, 0, _, .cons a _, e => by
    simp at e
    subst e
    exact ⟨_, rfl, a⟩
  | _, _, i + 1, v, .cons _ r, e => by
    obtain ⟨d, h1, h2⟩ := LDs.get (i := i) (v := v) r (by simpa using e)
    exact ⟨d, by simpa using h1, h2⟩
theorem LDs.at {p : Addr} {H : Hp} : ∀ {vs : List V} {ds : List PyData} {i : Nat} {d : PyData}, LDs p H vs ds → ds[i]? = some d → ∃ v, vs[i]? = some v ∧ LD p H v d
  | _, _, _, _, .nil, e => by simp at e
  | _, _, 0, _, .cons a _, e => by
    simp at e
    subst e
    exact ⟨_, rfl, a⟩
  | _, _, i + 1, v, .cons _ r, e => by
    obtain ⟨d, h1, h2⟩ := LDs.at (i := i) (d := v) r (by simpa using e)
    exact ⟨d, by simpa using h1, h2⟩
theorem LDs.app {p : Addr} {H : Hp} : ∀ {vs us : List V} {ds es : List PyData}, LDs p H vs ds → LDs p H us es → LDs p H (vs ++ us) (ds ++ es)
  | _, _, _, _, .nil, s => s
  | _, _, _, _, .cons a r, s => .cons a (r.app s)
theorem LDs.take {p : Addr} {H : Hp} : ∀ {vs : List V} {ds : List PyData} (n : Nat), LDs p H vs ds → LDs p H (vs.take n) (ds.take n)
  | _, _, 0, _ => .nil
  | _, _, _ + 1, .nil => .nil
  | _, _, n + 1, .cons a r => .cons a (r.take n)
theorem LDs.drop {p : Addr} {H : Hp} : ∀ {vs : List V} {ds : List PyData} (n : Nat), LDs p H vs ds → LDs p H (vs.drop n) (ds.drop n)
  | _, _, 0, r => r
  | _, _, _ + 1, .nil => .nil
  | _, _, n + 1, .cons _ r => r.drop n
mutual
theorem TD.ld {p : Addr} {H : Hp} (hp : ∀ xs, H p ≠ some (.tup xs)) : ∀ {v : V} (d : PyData), TD H v d → LD p H v d
  | _, .none, h => by cases h; exact .non
  | _, .bool b, h => by cases h; exact .bl b
  | _, .int i, h => by cases h; exact .int i
  | _, .str x, h => by cases h; exact .str x
  | _, .tuple ds, h => by
    cases h with
    | tup e r => exact .tup (fun z => hp _ (z ▸ e)) e (TDs.ld hp ds r)
  | _, .list _, h => by cases h
  | _, .dict _, h => by cases h
theorem TDs.ld {p : Addr} {H : Hp} (hp : ∀ xs, H p ≠ some (.tup xs)) : ∀ {vs : List V} (ds : List PyData), TDs H vs ds → LDs p H vs ds
  | _, [], h => by cases h; exact .nil
  | _, d :: ds, h => by
    cases h with
    | cons a r => exact .cons (TD.ld hp d a) (TDs.ld hp ds r)
end
/-- its type -/
def tyN : PyData → String
  | .none => "NoneType"
  | .bool _ => "bool"
  | .int _ => "int"
  | .str _ => "str"
  | .list _ => "list"
  | .tuple _ => "tuple"
  | .dict _ => "dict"
theorem LD.ty {K : PySem.W.Frag} {p : Addr} {H : Hp} {v : V} {d : PyData} (h : LD p H v d) : TyX K H v (.type (tyN d)) := by
  cases h with
  | non => exact .base .non
  | bl b => exact .base (.bl b)
  | int i => exact .base (.int i)
  | str x => exact .base (.str x)
  | tup n e r => exact .base (.tup e)
  | lst n m e r => exact .base (.lst e)
  | dic n e => exact .base (.dK e)
  | dct n e => exact .base (.dT e)
def isIntD : PyData → Bool
  | .int _ => true
  | .bool _ => true
  | _ => false
def isBoolD : PyData → Bool
  | .bool _ => true
  | _ => false
def isTupD : PyData → Bool
  | .tuple _ => true
  | _ => false
theorem kit_int (K : PySem.W.Frag) (d : PyData) : PySem.W.kitOne K (.type (tyN d)) (.type "int") = some (isIntD d) := by
  cases d <;> first | rfl | decide +kernel | kernel_rfl
theorem kit_bool (K : PySem.W.Frag) (d : PyData) : PySem.W.kitOne K (.type (tyN d)) (.type "bool") = some (isBoolD d) := by
  cases d <;> first | rfl | decide +kernel | kernel_rfl
theorem kit_tup (K : PySem.W.Frag) (d : PyData) : PySem.W.kitOne K (.type (tyN d)) (.type "tuple") = some (isTupD d) := by
  cases d <;> first | rfl | decide +kernel | kernel_rfl
section
variable {X : Cx}
/-- isinstance(x, T) -/
def rIsL (T : String) (f : PyData → Bool) : List V → Hp → VK → Prop := fun xs H Q => ∃ p v d, xs = [v, .ty T] ∧ LD p H v d ∧ Q (.bl (f d)) H
theorem call_isL {T : String} {f : PyData → Bool} (hf : ∀ K d, PySem.W.kitOne K (.type (tyN d)) (.type T) = some (f d)) : CallR X (.builtin "isinstance") (rIsL T f) := by
  intro pins s σ H xs us Q I r h
  obtain ⟨p, v, d, rfl, hv, q⟩ := h
  exact call_isi pins s σ H _ us Q I r ⟨v, .ty T, _, _, _, rfl, .ty T, hv.ty, hf _ d, q⟩
theorem LDs.cut {p : Addr} {H : Hp} {xs : List V} {ds : List PyData} (h : LDs p H xs ds) (lo hi : Option Int) : LDs p H (cutV xs lo hi) (cutA ds lo hi) := by
  unfold cutV cutA
  rw [h.length]
  exact (h.drop _).take _
theorem LD.isTup {p : Addr} {H : Hp} {v : V} {ds : List PyData} (h : LD p H v (.tuple ds)) : ∃ a xs, v = .ref a ∧ a ≠ p ∧ H a = some (.tup xs) ∧ LDs p H xs ds := by
  cases h with
  | tup n e r => exact ⟨_, _, rfl, n, e, r⟩
end
mutual
def wt : PyData → Nat
  | .list xs => wts xs + 1
  | .tuple xs => wts xs + 1
  | .dict _ => 1
  | _ => 1
def wts : List PyData → Nat
  | [] => 0
  | x :: r => wt x + wts r
end
mutual
def Sm : PyData → Prop
  | .int i => i.natAbs < 10 ^ 99
  | .str x => (reprText x).length ≤ 100
  | .list xs => Sms xs
  | .tuple xs => Sms xs
  | .dict kvs => kvs = []
  | _ => True
def Sms : List PyData → Prop
  | [] => True
  | x :: r => Sm x ∧ Sms r
end
theorem Sms.get : ∀ {ds : List PyData} {i : Nat} {d : PyData}, Sms ds → ds[i]? = some d → Sm d
  | _ :: _, 0, _, h, e => by simp at e; exact e ▸ h.1
  | _ :: r, i + 1, _, h, e => Sms.get (ds := r) (i := i) h.2 (by simpa using e)
theorem Sms.app : ∀ {ds es : List PyData}, Sms ds → Sms es → Sms (ds ++ es)
  | [], _, _, h => h
  | _ :: _, _, h, g => ⟨h.1, Sms.app h.2 g⟩
theorem Sms.take : ∀ {ds : List PyData} (n : Nat), Sms ds → Sms (ds.take n)
  | _, 0, _ => trivial
  | [], _ + 1, _ => trivial
  | _ :: _, n + 1, h => ⟨h.1, Sms.take n h.2⟩
theorem Sms.drop : ∀ {ds : List PyData} (n : Nat), Sms ds → Sms (ds.drop n)
  | _, 0, h => h
  | [], _ + 1, _ => trivial
  | _ :: _, n + 1, h => Sms.drop n h.2
end Sb
namespace Sb
open PySem PySem.Spec PyProof.Rows L2
/-- how a method's call is read -/
abbrev MethForm (X : Cx) (o : Expr) (m : Str) (es : List Expr) (pos apos : Pos) (pl : Sem Bool) : Prop :=
  eval (.Call (.Attribute o m apos) es [] pos) X.env = (do let ov ← eval o X.env; standAt apos.atName; let (f, first) ← holding [ov] (getMethod ov m pl); callWith pos f first (backTo pos (starEach es X.env)) (backToKw pos (keywordEach [] X.env)))
section
variable {X : Cx} {CX : CXT} {k : Nat} {f C : Addr} {fd : FuncData} {ps : List Str} {sp : Sp} {dvs : List V} {ds : List Value} {x m : Str} {p pos apos : Pos} {e o : Expr} {es : List Expr} {ta : TE} {t : TA} {E : XK}
/-- o.m(e, ..) -/
theorem pe_methG {pl : Sem Bool} (ho : PE X o ta) (c : Cls X.K C) (hm : Meth X.K C m f) (F : FnG X.prog X.w X.K X.mg X.base CX k f fd ps sp) (gd : X.A.guards = some []) (hr : Room k X.A) (hb : Binds X.K fd ps ds) (hd : Vals dvs ds) (hx : Passes CX X E) (ha : PA X (e :: es) t)
    (hst : starEach (e :: es) X.env = (false, eval e X.env) :: starEach es X.env := by rfl) (hpl : (backTo pos (starEach es X.env)).any (·.1) = false := by rfl)
    (ht : MethForm X o m (e :: es) pos apos pl := by rfl) : PE X (.Call (.Attribute o m apos) (e :: es) [] pos) (tMeth C m sp dvs E ta t) := by
  constructor
  intro pins s σ H Q I h
  refine PySem.W.methodCall_KW (pl := pl) (thn (ho.run pins s σ H _ I h) ?_) ht
  rintro u s1 ⟨y, H1, I1, ry, a, dx, fs, rfl, ea, l, q⟩
  obtain rfl : u = Value.ref a := ry
  refine getmeth_ok I1 ea c hm l ?_
  refine PySem.W.callWith_K (first := [.ref a]) (h₀ := X.base) I.ok.mod.kin hm.kp (thn (ha.run pos pins s1 σ H1 _ I1 q) ?_) hst hpl
  rintro us s2 ⟨vs, H2, I2, r, q2⟩
  exact ⟨I2.kIn, runG (us := .ref a :: us) (vs := .ref a :: vs) F gd hr hb hd (fun er s' z => hx pins σ H2 s2 er s' I2 z) I2 (.cons rfl r) q2⟩
/-- o.m() -/
theorem pe_meth0G {pl : Sem Bool} (ho : PE X o ta) (c : Cls X.K C) (hm : Meth X.K C m f) (F : FnG X.prog X.w X.K X.mg X.base CX k f fd ps sp) (gd : X.A.guards = some []) (hr : Room k X.A) (hb : Binds X.K fd ps ds) (hd : Vals dvs ds) (hx : Passes CX X E)
    (ht : MethForm X o m [] pos apos pl := by rfl) : PE X (.Call (.Attribute o m apos) [] [] pos) (tMeth C m sp dvs E ta tNil) := by
  constructor
  intro pins s σ H Q I h
  refine PySem.W.methodCall_KW (pl := pl) (thn (ho.run pins s σ H _ I h) ?_) ht
  rintro u s1 ⟨y, H1, I1, ry, a, dx, fs, rfl, ea, l, q⟩
  obtain rfl : u = Value.ref a := ry
  refine getmeth_ok I1 ea c hm l ?_
  exact PySem.W.callWith_K0 (first := [.ref a]) I1.kIn hm.kp (runG (us := [.ref a]) (vs := [.ref a]) F gd hr hb hd (fun er s' z => hx pins σ H1 s1 er s' I1 z) I1 (.cons rfl .nil) q)
/-- C(e, ..) -/
theorem make_runG {pins : List (Addr × Obj)} {σ : L2.St} {H : Hp} {s : Shared} {Q : VK} {us : List Value} {vs : List V} (M : Mk X.K C f) (F : FnG X.prog X.w X.K X.mg X.base CX k f fd ps sp) (gd : X.A.guards = some []) (hr : Room (k + 1) X.A) (hb : Binds X.K fd ps ds) (hd : Vals dvs ds)
    (hx : ∀ (e : Value) (s' : Shared) (H0 : Hp) (s0 : Shared), L2.Inv X pins σ H0 s0 → CX X.stack H0 s0 E e s' → X.xe e s') (I : L2.Inv X pins σ H s) (r : Vals vs us)
    (h : ∀ x dx, H x = none → H dx = none → dx ≠ x → sp (.ref x :: (vs ++ dvs)) (upd (upd H dx (.own x)) x (.ins C dx [])) (fun v H2 => v = .non ∧ Q (.ref x) H2) E) : wpAny (model X.prog X.w) X.A (call (.ref C) us) (EP X pins σ Q) X.xe s := by
  have q := h (s.heap.objs.size + 1) s.heap.objs.size (I.hok.fresh (Nat.le_succ _)) (I.hok.fresh (Nat.le_refl _)) (Nat.ne_of_lt (Nat.lt_succ_self _))
  have J := Inv.made (C := C) I
  have rr : Vals (V.ref (s.heap.objs.size + 1) :: (vs ++ dvs)) (Value.ref (s.heap.objs.size + 1) :: (us ++ ds)) := .cons rfl (r.append hd)
  have nl : (Value.ref (s.heap.objs.size + 1) :: us ++ ds).length = ps.length := rr.length ▸ F.len _ _ _ _ q
  apply wpAny_call
  refine make_map (f := f) I.kIn M.makes M.init (beq_iff_eq.mp M.fn) ?_
  refine codeAny_mono (F.run _ X.stack _ _ ⟨Value.ref (s.heap.objs.size + 1) :: us, []⟩ (Value.ref (s.heap.objs.size + 1) :: (us ++ ds)) _ _ E gd (hr.make C us []) (J.env0.make C us []) (hb _ (Value.ref (s.heap.objs.size + 1) :: us) J.kIn nl) rr q) ?_
  intro res s' z
  match res, z with
  | .error er, z => exact hx er s' _ _ J z
  | .ok (.ret u), z =>
    obtain ⟨v, H', J', rv, rfl, q'⟩ := J.after z
    exact ⟨rv, V.ref (s.heap.objs.size + 1), H', J', rfl, q'⟩
  | .ok .next, z => exact z.elim
  | .ok .brk, z => exact z.elim
  | .ok .cont, z => exact z.elim
theorem pe_makeG (M : Mk X.K C f) (F : FnG X.prog X.w X.K X.mg X.base CX k f fd ps sp) (gd : X.A.guards = some []) (hr : Room (k + 1) X.A) (hg : Gl X x) (hm : X.mg x = some (.ref C)) (hb : Binds X.K fd ps ds) (hd : Vals dvs ds) (hx : Passes CX X E) (ha : PA X (e :: es) t)
    (hdb : (x == ("__debug__" : Str)) = false := by decide) (he : starEach (e :: es) X.env = (false, eval e X.env) :: starEach es X.env := by rfl) (hpl : (backTo pos (starEach es X.env)).any (·.1) = false := by rfl) : PE X (.Call (.Name x p) (e :: es) [] pos) (tMake C sp dvs E t) := by
  constructor
  intro pins s σ H Q I h
  apply wpAny_Call_Name_kw
  apply ld_glob I hg hm _ hdb
  apply PySem.W.callWith_K (h₀ := X.base) I.ok.mod.kin M.kp _ he hpl
  refine thn (ha.run pos pins s σ H _ I h) ?_
  rintro us s1 ⟨vs, H1, I1, r, q⟩
  exact ⟨I1.kIn, make_runG M F gd hr hb hd (fun er s' H0 s0 J z => hx pins σ H0 s0 er s' J z) I1 r q⟩
/-- len(x), x's class has its own __len__ -/
def rLenG (C : Addr) (sp : Sp) : List V → Hp → VK → Prop := fun xs H Q => ∃ (a dx : Addr) (fs : List (Str × V)), xs = [.ref a] ∧ H a = some (.ins C dx fs) ∧
  sp [.ref a] H (fun v H2 => ∃ n : Nat, v = .int n ∧ n ≤ 1000 ∧ Q (.int n) H2) fun _ _ _ => False
theorem call_lenG {sp : Sp} (at_ : PySem.W.findIn X.K (.ref C) "__len__" = some (some (.ref f))) (tf : PySem.W.typeIn X.K (.ref f) = some (.type "function")) (F : FnG X.prog X.w X.K X.mg X.base CX0 k f fd ps sp) (gd : X.A.guards = some []) (hr : Room (k + 1) X.A) (hb : Binds X.K fd ps []) :
    CallR X (.builtin "len") (rLenG C sp) := by
  intro pins s σ H xs us Q I r h
  obtain ⟨a, dx, fs, rfl, ha, want⟩ := h
  obtain ⟨u, rfl, ru⟩ := vals1 r
  obtain rfl : u = Value.ref a := ru
  obtain ⟨mA, O, _⟩ := ins_get I.hok ha
  obtain ⟨od, J, _⟩ := O.look
  refine PySem.Calls.call_function_entry kind_len plain_len entry_len (args_len1 _) ?_
  unfold Builtin.«len»
  refine wpAny_bind (m := oneArg "len" _) ?_
  apply wpAny_pure
  have nl : ([.ref a] : List Value).length = ps.length := by
    have z := F.len _ _ _ _ want
    exact z
  have run := F.run X.A.in1 X.stack s H ⟨[.ref a], []⟩ [.ref a] [.ref a] _ _ gd hr.in1 I.env0.in1 (hb s [.ref a] I.kIn (by rw [List.append_nil]; exact nl)) (.cons rfl .nil) want
  refine wpAny_bind (m := callSpecial? (.ref a) (Str.ofString "__len__")) (PySem.W.special_fn I.kIn J at_ tf (wpAny_call (codeAny_mono run ?_)))
  intro res s' z
  match res, z with
  | .error er, z => exact z.elim
  | .ok .next, z => exact z.elim
  | .ok .brk, z => exact z.elim
  | .ok .cont, z => exact z.elim
  | .ok (.ret u), z =>
    obtain ⟨v, H', J', rv, n, rfl, hn, q⟩ := I.after z
    obtain ⟨t, rfl⟩ := rv
    show wpAny _ _ (holding [Value.int (n : Int) t] (asIndex (Value.int (n : Int) t)) >>= _) _ _ s'
    refine wpAny_bind (wpAny_holding (wpAny_pure ?_))
    refine wpAny_bind (wpAny_letGo ?_)
    have e1 : ¬ ((n : Nat) : Int) < 0 := by omega
    have e2 : ¬ ((n : Nat) : Int) ≥ 2 ^ 63 := by omega
    show wpAny _ _ (if ((n : Nat) : Int) < 0 then _ else _) _ _ _
    rw [if_neg e1]
    show wpAny _ _ (if ((n : Nat) : Int) ≥ 2 ^ 63 then _ else _) _ _ _
    rw [if_neg e2]
    refine wpAny_bind (wpAny_mkInt ?_)
    apply wpAny_pure
    exact ⟨_, rfl, .int n, H', J'.tok _, ⟨_, rfl⟩, q⟩
end
end Sb
namespace Sb
open PySem PySem.Spec PyProof.Rows L2
def isStrD (d : PyData) (z : Str) : Bool := match d with
  | .str y => y == z
  | _ => false
def isDctD : PyData → Bool
  | .dict _ => true
  | _ => false
def rEqS : R2 := fun x y H Q => ∃ p d z, LD p H x d ∧ isDctD d = false ∧ y = .str z ∧ Q (.bl (isStrD d z)) H
theorem op_eqS {X : Cx} (hu : X.A.units + 64 < cLine) : OpR X (compareOp .Eq) rEqS := by
  intro pins s σ H x y v u Q I rx ry h
  obtain ⟨p, d, z, hx, hd, rfl, q⟩ := h
  obtain ⟨tz, rfl⟩ := ry
  have fin : ∀ {b : Bool}, SeqAt.RcAt X.A s v (.str z tz) b → Q (.bl b) H → wpAny (model X.prog X.w) X.A (compareOp .Eq v (.str z tz)) (EP X pins σ Q) X.xe s := fun r g => r X.prog X.w X.xe _ ⟨.bl _, H, I, rfl, g⟩
  cases hx with
  | non =>
    cases rx
    exact fin (SeqAt.RcAt.none_str _ _) q
  | bl b =>
    cases rx
    exact fin (SeqAt.RcAt.bool_str _ _ _) q
  | int i =>
    obtain ⟨t, rfl⟩ := rx
    exact fin (SeqAt.RcAt.int_str _ _ _ _) q
  | str y =>
    obtain ⟨t, rfl⟩ := rx
    exact fin (SeqAt.RcAt.str_str _ _ _ _) q
  | tup n e r =>
    cases rx
    obtain ⟨its, rv, pl, _⟩ := I.tuple (SqT.of e)
    exact fin (SeqAt.RcAt.tuple_str _ _ pl (by omega)) q
  | lst n m e r =>
    cases rx
    obtain ⟨its, rv, pl, _⟩ := I.list (SqL.of e)
    exact fin (SeqAt.RcAt.list_str _ _ pl.isList (by omega)) q
  | dic n e => cases hd
  | dct n e => cases hd
end Sb
namespace Sb
open PySem PySem.Spec PyProof.Rows L2
instance memKey (k : Key) (l : List Key) : Decidable (k ∈ l) := @List.instDecidableMemOfLawfulBEq Key instBEqOfDecidableEq inferInstance k l
theorem setOfK_congr {prog : Program} {w : World} {h : Heap} {a : Addr} {S S' : Key → Bool} {n n' : Nat} (hS : h.SetOf (mixKind prog w) a S n) (e : ∀ k, S k = S' k) (en : n = n') : h.SetOf (mixKind prog w) a S' n' := by
  have : S = S' := funext e
  subst this
  subst en
  exact hS
def uniqK (l : List Key) : List Key := l.foldl (fun acc k => if k ∈ acc then acc else acc ++ [k]) []
theorem uniqK_snoc (l : List Key) (x : Key) : uniqK (l ++ [x]) = if x ∈ uniqK l then uniqK l else uniqK l ++ [x] := by
  unfold uniqK
  rw [List.foldl_append]
  rfl
theorem uniqK_len : ∀ (n : Nat) (l : List Key), l.length = n → (uniqK l).length ≤ l.length ∧ (∀ k, k ∈ uniqK l ↔ k ∈ l) ∧ (l.Nodup → uniqK l = l) ∧ ((uniqK l).length = l.length → l.Nodup)
  | 0, l, h => by
    obtain rfl := List.eq_nil_of_length_eq_zero h
    exact ⟨Nat.le_refl _, fun k => Iff.rfl, fun _ => rfl, fun _ => List.nodup_nil⟩
  | n + 1, l, h => by
    have hl : l ≠ [] := by intro e; subst e; cases h
    obtain ⟨r, x, rfl⟩ : ∃ r x, l = r ++ [x] := ⟨l.dropLast, l.getLast hl, (List.dropLast_concat_getLast hl).symm⟩
    have hr : r.length = n := by rw [List.length_append] at h; simpa using h
    obtain ⟨a, b, c, d⟩ := uniqK_len n r hr
    rw [uniqK_snoc]
    by_cases hx : x ∈ uniqK r
    · rw [if_pos hx]
      have hx' := (b x).mp hx
      refine ⟨by rw [List.length_append]; exact Nat.le_trans a (Nat.le_add_right _ _), fun k => ?_, fun nd => ?_, fun e => ?_⟩
      · rw [b k, List.mem_append]
        constructor
        · exact .inl
        · rintro (z | z)
          · exact z
          · rw [List.mem_singleton] at z
            exact z ▸ hx'
      · exact absurd hx' (fun z => (List.nodup_append.mp nd).2.2 x z x List.mem_cons_self rfl)
      · rw [List.length_append, List.length_singleton] at e
        omega
    · rw [if_neg hx]
      have hx' : x ∉ r := fun z => hx ((b x).mpr z)
      refine ⟨by rw [List.length_append, List.length_append]; exact Nat.add_le_add_right a _, fun k => ?_, fun nd => ?_, fun e => ?_⟩
      · rw [List.mem_append, List.mem_append, b k]
      · rw [c (List.nodup_append.mp nd).1]
      · rw [List.length_append, List.length_append] at e
        have nd := d (Nat.add_right_cancel e)
        refine List.nodup_append.mpr ⟨nd, by simp, fun a ha b hb => ?_⟩
        rw [List.mem_singleton] at hb
        subst hb
        rintro rfl
        exact hx' ha
section
variable {prog : Program} {w : World} {A : Around} {R : Result → Shared → Prop} {I : Addr} {fp wr : List Addr} {G : Array GenState → Array GenState → Prop} {n : Nat} {P : Nat → Value → Prop} {St : Nat → Shared → Prop}
theorem loopMix (W : WalksS prog w A.in1 I fp wr G n P St) (S : Addr) (hSf : S ∉ fp) (xs : List Key) (hsz : xs.length = n) (hn1 : n ≤ 50)
    (hval : ∀ i v, P i v → ∃ k, xs[i]? = some k ∧ RelV (kV k) v) :
    ∀ (k i : Nat) (s : Shared), n - i = k → i ≤ n → St i s →
      s.heap.SetOf (mixKind prog w) S (fun k' => decide (k' ∈ uniqK (xs.take i))) (uniqK (xs.take i)).length →
      (∀ s', Moved (S :: wr) G s s' → s'.heap.SetOf (mixKind prog w) S (fun k' => decide (k' ∈ uniqK (xs.take n))) (uniqK (xs.take n)).length → R (.ok (.ret .none)) s') →
      codeAny (model prog w) A (.builtin "set.update.loop" ⟨[.ref S, .ref I], []⟩) R s := by
  have hSw : S ∉ wr := fun h => hSf (W.sub _ h)
  have hsub : ∀ b ∈ wr, b ∈ S :: wr := fun b hb => List.mem_cons_of_mem _ hb
  intro k
  induction k with
  | zero =>
    intro i s hk hi hst hS hR
    have hin : i = n := by omega
    subst hin
    refine codeAny_builtin PyProof.Rows.F.entry_set_update_loop ?_
    rw [Around.under_plainId PyProof.Rows.F.plain_set_update_loop _]
    show wpAny _ A.in1 (pyNext (.ref I) >>= _) _ _ s
    refine wpAny_bind (W.done s _ _ hst fun s' hm => ?_)
    show wpAny _ A.in1 (ret Value.none) _ _ s'
    exact wpAny_pure (hR s' (hm.mono hsub) (by
      obtain ⟨o, es, ep, t, ho, rest⟩ := hS
      exact ⟨o, es, ep, t, hm.heap S _ hSw ho, rest⟩))
  | succ k ih =>
    intro i s hk hi hst hS hR
    have hlt : i < n := by omega
    refine codeAny_builtin PyProof.Rows.F.entry_set_update_loop ?_
    rw [Around.under_plainId PyProof.Rows.F.plain_set_update_loop _]
    show wpAny _ A.in1 (pyNext (.ref I) >>= _) _ _ s
    refine wpAny_bind (W.item i s _ _ hlt hst fun v s' hP hst' hm => ?_)
    obtain ⟨x, hx, rv⟩ := hval i v hP
    have hS' : s'.heap.SetOf (mixKind prog w) S (fun k' => decide (k' ∈ uniqK (xs.take i))) (uniqK (xs.take i)).length := by
      obtain ⟨o, es, ep, tb, ho, rest⟩ := hS
      exact ⟨o, es, ep, tb, hm.heap S _ hSw ho, rest⟩
    show wpAny _ A.in1 (holding [v] (setAdd S v) >>= _) _ _ s'
    refine wpAny_bind (wpAny_holding ?_)
    unfold setAdd
    refine wpAny_holding ?_
    refine wpAny_bind ((mixKind prog w).pyHash (k := x) (kV_is rv) ?_)
    have lu : (uniqK (xs.take i)).length ≤ i := Nat.le_trans (uniqK_len _ _ rfl).1 (by rw [List.length_take]; exact Nat.min_le_left _ _)
    refine wpAny_setAddHashed_of (knd := mixKind prog w) (s := { s' with toks := s'.toks + 1 }) (kV_is rv) (key_scan rv) hS' (by unfold scanBound; omega) fun h' hsb hS2 => ?_
    have hSi : h'.SetOf (mixKind prog w) S (fun k' => decide (k' ∈ uniqK (xs.take (i + 1)))) (uniqK (xs.take (i + 1))).length := by
      have e : xs.take (i + 1) = xs.take i ++ [x] := by rw [List.take_add_one, hx]; rfl
      rw [e, uniqK_snoc]
      refine setOfK_congr hS2 (fun k' => ?_) ?_
      · by_cases h : x ∈ uniqK (xs.take i)
        · rw [if_pos h]
          by_cases e2 : k' = x
          · subst e2; simp [h]
          · simp [e2]
        · rw [if_neg h]
          simp [List.mem_append]
      · by_cases h : x ∈ uniqK (xs.take i)
        · rw [if_pos h, decide_eq_true h]; rfl
        · rw [if_neg h, decide_eq_false h, List.length_append]; rfl
    refine wpAny_pure ⟨plainId_quiet PyProof.Rows.F.plain_set_update_loop _, ih (i + 1) _ (by omega) hlt (W.frame _ s' _ _ hst' (Nat.le_succ _) fun b hb o e => ?_) hSi fun s'' hm'' hS'' => ?_⟩
    · rw [hsb.2 b (fun h : b = S => hSf (by rw [← h]; exact hb))]; exact e
    · refine hR s'' (Moved.trans W.gtrans ((hm.mono hsub).then_heap (Nat.le_succ _) fun b o hb e => ?_) hm'') hS''
      rw [hsb.2 b (fun h : b = S => hb (by rw [h]; exact List.mem_cons_self))]; exact e
end
section
variable {prog : Program} {w : World} {A : Around} {E : Value → Shared → Prop} {s : Shared}
theorem call_set_tupleM {l : Addr} {items : Array Value} {xs : List Key} {Q : Value → Shared → Prop}
    (hh : A.handled = none) (hl : s.heap.IsTuple l items) (hi : Vals (xs.map kV) items.toList) (hn1 : xs.length ≤ 50)
    (h : ∀ (h' : Heap) (tk : Nat), h'.SetOf (mixKind prog w) s.heap.objs.size (fun k' => decide (k' ∈ uniqK (xs.take items.size))) (uniqK (xs.take items.size)).length →
      (∀ b o, b < s.heap.objs.size → s.heap.get? b = some o → h'.get? b = some o) → Q (.ref s.heap.objs.size) { s with heap := h', toks := tk }) :
    wpAny (model prog w) A (call (.type "set") [.ref l]) Q E s := by
  obtain ⟨c, tl, hmro⟩ := PySem.F.called_set.mro
  have hmade := PySem.F.called_set.made
  have hsub := PySem.F.called_set.sub
  refine wpAny_call (codeAny_of_tree ?_)
  show wpAny _ _ (callAny (.type "set") _) _ _ _
  refine wpAny_pure ⟨Code.quiet_builtin _ (by decide +kernel), codeAny_builtin PySem.F.entry_type_call ?_⟩
  rw [Around.under_plain (weight_type_call_type "set" [.ref l] []) rfl]
  have h1 := PySem.F.called_set.notType
  have h2 := PySem.F.called_set.canCreate
  have hct := PySem.F.typeCall_set_1 (.ref l)
  repeat (any_goals (first | assumption | wp_step))
  refine codeAny_mono (code_set_new_1 (.ref l) (E := E) (Q₁ := fun obj s₁ => ∃ led : Bool, obj = .ref s.heap.objs.size ∧ s₁ = { s with heap := s.heap.push { cls := .type "set", dict := none, data := .set #[] 0 (.fresh 0 0 led) } }) fun led => ⟨led, rfl, rfl⟩) fun r s₁ hr => ?_
  cases r with
  | error e => exact hr
  | ok fl =>
    cases fl with
    | ret obj =>
      obtain ⟨led, rfl, rfl⟩ := hr
      have hS : (s.heap.push { cls := .type "set", dict := none, data := .set #[] 0 (.fresh 0 0 led) }).get? s.heap.objs.size = some { cls := .type "set", dict := none, data := .set #[] 0 (.fresh 0 0 led) } := Heap.get?_push_size _ rfl
      have hT : Shared.TypeIs { s with heap := s.heap.push { cls := .type "set", dict := none, data := .set #[] 0 (.fresh 0 0 led) } } (.ref s.heap.objs.size) "set" := ⟨_, hS, rfl⟩
      have hli := PySem.F.called_set.init.lookup
      have hbi := PySem.F.called_set.init.bind (.ref s.heap.objs.size)
      repeat (any_goals (first | assumption | wp_step))
      refine codeAny_mono (codeAny_call_builtin (R := wants (fun r s₂ => r = .none ∧ ∃ h' tk, s₂ = { s with heap := h', toks := tk } ∧
          h'.SetOf (mixKind prog w) s.heap.objs.size (fun k' => decide (k' ∈ uniqK (xs.take items.size))) (uniqK (xs.take items.size)).length ∧
          (∀ b o, b < s.heap.objs.size → s.heap.get? b = some o → h'.get? b = some o)) E) PySem.F.called_set.init.plain PySem.F.entry_set_init (check_set_init_1 hT ?_)) fun r₂ s₂ hr₂ => ?_
      · obtain ⟨ol, hol, hcl, nl, hdl⟩ := hl
        obtain ⟨ocls, odict, odata, oslots⟩ := ol
        simp only at hcl hdl
        subst hcl; subst hdl
        have hol' : (s.heap.push { cls := .type "set", dict := none, data := .set #[] 0 (.fresh 0 0 led) }).get? l = some { cls := .type "tuple", dict := odict, data := .seq items nl, slots := oslots } := Heap.get?_push_of_some _ hol
        have hsls := PySem.F.sub_tuple_set
        have hslf := PySem.F.sub_tuple_frozenset
        have hne : (Value.type "tuple" == Value.type "dict") = false := by decide
        have hl1 : (s.heap.push { cls := .type "set", dict := none, data := .set #[] 0 (.fresh 0 0 led) }).IsTuple l items := ⟨_, hol', rfl, nl, rfl⟩
        unfold Builtin.«set.__init__» noKeywords Builtin.Frozenset.updateFrom
        generalize hPI : pyIter = PI
        wp_walk
        subst hPI
        refine wpAny_pyIter_tuple hl1 ?_
        refine wpAny_bind (wpAny_runValue ?_)
        have hlS : l < s.heap.objs.size := Heap.lt_size hol
        have hh3 : A.in1.in1.in1.handled = none := by simp [hh]
        have hneI : l ≠ (s.heap.push { cls := .type "set", dict := none, data := .set #[] 0 (.fresh 0 0 led) }).objs.size := by
          rw [Heap.size_push]; exact Nat.ne_of_lt (Nat.lt_succ_of_lt hlS)
        have hSf : s.heap.objs.size ∉ [(s.heap.push { cls := .type "set", dict := none, data := .set #[] 0 (.fresh 0 0 led) }).objs.size, l] := by
          rw [Heap.size_push]; simp only [List.mem_cons, List.mem_singleton, List.not_mem_nil, or_false, not_or]
          exact ⟨Nat.ne_of_lt (Nat.lt_succ_self _), Nat.ne_of_gt hlS⟩
        have hsz : xs.length = items.size := by rw [← Array.length_toList, ← hi.length, List.length_map]
        have hval : ∀ (i : Nat) (v : Value), items[i]? = some v → ∃ k, xs[i]? = some k ∧ RelV (kV k) v := fun i v hv => by
          have hlt : i < items.size := (Array.getElem?_eq_some_iff.mp hv).1
          have hlx : i < xs.length := by omega
          refine ⟨xs[i], List.getElem?_eq_getElem hlx, ?_⟩
          obtain ⟨w', hw, rw'⟩ := hi.get (i := i) (x := kV xs[i]) (by rw [List.getElem?_map, List.getElem?_eq_getElem hlx]; rfl)
          rw [Array.getElem?_toList] at hw
          rw [hv] at hw
          cases hw
          exact rw'
        refine loopMix ((Walks.tuple hh3 _ l hneI items).toS) s.heap.objs.size
          hSf xs hsz (by rw [← hsz]; exact hn1) hval (items.size - 0) 0 _ (by omega) (Nat.zero_le _)
          ⟨⟨_, Heap.get?_push_size _ rfl, rfl, rfl⟩, (hl1.push _)⟩ ?hS0 ?hR
        case hS0 =>
          have hget : ((s.heap.push { cls := .type "set", dict := none, data := .set #[] 0 (.fresh 0 0 led) }).push { cls := .type "tuple_iterator", data := .fields #[.ref l, .int 0 0] }).get? s.heap.objs.size
              = some { cls := .type "set", dict := none, data := .set #[] 0 (.fresh 0 0 led) } := Heap.get?_push_of_some _ hS
          exact ⟨_, #[], 0, _, hget, ⟨rfl, rfl, rfl⟩, rfl, (fun e he => by simp at he), (fun k => by simp [uniqK]), (by decide), (by rfl), rfl⟩
        case hR =>
          intro s' hm hS'
          obtain ⟨h', g', d', tk', os'⟩ := s'
          have eg : g' = s.gens := hm.gens
          have ed : d' = s.drawn := hm.drawn
          have eo : os' = s.os := hm.os
          subst eg; subst ed; subst eo
          show wpAny _ _ _ _ _ _
          refine wpAny_pure ?_
          show wpAny _ _ (ret Value.none) _ _ _
          refine wpAny_pure ⟨rfl, h', tk', rfl, hS', fun b o hb e => ?_⟩
          have hb1 : b ≠ s.heap.objs.size := Nat.ne_of_lt hb
          have hb2 : b ≠ (s.heap.push { cls := .type "set", dict := none, data := .set #[] 0 (.fresh 0 0 led) }).objs.size := by
            rw [Heap.size_push]; exact Nat.ne_of_lt (Nat.lt_succ_of_lt hb)
          exact hm.heap b o (by simp only [List.mem_cons, List.mem_singleton, List.not_mem_nil, or_false, not_or]; exact ⟨hb1, hb2⟩) (Heap.get?_push_of_some _ (Heap.get?_push_of_some _ e))
      · cases r₂ with
        | error e => exact hr₂
        | ok fl₂ =>
          cases fl₂ with
          | ret r =>
            obtain ⟨rfl, h', tk, rfl, hS', hk'⟩ := hr₂
            repeat (any_goals (first | assumption | wp_step))
            exact h _ _ hS' hk'
          | _ => exact hr₂.elim
    | _ => exact hr.elim
end
section
variable {X : Cx}
def tLenSetM (ta : TE) : TE := fun σ H Q => ta σ H fun x H1 => ∃ (l : Addr) (xs : List Key), x = .ref l ∧ H1 l = some (.tup (xs.map kV)) ∧ xs.length ≤ 50 ∧ Q (.int (uniqK xs).length) H1
theorem pe_lenSetM {a : Expr} {ta : TE} {p p2 q pos : Pos} (hc : X.calm = true) (hg : Gl X "len") (hm : X.mg "len" = none) (hg2 : Gl X "set") (hm2 : X.mg "set" = none) (ha : PE X a ta)
    (na : starEach [a] X.env = (false, eval a X.env) :: starEach [] X.env := by rfl) : PE X (.Call (.Name "len" p) [.Call (.Name "set" p2) [a] [] q] [] pos) (tLenSetM ta) := by
  refine ⟨fun pins s σ H Q I h => ?_⟩
  refine Call_ (ld_blt I hg hm boot_len ?_)
  refine PyProof.Rows.callWith_builtin1 (PyProof.Rows.args_cons ?_ rfl) rfl rfl
  refine Call_ (ld_blt I hg2 hm2 boot_set ?_)
  refine PyProof.Rows.callWith_type1 (PyProof.Rows.args_cons (thn (ha.run pins s σ H _ I h) fun v s1 ⟨x, H1, I1, r1, q1⟩ => PyProof.Rows.args_nil ?_) na) na rfl
  obtain ⟨l, xs, rfl, hq, h1, q1⟩ := q1
  cases r1
  obtain ⟨its, r, pl, hz⟩ := I1.tuple (SqT.of hq)
  refine call_set_tupleM (I1.ok.hd hc) pl (by simpa using r) h1 fun h' tk hS hk => ?_
  refine PyProof.Rows.args_nil ?_
  have hl : its.toArray.size = xs.length := by rw [List.size_toArray, ← r.length, List.length_map]
  rw [hl, List.take_length] at hS
  obtain ⟨o, es, ep, t, ho, hex, hd, _, _, _, hf, hn⟩ := hS
  have I2 : L2.Inv X pins σ H1 { s1 with heap := h', toks := tk } := I1.kept fun b o e => hk b o (Heap.lt_size e) e
  have lu := (uniqK_len _ xs rfl).1
  refine call_len_set ho hex hd hf (by rw [hn] <;> omega) ⟨.int (uniqK xs).length, H1, I2.tok _, ⟨_, by rw [hn]⟩, q1⟩
/-- t.index(n), the first place -/
def rIdxI (K : PySem.W.Frag) : V → List V → Hp → VK → Prop := fun x xs H Q => ∃ (p : Addr) (ys : List Int) (z : Int) (j : Nat), x = .ref p ∧ xs = [.int z] ∧ SqT K H p (ys.map V.int) ∧ ys[j]? = some z ∧ (∀ m, m < j → ys[m]? ≠ some z) ∧ Q (.int (j : Nat)) H
theorem flat_ints (ys : List Int) : (ys.map V.int).all flatV = true := by
  rw [List.all_map]
  exact List.all_eq_true.mpr fun _ _ => rfl
theorem mt_tup_indexI : MtR X "tuple.index" (rIdxI X.K) := by
  intro pins s σ H x xs v us Q I rx rs h
  obtain ⟨p, ys, z, j, rfl, rfl, hq, hy, hno, q⟩ := h
  cases rx
  obtain ⟨u, rfl, t, rfl⟩ := vals1 rs
  obtain ⟨its, r, pl, hz⟩ := I.tuple hq
  obtain ⟨⟨cls, dd, dt, sl⟩, ho, hc, n, hd⟩ := pl
  simp only at hc hd
  subst hc
  subst hd
  have hl : its.toArray.size = ys.length := by rw [List.size_toArray, ← r.length, List.length_map]
  have hj : j < its.toArray.size := by rw [hl]; exact (List.getElem?_eq_some_iff.mp hy).1
  have at' : ∀ (m : Nat) (hm : m < its.toArray.size), ∃ y t', ys[m]? = some y ∧ its.toArray[m] = Value.int y t' := fun m hm => by
    have hm' : m < ys.length := by rw [← hl]; exact hm
    obtain ⟨w, hw, t', hw'⟩ := r.get (i := m) (x := .int ys[m]) (by simp [hm'])
    refine ⟨ys[m], t', List.getElem?_eq_getElem hm', ?_⟩
    have e := (List.getElem?_eq_some_iff.mp hw).2
    rw [← hw', ← e]
    simp
  refine call_meets PySem.F.slot_tuple_index ⟨_, ho, rfl⟩ PySem.F.entry_tuple_index (PySem.F.args_tuple_index_2 _ _) (TI.tuple_indexAt p its.toArray n dd sl (.int z t) (eqU (.int z)) j hj ?_ ?_)
    ⟨ho, fun w hw => mem_eqAt (x := .int z) ⟨t, rfl⟩ rfl r (flat_ints ys) w (by simpa using hw), ⟨.int (j : Nat), H, I.tok _, ⟨_, rfl⟩, q⟩⟩
  · obtain ⟨y, t', h1, h2⟩ := at' j hj
    rw [hy] at h1
    cases h1
    rw [h2]
    show (z == z) = true
    exact beq_self_eq_true z
  · intro m hm hmj
    obtain ⟨y, t', h1, h2⟩ := at' m hm
    rw [h2]
    show (y == z) = false
    have : y ≠ z := fun e => hno m hmj (by rw [h1, e])
    exact beq_eq_false_iff_ne.mpr this
end
end Sb
namespace Sb
open PySem PySem.Spec PyProof.Rows L2
section
variable {X : Cx}
/-- tuple(xs) -/
def rTupF (K : PySem.W.Frag) : List V → Hp → VK → Prop := fun xs H Q => ∃ p ys, xs = [.ref p] ∧ SqL K H p ys ∧ ∀ l ob, H l = none → ob.dict = none → Q (.ref l) (upd H l (.frz ob (.tup ys)))
theorem call_tupleF : CallR X (.type "tuple") (rTupF X.K) := by
  intro pins s σ H xs us Q I r h
  obtain ⟨p, ys, rfl, hq, q⟩ := h
  obtain ⟨u, rfl, rx⟩ := vals1 r
  cases rx
  obtain ⟨its, r', pl, hz⟩ := I.list hq
  have hlen := r'.length
  refine call_tuple_list pl.isList (fun h' kp => ?_) (by simp only [List.size_toArray] <;> omega)
  have I1 : L2.Inv X pins σ H { s with heap := h' } := I.kept (t' := s.toks) kp
  have I2 : L2.Inv X pins σ (upd H h'.objs.size (.frz { cls := .type "tuple", data := .seq its.toArray } (.tup ys))) { s with heap := h'.push { cls := .type "tuple", data := .seq its.toArray } } :=
    I1.laid (t' := s.toks) (fun b o e => Heap.get?_push_of_some _ e) (Nat.le_refl _) (show ObjOk X.prog X.w _ _ _ (.frz _ (.tup ys)) from ⟨Heap.get?_push_size _ rfl, hz, its, r', IsTup.new _ _⟩)
  exact ⟨.ref h'.objs.size, _, I2, rfl, q _ _ (I1.hok.fresh (Nat.le_refl _)) rfl⟩
/-- t.m(e, ..) -/
def tBMT (r : V → List V → Hp → VK → Prop) (to : TE) (t : TA) : TE := fun σ H Q => to σ H fun x H1 => (∃ p ob xs, x = V.ref p ∧ H1 p = some (.frz ob (.tup xs)) ∧ ob.dict = none) ∧ t σ H1 fun xs H2 => r x xs H2 Q
variable {o e : Expr} {es : List Expr} {to : TE} {t : TA} {name : Str} {apos cpos : Pos} {id : String} {r : V → List V → Hp → VK → Prop}
theorem pe_bmT (pa : PlainAttrs "tuple") (slot : Slot "tuple" name id) (hty : typeOf (.builtin id) = pure (.type "method_descriptor")) (hm : MtR X id r) (ho : PE X o to) (ha : PA X (e :: es) t)
    (hbase : attributeBase o name X.env (eval o X.env) = eval o X.env := by rfl)
    (hfew : ((backTo cpos (starEach (e :: es) X.env)).all (fun x => !x.1) && (backToKw cpos (keywordEach [] X.env)).all (fun x => x.1.isSome)
      && decide ((e :: es).length + ([] : List Keyword).length + (if ([] : List Keyword).isEmpty then 0 else 1) < 30)) = true := by rfl)
    (hline : (apos.endLine == cpos.line) = true := by rfl) (hs : starEach (e :: es) X.env = (false, eval e X.env) :: starEach es X.env := by rfl) (hplain : (backTo cpos (starEach es X.env)).any (·.1) = false := by rfl) :
    PE X (.Call (.Attribute o name apos) (e :: es) [] cpos) (tBMT r to t) := by
  refine ⟨fun pins s σ H Q I h => ?_⟩
  refine wpAny_Call_method_late hbase hfew hline rfl (thn (ho.run pins s σ H _ I h) fun v s1 ⟨x, H1, I1, r1, ⟨p, ob, xs, ex, hp, hd⟩, q1⟩ => ?_)
  subst ex
  obtain rfl : v = Value.ref p := r1
  obtain ⟨g, z, its, rv, o', ho', hc, n, hdat⟩ := (show ObjOk X.prog X.w H1 s1.heap p (.frz ob (.tup xs)) from I1.hok p _ hp)
  have eo : o' = ob := by
    rw [g] at ho'
    exact (Option.some.inj ho').symm
  subst eo
  refine ⟨"tuple", id, pa, slot, hty, ⟨o', g, hc⟩, fun a e2 => ?_, ?_⟩
  · cases e2
    exact ⟨o', g, hd⟩
  have hA := ha.run cpos pins s1 σ H1 _ I1 q1
  rw [hs] at hA ⊢
  refine Calls.callWith_builtin (by show (false || (backTo cpos (starEach es X.env)).any (·.1)) = false; rw [hplain] <;> rfl) (Calls.evalArgs_plain ?_)
  exact thn hA fun us s2 ⟨vs, H2, I2, r2, q2⟩ => hm pins s2 σ H2 (.ref p) vs (.ref p) us Q I2 rfl r2 q2
end
/-- held values, in order, at a -/
def HT (H : Hp) (a : Addr) (ns : List Int) : Prop := ∃ ob, H a = some (.frz ob (.tup (ns.map V.int))) ∧ ob.dict = none
theorem HT.sq {K : PySem.W.Frag} {H : Hp} {a : Addr} {ns : List Int} (h : HT H a ns) : SqT K H a (ns.map V.int) := by
  obtain ⟨ob, e, _⟩ := h
  exact .inl (.inr ⟨ob, e⟩)
theorem HT.mono {H H' : Hp} {a : Addr} {ns : List Int} (h : HT H a ns) (s : Same H H') : HT H' a ns := by
  obtain ⟨ob, e, d⟩ := h
  exact ⟨ob, s _ _ e, d⟩
theorem HT.ty {H : Hp} {a : Addr} {ns : List Int} (h : HT H a ns) : ∃ p ob xs, V.ref a = V.ref p ∧ H p = some (.frz ob (.tup xs)) ∧ ob.dict = none := by
  obtain ⟨ob, e, d⟩ := h
  exact ⟨a, ob, _, rfl, e, d⟩
theorem inV_ints (v : Int) : ∀ ns : List Int, inV (.int v) (ns.map V.int) = decide (v ∈ ns)
  | [] => rfl
  | n :: r => by
    have ih := inV_ints v r
    unfold inV at ih ⊢
    rw [List.map_cons, List.any_cons, ih]
    by_cases h : n = v
    · subst h
      simp [eqV]
    · have h' : ¬ v = n := fun e => h e.symm
      simp [eqV, h, h', List.mem_cons]
end Sb
namespace Sb
open PySem PySem.Spec PyProof.Rows L2
theorem idx_append {names : List Int} {v : Int} (h : v ∈ names) (t : List Int) : (names ++ t).idxOf v = names.idxOf v := by
  induction names with
  | nil => cases h
  | cons x r ih =>
    simp only [List.cons_append, List.idxOf_cons]
    by_cases e : x == v
    · simp [e]
    · rcases List.mem_cons.mp h with rfl | h
      · simp at e
      · simp [e, ih h]
theorem idx_new {names : List Int} {v : Int} (h : v ∉ names) : (names ++ [v]).idxOf v = names.length := by
  induction names with
  | nil => simp
  | cons x r ih =>
    have hx : ¬ x = v := fun e => h (by rw [e]; exact List.mem_cons_self)
    have hr : v ∉ r := fun e => h (List.mem_cons_of_mem _ e)
    simp only [List.cons_append, List.idxOf_cons, List.length_cons]
    rw [ih hr]
    have e1 : (x == v) = false := by simpa using hx
    rw [e1]
    rfl
def DN (kvs : List (Key × V)) (names : List Int) : Prop := kvs.length = names.length ∧ ∀ v : Int, valV kvs (Sum.inl v : Key) = if v ∈ names then some (.int (names.idxOf v : Nat)) else none
theorem DN.nil : DN [] [] := ⟨rfl, fun v => by rw [if_neg (by simp)]; rfl⟩
theorem DN.out {kvs : List (Key × V)} {names : List Int} (h : DN kvs names) {v : Int} (hv : v ∉ names) : valV kvs (Sum.inl v : Key) = none := by rw [h.2, if_neg hv]
theorem DN.put {kvs : List (Key × V)} {names : List Int} (h : DN kvs names) {v : Int} (hv : v ∉ names) : DN (putK kvs (Sum.inl v : Key) (.int (kvs.length : Nat))) (names ++ [v]) := by
  refine ⟨?_, fun u => ?_⟩
  · rw [putK_new _ (h.out hv), List.length_append, List.length_append, h.1]
    rfl
  · rw [valV_put]
    by_cases e : u = v
    · subst e
      rw [if_pos rfl, if_pos (by simp), idx_new hv, h.1]
    · rw [if_neg (fun z => e (Sum.inl.inj z)), h.2]
      by_cases hu : u ∈ names
      · rw [if_pos hu, if_pos (List.mem_append_left _ hu), idx_append hu]
      · rw [if_neg hu, if_neg]
        intro z
        rcases List.mem_append.mp z with z | z
        · exact hu z
        · simp at z
          exact e z
end Sb
namespace Sb
open PySem PySem.Spec PyProof.Rows L2
section
variable {prog : Program} {w : World} {A : Around} {E : Value → Shared → Prop} {s : Shared}
theorem dict_eq_str (l : Addr) (o : Obj) (b : Str) (u : Tok) {Q : Value → Shared → Prop} (ho : s.heap.get? l = some o) (hc : o.ExactDict) (hq : Q .notImplemented s) : wpAny (model prog w) A (call (.builtin "dict.__eq__") [.ref l, .str b u]) Q E s := by
  have ta : s.TypeIs (.ref l) "dict" := ⟨o, ho, hc.1⟩
  refine wpAny_call_entry PySem.F.slot_dict_eq ta PySem.F.entry_dict_eq ?_ (PySem.F.args_dict_eq_2 _ _)
  show wpAny _ _ (Builtin.Dict.dictSlotArgs "__eq__" ⟨[.ref l, .str b u], []⟩ >>= _) _ _ s
  refine wpAny_bind ?_
  unfold Builtin.Dict.dictSlotArgs
  refine wpAny_bind (wpAny_notOrdered_dict ta ?_)
  show wpAny _ _ (pure (Value.ref l, Value.str b u)) _ _ s
  refine wpAny_pure ?_
  refine wpAny_bind (wpAny_isInstance (T := "str") (typeIs_str s b u) PySem.F.sub_str_dict ?_)
  exact wpAny_bind (wpAny_rule (wpAny_pure ⟨_, rfl, hq⟩))
theorem str_eq_obj (b : Str) (u : Tok) (l : Addr) (c : Value) (es : Array DictEntry) (ep : Nat) (dd : Option Addr) (sl : Array (Option Value)) :
    Meets (Builtin.«str.__eq__» ⟨[.str b u, .ref l], []⟩) (fun _ R s => s.heap.get? l = some { cls := c, dict := dd, data := .dict es ep, slots := sl } ∧ R (.ok (.ret .notImplemented)) s) :=
  .of_wp fun prog w A R s h => by obtain ⟨hp, g, d, tk, os⟩ := s; obtain ⟨hl, h⟩ := h; wp_walk using wpAny_loadPart' hl, wpAny_load hl; exact ⟨_, rfl, h⟩
theorem rc_dict_str {l : Addr} {o : Obj} {es : Array DictEntry} {ep : Nat} (b : Str) (u : Tok) (ho : s.heap.get? l = some o) (hc : o.ExactDict) (hd : o.data = .dict es ep) (hu : A.units < cLine) {Q : Value → Shared → Prop} (h : Q (.bool false) s) : wpAny (model prog w) A (compareOp .Eq (.ref l) (.str b u)) Q E s := by
  obtain ⟨cls, dd, data, sl⟩ := o
  simp only at hd
  subst hd
  exact SeqAt.rc_eq_decline_or (k := false) ⟨_, ho, hc.1⟩ (typeIs_str s b u) (by decide) PySem.F.sub_str_dict PySem.F.slot_dict_eq PySem.F.slot_str_eq_refl
    (fun _ hq => dict_eq_str l _ b u ho hc hq)
    (fun _ hq => call_meets PySem.F.slot_str_eq_refl (typeIs_str s b u) PySem.F.entry_str_eq (PySem.F.args_str_eq_2 _ _) (str_eq_obj b u l cls es ep dd sl) ⟨ho, hq⟩)
    (fun _ hq => wpAny_of_eq (rfl : isSame (.ref l) (.str b u) = pure false) hq) (.inr hu) h
end
section
variable {X : Cx}
/-- x == text, x of any kind -/
def rEqS' : R2 := fun x y H Q => ∃ p d z, LD p H x d ∧ y = .str z ∧ Q (.bl (isStrD d z)) H
theorem op_eqS' (hu : X.A.units + 64 < cLine) : OpR X (compareOp .Eq) rEqS' := by
  intro pins s σ H x y v u Q I rx ry h
  obtain ⟨p, d, z, hx, rfl, q⟩ := h
  by_cases hd : isDctD d = false
  · exact op_eqS hu pins s σ H _ _ v u Q I rx ry ⟨p, d, z, hx, hd, rfl, q⟩
  · obtain ⟨tz, rfl⟩ := ry
    cases hx with
    | @dic a n e =>
      cases rx
      obtain ⟨_, low, vs, rel, o, es, ep, ho, ex, hdt, _⟩ := dk_of I.hok e
      exact rc_dict_str z tz ho ex hdt (by omega) ⟨.bl _, H, I, rfl, q⟩
    | @dct a n e =>
      cases rx
      obtain ⟨_, low, xs, rel, o, es, ep, ho, ex, hdt, _⟩ := dt_of I.hok e
      exact rc_dict_str z tz ho ex hdt (by omega) ⟨.bl _, H, I, rfl, q⟩
    | _ => exact absurd rfl hd
end
end Sb
namespace Sb
open PySem PySem.Spec PyProof.Rows L2
section
variable {X : Cx}
/-- l != [] -/
def rNeL0 : R2 := fun x y H Q => ∃ a b xs, x = .ref a ∧ y = .ref b ∧ H a = some (.lst xs) ∧ H b = some (.lst []) ∧ Q (.bl (!xs.isEmpty)) H
theorem op_neL0 (hu : X.A.units + 64 < cLine) : OpR X (compareOp .NotEq) rNeL0 := by
  intro pins s σ H x y v u Q I rx ry h
  obtain ⟨a, b, xs, rfl, rfl, ha, hb, q⟩ := h
  cases rx
  cases ry
  obtain ⟨its, r1, t1, _⟩ := I.list (SqL.of (K := X.K) ha)
  obtain ⟨its2, r2, t2, _⟩ := I.list (SqL.of (K := X.K) hb)
  cases r2
  cases xs with
  | nil =>
    cases r1
    refine SeqAt.RcNeAt.lists (e := fun _ => true) t1.isList t2.isList rfl (by omega) (fun j _ h2 => absurd h2 (Nat.not_lt_zero _)) X.prog X.w X.xe (EP X pins σ Q) ⟨.bl _, H, I, rfl, q⟩
  | cons z zs =>
    cases r1
    refine SeqAt.RcNeAt.lists_lengths t1.isList t2.isList (by rfl) (by omega) X.prog X.w X.xe (EP X pins σ Q) ⟨.bl _, H, I, rfl, q⟩
end
end Sb
namespace Sb
open PySem PySem.Spec PyProof.Rows L2
open PySem.W (EachIs dataLe AllAlike Sortable)
mutual
/-- a nested key as data -/
def nkD : NestedKey → PyData
  | .none => .none
  | .num i => .int i
  | .text x => .str x
  | .tup ks => .tuple (nkDs ks)
def nkDs : List NestedKey → List PyData
  | [] => []
  | k :: r => nkD k :: nkDs r
end
mutual
theorem nkD_depth : ∀ k : NestedKey, (nkD k).depth ≤ k.depth
  | .none => Nat.zero_le _
  | .num _ => Nat.zero_le _
  | .text _ => Nat.zero_le _
  | .tup ks => by
    have := nkDs_depth ks
    show PyData.depthAll (nkDs ks) + 1 ≤ NestedKey.depth (.tup ks)
    rw [NestedKey.depth]
    omega
theorem nkDs_depth : ∀ ks : List NestedKey, PyData.depthAll (nkDs ks) ≤ NestedKey.depthAll ks
  | [] => Nat.zero_le _
  | k :: r => by
    have h1 := nkD_depth k
    have h2 := nkDs_depth r
    show max (nkD k).depth (PyData.depthAll (nkDs r)) ≤ NestedKey.depthAll (k :: r)
    rw [NestedKey.depthAll]
    omega
end
abbrev NRow := NestedKey × Addr × Value
/-- what stands at a: a dict of these entries -/
def NO (P : Program) (w : World) (a : Addr) (xs : List NRow) : HO := .ext fun h => (a == sysModules) = false ∧ xs.length ≤ sizeLine ∧ ∃ o es ep, h.get? a = some o ∧ o.ExactDict ∧ o.data = .dict es ep ∧ es.toList = xs.map (entryOfKey (nestedKind P w)) ∧ (xs.map (·.1)).Nodup
/-- a key's value, in the heap -/
def NKey (H : Hp) (k : NestedKey) (v : V) : Prop := k.depth ≤ 8 ∧ TD H v (nkD k) ∧ ∃ ks, k = .tup ks
theorem NKey.mono {H H' : Hp} {k : NestedKey} {v : V} (t : Tups H H') (h : NKey H k v) : NKey H' k v := ⟨h.1, TD.mono t _ h.2.1, h.2.2⟩
abbrev NRel (H : Hp) : List (NestedKey × V) → List NRow → Prop := Paired fun p q => p.1 = q.1 ∧ NKey H p.1 (.ref q.2.1) ∧ RelV p.2 q.2.2
theorem NRel.mono {H H' : Hp} {kvs : List (NestedKey × V)} {xs : List NRow} (t : Tups H H') (h : NRel H kvs xs) : NRel H' kvs xs := Paired.mapP h fun _ _ z => ⟨z.1, z.2.1.mono t, z.2.2⟩
theorem NRel.val {H : Hp} {kvs : List (NestedKey × V)} {xs : List NRow} (r : NRel H kvs xs) (k : NestedKey) : RelO (valV kvs k) ((atKey xs k).map (·.2)) := by
  induction r with
  | nil => exact True.intro
  | @cons p q ps qs h t ih =>
    by_cases e : p.1 = k
    · have e' : q.1 = k := h.1.symm.trans e
      have b : atKey (q :: qs) k = some q.2 := by simp [atKey, List.find?_cons, e']
      rw [valV_pos e, b]
      exact h.2.2
    · have e' : ¬ q.1 = k := fun z => e (h.1.trans z)
      have b : atKey (q :: qs) k = atKey qs k := by simp [atKey, List.find?_cons, e']
      rw [valV_neg e, b]
      exact ih
theorem NRel.repl {H : Hp} {kvs : List (NestedKey × V)} {xs : List NRow} (r : NRel H kvs xs) (k : NestedKey) {y : V} {u : Value} (ry : RelV y u) : NRel H (kvs.map fun kv => if kv.1 = k then (kv.1, y) else kv) (xs.map (putAt k u)) := by
  induction r with
  | nil => exact .nil
  | @cons p q ps qs h t ih =>
    refine .cons ?_ ih
    dsimp only
    by_cases e : p.1 = k
    · have e' : q.1 = k := h.1.symm.trans e
      rw [if_pos e, show putAt k u q = (q.1, q.2.1, u) from if_pos e']
      exact ⟨h.1, h.2.1, ry⟩
    · have e' : ¬ q.1 = k := fun z => e (h.1.trans z)
      rw [if_neg e, show putAt k u q = q from if_neg e']
      exact h
theorem NRel.put {H : Hp} {kvs : List (NestedKey × V)} {xs : List NRow} (r : NRel H kvs xs) {k : NestedKey} {b : Addr} {y : V} {u : Value} (hb : NKey H k (.ref b)) (ry : RelV y u) : NRel H (putK kvs k y) (storedH xs k b u) := by
  have e : (kvs.any fun kv => decide (kv.1 = k)) = (atKey xs k).isSome := by
    rw [valV_any, (r.val k).isSome_eq, Option.isSome_map]
  unfold putK storedH
  rw [e]
  by_cases q : (atKey xs k).isSome = true
  · rw [if_pos q, if_pos q]
    exact r.repl k ry
  · rw [if_neg q, if_neg q]
    exact Paired.snoc r ⟨rfl, hb, ry⟩
/-- at a stands a dict of these keys and values -/
def NDict (P : Program) (w : World) (H : Hp) (a : Addr) (kvs : List (NestedKey × V)) : Prop := ∃ xs, H a = some (NO P w a xs) ∧ NRel H kvs xs
theorem NDict.keep {P : Program} {w : World} {H H' : Hp} {a : Addr} {kvs : List (NestedKey × V)} (h : NDict P w H a kvs) (t : Tups H H') (k : ∀ o, H a = some o → H' a = some o) : NDict P w H' a kvs := by
  obtain ⟨xs, e, r⟩ := h
  exact ⟨xs, k _ e, r.mono t⟩
theorem NDict.mono {P : Program} {w : World} {H H' : Hp} {a : Addr} {kvs : List (NestedKey × V)} (h : NDict P w H a kvs) (s : Same H H') : NDict P w H' a kvs := h.keep (Tups.same s) (fun _ z => s _ _ z)
theorem NDict.some {P : Program} {w : World} {H : Hp} {a : Addr} {kvs : List (NestedKey × V)} (h : NDict P w H a kvs) : ∃ φ, H a = some (.ext φ) := let ⟨_, e, _⟩ := h; ⟨_, e⟩
section
variable {X : Cx} {pins : List (Addr × Obj)} {σ : L2.St} {H : Hp} {s : Shared} {a : Addr} {kvs : List (NestedKey × V)} {k : NestedKey} {y v : V} {u r : Value} {A : Around} {E : Value → Shared → Prop}
mutual
theorem nested_of (I : Inv X pins σ H s) : ∀ (k : NestedKey) (v : V) (u : Value), TD H v (nkD k) → RelV v u → NestedIs s.heap k u
  | .none, _, u, h, r => by
    cases h
    obtain rfl : u = Value.none := r
    exact .none
  | .num i, _, u, h, r => by
    cases h
    obtain ⟨t, rfl⟩ := r
    exact .int i t
  | .text x, _, u, h, r => by
    cases h
    obtain ⟨t, rfl⟩ := r
    exact .text x t
  | .tup ks, _, u, h, r => by
    cases h with
    | @tup a xs ds e d =>
      obtain rfl : u = Value.ref a := r
      obtain ⟨_, its, rv, o, h1, h2, n, h3⟩ := (show ObjOk X.prog X.w H s.heap a (.tup xs) from I.hok a _ e)
      exact .tup h1 h2 h3 (by simpa using nested_all I ks xs its d rv)
theorem nested_all (I : Inv X pins σ H s) : ∀ (ks : List NestedKey) (vs : List V) (us : List Value), TDs H vs (nkDs ks) → Vals vs us → NestedAll s.heap ks us
  | [], _, _, h, r => by
    cases h
    cases r
    exact .nil
  | k :: ks, _, _, h, r => by
    cases h with
    | cons h1 h2 =>
      cases r with
      | cons r1 r2 => exact .cons (nested_of I k _ _ h1 r1) (nested_all I ks _ _ h2 r2)
end
mutual
theorem nested_rd (I : Inv X pins σ H s) : ∀ (k : NestedKey) (v : V) (u : Value), TD H v (nkD k) → RelV v u → Reads s.heap u (nkD k) []
  | .none, _, u, h, r => by
    cases h
    obtain rfl : u = Value.none := r
    exact .none
  | .num i, _, u, h, r => by
    cases h
    obtain ⟨t, rfl⟩ := r
    exact .int i t
  | .text x, _, u, h, r => by
    cases h
    obtain ⟨t, rfl⟩ := r
    exact .str x t
  | .tup ks, _, u, h, r => by
    cases h with
    | @tup a xs ds e d =>
      obtain rfl : u = Value.ref a := r
      obtain ⟨_, its, rv, o, h1, h2, n, h3⟩ := (show ObjOk X.prog X.w H s.heap a (.tup xs) from I.hok a _ e)
      exact .tuple h1 h2 h3 (by simpa using nested_rds I ks xs its d rv)
theorem nested_rds (I : Inv X pins σ H s) : ∀ (ks : List NestedKey) (vs : List V) (us : List Value), TDs H vs (nkDs ks) → Vals vs us → ReadsAll s.heap us (nkDs ks) []
  | [], _, _, h, r => by
    cases h
    cases r
    exact .nil
  | k :: ks, _, _, h, r => by
    cases h with
    | cons h1 h2 =>
      cases r with
      | cons r1 r2 => exact .cons (as := []) (bs := []) (nested_rd I k _ _ h1 r1) (nested_rds I ks _ _ h2 r2)
end
theorem nkey_of (I : Inv X pins σ H s) {b : Addr} (h : NKey H k (.ref b)) : (nestedKind X.prog X.w).is s.heap k b := ⟨nested_of I k _ _ h.2.1 rfl, h.1⟩
theorem nd_of (I : Inv X pins σ H s) (h : NDict X.prog X.w H a kvs) : (a == sysModules) = false ∧ kvs.length ≤ sizeLine ∧ ∃ xs, NRel H kvs xs ∧ xs.length ≤ sizeLine ∧ s.heap.DictOfH (nestedKind X.prog X.w) a xs := by
  obtain ⟨xs, e, r⟩ := h
  obtain ⟨⟨c1, c2, o, es, ep, h1, h2, h3, h4, h5⟩, _⟩ := (show ObjOk X.prog X.w H s.heap a (NO X.prog X.w a xs) from I.hok a _ e)
  refine ⟨c1, by rw [Paired.length r]; exact c2, xs, r, c2, o, es, ep, h1, h2, h3, h4, fun x hx => ?_, h5⟩
  have all : ∀ {l : List (NestedKey × V)} {m : List NRow}, NRel H l m → ∀ x ∈ m, (nestedKind X.prog X.w).is s.heap x.1 x.2.1 := by
    intro l m q
    induction q with
    | nil => intro x hx; exact nomatch hx
    | @cons p q ps qs hq t ih =>
      intro x hx
      rcases List.mem_cons.mp hx with e | hx
      · subst e
        exact nkey_of I (by rw [← hq.1]; exact hq.2.1)
      · exact ih x hx
  exact all r x hx
theorem room8 (hu : A.units + 64 < cLine) : (nestedKind X.prog X.w).room A.in1 := by
  show A.units + 1 + 8 < cLine
  omega
/-- k in d, k not in d -/
def rInN (P : Program) (w : World) (neg : Bool) : R2 := fun x y H Q => ∃ a k kvs, y = .ref a ∧ NKey H k x ∧ NDict P w H a kvs ∧ Q (.bl (if neg then !(valV kvs k).isSome else (valV kvs k).isSome)) H
theorem nk_ref (h : NKey H k y) : ∃ b, y = .ref b := by
  obtain ⟨_, t, ks, rfl⟩ := h
  cases t
  exact ⟨_, rfl⟩
theorem op_inN (hu : X.A.units + 64 < cLine) : OpR X (compareOp .In) (rInN X.prog X.w false) := by
  intro pins s σ H x y v u Q I rx ry h
  obtain ⟨a, k, kvs, rfl, hk, hd, q⟩ := h
  obtain ⟨b, rfl⟩ := nk_ref hk
  obtain rfl : v = Value.ref b := rx
  obtain rfl : u = Value.ref a := ry
  obtain ⟨c1, c2, xs, rel, _, dd⟩ := nd_of I hd
  refine wpAny_in_heap (room8 hu) (nkey_of I hk) c1 dd ?_
  have e := (rel.val k).isSome_eq
  rw [Option.isSome_map] at e
  rw [← e]
  exact ⟨.bl (valV kvs k).isSome, H, I.tok _, rfl, q⟩
theorem op_notInN (hu : X.A.units + 64 < cLine) : OpR X (compareOp .NotIn) (rInN X.prog X.w true) := by
  intro pins s σ H x y v u Q I rx ry h
  obtain ⟨a, k, kvs, rfl, hk, hd, q⟩ := h
  obtain ⟨b, rfl⟩ := nk_ref hk
  obtain rfl : v = Value.ref b := rx
  obtain rfl : u = Value.ref a := ry
  obtain ⟨c1, c2, xs, rel, _, dd⟩ := nd_of I hd
  refine wpAny_notIn_heap (room8 hu) (nkey_of I hk) c1 dd ?_
  have e := (rel.val k).isSome_eq
  rw [Option.isSome_map] at e
  rw [← e]
  exact ⟨.bl (!(valV kvs k).isSome), H, I.tok _, rfl, q⟩
/-- d[k], there -/
def tGetN (P : Program) (w : World) (td ty : TE) : TE := fun σ H Q => td σ H fun x H1 => ty σ H1 fun y H2 => ∃ a k kvs v, x = .ref a ∧ NKey H2 k y ∧ NDict P w H2 a kvs ∧ valV kvs k = some v ∧ Q v H2
theorem pe_getN {value slice : Expr} {pos : Pos} {td ty : TE} (hu : X.A.units + 64 < cLine) (ho : PE X value td) (hi : PE X slice ty) (hs : NoSl slice := by intro _ _; rfl) : PE X (.Subscript value slice pos) (tGetN X.prog X.w td ty) := by
  refine ⟨fun pins s σ H Q I h => ?_⟩
  refine subD_of (T := "dict") (id := "dict.__getitem__") (by first | exact slot_dict_getitem.lookup | exact PySem.F.slot_dict_getitem.lookup) hs (thn (ho.run pins s σ H _ I h) fun u s1 ⟨x, H1, I1, rx, q1⟩ => thn (hi.run pins s1 σ H1 _ I1 q1) fun iv s2 ⟨y, H2, I2, ry, a, k, kvs, v, ex, hk, hd, l, q2⟩ => ?_)
  subst ex
  obtain rfl : u = Value.ref a := rx
  obtain ⟨b, rfl⟩ := nk_ref hk
  obtain rfl : iv = Value.ref b := ry
  obtain ⟨c1, c2, xs, rel, _, dd⟩ := nd_of I2 hd
  obtain ⟨w', hw, rw'⟩ := RelO.some_of (v := v) (o := (atKey xs k).map (·.2)) (by rw [← l]; exact rel.val k)
  obtain ⟨p, hp, hp2⟩ := Option.map_eq_some_iff.mp hw
  refine ⟨dd.typeIs, wpAny_getItem_heap (room8 hu) (nkey_of I2 hk) dd hp ?_⟩
  rw [hp2]
  exact ⟨v, H2, I2.tok _, rw', q2⟩
/-- d[k] = v -/
def sPutN (P : Program) (w : World) (td ty tv : TE) : TS := fun D σ H => tv σ H fun v H1 => td σ H1 fun x H2 => ty σ H2 fun y H3 => ∃ a k kvs, x = .ref a ∧ NKey H3 k y ∧ NDict P w H3 a kvs ∧ kvs.length < sizeLine ∧
  ∀ H4, (∀ c, c ≠ a → H4 c = H3 c) → NDict P w H4 a (putK kvs k v) → D.nx σ H4
theorem ps_putN {o i value : Expr} {pos pos' : Pos} {td ty tv : TE} (hu : X.A.units + 64 < cLine) (ho : PE X o td) (hi : PE X i ty) (hv : PE X value tv) (hs : swapsWith value (some (.Subscript o i pos')) pos.line X.env = pure false) :
    PS X (.Assign [.Subscript o i pos'] value pos) (sPutN X.prog X.w td ty tv) := by
  refine ⟨fun pins s σ H D I h => ?_⟩
  refine wpAny_Assign_Subscript (thn (hv.run pins s σ H _ I h) fun r s1 ⟨v, H1, I1, rv, q1⟩ => thn (ho.run pins s1 σ H1 _ I1 q1) fun u s2 ⟨x, H2, I2, rx, q2⟩ => thn (hi.run pins s2 σ H2 _ I2 q2) fun iv s3 ⟨y, H3, I3, ry, a, k, kvs, ex, hk, hd, hl, q3⟩ => ?_) hs
  subst ex
  obtain rfl : u = Value.ref a := rx
  obtain ⟨b, rfl⟩ := nk_ref hk
  obtain rfl : iv = Value.ref b := ry
  obtain ⟨c1, c2, xs, rel, hz, dd⟩ := nd_of I3 hd
  obtain ⟨φ, ea⟩ := hd.some
  refine wpAny_setItem_heap (hsz := hz) (room8 hu) (nkey_of I3 hk) dd fun h' dd' hs' => ?_
  obtain ⟨q, es, ep, hq, h2, h3, h4, _, h5⟩ := dd'
  have rel' := rel.put hk rv
  have ll : (putK kvs k v).length ≤ kvs.length + 1 := length_putK kvs k v
  have lx : (storedH xs k b r).length ≤ sizeLine := by
    rw [← Paired.length rel']
    omega
  have tp : Tups H3 (upd H3 a (NO X.prog X.w a (storedH xs k b r))) := Tups.put ea (fun _ z => nomatch z)
  refine ⟨σ, upd H3 a (NO X.prog X.w a (storedH xs k b r)), d_write I3 (by rw [ea]; exact True.intro) hs' ⟨q, hq⟩ ⟨⟨c1, lx, q, es, ep, hq, h2, h3, h4, h5⟩, ⟨q, hq⟩, ?_⟩, q3 _ (fun c hc => upd_ne hc) ⟨_, upd_same, rel'.mono tp⟩⟩
  rintro h1 h2 ⟨d1, d2, o, es, ep, e1, e2⟩ kp
  exact ⟨d1, d2, o, es, ep, kp _ e1, e2⟩
/-- {}, to be such a dict -/
def tNewN (P : Program) (w : World) : TE := fun _ H Q => ∀ p, H p = none → Q (.ref p) (upd H p (NO P w p []))
theorem NDict.new {P : Program} {w : World} {H : Hp} {p : Addr} : NDict P w (upd H p (NO P w p [])) p [] := ⟨[], upd_same, .nil⟩
theorem pe_newN {pos : Pos} : PE X (.Dict [] [] pos) (tNewN X.prog X.w) := ⟨fun pins s σ H Q I h => by
  have hb : (s.heap.objs.size == sysModules) = false := beq_eq_false_iff_ne.mpr (Ne.symm (Nat.ne_of_lt I.big))
  refine wpAny_Dict_empty ⟨.ref s.heap.objs.size, _, I.laid (a := s.heap.objs.size) (o := NO X.prog X.w s.heap.objs.size []) (t' := s.toks) (fun _ _ q => Heap.get?_push_of_some _ q) (Nat.le_refl _) ⟨⟨hb, Nat.zero_le _, _, #[], 0, Heap.get?_push_size _ rfl, ⟨rfl, rfl, rfl⟩, rfl, rfl, List.nodup_nil⟩, ⟨_, Heap.get?_push_size _ rfl⟩, ?_⟩, rfl, h _ (I.hok.fresh (Nat.le_refl _))⟩
  rintro h1 h2 ⟨d1, d2, o, es, ep, e1, e2⟩ kp
  exact ⟨d1, d2, o, es, ep, kp _ e1, e2⟩⟩
theorem each_refsN : ∀ ks : List NRow, EachIs (fun (v : Value) (x : NRow) => v = .ref x.2.1) (ks.map fun x => Value.ref x.2.1) ks
  | [] => .nil
  | _ :: r => .cons rfl (each_refsN r)
theorem refs_eachN : ∀ {out : List Value} {ks : List NRow}, EachIs (fun (v : Value) (x : NRow) => v = .ref x.2.1) out ks → out = (ks.map fun x => x.2.1).map Value.ref
  | _, _, .nil => rfl
  | _, _, .cons h t => by
    rw [List.map_cons, List.map_cons, ← refs_eachN t, h]
/-- these keys at these addresses -/
def IsNK (H : Hp) (ks : List NestedKey) (bs : List Addr) : Prop := Paired (fun k b => NKey H k (.ref b)) ks bs
theorem IsNK.mono {H H' : Hp} {ks : List NestedKey} {bs : List Addr} (h : IsNK H ks bs) (t : Tups H H') : IsNK H' ks bs := Paired.mapP h fun _ _ z => z.mono t
theorem isNK_of {H : Hp} : ∀ {ks : List NRow}, (∀ x ∈ ks, NKey H x.1 (.ref x.2.1)) → IsNK H (ks.map (·.1)) (ks.map fun x => x.2.1)
  | [], _ => .nil
  | x :: r, h => .cons (h x List.mem_cons_self) (isNK_of fun y hy => h y (List.mem_cons_of_mem _ hy))
theorem nrel_mem {H : Hp} {kvs : List (NestedKey × V)} {xs : List NRow} (r : NRel H kvs xs) : kvs.map (·.1) = xs.map (·.1) ∧ ∀ x ∈ xs, NKey H x.1 (.ref x.2.1) := by
  induction r with
  | nil => exact ⟨rfl, fun _ h => by cases h⟩
  | @cons a b l1 l2 h t ih =>
    refine ⟨by rw [List.map_cons, List.map_cons, h.1, ih.1], fun x hx => ?_⟩
    rcases List.mem_cons.mp hx with rfl | hx
    · rw [← h.1]
      exact h.2.1
    · exact ih.2 x hx
/-- the keys in the order of their data -/
def srtN (ks : List NestedKey) : List NestedKey := ks.mergeSort (dataLe false nkD)
/-- all these data are alike, none empty -/
def NOrd (ks : List NestedKey) : Prop := (∀ a ∈ ks, ∀ b ∈ ks, PySem.W.alike (nkD a) (nkD b) = true) ∧ ∀ a ∈ ks, ∃ x r, nkD a = .tuple (x :: r)
/-- sorted(d) -/
def rSortN (P : Program) (w : World) : List V → Hp → VK → Prop := fun xs H Q => ∃ (d : Addr) (kvs : List (NestedKey × V)), xs = [.ref d] ∧ NDict P w H d kvs ∧ NOrd (kvs.map (·.1)) ∧ ∀ p bs, H p = none → IsNK H (srtN (kvs.map (·.1))) bs → Q (.ref p) (upd H p (.lst (bs.map V.ref)))
theorem call_sortN (hc : X.calm = true) (hu : X.A.units + 64 < cLine) : CallR X (.builtin "sorted") (rSortN X.prog X.w) := by
  intro pins s σ H xs us Q I r h
  obtain ⟨d, kvs, rfl, hd, hord, q⟩ := h
  obtain ⟨u, rfl, rx⟩ := vals1 r
  obtain rfl : u = Value.ref d := rx
  obtain ⟨lo, c2, ks, rel, hz, o, es, ep, ho, hx, hdt, he, hki, hn⟩ := nd_of I hd
  have l1 : es.size = ks.length := size_of_entries he
  obtain ⟨ek, hks⟩ := nrel_mem rel
  show wpAny _ _ (call (.builtin "sorted") [.ref d]) _ _ _
  refine PySem.Calls.call_function_entry PyProof.Rows.kind_sorted PyProof.Rows.plain_sorted PyProof.Rows.entry_sorted (by first | exact args_sorted1 _ | exact PyProof.Rows.args_sorted1 _ | exact PySem.args_sorted1 _) ?_
  unfold Builtin.«sorted»
  refine wpAny_bind (m := checkCount "sorted" 1 1 _) (wpAny_pure ?_)
  refine wpAny_bind (PySem.W.kdu_collect (A := X.A.in1) (kdl_raw lo hx hdt) (I.ok.hd hc) ho (by omega) fun h' tk acc kp it => ?_)
  have ea : acc.toList = ks.map fun x => Value.ref x.2.1 := by
    apply List.ext_getElem?
    intro j
    have la : acc.toList.length = ks.length := by
      rw [Array.length_toList, it.1, l1]
    rw [List.getElem?_map]
    by_cases hj : j < ks.length
    · have e1 : acc.toList[j]? = some acc.toList[j] := List.getElem?_eq_getElem (by omega)
      obtain ⟨en, hen, hv⟩ := it.2 j _ ((Array.getElem?_toList).symm.trans e1)
      have e2 := entry_at he j
      rw [hen, List.getElem?_eq_getElem hj] at e2
      have e3 : en = entryOfKey (nestedKind X.prog X.w) ks[j] := Option.some.inj e2
      rw [e1, hv, e3, List.getElem?_eq_getElem hj]
      rfl
    · rw [List.getElem?_eq_none (by omega), List.getElem?_eq_none (by omega)]
      rfl
  have la : acc.toList.length = ks.length := by rw [ea, List.length_map]
  have I1 : Inv X pins σ H { s with heap := h', toks := tk } := I.kept kp
  refine wpAny_bind (wpAny_newList ?_ (by omega))
  have hoL : (h'.push (seqObj "list" acc.toList.toArray 0)).get? h'.objs.size = some (seqObj "list" acc.toList.toArray 0) := Heap.get?_push_size _ rfl
  have up : ∀ c o, h'.get? c = some o → (h'.push (seqObj "list" acc.toList.toArray 0)).get? c = some o := fun c o e => Heap.get?_push_of_some _ e
  show wpAny _ _ _ _ _ { s with heap := h'.push (seqObj "list" acc.toList.toArray 0), toks := tk }
  have each : EachIs (fun (v : Value) (x : NRow) => v = .ref x.2.1) acc.toList ks := by rw [ea]; exact each_refsN ks
  have ne : ∀ {c : Addr} {o : Obj}, h'.get? c = some o → c ≠ h'.objs.size := fun e => Nat.ne_of_lt (Heap.lt_size e)
  have er : EachIs (fun (v : Value) (x : NRow) => ∃ as, Reads (h'.push (seqObj "list" acc.toList.toArray 0)) v (nkD x.1) as ∧ h'.objs.size ∉ as) acc.toList ks := by
    have all : ∀ l : List NRow, (∀ x ∈ l, x ∈ ks) → EachIs (fun (v : Value) (x : NRow) => ∃ as, Reads (h'.push (seqObj "list" acc.toList.toArray 0)) v (nkD x.1) as ∧ h'.objs.size ∉ as) (l.map fun x => Value.ref x.2.1) l := by
      intro l
      induction l with
      | nil => intro _; exact .nil
      | cons x l ih =>
        intro hl
        exact .cons ⟨[], PyProof.Rows.Reads.keeps up (nested_rd I1 x.1 (.ref x.2.1) (.ref x.2.1) (hks x (hl x List.mem_cons_self)).2.1 rfl), List.not_mem_nil⟩ (ih fun y hy => hl y (List.mem_cons_of_mem _ hy))
    have e2 := all ks fun _ h => h
    rw [← ea] at e2
    exact e2
  have hmem : ∀ x ∈ ks, x.1 ∈ kvs.map (·.1) := fun x hx => by rw [ek]; exact List.mem_map.mpr ⟨x, hx, rfl⟩
  refine wpAny_bind (wpAny_holding (PySem.W.list_sort_data (s := { s with heap := h'.push (seqObj "list" acc.toList.toArray 0), toks := tk }) (R := fun (v : Value) (x : NRow) => v = .ref x.2.1) (enc := fun x : NRow => nkD x.1) (bs := ks) hoL each er ?_ (.inl ?_) hz (fun b hb => ?_) fun out lo ho => ?_))
  · intro a ha b hb
    obtain ⟨x, hx, rfl⟩ := List.mem_map.mp ha
    obtain ⟨y, hy, rfl⟩ := List.mem_map.mp hb
    exact hord.1 _ (hmem x hx) _ (hmem y hy)
  · intro a ha
    obtain ⟨x, hx, rfl⟩ := List.mem_map.mp ha
    exact hord.2 _ (hmem x hx)
  · have d8 := (hks b hb).1
    have dd := nkD_depth b.1
    show X.A.units + 1 + 1 + (nkD b.1).depth < cLine
    omega
  · have eo := refs_eachN ho
    have hm2 : ∀ x ∈ ks.mergeSort (dataLe false fun x : NRow => nkD x.1), NKey H x.1 (.ref x.2.1) := fun x hx => hks x ((List.mergeSort_perm ks _).mem_iff.mp hx)
    have em : (ks.mergeSort (dataLe false fun x : NRow => nkD x.1)).map (·.1) = srtN (kvs.map (·.1)) := by
      unfold srtN
      rw [ek]
      exact List.map_mergeSort fun a _ b _ => rfl
    have isk := isNK_of hm2
    rw [em] at isk
    obtain ⟨ep2, hD⟩ := PyProof.Rows.sortedHeap_at (vs := acc.toList) (out := out.toArray) hoL
    have keep3 : ∀ b o, h'.get? b = some o → (PyProof.Rows.sortedHeap (h'.push (seqObj "list" acc.toList.toArray 0)) h'.objs.size acc.toList out.toArray).get? b = some o := fun b o e => by
      rw [PyProof.Rows.sortedHeap_old (ne e) (Nat.lt_of_lt_of_le (Heap.lt_size e) (by rw [Heap.size_push]; exact Nat.le_succ _))]
      exact up b o e
    have rv : Vals (((ks.mergeSort (dataLe false fun x : NRow => nkD x.1)).map fun x => x.2.1).map V.ref) out := by
      rw [eo]
      exact vals_refs _
    have hz2 : (((ks.mergeSort (dataLe false fun x : NRow => nkD x.1)).map fun x => x.2.1).map V.ref).length ≤ sizeLine := by
      rw [rv.length]
      omega
    apply wpAny_pure
    exact ⟨_, rfl, .ref h'.objs.size, _, I1.laid (t' := tk) (o := .lst (((ks.mergeSort (dataLe false fun x : NRow => nkD x.1)).map fun x => x.2.1).map V.ref)) keep3 (Nat.le_refl _) ⟨hz2, out, ep2, rv, hD⟩, rfl, q _ _ (I1.hok.fresh (Nat.le_refl _)) isk⟩
end
end Sb
namespace Sb
open PySem PySem.Spec PyProof.Rows L2
/-- the keys of the locked dict at d -/
def ItN (P : Program) (w : World) (d : Addr) (o : Obj) (xs : List NRow) : It :=
  ⟨fun i H => H d = some (.frz o (NO P w d xs)) ∧ i < xs.length, fun i H x H' => H' = H ∧ ∃ r, xs[i]? = some r ∧ x = .ref r.2.1, fun i H => H d = some (.frz o (NO P w d xs)) ∧ xs.length ≤ i⟩
section
variable {P : Program} {w : World} {K : PySem.W.Frag} {tg : Expr} {d : Addr} {o : Obj} {es : Array DictEntry} {ep : Nat}
theorem frzN {X : Cx} {pins : List (Addr × Obj)} {σ : L2.St} {H : Hp} {s : Shared} {xs : List NRow} (I : Inv X pins σ H s) (h : H d = some (.frz o (NO X.prog X.w d xs))) :
    (d == sysModules) = false ∧ s.heap.get? d = some o ∧ o.ExactDict ∧ ∃ (es : Array DictEntry) (ep : Nat), o.data = .dict es ep ∧ es.size = xs.length ∧ ∀ (i : Nat) (r : NRow), xs[i]? = some r → ∃ en : DictEntry, es[i]? = some en ∧ en.key = .ref r.2.1 := by
  obtain ⟨hd, ⟨c1, c2, o', es, ep, ho, hx, hdt, he, hn⟩, _⟩ := I.hok d _ h
  rw [hd] at ho
  cases ho
  refine ⟨c1, hd, hx, es, ep, hdt, size_of_entries he, fun i r e => ?_⟩
  have q := entry_at he i
  rw [e] at q
  exact ⟨_, q, rfl⟩
theorem turn_keysN {xs : List NRow} (it : Addr) (hod : o.data = .dict es ep) : Turn P w K tg (ItN P w d o xs) [it] it (fun i h => h.IsKeyIter it d i xs.length ep) where
  mem := by simp
  obj := fun i h st b hb => by
    have e : b = it := by simpa using hb
    subst e
    obtain ⟨oi, e, c, dd⟩ := st
    exact ⟨oi, e, fun v z => by rw [dd] at z; cases z⟩
  keep := fun i h h' st k => st.at fun oi e => k it (by simp) oi e
  item := by
    intro X hP hw hK hc i pins s σ H E I hf st hg
    subst hP hw hK
    obtain ⟨hd, hi⟩ := hg
    obtain ⟨f0, f1, f2, f3, f4, f5⟩ := hf it (by simp)
    obtain ⟨hs, hgd, hx, es', ep', hdt, hsz, ent⟩ := frzN I hd
    obtain ⟨rfl, rfl⟩ := dict_ep hod hdt
    obtain ⟨r, hr⟩ : ∃ p, xs[i]? = some p := ⟨xs[i], List.getElem?_eq_getElem hi⟩
    obtain ⟨en, hen, hkey⟩ := ent i r hr
    refine next_key_item st hgd hdt hsz hen fun h' st' sb => ?_
    have I1 : Inv X pins σ H { s with heap := h' } := I.turned (t' := s.toks) (fun b ob hb e => (sb.2 b hb).trans e) f0 f1 f3 f4 f5
    obtain ⟨oi, e, c, dd⟩ := id st'
    exact ⟨en.key, rfl, go_of (s := { s with heap := h' }) e c dd (by decide) ⟨.ref r.2.1, H, I1, hkey, ⟨rfl, r, hr, rfl⟩, st', fun b hb => (hf b hb).1⟩⟩
  done := by
    intro X hP hw hK hc i pins s σ H E I hf st hg
    subst hP hw hK
    obtain ⟨hd, hi⟩ := hg
    obtain ⟨f0, f1, f2, f3, f4, f5⟩ := hf it (by simp)
    obtain ⟨hs, hgd, hx, es', ep', hdt, hsz, ent⟩ := frzN I hd
    obtain ⟨rfl, rfl⟩ := dict_ep hod hdt
    exact next_key_end (I.ok.hd hc) st hgd hdt hsz hi fun h' eb => ⟨rfl, I.turned (t' := s.toks) (fun b ob hb e => eb b ob hb e) f0 f1 f3 f4 f5⟩
  self := fun A i s Q E st h => by
    refine wpAny_pyIter_slot st.typeIs F.slot_dict_keyiterator_iter (wpAny_call_entry F.slot_dict_keyiterator_iter st.typeIs F.entry_dict_keyiterator_iter ?_ (F.args_dict_keyiterator_iter_1 _))
    show wpAny _ _ (ret (.ref it)) _ _ s
    exact wpAny_pure ⟨_, rfl, "dict_keyiterator", _, st.typeIs, F.slot_dict_keyiterator_next.lookup, h⟩
end
def iKeysN (P : Program) (w : World) (td : TE) : TI := fun σ H R => td σ H fun x H1 => ∃ d o xs, x = .ref d ∧ H1 d = some (.frz o (NO P w d xs)) ∧ R (ItN P w d o xs) H1
theorem pi_keysN {X : Cx} {tg e : Expr} {td : TE} (he : PE X e td) : PI X tg e (iKeysN X.prog X.w td) := by
  refine ⟨fun pins s σ H R I h => ?_⟩
  refine thn (he.run pins s σ H _ I h) fun u s1 ⟨x, H1, I1, rx, d, o, xs, ex, hd, q⟩ => ?_
  subst ex
  obtain rfl : u = Value.ref d := rx
  obtain ⟨hs, hgd, hx, es, ep, hdt, hsz, ent⟩ := frzN I1 hd
  refine iter_keys hs hgd hx hdt (pi_one (tk := s1.toks) I1 _ (turn_keysN _ hdt) ⟨_, Heap.get?_push_size _ rfl, rfl, ?_⟩ q)
  rw [hsz] <;> rfl
theorem walk_keysN {P : Program} {w : World} {d : Addr} {o : Obj} {xs : List NRow} : Walk (ItN P w d o xs) xs.length (fun H => H d = some (.frz o (NO P w d xs))) (fun i H x H' => H' = H ∧ ∃ r, xs[i]? = some r ∧ x = .ref r.2.1) :=
  ⟨fun _ _ hi q => ⟨q, hi⟩, fun _ q => ⟨q, Nat.le_refl _⟩, fun _ _ _ _ _ _ y => y⟩
/-- list(d) -/
def rListN (P : Program) (w : World) : List V → Hp → VK → Prop := fun xs H Q => ∃ (d : Addr) (rs : List NRow), xs = [.ref d] ∧ H d = some (NO P w d rs) ∧ ∀ p, H p = none → Q (.ref p) (upd H p (.lst (rs.map fun r => V.ref r.2.1)))
theorem call_listN {X : Cx} (hc : X.calm = true) : CallR X (.type "list") (rListN X.prog X.w) := by
  intro pins s σ H xs us Q I r h
  obtain ⟨d, ks, rfl, hd, q⟩ := h
  obtain ⟨u, rfl, rx⟩ := vals1 r
  obtain rfl : u = Value.ref d := rx
  obtain ⟨⟨hs, c2, o, es, ep, ho, hx, hdt, he, hn⟩, _⟩ := (show ObjOk X.prog X.w H s.heap d (NO X.prog X.w d ks) from I.hok d _ hd)
  have l1 : es.size = ks.length := size_of_entries he
  refine PySem.W.kdl_call (kdl_raw hs hx hdt) (I.ok.hd hc) ho (by omega) fun h' tk acc' c' kp e it => ?_
  have ea : acc'.toList = ks.map fun x => Value.ref x.2.1 := by
    have hl : acc'.toList.length = ks.length := by rw [Array.length_toList, it.1]; exact l1
    apply List.ext_getElem?
    intro j
    rw [List.getElem?_map]
    cases hj : acc'.toList[j]? with
    | none =>
      have h1 := List.getElem?_eq_none_iff.mp hj
      rw [List.getElem?_eq_none (by omega)]
      all_goals rfl
    | some v =>
      obtain ⟨en, hen, hv⟩ := it.2 j v (by rw [← Array.getElem?_toList]; exact hj)
      have qe := entry_at he j
      rw [hen] at qe
      cases hb : ks[j]? with
      | none =>
        rw [hb] at qe
        exact nomatch (show some en = none from qe)
      | some b =>
        rw [hb] at qe
        have e2 : en = entryOfKey (nestedKind X.prog X.w) b := Option.some.inj qe
        rw [hv, e2]
        all_goals rfl
  have eb : acc'.toList = (ks.map fun x => x.2.1).map Value.ref := by rw [ea, List.map_map]; all_goals rfl
  have rv : Vals ((ks.map fun x => x.2.1).map V.ref) acc'.toList := by rw [eb]; exact vals_refs _
  have hz : ((ks.map fun x => x.2.1).map V.ref).length ≤ sizeLine := by rw [List.length_map, List.length_map]; omega
  have q' := q _ (I.hok.fresh (Nat.le_refl _))
  have em : (ks.map fun r => V.ref r.2.1) = (ks.map fun x => x.2.1).map V.ref := by rw [List.map_map]; rfl
  rw [em] at q'
  refine ⟨.ref s.heap.objs.size, _, I.laid (t' := tk) (o := .lst ((ks.map fun x => x.2.1).map V.ref)) kp (Nat.le_refl _) ?_, rfl, q'⟩
  exact ⟨hz, acc'.toList, c', rv, by rw [Array.toArray_toList]; exact e⟩
section
variable {X : Cx} {pins : List (Addr × Obj)} {σ : L2.St} {H : Hp}
theorem no_write {s : Shared} {D b : Addr} {kvs : List (NestedKey × V)} {k : NestedKey} {v : V} {r : Value} {h' : Heap} {tk : Nat} {xs : List NRow} (I : L2.Inv X pins σ H s) {φ : Heap → Prop} (ea : H D = some (.ext φ)) (rel : NRel H kvs xs) (hl : kvs.length < sizeLine) (lo : (D == sysModules) = false) (hk : NKey H k (.ref b)) (rv : RelV v r)
    (dd' : h'.DictOfH (nestedKind X.prog X.w) D (storedH xs k b r)) (sb : Heap.SameBut D s.heap h') :
    L2.Inv X pins σ (upd H D (NO X.prog X.w D (storedH xs k b r))) { s with heap := h', toks := tk } ∧ NDict X.prog X.w (upd H D (NO X.prog X.w D (storedH xs k b r))) D (putK kvs k v) := by
  obtain ⟨q, es, ep, hq, h2, h3, h4, _, h5⟩ := dd'
  have rel' := rel.put hk rv
  have ll : (putK kvs k v).length ≤ kvs.length + 1 := length_putK kvs k v
  have lx : (storedH xs k b r).length ≤ sizeLine := by
    rw [← Paired.length rel']
    omega
  have tp : Tups H (upd H D (NO X.prog X.w D (storedH xs k b r))) := Tups.put ea (fun _ z => nomatch z)
  refine ⟨d_write I (by rw [ea]; exact True.intro) sb ⟨q, hq⟩ ⟨⟨lo, lx, q, es, ep, hq, h2, h3, h4, h5⟩, ⟨q, hq⟩, ?_⟩, ⟨_, upd_same, rel'.mono tp⟩⟩
  rintro h1 h2 ⟨d1, d2, o, es, ep, e1, e2⟩ kp
  exact ⟨d1, d2, o, es, ep, kp _ e1, e2⟩
theorem putN_ok {s : Shared} {E : Value → Shared → Prop} {D b : Addr} {kvs : List (NestedKey × V)} {k : NestedKey} {v : V} {r : Value} {Q : Unit → Shared → Prop} (hu : X.A.units + 64 < cLine) (I : L2.Inv X pins σ H s) (hD : NDict X.prog X.w H D kvs) (hb : NKey H k (.ref b)) (hz : kvs.length < sizeLine)
    (rv : RelV v r) (want : ∀ s' H', L2.Inv X pins σ H' s' → (∀ c, c ≠ D → H' c = H c) → NDict X.prog X.w H' D (putK kvs k v) → Q () s') : wpAny (model X.prog X.w) X.A (dictSet D (.ref b) r) Q E s := by
  obtain ⟨lo, c2, xs, rel, l1, dd⟩ := nd_of I hD
  obtain ⟨φ, ea⟩ := hD.some
  refine wpAny_dictSet_heap (hsz := l1) ?room (nkey_of I hb) dd fun h' dd' but => ?_
  case room =>
    show X.A.units + 8 < cLine
    omega
  obtain ⟨I2, N2⟩ := no_write (tk := _) I ea rel hz lo hb rv dd' but
  exact want _ _ I2 (fun c hc => upd_ne hc) N2
end
/-- what the turns are to show; D: the new dict -/
def DcN (P : Program) (w : World) (J : It) (g : TG) (tt : TT) (tk tv : TE) (vs : List Nat) (σ : L2.St) (D : Addr) (Qd : Hp → Prop) (H0 : Hp) : Prop := ∃ W : Nat → Nat → Hp → Prop, (∃ m, W 0 m H0) ∧ ∀ i m H, W i m H →
  (J.stop i H ∧ Qd H) ∨ (J.go i H ∧ ∃ Nx : Hp → Prop, (∀ H', Nx H' → ∃ m', m' < m ∧ W (i + 1) m' H') ∧ ∀ x H', J.yld i H x H' → g x (wipe σ vs) H' fun σ2 H2 => wipe σ2 vs = wipe σ vs ∧ tt σ2 H2 fun b H3 =>
    if b = true then tk σ2 H3 fun y H4 => tv σ2 H4 fun z H5 => ∃ kvs k, NKey H5 k y ∧ NDict P w H5 D kvs ∧ kvs.length < sizeLine ∧ ∀ H6, (∀ c, c ≠ D → H6 c = H5 c) → NDict P w H6 D (putK kvs k z) → Nx H6 else Nx H3)
def tDcN (P : Program) (w : World) (wi : TI) (g : TG) (tt : TT) (tk tv : TE) (vs : List Nat) : TE := fun σ H Q => wi σ H fun J H1 => ∀ D, H1 D = none → DcN P w J g tt tk tv vs σ D (Q (.ref D)) (upd H1 D (NO P w D []))
section
variable {X : Cx}
theorem dcN_core {pins : List (Addr × Obj)} {s : Shared} {σ : L2.St} {H : Hp} {Q : VK} {kx vx tg iter : Expr} {ifs : List Expr} {scope : Scope} {own : List (Str × Nat)} {pos pos' : Pos} {wi : TI} {g : TG} {tt : TT} {tk tv : TE} {use : Option (Value → Sem Unit)} {Qf : Value → Shared → Prop}
    (hc : X.calm = true) (hN : X.N.Nodup) (hu : X.A.units + 64 < cLine) (I : L2.Inv X pins σ H s) (hi : PI X tg iter wi) (ok : BlkOk X.N X.env.scope scope own)
    (hg : ∀ (s : Shared) (H : Hp) (C : Addr) (cl : List (Str × Addr)) (fp : List Addr), PG (X.blk s H scope (compEnvC scope cl C X.env) fp) tg g) (ht : ∀ (s : Shared) (H : Hp) (C : Addr) (cl : List (Str × Addr)) (fp : List Addr), PTs (X.blk s H scope (compEnvC scope cl C X.env) fp) ifs tt)
    (hk : ∀ (s : Shared) (H : Hp) (C : Addr) (cl : List (Str × Addr)) (fp : List Addr), PE (X.blk s H scope (compEnvC scope cl C X.env) fp) kx tk)
    (hv : ∀ (s : Shared) (H : Hp) (C : Addr) (cl : List (Str × Addr)) (fp : List Addr), PE (X.blk s H scope (compEnvC scope cl C X.env) fp) vx tv) (hs : ∀ x, foldedSetIterable iter X.env x = pure x)
    (h : tDcN X.prog X.w wi g tt tk tv (own.map (·.2)) σ H Q)
    (hRR : ∀ D C s' m H', L2.Inv X pins σ H' s' → Q (.ref D) H' → s'.heap.Ns C m → FpOk X pins H' C → compPost (model X.prog X.w) X.A X.xe use Qf (.ref D) C (.ok .next) s') :
    wpAny (model X.prog X.w) X.A (comprehension (.DictComp kx vx [⟨tg, iter, ifs, 0⟩] scope pos) scope X.env pos' newDict false (eval iter X.env) use) Qf X.xe s := by
  have closed : ∀ y ∈ scope.names, y.2 = .free → ∃ c, X.env.cells.lookup y.1 = some c := by
    intro y hy e
    exact (ok.free y hy e).elim (fun k => I.ok.has _ (.inl k)) (fun k => I.ok.has _ (.inr k))
  refine wpAny_comprehension_free (use := use) rfl hs (closure_ok closed) ok.kind (fun y hy e => by rw [ok.uniq y hy, e]) ?_
  refine thn (hi.run pins s σ H _ I h) fun xv s1 hx => thn hx ?_
  rintro itv s2 ⟨it, fp, tn, J, H2, rfl, I2, T, st2, f2, q⟩
  refine wpAny_newObj_type (newEnv_comp ?_)
  generalize eD : s2.heap.objs.size = D
  have nD : H2 D = none := I2.hok.fresh (Nat.le_of_eq eD)
  obtain ⟨W, ⟨m0, w0⟩, turn⟩ := q D nD
  generalize es3 : ({ s2 with heap := s2.heap.push { cls := .type "dict", data := .dict #[] } } : Shared) = s3
  have h3 : s3.heap = s2.heap.push { cls := .type "dict", data := .dict #[] } := by
    rw [← es3]
  generalize eH3 : upd H2 D (NO X.prog X.w D []) = H3 at w0
  have I3 : L2.Inv X pins σ H3 s3 := by
    have hb : (s2.heap.objs.size == sysModules) = false := beq_eq_false_iff_ne.mpr (Ne.symm (Nat.ne_of_lt I2.big))
    have lay := I2.laid (a := s2.heap.objs.size) (o := NO X.prog X.w s2.heap.objs.size []) (t' := s2.toks) (h' := s2.heap.push { cls := .type "dict", data := .dict #[] }) (fun b o e => Heap.get?_push_of_some _ e) (Nat.le_refl _) ⟨⟨hb, Nat.zero_le _, _, #[], 0, Heap.get?_push_size _ rfl, ⟨rfl, rfl, rfl⟩, rfl, rfl, List.nodup_nil⟩, ⟨_, Heap.get?_push_size _ rfl⟩, (by
      rintro h1 h2 ⟨d1, d2, o, es, ep, e1, e2⟩ kp
      exact ⟨d1, d2, o, es, ep, kp _ e1, e2⟩)⟩
    rw [← es3, ← eH3, ← eD]
    exact lay
  have small : ∀ b ∈ fp, b < s2.heap.objs.size := by
    intro b hb
    obtain ⟨o, e, _⟩ := T.obj _ _ st2 b hb
    exact Heap.lt_size e
  have f3 : ∀ b ∈ fp, FpOk X pins H3 b ∧ b < s3.heap.objs.size := by
    intro b hb
    have lt := small b hb
    constructor
    · refine ⟨?_, (f2 b hb).2⟩
      rw [← eH3, upd_ne (eD ▸ Nat.ne_of_lt lt)]
      exact (f2 b hb).1
    · rw [h3, Heap.size_push]
      exact Nat.lt_succ_of_lt lt
  have n3 : ∀ b ∈ fp, H3 b = none := fun b hb => (f3 b hb).1.1
  have st3 : tn 0 s3.heap := by
    refine T.keep _ _ _ st2 ?_
    rw [h3]
    exact fun b _ o e => Heap.get?_push_of_some _ e
  have I4 := block_start I3 ok hN f3
  show codeAny _ _ (.compStart (.DictComp kx vx [⟨tg, iter, ifs, 0⟩] scope pos) 0 (.ref it) (.ref D) (compEnvC scope (cellsFrom (s3.heap.objs.size + 1) scope.names (cloFrom X.env.cells scope.names [])) s3.heap.objs.size X.env)) (compPost (model X.prog X.w) X.A X.xe use Qf (.ref D) s3.heap.objs.size) { s3 with heap := pushCells (s3.heap.push { cls := .type "dict", data := .dict #[] }) scope.names }
  have bg := hg s3 H3 s3.heap.objs.size (cellsFrom (s3.heap.objs.size + 1) scope.names (cloFrom X.env.cells scope.names [])) fp
  have bt := ht s3 H3 s3.heap.objs.size (cellsFrom (s3.heap.objs.size + 1) scope.names (cloFrom X.env.cells scope.names [])) fp
  have bk := hk s3 H3 s3.heap.objs.size (cellsFrom (s3.heap.objs.size + 1) scope.names (cloFrom X.env.cells scope.names [])) fp
  have bv := hv s3 H3 s3.heap.objs.size (cellsFrom (s3.heap.objs.size + 1) scope.names (cloFrom X.env.cells scope.names [])) fp
  generalize ece : compEnvC scope (cellsFrom (s3.heap.objs.size + 1) scope.names (cloFrom X.env.cells scope.names [])) s3.heap.objs.size X.env = ce at I4 bg bt bk bv ⊢
  have cL : ce.locals = s3.heap.objs.size := ece ▸ rfl
  generalize es4 : ({ s3 with heap := pushCells (s3.heap.push { cls := .type "dict", data := .dict #[] }) scope.names } : Shared) = s4 at I4 ⊢
  have st4 : tn 0 s4.heap := by
    refine T.keep _ _ _ st3 fun b _ o e => ?_
    rw [← es4]
    exact pushCells_keeps _ _ _ _ (Heap.get?_push_of_some _ e)
  have stat : ∀ {σ' : L2.St} {H' : Hp} {s' : Shared}, L2.Inv (X.blk s3 H3 scope ce fp) [] σ' H' s' → (∀ b ∈ fp, H' b = none) → ∀ b ∈ fp, FpOk (X.blk s3 H3 scope ce fp) [] H' b := by
    intro σ' H' s' J' hn b hb
    refine ⟨hn b hb, (J'.ok.exf b hb).1, J'.ok.exfs b hb, .inl hb, (J'.ok.exf b hb).2, fun p hp => ?_⟩
    have z : p ∈ ([] : List (Addr × Obj)) ++ [] := hp
    simp at z
  let At : Nat → Shared → Prop := fun n s' => ∃ i H', L2.Inv (X.blk s3 H3 scope ce fp) [] (wipe σ (own.map (·.2))) H' s' ∧ tn i s'.heap ∧ (∀ b ∈ fp, H' b = none) ∧ W i n H'
  have loop : codeAny (model X.prog X.w) X.A (.compLoop (.DictComp kx vx [⟨tg, iter, ifs, 0⟩] scope pos) 0 (.ref it) (.ref D) ce) (compPost (model X.prog X.w) X.A X.xe use Qf (.ref D) s3.heap.objs.size) s4 := by
    refine compLoop_anyD At ?_ m0 ⟨0, H3, I4, st4, n3, w0⟩
    rintro n s5 ⟨i, H5, I5, st5, n5, w5⟩
    rcases turn i n H5 w5 with ⟨stop, done⟩ | ⟨go, Nx, hNx, step⟩
    · refine thnF (T.done (X.blk s3 H3 scope ce fp) rfl rfl rfl hc i [] s5 _ H5 (fun _ _ => False) I5 (stat I5 n5) st5 stop) ?_
      rintro r s6 ⟨rfl, I6⟩
      have I7 : L2.Inv X pins σ H5 s6 := by
        refine I3.call' (ch := fp) I6.os I6.base I6.hok I6.bare fun b hb => ?_
        have z := (f3 b hb).1.2
        exact ⟨z.2.2.1, z.1, z.2.2.2.1, z.2.2.2.2⟩
      have free := I6.free
      rw [show (X.blk s3 H3 scope ce fp).env.locals = s3.heap.objs.size from cL] at free
      obtain ⟨m, hn, _⟩ := I6.loc
      have hn : s6.heap.Ns ce.locals m := hn
      rw [cL] at hn
      exact hRR D s3.heap.objs.size s6 m H5 I7 done hn (I3.fpOk (Nat.le_refl _) free)
    · refine thnF (T.item (X.blk s3 H3 scope ce fp) rfl rfl rfl hc i [] s5 _ H5 (fun _ _ => False) I5 (stat I5 n5) st5 go) ?_
      rintro r s6 ⟨u, rfl, go6⟩
      refine thnF go6 ?_
      rintro _ s7 ⟨x, H7, I7, r7, y7, st7, n7⟩
      refine thnF (bg.run _ s7 _ H7 x u _ (I7.pinned (stat I7 n7) (T.obj _ _ st7)) r7 (step x H7 y7)) ?_
      rintro _ s8 ⟨σ8, H8, I8, hw8, q8⟩
      refine thnF (bt.run _ s8 σ8 H8 _ I8 q8) ?_
      rintro b s9 ⟨H9, I9, q9⟩
      have next : ∀ {s' : Shared} {H' : Hp}, L2.Inv (X.blk s3 H3 scope ce fp) ([] ++ pinsAt fp s7.heap) σ8 H' s' → Nx H' → ∃ m, m < n ∧ At m s' := by
        intro s' H' J' nx
        obtain ⟨m', lt, w'⟩ := hNx H' nx
        have pinned : ∀ b ∈ fp, ∀ o, s7.heap.get? b = some o → s'.heap.get? b = some o ∧ H' b = none := by
          intro b hb o e
          have z := J'.pin (b, o) (List.mem_append_right _ (List.mem_append_right _ (mem_pinsAt hb e)))
          exact ⟨z.1, z.2.1⟩
        refine ⟨m', lt, i + 1, H', (J'.unpinned (pins := [])).weak ?_ ?_, T.keep _ _ _ st7 fun b hb o e => (pinned b hb o e).1, ?_, w'⟩
        · rw [← hw8, wipe_length]
        · intro j v e
          rw [← hw8] at e
          exact (wipe_some e).1
        · intro b hb
          obtain ⟨o, e, _⟩ := T.obj _ _ st7 b hb
          exact (pinned b hb o e).2
      cases b with
      | false => exact next I9 q9
      | true =>
        refine thnF (bk.run _ s9 σ8 H9 _ I9 q9) ?_
        rintro z1 s10 ⟨yk, H10, I10, r10, q10⟩
        refine thnF (bv.run _ s10 σ8 H10 _ I10 q10) ?_
        rintro z2 s11 ⟨yv, H11, I11, r11, kvs, k, hk11, hD11, lt11, nx⟩
        obtain ⟨t, rfl⟩ := nk_ref hk11
        obtain rfl : z1 = Value.ref t := r10
        exact putN_ok (X := X.blk s3 H3 scope ce fp) hu I11 hD11 hk11 lt11 r11 fun s12 H12 I12 k12 n12 => next I12 (nx H12 k12 n12)
  exact codeAny_compStart_dict loop (T.self X.A 0 _ _ _ st4 loop)
theorem ps_setDcN {i : Nat} {y : Str} {py : Pos} {kx vx tg iter : Expr} {ifs : List Expr} {scope : Scope} {own : List (Str × Nat)} {pos spos : Pos} {wi : TI} {g : TG} {tt : TT} {tk tv : TE} (hc : X.calm = true) (hN : X.N.Nodup) (hu : X.A.units + 64 < cLine) (hy : X.N[i]? = some y) (hyl : X.env.scope.names.lookup y = some .local)
    (hsw : swapsWith (.DictComp kx vx [⟨tg, iter, ifs, 0⟩] scope pos) (some (.Name y py)) spos.line X.env = pure true) (hi : PI X tg iter wi) (ok : BlkOk X.N X.env.scope scope own)
    (hg : ∀ (s : Shared) (H : Hp) (C : Addr) (cl : List (Str × Addr)) (fp : List Addr), PG (X.blk s H scope (compEnvC scope cl C X.env) fp) tg g) (ht : ∀ (s : Shared) (H : Hp) (C : Addr) (cl : List (Str × Addr)) (fp : List Addr), PTs (X.blk s H scope (compEnvC scope cl C X.env) fp) ifs tt)
    (hk : ∀ (s : Shared) (H : Hp) (C : Addr) (cl : List (Str × Addr)) (fp : List Addr), PE (X.blk s H scope (compEnvC scope cl C X.env) fp) kx tk)
    (he : ∀ (s : Shared) (H : Hp) (C : Addr) (cl : List (Str × Addr)) (fp : List Addr), PE (X.blk s H scope (compEnvC scope cl C X.env) fp) vx tv) (hs : ∀ x, foldedSetIterable iter X.env x = pure x := by intro _; rfl) :
    PS X (.Assign [.Name y py] (.DictComp kx vx [⟨tg, iter, ifs, 0⟩] scope pos) spos) (tAsg (tDcN X.prog X.w wi g tt tk tv (own.map (·.2))) (gName i)) := by
  refine ⟨fun pins s σ H D I h => ?_⟩
  rw [exec_Assign_Name_used _ _ _ _ hsw]
  refine wpAny_bind (wpAny_standAt (wpAny_bind ?_))
  show wpAny _ X.A (do let _ ← comprehension (.DictComp kx vx [⟨tg, iter, ifs, 0⟩] scope pos) scope X.env (firstIterPos [⟨tg, iter, ifs, 0⟩] pos) newDict false (eval iter X.env) (some (assign (.Name y py) X.env))) _ _ s
  have h : tDcN X.prog X.w wi g tt tk tv (own.map (·.2)) σ H (fun x H1 => gName i x σ H1 D.nx) := h
  refine wpAny_bind (thn (dcN_core (Qf := fun _ s' => SP X pins D .next s') hc hN hu I hi ok hg ht hk he hs h fun L C s' m H' I' q hn f => ?_) fun _ s' hq => wpAny_pure (wpAny_pure hq))
  show wpAny _ _ (assign (.Name y py) X.env (.ref L)) _ _ _
  refine wpAny_assign_Name (store_ok2 (v := V.ref L) I' hN hy (.inl hyl) rfl (fun s2 I2 ⟨a, sb, ha⟩ => ?_) (.inr hyl))
  obtain ⟨f0, f1, f2, f3, f4, f5⟩ := f
  have haC : C ≠ a := by
    rcases ha with z | z
    · rw [z]; exact f1
    · exact fun e => f4 y a z e.symm
  exact ⟨m, hn.sameBut sb haC, fun h3 sb3 => ⟨_, H', I2.turned (t' := s2.toks) (fun b o hb e => (sb3.2 b hb).trans e) f0 f1 f3 f4 f5, q⟩⟩
/-- over any walk -/
theorem dcN_it {P : Program} {w : World} {J : It} {n : Nat} {Ok : Hp → Prop} {Y : Nat → Hp → V → Hp → Prop} {g : TG} {tt : TT} {tk tv : TE} {vs : List Nat} {σ : L2.St} {H0 : Hp} {D : Addr} {Qd : Hp → Prop} (wk : Walk J n Ok Y) (Pv : Nat → Hp → Prop) (h0 : Pv 0 H0) (hl : ∀ i H, Pv i H → Ok H)
    (hs : ∀ i x H H', i < n → Pv i H → Y i H x H' → g x (wipe σ vs) H' fun σ2 H2 => wipe σ2 vs = wipe σ vs ∧ tt σ2 H2 fun b H3 =>
      if b = true then tk σ2 H3 fun y H4 => tv σ2 H4 fun z H5 => ∃ kvs k, NKey H5 k y ∧ NDict P w H5 D kvs ∧ kvs.length < sizeLine ∧ ∀ H6, (∀ c, c ≠ D → H6 c = H5 c) → NDict P w H6 D (putK kvs k z) → Pv (i + 1) H6 else Pv (i + 1) H3) (hd : ∀ H, Pv n H → Qd H) :
    DcN P w J g tt tk tv vs σ D Qd H0 := by
  refine ⟨fun i m H => m + i = n ∧ Pv i H, ⟨n, rfl, h0⟩, fun i m H ⟨hm, p⟩ => ?_⟩
  have q := hl i H p
  cases m with
  | zero =>
    have e : i = n := by omega
    subst e
    exact .inl ⟨wk.stops _ q, hd H p⟩
  | succ m =>
    have h1 : i < n := by omega
    refine .inr ⟨wk.goes i _ h1 q, Pv (i + 1), fun H' p' => ⟨m, Nat.lt_succ_self m, by omega, p'⟩, ?_⟩
    intro v H' y
    exact hs i v H H' h1 p (wk.yields i H v H' h1 q y)
/-- {k: v} -/
def tDispN (P : Program) (w : World) (tk tv : TE) : TE := fun σ H Q => ∀ p, H p = none → tk σ (upd H p (NO P w p [])) fun x H1 => tv σ H1 fun y H2 => ∃ k, NKey H2 k x ∧ H2 p = some (NO P w p []) ∧ ∀ H3, (∀ c, c ≠ p → H3 c = H2 c) → NDict P w H3 p [(k, y)] → Q (.ref p) H3
theorem pe_dispN {k v : Expr} {pos : Pos} {tk tv : TE} (hu : X.A.units + 64 < cLine) (hk : PE X k tk) (hv : PE X v tv) : PE X (.Dict [some k] [v] pos) (tDispN X.prog X.w tk tv) := by
  refine ⟨fun pins s σ H Q I q => ?_⟩
  have hn := I.hok.fresh (Nat.le_refl s.heap.objs.size)
  have hb : (s.heap.objs.size == sysModules) = false := beq_eq_false_iff_ne.mpr (Ne.symm (Nat.ne_of_lt I.big))
  have I1 := I.laid (a := s.heap.objs.size) (o := NO X.prog X.w s.heap.objs.size []) (h' := s.heap.push { cls := .type "dict", data := .dict #[] }) (t' := s.toks) (fun _ _ q => Heap.get?_push_of_some _ q) (Nat.le_refl _) ⟨⟨hb, Nat.zero_le _, _, #[], 0, Heap.get?_push_size _ rfl, ⟨rfl, rfl, rfl⟩, rfl, rfl, List.nodup_nil⟩, ⟨_, Heap.get?_push_size _ rfl⟩, (by
      rintro h1 h2 ⟨d1, d2, o, es, ep, e1, e2⟩ kp
      exact ⟨d1, d2, o, es, ep, kp _ e1, e2⟩)⟩
  rw [arm_eval_Dict, zip_pairTrees [some k] [v] X.env pos rfl rfl, dictDisplay_pairs (pairTrees [some k] [v] X.env pos) (by intro z; cases z) (by rw [pairTrees_length [some k] [v] X.env pos rfl rfl]; show 1 < 17; decide)]
  refine wpAny_bind (wpAny_standAt (wpAny_bind (wpAny_subDictH (knd := nestedKind X.prog X.w) (Q := fun d s' => wpAny (model X.prog X.w) X.A (pure (Value.ref d)) _ _ s') (show X.A.units + 8 < cLine by omega) (by rw [pairTrees_length [some k] [v] X.env pos rfl rfl]; show 1 ≤ 15; decide) ?_)))
  refine pairTrees_cons_walk (thn (hk.run pins _ σ _ _ I1 (q _ hn)) fun u s1 ⟨x, H1, I2, rx, q1⟩ => thn (hv.run pins s1 σ H1 _ I2 q1) fun w2 s2 ⟨y, H2, I3, ry, kk, hb2, hd, q2⟩ => pairTrees_nil_walk ?_)
  obtain ⟨b, rfl⟩ := nk_ref hb2
  obtain rfl : u = Value.ref b := rx
  have hND : NDict X.prog X.w H2 s.heap.objs.size [] := ⟨[], hd, .nil⟩
  obtain ⟨lo, c2, xs, rel, l1, dd⟩ := nd_of I3 hND
  cases rel
  refine ⟨[(kk, b, w2)], ⟨rfl, rfl, nkey_of I3 hb2, trivial⟩, dd, fun h' tk' dd' hs => ?_⟩
  obtain ⟨I4, N4⟩ := no_write (kvs := []) (k := kk) (v := y) (b := b) (r := w2) (tk := tk') I3 hd .nil (by show 0 < sizeLine; decide) lo hb2 ry dd' hs
  exact wpAny_pure ⟨.ref s.heap.objs.size, _, I4, rfl, q2 _ (fun c hc => upd_ne hc) N4⟩
end
end Sb
namespace Sb
open PySem PySem.Spec PyProof.Rows L2
/-- .. that may be locked -/
def NDictR (P : Program) (w : World) (H : Hp) (a : Addr) (kvs : List (NestedKey × V)) : Prop := ∃ xs, Rd H a (NO P w a xs) ∧ NRel H kvs xs
section
variable {X : Cx} {pins : List (Addr × Obj)} {σ : L2.St} {H : Hp} {s : Shared} {a : Addr} {kvs : List (NestedKey × V)}
theorem nd_ofR (I : L2.Inv X pins σ H s) (h : NDictR X.prog X.w H a kvs) : ∃ xs, NRel H kvs xs ∧ s.heap.DictOfH (nestedKind X.prog X.w) a xs := by
  obtain ⟨xs, e, r⟩ := h
  obtain ⟨⟨c1, c2, o, es, ep, h1, h2, h3, h4, h5⟩, _⟩ := (show ObjOk X.prog X.w H s.heap a (NO X.prog X.w a xs) from e.ok I.hok)
  refine ⟨xs, r, o, es, ep, h1, h2, h3, h4, fun x hx => ?_, h5⟩
  exact nkey_of I ((nrel_mem r).2 x hx)
def tGetNR (P : Program) (w : World) (td ty : TE) : TE := fun σ H Q => td σ H fun x H1 => ty σ H1 fun y H2 => ∃ a k kvs v, x = .ref a ∧ NKey H2 k y ∧ NDictR P w H2 a kvs ∧ valV kvs k = some v ∧ Q v H2
theorem pe_getNR {value slice : Expr} {pos : Pos} {td ty : TE} (hu : X.A.units + 64 < cLine) (ho : PE X value td) (hi : PE X slice ty) (hs : NoSl slice := by intro _ _; rfl) : PE X (.Subscript value slice pos) (tGetNR X.prog X.w td ty) := by
  refine ⟨fun pins s σ H Q I h => ?_⟩
  refine subD_of (T := "dict") (id := "dict.__getitem__") (by first | exact slot_dict_getitem.lookup | exact PySem.F.slot_dict_getitem.lookup) hs (thn (ho.run pins s σ H _ I h) fun u s1 ⟨x, H1, I1, rx, q1⟩ => thn (hi.run pins s1 σ H1 _ I1 q1) fun iv s2 ⟨y, H2, I2, ry, a, k, kvs, v, ex, hk, hd, l, q2⟩ => ?_)
  subst ex
  obtain rfl : u = Value.ref a := rx
  obtain ⟨b, rfl⟩ := nk_ref hk
  obtain rfl : iv = Value.ref b := ry
  obtain ⟨xs, rel, dd⟩ := nd_ofR I2 hd
  obtain ⟨w', hw, rw'⟩ := RelO.some_of (v := v) (o := (atKey xs k).map (·.2)) (by rw [← l]; exact rel.val k)
  obtain ⟨p, hp, hp2⟩ := Option.map_eq_some_iff.mp hw
  refine ⟨dd.typeIs, wpAny_getItem_heap (room8 hu) (nkey_of I2 hk) dd hp ?_⟩
  rw [hp2]
  exact ⟨v, H2, I2.tok _, rw', q2⟩
end
end Sb
namespace Sb
open PySem PySem.Spec PyProof.Rows L2
section
variable {X : Cx} {e : Expr} {te : L2.St → Hp → (Int → Int → Hp → Prop) → Prop}
def tTupRgF (te : L2.St → Hp → (Int → Int → Hp → Prop) → Prop) : TE := fun σ H Q => te σ H fun a b H1 => RgOk a b ∧ ∀ q ob, H1 q = none → ob.dict = none → Q (.ref q) (upd H1 q (.frz ob (.tup (rgV a b))))
theorem pe_tupRgF {p pos : Pos} (hc : X.calm = true) (hg : Gl X "tuple") (hm : X.mg "tuple" = none) (he : PRg X e te) (na : starEach [e] X.env = (false, eval e X.env) :: starEach [] X.env := by rfl) : PE X (.Call (.Name "tuple" p) [e] [] pos) (tTupRgF te) := by
  refine ⟨fun pins s σ H Q I h => ?_⟩
  refine Call_ (ld_blt I hg hm (show bootBuiltins "tuple" = some (.type "tuple") by decide +kernel) (PyProof.Rows.callWith_type1 (args_cons (thn (he pins s σ H _ I h) fun x s1 ⟨r, a, b, t, u, v, H1, ex, hr, I1, ok, q⟩ => args_nil ?_) na) na))
  subst ex
  obtain ⟨b1, b2, b3, b4, b5⟩ := ok
  refine call_tuple_range (n := (b - a).toNat) (I1.ok.hd hc) hr (small_one b1 b2 b3 b4) (rangeSize_nat a b) b5 fun h' tk acc hk hi => ?_
  have I2 : Inv X pins σ H1 { s1 with heap := h', toks := tk } := I1.kept hk
  refine ⟨.ref h'.objs.size, upd H1 h'.objs.size (.frz { cls := .type "tuple", data := .seq acc.toList.toArray } (.tup (rgV a b))), I2.laid (t' := tk) (fun c o e => Heap.get?_push_of_some _ e) (Nat.le_refl _) (show ObjOk X.prog X.w _ _ _ (.frz _ (.tup (rgV a b))) from ⟨?_, ?_, acc.toList, vals_rg hi, ?_⟩), rfl, q _ _ (I2.hok.fresh (Nat.le_refl _)) rfl⟩
  · rw [Array.toArray_toList]
    exact Heap.get?_push_size _ rfl
  · rw [rgV_length, sizeLine_eq]; omega
  · rw [Array.toArray_toList]; exact IsTup.new _ _
end
end Sb
namespace Sb
open PySem PySem.Spec PyProof.Rows L2
theorem meets_enumT (a : Addr) (items : Array Value) :
    Meets (Builtin.«enumerate.__new__» ⟨[.type "enumerate", .ref a], []⟩) (fun _ R s => s.heap.IsTuple a items ∧
      R (.ok (.ret (.ref (s.heap.push { cls := .type "tuple_iterator", data := .fields #[.ref a, .int 0 0] }).objs.size)))
        { s with heap := (s.heap.push { cls := .type "tuple_iterator", data := .fields #[.ref a, .int 0 0] }).push { cls := .type "enumerate", data := .fields #[.none, .bool false, .ref s.heap.objs.size, rawInt 0, .none, .none] } }) :=
  .of_wp fun prog w A R s h => by
    obtain ⟨hp, g, d, tk, os⟩ := s
    obtain ⟨h1, h⟩ := h
    have hsub := sub_enumerate
    obtain ⟨⟨c, dct, dt, sl⟩, hl, hc, n, hd⟩ := id h1
    replace hc : c = .type "tuple" := hc
    replace hd : dt = .seq items n := hd
    subst hc hd
    have q1 : ∀ {A' : Around} {E : Value → Shared → Prop} {Q : Value → Shared → Prop}, Q (.ref hp.objs.size) ⟨hp.push { cls := .type "tuple_iterator", data := .fields #[.ref a, .int 0 0] }, g, d, tk, os⟩ → wpAny (model prog w) A' (pyIter (.ref a)) Q E ⟨hp, g, d, tk, os⟩ :=
      fun q => wpAny_pyIter_tuple h1 q
    wp_walk using AutoSeq1.wpAny_loadPart' hl, q1
    refine wpAny_stack_any fun st => wpAny_pure ?_
    split
    · rename_i c _ _ _ _ _
      cases (c == Value.type "enumerate")
      · wp_walk using AutoSeq1.wpAny_loadPart' hl, q1
        exact ⟨_, rfl, h⟩
      · wp_walk using AutoSeq1.wpAny_loadPart' hl, q1
        exact ⟨_, rfl, h⟩
    · wp_walk using AutoSeq1.wpAny_loadPart' hl, q1
      exact ⟨_, rfl, h⟩
section
variable {prog : Program} {w : World} {A : Around} {E : Value → Shared → Prop} {s : Shared}
theorem call_enumT {l : Addr} {items : Array Value} {Q : Value → Shared → Prop} (hL : s.heap.IsTuple l items)
    (h : ∀ h', IsEnum h' (s.heap.objs.size + 1) s.heap.objs.size 0 .none → h'.IsTupleIter s.heap.objs.size l 0 → h'.objs.size = s.heap.objs.size + 2 →
      (∀ b o, s.heap.get? b = some o → h'.get? b = some o) → Q (.ref (s.heap.objs.size + 1)) { s with heap := h' }) :
    wpAny (model prog w) A (call (.type "enumerate") [.ref l]) Q E s := by
  refine callType_new F.called_enumerate (by decide) (F.typeCall_enumerate_1 _) (F.newCall_enumerate_1 _) (fun obj => F.args_object_init_2 obj _) F.entry_enumerate_new
    (meets_enumT l items) ⟨hL, ?_⟩
  have hz : (s.heap.push { cls := .type "tuple_iterator", data := .fields #[.ref l, .int 0 0] }).objs.size = s.heap.objs.size + 1 := Heap.size_push ..
  show _ ∧ _
  rw [hz]
  have he : IsEnum ((s.heap.push { cls := .type "tuple_iterator", data := .fields #[.ref l, .int 0 0] }).push
      { cls := .type "enumerate", data := .fields #[.none, .bool false, .ref s.heap.objs.size, rawInt 0, .none, .none] }) (s.heap.objs.size + 1) s.heap.objs.size 0 .none := by
    have := Heap.get?_push_size (s.heap.push { cls := .type "tuple_iterator", data := .fields #[.ref l, .int 0 0] })
      (o := { cls := .type "enumerate", data := .fields #[.none, .bool false, .ref s.heap.objs.size, rawInt 0, .none, .none] }) rfl
    rw [hz] at this; exact this
  exact ⟨⟨_, he, rfl⟩, h _ he ⟨_, Heap.get?_push_of_some _ (Heap.get?_push_size _ rfl), rfl, rfl⟩ (by rw [Heap.size_push, hz]) fun b o x => Heap.get?_push_of_some _ (Heap.get?_push_of_some _ x)⟩
theorem enumT_end {e it l : Addr} {i : Nat} {items : Array Value} {old : Value} {Q : Option Value → Shared → Prop} (hh : A.handled = none)
    (he : IsEnum s.heap e it i old) (hit : s.heap.IsTupleIter it l i) (hl : s.heap.IsTuple l items) (hx : items[i]? = none)
    (hQ : ∀ h', Heap.ExtBut it s.heap h' → Q none { s with heap := h' }) : wpAny (model prog w) A (pyNext (.ref e)) Q E s := by
  have hT : s.TypeIs (.ref e) "enumerate" := ⟨_, he, rfl⟩
  unfold pyNext
  refine wpAny_bind (wpAny_attempt (wpAny_callSpecial?_slot (name := Str.ofString "__next__") hT F.slot_enumerate_next
    (wpAny_call_entry F.slot_enumerate_next hT F.entry_enumerate_next ?_ (F.args_enumerate_next_1 _))))
  show wpAny _ _ (field (.ref e) 2 >>= _) _ _ _
  refine wpAny_bind (wpAny_field he rfl (x := .ref it) rfl ?_)
  refine wpAny_bind (RZ.nextOf_tuple_end hh hit hl hx fun h' x he' hx' => ?_)
  obtain ⟨o, ho, hc⟩ := hx'
  refine wpAny_bind (wpAny_isInstance (T := "StopIteration") (b := true) ⟨o, ho, hc⟩ isSubtype_stop ?_)
  exact wpAny_pure (hQ _ he')
end
/-- the tuple at a, each item in a new pair -/
def Itet (K : PySem.W.Frag) (a : Addr) : It :=
  ⟨fun i H => ∃ (xs : List V) (x : V), SqT K H a xs ∧ xs[i]? = some x, fun i H v H' => ∃ T x, v = .ref T ∧ H T = none ∧ H' = upd H T (.tup [.int (i : Nat), x]) ∧ ∀ xs, SqT K H a xs → xs[i]? = some x, fun i H => ∃ xs : List V, SqT K H a xs ∧ xs.length ≤ i⟩
theorem turn_enumT {P : Program} {w : World} {K : PySem.W.Frag} {elts : List Expr} {kk : Nat} {tpos : Pos} (a e it : Addr) (nea : e ≠ a) (nia : it ≠ a) :
    Turn P w K (.Tuple elts kk tpos) (Itet K a) [e, it] e (fun i h => (∃ old, IsEnum h e it ((i : Nat) : Int) old) ∧ h.IsTupleIter it a i ∧ e ≠ it) where
  mem := by simp
  obj := fun i h st b hb => by
    obtain ⟨⟨old, he⟩, ⟨o, ho, hc, hd⟩, _⟩ := st
    have e' : b = e ∨ b = it := by simpa using hb
    rcases e' with z | z
    · rw [z]; exact ⟨_, he, fun v q => nomatch q⟩
    · rw [z]; exact ⟨o, ho, fun v q => by rw [hd] at q; cases q⟩
  keep := fun i h h' st k => let ⟨⟨old, he⟩, hi, hne⟩ := st; ⟨⟨old, k e (by simp) _ he⟩, hi.at fun o q => k it (by simp) o q, hne⟩
  item := by
    intro X hP hw hK hc i pins s σ H E I hf st hg
    subst hP hw hK
    obtain ⟨⟨old, he⟩, hit, hne⟩ := st
    obtain ⟨xs, x, hq, hx⟩ := hg
    obtain ⟨its, rv, p, hz⟩ := I.tuple hq
    obtain ⟨u, hu, ru⟩ := rv.get hx
    have hel : e < s.heap.objs.size := Heap.lt_size he
    have hil : it < s.heap.objs.size := by obtain ⟨_, q, _⟩ := hit; exact Heap.lt_size q
    have hlt : i < its.toArray.size := by
      have := (List.getElem?_eq_some_iff.mp hu).1
      simpa using this
    have D := Draws.tuple (prog := X.prog) (w := X.w) (A := X.A.in1) (I.ok.hd hc) it a (Ne.symm nia) its.toArray
    refine wpAny_pyNext_enum_itemD D he ⟨hit, p⟩ hlt hne (by simp [hne, nea]) fun x' h' tk hx' ho hit' hT hsz hk => ?_
    have ex : x' = u := by
      have e1 : its.toArray[i]? = some u := by simpa using hu
      exact Option.some.inj (hx'.symm.trans e1)
    subst ex
    refine ⟨_, rfl, wpAny_letOwnedTupleGo_enum (s := { s with heap := h', toks := tk + 1 }) ho fun h'' he' sb => ?_⟩
    have hT2 : h''.get? s.heap.objs.size = some { cls := .type "tuple", data := .seq #[.int i tk, x'] } := (sb.2 _ (Nat.ne_of_gt hel)).trans hT
    have new : ObjOk X.prog X.w (upd H s.heap.objs.size (.tup [.int (i : Nat), x])) h'' s.heap.objs.size (.tup [.int (i : Nat), x]) :=
      ⟨by show 2 ≤ sizeLine; decide, [.int i tk, x'], .cons ⟨_, rfl⟩ (.cons ru .nil), ⟨_, hT2, rfl, _, rfl⟩⟩
    have I1 : Inv X pins σ (upd H s.heap.objs.size (.tup [.int (i : Nat), x])) { s with heap := h'', toks := tk + 1 } :=
      I.turnedNew (ch := [e, it]) (fun b ob hb q => (sb.2 b (fun z => hb (by simp [z]))).trans (hk b ob (fun z => hb (by simp [z])) (fun z => hb (by simp [z])) q)) hf (Nat.le_refl _) new
    refine ⟨.ref s.heap.objs.size, _, I1, rfl, ⟨_, x, rfl, I.hok.fresh (Nat.le_refl _), rfl, fun ys hy => by rw [I.tuple_inj hy hq]; exact hx⟩, ⟨⟨x', ?_⟩, hit'.1.at fun o q => (sb.2 it (Ne.symm hne)).trans q, hne⟩, fun b hb => ?_⟩
    · have e1 : ((i + 1 : Nat) : Int) = (i : Int) + 1 := by omega
      rw [e1]; exact he'
    · have hb' : b < s.heap.objs.size := by
        have e' : b = e ∨ b = it := by simpa using hb
        rcases e' with z | z
        · rw [z]; exact hel
        · rw [z]; exact hil
      rw [upd_ne (Nat.ne_of_lt hb')]
      exact (hf b hb).1
  done := by
    intro X hP hw hK hc i pins s σ H E I hf st hg
    subst hP hw hK
    obtain ⟨⟨old, he⟩, hit, hne⟩ := st
    obtain ⟨xs, hq, hx⟩ := hg
    obtain ⟨its, rv, p, hz⟩ := I.tuple hq
    obtain ⟨f0, f1, f2, f3, f4, f5⟩ := hf it (by simp)
    have hl := rv.length
    exact enumT_end (I.ok.hd hc) he hit p (by simp; omega) fun h' eb => ⟨rfl, I.turned (t' := s.toks) (fun b o hb q => eb b o hb q) f0 f1 f3 f4 f5⟩
  self := fun A i s Q E st h => let ⟨⟨_, he⟩, _⟩ := st; wpAny_pyIter_enum he h
def iEnumT (K : PySem.W.Frag) (ta : TA) : TI := fun σ H R => ta σ H fun vs H1 => ∃ a xs, vs = [.ref a] ∧ SqT K H1 a xs ∧ R (Itet K a) H1
theorem pi_enumT {X : Cx} {e : Expr} {ta : TA} {p pos tpos : Pos} {elts : List Expr} {kk : Nat} (hg : Gl X "enumerate") (hm : X.mg "enumerate" = none) (ha : PA X [e] ta) (hs : starEach [e] X.env = [(false, eval e X.env)] := by rfl) :
    PI X (.Tuple elts kk tpos) (.Call (.Name "enumerate" p) [e] [] pos) (iEnumT X.K ta) := by
  refine ⟨fun pins s σ H R I h => ?_⟩
  refine Call_ (ld_blt I hg hm boot_enumerate (PyProof.Rows.callWith_type1 (thn (ha.run pos pins s σ H _ I h) fun us s1 ⟨vs, H1, I1, r1, q1⟩ => ?_) hs rfl))
  obtain ⟨a, xs, ex, hq, q⟩ := q1
  subst ex
  cases r1 with
  | cons r rr =>
    cases rr
    cases r
    obtain ⟨its, rv, p', hz⟩ := I1.tuple hq
    refine call_enumT p' fun h' he hit hsz hk => wpAny_pyIter_enum he ?_
    have I2 : Inv X pins σ H1 { s1 with heap := h' } := I1.kept (t' := s1.toks) hk
    have ha : a < s1.heap.objs.size := by obtain ⟨_, z, _⟩ := p'; exact Heap.lt_size z
    refine ⟨s1.heap.objs.size + 1, [s1.heap.objs.size + 1, s1.heap.objs.size], _, _, H1, rfl, I2, turn_enumT a (s1.heap.objs.size + 1) s1.heap.objs.size (Nat.ne_of_gt (Nat.lt_succ_of_lt ha)) (Nat.ne_of_gt ha), ⟨⟨.none, he⟩, hit, Nat.succ_ne_self _⟩, fun b hb => ?_, q⟩
    have e' : b = s1.heap.objs.size + 1 ∨ b = s1.heap.objs.size := by simpa using hb
    have hle : s1.heap.objs.size ≤ b := by
      rcases e' with z | z
      · rw [z]; exact Nat.le_add_right _ _
      · rw [z]; exact Nat.le_refl _
    exact I1.fpOk hle (I1.hok.fresh hle)
theorem walk_enumT {K : PySem.W.Frag} {a : Addr} {xs : List V} : Walk (Itet K a) xs.length (fun H => SqT K H a xs) (YPair (fun i => some (.int (i : Nat))) (fun i => xs[i]?)) := by
  refine ⟨fun i _ hi q => ⟨xs, xs[i], q, by simp [hi]⟩, fun _ q => ⟨xs, q, Nat.le_refl _⟩, fun i H v H' _ q y => ?_⟩
  obtain ⟨T, x, h1, h2, h3, h4⟩ := y
  exact ⟨T, .int (i : Nat), x, h1, h2, h3, rfl, h4 xs q⟩
end Sb
namespace Sb
open PySem PySem.Spec PyProof.Rows L2
section
variable {X : Cx}
theorem ps_setDc {i : Nat} {y : Str} {py : Pos} {kx vx tg iter : Expr} {ifs : List Expr} {scope : Scope} {own : List (Str × Nat)} {pos spos : Pos} {wi : TI} {g : TG} {tt : TT} {tk tv : TE} (hc : X.calm = true) (hN : X.N.Nodup) (hy : X.N[i]? = some y) (hyl : X.env.scope.names.lookup y = some .local)
    (hsw : swapsWith (.DictComp kx vx [⟨tg, iter, ifs, 0⟩] scope pos) (some (.Name y py)) spos.line X.env = pure true) (hi : PI X tg iter wi) (ok : BlkOk X.N X.env.scope scope own)
    (hg : ∀ (s : Shared) (H : Hp) (C : Addr) (cl : List (Str × Addr)) (fp : List Addr), PG (X.blk s H scope (compEnvC scope cl C X.env) fp) tg g) (ht : ∀ (s : Shared) (H : Hp) (C : Addr) (cl : List (Str × Addr)) (fp : List Addr), PTs (X.blk s H scope (compEnvC scope cl C X.env) fp) ifs tt)
    (hk : ∀ (s : Shared) (H : Hp) (C : Addr) (cl : List (Str × Addr)) (fp : List Addr), PE (X.blk s H scope (compEnvC scope cl C X.env) fp) kx tk)
    (he : ∀ (s : Shared) (H : Hp) (C : Addr) (cl : List (Str × Addr)) (fp : List Addr), PE (X.blk s H scope (compEnvC scope cl C X.env) fp) vx tv) (hs : ∀ x, foldedSetIterable iter X.env x = pure x := by intro _; rfl) :
    PS X (.Assign [.Name y py] (.DictComp kx vx [⟨tg, iter, ifs, 0⟩] scope pos) spos) (tAsg (tDc wi g tt tk tv (own.map (·.2))) (gName i)) := by
  refine ⟨fun pins s σ H D I h => ?_⟩
  rw [exec_Assign_Name_used _ _ _ _ hsw]
  refine wpAny_bind (wpAny_standAt (wpAny_bind ?_))
  show wpAny _ X.A (do let _ ← comprehension (.DictComp kx vx [⟨tg, iter, ifs, 0⟩] scope pos) scope X.env (firstIterPos [⟨tg, iter, ifs, 0⟩] pos) newDict false (eval iter X.env) (some (assign (.Name y py) X.env))) _ _ s
  have h : tDc wi g tt tk tv (own.map (·.2)) σ H (fun x H1 => gName i x σ H1 D.nx) := h
  refine wpAny_bind (thn (dc_core (Qf := fun _ s' => SP X pins D .next s') hc hN I hi ok hg ht hk he hs h fun L C s' m H' I' q hn f => ?_) fun _ s' hq => wpAny_pure (wpAny_pure hq))
  show wpAny _ _ (assign (.Name y py) X.env (.ref L)) _ _ _
  refine wpAny_assign_Name (store_ok2 (v := V.ref L) I' hN hy (.inl hyl) rfl (fun s2 I2 ⟨a, sb, ha⟩ => ?_) (.inr hyl))
  obtain ⟨f0, f1, f2, f3, f4, f5⟩ := f
  have haC : C ≠ a := by
    rcases ha with z | z
    · rw [z]; exact f1
    · exact fun e => f4 y a z e.symm
  exact ⟨m, hn.sameBut sb haC, fun h3 sb3 => ⟨_, H', I2.turned (t' := s2.toks) (fun b o hb e => (sb3.2 b hb).trans e) f0 f1 f3 f4 f5, q⟩⟩
end
end Sb
namespace Sb
open PySem PySem.Spec PyProof.Rows L2
abbrev PairsK (H : Hp) : List Addr → List (Key × V) → Prop := Paired fun t p => H t = some (.tup [kV p.1, p.2])
section
variable {X : Cx}
theorem pairsK_of {pins : List (Addr × Obj)} {σ : L2.St} {H : Hp} {s : Shared} (I : L2.Inv X pins σ H s) : ∀ {ts : List Addr} {ps : List (Key × V)}, PairsK H ts ps →
    ∃ xs : List (Key × Value × Value), KV ps (xs.map fun x => (x.1, x.2.2)) ∧ ts.length = xs.length ∧ ∀ (j : Nat) (x : Key × Value × Value), xs[j]? = some x → ∃ t : Addr, ts[j]? = some t ∧ IsTup s.heap t #[x.2.1, x.2.2] ∧ RelV (kV x.1) x.2.1
  | _, _, .nil => ⟨[], .nil, rfl, fun j q e => by simp at e⟩
  | _, _, .cons (a := t) (b := p) h r => by
    obtain ⟨xs, h1, h3, h4⟩ := pairsK_of I r
    obtain ⟨its, rv, ht, _⟩ := I.tuple (SqT.of h)
    obtain ⟨u, y, ei, ru, ry⟩ := vals2 rv
    subst ei
    refine ⟨(p.1, u, y) :: xs, .cons ⟨rfl, ry⟩ h1, by rw [List.length_cons, List.length_cons, h3], fun j q e => ?_⟩
    cases j with
    | zero =>
      have e' : (p.1, u, y) = q := Option.some.inj e
      subst e'
      exact ⟨t, rfl, ht, ru⟩
    | succ j =>
      obtain ⟨t', e1, e2⟩ := h4 j q (by simpa using e)
      exact ⟨t', by simpa using e1, e2⟩
def rDictPI : List V → Hp → VK → Prop := fun xs H Q => ∃ (a : Addr) (ts : List Addr) (ps : List (Key × V)), xs = [.ref a] ∧ H a = some (.lst (ts.map V.ref)) ∧ PairsK H ts ps ∧
  ∀ d, H d = none → Q (.ref d) (upd H d (.dK (mergeK [] ps)))
theorem call_dictPI (hc : X.calm = true) : CallR X (.type "dict") rDictPI := by
  intro pins s σ H xs us Q I r h
  obtain ⟨a, ts, ps, rfl, ha, hp, q⟩ := h
  obtain ⟨u, rfl, rx⟩ := vals1 r
  obtain rfl : u = Value.ref a := rx
  obtain ⟨its, rv, pl, hz⟩ := I.list (SqL.of ha)
  have ei := refs_at rv
  subst ei
  rw [List.length_map] at hz
  obtain ⟨xH, kt, l1, hpr⟩ := pairsK_of I hp
  obtain ⟨o, n, ho, hcl, hd, hdat⟩ := pl
  have prs : ∀ {j : Nat} {k v : Value}, (xH.map fun x => (x.2.1, x.2.2))[j]? = some (k, v) → ∃ x, xH[j]? = some x ∧ k = x.2.1 ∧ v = x.2.2 := fun {j k v} e => by
    rw [List.getElem?_map] at e
    obtain ⟨x, e1, e2⟩ := Option.map_eq_some_iff.mp e
    cases e2
    exact ⟨x, e1, rfl, rfl⟩
  refine call_dict_pairs (knd := mixKind X.prog X.w) (kvs := xH.map fun x => (x.1, x.2.2)) (PairArg.list a (ts.map Value.ref).toArray (fun j => (ts[j]?).getD 0) (xH.map fun x => (x.2.1, x.2.2))) (I.ok.hd hc) ⟨⟨o, n, ho, hcl, hd, hdat⟩, ?_, fun j k v e => ?_⟩ ⟨by rw [List.length_map, List.length_map], fun j k v e => ?_⟩ ?_ fun h' tk hd' k => ?_
  · simp [l1]
  · obtain ⟨x, e1, rfl, rfl⟩ := prs e
    obtain ⟨t, e2, e3, _⟩ := hpr j x e1
    refine ⟨by simp [e2], .inl ?_⟩
    show IsTup s.heap ((ts[j]?).getD 0) _
    rw [e2]
    exact e3
  · obtain ⟨x, e1, rfl, rfl⟩ := prs e
    obtain ⟨t, e2, e3, e4⟩ := hpr j x e1
    exact ⟨x.1, by rw [List.getElem?_map, e1]; rfl, kV_is e4⟩
  · rw [List.length_map, ← l1]
    exact hz
  · have hm : (s.heap.objs.size == sysModules) = false := beq_eq_false_iff_ne.mpr (Nat.ne_of_gt I.big)
    have kp : ∀ b o, s.heap.get? b = some o → h'.get? b = some o := fun b o e => k b o (fun z => nomatch z) e
    have hlen : (mergeK [] ps).length ≤ sizeLine := by
      have h1 := length_mergeK ps []
      have h2 := Paired.length hp
      simp only [List.length_nil] at h1
      omega
    exact ⟨.ref s.heap.objs.size, upd H s.heap.objs.size (.dK (mergeK [] ps)), I.laid (t' := tk) kp (Nat.le_refl _) (dk_new hlen hm (KV.merge kt .nil) hd'), rfl, q _ (I.hok.fresh (Nat.le_refl _))⟩
end
end Sb
namespace Sb
open PySem PySem.Spec PyProof.Rows L2
def rSetIT (K : PySem.W.Frag) (w : World) : List V → Hp → VK → Prop := fun xs H Q => ∃ (p : Addr) (ns : List Int), xs = [.ref p] ∧ SqT K H p (ns.map V.int) ∧ ns.length ≤ 50 ∧
  ∀ a c, c ≤ ns.length → H a = none → Q (.ref a) (upd H a (SetO w a (fun j => decide (j ∈ ns)) c))
theorem call_setIT {X : Cx} (hc : X.calm = true) : CallR X (.type "set") (rSetIT X.K X.w) := by
  intro pins s σ H xs us Q I r h
  obtain ⟨p0, ns, rfl, hq, hl, q⟩ := h
  obtain ⟨u, rfl, rx⟩ := vals1 r
  obtain rfl : u = Value.ref p0 := rx
  obtain ⟨its, rv, pt, hz⟩ := I.tuple hq
  have hi : IntsAre its.toArray.toList ns := ints_of_vals rv
  refine call_set_tupI ns (I.ok.hd hc) (show s.heap.IsTuple p0 its.toArray from pt) hi (by unfold scanBound; omega) fun h' tk c R1 hcn k => ?_
  exact ⟨.ref s.heap.objs.size, upd H s.heap.objs.size (SetO X.w s.heap.objs.size (fun j => decide (j ∈ ns)) c), I.laid (t' := tk) k (Nat.le_refl _) (setO_new R1), rfl, q _ c hcn (I.hok.fresh (Nat.le_refl _))⟩
end Sb
namespace Sb
open PySem PySem.Spec PyProof.Rows L2
theorem ne_fr {H : Hp} {a b : Addr} {o : HO} (n : H b = none) (h : H a = some o) : a ≠ b := ne_of_none h n
theorem ne_fr' {H : Hp} {a b : Addr} {o : HO} (n : H b = none) (h : H a = some o) : b ≠ a := (ne_of_none h n).symm
theorem upd_off {H : Hp} {a b : Addr} {o u : HO} (n : b ≠ a) (h : H b = some u) : upd H a o b = some u := by rw [upd_ne n]; exact h
theorem upd_none {H : Hp} {a b : Addr} {o : HO} (h : upd H a o b = none) : b ≠ a ∧ H b = none := by
  by_cases e : b = a
  · subst e
    rw [upd_same] at h
    cases h
  · rw [upd_ne e] at h
    exact ⟨e, h⟩
local macro_rules | `(tactic| walk_at "ne") => `(tactic| first
  | assumption
  | exact Ne.symm (by assumption)
  | exact ne_fr (by assumption) (by walk_at "hp")
  | exact ne_fr' (by assumption) (by walk_at "hp"))
local macro_rules | `(tactic| walk_at "hp") => `(tactic| first
  | assumption
  | exact upd_same
  | exact upd_off (by walk_at "ne") (by walk_at "hp"))
def top (i : Nat) : Stmt := PySem.Challenge.pw_seenbefore_k58_whole_needed_values_and_c.main.body.getD i (.Pass ⟨0, 0, 0, 0⟩)
abbrev s_is_integer : Stmt := top 13
abbrev s_is_between : Stmt := top 14
abbrev s_Watcher_init : Stmt := inClass (top 22) 0
abbrev s_Watcher_len : Stmt := inClass (top 22) 1
abbrev s_Watcher_add_state : Stmt := inClass (top 22) 3
abbrev s_Watcher_set_verdict : Stmt := inClass (top 22) 4
abbrev s_Watcher_add_rule : Stmt := inClass (top 22) 5
abbrev s_Watcher_verdicts : Stmt := inClass (top 22) 7
abbrev s_Watcher_held_counts : Stmt := inClass (top 22) 8
abbrev s_Watcher_rules : Stmt := inClass (top 22) 9
abbrev s_Watcher_rule_for : Stmt := inClass (top 22) 11
abbrev s_Watcher_require_state : Stmt := inClass (top 22) 12
abbrev s_Watcher_require_word : Stmt := inClass (top 22) 13
abbrev s_require_verdict : Stmt := top 23
abbrev s_is_test : Stmt := top 24
abbrev s_are_sources : Stmt := top 25
abbrev s_is_source : Stmt := top 26
abbrev s_rule_order : Stmt := top 27
abbrev s_part_order : Stmt := top 28
abbrev s_after_message : Stmt := top 30
abbrev s_carried : Stmt := top 31
abbrev s_verdicts_at : Stmt := top 43
abbrev s_steps_from : Stmt := top 46
abbrev s_steps_among : Stmt := top 47
abbrev s_reached_situations : Stmt := top 42
abbrev s_ways_to : Stmt := top 48
abbrev s_continuation_along : Stmt := top 49
abbrev s_held_numbers : Stmt := top 50
abbrev s_equal_places : Stmt := top 51
abbrev s_cases_between : Stmt := top 52
abbrev s_situation_after : Stmt := top 53
abbrev s_value_of : Stmt := top 54
abbrev s_least_other : Stmt := top 55
abbrev s_other_value : Stmt := top 75
abbrev s_are_sought : Stmt := top 77
abbrev s_ways_to_sought : Stmt := top 81
abbrev s_ways_to_unlike : Stmt := top 82
abbrev s_all_places : Stmt := top 85
abbrev s_require_claim : Stmt := top 66
abbrev s_decide : Stmt := top 67
abbrev s_require_paired : Stmt := top 68
abbrev s_is_claim : Stmt := top 69
abbrev s_is_claim_about : Stmt := top 70
abbrev s_are_places : Stmt := top 72
abbrev s_watcher_of : Stmt := top 73
abbrev s_compared : Stmt := top 74
abbrev s_answer_of_stream : Stmt := top 78
abbrev s_answer_of_table : Stmt := top 79
abbrev s_decide_compared : Stmt := top 80
abbrev s_needed_places : Stmt := top 89
abbrev s_law_pen : Stmt := top 91
abbrev s_law_fresh : Stmt := top 92
abbrev s_law_draw : Stmt := top 93
abbrev s_law_some_sources : Stmt := top 94
abbrev s_law_plan : Stmt := top 95
abbrev s_law_built : Stmt := top 96
abbrev s_law_moved : Stmt := top 97
abbrev s_law_situation : Stmt := top 98
abbrev s_law_started : Stmt := top 99
abbrev s_law_met : Stmt := top 100
abbrev s_law_unlike : Stmt := top 101
abbrev s_law_without : Stmt := top 102
abbrev s_law_few_plan : Stmt := top 103
abbrev s_law_ends : Stmt := top 104
abbrev s_law_place_right : Stmt := top 105
abbrev s_law : Stmt := top 106
abbrev s_NotAWord_init : Stmt := inClass (top 3) 0
abbrev s_NotAVerdict_init : Stmt := inClass (top 4) 0
abbrev s_InvalidTest_init : Stmt := inClass (top 5) 0
abbrev s_InvalidSources_init : Stmt := inClass (top 6) 0
abbrev s_UnknownState_init : Stmt := inClass (top 9) 0
abbrev s_RuleExists_init : Stmt := inClass (top 10) 0
abbrev s_LimitExceeded_init : Stmt := inClass (top 11) 0
/-- where all stands -/
structure Tx (K : PySem.W.Frag) (mg : Str → Option Value) where
  Watcher : Cn K mg "Watcher"
  nf_Watcherwords : NoAttr K Watcher.C "words"
  nf_Watcher_verdicts : NoAttr K Watcher.C "_verdicts"
  nf_Watcher_held : NoAttr K Watcher.C "_held"
  nf_Watcher_rules : NoAttr K Watcher.C "_rules"
  is_integer : Dn K mg "is_integer" s_is_integer ["value"]
  is_between : Dn K mg "is_between" s_is_between ["value", "low", "high"]
  Watcher_init : Mn K Watcher.C "__init__" "Watcher.__init__" s_Watcher_init ["self", "words"]
  Watcher_len : Mn K Watcher.C "__len__" "Watcher.__len__" s_Watcher_len ["self"]
  Watcher_add_state : Mn K Watcher.C "add_state" "Watcher.add_state" s_Watcher_add_state ["self", "verdict", "held"]
  Watcher_set_verdict : Mn K Watcher.C "set_verdict" "Watcher.set_verdict" s_Watcher_set_verdict ["self", "state", "verdict"]
  Watcher_add_rule : Mn K Watcher.C "add_rule" "Watcher.add_rule" s_Watcher_add_rule ["self", "state", "word", "test", "target", "sources"]
  Watcher_verdicts : Mn K Watcher.C "verdicts" "Watcher.verdicts" s_Watcher_verdicts ["self"]
  Watcher_held_counts : Mn K Watcher.C "held_counts" "Watcher.held_counts" s_Watcher_held_counts ["self"]
  Watcher_rules : Mn K Watcher.C "rules" "Watcher.rules" s_Watcher_rules ["self"]
  Watcher_rule_for : Mn K Watcher.C "rule_for" "Watcher.rule_for" s_Watcher_rule_for ["self", "state", "word", "test"]
  Watcher_require_state : Mn K Watcher.C "require_state" "Watcher.require_state" s_Watcher_require_state ["self", "state"]
  Watcher_require_word : Mn K Watcher.C "require_word" "Watcher.require_word" s_Watcher_require_word ["self", "word"]
  require_verdict : Dn K mg "require_verdict" s_require_verdict ["verdict"]
  is_test : Dn K mg "is_test" s_is_test ["test", "held"]
  are_sources : Dn K mg "are_sources" s_are_sources ["sources", "wanted", "held", "test"]
  is_source : Dn K mg "is_source" s_is_source ["source", "held", "test"]
  rule_order : Dn K mg "rule_order" s_rule_order ["rule"]
  part_order : Dn K mg "part_order" s_part_order ["part"]
  after_message : Dn K mg "after_message" s_after_message ["watcher", "state", "held", "word", "value"]
  carried : Dn K mg "carried" s_carried ["sources", "held", "value"]
  verdicts_at : Dn K mg "verdicts_at" s_verdicts_at ["pair", "situation"]
  steps_from : Dn K mg "steps_from" s_steps_from ["pair", "situation"]
  steps_among : Dn K mg "steps_among" s_steps_among ["pair", "situations"]
  reached_situations : Dn K mg "reached_situations" s_reached_situations ["pair", "situation"]
  ways_to : Dn K mg "ways_to" s_ways_to ["steps", "ends"]
  continuation_along : Dn K mg "continuation_along" s_continuation_along ["pair", "situation", "ways"]
  held_numbers : Dn K mg "held_numbers" s_held_numbers ["pair", "situation"]
  equal_places : Dn K mg "equal_places" s_equal_places ["first", "second"]
  cases_between : Dn K mg "cases_between" s_cases_between ["first", "second"]
  situation_after : Dn K mg "situation_after" s_situation_after ["pair", "situation", "held", "word", "case"]
  value_of : Dn K mg "value_of" s_value_of ["case", "first", "second"]
  least_other : Dn K mg "least_other" s_least_other ["values"]
  other_value : Dn K mg "other_value" s_other_value ["watcher", "p", "i"]
  are_sought : Dn K mg "are_sought" s_are_sought ["claim", "verdicts"]
  ways_to_sought : Dn K mg "ways_to_sought" s_ways_to_sought ["watchers", "situations", "claim"]
  ways_to_unlike : Dn K mg "ways_to_unlike" s_ways_to_unlike ["watcher", "situations"]
  all_places : Dn K mg "all_places" s_all_places ["watcher"]
  require_claim : Dn K mg "require_claim" s_require_claim ["pair", "claim"]
  decide : Dn K mg "decide" s_decide ["pair", "claim"]
  require_paired : Dn K mg "require_paired" s_require_paired ["pair"]
  is_claim : Dn K mg "is_claim" s_is_claim ["pair", "claim"]
  is_claim_about : Dn K mg "is_claim_about" s_is_claim_about ["watcher", "kind", "parts"]
  are_places : Dn K mg "are_places" s_are_places ["watcher", "state", "places"]
  watcher_of : Dn K mg "watcher_of" s_watcher_of ["pair", "side"]
  compared : Dn K mg "compared" s_compared ["pair", "claim"]
  answer_of_stream : Dn K mg "answer_of_stream" s_answer_of_stream ["claim"]
  answer_of_table : Dn K mg "answer_of_table" s_answer_of_table ["claim"]
  decide_compared : Dn K mg "decide_compared" s_decide_compared ["pair", "claim"]
  needed_places : Dn K mg "needed_places" s_needed_places ["watcher"]
  law_pen : Dn K mg "_law_pen" s_law_pen ["script"]
  law_fresh : Dn K mg "_law_fresh" s_law_fresh ["pen"]
  law_draw : Dn K mg "_law_draw" s_law_draw ["pen", "many"]
  law_some_sources : Dn K mg "_law_some_sources" s_law_some_sources ["pen", "held", "test", "many"]
  law_plan : Dn K mg "_law_plan" s_law_plan ["pen", "words", "states", "held"]
  law_built : Dn K mg "_law_built" s_law_built ["plan"]
  law_moved : Dn K mg "_law_moved" s_law_moved ["plan", "present", "message"]
  law_situation : Dn K mg "_law_situation" s_law_situation ["one", "other"]
  law_started : Dn K mg "_law_started" s_law_started ["plans", "situation"]
  law_met : Dn K mg "_law_met" s_law_met ["plans", "situation", "ends"]
  law_unlike : Dn K mg "_law_unlike" s_law_unlike ["plans", "situation"]
  law_without : Dn K mg "_law_without" s_law_without ["held", "place"]
  law_few_plan : Dn K mg "_law_few_plan" s_law_few_plan ["pen"]
  law_ends : Dn K mg "_law_ends" s_law_ends ["plan", "state", "stream", "place"]
  law_place_right : Dn K mg "_law_place_right" s_law_place_right ["pen", "plan", "state", "place", "tells"]
  mk_Watcher : Mk K Watcher.C Watcher_init.f
  bt_rule_order : ∀ (s : Shared) (v : Value), BindsTo s rule_order.fd ⟨[v], []⟩ [("rule", v)]
  bt_part_order : ∀ (s : Shared) (v : Value), BindsTo s part_order.fd ⟨[v], []⟩ [("part", v)]
  tf_Watcher_len : PySem.W.typeIn K (.ref Watcher_len.f) = some (.type "function")
  NotAWord : En K mg OwnE.bVE "NotAWord" "word" "NotAWord.__init__"
  NotAVerdict : En K mg OwnE.bVE "NotAVerdict" "verdict" "NotAVerdict.__init__"
  InvalidTest : En K mg OwnE.bVE "InvalidTest" "test" "InvalidTest.__init__"
  InvalidSources : En K mg OwnE.bVE "InvalidSources" "sources" "InvalidSources.__init__"
  UnknownState : En K mg OwnE.bLE "UnknownState" "state" "UnknownState.__init__"
  RuleExists : En K mg OwnE.bRE "RuleExists" "rule" "RuleExists.__init__"
  LimitExceeded : En K mg OwnE.bOE "LimitExceeded" "limit" "LimitExceeded.__init__"
  ck_MOST_WORDS : Tok
  g_MOST_WORDS : mg "MOST_WORDS" = some (.int 3 ck_MOST_WORDS)
  ck_MOST_STATES : Tok
  g_MOST_STATES : mg "MOST_STATES" = some (.int 6 ck_MOST_STATES)
  ck_MOST_HELD : Tok
  g_MOST_HELD : mg "MOST_HELD" = some (.int 3 ck_MOST_HELD)
  ck_MOST_VERDICT : Tok
  g_MOST_VERDICT : mg "MOST_VERDICT" = some (.int 3 ck_MOST_VERDICT)
  ck_NEW : Tok
  g_NEW : mg "NEW" = some (.str "new" ck_NEW)
  ck_VALUE : Tok
  g_VALUE : mg "VALUE" = some (.str "value" ck_VALUE)
  ck_BOTH : Tok
  g_BOTH : mg "BOTH" = some (.str "both" ck_BOTH)
  ck_FIRST : Tok
  g_FIRST : mg "FIRST" = some (.str "first" ck_FIRST)
  ck_SECOND : Tok
  g_SECOND : mg "SECOND" = some (.str "second" ck_SECOND)
  ck_ALIKE : Tok
  g_ALIKE : mg "ALIKE" = some (.str "alike" ck_ALIKE)
  ck_TOGETHER : Tok
  g_TOGETHER : mg "TOGETHER" = some (.str "together" ck_TOGETHER)
  ck_UNNEEDED : Tok
  g_UNNEEDED : mg "UNNEEDED" = some (.str "unneeded" ck_UNNEEDED)
  ck_NEVER : Tok
  g_NEVER : mg "NEVER" = some (.str "never" ck_NEVER)
  ck_LEAST : Tok
  g_LEAST : mg "LEAST" = some (.str "least" ck_LEAST)
  ck_SHOWN : Tok
  g_SHOWN : mg "SHOWN" = some (.str "shown" ck_SHOWN)
  ck_BROKEN : Tok
  g_BROKEN : mg "BROKEN" = some (.str "broken" ck_BROKEN)
  m_abs : mg "abs" = none
  m_enumerate : mg "enumerate" = none
  m_list : mg "list" = none
  m_len : mg "len" = none
  m_range : mg "range" = none
  m_tuple : mg "tuple" = none
  m_isinstance : mg "isinstance" = none
  m_bool : mg "bool" = none
  m_int : mg "int" = none
  m_sorted : mg "sorted" = none
  m_set : mg "set" = none
  m_repr : mg "repr" = none
  m_dict : mg "dict" = none
def cutAll (ns : List Int) (h : ns.length ≤ 63) : cutV (ns.map V.int) none (some 63) = ns.map V.int := by
  unfold cutV
  rw [show HT.sIx (ns.map V.int).length 0 none = 0 from HT.sIx_none _ _, show HT.sIx (ns.map V.int).length (ns.map V.int).length (some 63) = min 63 (ns.map V.int).length from HT.sIx_nat _ _ 63]
  rw [List.drop_zero, Nat.sub_zero, List.length_map, Nat.min_eq_right h]
  exact List.take_of_length_le (by rw [List.length_map]; exact Nat.le_refl _)
/-- but at p, what was tracked is as it was -/
def Keep (p : Addr) (H H' : Hp) : Prop := ∀ b o, H b = some o → b ≠ p → H' b = some o
theorem Keep.refl {p : Addr} {H : Hp} : Keep p H H := fun _ _ h _ => h
theorem Keep.trans {p : Addr} {H H1 H2 : Hp} (a : Keep p H H1) (b : Keep p H1 H2) : Keep p H H2 := fun c o h n => b c o (a c o h n) n
theorem Keep.new {p q : Addr} {H : Hp} {o : HO} (h : H q = none) : Keep p H (upd H q o) := fun b u e _ => by rw [upd_ne (ne_of_none e h)]; exact e
theorem Keep.at {p : Addr} {H H1 : Hp} {o : HO} (a : Keep p H H1) : Keep p H (upd H1 p o) := fun b u e n => by rw [upd_ne n]; exact a b u e n
theorem Keep.same {p : Addr} {H H1 : Hp} (h : Same H H1) : Keep p H H1 := fun b o e _ => h b o e
/-- the pen stands at p, its cells at c -/
def PenIs (H : Hp) (p c : Addr) (ns : List Int) (at_ st : Int) : Prop := H p = some (.lst [.ref c, .int at_, .int st]) ∧ H c = some (.lst (ns.map V.int))
def Pen (H : Hp) (p c : Addr) : Prop := ∃ ns at_ st, PenIs H p c ns at_ st ∧ 0 ≤ at_ ∧ 0 ≤ st ∧ ns.length ≤ 63
theorem PenIs.ne {H : Hp} {p c : Addr} {ns : List Int} {a z : Int} (h : PenIs H p c ns a z) : p ≠ c := by
  refine ne_of h.1 h.2 ?_
  intro e
  cases ns with
  | nil => cases e
  | cons x r => cases e
theorem Pen.ne {H : Hp} {p c : Addr} (h : Pen H p c) : p ≠ c := by
  obtain ⟨_, _, _, h, _⟩ := h
  exact h.ne
theorem Pen.mono {H H' : Hp} {p c : Addr} (h : Pen H p c) (e : Same H H') : Pen H' p c := by
  obtain ⟨ns, a, z, h, r⟩ := h
  exact ⟨ns, a, z, ⟨e _ _ h.1, e _ _ h.2⟩, r⟩
theorem Pen.free {H : Hp} {p c q : Addr} (h : Pen H p c) (e : H q = none) : p ≠ q ∧ c ≠ q := by
  obtain ⟨ns, a, z, h, r⟩ := h
  exact ⟨ne_of_none h.1 e, ne_of_none h.2 e⟩
theorem Pen.tups {H H' : Hp} {p c : Addr} (h : Pen H p c) (k : Keep p H H') : Tups H H' := fun a xs e => by
  obtain ⟨ns, x, z, ⟨h1, _⟩, _⟩ := h
  exact k a _ e (ne_of e h1 (fun z => by cases z))
theorem Pen.at {H : Hp} {p c : Addr} (h : Pen H p c) : ∃ l, H p = some (.lst l) := by
  obtain ⟨ns, x, z, ⟨h1, _⟩, _⟩ := h
  exact ⟨_, h1⟩
theorem Pen.put {H : Hp} {p c a : Addr} {o : HO} (h : Pen H p c) (n1 : a ≠ p) (n2 : a ≠ c) : Pen (upd H a o) p c := by
  obtain ⟨ns, x, z, ⟨h1, h2⟩, r⟩ := h
  exact ⟨ns, x, z, ⟨by rw [upd_ne n1.symm]; exact h1, by rw [upd_ne n2.symm]; exact h2⟩, r⟩
def sp_law_pen (K : PySem.W.Frag) : Sp := fun vs H Q _ => ∃ (a : Addr) (ns : List Int), vs = [.ref a] ∧ SqL K H a (ns.map V.int) ∧ ns.length ≤ 63 ∧
  ∀ p c H', Same H H' → H p = none → H c = none → Pen H' p c → Q (.ref p) H'
def sp_law_fresh : Sp := fun vs H Q _ => ∃ (p c : Addr) (ns : List Int) (a z : Int), vs = [.ref p] ∧ PenIs H p c ns a z ∧ 0 ≤ a ∧ ns.length ≤ 63 ∧
  ∀ r H', 0 ≤ r → Keep p H H' → PenIs H' p c ns (a + 1) z → Q (.int r) H'
def sp_law_draw : Sp := fun vs H Q _ => ∃ (p c : Addr) (many : Int), vs = [.ref p, .int many] ∧ Pen H p c ∧ 0 < many ∧ many < 2 ^ 100 ∧
  ∀ d H', 0 ≤ d → d < many → Keep p H H' → Pen H' p c → Q (.int d) H'
section
variable {P : Program} {w : World} {K : PySem.W.Frag} {mg : Str → Option Value} {base : Heap}
abbrev N_law_pen : List Str := ["script"]
theorem sc_law_pen : FnScope N_law_pen ["script"] (defScope s_law_pen) := ⟨rfl, rfl, rfl, by decide +kernel, rfl, by decide +kernel, by decide +kernel⟩
theorem ok_law_pen {f : Addr} {fd : FuncData} {k : Nat} (F : Fun K "_law_pen" "_law_pen" s_law_pen f fd) (m_list : mg "list" = none) : FnG P w K mg base CX0 (k + 1) f fd ["script"] (sp_law_pen K) := by
  refine okG F sc_law_pen (fun vs H Q E h => ?_) (fun cdv A outer s H vs Q E gd hr h => ?_)
  · obtain ⟨a, ns, rfl, _⟩ := h
    rfl
  · obtain ⟨a, ns, rfl, hS, hl, q⟩ := h
    refine ⟨_,
      (pss_one (ps_ret (pe_lst (pa_cons (pe_callTy call_list_of (by rfl) m_list (by decide +kernel) (pa_cons (pe_slice sl_list (pv 0) po_none (po_some pe_int)) pa_nil)) (pa_cons pe_int (pa_cons pe_int pa_nil))))))
       , ?_⟩
    refine ⟨.ref a, rfl, 63, rfl, a, ns.map V.int, rfl, hS, fun b nb => ?_⟩
    rw [cutAll ns hl]
    refine ⟨b, ns.map V.int, rfl, .inl (.inl (.inl upd_same)), fun c nc => ?_⟩
    refine ⟨(by show 3 ≤ sizeLine; decide), fun p np => ?_⟩
    have s1 : Same H (upd H b (.lst (ns.map V.int))) := fun x o e => by walk_at "hp"
    have nc0 : H c = none := s1.free nc
    have s2 : Same H (upd (upd H b (.lst (ns.map V.int))) c (.lst (ns.map V.int))) := fun x o e => (by walk_at "hp")
    have np0 : H p = none := s2.free np
    have npc : c ≠ p := ne_of_none upd_same np
    refine q p c _ (fun x o e => ?_) np0 nc0 ⟨ns, 0, 0, ⟨upd_same, ?_⟩, by decide, by decide, hl⟩
    · have := s2 x o e
      walk_at "hp"
    · walk_at "hp"
abbrev N_law_fresh : List Str := ["pen", "at", "cell", "p", "state", "found", "turn"]
theorem sc_law_fresh : FnScope N_law_fresh ["pen"] (defScope s_law_fresh) := ⟨rfl, rfl, rfl, by decide +kernel, rfl, by decide +kernel, by decide +kernel⟩
theorem ok_law_fresh {f : Addr} {fd : FuncData} {k : Nat} (F : Fun K "_law_fresh" "_law_fresh" s_law_fresh f fd) (m_len : mg "len" = none) (m_range : mg "range" = none) : FnG P w K mg base CX0 (k + 1) f fd ["pen"] sp_law_fresh := by
  refine okG F sc_law_fresh (fun vs H Q E h => ?_) (fun cdv A outer s H vs Q E gd hr h => ?_)
  · obtain ⟨p, c, ns, a, z, rfl, _⟩ := h
    rfl
  · obtain ⟨p, c, ns, a, z, rfl, hP, ha, hl, q⟩ := h
    obtain ⟨hp, hc⟩ := id hP
    have npc := hP.ne
    refine ⟨_,
      (pss_cons (ps_set (i := 1) sc_law_fresh.nd rfl (.inl rfl) (pe_ix ix_list (pv 0) pe_int (fun _ _ => rfl))) -- at = pen[1]
      (pss_cons (ps_asg (pe_op op_add (pv 1) pe_int) (pg_sub (pv 0) pe_int set_list)) -- pen[1] = at + 1
      (pss_cons (ps_set (i := 2) sc_law_fresh.nd rfl (.inl rfl) pe_int) -- cell = 0
      (C8.pss_cut (ps_if (pt_cmpR (op_neD hr.units) (pe_ix ix_list (pv 0) pe_int (fun _ _ => rfl)) (pe_lst pa_nil) (nomark _)) 
        (pss_one (ps_set (i := 2) sc_law_fresh.nd rfl (.inl rfl) (pe_ix ix_list (pe_ix ix_list (pv 0) pe_int (fun _ _ => rfl)) (pe_op op_mod (pv 1) (pe_callB call_len_seq (by rfl) m_len PySem.boot_len (pa_cons (pe_ix ix_list (pv 0) pe_int (fun _ _ => rfl)) pa_nil))) (fun _ _ => rfl)))) -- cell = pen[0][at % len(pen[0])]
         pss_nil) -- if pen[0] != []:
      (C8.pss_cut (ps_if (PW.pt (pw_and (pt_cmpR op_lt (pv 1) (pe_callB call_len_seq (by rfl) m_len PySem.boot_len (pa_cons (pe_ix ix_list (pv 0) pe_int (fun _ _ => rfl)) pa_nil)) (nomark _)) (pw_and1 (pt_cmpR op_ge (pv 2) (pe_op op_pow pe_int pe_int) (nomark _))))) 
        (pss_one (ps_ret (pe_op op_sub (pv 2) (pe_op op_pow pe_int pe_int)))) -- return cell - 10 ** 18
         pss_nil) -- if at < len(pen[0]) and cell >= 10 ** 18:
      (pss_cons (ps_set (i := 3) sc_law_fresh.nd rfl (.inl rfl) pe_int) -- p = 2305843009213693951
      (pss_cons (ps_set (i := 4) sc_law_fresh.nd rfl (.inl rfl) (pe_op op_mod (pe_op op_add (pe_op op_add (pe_op op_mul (pv 2) pe_int) (pe_op op_mul pe_int (pv 1))) pe_int) (pv 3))) -- state = (cell * 48271 + 40692 * at + 31) % p
      (pss_cons (ps_set (i := 5) sc_law_fresh.nd rfl (.inl rfl) (pv 4)) -- found = state
      (pss_cons (ps_for PassesOwn.never rfl (pi_range1 rfl m_range (pa_cons pe_int pa_nil)) (pg_name (i := 6) sc_law_fresh.nd rfl (.inl rfl)) 
        (pss_cons (ps_set (i := 4) sc_law_fresh.nd rfl (.inl rfl) (pe_op op_mod (pe_op op_add (pe_op op_add (pe_op op_mul (pv 4) (pv 4)) (pe_op op_mul (pe_op op_mul pe_int (pe_op op_add (pv 6) pe_int)) (pe_op op_add (pv 1) pe_int))) (pv 2)) (pv 3))) -- state = (state * state + 69621 * (turn + 1) * (at + 1) + cell) % p
        (pss_one (ps_set (i := 5) sc_law_fresh.nd rfl (.inl rfl) (pe_op op_add (pe_op op_mul (pv 5) (pv 3)) (pv 4)))) -- found = found * p + state
        )) -- for turn in range(6):
      (pss_one (ps_ret (pv 5))) -- return found
      ))))))))) , ?_⟩
    -- at = pen[1]; pen[1] = at + 1; cell = 0
    refine ⟨.ref p, rfl, p, _, 1, .int a, rfl, rfl, .inl (.inl hp), rfl, ?_⟩
    refine ⟨.int a, rfl, a, 1, rfl, rfl, .ref p, rfl, p, _, 1, 1, rfl, rfl, hp, rfl, ?_⟩
    generalize hH1 : upd H p (.lst ([V.ref c, V.int a, V.int z].set 1 (V.int (a + 1)))) = H1
    have hp1 : H1 p = some (.lst [.ref c, .int (a + 1), .int z]) := by rw [← hH1]; exact upd_same
    have hc1 : H1 c = some (.lst (ns.map V.int)) := by rw [← hH1, upd_ne npc.symm]; exact hc
    have kp1 : Keep p H H1 := by rw [← hH1]; exact Keep.refl.at
    clear hH1
    -- if pen[0] != []: cell = ..
    refine ⟨fun σ H' => ∃ cell : Int, σ = [some (.ref p), some (.int a), some (.int cell), none, none, none, none] ∧ Keep p H H' ∧ H' p = some (.lst [.ref c, .int (a + 1), .int z]) ∧ H' c = some (.lst (ns.map V.int)), ?_, ?_⟩
    · refine ⟨.ref p, rfl, p, _, 0, .ref c, rfl, rfl, .inl (.inl hp1), rfl, by show 0 ≤ sizeLine; decide, fun e ne => ?_⟩
      have hc2 : (upd H1 e (.lst [])) c = some (.lst (ns.map V.int)) := by walk_at "hp"
      have hp2 : (upd H1 e (.lst [])) p = some (.lst [.ref c, .int (a + 1), .int z]) := by walk_at "hp"
      have kp2 : Keep p H (upd H1 e (.lst [])) := kp1.trans (Keep.new ne)
      have he2 : (upd H1 e (.lst [])) e = some (.lst []) := upd_same
      generalize upd H1 e (.lst []) = H2 at hc2 hp2 kp2 he2 ⊢
      refine ⟨.list (ns.map PyData.int), .list [], .lst (.inl (.inl hc2)) (dp_ints _ _ ns), .lst (.inl (.inl he2)) .nil, shaped_ints ns, rfl, _, rfl, ite2 (fun hb => ?_) (fun hb => ?_)⟩
      · have hn : 0 < ns.length := by
          cases ns with
          | nil => cases hb
          | cons x r => exact Nat.succ_pos _
        obtain ⟨j, hj, ej⟩ : ∃ j : Nat, j < ns.length ∧ a % (ns.length : Int) = j := by
          refine ⟨(a % (ns.length : Int)).toNat, ?_, ?_⟩
          · have := Int.emod_lt_of_pos a (show (0 : Int) < ns.length by omega)
            have := Int.emod_nonneg a (show (ns.length : Int) ≠ 0 by omega)
            omega
          · have := Int.emod_nonneg a (show (ns.length : Int) ≠ 0 by omega)
            omega
        refine ⟨.ref p, rfl, p, _, 0, .ref c, rfl, rfl, .inl (.inl hp2), rfl, .int a, rfl, .ref p, rfl, p, _, 0, .ref c, rfl, rfl, .inl (.inl hp2), rfl, c, _, rfl, .inl (.inl (.inl hc2)), a, _, rfl, rfl, (by rw [List.length_map]; show (0 : Int) < ns.length; omega), c, _, _, .int ns[j], rfl, rfl, .inl (.inl hc2), ?_, ?_⟩
        · rw [List.length_map, ej]
          exact atI_nat (by rw [List.getElem?_map, List.getElem?_eq_getElem hj]; rfl)
        · exact ⟨ns[j], rfl, kp2, hp2, hc2⟩
      · exact ⟨0, rfl, kp2, hp2, hc2⟩
    · rintro σ H2 ⟨cell, rfl, kp2, hp2, hc2⟩
      have done : ∀ r : Int, 0 ≤ r → Q (.int r) H2 := fun r h0 => q r H2 h0 kp2 ⟨hp2, hc2⟩
      -- if at < len(pen[0]) and cell >= 10 ** 18: return cell - 10 ** 18
      refine ⟨fun σ H' => σ = [some (.ref p), some (.int a), some (.int cell), none, none, none, none] ∧ H' = H2, ?_, ?_⟩
      · refine ⟨.int a, rfl, .ref p, rfl, p, _, 0, .ref c, rfl, rfl, .inl (.inl hp2), rfl, c, _, rfl, .inl (.inl (.inl hc2)), a, _, rfl, rfl, _, rfl, ite2 (fun h1 => ?_) (fun h1 => ?_)⟩
        · refine ⟨.int cell, rfl, 10, 18, rfl, rfl, ⟨by decide, by decide, by decide⟩, cell, _, rfl, rfl, _, rfl, ite2 (fun h2 => ?_) (fun h2 => ?_)⟩
          · refine ⟨.int cell, rfl, 10, 18, rfl, rfl, ⟨by decide, by decide, by decide⟩, cell, _, rfl, rfl, done _ ?_⟩
            have := of_decide_eq_true h2
            omega
          · exact ⟨rfl, rfl⟩
        · exact ⟨rfl, rfl⟩
      · rintro σ H3 ⟨rfl, rfl⟩
        -- p = ..; state = (cell * 48271 + 40692 * at + 31) % p; found = state
        refine ⟨.int cell, rfl, cell, 48271, rfl, rfl, .inr ⟨by decide, by decide⟩, .int a, rfl, 40692, a, rfl, rfl, .inl ⟨by decide, by decide⟩, _, _, rfl, rfl, _, _, rfl, rfl, .int 2305843009213693951, rfl, _, _, rfl, rfl, (by show (0 : Int) < 2305843009213693951; decide), ?_⟩
        dsimp only
        generalize hst : (cell * 48271 + 40692 * a + 31) % 2305843009213693951 = st
        have h0 : 0 ≤ st := by rw [← hst]; exact Int.emod_nonneg _ (by decide)
        have h1 : st < 2305843009213693951 := by rw [← hst]; exact Int.emod_lt_of_pos _ (by decide)
        clear hst
        refine ⟨.int st, rfl, 6, rfl, by decide, by decide, ?_⟩
        refine for_range (n := 6) (fun _ σ H' => ∃ st fd tn, σ = [some (.ref p), some (.int a), some (.int cell), some (.int 2305843009213693951), some (.int st), some (.int fd), tn] ∧ H' = H3 ∧ 0 ≤ st ∧ st < 2305843009213693951 ∧ 0 ≤ fd) ?_ ?_ ?_
        · exact ⟨st, st, none, rfl, rfl, h0, h1, h0⟩
        · rintro i σ H4 hi ⟨st, fd, tn, rfl, rfl, h0, h1, h2⟩
          have hi' : (i : Int) < 6 := by omega
          refine ⟨.int st, rfl, .int st, rfl, st, st, rfl, rfl, .inl ⟨by omega, by omega⟩, .int (0 + (i : Int)), rfl, 0 + (i : Int), 1, rfl, rfl, 69621, _, rfl, rfl, .inl ⟨by decide, by decide⟩, .int a, rfl, a, 1, rfl, rfl, 69621 * (0 + (i : Int) + 1), a + 1, rfl, rfl, .inl ⟨by omega, by omega⟩, _, _, rfl, rfl, .int cell, rfl, _, _, rfl, rfl, .int 2305843009213693951, rfl, _, _, rfl, rfl, (by show (0 : Int) < 2305843009213693951; decide), ?_⟩
          dsimp only
          generalize hst : (st * st + 69621 * (0 + (i : Int) + 1) * (a + 1) + cell) % 2305843009213693951 = st'
          have h0' : 0 ≤ st' := by rw [← hst]; exact Int.emod_nonneg _ (by decide)
          have h1' : st' < 2305843009213693951 := by rw [← hst]; exact Int.emod_lt_of_pos _ (by decide)
          refine ⟨.int fd, rfl, .int 2305843009213693951, rfl, fd, 2305843009213693951, rfl, rfl, .inr ⟨by decide, by decide⟩, .int st', rfl, _, _, rfl, rfl, ?_⟩
          exact ⟨st', fd * 2305843009213693951 + st', _, rfl, rfl, h0', h1', by omega⟩
        · rintro σ H4 ⟨st, fd, tn, rfl, rfl, h0, h1, h2⟩
          exact ⟨.int fd, rfl, done fd h2⟩
abbrev N_law_draw : List Str := ["pen", "many", "digit"]
theorem sc_law_draw : FnScope N_law_draw ["pen", "many"] (defScope s_law_draw) := ⟨rfl, rfl, rfl, by decide +kernel, rfl, by decide +kernel, by decide +kernel⟩
theorem ok_law_draw {f f_law_fresh : Addr} {fd fd_law_fresh : FuncData} (F : Fun K "_law_draw" "_law_draw" s_law_draw f fd) (F_law_fresh : Fun K "_law_fresh" "_law_fresh" s_law_fresh f_law_fresh fd_law_fresh) (b_law_fresh : Binds K fd_law_fresh ["pen"] []) (g_law_fresh : mg "_law_fresh" = some (.ref f_law_fresh))
    (m_len : mg "len" = none) (m_range : mg "range" = none) : FnG P w K mg base CX0 2 f fd ["pen", "many"] sp_law_draw := by
  have G_law_fresh : FnG P w K mg base CX0 1 f_law_fresh fd_law_fresh ["pen"] sp_law_fresh := ok_law_fresh F_law_fresh m_len m_range
  refine okG F sc_law_draw (fun vs H Q E h => ?_) (fun cdv A outer s H vs Q E gd hr h => ?_)
  · obtain ⟨p, c, m, rfl, _⟩ := h
    rfl
  · obtain ⟨p, c, m, rfl, hP, m0, m1, q⟩ := h
    obtain ⟨ns, a, z, hI, ha, hz, hl⟩ := id hP
    refine ⟨_,
      (C8.pss_cut (ps_if (pt_cmpR op_lt (pe_ix ix_list (pv 0) pe_int (fun _ _ => rfl)) (pv 1) (nomark _)) 
        (pss_one (ps_asg (pe_callG G_law_fresh gd (hr.mono (by decide)) rfl g_law_fresh F_law_fresh.kp b_law_fresh .nil pass0 (pa_cons (pv 0) pa_nil)) (pg_sub (pv 0) pe_int set_list))) -- pen[2] = _law_fresh(pen)
         pss_nil) -- if pen[2] < many:
      (pss_cons (ps_set (i := 2) sc_law_draw.nd rfl (.inl rfl) (pe_op op_mod (pe_ix ix_list (pv 0) pe_int (fun _ _ => rfl)) (pv 1))) -- digit = pen[2] % many
      (pss_cons (ps_asg (pe_op op_fdivW (pe_ix ix_list (pv 0) pe_int (fun _ _ => rfl)) (pv 1)) (pg_sub (pv 0) pe_int set_list)) -- pen[2] = pen[2] // many
      (pss_one (ps_ret (pv 2))) -- return digit
      ))) , ?_⟩
    refine ⟨fun σ H' => σ = [some (.ref p), some (.int m), none] ∧ Keep p H H' ∧ ∃ a z : Int, PenIs H' p c ns a z ∧ 0 ≤ a ∧ 0 ≤ z, ?_, ?_⟩
    · refine ⟨.ref p, rfl, p, _, 2, .int z, rfl, rfl, .inl (.inl hI.1), rfl, .int m, rfl, z, m, rfl, rfl, _, rfl, ite2 (fun h1 => ?_) (fun h1 => ?_)⟩
      · refine ⟨.ref p, rfl, p, c, ns, a, z, rfl, hI, ha, hl, fun r H1 hr0 kp hI1 => ?_⟩
        have ne := hI1.ne
        refine ⟨.ref p, rfl, p, _, 2, 2, rfl, rfl, hI1.1, rfl, rfl, kp.at, a + 1, r, ⟨upd_same, ?_⟩, by omega, hr0⟩
        rw [upd_ne ne.symm]
        exact hI1.2
      · exact ⟨rfl, Keep.refl, a, z, hI, ha, hz⟩
    · rintro σ H1 ⟨rfl, kp, a, z, hI, ha, hz⟩
      have ne := hI.ne
      refine ⟨.ref p, rfl, p, _, 2, .int z, rfl, rfl, .inl (.inl hI.1), rfl, .int m, rfl, z, m, rfl, rfl, m0, ?_⟩
      refine ⟨.ref p, rfl, p, _, 2, .int z, rfl, rfl, .inl (.inl hI.1), rfl, .int m, rfl, z, m, rfl, rfl, div_wide m0 m1, .ref p, rfl, p, _, 2, 2, rfl, rfl, hI.1, rfl, ?_⟩
      refine ⟨.int (z % m), rfl, q _ _ (Int.emod_nonneg _ (by omega)) (Int.emod_lt_of_pos _ m0) kp.at ⟨ns, a, z / m, ⟨upd_same, ?_⟩, ha, Int.ediv_nonneg hz (by omega), hl⟩⟩
      rw [upd_ne ne.symm]
      exact hI.2
end
/-- an integer from lo to hi -/
def btw (d : PyData) (lo hi : Int) : Bool := match d with
  | .int n => decide (lo ≤ n) && decide (n ≤ hi)
  | _ => false
def isI (d : PyData) : Bool := isIntD d && !isBoolD d
def sp_is_integer : Sp := fun vs H Q _ => ∃ (p : Addr) (v : V) (d : PyData), vs = [v] ∧ LD p H v d ∧ Q (.bl (isI d)) H
def sp_is_between : Sp := fun vs H Q _ => ∃ (p : Addr) (v : V) (d : PyData) (lo hi : Int), vs = [v, .int lo, .int hi] ∧ LD p H v d ∧ Q (.bl (btw d lo hi)) H
section
variable {P : Program} {w : World} {K : PySem.W.Frag} {mg : Str → Option Value} {base : Heap}
abbrev N_is_integer : List Str := ["value"]
theorem sc_is_integer : FnScope N_is_integer ["value"] (defScope s_is_integer) := ⟨rfl, rfl, rfl, by decide +kernel, rfl, by decide +kernel, by decide +kernel⟩
theorem ok_is_integer {f : Addr} {fd : FuncData} {k : Nat} (F : Fun K "is_integer" "is_integer" s_is_integer f fd) (m_isinstance : mg "isinstance" = none) (m_int : mg "int" = none) (m_bool : mg "bool" = none) : FnG P w K mg base CX0 (k + 1) f fd ["value"] sp_is_integer := by
  refine okG F sc_is_integer (fun vs H Q E h => ?_) (fun cdv A outer s H vs Q E gd hr h => ?_)
  · obtain ⟨p, v, d, rfl, _⟩ := h
    rfl
  · obtain ⟨p, v, d, rfl, hv, q⟩ := h
    refine ⟨_, 
      (pss_one (ps_ret (pe_and (pe_callB (call_isL kit_int) (by rfl) m_isinstance (by decide +kernel) (pa_cons (pv 0) (pa_cons (pe_bltn (v := .ty "int") (by rfl) m_int (by decide +kernel) (show RelV (.ty "int") (.type "int") from rfl)) pa_nil))) (pe_one (pe_not (pe_callB (call_isL kit_bool) (by rfl) m_isinstance (by decide +kernel) (pa_cons (pv 0) (pa_cons (pe_bltn (v := .ty "bool") (by rfl) m_bool (by decide +kernel) (show RelV (.ty "bool") (.type "bool") from rfl)) pa_nil)))))))) -- return isinstance(value, int) and (not isinstance(value, bool))
       , ?_⟩
    refine ⟨v, rfl, p, v, d, rfl, hv, _, rfl, ?_⟩
    unfold isI at q
    cases hi : isIntD d with
    | false =>
      rw [hi] at q
      exact q
    | true =>
      rw [hi] at q
      exact ⟨v, rfl, p, v, d, rfl, hv, _, rfl, q⟩
abbrev N_is_between : List Str := ["value", "low", "high"]
theorem sc_is_between : FnScope N_is_between ["value", "low", "high"] (defScope s_is_between) := ⟨rfl, rfl, rfl, by decide +kernel, rfl, by decide +kernel, by decide +kernel⟩
theorem ok_is_between {f f_is_integer : Addr} {fd fd_is_integer : FuncData} (F : Fun K "is_between" "is_between" s_is_between f fd) (F_is_integer : Fun K "is_integer" "is_integer" s_is_integer f_is_integer fd_is_integer) (b_is_integer : Binds K fd_is_integer ["value"] [])
    (g_is_integer : mg "is_integer" = some (.ref f_is_integer)) (m_isinstance : mg "isinstance" = none) (m_int : mg "int" = none) (m_bool : mg "bool" = none) : FnG P w K mg base CX0 2 f fd ["value", "low", "high"] sp_is_between := by
  have G_is_integer : FnG P w K mg base CX0 1 f_is_integer fd_is_integer ["value"] sp_is_integer := ok_is_integer F_is_integer m_isinstance m_int m_bool
  refine okG F sc_is_between (fun vs H Q E h => ?_) (fun cdv A outer s H vs Q E gd hr h => ?_)
  · obtain ⟨p, v, d, lo, hi, rfl, _⟩ := h
    rfl
  · obtain ⟨p, v, d, lo, hi, rfl, hv, q⟩ := h
    refine ⟨_, 
      (pss_one (ps_ret (pe_and (pe_callG G_is_integer gd (hr.mono (by decide)) rfl g_is_integer F_is_integer.kp b_is_integer .nil pass0 (pa_cons (pv 0) pa_nil)) (pe_one (pe_chain op_le op_le (pv 1) (pv 0) (pv 2)))))) -- return is_integer(value) and low <= value <= high
       , ?_⟩
    refine ⟨v, rfl, p, v, d, rfl, hv, _, rfl, ?_⟩
    cases hv with
    | int n => 
      refine ⟨.int lo, rfl, .int n, rfl, lo, n, rfl, rfl, _, rfl, ite2 (fun h1 => ?_) (fun h1 => ?_)⟩
      · refine ⟨.int hi, rfl, n, hi, rfl, rfl, ?_⟩
        have q' : Q (.bl (decide (lo ≤ n) && decide (n ≤ hi))) H := q
        rw [h1] at q'
        exact q'
      · have q' : Q (.bl (decide (lo ≤ n) && decide (n ≤ hi))) H := q
        rw [Bool.eq_false_iff.mpr h1] at q'
        exact q'
    | _ => exact q
end
def wf (n : Int) (lv lh d : Addr) : List (Str × V) := [("words", .int n), ("_verdicts", .ref lv), ("_held", .ref lh), ("_rules", .ref d)]
/-- a rule's name: state, word, test -/
def RK (k : List Key) : Prop := ∃ (i j : Int) (t : Key), k = [Sum.inl i, Sum.inl j, t] ∧ ((∃ r, t = Sum.inl r) ∨ t = Sum.inr ("new" : Str))
abbrev Rows := List (List Key × PyData)
abbrev KvD (H : Hp) : List (List Key × V) → Rows → Prop := Paired fun p q => p.1 = q.1 ∧ TD H p.2 q.2
theorem KvD.mono {H H' : Hp} {kvs : List (List Key × V)} {R : Rows} (t : Tups H H') (h : KvD H kvs R) : KvD H' kvs R := Paired.mapP h fun _ _ z => ⟨z.1, TD.mono t _ z.2⟩
theorem KvD.keys {H : Hp} {kvs : List (List Key × V)} {R : Rows} (h : KvD H kvs R) : kvs.map (·.1) = R.map (·.1) := by
  induction h with
  | nil => rfl
  | cons a _ ih => rw [List.map_cons, List.map_cons, a.1, ih]
structure WAt (C : Addr) (H : Hp) (x lv lh d : Addr) (n : Int) (vs hs : List Int) (R : Rows) : Prop where
  ins : ∃ dx, H x = some (.ins C dx (wf n lv lh d))
  ver : H lv = some (.lst (vs.map V.int))
  hel : H lh = some (.lst (hs.map V.int))
  rul : ∃ kvs, H d = some (.dT kvs) ∧ KvD H kvs R
  ne : lv ≠ lh
  rk : ∀ k ∈ R.map (·.1), RK k
  nd : (R.map (·.1)).Nodup
  len : vs.length = hs.length ∧ vs.length ≤ 6 ∧ R.length ≤ 1000
theorem WAt.mono {C : Addr} {H H' : Hp} {x lv lh d : Addr} {n : Int} {vs hs : List Int} {R : Rows} (h : WAt C H x lv lh d n vs hs R) (s : Same H H') : WAt C H' x lv lh d n vs hs R := by
  obtain ⟨⟨dx, a⟩, b, c, ⟨kvs, e, f⟩, g, i, j, l⟩ := h
  exact ⟨⟨dx, s _ _ a⟩, s _ _ b, s _ _ c, ⟨kvs, s _ _ e, f.mono (Tups.same s)⟩, g, i, j, l⟩
theorem btw_int {d : PyData} {lo hi : Int} (h : btw d lo hi = true) : ∃ n, d = .int n ∧ lo ≤ n ∧ n ≤ hi := by
  cases d with
  | int n =>
    have h' : (decide (lo ≤ n) && decide (n ≤ hi)) = true := h
    simp only [Bool.and_eq_true, decide_eq_true_eq] at h'
    exact ⟨n, rfl, h'.1, h'.2⟩
  | _ => cases h
abbrev w1 (n : Int) : List (Str × V) := [("words", .int n)]
abbrev w2 (n : Int) (lv : Addr) : List (Str × V) := [("words", .int n), ("_verdicts", .ref lv)]
abbrev w3 (n : Int) (lv lh : Addr) : List (Str × V) := [("words", .int n), ("_verdicts", .ref lv), ("_held", .ref lh)]
theorem wf2 (n : Int) (lv : Addr) : putF "_verdicts" (.ref lv) (w1 n) = (w2 n lv) := by
  unfold putF
  rw [if_neg (by decide)]
  rfl
theorem wf3 (n : Int) (lv lh : Addr) : putF "_held" (.ref lh) (w2 n lv) = (w3 n lv lh) := by
  unfold putF
  rw [if_neg (by decide)]
  unfold putF
  rw [if_neg (by decide)]
  rfl
theorem wf4 (n : Int) (lv lh d : Addr) : putF "_rules" (.ref d) (w3 n lv lh) = wf n lv lh d := by
  unfold putF
  rw [if_neg (by decide)]
  unfold putF
  rw [if_neg (by decide)]
  unfold putF
  rw [if_neg (by decide)]
  rfl
def sp_W_init (C CL : Addr) : Sp := fun vs H Q E => ∃ (p x dx : Addr) (v : V) (d : PyData), vs = [.ref x, v] ∧ H x = some (.ins C dx []) ∧ LD p H v d ∧
  (∀ n, d = .int n → 1 ≤ n → n ≤ 3 → ∀ H' lv lh dd, But x H H' → H lv = none → H lh = none → H dd = none → WAt C H' x lv lh dd n [0] [0] [] → Q .non H') ∧
  (btw d 1 3 = false → ∀ e, H e = none → E (.ref CL) (some e) (upd H e (.xd [(("limit" : Str), .int 3)])))
/-- the fields' names are no names of the class -/
structure WCls (K : PySem.W.Frag) (C : Addr) : Prop where
  cl : Cls K C
  n1 : NoAttr K C "words"
  n2 : NoAttr K C "_verdicts"
  n3 : NoAttr K C "_held"
  n4 : NoAttr K C "_rules"
section
variable {P : Program} {w : World} {K : PySem.W.Frag} {mg : Str → Option Value} {base : Heap}
abbrev N_Watcher_init : List Str := ["self", "words"]
theorem sc_Watcher_init : FnScope N_Watcher_init ["self", "words"] (defScope s_Watcher_init) := ⟨rfl, rfl, rfl, by decide +kernel, rfl, by decide +kernel, by decide +kernel⟩
theorem ok_Watcher_init {f f_is_between C CL iL : Addr} {fd fd_is_between : FuncData} {t3 : Tok} (F : Fun K "__init__" "Watcher.__init__" s_Watcher_init f fd) (F_is_between : Fun K "is_between" "is_between" s_is_between f_is_between fd_is_between) (b_is_between : Binds K fd_is_between ["value", "low", "high"] [])
    (g_is_between : mg "is_between" = some (.ref f_is_between)) (G_is_between : FnG P w K mg base CX0 2 f_is_between fd_is_between ["value", "low", "high"] sp_is_between) (T_LimitExceeded : L2.ErrOk OwnE.bOE "LimitExceeded" "limit" "LimitExceeded.__init__" K mg CL iL) (g_MOST_WORDS : mg "MOST_WORDS" = some (.int 3 t3)) (W : WCls K C) :
    FnG P w K mg base (L2.CX P w) 3 f fd ["self", "words"] (sp_W_init C CL) := by
  refine okGX F sc_Watcher_init (fun vs H Q E h => ?_) (fun cdv A outer s H vs Q E gd hr h => ?_)
  · obtain ⟨p, x, dx, v, d, rfl, _⟩ := h
    rfl
  · obtain ⟨p, x, dx, v, d, rfl, hx, hv, q1, q2⟩ := h
    have hr1 : Room 1 _ := hr.mono (by decide)
    refine ⟨_, 
      (pss_cons (ps_if (pt_not (pt_val (pe_callG G_is_between gd (hr.mono (by decide)) rfl g_is_between F_is_between.kp b_is_between .nil pass0 (pa_cons (pv 1) (pa_cons pe_int (pa_cons (pe_glob (v := .int 3) rfl g_MOST_WORDS ⟨_, rfl⟩) pa_nil)))))) 
        (pss_one (L2.ps_raiseE (W := fun cls d _ H => E cls d H) rfl T_LimitExceeded hr1 (takes_of rfl rfl rfl rfl) (by exact (pa_cons (pe_glob (v := .int 3) rfl g_MOST_WORDS ⟨_, rfl⟩) pa_nil)))) -- raise LimitExceeded(MOST_WORDS)
         pss_nil) -- if not is_between(words, 1, MOST_WORDS):
      (pss_cons (ps_fld (pv 0) (pv 1) rfl) -- self.words = words
      (pss_cons (ps_fld (pv 0) (pe_lst (pa_cons pe_int pa_nil)) rfl) -- self._verdicts = [0]
      (pss_cons (ps_fld (pv 0) (pe_lst (pa_cons pe_int pa_nil)) rfl) -- self._held = [0]
      (pss_one (ps_fld (pv 0) pe_dnewT rfl)) -- self._rules = {}
      )))) , ?_⟩
    refine ⟨v, rfl, p, v, d, 1, 3, rfl, hv, _, rfl, ?_⟩
    cases hb : btw d 1 3 with
    | false => exact ⟨.int 3, rfl, fun e he => q2 hb e he⟩
    | true =>
      obtain ⟨n, rfl, n0, n1⟩ := btw_int hb
      cases hv
      -- self.words = words
      refine ⟨.int n, rfl, .ref x, rfl, x, C, dx, [], rfl, hx, W.cl, W.n1, (by show 0 < 1000; decide), ?_⟩
      rw [show putF "words" (.int n) [] = (w1 n) from rfl]
      have b1 : But x H (upd H x (.ins C dx (w1 n))) := fun b o e ne => by rw [upd_ne ne]; exact e
      have hx1 : upd H x (.ins C dx (w1 n)) x = some (.ins C dx (w1 n)) := upd_same
      have nn : ∀ a, upd H x (.ins C dx (w1 n)) a = none → H a = none ∧ a ≠ x := fun a e => ⟨(upd_none e).2, (upd_none e).1⟩
      generalize upd H x (.ins C dx (w1 n)) = H1 at b1 hx1 nn
      -- self._verdicts = [0]
      refine ⟨by show 1 ≤ sizeLine; decide, fun lv nv => ?_⟩
      have xv : x ≠ lv := ne_of_none hx1 nv
      have hx2 : upd H1 lv (.lst [.int 0]) x = some (.ins C dx (w1 n)) := by rw [upd_ne xv]; exact hx1
      refine ⟨.ref x, rfl, x, C, dx, _, rfl, hx2, W.cl, W.n2, (by show 1 < 1000; decide), ?_⟩
      rw [wf2]
      have hv3 : upd (upd H1 lv (.lst [.int 0])) x (.ins C dx (w2 n lv)) lv = some (.lst [.int 0]) := by rw [upd_ne xv.symm]; exact upd_same
      have hx3 : upd (upd H1 lv (.lst [.int 0])) x (.ins C dx (w2 n lv)) x = some (.ins C dx (w2 n lv)) := upd_same
      have b3 : But x H (upd (upd H1 lv (.lst [.int 0])) x (.ins C dx (w2 n lv))) := fun b o e ne => by
        rw [upd_ne ne, upd_ne (ne_of_none (b1 b o e ne) nv)]
        exact b1 b o e ne
      have nv0 := (nn lv nv).1
      have nn3 : ∀ a, upd (upd H1 lv (.lst [.int 0])) x (.ins C dx (w2 n lv)) a = none → H a = none := fun a e => (nn a (upd_none (upd_none e).2).2).1
      generalize upd (upd H1 lv (.lst [.int 0])) x (.ins C dx (w2 n lv)) = H3 at hv3 hx3 b3 nn3
      -- self._held = [0]
      refine ⟨by show 1 ≤ sizeLine; decide, fun lh nh => ?_⟩
      have xh : x ≠ lh := ne_of_none hx3 nh
      have vh : lv ≠ lh := ne_of_none hv3 nh
      have hx4 : upd H3 lh (.lst [.int 0]) x = some (.ins C dx (w2 n lv)) := by rw [upd_ne xh]; exact hx3
      refine ⟨.ref x, rfl, x, C, dx, _, rfl, hx4, W.cl, W.n3, (by show 2 < 1000; decide), ?_⟩
      rw [wf3]
      have xv3 : x ≠ lv := ne_of hx3 hv3 (fun z => nomatch z)
      have hv5 : upd (upd H3 lh (.lst [.int 0])) x (.ins C dx (w3 n lv lh)) lv = some (.lst [.int 0]) := by rw [upd_ne xv3.symm, upd_ne vh]; exact hv3
      have hh5 : upd (upd H3 lh (.lst [.int 0])) x (.ins C dx (w3 n lv lh)) lh = some (.lst [.int 0]) := by rw [upd_ne xh.symm]; exact upd_same
      have hx5 : upd (upd H3 lh (.lst [.int 0])) x (.ins C dx (w3 n lv lh)) x = some (.ins C dx (w3 n lv lh)) := upd_same
      have b5 : But x H (upd (upd H3 lh (.lst [.int 0])) x (.ins C dx (w3 n lv lh))) := fun b o e ne => by
        rw [upd_ne ne, upd_ne (ne_of_none (b3 b o e ne) nh)]
        exact b3 b o e ne
      have nh0 := nn3 lh nh
      have nn5 : ∀ a, upd (upd H3 lh (.lst [.int 0])) x (.ins C dx (w3 n lv lh)) a = none → H a = none := fun a e => nn3 a (upd_none (upd_none e).2).2
      generalize upd (upd H3 lh (.lst [.int 0])) x (.ins C dx (w3 n lv lh)) = H5 at hv5 hh5 hx5 b5 nn5
      -- self._rules = {}
      intro dd ndd
      have xd : x ≠ dd := ne_of_none hx5 ndd
      have hx6 : upd H5 dd (.dT []) x = some (.ins C dx (w3 n lv lh)) := by rw [upd_ne xd]; exact hx5
      refine ⟨.ref x, rfl, x, C, dx, _, rfl, hx6, W.cl, W.n4, (by show 3 < 1000; decide), ?_⟩
      rw [wf4]
      have xv5 : x ≠ lv := ne_of hx5 hv5 (fun z => nomatch z)
      have xh5 : x ≠ lh := ne_of hx5 hh5 (fun z => nomatch z)
      refine q1 n rfl n0 n1 _ lv lh dd (fun b o e ne => ?_) nv0 nh0 (nn5 dd ndd) { ins := ⟨dx, upd_same⟩, ver := ?_, hel := ?_, rul := ⟨[], ?_, .nil⟩, ne := vh, rk := (fun _ z => by cases z), nd := List.nodup_nil, len := ⟨rfl, by decide, by decide⟩ }
      · rw [upd_ne ne, upd_ne (ne_of_none (b5 b o e ne) ndd)]
        exact b5 b o e ne
      · rw [upd_ne xv5.symm, upd_ne (ne_of_none hv5 ndd)]
        exact hv5
      · rw [upd_ne xh5.symm, upd_ne (ne_of_none hh5 ndd)]
        exact hh5
      · rw [upd_ne xd.symm]
        exact upd_same
end
def kD : Key → PyData
  | .inl n => .int n
  | .inr s => .str s
theorem TDs.keys {H : Hp} : ∀ {ks : List Key}, TDs H (ks.map kV) (ks.map kD)
  | [] => .nil
  | .inl n :: r => .cons (.int n) TDs.keys
  | .inr s :: r => .cons (.str s) TDs.keys
abbrev PRule := List Key × (Int × List Key)
def ruleD (r : Int × List Key) : PyData := .tuple [.int r.1, .tuple (r.2.map kD)]
def rowsOf (R : List PRule) : Rows := R.map fun p => (p.1, ruleD p.2)
theorem rowsOf_keys (R : List PRule) : (rowsOf R).map (·.1) = R.map (·.1) := by
  unfold rowsOf
  rw [List.map_map]
  rfl
theorem rowsOf_snoc (R : List PRule) (r : PRule) : rowsOf (R ++ [r]) = rowsOf R ++ [(r.1, ruleD r.2)] := by
  unfold rowsOf
  rw [List.map_append]
  rfl
def heldAt (ks : List (Int × Int)) (i : Int) : Int := ((ks[i.toNat]?).getD (0, 0)).2
def TestOk (h : Int) (t : Key) : Prop := (∃ n : Int, t = Sum.inl n ∧ 0 ≤ n ∧ n < h) ∨ t = Sum.inr ("new" : Str)
def SrcAt (h : Int) (t : Key) (k : Key) : Prop := (∃ n : Int, k = Sum.inl n ∧ 0 ≤ n ∧ n < h) ∨ (k = Sum.inr ("value" : Str) ∧ t = Sum.inr ("new" : Str))
structure SrcOk (h : Int) (t : Key) (m : Int) (ks : List Key) : Prop where
  len : (ks.length : Int) = m
  nd : ks.Nodup
  all : ∀ k ∈ ks, SrcAt h t k
def RuleOk (w : Int) (kinds : List (Int × Int)) (r : PRule) : Prop := ∃ (i j : Int) (t : Key), r.1 = [Sum.inl i, Sum.inl j, t] ∧ 0 ≤ i ∧ i < kinds.length ∧ 0 ≤ j ∧ j < w ∧ TestOk (heldAt kinds i) t ∧ 0 ≤ r.2.1 ∧ r.2.1 < kinds.length ∧ SrcOk (heldAt kinds i) t (heldAt kinds r.2.1) r.2.2
structure KindsOk (kinds : List (Int × Int)) : Prop where
  len : 1 ≤ kinds.length ∧ kinds.length ≤ 6
  zero : heldAt kinds 0 = 0
  all : ∀ k ∈ kinds, 0 ≤ k.1 ∧ k.1 ≤ 3 ∧ 0 ≤ k.2 ∧ k.2 ≤ 3
structure Plan where
  words : Int
  kinds : List (Int × Int)
  rules : List PRule
structure PlanOk (P : Plan) : Prop where
  w : 1 ≤ P.words ∧ P.words ≤ 3
  k : KindsOk P.kinds
  r : ∀ r ∈ P.rules, RuleOk P.words P.kinds r
  nd : (P.rules.map (·.1)).Nodup
  len : P.rules.length ≤ 100
structure PlanAt (H : Hp) (l kl rl : Addr) (P : Plan) : Prop where
  at_ : H l = some (.lst [.int P.words, .ref kl, .ref rl])
  kin : ∃ vs, H kl = some (.lst vs) ∧ TDs H vs (P.kinds.map msgD)
  rul : ∃ kvs, H rl = some (.dT kvs) ∧ KvD H kvs (rowsOf P.rules)
theorem PlanAt.mono {H H' : Hp} {l kl rl : Addr} {P : Plan} (h : PlanAt H l kl rl P) (s : Same H H') : PlanAt H' l kl rl P := by
  obtain ⟨a, ⟨vs, b, c⟩, ⟨kvs, d, e⟩⟩ := h
  exact ⟨s _ _ a, ⟨vs, s _ _ b, c.mono (Tups.same s)⟩, ⟨kvs, s _ _ d, e.mono (Tups.same s)⟩⟩
theorem Keep.put {p a : Addr} {H H1 : Hp} {o : HO} (k : Keep p H H1) (n : H a = none) : Keep p H (upd H1 a o) := fun b u e nb => by
  rw [upd_ne (ne_of_none e n)]
  exact k b u e nb
theorem Keep.free {p a : Addr} {H H1 : Hp} (k : Keep p H H1) (hp : H1 p ≠ none) (n : H1 a = none) : H a = none := by
  cases e : H a with
  | none => rfl
  | some o =>
    by_cases q : a = p
    · subst q
      exact absurd n hp
    · rw [k a o e q] at n
      cases n
theorem Pen.some' {H : Hp} {p c : Addr} (h : Pen H p c) : H p ≠ none := by
  obtain ⟨l, e⟩ := h.at
  rw [e]
  exact fun z => nomatch z
/-- the plan stands, but for what the pen does -/
theorem PlanAt.but {H H' : Hp} {p c l kl rl : Addr} {P : Plan} (h : PlanAt H l kl rl P) (hP : Pen H p c) (b : Keep p H H') (n1 : l ≠ p) (n2 : kl ≠ p) : PlanAt H' l kl rl P := by
  obtain ⟨u, hp⟩ := hP.at
  obtain ⟨a, ⟨vs, e, f⟩, ⟨kvs, g, i⟩⟩ := h
  exact ⟨b _ _ a n1, ⟨vs, b _ _ e n2, f.mono (hP.tups b)⟩, ⟨kvs, b _ _ g (ne_of g hp (fun z => nomatch z)), i.mono (hP.tups b)⟩⟩
theorem ixN_at {n j : Nat} (hj : j < n) : ixN n (j : Int) = some j := by
  unfold ixN
  rw [if_pos (by omega), if_pos (by omega)]
  simp
theorem seqIx {n k : Nat} (h : k < n) : seqIndex? (k : Int) n = some k := (ixN_seq (ixN_at h)).1
theorem erase_perm {α : Type} : ∀ (l : List α) (k : Nat) (h : k < l.length), (l[k] :: l.eraseIdx k).Perm l
  | x :: r, 0, _ => List.Perm.refl _
  | x :: r, k + 1, h => (List.Perm.swap x (r[k]'(Nat.lt_of_succ_lt_succ h)) _).trans (List.Perm.cons x (erase_perm r k (Nat.lt_of_succ_lt_succ h)))
theorem erase_map {α β : Type} (f : α → β) : ∀ (l : List α) (k : Nat), (l.map f).eraseIdx k = (l.eraseIdx k).map f
  | [], k => by cases k <;> rfl
  | x :: r, 0 => rfl
  | x :: r, k + 1 => by simp only [List.map_cons, List.eraseIdx_cons_succ, erase_map f r k]
def sp_law_some_sources : Sp := fun vs H Q _ => ∃ (p c : Addr) (h m : Int) (t : Key), vs = [.ref p, .int h, kV t, .int m] ∧ Pen H p c ∧ 0 ≤ h ∧ h ≤ 3 ∧ 0 ≤ m ∧ m ≤ 3 ∧ TestOk h t ∧
  ∀ v H', Keep p H H' → Pen H' p c → (v = .non ∨ ∃ a ks, v = .ref a ∧ H' a = some (.tup (ks.map kV)) ∧ SrcOk h t m ks) → Q v H'
def pick (rs fs : List Key) (h : Int) (t : Key) : Prop := (rs ++ fs).Nodup ∧ ∀ k ∈ rs ++ fs, SrcAt h t k
theorem pick_step {rs fs : List Key} {h : Int} {t : Key} (hp : pick rs fs h t) {k : Nat} (hk : k < rs.length) : pick (rs.eraseIdx k) (fs ++ [rs[k]]) h t := by
  have e : (rs.eraseIdx k ++ (fs ++ [rs[k]])).Perm (rs ++ fs) := by
    have e1 : (rs.eraseIdx k ++ (fs ++ [rs[k]])).Perm ((fs ++ [rs[k]]) ++ rs.eraseIdx k) := List.perm_append_comm
    have e2 : ((fs ++ [rs[k]]) ++ rs.eraseIdx k) = fs ++ (rs[k] :: rs.eraseIdx k) := by rw [List.append_assoc]; rfl
    have e3 : (rs[k] :: rs.eraseIdx k).Perm rs := erase_perm rs k hk
    rw [e2] at e1
    exact e1.trans ((List.Perm.append_left fs e3).trans List.perm_append_comm)
  exact ⟨e.nodup_iff.mpr hp.1, fun x hx => hp.2 x (e.mem_iff.mp hx)⟩
theorem rgV_keys {h : Int} : rgV 0 h = ((List.range h.toNat).map fun i : Nat => (Sum.inl (i : Int) : Key)).map kV := by
  unfold rgV
  rw [List.map_map]
  simp only [Int.sub_zero]
  refine List.map_congr_left fun i _ => ?_
  show V.int (0 + (i : Int)) = V.int i
  rw [Int.zero_add]
theorem pick_rg {h : Int} {t : Key} (h0 : 0 ≤ h) : pick ((List.range h.toNat).map fun i : Nat => (Sum.inl (i : Int) : Key)) [] h t := by
  refine ⟨?_, fun k hk => ?_⟩
  · rw [List.append_nil]
    refine List.Pairwise.map _ (fun a b hab e => ?_) List.nodup_range
    have := Sum.inl.inj e
    omega
  · rw [List.append_nil] at hk
    obtain ⟨i, hi, rfl⟩ := List.mem_map.mp hk
    have := List.mem_range.mp hi
    exact .inl ⟨i, rfl, by omega, by omega⟩
theorem map_set_erase {rs : List Key} (k : Nat) : (rs.map kV).eraseIdx k = (rs.eraseIdx k).map kV := erase_map _ _ _
section
variable {P : Program} {w : World} {K : PySem.W.Frag} {mg : Str → Option Value} {base : Heap}
theorem G_law_draw (T : Tx K mg) : FnG P w K mg base CX0 2 T.law_draw.f T.law_draw.fd ["pen", "many"] sp_law_draw := ok_law_draw T.law_draw.F T.law_fresh.F T.law_fresh.b T.law_fresh.g T.m_len T.m_range
theorem G_law_pen (T : Tx K mg) : FnG P w K mg base CX0 1 T.law_pen.f T.law_pen.fd ["script"] (sp_law_pen K) := ok_law_pen T.law_pen.F T.m_list
abbrev N_law_some_sources : List Str := ["pen", "held", "test", "many", "rest", "found", "lap"]
theorem sc_law_some_sources : FnScope N_law_some_sources ["pen", "held", "test", "many"] (defScope s_law_some_sources) := ⟨rfl, rfl, rfl, by decide +kernel, rfl, by decide +kernel, by decide +kernel⟩
theorem G_law_some_sources (T : Tx K mg) : FnG P w K mg base CX0 3 T.law_some_sources.f T.law_some_sources.fd ["pen", "held", "test", "many"] sp_law_some_sources := by
  refine okG T.law_some_sources.F sc_law_some_sources (fun vs H Q E h => ?_) (fun cdv A outer s H vs Q E gd hr h => ?_)
  · obtain ⟨p, c, h', m, t, rfl, _⟩ := h
    rfl
  · obtain ⟨p, c, h', m, t, rfl, hP, h0, h3, m0, m3, ht, q⟩ := h
    refine ⟨_, 
      (pss_cons (ps_par (i := 4) (j := 5) rfl sc_law_some_sources.nd rfl rfl (by decide) rfl rfl (pa_cons (pe_listRg rfl (by rfl) T.m_list (prg_1 (by rfl) T.m_range (pv 1))) (pa_cons (pe_lst pa_nil) pa_nil)) rfl) -- rest, found = (list(range(held)), [])
      (C8.pss_cut (ps_if (pt_cmpR op_eq (pv 2) pe_str (nomark _)) 
        (pss_one (ps_expr (pe_bm PySem.F.plainAttrs_list PySem.F.slot_list_append PySem.F.type_list_append mt_append (pv 4) (pa_cons pe_str pa_nil)))) -- rest.append('value')
         pss_nil) -- if test == 'new':
      (pss_cons (ps_if (pt_cmpR op_gt (pv 3) (pe_callB call_len_seq (by rfl) T.m_len PySem.boot_len (pa_cons (pv 4) pa_nil)) (nomark _)) 
        (pss_one (ps_ret pe_non)) -- return None
         pss_nil) -- if many > len(rest):
      (pss_cons (ps_for PassesOwn.never rfl (pi_range1 rfl T.m_range (pa_cons (pv 3) pa_nil)) (pg_name (i := 6) sc_law_some_sources.nd rfl (.inl rfl)) 
        (pss_one (ps_expr (pe_bm PySem.F.plainAttrs_list PySem.F.slot_list_append PySem.F.type_list_append mt_append (pv 5) (pa_cons (pe_bm PySem.F.plainAttrs_list PySem.F.slot_list_pop PySem.F.type_list_pop mt_popAt (pv 4) (pa_cons (pe_callG (G_law_draw T) gd (hr.mono (by decide)) rfl T.law_draw.g T.law_draw.F.kp T.law_draw.b .nil pass0 (pa_cons (pv 0) (pa_cons (pe_callB call_len_seq (by rfl) T.m_len PySem.boot_len (pa_cons (pv 4) pa_nil)) pa_nil))) pa_nil)) pa_nil)))) -- found.append(rest.pop(_law_draw(pen, len(rest))))
        ) -- for lap in range(many):
      (pss_one (ps_ret (pe_callTy call_tuple_of (by rfl) T.m_tuple (by decide +kernel) (pa_cons (pv 5) pa_nil)))) -- return tuple(found)
      )))) , ?_⟩
    refine ⟨.int h', rfl, h', rfl, RgOk.of_le (by decide) (by omega) (by decide) h0, fun l nl => ⟨by show 0 ≤ sizeLine; decide, fun f nf => ⟨_, _, rfl, ?_⟩⟩⟩
    rw [rgV_keys] at nf ⊢
    have hl0 : (upd H l (.lst (((List.range h'.toNat).map fun i : Nat => (Sum.inl (i : Int) : Key)).map kV))) l = some (.lst (((List.range h'.toNat).map fun i : Nat => (Sum.inl (i : Int) : Key)).map kV)) := upd_same
    have nlp := hP.free nl
    have hP1 := hP.mono (same_new nl (o := .lst (((List.range h'.toNat).map fun i : Nat => (Sum.inl (i : Int) : Key)).map kV)))
    have k1 : Keep p H (upd H l (.lst (((List.range h'.toNat).map fun i : Nat => (Sum.inl (i : Int) : Key)).map kV))) := Keep.new nl
    have pk := pick_rg (h := h') (t := t) h0
    have lk : ((List.range h'.toNat).map fun i : Nat => (Sum.inl (i : Int) : Key)).length = h'.toNat := by rw [List.length_map, List.length_range]
    have ai : ∀ k ∈ ((List.range h'.toNat).map fun i : Nat => (Sum.inl (i : Int) : Key)), k ≠ Sum.inr ("value" : Str) := fun k hk e => by
      obtain ⟨i, _, rfl⟩ := List.mem_map.mp hk
      cases e
    generalize ((List.range h'.toNat).map fun i : Nat => (Sum.inl (i : Int) : Key)) = r0 at *
    generalize upd H l (.lst (r0.map kV)) = H1 at *
    have nfp := hP1.free nf
    have nfl := ne_of_none hl0 nf
    have hP2 := hP1.mono (same_new nf (o := .lst []))
    have nfH : H f = none := k1.free hP1.some' nf
    have k2 : Keep p H (upd H1 f (.lst [])) := k1.put nfH
    have hl2 : (upd H1 f (.lst [])) l = some (.lst (r0.map kV)) := by rw [upd_ne nfl]; exact hl0
    have hf2 : (upd H1 f (.lst [])) f = some (.lst []) := upd_same
    generalize upd H1 f (.lst []) = H2 at *
    refine ⟨fun σ H' => ∃ rs : List Key, σ = [some (.ref p), some (.int h'), some (kV t), some (.int m), some (.ref l), some (.ref f), none] ∧ Keep p H H' ∧ Pen H' p c ∧ H' l = some (.lst (rs.map kV)) ∧ H' f = some (.lst []) ∧ pick rs [] h' t ∧ rs.length ≤ 4, ?_, ?_⟩
    · rcases ht with ⟨n, rfl, n0, n1⟩ | rfl
      · refine ⟨.int n, rfl, rfl, _, rfl, ?_⟩
        exact ⟨r0, rfl, k2, hP2, hl2, hf2, pk, by omega⟩
      · refine ⟨.str "new", rfl, rfl, _, rfl, ?_⟩
        refine ⟨.ref l, rfl, .inl ⟨rfl, _, SqL.of hl2⟩, l, _, .str "value", rfl, rfl, hl2, by rw [List.length_map, lk]; exact small1000 (by omega), ?_⟩
        refine ⟨r0 ++ [Sum.inr ("value" : Str)], rfl, k2.put nl, hP2.put nlp.1.symm nlp.2.symm, ?_, ?_, ⟨?_, ?_⟩, ?_⟩
        · rw [upd_same, List.map_append]
          rfl
        · rw [upd_ne nfl.symm]
          exact hf2
        · rw [List.append_nil]
          have nd := pk.1
          rw [List.append_nil] at nd
          refine List.nodup_append.mpr ⟨nd, by simp, fun a ha b hb => ?_⟩
          rw [List.mem_singleton] at hb
          subst hb
          exact ai a ha
        · intro k hk
          rw [List.append_nil] at hk
          rcases List.mem_append.mp hk with z | z
          · exact pk.2 k (List.mem_append_left _ z)
          · rw [List.mem_singleton] at z
            exact .inr ⟨z, rfl⟩
        · rw [List.length_append, lk]
          show h'.toNat + 1 ≤ 4
          omega
    · rintro σ H3 ⟨rs, rfl, k3, hP3, hl3, hf3, pk, lr⟩
      refine ⟨.int m, rfl, .ref l, rfl, l, _, rfl, .inl (SqL.of hl3), _, _, rfl, rfl, _, rfl, ite2 (fun hb => ?_) (fun hb => ?_)⟩
      · exact q .non H3 k3 hP3 (.inl rfl)
      · have hm : m ≤ rs.length := by
          have z : ¬ (m > ((List.map kV rs).length : Int)) := fun e => hb (decide_eq_true e)
          rw [List.length_map] at z
          omega
        obtain ⟨m', rfl⟩ : ∃ m' : Nat, m = m' := ⟨m.toNat, by omega⟩
        refine ⟨.int (m' : Int), rfl, (m' : Int), rfl, by omega, by omega, ?_⟩
        rw [Int.toNat_natCast]
        refine for_range (n := m') (fun i σ H' => ∃ (y : Option V) (rs fs : List Key), σ = [some (.ref p), some (.int h'), some (kV t), some (.int m'), some (.ref l), some (.ref f), y] ∧ Keep p H H' ∧ Pen H' p c ∧ H' l = some (.lst (rs.map kV)) ∧ H' f = some (.lst (fs.map kV)) ∧ pick rs fs h' t ∧ fs.length = i ∧ m' ≤ rs.length + i ∧ rs.length ≤ 4) ?_ ?_ ?_
        · exact ⟨none, rs, [], rfl, k3, hP3, hl3, hf3, pk, rfl, by omega, lr⟩
        · rintro i σ H4 hi ⟨y, rs, fs, rfl, k4, hP4, hl4, hf4, pk, lf, lm, lr⟩
          refine ⟨.ref f, rfl, .inl ⟨rfl, _, SqL.of hf4⟩, .ref l, rfl, .inl ⟨rfl, _, SqL.of hl4⟩, .ref p, rfl, .ref l, rfl, l, _, rfl, .inl (SqL.of hl4), p, c, _, rfl, hP4, ?_, ?_, fun d H5 d0 d1 k5 hP5 => ?_⟩
          · rw [List.length_map]; omega
          · rw [List.length_map]; omega
          rw [List.length_map] at d1
          obtain ⟨d', rfl⟩ : ∃ d' : Nat, d = d' := ⟨d.toNat, by omega⟩
          have hd : d' < rs.length := by omega
          have hl5 := k5 _ _ hl4 nlp.1.symm
          have hf5 := k5 _ _ hf4 nfp.1.symm
          refine ⟨l, rs.map kV, d', d', kV rs[d'], rfl, rfl, hl5, by omega, by omega, seqIx (by rw [List.length_map]; exact hd), by rw [List.getElem?_map, List.getElem?_eq_getElem hd]; rfl, ?_⟩
          refine ⟨f, fs.map kV, kV rs[d'], rfl, rfl, by rw [upd_ne nfl.symm]; exact hf5, by rw [List.length_map]; exact small1000 (by omega), ?_⟩
          refine ⟨_, rs.eraseIdx d', fs ++ [rs[d']], rfl, ((k4.trans k5).put nl).put nfH, (hP5.put nlp.1.symm nlp.2.symm).put nfp.1.symm nfp.2.symm, ?_, ?_, pick_step pk hd, ?_, ?_, ?_⟩
          · rw [upd_ne nfl, upd_same, map_set_erase]
          · rw [upd_same, List.map_append]
            rfl
          · rw [List.length_append, lf]
            rfl
          · rw [List.length_eraseIdx_of_lt hd]
            omega
          · rw [List.length_eraseIdx_of_lt hd]
            omega
        · rintro σ H4 ⟨y, rs, fs, rfl, k4, hP4, hl4, hf4, pk, lf, lm, lr⟩
          refine ⟨.ref f, rfl, f, _, rfl, .inl ⟨SqL.of hf4, fun a na => ?_⟩⟩
          refine q (.ref a) _ (k4.put (k4.free hP4.some' na)) (hP4.mono (same_new na)) (.inr ⟨a, fs, rfl, upd_same, ?_⟩)
          exact ⟨by omega, (List.nodup_append.mp pk.1).2.1, fun k hk => pk.2 k (List.mem_append_right _ hk)⟩
end
def putP (R : List PRule) (k : List Key) (v : Int × List Key) : List PRule :=
  if (R.any fun r => decide (r.1 = k)) = true then R.map (fun r => if r.1 = k then (r.1, v) else r) else R ++ [(k, v)]
theorem putP_keys (R : List PRule) (k : List Key) (v : Int × List Key) : (k ∈ R.map (·.1) → (putP R k v).map (·.1) = R.map (·.1)) ∧ (k ∉ R.map (·.1) → (putP R k v).map (·.1) = R.map (·.1) ++ [k]) := by
  unfold putP
  by_cases h : (R.any fun r => decide (r.1 = k)) = true
  · have hm : k ∈ R.map (·.1) := by
      obtain ⟨r, hr, e⟩ := List.any_eq_true.mp h
      exact List.mem_map.mpr ⟨r, hr, of_decide_eq_true e⟩
    refine ⟨fun _ => ?_, fun z => absurd hm z⟩
    rw [if_pos h, List.map_map]
    refine List.map_congr_left fun r _ => ?_
    show (if r.1 = k then (r.1, v) else r).1 = r.1
    split <;> rfl
  · have hm : k ∉ R.map (·.1) := fun z => h (by
      obtain ⟨r, hr, e⟩ := List.mem_map.mp z
      exact List.any_eq_true.mpr ⟨r, hr, decide_eq_true e⟩)
    refine ⟨fun z => absurd z hm, fun _ => ?_⟩
    rw [if_neg h, List.map_append]
    rfl
theorem putP_nodup {R : List PRule} {k : List Key} {v : Int × List Key} (h : (R.map (·.1)).Nodup) : ((putP R k v).map (·.1)).Nodup := by
  by_cases hm : k ∈ R.map (·.1)
  · rw [(putP_keys R k v).1 hm]
    exact h
  · rw [(putP_keys R k v).2 hm]
    refine List.nodup_append.mpr ⟨h, by simp, fun a ha b hb => ?_⟩
    rw [List.mem_singleton] at hb
    subst hb
    rintro rfl
    exact hm ha
theorem putP_len (R : List PRule) (k : List Key) (v : Int × List Key) : (putP R k v).length ≤ R.length + 1 := by
  unfold putP
  split
  · rw [List.length_map]
    exact Nat.le_succ _
  · rw [List.length_append]
    exact Nat.le_refl _
theorem putP_mem {R : List PRule} {k : List Key} {v : Int × List Key} {r : PRule} (h : r ∈ putP R k v) : r ∈ R ∨ r = (k, v) := by
  unfold putP at h
  split at h
  · obtain ⟨s, hs, rfl⟩ := List.mem_map.mp h
    by_cases e : s.1 = k
    · rw [if_pos e]
      exact .inr (by rw [e])
    · rw [if_neg e]
      exact .inl hs
  · rcases List.mem_append.mp h with z | z
    · exact .inl z
    · exact .inr (List.mem_singleton.mp z)
theorem kvd_map {H : Hp} {k : List Key} {x : V} {v : Int × List Key} (hx : TD H x (ruleD v)) : ∀ {R : List PRule} {kvs : List (List Key × V)}, KvD H kvs (rowsOf R) →
    KvD H (kvs.map fun kv => if kv.1 = k then (kv.1, x) else kv) (rowsOf (R.map fun r => if r.1 = k then (r.1, v) else r))
  | [], _, h => by
    cases h
    exact .nil
  | r :: R, _, h => by
    cases h with
    | @cons a _ l1 _ ab t =>
      have e1 : a.1 = r.1 := ab.1
      refine .cons ?_ (kvd_map hx (R := R) t)
      show (if a.1 = k then (a.1, x) else a).1 = (if r.1 = k then (r.1, v) else r).1 ∧ TD H (if a.1 = k then (a.1, x) else a).2 (ruleD (if r.1 = k then (r.1, v) else r).2)
      by_cases e : r.1 = k
      · rw [if_pos (e1.trans e), if_pos e]
        exact ⟨e1, hx⟩
      · rw [if_neg (fun z => e (e1.symm.trans z)), if_neg e]
        exact ab
theorem kvd_put {H : Hp} {R : List PRule} {kvs : List (List Key × V)} {k : List Key} {x : V} {v : Int × List Key} (h : KvD H kvs (rowsOf R)) (hx : TD H x (ruleD v)) : KvD H (putK kvs k x) (rowsOf (putP R k v)) := by
  have ek : kvs.map (·.1) = R.map (·.1) := by rw [h.keys, rowsOf_keys]
  have ea : (kvs.any fun kv => decide (kv.1 = k)) = (R.any fun r => decide (r.1 = k)) := by
    have e1 : (kvs.any fun kv => decide (kv.1 = k)) = (kvs.map (·.1)).any fun j => decide (j = k) := by rw [List.any_map]; rfl
    have e2 : (R.any fun r => decide (r.1 = k)) = (R.map (·.1)).any fun j => decide (j = k) := by rw [List.any_map]; rfl
    rw [e1, e2, ek]
  unfold putK putP
  rw [ea]
  split
  · exact kvd_map hx h
  · rw [rowsOf_snoc]
    exact Paired.snoc h ⟨rfl, hx⟩
/-- the plan's parts while they are made -/
structure PB (H H' : Hp) (p c kl rl : Addr) (ks : List (Int × Int)) (R : List PRule) : Prop where
  keep : Keep p H H'
  pen : Pen H' p c
  fk : H kl = none
  fr : H rl = none
  nk : kl ≠ p ∧ kl ≠ c
  nr : rl ≠ p ∧ rl ≠ c
  kin : ∃ vs, H' kl = some (.lst vs) ∧ TDs H' vs (ks.map msgD)
  rul : ∃ kvs, H' rl = some (.dT kvs) ∧ KvD H' kvs (rowsOf R)
theorem PB.draw {H H1 H2 : Hp} {p c kl rl : Addr} {ks : List (Int × Int)} {R : List PRule} (b : PB H H1 p c kl rl ks R) (k : Keep p H1 H2) (hP : Pen H2 p c) : PB H H2 p c kl rl ks R := by
  obtain ⟨a, e, f, g, n, m, ⟨vs, i, j⟩, ⟨kvs, l, o⟩⟩ := b
  exact ⟨a.trans k, hP, f, g, n, m, ⟨vs, k _ _ i n.1, j.mono (e.tups k)⟩, ⟨kvs, k _ _ l m.1, o.mono (e.tups k)⟩⟩
theorem PB.new {H H1 : Hp} {p c kl rl a : Addr} {o : HO} {ks : List (Int × Int)} {R : List PRule} (b : PB H H1 p c kl rl ks R) (n : H1 a = none) : PB H (upd H1 a o) p c kl rl ks R :=
  b.draw (Keep.new n) (b.pen.mono (same_new n))
theorem PB.push {H H1 : Hp} {p c kl rl : Addr} {ks : List (Int × Int)} {R : List PRule} (b : PB H H1 p c kl rl ks R) {vs : List V} {v : V} {m : Int × Int} (hk : H1 kl = some (.lst vs)) (ht : TDs H1 vs (ks.map msgD)) (hv : TD H1 v (msgD m)) :
    PB H (upd H1 kl (.lst (vs ++ [v]))) p c kl rl (ks ++ [m]) R := by
  obtain ⟨a, e, f, g, n, m', _, ⟨kvs, l, o⟩⟩ := b
  have tp : Tups H1 (upd H1 kl (.lst (vs ++ [v]))) := Tups.lst hk
  have nrk : rl ≠ kl := ne_of l hk (fun z => nomatch z)
  refine ⟨a.put f, e.put n.1 n.2, f, g, n, m', ⟨_, upd_same, ?_⟩, ⟨kvs, by rw [upd_ne nrk]; exact l, o.mono tp⟩⟩
  rw [List.map_append]
  exact (ht.mono tp).app (.cons (hv.mono tp) .nil)
theorem PB.rule {H H1 : Hp} {p c kl rl : Addr} {ks : List (Int × Int)} {R : List PRule} (b : PB H H1 p c kl rl ks R) {kvs : List (List Key × V)} {k : List Key} {x : V} {r : Int × List Key} (hr : H1 rl = some (.dT kvs)) (hk : KvD H1 kvs (rowsOf R)) (hx : TD H1 x (ruleD r)) :
    PB H (upd H1 rl (.dT (putK kvs k x))) p c kl rl ks (putP R k r) := by
  obtain ⟨a, e, f, g, n, m', ⟨vs, i, j⟩, _⟩ := b
  have tp : Tups H1 (upd H1 rl (.dT (putK kvs k x))) := Tups.put hr (fun _ z => nomatch z)
  have nrk : kl ≠ rl := ne_of i hr (fun z => nomatch z)
  exact ⟨a.put g, e.put m'.1 m'.2, f, g, n, m', ⟨vs, by rw [upd_ne nrk]; exact i, j.mono tp⟩, ⟨_, upd_same, kvd_put (hk.mono tp) (hx.mono tp)⟩⟩
def testsOf (u : Int) : List Key := ((List.range u.toNat).map fun i : Nat => (Sum.inl (i : Int) : Key)) ++ [Sum.inr ("new" : Str)]
theorem testsOf_len (u : Int) : (testsOf u).length = u.toNat + 1 := by
  unfold testsOf
  rw [List.length_append, List.length_map, List.length_range]
  rfl
theorem testsOf_ok {u : Int} {t : Key} (h0 : 0 ≤ u) (h : t ∈ testsOf u) : TestOk u t := by
  unfold testsOf at h
  rcases List.mem_append.mp h with z | z
  · obtain ⟨i, hi, rfl⟩ := List.mem_map.mp z
    have := List.mem_range.mp hi
    exact .inl ⟨i, rfl, by omega, by omega⟩
  · exact .inr (List.mem_singleton.mp z)
theorem testsOf_v (u : Int) : rgV 0 u ++ [V.str "new"] = (testsOf u).map kV := by
  unfold testsOf
  rw [List.map_append, rgV_keys]
  rfl
theorem kinds_at {H : Hp} {vs : List V} {ks : List (Int × Int)} (ht : TDs H vs (ks.map msgD)) {i : Int} (h0 : 0 ≤ i) (h1 : i < ks.length) : ∃ a v, atI vs i = some (.ref a) ∧ H a = some (.tup [.int v, .int (heldAt ks i)]) ∧ ks[i.toNat]? = some (v, heldAt ks i) := by
  have hl := ht.msgs_len
  obtain ⟨j, rfl⟩ : ∃ j : Nat, i = j := ⟨i.toNat, by omega⟩
  have hj : j < vs.length := by omega
  obtain ⟨m, a, e1, e2, e3⟩ := ht.msg (List.getElem?_eq_getElem hj)
  have e4 : heldAt ks (j : Int) = m.2 := by
    unfold heldAt
    rw [Int.toNat_natCast, e1]
    rfl
  refine ⟨a, m.1, atI_nat (by rw [List.getElem?_eq_getElem hj, e2]), by rw [e4]; exact e3, by rw [e4, Int.toNat_natCast]; exact e1⟩
theorem kinds_bd {ks : List (Int × Int)} (hk : ∀ k ∈ ks, 0 ≤ k.1 ∧ k.1 ≤ 3 ∧ 0 ≤ k.2 ∧ k.2 ≤ 3) {i : Nat} {m : Int × Int} (h : ks[i]? = some m) : 0 ≤ m.1 ∧ m.1 ≤ 3 ∧ 0 ≤ m.2 ∧ m.2 ≤ 3 := hk m (List.mem_of_getElem? h)
theorem kinds_push {ks : List (Int × Int)} {m : Int × Int} (h : KindsOk ks) (hl : ks.length ≤ 5) (h0 : 0 ≤ m.1) (h1 : m.1 ≤ 3) (h2 : 0 ≤ m.2) (h3 : m.2 ≤ 3) : KindsOk (ks ++ [m]) := by
  refine ⟨⟨by rw [List.length_append]; have := h.len; omega, by rw [List.length_append]; show ks.length + 1 ≤ 6; omega⟩, ?_, fun k hk => ?_⟩
  · have z := h.zero
    unfold heldAt at z ⊢
    have := h.len
    rw [show (0 : Int).toNat = 0 from rfl] at z ⊢
    rw [List.getElem?_append_left (by omega)]
    exact z
  · rcases List.mem_append.mp hk with z | z
    · exact h.all k z
    · rw [List.mem_singleton] at z
      subst z
      exact ⟨h0, h1, h2, h3⟩
/-- what is known of the rules -/
structure RB (w : Int) (ks : List (Int × Int)) (R : List PRule) (n : Nat) : Prop where
  ok : ∀ r ∈ R, RuleOk w ks r
  nd : (R.map (·.1)).Nodup
  len : R.length ≤ n
theorem RB.le {w : Int} {ks : List (Int × Int)} {R : List PRule} {n m : Nat} (h : RB w ks R n) (e : n ≤ m) : RB w ks R m := ⟨h.ok, h.nd, Nat.le_trans h.len e⟩
theorem RB.put {w : Int} {ks : List (Int × Int)} {R : List PRule} {n : Nat} (h : RB w ks R n) {k : List Key} {v : Int × List Key} (hr : RuleOk w ks (k, v)) : RB w ks (putP R k v) (n + 1) := by
  refine ⟨fun r hr' => ?_, putP_nodup h.nd, Nat.le_trans (putP_len R k v) (Nat.succ_le_succ h.len)⟩
  rcases putP_mem hr' with z | rfl
  · exact h.ok r z
  · exact hr
def sp_law_plan : Sp := fun vs H Q _ => ∃ (p c : Addr) (w st h : Int), vs = [.ref p, .int w, .int st, .int h] ∧ Pen H p c ∧ 1 ≤ w ∧ w ≤ 3 ∧ 1 ≤ st ∧ st ≤ 6 ∧ 0 ≤ h ∧ h ≤ 3 ∧
  ∀ l kl rl pl H', pl.words = w → Keep p H H' → Pen H' p c → H l = none → H kl = none → H rl = none → PlanAt H' l kl rl pl → PlanOk pl → (pl.kinds.length : Int) ≤ st → Q (.ref l) H'
section
variable {P : Program} {w : World} {K : PySem.W.Frag} {mg : Str → Option Value} {base : Heap}
abbrev N_law_plan : List Str := ["pen", "words", "states", "held", "kinds", "rules", "lap", "state", "word", "test", "target", "sources"]
theorem sc_law_plan : FnScope N_law_plan ["pen", "words", "states", "held"] (defScope s_law_plan) := ⟨rfl, rfl, rfl, by decide +kernel, rfl, by decide +kernel, by decide +kernel⟩
theorem G_law_plan (T : Tx K mg) : FnG P w K mg base CX0 4 T.law_plan.f T.law_plan.fd ["pen", "words", "states", "held"] sp_law_plan := by
  refine okG T.law_plan.F sc_law_plan (fun vs H Q E h => ?_) (fun cdv A outer s H vs Q E gd hr h => ?_)
  · obtain ⟨p, c, w', st, h', rfl, _⟩ := h
    rfl
  · obtain ⟨p, c, w', st, h', rfl, hP, w1, w3, s1, s6, h0, h3, q⟩ := h
    refine ⟨_, 
      (C8.pss_cut (ps_par (i := 4) (j := 5) rfl sc_law_plan.nd rfl rfl (by decide) rfl rfl (pa_cons (pe_lst (pa_cons (pe_tup (pa_cons (pe_callG (G_law_draw T) gd (hr.mono (by decide)) rfl T.law_draw.g T.law_draw.F.kp T.law_draw.b .nil pass0 (pa_cons (pv 0) (pa_cons pe_int pa_nil))) (pa_cons pe_int pa_nil))) pa_nil)) (pa_cons pe_dnewT pa_nil)) rfl) -- kinds, rules = ([(_law_draw(pen, 2), 0)], {})
      (C8.pss_cut (ps_for PassesOwn.never rfl (pi_range1 rfl T.m_range (pa_cons (pe_callG (G_law_draw T) gd (hr.mono (by decide)) rfl T.law_draw.g T.law_draw.F.kp T.law_draw.b .nil pass0 (pa_cons (pv 0) (pa_cons (pv 2) pa_nil))) pa_nil)) (pg_name (i := 6) sc_law_plan.nd rfl (.inl rfl)) 
        (pss_one (ps_expr (pe_bm PySem.F.plainAttrs_list PySem.F.slot_list_append PySem.F.type_list_append mt_append (pv 4) (pa_cons (pe_tup (pa_cons (pe_callG (G_law_draw T) gd (hr.mono (by decide)) rfl T.law_draw.g T.law_draw.F.kp T.law_draw.b .nil pass0 (pa_cons (pv 0) (pa_cons (pe_ix ix_list (pe_lst (pa_cons pe_int (pa_cons pe_int (pa_cons pe_int pa_nil)))) (pe_callG (G_law_draw T) gd (hr.mono (by decide)) rfl T.law_draw.g T.law_draw.F.kp T.law_draw.b .nil pass0 (pa_cons (pv 0) (pa_cons pe_int pa_nil))) (fun _ _ => rfl)) pa_nil))) (pa_cons (pe_callG (G_law_draw T) gd (hr.mono (by decide)) rfl T.law_draw.g T.law_draw.F.kp T.law_draw.b .nil pass0 (pa_cons (pv 0) (pa_cons (pe_op op_add (pv 3) pe_int) pa_nil))) pa_nil))) pa_nil)))) -- kinds.append((_law_draw(pen, [2, 2, 4][_law_draw(pen, 3)]), _law_draw(pen, held + 1)))
        ) -- for lap in range(_law_draw(pen, states)):
      (C8.pss_cut (ps_for PassesOwn.never rfl (pi_range1 rfl T.m_range (pa_cons (pe_callB call_len_seq (by rfl) T.m_len PySem.boot_len (pa_cons (pv 4) pa_nil)) pa_nil)) (pg_name (i := 7) sc_law_plan.nd rfl (.inl rfl)) 
        (pss_one (ps_for PassesOwn.never rfl (pi_range1 rfl T.m_range (pa_cons (pv 1) pa_nil)) (pg_name (i := 8) sc_law_plan.nd rfl (.inl rfl)) 
          (pss_one (ps_for PassesOwn.never rfl (pi_list (pe_op op_cat (pe_listRg rfl (by rfl) T.m_list (prg_1 (by rfl) T.m_range (pe_ix ix_tup (pe_ix ix_list (pv 4) (pv 7) (fun _ _ => rfl)) pe_int (fun _ _ => rfl)))) (pe_lst (pa_cons pe_str pa_nil)))) (pg_name (i := 9) sc_law_plan.nd rfl (.inl rfl)) 
            (pss_cons (ps_set (i := 10) sc_law_plan.nd rfl (.inl rfl) (pe_callG (G_law_draw T) gd (hr.mono (by decide)) rfl T.law_draw.g T.law_draw.F.kp T.law_draw.b .nil pass0 (pa_cons (pv 0) (pa_cons (pe_callB call_len_seq (by rfl) T.m_len PySem.boot_len (pa_cons (pv 4) pa_nil)) pa_nil)))) -- target = _law_draw(pen, len(kinds))
            (pss_cons (ps_set (i := 11) sc_law_plan.nd rfl (.inl rfl) (pe_callG (G_law_some_sources T) gd (hr.mono (by decide)) rfl T.law_some_sources.g T.law_some_sources.F.kp T.law_some_sources.b .nil pass0 (pa_cons (pv 0) (pa_cons (pe_ix ix_tup (pe_ix ix_list (pv 4) (pv 7) (fun _ _ => rfl)) pe_int (fun _ _ => rfl)) (pa_cons (pv 9) (pa_cons (pe_ix ix_tup (pe_ix ix_list (pv 4) (pv 10) (fun _ _ => rfl)) pe_int (fun _ _ => rfl)) pa_nil)))))) -- sources = _law_some_sources(pen, kinds[state][1], test, kinds[target][1])
            (pss_one (ps_if (PW.pt (pw_and (pt_cmp (pc_notN (pv 11))) (pw_and1 (pt_cmpR op_gt (pe_callG (G_law_draw T) gd (hr.mono (by decide)) rfl T.law_draw.g T.law_draw.F.kp T.law_draw.b .nil pass0 (pa_cons (pv 0) (pa_cons pe_int pa_nil))) pe_int (nomark _))))) 
              (pss_one (ps_dput (hu_of hr) (pv 5) (pe_tup (pa_cons (pv 7) (pa_cons (pv 8) (pa_cons (pv 9) pa_nil)))) (pe_tup (pa_cons (pv 10) (pa_cons (pv 11) pa_nil))) rfl)) -- rules[state, word, test] = (target, sources)
               pss_nil)) -- if sources is not None and _law_draw(pen, 5) > 0:
            )))) -- for test in list(range(kinds[state][1])) + ['new']:
          )) -- for word in range(words):
        ) -- for state in range(len(kinds)):
      (pss_one (ps_ret (pe_lst (pa_cons (pv 1) (pa_cons (pv 4) (pa_cons (pv 5) pa_nil)))))) -- return [words, kinds, rules]
      ))) , ?_⟩
    refine ⟨fun σ H' => ∃ (kl rl : Addr) (ks : List (Int × Int)), σ = [some (.ref p), some (.int w'), some (.int st), some (.int h'), some (.ref kl), some (.ref rl), none, none, none, none, none, none] ∧ PB H H' p c kl rl ks [] ∧ KindsOk ks ∧ ks.length = 1, ?_, ?_⟩
    · refine ⟨.ref p, rfl, p, c, 2, rfl, hP, by decide, by decide, fun d H1 d0 d1 k1 hP1 => ⟨by show 2 ≤ sizeLine; decide, fun t nt => ⟨by show 1 ≤ sizeLine; decide, fun kl nkl => fun rl nrl => ⟨_, _, rfl, ?_⟩⟩⟩⟩
      have ht : (upd H1 t (.tup [.int d, .int 0])) t = some (.tup [.int d, .int 0]) := upd_same
      have hP2 := hP1.mono (same_new nt (o := .tup [.int d, .int 0]))
      have k2 := k1.put (o := .tup [.int d, .int 0]) (k1.free hP1.some' nt)
      generalize upd H1 t (.tup [.int d, .int 0]) = H2 at *
      have nk := hP2.free nkl
      have fk := k2.free hP2.some' nkl
      have hk : (upd H2 kl (.lst [.ref t])) kl = some (.lst [.ref t]) := upd_same
      have ht3 : (upd H2 kl (.lst [.ref t])) t = some (.tup [.int d, .int 0]) := same_new nkl _ _ ht
      have hP3 := hP2.mono (same_new nkl (o := .lst [.ref t]))
      have k3 := k2.put (o := .lst [.ref t]) fk
      generalize upd H2 kl (.lst [.ref t]) = H3 at *
      have nr := hP3.free nrl
      have fr := k3.free hP3.some' nrl
      have s4 : Same H3 (upd H3 rl (.dT [])) := same_new nrl
      refine ⟨kl, rl, [(d, 0)], rfl, ⟨k3.put fr, hP3.mono s4, fk, fr, ⟨nk.1.symm, nk.2.symm⟩, ⟨nr.1.symm, nr.2.symm⟩, ⟨_, s4 _ _ hk, .cons (TD.ofPair (s4 _ _ ht3)) .nil⟩, ⟨[], upd_same, .nil⟩⟩, ⟨⟨Nat.le_refl 1, (by decide : (1 : Nat) ≤ 6)⟩, rfl, fun k hk => ?_⟩, rfl⟩
      rw [List.mem_singleton] at hk
      subst hk
      exact ⟨d0, by show d ≤ 3; omega, (by decide : (0 : Int) ≤ 0), (by decide : (0 : Int) ≤ 3)⟩
    rintro σ H1 ⟨kl, rl, ks, rfl, B, hks, lk⟩
    refine ⟨fun σ H' => ∃ (y : Option V) (ks : List (Int × Int)), σ = [some (.ref p), some (.int w'), some (.int st), some (.int h'), some (.ref kl), some (.ref rl), y, none, none, none, none, none] ∧ PB H H' p c kl rl ks [] ∧ KindsOk ks ∧ (ks.length : Int) ≤ st, ?_, ?_⟩
    · refine ⟨.ref p, rfl, .int st, rfl, p, c, st, rfl, B.pen, by omega, by omega, fun d H2 d0 d1 k2 hP2 => ?_⟩
      obtain ⟨n', rfl⟩ : ∃ n' : Nat, d = n' := ⟨d.toNat, by omega⟩
      refine ⟨(n' : Int), rfl, by omega, by omega, ?_⟩
      rw [Int.toNat_natCast]
      refine for_range (n := n') (fun i σ H' => ∃ (y : Option V) (ks : List (Int × Int)), σ = [some (.ref p), some (.int w'), some (.int st), some (.int h'), some (.ref kl), some (.ref rl), y, none, none, none, none, none] ∧ PB H H' p c kl rl ks [] ∧ KindsOk ks ∧ ks.length = 1 + i) ?_ ?_ ?_
      · exact ⟨none, ks, rfl, B.draw k2 hP2, hks, by omega⟩
      · rintro i σ H3 hi ⟨y, ks, rfl, B, hks, lk⟩
        obtain ⟨vs, hk, ht⟩ := B.kin
        refine ⟨.ref kl, rfl, .inl ⟨rfl, _, SqL.of hk⟩, .ref p, rfl, by show 3 ≤ sizeLine; decide, fun l nl => ?_⟩
        have B4 := B.new (o := .lst [.int 2, .int 2, .int 4]) nl
        have nlp := B.pen.free nl
        refine ⟨.ref p, rfl, p, c, 3, rfl, B4.pen, by decide, by decide, fun e H5 e0 e1 k5 hP5 => ?_⟩
        have B5 := B4.draw k5 hP5
        have hl5 := k5 _ _ (upd_same (H := H3) (a := l) (o := .lst [.int 2, .int 2, .int 4])) nlp.1.symm
        obtain ⟨x, ex, hx⟩ : ∃ x : Int, atI [V.int 2, V.int 2, V.int 4] e = some (.int x) ∧ (x = 2 ∨ x = 4) := by
          have : e = 0 ∨ e = 1 ∨ e = 2 := by omega
          rcases this with rfl | rfl | rfl
          · exact ⟨2, rfl, .inl rfl⟩
          · exact ⟨2, rfl, .inl rfl⟩
          · exact ⟨4, rfl, .inr rfl⟩
        refine ⟨l, _, e, .int x, rfl, rfl, SqL.of hl5, ex, p, c, x, rfl, hP5, by omega, by omega, fun v H6 v0 v1 k6 hP6 => ?_⟩
        refine ⟨.ref p, rfl, .int h', rfl, h', 1, rfl, rfl, p, c, h' + 1, rfl, hP6, by omega, by omega, fun u H7 u0 u1 k7 hP7 => ⟨by show 2 ≤ sizeLine; decide, fun t nt => ?_⟩⟩
        have B7 := (B5.draw k6 hP6).draw k7 hP7
        have B8 := B7.new (o := .tup [.int v, .int u]) nt
        obtain ⟨vs, hk, ht⟩ := B8.kin
        have lv : vs.length = ks.length := ht.msgs_len
        refine ⟨kl, vs, .ref t, rfl, rfl, hk, small1000 (by omega), _, ks ++ [(v, u)], rfl, B8.push hk ht (TD.ofPair upd_same), kinds_push hks (by omega) v0 (by show v ≤ 3; omega) u0 (by show u ≤ 3; omega), by rw [List.length_append, lk]; rfl⟩
      · rintro σ H3 ⟨y, ks, rfl, B, hks, lk⟩
        exact ⟨y, ks, rfl, B, hks, by omega⟩
    rintro σ H1 ⟨y, ks, rfl, B, hks, lk⟩
    have kl6 := hks.len
    refine ⟨fun σ H' => ∃ (a1 a2 a3 a4 a5 : Option V) (R : List PRule), σ = [some (.ref p), some (.int w'), some (.int st), some (.int h'), some (.ref kl), some (.ref rl), y, a1, a2, a3, a4, a5] ∧ PB H H' p c kl rl ks R ∧ RB w' ks R 72, ?_, ?_⟩
    · obtain ⟨vs, hk, ht⟩ := B.kin
      have lv : vs.length = ks.length := ht.msgs_len
      refine ⟨.ref kl, rfl, kl, _, rfl, .inl (SqL.of hk), (vs.length : Int), rfl, by omega, by omega, ?_⟩
      rw [Int.toNat_natCast]
      refine for_range (n := vs.length) (fun i σ H' => ∃ (a1 a2 a3 a4 a5 : Option V) (R : List PRule), σ = [some (.ref p), some (.int w'), some (.int st), some (.int h'), some (.ref kl), some (.ref rl), y, a1, a2, a3, a4, a5] ∧ PB H H' p c kl rl ks R ∧ RB w' ks R (12 * i)) ?_ ?_ ?_
      · exact ⟨none, none, none, none, none, [], rfl, B, ⟨(fun _ z => by cases z), List.nodup_nil, Nat.le_refl _⟩⟩
      · rintro i σ H2 hi ⟨a1, a2, a3, a4, a5, R, rfl, B, hR⟩
        have ii0 : (0 : Int) ≤ 0 + (i : Int) := by omega
        have ii1 : 0 + (i : Int) < ks.length := by omega
        generalize 0 + (i : Int) = s at ii0 ii1 ⊢
        refine ⟨.int w', rfl, w', rfl, by omega, by omega, ?_⟩
        refine for_range (n := w'.toNat) (fun j σ H' => ∃ (a2 a3 a4 a5 : Option V) (R : List PRule), σ = [some (.ref p), some (.int w'), some (.int st), some (.int h'), some (.ref kl), some (.ref rl), y, some (.int s), a2, a3, a4, a5] ∧ PB H H' p c kl rl ks R ∧ RB w' ks R (12 * i + 4 * j)) ?_ ?_ ?_
        · exact ⟨a2, a3, a4, a5, R, rfl, B, hR⟩
        · rintro j σ H3 hj ⟨a2, a3, a4, a5, R, rfl, B, hR⟩
          have jj0 : (0 : Int) ≤ 0 + (j : Int) := by omega
          have jj1 : 0 + (j : Int) < w' := by omega
          generalize 0 + (j : Int) = wd at jj0 jj1 ⊢
          obtain ⟨vs, hk, ht⟩ := B.kin
          obtain ⟨a, v, ea, ha, em⟩ := kinds_at ht ii0 ii1
          have hu := kinds_bd hks.all em
          generalize hhu : heldAt ks s = u at ha em hu
          have hu0 : 0 ≤ u := hu.2.2.1
          have hu3 : u ≤ 3 := hu.2.2.2
          refine ⟨.ref kl, rfl, .int s, rfl, kl, vs, s, .ref a, rfl, rfl, SqL.of hk, ea, a, _, 1, .int u, rfl, rfl, SqT.of ha, atI_nat (j := 1) rfl, u, rfl, RgOk.of_le (by decide) (by omega) (by decide) hu0, fun l nl => ?_⟩
          have B1 := B.new (o := .lst (rgV 0 u)) nl
          have hl1 : (upd H3 l (.lst (rgV 0 u))) l = some (.lst (rgV 0 u)) := upd_same
          generalize upd H3 l (.lst (rgV 0 u)) = H4 at *
          refine ⟨by show 1 ≤ sizeLine; decide, fun b nb => ?_⟩
          have B2 := B1.new (o := .lst [.str "new"]) nb
          have hl2 := same_new nb (o := .lst [.str "new"]) _ _ hl1
          have hb2 : (upd H4 b (.lst [.str "new"])) b = some (.lst [.str "new"]) := upd_same
          generalize upd H4 b (.lst [.str "new"]) = H5 at *
          refine ⟨l, b, _, _, rfl, rfl, hl2, hb2, by rw [rgV_length]; exact Nat.le_of_lt (small1000 (by show (u - 0).toNat + 1 ≤ 1000; omega)), fun tl ntl => ?_⟩
          rw [testsOf_v]
          have B3 := B2.new (o := .lst ((testsOf u).map kV)) ntl
          have htl : (upd H5 tl (.lst ((testsOf u).map kV))) tl = some (.lst ((testsOf u).map kV)) := upd_same
          have ntl' := B2.pen.free ntl
          have ftl := B2.keep.free B2.pen.some' ntl
          have ntk : tl ≠ kl := fun e => by
            obtain ⟨vs, z, _⟩ := B2.kin
            rw [e] at ntl
            rw [ntl] at z
            cases z
          generalize upd H5 tl (.lst ((testsOf u).map kV)) = H6 at *
          refine ⟨tl, rfl, ⟨_, SqL.of htl⟩, ?_⟩
          refine for_list (xs := (testsOf u).map kV) (fun z σ H' => ∃ (a3 a4 a5 : Option V) (R : List PRule), σ = [some (.ref p), some (.int w'), some (.int st), some (.int h'), some (.ref kl), some (.ref rl), y, some (.int s), some (.int wd), a3, a4, a5] ∧ PB H H' p c kl rl ks R ∧ RB w' ks R (12 * i + 4 * j + z) ∧ H' tl = some (.lst ((testsOf u).map kV))) ?_ ?_ ?_ ?_
          · exact ⟨a3, a4, a5, R, rfl, B3, hR, htl⟩
          · rintro z σ H7 hz ⟨a3, a4, a5, R, rfl, B, hR, htl⟩
            exact SqL.of htl
          · rintro z x σ H7 hz ⟨a3, a4, a5, R, rfl, B, hR, htl⟩
            rw [List.getElem?_map] at hz
            obtain ⟨t, et, rfl⟩ := Option.map_eq_some_iff.mp hz
            have tok := testsOf_ok hu0 (List.mem_of_getElem? et)
            obtain ⟨vs, hk, ht⟩ := B.kin
            have lv : vs.length = ks.length := ht.msgs_len
            refine ⟨.ref p, rfl, .ref kl, rfl, kl, _, rfl, .inl (SqL.of hk), p, c, _, rfl, B.pen, by omega, by omega, fun tg H8 g0 g1 k8 hP8 => ?_⟩
            have B8 := B.draw k8 hP8
            have htl8 := k8 _ _ htl ntl'.1.symm
            obtain ⟨vs, hk, ht⟩ := B8.kin
            have g2 : tg < ks.length := by omega
            obtain ⟨a, v, ea, ha, em⟩ := kinds_at ht ii0 ii1
            rw [hhu] at ha em
            obtain ⟨a', v', ea', ha', em'⟩ := kinds_at ht g0 g2
            have hm := kinds_bd hks.all em'
            refine ⟨.ref p, rfl, .ref kl, rfl, .int s, rfl, kl, vs, s, .ref a, rfl, rfl, SqL.of hk, ea, a, _, 1, .int u, rfl, rfl, SqT.of ha, atI_nat (j := 1) rfl, kV t, rfl, .ref kl, rfl, .int tg, rfl, kl, vs, tg, .ref a', rfl, rfl, SqL.of hk, ea', a', _, 1, .int (heldAt ks tg), rfl, rfl, SqT.of ha', atI_nat (j := 1) rfl, p, c, u, heldAt ks tg, t, rfl, B8.pen, hu0, hu3, hm.2.2.1, hm.2.2.2, tok, fun v9 H9 k9 hP9 hv9 => ?_⟩
            have B9 := B8.draw k9 hP9
            have htl9 := k9 _ _ htl8 ntl'.1.symm
            rcases hv9 with rfl | ⟨sa, sk, rfl, hsa, sok⟩
            · refine ⟨.non, rfl, _, rfl, iteF ?_⟩
              exact ⟨_, _, _, R, rfl, B9, hR.le (by omega), htl9⟩
            · refine ⟨.ref sa, rfl, _, rfl, iteT ?_⟩
              refine ⟨.ref p, rfl, p, c, 5, rfl, B9.pen, by decide, by decide, fun g H10 _ _ k10 hP10 => ?_⟩
              have B10 := B9.draw k10 hP10
              have htl10 := k10 _ _ htl9 ntl'.1.symm
              have hsa10 := B9.pen.tups k10 _ _ hsa
              refine ⟨_, _, rfl, rfl, _, rfl, ite2 (fun _ => ?_) (fun _ => ?_)⟩
              · refine ⟨.int tg, rfl, .ref sa, rfl, by show 2 ≤ sizeLine; decide, fun r nr => ?_⟩
                have B11 := B10.new (o := .tup [.int tg, .ref sa]) nr
                have s11 : Same H10 (upd H10 r (.tup [.int tg, .ref sa])) := same_new nr
                have hr11 : (upd H10 r (.tup [.int tg, .ref sa])) r = some (.tup [.int tg, .ref sa]) := upd_same
                have htl11 := s11 _ _ htl10
                have hsa11 := s11 _ _ hsa10
                generalize upd H10 r (.tup [.int tg, .ref sa]) = H11 at *
                refine ⟨.ref rl, rfl, .int s, rfl, .int wd, rfl, kV t, rfl, by show 3 ≤ sizeLine; decide, fun kt nkt => ?_⟩
                have B12 := B11.new (o := .tup [.int s, .int wd, kV t]) nkt
                have s12 : Same H11 (upd H11 kt (.tup [.int s, .int wd, kV t])) := same_new nkt
                have hkt : (upd H11 kt (.tup [.int s, .int wd, kV t])) kt = some (.tup (([Sum.inl s, Sum.inl wd, t] : List Key).map kV)) := upd_same
                have htl12 := s12 _ _ htl11
                have hsa12 := s12 _ _ hsa11
                have hr12 := s12 _ _ hr11
                generalize upd H11 kt (.tup [.int s, .int wd, kV t]) = H12 at *
                obtain ⟨kvs, hrl, hkv⟩ := B12.rul
                have lkv : kvs.length = R.length := by
                  have := congrArg List.length hkv.keys
                  rw [List.length_map, rowsOf_keys, List.length_map] at this
                  exact this
                have hRl := hR.len
                have z4 : z < 4 := by
                  have := (List.getElem?_eq_some_iff.mp et).1
                  rw [testsOf_len] at this
                  omega
                have ntr : tl ≠ rl := ne_of htl12 hrl (fun z => nomatch z)
                refine ⟨rl, _, rfl, DPut.t (k := [Sum.inl s, Sum.inl wd, t]) hrl hkt (small1000 (by omega)), ?_⟩
                refine ⟨_, _, _, putP R [Sum.inl s, Sum.inl wd, t] (tg, sk), rfl, B12.rule hrl hkv (.tup hr12 (.cons (.int tg) (.cons (.tup hsa12 TDs.keys) .nil))), hR.put ⟨s, wd, t, rfl, ii0, ii1, jj0, jj1, by rw [hhu]; exact tok, g0, g2, by rw [hhu]; exact sok⟩, ?_⟩
                rw [upd_ne ntr]
                exact htl12
              · exact ⟨_, _, _, R, rfl, B10, hR.le (by omega), htl10⟩
          · rintro σ H7 ⟨a3, a4, a5, R, rfl, B, hR, htl⟩
            refine ⟨_, a3, a4, a5, R, rfl, B, hR.le ?_⟩
            rw [List.length_map, testsOf_len]
            omega
        · rintro σ H3 ⟨a2, a3, a4, a5, R, rfl, B, hR⟩
          exact ⟨_, a2, a3, a4, a5, R, rfl, B, hR.le (by omega)⟩
      · rintro σ H2 ⟨a1, a2, a3, a4, a5, R, rfl, B, hR⟩
        exact ⟨a1, a2, a3, a4, a5, R, rfl, B, hR.le (by omega)⟩
    rintro σ H2 ⟨a1, a2, a3, a4, a5, R, rfl, B, hR⟩
    refine ⟨.int w', rfl, .ref kl, rfl, .ref rl, rfl, by show 3 ≤ sizeLine; decide, fun l nl => ?_⟩
    have s3 : Same H2 (upd H2 l (.lst [.int w', .ref kl, .ref rl])) := same_new nl
    have fl := B.keep.free B.pen.some' nl
    obtain ⟨vs, hk, ht⟩ := B.kin
    obtain ⟨kvs, hr', hkv⟩ := B.rul
    exact q l kl rl ⟨w', ks, R⟩ _ rfl (B.keep.put fl) (B.pen.mono s3) fl B.fk B.fr ⟨upd_same, ⟨vs, s3 _ _ hk, ht.mono (Tups.same s3)⟩, ⟨kvs, s3 _ _ hr', hkv.mono (Tups.same s3)⟩⟩ ⟨⟨w1, w3⟩, hks, hR.ok, hR.nd, Nat.le_trans hR.len (by decide)⟩ lk
end
def lookR (R : Rows) (k : List Key) : PyData := ((R.find? fun p => decide (p.1 = k)).map (·.2)).getD .none
theorem KvD.val {H : Hp} {kvs : List (List Key × V)} {R : Rows} {k : List Key} (h : KvD H kvs R) (hk : k ∈ R.map (·.1)) : ∃ v, valV kvs k = some v ∧ TD H v (lookR R k) := by
  induction h with
  | nil => cases hk
  | @cons a b l1 l2 ab _ ih =>
    unfold valV lookR
    by_cases e : a.1 = k
    · have e2 : b.1 = k := ab.1 ▸ e
      refine ⟨a.2, ?_, ?_⟩
      · rw [List.find?_cons_of_pos (by simpa using e)]
        rfl
      · rw [List.find?_cons_of_pos (by simpa using e2)]
        exact ab.2
    · have e2 : ¬ b.1 = k := ab.1 ▸ e
      rw [List.find?_cons_of_neg (by simpa using e), List.find?_cons_of_neg (by simpa using e2)]
      refine ih ?_
      rcases List.mem_cons.mp hk with z | z
      · exact absurd z.symm e2
      · exact z
/-- a watcher is asked -/
def sp_W_len (C : Addr) : Sp := fun us H Q _ => ∃ (x lv lh d : Addr) (n : Int) (vs hs : List Int) (R : Rows), us = [.ref x] ∧ WAt C H x lv lh d n vs hs R ∧ Q (.int vs.length) H
def sp_W_ver (C : Addr) : Sp := fun us H Q _ => ∃ (x lv lh d : Addr) (n : Int) (vs hs : List Int) (R : Rows), us = [.ref x] ∧ WAt C H x lv lh d n vs hs R ∧ ∀ t, H t = none → Q (.ref t) (upd H t (.tup (vs.map V.int)))
def sp_W_hel (C : Addr) : Sp := fun us H Q _ => ∃ (x lv lh d : Addr) (n : Int) (vs hs : List Int) (R : Rows), us = [.ref x] ∧ WAt C H x lv lh d n vs hs R ∧ ∀ t, H t = none → Q (.ref t) (upd H t (.tup (hs.map V.int)))
section
variable {P : Program} {w : World} {K : PySem.W.Frag} {mg : Str → Option Value} {base : Heap}
abbrev N_Watcher_len : List Str := ["self"]
theorem sc_Watcher_len : FnScope N_Watcher_len ["self"] (defScope s_Watcher_len) := ⟨rfl, rfl, rfl, by decide +kernel, rfl, by decide +kernel, by decide +kernel⟩
theorem ok_Watcher_len {f C : Addr} {fd : FuncData} {k : Nat} (F : Fun K "__len__" "Watcher.__len__" s_Watcher_len f fd) (W : WCls K C) (m_len : mg "len" = none) : FnG P w K mg base CX0 (k + 1) f fd ["self"] (sp_W_len C) := by
  refine okG F sc_Watcher_len (fun vs H Q E h => ?_) (fun cdv A outer s H vs Q E gd hr h => ?_)
  · obtain ⟨x, lv, lh, d, n, vs, hs, R, rfl, _⟩ := h
    rfl
  · obtain ⟨x, lv, lh, d, n, vs, hs, R, rfl, hW, q⟩ := h
    refine ⟨_, 
      (pss_one (ps_ret (pe_callB call_len_seq (by rfl) m_len PySem.boot_len (pa_cons (pe_fld (pv 0) rfl) pa_nil)))) -- return len(self._verdicts)
       , ?_⟩
    obtain ⟨dx, hx⟩ := hW.ins
    refine ⟨.ref x, rfl, x, C, dx, _, .ref lv, rfl, hx, W.cl, W.n2, rfl, lv, _, rfl, .inl (SqL.of hW.ver), ?_⟩
    rw [List.length_map]
    exact q
end
section
variable {P : Program} {w : World} {K : PySem.W.Frag} {mg : Str → Option Value} {base : Heap}
abbrev N_Watcher_verdicts : List Str := ["self"]
theorem sc_Watcher_verdicts : FnScope N_Watcher_verdicts ["self"] (defScope s_Watcher_verdicts) := ⟨rfl, rfl, rfl, by decide +kernel, rfl, by decide +kernel, by decide +kernel⟩
theorem ok_Watcher_verdicts {f C : Addr} {fd : FuncData} {k : Nat} (F : Fun K "verdicts" "Watcher.verdicts" s_Watcher_verdicts f fd) (W : WCls K C) (m_tuple : mg "tuple" = none) : FnG P w K mg base CX0 (k + 1) f fd ["self"] (sp_W_ver C) := by
  refine okG F sc_Watcher_verdicts (fun vs H Q E h => ?_) (fun cdv A outer s H vs Q E gd hr h => ?_)
  · obtain ⟨x, lv, lh, d, n, vs, hs, R, rfl, _⟩ := h
    rfl
  · obtain ⟨x, lv, lh, d, n, vs, hs, R, rfl, hW, q⟩ := h
    refine ⟨_, 
      (pss_one (ps_ret (pe_callTy call_tuple_of (by rfl) m_tuple (by decide +kernel) (pa_cons (pe_fld (pv 0) rfl) pa_nil)))) -- return tuple(self._verdicts)
       , ?_⟩
    obtain ⟨dx, hx⟩ := hW.ins
    exact ⟨.ref x, rfl, x, C, dx, _, .ref lv, rfl, hx, W.cl, W.n2, rfl, lv, _, rfl, .inl ⟨SqL.of hW.ver, q⟩⟩
end
section
variable {P : Program} {w : World} {K : PySem.W.Frag} {mg : Str → Option Value} {base : Heap}
abbrev N_Watcher_held_counts : List Str := ["self"]
theorem sc_Watcher_held_counts : FnScope N_Watcher_held_counts ["self"] (defScope s_Watcher_held_counts) := ⟨rfl, rfl, rfl, by decide +kernel, rfl, by decide +kernel, by decide +kernel⟩
theorem ok_Watcher_held_counts {f C : Addr} {fd : FuncData} {k : Nat} (F : Fun K "held_counts" "Watcher.held_counts" s_Watcher_held_counts f fd) (W : WCls K C) (m_tuple : mg "tuple" = none) : FnG P w K mg base CX0 (k + 1) f fd ["self"] (sp_W_hel C) := by
  refine okG F sc_Watcher_held_counts (fun vs H Q E h => ?_) (fun cdv A outer s H vs Q E gd hr h => ?_)
  · obtain ⟨x, lv, lh, d, n, vs, hs, R, rfl, _⟩ := h
    rfl
  · obtain ⟨x, lv, lh, d, n, vs, hs, R, rfl, hW, q⟩ := h
    refine ⟨_, 
      (pss_one (ps_ret (pe_callTy call_tuple_of (by rfl) m_tuple (by decide +kernel) (pa_cons (pe_fld (pv 0) rfl) pa_nil)))) -- return tuple(self._held)
       , ?_⟩
    obtain ⟨dx, hx⟩ := hW.ins
    exact ⟨.ref x, rfl, x, C, dx, _, .ref lh, rfl, hx, W.cl, W.n3, rfl, lh, _, rfl, .inl ⟨SqL.of hW.hel, q⟩⟩
end
theorem passNo {X : Cx} : Passes (L2.CX X.prog X.w) X fun _ _ _ => False := L2.passes_call (W := fun _ _ _ _ => False) L2.takes_none5 (fun _ _ _ _ h => h)
def sp_require_verdict (C : Addr) : Sp := fun us H Q E => ∃ (p : Addr) (v : V) (d : PyData), us = [v] ∧ LD p H v d ∧ (btw d 0 3 = true → Q .non H) ∧ (btw d 0 3 = false → ∀ e, H e = none → E (.ref C) (some e) (upd H e (.xd [(("verdict" : Str), v)])))
def sp_require_state (C CU : Addr) : Sp := fun us H Q E => ∃ (x lv lh d : Addr) (n : Int) (vs hs : List Int) (R : Rows) (p : Addr) (v : V) (dd : PyData), us = [.ref x, v] ∧ WAt C H x lv lh d n vs hs R ∧ LD p H v dd ∧
  (btw dd 0 ((vs.length : Int) - 1) = true → Q .non H) ∧ (btw dd 0 ((vs.length : Int) - 1) = false → ∀ e, H e = none → E (.ref CU) (some e) (upd H e (.xd [(("state" : Str), v)])))
def isTest (d : PyData) (h : Int) : Bool := isStrD d "new" || btw d 0 (h - 1)
def sp_is_test : Sp := fun us H Q _ => ∃ (p : Addr) (v : V) (d : PyData) (h : Int), us = [v, .int h] ∧ LD p H v d ∧ isDctD d = false ∧ Q (.bl (isTest d h)) H
def sp_add_state (C CV CL : Addr) : Sp := fun us H Q E => ∃ (x lv lh d : Addr) (n : Int) (vs hs : List Int) (R : Rows) (p : Addr) (v1 v2 : V) (d1 d2 : PyData), us = [.ref x, v1, v2] ∧ WAt C H x lv lh d n vs hs R ∧ LD p H v1 d1 ∧ LD p H v2 d2 ∧
  (btw d1 0 3 = false → ∀ e, H e = none → E (.ref CV) (some e) (upd H e (.xd [(("verdict" : Str), v1)]))) ∧
  (btw d1 0 3 = true → btw d2 0 3 = false → ∀ e, H e = none → E (.ref CL) (some e) (upd H e (.xd [(("limit" : Str), .int 3)]))) ∧
  (btw d1 0 3 = true → btw d2 0 3 = true → vs.length = 6 → ∀ e, H e = none → E (.ref CL) (some e) (upd H e (.xd [(("limit" : Str), .int 6)]))) ∧
  (∀ a b, d1 = .int a → d2 = .int b → btw d1 0 3 = true → btw d2 0 3 = true → vs.length < 6 → ∀ H', (∀ c o, H c = some o → c ≠ lv → c ≠ lh → H' c = some o) → WAt C H' x lv lh d n (vs ++ [a]) (hs ++ [b]) R → Q (.int vs.length) H')
section
variable {P : Program} {w : World} {K : PySem.W.Frag} {mg : Str → Option Value} {base : Heap}
abbrev N_require_verdict : List Str := ["verdict"]
theorem sc_require_verdict : FnScope N_require_verdict ["verdict"] (defScope s_require_verdict) := ⟨rfl, rfl, rfl, by decide +kernel, rfl, by decide +kernel, by decide +kernel⟩
theorem ok_require_verdict {f f_is_between C iC : Addr} {fd fd_is_between : FuncData} {t3 : Tok} (F : Fun K "require_verdict" "require_verdict" s_require_verdict f fd) (F_is_between : Fun K "is_between" "is_between" s_is_between f_is_between fd_is_between) (b_is_between : Binds K fd_is_between ["value", "low", "high"] [])
    (g_is_between : mg "is_between" = some (.ref f_is_between)) (G_is_between : FnG P w K mg base CX0 2 f_is_between fd_is_between ["value", "low", "high"] sp_is_between) (T_NotAVerdict : L2.ErrOk OwnE.bVE "NotAVerdict" "verdict" "NotAVerdict.__init__" K mg C iC) (g_MOST_VERDICT : mg "MOST_VERDICT" = some (.int 3 t3)) :
    FnG P w K mg base (L2.CX P w) 3 f fd ["verdict"] (sp_require_verdict C) := by
  refine okGX F sc_require_verdict (fun vs H Q E h => ?_) (fun cdv A outer s H vs Q E gd hr h => ?_)
  · obtain ⟨p, v, d, rfl, _⟩ := h
    rfl
  · obtain ⟨p, v, d, rfl, hv, q1, q2⟩ := h
    have hr1 : Room 1 _ := hr.mono (by decide)
    refine ⟨_, 
      (pss_one (ps_if (pt_not (pt_val (pe_callG G_is_between gd (hr.mono (by decide)) rfl g_is_between F_is_between.kp b_is_between .nil pass0 (pa_cons (pv 0) (pa_cons pe_int (pa_cons (pe_glob (v := .int 3) rfl g_MOST_VERDICT ⟨_, rfl⟩) pa_nil)))))) 
        (pss_one (L2.ps_raiseE (W := fun cls d _ H => E cls d H) rfl T_NotAVerdict hr1 (takes_of rfl rfl rfl rfl) (by exact (pa_cons (pv 0) pa_nil)))) -- raise NotAVerdict(verdict)
         pss_nil)) -- if not is_between(verdict, 0, MOST_VERDICT):
       , ?_⟩
    refine ⟨v, rfl, p, v, d, 0, 3, rfl, hv, _, rfl, ?_⟩
    cases hb : btw d 0 3 with
    | false => exact ⟨v, rfl, v, rfl, fun e he => q2 hb e he⟩
    | true => exact q1 hb
end
section
variable {P : Program} {w : World} {K : PySem.W.Frag} {mg : Str → Option Value} {base : Heap}
abbrev N_Watcher_require_state : List Str := ["self", "state"]
theorem sc_Watcher_require_state : FnScope N_Watcher_require_state ["self", "state"] (defScope s_Watcher_require_state) := ⟨rfl, rfl, rfl, by decide +kernel, rfl, by decide +kernel, by decide +kernel⟩
theorem ok_require_state {f f_is_between C CU iU : Addr} {fd fd_is_between : FuncData} (F : Fun K "require_state" "Watcher.require_state" s_Watcher_require_state f fd) (F_is_between : Fun K "is_between" "is_between" s_is_between f_is_between fd_is_between) (b_is_between : Binds K fd_is_between ["value", "low", "high"] [])
    (g_is_between : mg "is_between" = some (.ref f_is_between)) (G_is_between : FnG P w K mg base CX0 2 f_is_between fd_is_between ["value", "low", "high"] sp_is_between) (T_UnknownState : L2.ErrOk OwnE.bLE "UnknownState" "state" "UnknownState.__init__" K mg CU iU) (W : WCls K C) (m_len : mg "len" = none) :
    FnG P w K mg base (L2.CX P w) 3 f fd ["self", "state"] (sp_require_state C CU) := by
  refine okGX F sc_Watcher_require_state (fun vs H Q E h => ?_) (fun cdv A outer s H vs Q E gd hr h => ?_)
  · obtain ⟨x, lv, lh, d, n, vs, hs, R, p, v, dd, rfl, _⟩ := h
    rfl
  · obtain ⟨x, lv, lh, d, n, vs, hs, R, p, v, dd, rfl, hW, hv, q1, q2⟩ := h
    have hr1 : Room 1 _ := hr.mono (by decide)
    refine ⟨_, 
      (pss_one (ps_if (pt_not (pt_val (pe_callG G_is_between gd (hr.mono (by decide)) rfl g_is_between F_is_between.kp b_is_between .nil pass0 (pa_cons (pv 1) (pa_cons pe_int (pa_cons (pe_op op_sub (pe_callB call_len_seq (by rfl) m_len PySem.boot_len (pa_cons (pe_fld (pv 0) rfl) pa_nil)) pe_int) pa_nil)))))) 
        (pss_one (L2.ps_raiseE (W := fun cls d _ H => E cls d H) rfl T_UnknownState hr1 (takes_of rfl rfl rfl rfl) (by exact (pa_cons (pv 1) pa_nil)))) -- raise UnknownState(state)
         pss_nil)) -- if not is_between(state, 0, len(self._verdicts) - 1):
       , ?_⟩
    obtain ⟨dx, hx⟩ := hW.ins
    refine ⟨v, rfl, .ref x, rfl, x, C, dx, _, .ref lv, rfl, hx, W.cl, W.n2, rfl, lv, _, rfl, .inl (SqL.of hW.ver), _, 1, rfl, rfl, p, v, dd, 0, _, rfl, hv, _, rfl, ?_⟩
    rw [List.length_map]
    cases hb : btw dd 0 ((vs.length : Int) - 1) with
    | false => exact ⟨v, rfl, v, rfl, fun e he => q2 hb e he⟩
    | true => exact q1 hb
end
section
variable {P : Program} {w : World} {K : PySem.W.Frag} {mg : Str → Option Value} {base : Heap}
abbrev N_is_test : List Str := ["test", "held"]
theorem sc_is_test : FnScope N_is_test ["test", "held"] (defScope s_is_test) := ⟨rfl, rfl, rfl, by decide +kernel, rfl, by decide +kernel, by decide +kernel⟩
theorem ok_is_test {f f_is_between : Addr} {fd fd_is_between : FuncData} {tN : Tok} (F : Fun K "is_test" "is_test" s_is_test f fd) (F_is_between : Fun K "is_between" "is_between" s_is_between f_is_between fd_is_between) (b_is_between : Binds K fd_is_between ["value", "low", "high"] [])
    (g_is_between : mg "is_between" = some (.ref f_is_between)) (G_is_between : FnG P w K mg base CX0 2 f_is_between fd_is_between ["value", "low", "high"] sp_is_between) (g_NEW : mg "NEW" = some (.str "new" tN)) : FnG P w K mg base CX0 3 f fd ["test", "held"] sp_is_test := by
  refine okG F sc_is_test (fun vs H Q E h => ?_) (fun cdv A outer s H vs Q E gd hr h => ?_)
  · obtain ⟨p, v, d, h', rfl, _⟩ := h
    rfl
  · obtain ⟨p, v, d, h', rfl, hv, nd, q⟩ := h
    refine ⟨_, 
      (pss_one (ps_ret (pe_or (pe_cmpR (op_eqS hr.units) (pv 0) (pe_glob (v := .str "new") rfl g_NEW ⟨_, rfl⟩) (nomark _)) (pe_one (pe_callG G_is_between gd (hr.mono (by decide)) rfl g_is_between F_is_between.kp b_is_between .nil pass0 (pa_cons (pv 0) (pa_cons pe_int (pa_cons (pe_op op_sub (pv 1) pe_int) pa_nil)))))))) -- return test == NEW or is_between(test, 0, held - 1)
       , ?_⟩
    refine ⟨v, rfl, p, d, "new", hv, nd, rfl, _, rfl, ?_⟩
    unfold isTest at q
    cases hb : isStrD d "new" with
    | true =>
      rw [hb] at q
      exact q
    | false =>
      rw [hb] at q
      exact ⟨v, rfl, .int h', rfl, h', 1, rfl, rfl, p, v, d, 0, h' - 1, rfl, hv, q⟩
end
section
variable {P : Program} {w : World} {K : PySem.W.Frag} {mg : Str → Option Value} {base : Heap}
abbrev N_Watcher_add_state : List Str := ["self", "verdict", "held"]
theorem sc_Watcher_add_state : FnScope N_Watcher_add_state ["self", "verdict", "held"] (defScope s_Watcher_add_state) := ⟨rfl, rfl, rfl, by decide +kernel, rfl, by decide +kernel, by decide +kernel⟩
theorem ok_Watcher_add_state {f f_is_between f_require_verdict C CV CL iL : Addr} {fd fd_is_between fd_require_verdict : FuncData} {t3 t6 : Tok} (F : Fun K "add_state" "Watcher.add_state" s_Watcher_add_state f fd) (F_is_between : Fun K "is_between" "is_between" s_is_between f_is_between fd_is_between) (b_is_between : Binds K fd_is_between ["value", "low", "high"] [])
    (g_is_between : mg "is_between" = some (.ref f_is_between)) (G_is_between : FnG P w K mg base CX0 2 f_is_between fd_is_between ["value", "low", "high"] sp_is_between) (F_require_verdict : Fun K "require_verdict" "require_verdict" s_require_verdict f_require_verdict fd_require_verdict) (b_require_verdict : Binds K fd_require_verdict ["verdict"] [])
    (g_require_verdict : mg "require_verdict" = some (.ref f_require_verdict)) (G_require_verdict : FnG P w K mg base (L2.CX P w) 3 f_require_verdict fd_require_verdict ["verdict"] (sp_require_verdict CV)) (T_LimitExceeded : L2.ErrOk OwnE.bOE "LimitExceeded" "limit" "LimitExceeded.__init__" K mg CL iL)
    (g_MOST_HELD : mg "MOST_HELD" = some (.int 3 t3)) (g_MOST_STATES : mg "MOST_STATES" = some (.int 6 t6)) (W : WCls K C) (m_len : mg "len" = none) : FnG P w K mg base (L2.CX P w) 4 f fd ["self", "verdict", "held"] (sp_add_state C CV CL) := by
  refine okGX F sc_Watcher_add_state (fun vs H Q E h => ?_) (fun cdv A outer s H vs Q E gd hr h => ?_)
  · obtain ⟨x, lv, lh, d, n, vs, hs, R, p, v1, v2, d1, d2, rfl, _⟩ := h
    rfl
  · obtain ⟨x, lv, lh, d, n, vs, hs, R, p, v1, v2, d1, d2, rfl, hW, h1, h2, q1, q2, q3, q4⟩ := h
    have hr1 : Room 1 _ := hr.mono (by decide)
    refine ⟨_, 
      (pss_cons (ps_expr (pe_callG G_require_verdict gd (hr.mono (by decide)) rfl g_require_verdict F_require_verdict.kp b_require_verdict .nil (L2.passes_call (W := fun cls d _ H => E cls d H) (takes_of rfl rfl rfl rfl) (fun _ _ _ _ h => h)) (pa_cons (pv 1) pa_nil))) -- require_verdict(verdict)
      (pss_cons (ps_if (pt_not (pt_val (pe_callG G_is_between gd (hr.mono (by decide)) rfl g_is_between F_is_between.kp b_is_between .nil pass0 (pa_cons (pv 2) (pa_cons pe_int (pa_cons (pe_glob (v := .int 3) rfl g_MOST_HELD ⟨_, rfl⟩) pa_nil)))))) 
        (pss_one (L2.ps_raiseE (W := fun cls d _ H => E cls d H) rfl T_LimitExceeded hr1 (takes_of rfl rfl rfl rfl) (by exact (pa_cons (pe_glob (v := .int 3) rfl g_MOST_HELD ⟨_, rfl⟩) pa_nil)))) -- raise LimitExceeded(MOST_HELD)
         pss_nil) -- if not is_between(held, 0, MOST_HELD):
      (pss_cons (ps_if (pt_cmpR op_eq (pe_callB call_len_seq (by rfl) m_len PySem.boot_len (pa_cons (pe_fld (pv 0) rfl) pa_nil)) (pe_glob (v := .int 6) rfl g_MOST_STATES ⟨_, rfl⟩) (nomark _)) 
        (pss_one (L2.ps_raiseE (W := fun cls d _ H => E cls d H) rfl T_LimitExceeded hr1 (takes_of rfl rfl rfl rfl) (by exact (pa_cons (pe_glob (v := .int 6) rfl g_MOST_STATES ⟨_, rfl⟩) pa_nil)))) -- raise LimitExceeded(MOST_STATES)
         pss_nil) -- if len(self._verdicts) == MOST_STATES:
      (pss_cons (ps_expr (pe_bm PySem.F.plainAttrs_list PySem.F.slot_list_append PySem.F.type_list_append mt_append (pe_fld (pv 0) rfl) (pa_cons (pv 1) pa_nil))) -- self._verdicts.append(verdict)
      (pss_cons (ps_expr (pe_bm PySem.F.plainAttrs_list PySem.F.slot_list_append PySem.F.type_list_append mt_append (pe_fld (pv 0) rfl) (pa_cons (pv 2) pa_nil))) -- self._held.append(held)
      (pss_one (ps_ret (pe_op op_sub (pe_callB call_len_seq (by rfl) m_len PySem.boot_len (pa_cons (pe_fld (pv 0) rfl) pa_nil)) pe_int))) -- return len(self._verdicts) - 1
      ))))) , ?_⟩
    obtain ⟨dx, hx⟩ := hW.ins
    have hv := hW.ver
    have hh := hW.hel
    have ne := hW.ne
    have ll := hW.len
    refine ⟨v1, rfl, p, v1, d1, rfl, h1, fun o1 => ?_, q1⟩
    refine ⟨v2, rfl, p, v2, d2, 0, 3, rfl, h2, _, rfl, ?_⟩
    cases hb : btw d2 0 3 with
    | false => exact ⟨.int 3, rfl, fun e he => q2 o1 hb e he⟩
    | true =>
      refine ⟨.ref x, rfl, x, C, dx, _, .ref lv, rfl, hx, W.cl, W.n2, rfl, lv, _, rfl, .inl (SqL.of hv), rfl, _, rfl, ?_⟩
      rw [List.length_map]
      by_cases h6 : vs.length = 6
      · rw [h6]
        exact ⟨.int 6, rfl, fun e he => q3 o1 hb h6 e he⟩
      · have h6' : ¬ (V.int ((vs.length : Nat) : Int)) = V.int 6 := fun z => h6 (by have := V.int.inj z; omega)
        rw [decide_eq_false h6']
        obtain ⟨a, rfl, _⟩ := btw_int o1
        obtain ⟨b, rfl, _⟩ := btw_int hb
        cases h1
        cases h2
        have xv : x ≠ lv := ne_of hx hv (fun z => nomatch z)
        have xh : x ≠ lh := ne_of hx hh (fun z => nomatch z)
        refine ⟨.ref x, rfl, x, C, dx, _, .ref lv, rfl, hx, W.cl, W.n2, rfl, .inl ⟨rfl, _, SqL.of hv⟩, .int a, rfl, lv, _, .int a, rfl, rfl, hv, by rw [List.length_map]; exact small1000 (by omega), ?_⟩
        have hx1 : upd H lv (.lst (vs.map V.int ++ [V.int a])) x = some (.ins C dx (wf n lv lh d)) := by rw [upd_ne xv]; exact hx
        have hh1 : upd H lv (.lst (vs.map V.int ++ [V.int a])) lh = some (.lst (hs.map V.int)) := by rw [upd_ne ne.symm]; exact hh
        refine ⟨.ref x, rfl, x, C, dx, _, .ref lh, rfl, hx1, W.cl, W.n3, rfl, .inl ⟨rfl, _, SqL.of hh1⟩, .int b, rfl, lh, _, .int b, rfl, rfl, hh1, by rw [List.length_map]; exact small1000 (by omega), ?_⟩
        have hx2 : upd (upd H lv (.lst (vs.map V.int ++ [V.int a]))) lh (.lst (hs.map V.int ++ [V.int b])) x = some (.ins C dx (wf n lv lh d)) := by rw [upd_ne xh]; exact hx1
        have hv2 : upd (upd H lv (.lst (vs.map V.int ++ [V.int a]))) lh (.lst (hs.map V.int ++ [V.int b])) lv = some (.lst (vs.map V.int ++ [V.int a])) := by rw [upd_ne ne]; exact upd_same
        refine ⟨.ref x, rfl, x, C, dx, _, .ref lv, rfl, hx2, W.cl, W.n2, rfl, lv, _, rfl, .inl (SqL.of hv2), _, 1, rfl, rfl, ?_⟩
        have el : (((vs.map V.int ++ [V.int a]).length : Nat) : Int) - 1 = (vs.length : Int) := by
          rw [List.length_append, List.length_map]
          show ((vs.length + 1 : Nat) : Int) - 1 = _
          omega
        dsimp only
        rw [el]
        obtain ⟨kvs, hd, hkv⟩ := hW.rul
        have dv : d ≠ lv := ne_of hd hv (fun z => nomatch z)
        have dh : d ≠ lh := ne_of hd hh (fun z => nomatch z)
        have tp : Tups H (upd (upd H lv (.lst (vs.map V.int ++ [V.int a]))) lh (.lst (hs.map V.int ++ [V.int b]))) := (Tups.lst hv).trans (Tups.lst hh1)
        refine q4 a b rfl rfl o1 hb (by omega) _ (fun c o e n1 n2 => ?_) { ins := ⟨dx, hx2⟩, ver := ?_, hel := ?_, rul := ⟨kvs, ?_, hkv.mono tp⟩, ne := ne, rk := hW.rk, nd := hW.nd, len := ⟨by rw [List.length_append, List.length_append, ll.1]; rfl, by rw [List.length_append]; show vs.length + 1 ≤ 6; omega, ll.2.2⟩ }
        · rw [upd_ne n2, upd_ne n1]
          exact e
        · rw [hv2, List.map_append]
          rfl
        · rw [upd_same, List.map_append]
          rfl
        · rw [upd_ne dh, upd_ne dv]
          exact hd
end
theorem Tx.W {K : PySem.W.Frag} {mg : Str → Option Value} (T : Tx K mg) : WCls K T.Watcher.C := ⟨T.Watcher.cl, T.nf_Watcherwords, T.nf_Watcher_verdicts, T.nf_Watcher_held, T.nf_Watcher_rules⟩
theorem ldK {p : Addr} {H : Hp} : ∀ t : Key, LD p H (kV t) (kD t)
  | .inl n => .int n
  | .inr s => .str s
theorem kD_nd : ∀ t : Key, isDctD (kD t) = false
  | .inl _ => rfl
  | .inr _ => rfl
def isSrc (d : PyData) (h : Int) (t : Key) : Bool := if isStrD d "value" = true then isStrD (kD t) "new" else btw d 0 (h - 1)
/-- the data are sources of a rule -/
structure AreSrc (d : PyData) (wn h : Int) (t : Key) (ks : List Key) : Prop where
  d : d = .tuple (ks.map kD)
  len : (ks.length : Int) = wn
  all : ∀ k ∈ ks, isSrc (kD k) h t = true
  nd : ks.Nodup
def SmallT : PyData → Prop
  | .tuple ds => ds.length ≤ 50
  | _ => True
theorem isSrc_key {p : Addr} {H : Hp} {v : V} {d : PyData} {h : Int} {t : Key} (hv : LD p H v d) (hs : isSrc d h t = true) : ∃ k : Key, d = kD k ∧ v = kV k := by
  unfold isSrc at hs
  cases hv with
  | int i => exact ⟨.inl i, rfl, rfl⟩
  | str x => exact ⟨.inr x, rfl, rfl⟩
  | _ => cases hs
theorem srcs_of {p : Addr} {H : Hp} {h : Int} {t : Key} : ∀ {xs : List V} {ds : List PyData}, LDs p H xs ds → (∀ e ∈ ds, isSrc e h t = true) → ∃ ks : List Key, ds = ks.map kD ∧ xs = ks.map kV
  | _, _, .nil, _ => ⟨[], rfl, rfl⟩
  | _, _, .cons a r, hs => by
    obtain ⟨k, rfl, rfl⟩ := isSrc_key a (hs _ List.mem_cons_self)
    obtain ⟨ks, rfl, rfl⟩ := srcs_of r fun e he => hs e (List.mem_cons_of_mem _ he)
    exact ⟨k :: ks, rfl, rfl⟩
theorem kD_inj {a b : Key} (h : kD a = kD b) : a = b := by
  cases a <;> cases b <;> simp_all [kD]
theorem map_kD_inj : ∀ {a b : List Key}, a.map kD = b.map kD → a = b
  | [], [], _ => rfl
  | [], _ :: _, h => by cases h
  | _ :: _, [], h => by cases h
  | x :: a, y :: b, h => by
    simp only [List.map_cons, List.cons.injEq] at h
    rw [kD_inj h.1, map_kD_inj h.2]
def sp_is_source : Sp := fun us H Q _ => ∃ (p : Addr) (v : V) (d : PyData) (h : Int) (t : Key), us = [v, .int h, kV t] ∧ LD p H v d ∧ Q (.bl (isSrc d h t)) H
def sp_are_sources : Sp := fun us H Q _ => ∃ (p : Addr) (v : V) (d : PyData) (wn h : Int) (t : Key), us = [v, .int wn, .int h, kV t] ∧ LD p H v d ∧ SmallT d ∧ ((∃ ks, AreSrc d wn h t ks) → Q (.bl true) H) ∧ ((¬ ∃ ks, AreSrc d wn h t ks) → Q (.bl false) H)
def sp_require_word (C CW : Addr) : Sp := fun us H Q E => ∃ (x lv lh d : Addr) (n : Int) (vs hs : List Int) (R : Rows) (p : Addr) (v : V) (dd : PyData), us = [.ref x, v] ∧ WAt C H x lv lh d n vs hs R ∧ LD p H v dd ∧
  (btw dd 0 (n - 1) = true → Q .non H) ∧ (btw dd 0 (n - 1) = false → ∀ e, H e = none → E (.ref CW) (some e) (upd H e (.xd [(("word" : Str), v)])))
def sp_set_verdict (C CU CV : Addr) : Sp := fun us H Q E => ∃ (x lv lh d : Addr) (n : Int) (vs hs : List Int) (R : Rows) (p : Addr) (v1 v2 : V) (d1 d2 : PyData), us = [.ref x, v1, v2] ∧ WAt C H x lv lh d n vs hs R ∧ LD p H v1 d1 ∧ LD p H v2 d2 ∧
  (btw d1 0 ((vs.length : Int) - 1) = false → ∀ e, H e = none → E (.ref CU) (some e) (upd H e (.xd [(("state" : Str), v1)]))) ∧
  (btw d1 0 ((vs.length : Int) - 1) = true → btw d2 0 3 = false → ∀ e, H e = none → E (.ref CV) (some e) (upd H e (.xd [(("verdict" : Str), v2)]))) ∧
  (∀ s v : Int, d1 = .int s → d2 = .int v → 0 ≤ s → s < vs.length → 0 ≤ v → v ≤ 3 → ∀ H', (∀ c o, H c = some o → c ≠ lv → H' c = some o) → WAt C H' x lv lh d n (vs.set s.toNat v) hs R → Q .non H')
def sp_rule_for (C : Addr) : Sp := fun us H Q _ => ∃ (x lv lh d : Addr) (n : Int) (vs hs : List Int) (R : Rows) (s w : Int) (t : Key), us = [.ref x, .int s, .int w, kV t] ∧ WAt C H x lv lh d n vs hs R ∧
  ([Sum.inl s, Sum.inl w, t] ∉ R.map (·.1) → ∀ H', Same H H' → Q .non H') ∧ ([Sum.inl s, Sum.inl w, t] ∈ R.map (·.1) → ∀ v H', Same H H' → TD H' v (lookR R [Sum.inl s, Sum.inl w, t]) → Q v H')
def hAt (hs : List Int) (i : Int) : Int := (hs[i.toNat]?).getD 0
structure ErrA where
  (U W T S R : Addr)
def sp_add_rule (C : Addr) (X : ErrA) : Sp := fun us H Q E => ∃ (x lv lh d : Addr) (n : Int) (vs hs : List Int) (R : Rows) (p : Addr) (v1 v2 v3 v4 v5 : V) (d1 d2 d3 d4 d5 : PyData), us = [.ref x, v1, v2, v3, v4, v5] ∧
  WAt C H x lv lh d n vs hs R ∧ LD p H v1 d1 ∧ LD p H v2 d2 ∧ LD p H v3 d3 ∧ LD p H v4 d4 ∧ LD p H v5 d5 ∧ isDctD d3 = false ∧ SmallT d5 ∧ R.length < 1000 ∧
  (btw d1 0 ((vs.length : Int) - 1) = false → ∀ e, H e = none → E (.ref X.U) (some e) (upd H e (.xd [(("state" : Str), v1)]))) ∧
  (btw d1 0 ((vs.length : Int) - 1) = true → btw d4 0 ((vs.length : Int) - 1) = false → ∀ e, H e = none → E (.ref X.U) (some e) (upd H e (.xd [(("state" : Str), v4)]))) ∧
  (btw d1 0 ((vs.length : Int) - 1) = true → btw d4 0 ((vs.length : Int) - 1) = true → btw d2 0 (n - 1) = false → ∀ e, H e = none → E (.ref X.W) (some e) (upd H e (.xd [(("word" : Str), v2)]))) ∧
  ∀ s tg w : Int, d1 = .int s → d4 = .int tg → d2 = .int w → 0 ≤ s → s < vs.length → 0 ≤ tg → tg < vs.length → 0 ≤ w → w < n →
    (isTest d3 (hAt hs s) = false → ∀ e, H e = none → E (.ref X.T) (some e) (upd H e (.xd [(("test" : Str), v3)]))) ∧
    ∀ t : Key, v3 = kV t → d3 = kD t → isTest (kD t) (hAt hs s) = true →
      ((¬ ∃ ks, AreSrc d5 (hAt hs tg) (hAt hs s) t ks) → ∀ e, H e = none → E (.ref X.S) (some e) (upd H e (.xd [(("sources" : Str), v5)]))) ∧
      ∀ ks, AreSrc d5 (hAt hs tg) (hAt hs s) t ks →
        ([Sum.inl s, Sum.inl w, t] ∈ R.map (·.1) → ∀ T, H T = none → ∀ e, upd H T (.tup [.int s, .int w, v3]) e = none → E (.ref X.R) (some e) (upd (upd H T (.tup [.int s, .int w, v3])) e (.xd [(("rule" : Str), .ref T)]))) ∧
        ([Sum.inl s, Sum.inl w, t] ∉ R.map (·.1) → ∀ H', (∀ c o, H c = some o → c ≠ d → H' c = some o) → WAt C H' x lv lh d n vs hs (R ++ [([Sum.inl s, Sum.inl w, t], ruleD (tg, ks))]) → Q .non H')
theorem test_key' {p : Addr} {H : Hp} {v : V} {d : PyData} {h : Int} (hv : LD p H v d) (ht : isTest d h = true) : ∃ t : Key, v = kV t ∧ d = kD t ∧ ((∃ r, t = Sum.inl r) ∨ t = Sum.inr ("new" : Str)) := by
  cases hv with
  | int i => exact ⟨Sum.inl i, rfl, rfl, .inl ⟨i, rfl⟩⟩
  | str x =>
    have e : (x == ("new" : Str)) = true := by
      have z : ((x == ("new" : Str)) || false) = true := ht
      rwa [Bool.or_false] at z
    exact ⟨Sum.inr x, rfl, rfl, .inr (by rw [beq_iff_eq.mp e])⟩
  | _ => cases ht
theorem hs_at {hs : List Int} {i : Int} (h0 : 0 ≤ i) (h1 : i < hs.length) : atI (hs.map V.int) i = some (.int (hAt hs i)) := by
  obtain ⟨j, rfl⟩ : ∃ j : Nat, i = j := ⟨i.toNat, by omega⟩
  have hj : j < hs.length := by omega
  refine atI_nat ?_
  unfold hAt
  rw [Int.toNat_natCast, List.getElem?_map, List.getElem?_eq_getElem hj]
  rfl
theorem btw_true {n lo hi : Int} (h0 : lo ≤ n) (h1 : n ≤ hi) : btw (.int n) lo hi = true := by
  show (decide (lo ≤ n) && decide (n ≤ hi)) = true
  rw [decide_eq_true h0, decide_eq_true h1]
  rfl
section
variable {P : Program} {w : World} {K : PySem.W.Frag} {mg : Str → Option Value} {base : Heap}
theorem G_is_between (T : Tx K mg) : FnG P w K mg base CX0 2 T.is_between.f T.is_between.fd ["value", "low", "high"] sp_is_between := ok_is_between T.is_between.F T.is_integer.F T.is_integer.b T.is_integer.g T.m_isinstance T.m_int T.m_bool
theorem G_require_verdict (T : Tx K mg) : FnG P w K mg base (L2.CX P w) 3 T.require_verdict.f T.require_verdict.fd ["verdict"] (sp_require_verdict T.NotAVerdict.C) := ok_require_verdict T.require_verdict.F T.is_between.F T.is_between.b T.is_between.g (G_is_between T) T.NotAVerdict.e T.g_MOST_VERDICT
theorem G_Watcher_require_state (T : Tx K mg) : FnG P w K mg base (L2.CX P w) 3 T.Watcher_require_state.f T.Watcher_require_state.fd ["self", "state"] (sp_require_state T.Watcher.C T.UnknownState.C) := ok_require_state T.Watcher_require_state.F T.is_between.F T.is_between.b T.is_between.g (G_is_between T) T.UnknownState.e T.W T.m_len
theorem G_is_test (T : Tx K mg) : FnG P w K mg base CX0 3 T.is_test.f T.is_test.fd ["test", "held"] sp_is_test := ok_is_test T.is_test.F T.is_between.F T.is_between.b T.is_between.g (G_is_between T) T.g_NEW
theorem G_Watcher_add_state (T : Tx K mg) : FnG P w K mg base (L2.CX P w) 4 T.Watcher_add_state.f T.Watcher_add_state.fd ["self", "verdict", "held"] (sp_add_state T.Watcher.C T.NotAVerdict.C T.LimitExceeded.C) :=
  ok_Watcher_add_state T.Watcher_add_state.F T.is_between.F T.is_between.b T.is_between.g (G_is_between T) T.require_verdict.F T.require_verdict.b T.require_verdict.g (G_require_verdict T) T.LimitExceeded.e T.g_MOST_HELD T.g_MOST_STATES T.W T.m_len
theorem G_Watcher_init (T : Tx K mg) : FnG P w K mg base (L2.CX P w) 3 T.Watcher_init.f T.Watcher_init.fd ["self", "words"] (sp_W_init T.Watcher.C T.LimitExceeded.C) := ok_Watcher_init T.Watcher_init.F T.is_between.F T.is_between.b T.is_between.g (G_is_between T) T.LimitExceeded.e T.g_MOST_WORDS T.W
end
section
variable {P : Program} {w : World} {K : PySem.W.Frag} {mg : Str → Option Value} {base : Heap}
abbrev N_is_source : List Str := ["source", "held", "test"]
theorem sc_is_source : FnScope N_is_source ["source", "held", "test"] (defScope s_is_source) := ⟨rfl, rfl, rfl, by decide +kernel, rfl, by decide +kernel, by decide +kernel⟩
theorem G_is_source (T : Tx K mg) : FnG P w K mg base CX0 3 T.is_source.f T.is_source.fd ["source", "held", "test"] sp_is_source := by
  refine okG T.is_source.F sc_is_source (fun vs H Q E h => ?_) (fun cdv A outer s H vs Q E gd hr h => ?_)
  · obtain ⟨p, v, d, h', t, rfl, _⟩ := h
    rfl
  · obtain ⟨p, v, d, h', t, rfl, hv, q⟩ := h
    refine ⟨_, 
      (pss_cons (ps_if (pt_cmpR (op_eqS' hr.units) (pv 0) (pe_glob (v := .str "value") rfl T.g_VALUE ⟨_, rfl⟩) (nomark _)) 
        (pss_one (ps_ret (pe_cmpR (op_eqS hr.units) (pv 2) (pe_glob (v := .str "new") rfl T.g_NEW ⟨_, rfl⟩) (nomark _)))) -- return test == NEW
         pss_nil) -- if source == VALUE:
      (pss_one (ps_ret (pe_callG (G_is_between T) gd (hr.mono (by decide)) rfl T.is_between.g T.is_between.F.kp T.is_between.b .nil pass0 (pa_cons (pv 0) (pa_cons pe_int (pa_cons (pe_op op_sub (pv 1) pe_int) pa_nil)))))) -- return is_between(source, 0, held - 1)
      ) , ?_⟩
    refine ⟨v, rfl, p, d, "value", hv, rfl, _, rfl, ?_⟩
    unfold isSrc at q
    cases hb : isStrD d "value" with
    | true =>
      rw [hb, if_pos rfl] at q
      exact iteT ⟨kV t, rfl, p, kD t, "new", ldK t, kD_nd t, rfl, q⟩
    | false =>
      rw [hb, if_neg Bool.false_ne_true] at q
      exact iteF ⟨v, rfl, .int h', rfl, h', 1, rfl, rfl, p, v, d, 0, h' - 1, rfl, hv, q⟩
end
section
variable {P : Program} {w : World} {K : PySem.W.Frag} {mg : Str → Option Value} {base : Heap}
abbrev N_are_sources : List Str := ["sources", "wanted", "held", "test", "source"]
theorem sc_are_sources : FnScope N_are_sources ["sources", "wanted", "held", "test"] (defScope s_are_sources) := ⟨rfl, rfl, rfl, by decide +kernel, rfl, by decide +kernel, by decide +kernel⟩
theorem G_are_sources (T : Tx K mg) : FnG P w K mg base CX0 4 T.are_sources.f T.are_sources.fd ["sources", "wanted", "held", "test"] sp_are_sources := by
  refine okG T.are_sources.F sc_are_sources (fun vs H Q E h => ?_) (fun cdv A outer s H vs Q E gd hr h => ?_)
  · obtain ⟨p, v, d, wn, h', t, rfl, _⟩ := h
    rfl
  · obtain ⟨p, v, d, wn, h', t, rfl, hv, sm, q1, q2⟩ := h
    refine ⟨_, 
      (pss_cons (ps_if (PW.pt (pw_or (pt_not (pt_val (pe_callB (call_isL kit_tup) (by rfl) T.m_isinstance (by decide +kernel) (pa_cons (pv 0) (pa_cons (pe_bltn (v := .ty "tuple") (by rfl) T.m_tuple (by decide +kernel) (show RelV (.ty "tuple") (.type "tuple") from rfl)) pa_nil))))) (pw_or1 (pt_cmpR op_ne (pe_callB call_len_seq (by rfl) T.m_len PySem.boot_len (pa_cons (pv 0) pa_nil)) (pv 1) (nomark _))))) 
        (pss_one (ps_ret pe_bl)) -- return False
         pss_nil) -- if not isinstance(sources, tuple) or len(sources) != wanted:
      (pss_cons (ps_for PassesOwn.never rfl (pi_tup (pv 0)) (pg_name (i := 4) sc_are_sources.nd rfl (.inl rfl)) 
        (pss_one (ps_if (pt_not (pt_val (pe_callG (G_is_source T) gd (hr.mono (by decide)) rfl T.is_source.g T.is_source.F.kp T.is_source.b .nil pass0 (pa_cons (pv 4) (pa_cons (pv 2) (pa_cons (pv 3) pa_nil)))))) 
          (pss_one (ps_ret pe_bl)) -- return False
           pss_nil)) -- if not is_source(source, held, test):
        ) -- for source in sources:
      (pss_one (ps_ret (pe_cmpR op_eq (pe_lenSetM rfl (by rfl) T.m_len (by rfl) T.m_set (pv 0)) (pe_callB call_len_seq (by rfl) T.m_len PySem.boot_len (pa_cons (pv 0) pa_nil)) (nomark _)))) -- return len(set(sources)) == len(sources)
      )) , ?_⟩
    refine ⟨v, rfl, p, v, d, rfl, hv, _, rfl, ?_⟩
    cases hb : isTupD d with
    | false =>
      refine q2 ?_
      rintro ⟨ks, e⟩
      rw [e.d] at hb
      cases hb
    | true =>
      cases hv with
      | @tup a xs ds na ha hs =>
        have lx := hs.length
        refine ⟨.ref a, rfl, a, xs, rfl, .inr (SqT.of ha), .int wn, rfl, rfl, _, rfl, ?_⟩
        by_cases hw : (xs.length : Int) = wn
        · subst hw
          refine iteNS rfl ?_
          refine ⟨.ref a, rfl, a, rfl, ⟨_, SqT.of ha⟩, ?_⟩
          refine for_tup (K := K) (a := a) (xs := xs) (fun i σ H' => ∃ y, σ = [some (.ref a), some (.int (xs.length : Int)), some (.int h'), some (kV t), y] ∧ H' = H ∧ ∀ e ∈ ds.take i, isSrc e h' t = true) ?_ ?_ ?_ ?_
          · exact ⟨none, rfl, rfl, fun e he => by cases he⟩
          · rintro i σ H' hi ⟨y, rfl, rfl, _⟩
            exact SqT.of ha
          · rintro i x σ H' hi ⟨y, rfl, rfl, all⟩
            obtain ⟨e, he, hx⟩ := hs.get hi
            refine ⟨x, rfl, .int h', rfl, kV t, rfl, p, x, e, h', t, rfl, hx, _, rfl, ?_⟩
            cases hb2 : isSrc e h' t with
            | false =>
              refine iteT (q2 ?_)
              rintro ⟨ks, z⟩
              have z1 := PyData.tuple.inj z.d
              rw [z1, List.getElem?_map] at he
              obtain ⟨k, hk, rfl⟩ := Option.map_eq_some_iff.mp he
              rw [z.all k (List.mem_of_getElem? hk)] at hb2
              cases hb2
            | true =>
              refine iteF ⟨_, rfl, rfl, fun e' he' => ?_⟩
              rw [List.take_add_one, he] at he'
              rcases List.mem_append.mp he' with z | z
              · exact all e' z
              · have : e' = e := by simpa using z
                rw [this]
                exact hb2
          · rintro σ H' ⟨y, rfl, rfl, all⟩
            rw [lx, List.take_length] at all
            obtain ⟨ks, rfl, rfl⟩ := srcs_of hs all
            have sl : _ ≤ 50 := sm
            rw [List.length_map] at sl
            refine ⟨.ref a, rfl, a, ks, rfl, ha, sl, .ref a, rfl, a, _, rfl, .inr (SqT.of ha), rfl, ?_⟩
            rw [List.length_map]
            obtain ⟨u1, u2, u3, u4⟩ := uniqK_len _ ks rfl
            by_cases hn : ks.Nodup
            · rw [u3 hn, decide_eq_true rfl]
              refine q1 ⟨ks, rfl, by rw [List.length_map], fun k hk => all _ (List.mem_map.mpr ⟨k, hk, rfl⟩), hn⟩
            · have ne : ¬ (V.int ((uniqK ks).length : Nat) = V.int (ks.length : Nat)) := fun z => hn (u4 (by have := V.int.inj z; omega))
              rw [decide_eq_false ne]
              refine q2 ?_
              rintro ⟨ks', z⟩
              have := map_kD_inj (PyData.tuple.inj z.d)
              exact hn (this ▸ z.nd)
        · have ne : (V.int ((xs.length : Nat) : Int)) ≠ V.int wn := fun z => hw (V.int.inj z)
          rw [decide_eq_false ne]
          refine iteT (q2 ?_)
          rintro ⟨ks, z⟩
          have z1 := PyData.tuple.inj z.d
          have z2 := z.len
          rw [z1, List.length_map] at lx
          exact hw (by omega)
      | _ => cases hb
end
section
variable {P : Program} {w : World} {K : PySem.W.Frag} {mg : Str → Option Value} {base : Heap}
abbrev N_Watcher_require_word : List Str := ["self", "word"]
theorem sc_Watcher_require_word : FnScope N_Watcher_require_word ["self", "word"] (defScope s_Watcher_require_word) := ⟨rfl, rfl, rfl, by decide +kernel, rfl, by decide +kernel, by decide +kernel⟩
theorem G_Watcher_require_word (T : Tx K mg) : FnG P w K mg base (L2.CX P w) 3 T.Watcher_require_word.f T.Watcher_require_word.fd ["self", "word"] (sp_require_word T.Watcher.C T.NotAWord.C) := by
  refine okGX T.Watcher_require_word.F sc_Watcher_require_word (fun vs H Q E h => ?_) (fun cdv A outer s H vs Q E gd hr h => ?_)
  · obtain ⟨x, lv, lh, d, n, vs, hs, R, p, v, dd, rfl, _⟩ := h
    rfl
  · obtain ⟨x, lv, lh, d, n, vs, hs, R, p, v, dd, rfl, hW, hv, q1, q2⟩ := h
    refine ⟨_, 
      (pss_one (ps_if (pt_not (pt_val (pe_callG (G_is_between T) gd (hr.mono (by decide)) rfl T.is_between.g T.is_between.F.kp T.is_between.b .nil pass0 (pa_cons (pv 1) (pa_cons pe_int (pa_cons (pe_op op_sub (pe_fld (pv 0) rfl) pe_int) pa_nil)))))) 
        (pss_one (L2.ps_raiseE (W := fun cls d _ H => E cls d H) rfl T.NotAWord.e (show Room 1 _ from hr.mono (by decide)) (takes_of rfl rfl rfl rfl) (by exact (pa_cons (pv 1) pa_nil)))) -- raise NotAWord(word)
         pss_nil)) -- if not is_between(word, 0, self.words - 1):
       , ?_⟩
    obtain ⟨dx, hx⟩ := hW.ins
    refine ⟨v, rfl, .ref x, rfl, x, T.Watcher.C, dx, _, .int n, rfl, hx, T.Watcher.cl, T.W.n1, rfl, n, 1, rfl, rfl, p, v, dd, 0, _, rfl, hv, _, rfl, ?_⟩
    cases hb : btw dd 0 (n - 1) with
    | false => exact ⟨v, rfl, v, rfl, fun e he => q2 hb e he⟩
    | true => exact q1 hb
end
section
variable {P : Program} {w : World} {K : PySem.W.Frag} {mg : Str → Option Value} {base : Heap}
abbrev N_Watcher_set_verdict : List Str := ["self", "state", "verdict"]
theorem sc_Watcher_set_verdict : FnScope N_Watcher_set_verdict ["self", "state", "verdict"] (defScope s_Watcher_set_verdict) := ⟨rfl, rfl, rfl, by decide +kernel, rfl, by decide +kernel, by decide +kernel⟩
theorem G_Watcher_set_verdict (T : Tx K mg) : FnG P w K mg base (L2.CX P w) 4 T.Watcher_set_verdict.f T.Watcher_set_verdict.fd ["self", "state", "verdict"] (sp_set_verdict T.Watcher.C T.UnknownState.C T.NotAVerdict.C) := by
  refine okGX T.Watcher_set_verdict.F sc_Watcher_set_verdict (fun vs H Q E h => ?_) (fun cdv A outer s H vs Q E gd hr h => ?_)
  · obtain ⟨x, lv, lh, d, n, vs, hs, R, p, v1, v2, d1, d2, rfl, _⟩ := h
    rfl
  · obtain ⟨x, lv, lh, d, n, vs, hs, R, p, v1, v2, d1, d2, rfl, hW, h1, h2, q1, q2, q3⟩ := h
    refine ⟨_, 
      (pss_cons (ps_expr (pe_methG (pv 0) T.Watcher.cl T.Watcher_require_state.M (G_Watcher_require_state T) gd (hr.mono (by decide)) T.Watcher_require_state.b .nil (L2.passes_call (W := fun cls d _ H => E cls d H) (takes_of rfl rfl rfl rfl) (fun _ _ _ _ h => h)) (pa_cons (pv 1) pa_nil))) -- self.require_state(state)
      (pss_cons (ps_expr (pe_callG (G_require_verdict T) gd (hr.mono (by decide)) rfl T.require_verdict.g T.require_verdict.F.kp T.require_verdict.b .nil (L2.passes_call (W := fun cls d _ H => E cls d H) (takes_of rfl rfl rfl rfl) (fun _ _ _ _ h => h)) (pa_cons (pv 2) pa_nil))) -- require_verdict(verdict)
      (pss_one (ps_asg (pv 2) (pg_sub (pe_fld (pv 0) rfl) (pv 1) set_list))) -- self._verdicts[state] = verdict
      )) , ?_⟩
    obtain ⟨dx, hx⟩ := hW.ins
    refine ⟨.ref x, rfl, x, dx, _, rfl, hx, rfl, v1, rfl, x, lv, lh, d, n, vs, hs, R, p, v1, d1, rfl, hW, h1, fun o1 => ?_, q1⟩
    refine ⟨v2, rfl, p, v2, d2, rfl, h2, fun o2 => ?_, q2 o1⟩
    obtain ⟨s, rfl, s0, s1⟩ := btw_int o1
    obtain ⟨v, rfl, v0, v3⟩ := btw_int o2
    cases h1
    cases h2
    obtain ⟨j, rfl⟩ : ∃ j : Nat, s = j := ⟨s.toNat, by omega⟩
    have hj : j < vs.length := by omega
    have hv := hW.ver
    refine ⟨.int v, rfl, .ref x, rfl, x, T.Watcher.C, dx, _, .ref lv, rfl, hx, T.Watcher.cl, T.W.n2, rfl, .int (j : Int), rfl, lv, _, (j : Int), j, rfl, rfl, hv, ixN_at (by rw [List.length_map]; exact hj), ?_⟩
    have tp : Tups H (upd H lv (.lst ((vs.map V.int).set j (.int v)))) := Tups.lst hv
    obtain ⟨kvs, hd, hkv⟩ := hW.rul
    refine q3 (j : Int) v rfl rfl s0 (by omega) v0 v3 _ (fun c o e n1 => by rw [upd_ne n1]; exact e) { ins := ⟨dx, by rw [upd_ne (ne_of hx hv (fun z => nomatch z))]; exact hx⟩, ver := ?_, hel := by rw [upd_ne hW.ne.symm]; exact hW.hel, rul := ⟨kvs, by rw [upd_ne (ne_of hd hv (fun z => nomatch z))]; exact hd, hkv.mono tp⟩, ne := hW.ne, rk := hW.rk, nd := hW.nd, len := ⟨by rw [List.length_set]; exact hW.len.1, by rw [List.length_set]; exact hW.len.2.1, hW.len.2.2⟩ }
    rw [upd_same, Int.toNat_natCast, List.map_set]
end
section
variable {P : Program} {w : World} {K : PySem.W.Frag} {mg : Str → Option Value} {base : Heap}
abbrev N_Watcher_add_rule : List Str := ["self", "state", "word", "test", "target", "sources", "rule"]
theorem sc_Watcher_add_rule : FnScope N_Watcher_add_rule ["self", "state", "word", "test", "target", "sources"] (defScope s_Watcher_add_rule) := ⟨rfl, rfl, rfl, by decide +kernel, rfl, by decide +kernel, by decide +kernel⟩
theorem G_Watcher_add_rule (T : Tx K mg) : FnG P w K mg base (L2.CX P w) 5 T.Watcher_add_rule.f T.Watcher_add_rule.fd ["self", "state", "word", "test", "target", "sources"] (sp_add_rule T.Watcher.C ⟨T.UnknownState.C, T.NotAWord.C, T.InvalidTest.C, T.InvalidSources.C, T.RuleExists.C⟩) := by
  refine okGX T.Watcher_add_rule.F sc_Watcher_add_rule (fun vs H Q E h => ?_) (fun cdv A outer s H vs Q E gd hr h => ?_)
  · obtain ⟨x, lv, lh, d, n, vs, hs, R, p, v1, v2, v3, v4, v5, d1, d2, d3, d4, d5, rfl, _⟩ := h
    rfl
  · obtain ⟨x, lv, lh, d, n, vs, hs, R, p, v1, v2, v3, v4, v5, d1, d2, d3, d4, d5, rfl, hW, h1, h2, h3, h4, h5, n3, sm5, lR, q1, q2, q3, q4⟩ := h
    refine ⟨_, 
      (pss_cons (ps_expr (pe_methG (pv 0) T.Watcher.cl T.Watcher_require_state.M (G_Watcher_require_state T) gd (hr.mono (by decide)) T.Watcher_require_state.b .nil (L2.passes_call (W := fun cls d _ H => E cls d H) (takes_of rfl rfl rfl rfl) (fun _ _ _ _ h => h)) (pa_cons (pv 1) pa_nil))) -- self.require_state(state)
      (pss_cons (ps_expr (pe_methG (pv 0) T.Watcher.cl T.Watcher_require_state.M (G_Watcher_require_state T) gd (hr.mono (by decide)) T.Watcher_require_state.b .nil (L2.passes_call (W := fun cls d _ H => E cls d H) (takes_of rfl rfl rfl rfl) (fun _ _ _ _ h => h)) (pa_cons (pv 4) pa_nil))) -- self.require_state(target)
      (pss_cons (ps_expr (pe_methG (pv 0) T.Watcher.cl T.Watcher_require_word.M (G_Watcher_require_word T) gd (hr.mono (by decide)) T.Watcher_require_word.b .nil (L2.passes_call (W := fun cls d _ H => E cls d H) (takes_of rfl rfl rfl rfl) (fun _ _ _ _ h => h)) (pa_cons (pv 2) pa_nil))) -- self.require_word(word)
      (pss_cons (ps_if (pt_not (pt_val (pe_callG (G_is_test T) gd (hr.mono (by decide)) rfl T.is_test.g T.is_test.F.kp T.is_test.b .nil pass0 (pa_cons (pv 3) (pa_cons (pe_ix ix_list (pe_fld (pv 0) rfl) (pv 1) (fun _ _ => rfl)) pa_nil))))) 
        (pss_one (L2.ps_raiseE (W := fun cls d _ H => E cls d H) rfl T.InvalidTest.e (show Room 1 _ from hr.mono (by decide)) (takes_of rfl rfl rfl rfl) (by exact (pa_cons (pv 3) pa_nil)))) -- raise InvalidTest(test)
         pss_nil) -- if not is_test(test, self._held[state]):
      (pss_cons (ps_if (pt_not (pt_val (pe_callG (G_are_sources T) gd (hr.mono (by decide)) rfl T.are_sources.g T.are_sources.F.kp T.are_sources.b .nil pass0 (pa_cons (pv 5) (pa_cons (pe_ix ix_list (pe_fld (pv 0) rfl) (pv 4) (fun _ _ => rfl)) (pa_cons (pe_ix ix_list (pe_fld (pv 0) rfl) (pv 1) (fun _ _ => rfl)) (pa_cons (pv 3) pa_nil))))))) 
        (pss_one (L2.ps_raiseE (W := fun cls d _ H => E cls d H) rfl T.InvalidSources.e (show Room 1 _ from hr.mono (by decide)) (takes_of rfl rfl rfl rfl) (by exact (pa_cons (pv 5) pa_nil)))) -- raise InvalidSources(sources)
         pss_nil) -- if not are_sources(sources, self._held[target], self._held[state], test):
      (pss_cons (ps_set (i := 6) sc_Watcher_add_rule.nd rfl (.inl rfl) (pe_tup (pa_cons (pv 1) (pa_cons (pv 2) (pa_cons (pv 3) pa_nil))))) -- rule = (state, word, test)
      (pss_cons (ps_if (pt_cmp (pc_din (hu_of hr) (pv 6) (pe_fld (pv 0) rfl))) 
        (pss_one (L2.ps_raiseE (W := fun cls d _ H => E cls d H) rfl T.RuleExists.e (show Room 1 _ from hr.mono (by decide)) (takes_of rfl rfl rfl rfl) (by exact (pa_cons (pv 6) pa_nil)))) -- raise RuleExists(rule)
         pss_nil) -- if rule in self._rules:
      (pss_one (ps_dput (hu_of hr) (pe_fld (pv 0) rfl) (pv 6) (pe_tup (pa_cons (pv 4) (pa_cons (pv 5) pa_nil))) rfl)) -- self._rules[rule] = (target, sources)
      ))))))) , ?_⟩
    obtain ⟨dx, hx⟩ := hW.ins
    have hh := hW.hel
    have cl := T.Watcher.cl
    refine ⟨.ref x, rfl, x, dx, _, rfl, hx, rfl, v1, rfl, x, lv, lh, d, n, vs, hs, R, p, v1, d1, rfl, hW, h1, fun o1 => ?_, q1⟩
    refine ⟨.ref x, rfl, x, dx, _, rfl, hx, rfl, v4, rfl, x, lv, lh, d, n, vs, hs, R, p, v4, d4, rfl, hW, h4, fun o4 => ?_, q2 o1⟩
    refine ⟨.ref x, rfl, x, dx, _, rfl, hx, rfl, v2, rfl, x, lv, lh, d, n, vs, hs, R, p, v2, d2, rfl, hW, h2, fun o2 => ?_, q3 o1 o4⟩
    obtain ⟨s', rfl, s0, s1⟩ := btw_int o1
    obtain ⟨tg, rfl, g0, g1⟩ := btw_int o4
    obtain ⟨wd, rfl, w0, w1⟩ := btw_int o2
    cases h1
    cases h2
    cases h4
    have ls := hW.len.1
    obtain ⟨q5, q6⟩ := q4 s' tg wd rfl rfl rfl s0 (by omega) g0 (by omega) w0 (by omega)
    refine ⟨v3, rfl, .ref x, rfl, x, T.Watcher.C, dx, _, .ref lh, rfl, hx, cl, T.W.n3, rfl, .int s', rfl, lh, _, s', .int (hAt hs s'), rfl, rfl, SqL.of hh, hs_at s0 (by omega), p, v3, d3, hAt hs s', rfl, h3, n3, _, rfl, ?_⟩
    cases hb : isTest d3 (hAt hs s') with
    | false => exact iteT ⟨v3, rfl, v3, rfl, fun e he => q5 hb e he⟩
    | true =>
      refine iteF ?_
      obtain ⟨t, rfl, rfl, tk⟩ := test_key' h3 hb
      obtain ⟨q7, q8⟩ := q6 t rfl rfl hb
      refine ⟨v5, rfl, .ref x, rfl, x, T.Watcher.C, dx, _, .ref lh, rfl, hx, cl, T.W.n3, rfl, .int tg, rfl, lh, _, tg, .int (hAt hs tg), rfl, rfl, SqL.of hh, hs_at g0 (by omega), .ref x, rfl, x, T.Watcher.C, dx, _, .ref lh, rfl, hx, cl, T.W.n3, rfl, .int s', rfl, lh, _, s', .int (hAt hs s'), rfl, rfl, SqL.of hh, hs_at s0 (by omega), kV t, rfl, p, v5, d5, hAt hs tg, hAt hs s', t, rfl, h5, sm5, fun ok => ?_, fun bad => ?_⟩
      · refine ⟨_, rfl, iteF ?_⟩
        obtain ⟨ks, ok⟩ := ok
        obtain ⟨q9, q10⟩ := q8 ks ok
        obtain ⟨kvs, hd, hkv⟩ := hW.rul
        have ek := hkv.keys
        refine ⟨.int s', rfl, .int wd, rfl, kV t, rfl, by show 3 ≤ sizeLine; decide, fun TT nT => ?_⟩
        have sT : Same H (upd H TT (.tup [.int s', .int wd, kV t])) := same_new nT
        have hT : upd H TT (.tup [.int s', .int wd, kV t]) TT = some (.tup (([Sum.inl s', Sum.inl wd, t] : List Key).map kV)) := upd_same
        have g := DGet.t (k := [Sum.inl s', Sum.inl wd, t]) (sT _ _ hd) hT
        refine ⟨.ref TT, rfl, .ref x, rfl, x, T.Watcher.C, dx, _, .ref d, rfl, sT _ _ hx, cl, T.W.n4, rfl, d, _, rfl, g, _, rfl, ?_⟩
        by_cases hk : [Sum.inl s', Sum.inl wd, t] ∈ R.map (·.1)
        · obtain ⟨v, ev, _⟩ := hkv.val hk
          rw [ev]
          exact iteT ⟨.ref TT, rfl, .ref TT, rfl, fun e he => q9 hk TT nT e he⟩
        · have en : valV kvs [Sum.inl s', Sum.inl wd, t] = none := by
            unfold valV
            rw [List.find?_eq_none.mpr]
            · rfl
            · intro y hy
              simp only [decide_eq_true_eq]
              intro e
              exact hk (e ▸ ek ▸ List.mem_map.mpr ⟨y, hy, rfl⟩)
          rw [en]
          refine iteF ?_
          refine ⟨.int tg, rfl, v5, rfl, by show 2 ≤ sizeLine; decide, fun U nU => ?_⟩
          have sU : Same (upd H TT (.tup [.int s', .int wd, kV t])) (upd (upd H TT (.tup [.int s', .int wd, kV t])) U (.tup [.int tg, v5])) := same_new nU
          have hU : upd (upd H TT (.tup [.int s', .int wd, kV t])) U (.tup [.int tg, v5]) U = some (.tup [.int tg, v5]) := upd_same
          have hT2 := sU _ _ hT
          have s2 := sT.trans sU
          generalize upd (upd H TT (.tup [.int s', .int wd, kV t])) U (.tup [.int tg, v5]) = H2 at s2 hU hT2
          have hd2 := s2 _ _ hd
          have lk : kvs.length < 1000 := by
            have := Paired.length hkv
            omega
          refine ⟨.ref x, rfl, x, T.Watcher.C, dx, _, .ref d, rfl, s2 _ _ hx, cl, T.W.n4, rfl, .ref TT, rfl, d, _, rfl, DPut.t (k := [Sum.inl s', Sum.inl wd, t]) hd2 hT2 (small1000 (Nat.le_of_lt lk)), ?_⟩
          have tp : Tups H2 (upd H2 d (.dT (putK kvs [Sum.inl s', Sum.inl wd, t] (.ref U)))) := Tups.put hd2 (fun _ z => by cases z)
          have hW2 := hW.mono s2
          have vd : lv ≠ d := ne_of hW2.ver hd2 (fun z => nomatch z)
          have hd' : lh ≠ d := ne_of hW2.hel hd2 (fun z => nomatch z)
          have xd : x ≠ d := ne_of (s2 _ _ hx) hd2 (fun z => nomatch z)
          refine q10 hk _ (fun c o e nc => ?_) { ins := ⟨dx, ?_⟩, ver := ?_, hel := ?_, rul := ⟨_, upd_same, ?_⟩, ne := hW.ne, rk := ?_, nd := ?_, len := ⟨hW.len.1, hW.len.2.1, by rw [List.length_append]; show R.length + 1 ≤ 1000; omega⟩ }
          · rw [upd_ne nc]
            exact s2 _ _ e
          · rw [upd_ne xd]
            exact s2 _ _ hx
          · rw [upd_ne vd]
            exact hW2.ver
          · rw [upd_ne hd']
            exact hW2.hel
          · have en2 := putK_new (V.ref U) en
            rw [en2] at tp ⊢
            refine Paired.snoc (KvD.mono tp (KvD.mono (Tups.same s2) hkv)) ⟨rfl, ?_⟩
            have h5' := h5
            rw [ok.d] at h5'
            obtain ⟨a5, xs5, rfl, _, ha5, hs5⟩ := h5'.isTup
            obtain ⟨ks', e1, e2⟩ := srcs_of hs5 (h := hAt hs s') (t := t) (fun e he => by obtain ⟨k, hk, rfl⟩ := List.mem_map.mp he; exact ok.all k hk)
            rw [← map_kD_inj e1] at e2
            subst e2
            exact .tup (tp _ _ hU) (.cons (.int tg) (.cons (.tup (tp _ _ (s2 _ _ ha5)) TDs.keys) .nil))
          · intro k hk2
            rw [List.map_append] at hk2
            rcases List.mem_append.mp hk2 with z | z
            · exact hW.rk k z
            · simp at z
              subst z
              exact ⟨s', wd, t, rfl, tk⟩
          · rw [List.map_append]
            refine List.nodup_append.mpr ⟨hW.nd, by simp, ?_⟩
            intro a ha b hb2
            simp at hb2
            subst hb2
            rintro rfl
            exact hk ha
      · exact ⟨_, rfl, iteT ⟨v5, rfl, v5, rfl, fun e he => q7 bad e he⟩⟩
end
theorem WAt.off {C : Addr} {H : Hp} {x lv lh d a : Addr} {n : Int} {vs hs : List Int} {R : Rows} {o u : HO} (h : WAt C H x lv lh d n vs hs R) (ha : H a = some u) (hu : ∀ xs, u ≠ .tup xs) (n1 : a ≠ x) (n2 : a ≠ lv) (n3 : a ≠ lh) (n4 : a ≠ d) : WAt C (upd H a o) x lv lh d n vs hs R := by
  have tp : Tups H (upd H a o) := Tups.put ha hu
  obtain ⟨⟨dx, b⟩, e, f, ⟨kvs, g, i⟩, ne, j, k, len⟩ := h
  exact ⟨⟨dx, by rw [upd_ne n1.symm]; exact b⟩, by rw [upd_ne n2.symm]; exact e, by rw [upd_ne n3.symm]; exact f, ⟨kvs, by rw [upd_ne n4.symm]; exact g, i.mono tp⟩, ne, j, k, len⟩
theorem TDs.unkeys {H : Hp} : ∀ {xs : List V} {ks : List Key}, TDs H xs (ks.map kD) → xs = ks.map kV
  | _, [], h => by cases h; rfl
  | _, .inl n :: ks, h => by
    cases h with
    | cons a r =>
      cases a
      rw [r.unkeys]
      rfl
  | _, .inr s :: ks, h => by
    cases h with
    | cons a r =>
      cases a
      rw [r.unkeys]
      rfl
theorem lds_keys {p : Addr} {H : Hp} : ∀ ks : List Key, LDs p H (ks.map kV) (ks.map kD)
  | [] => .nil
  | k :: r => .cons (ldK k) (lds_keys r)
theorem val_nodup {kvs : List (List Key × V)} (nd : (kvs.map (·.1)).Nodup) {i : Nat} {k : List Key} {v : V} (h : kvs[i]? = some (k, v)) : valV kvs k = some v := by
  induction kvs generalizing i with
  | nil => simp at h
  | cons p r ih =>
    cases i with
    | zero =>
      have : p = (k, v) := by simpa using h
      subst this
      exact valV_pos rfl
    | succ i =>
      have h' : r[i]? = some (k, v) := by simpa using h
      have nd' := List.nodup_cons.mp nd
      rw [valV_neg, ih nd'.2 h']
      rintro rfl
      exact nd'.1 (List.mem_map.mpr ⟨_, List.mem_of_getElem? h', rfl⟩)
theorem TD.rule {H : Hp} {v : V} {r : Int × List Key} (h : TD H v (ruleD r)) : ∃ a b, v = .ref a ∧ H a = some (.tup [.int r.1, .ref b]) ∧ H b = some (.tup (r.2.map kV)) := by
  obtain ⟨a, xs, rfl, e, t⟩ := h.isTup
  cases t with
  | cons h1 t =>
    cases h1
    cases t with
    | cons h2 t =>
      cases t
      obtain ⟨b, ys, rfl, e2, t2⟩ := h2.isTup
      rw [t2.unkeys] at e2
      exact ⟨a, b, rfl, e, e2⟩
theorem srcOk_are {h m : Int} {t : Key} {ks : List Key} (s : SrcOk h t m ks) : AreSrc (.tuple (ks.map kD)) m h t ks := by
  refine ⟨rfl, s.len, fun k hk => ?_, s.nd⟩
  rcases s.all k hk with ⟨n, rfl, n0, n1⟩ | ⟨rfl, rfl⟩
  · unfold isSrc
    rw [if_neg (by exact Bool.false_ne_true)]
    exact btw_true n0 (by omega)
  · rfl
theorem testOk_is {h : Int} {t : Key} (s : TestOk h t) : isTest (kD t) h = true := by
  rcases s with ⟨n, rfl, n0, n1⟩ | rfl
  · show (false || btw (.int n) 0 (h - 1)) = true
    rw [btw_true n0 (by omega)]
    rfl
  · rfl
theorem smallT_keys {ks : List Key} (h : ks.length ≤ 50) : SmallT (.tuple (ks.map kD)) := by
  show (ks.map kD).length ≤ 50
  rw [List.length_map]
  exact h
theorem hAt_held (ks : List (Int × Int)) (i : Int) : hAt (ks.map (·.2)) i = heldAt ks i := by
  unfold hAt heldAt
  rw [List.getElem?_map]
  cases ks[i.toNat]? <;> rfl
theorem held_bd {ks : List (Int × Int)} (h : KindsOk ks) {i : Int} (h0 : 0 ≤ i) (h1 : i < ks.length) : 0 ≤ heldAt ks i ∧ heldAt ks i ≤ 3 := by
  have hj : i.toNat < ks.length := by omega
  unfold heldAt
  rw [List.getElem?_eq_getElem hj]
  have := h.all ks[i.toNat] (List.getElem_mem hj)
  exact ⟨this.2.2.1, this.2.2.2⟩
def sp_law_built (C : Addr) : Sp := fun us H Q _ => ∃ (l kl rl : Addr) (pl : Plan), us = [.ref l] ∧ PlanAt H l kl rl pl ∧ PlanOk pl ∧
  ∀ x lv lh d H', Same H H' → H x = none → H lv = none → H lh = none → H d = none → WAt C H' x lv lh d pl.words (pl.kinds.map (·.1)) (pl.kinds.map (·.2)) (rowsOf pl.rules) → Q (.ref x) H'
structure Fr (H H' : Hp) (x lv lh d : Addr) : Prop where
  sm : Same H H'
  x : H x = none
  v : H lv = none
  h : H lh = none
  d : H d = none
section
variable {P : Program} {w : World} {K : PySem.W.Frag} {mg : Str → Option Value} {base : Heap}
abbrev N_law_built : List Str := ["plan", "found", "verdict", "held", "state", "word", "test", "target", "sources"]
theorem sc_law_built : FnScope N_law_built ["plan"] (defScope s_law_built) := ⟨rfl, rfl, rfl, by decide +kernel, rfl, by decide +kernel, by decide +kernel⟩
theorem G_law_built (T : Tx K mg) : FnG P w K mg base CX0 6 T.law_built.f T.law_built.fd ["plan"] (sp_law_built T.Watcher.C) := by
  refine okG T.law_built.F sc_law_built (fun vs H Q E h => ?_) (fun cdv A outer s H vs Q E gd hr h => ?_)
  · obtain ⟨l, kl, rl, pl, rfl, _⟩ := h
    rfl
  · obtain ⟨l, kl, rl, pl, rfl, hp, ok, q⟩ := h
    obtain ⟨wd, ks, R⟩ := pl
    obtain ⟨hl, ⟨vs, hk, ht⟩, ⟨kvs, hrl, hkv⟩⟩ := hp
    have hks := ok.k
    have lks := hks.len
    have hw := ok.w
    dsimp only at hl hk ht hrl hkv hks lks hw q
    have lv0 : vs.length = ks.length := ht.msgs_len
    refine ⟨_, 
      (C8.pss_cut (ps_set (i := 1) sc_law_built.nd rfl (.inl rfl) (pe_makeG T.mk_Watcher (G_Watcher_init T) gd (hr.mono (by decide)) rfl T.Watcher.g T.Watcher_init.b .nil passNo (pa_cons (pe_ix ix_list (pv 0) pe_int (fun _ _ => rfl)) pa_nil))) -- found = Watcher(plan[0])
      (C8.pss_cut (ps_expr (pe_methG (pv 1) T.Watcher.cl T.Watcher_set_verdict.M (G_Watcher_set_verdict T) gd (hr.mono (by decide)) T.Watcher_set_verdict.b .nil passNo (pa_cons pe_int (pa_cons (pe_ix ix_tup (pe_ix ix_list (pe_ix ix_list (pv 0) pe_int (fun _ _ => rfl)) pe_int (fun _ _ => rfl)) pe_int (fun _ _ => rfl)) pa_nil)))) -- found.set_verdict(0, plan[1][0][0])
      (C8.pss_cut (ps_for PassesOwn.never rfl (pi_list (pe_slice sl_list (pe_ix ix_list (pv 0) pe_int (fun _ _ => rfl)) (po_some pe_int) po_none)) (pg_tup rfl (pgs_cons (pg_name (i := 2) sc_law_built.nd rfl (.inl rfl)) (pgs_cons (pg_name (i := 3) sc_law_built.nd rfl (.inl rfl)) pgs_nil))) 
        (pss_one (ps_expr (pe_methG (pv 1) T.Watcher.cl T.Watcher_add_state.M (G_Watcher_add_state T) gd (hr.mono (by decide)) T.Watcher_add_state.b .nil passNo (pa_cons (pv 2) (pa_cons (pv 3) pa_nil))))) -- found.add_state(verdict, held)
        ) -- for verdict, held in plan[1][1:]:
      (C8.pss_cut (ps_lock (ps_for PassesOwn.never rfl (pi_keys (pe_ix ix_list (pv 0) pe_int (fun _ _ => rfl))) (pg_tup rfl (pgs_cons (pg_name (i := 4) sc_law_built.nd rfl (.inl rfl)) (pgs_cons (pg_name (i := 5) sc_law_built.nd rfl (.inl rfl)) (pgs_cons (pg_name (i := 6) sc_law_built.nd rfl (.inl rfl)) pgs_nil)))) 
        (pss_cons (ps_asg (pe_dget (hu_of hr) (pe_ix ix_list (pv 0) pe_int (fun _ _ => rfl)) (pe_tup (pa_cons (pv 4) (pa_cons (pv 5) (pa_cons (pv 6) pa_nil)))) (fun _ _ => rfl)) (pg_tup rfl (pgs_cons (pg_name (i := 7) sc_law_built.nd rfl (.inl rfl)) (pgs_cons (pg_name (i := 8) sc_law_built.nd rfl (.inl rfl)) pgs_nil)))) -- target, sources = plan[2][state, word, test]
        (pss_one (ps_expr (pe_methG (pv 1) T.Watcher.cl T.Watcher_add_rule.M (G_Watcher_add_rule T) gd (hr.mono (by decide)) T.Watcher_add_rule.b .nil passNo (pa_cons (pv 4) (pa_cons (pv 5) (pa_cons (pv 6) (pa_cons (pv 7) (pa_cons (pv 8) pa_nil)))))))) -- found.add_rule(state, word, test, target, sources)
        ))) -- for state, word, test in plan[2]:
      (pss_one (ps_ret (pv 1))) -- return found
      )))) , ?_⟩
    refine ⟨fun σ H' => ∃ x lv lh d, σ = [some (.ref l), some (.ref x), none, none, none, none, none, none, none] ∧ Fr H H' x lv lh d ∧ WAt T.Watcher.C H' x lv lh d wd [0] [0] [], ?_, ?_⟩
    · refine ⟨.ref l, rfl, l, _, 0, .int wd, rfl, rfl, SqL.of hl, atI_nat (j := 0) rfl, fun x dx nx ndx ne => ?_⟩
      have sX : Same H (upd (upd H dx (.own x)) x (.ins T.Watcher.C dx [])) := (same_new ndx).trans (same_new (by rw [upd_ne ne.symm]; exact nx))
      refine ⟨x, x, dx, .int wd, .int wd, rfl, upd_same, .int _, fun n en n0 n1 H' lv lh dd b' f1 f2 f3 hW => ⟨rfl, ?_⟩, fun bad e he => ?_⟩
      · cases en
        exact ⟨x, lv, lh, dd, rfl, ⟨fun c o e => b' c o (sX c o e) (ne_of_none e nx), nx, sX.free f1, sX.free f2, sX.free f3⟩, hW⟩
      · rw [btw_true hw.1 hw.2] at bad
        cases bad
    rintro σ H1 ⟨x, lv, lh, d, rfl, F, hW⟩
    obtain ⟨a0, v0, ea0, ha0, em0⟩ := kinds_at ht (Int.le_refl 0) (by omega)
    have hz := hks.zero
    rw [hz] at ha0 em0
    have bd0 := kinds_bd hks.all em0
    refine ⟨fun σ H' => σ = [some (.ref l), some (.ref x), none, none, none, none, none, none, none] ∧ Fr H H' x lv lh d ∧ WAt T.Watcher.C H' x lv lh d wd ((ks.take 1).map (·.1)) ((ks.take 1).map (·.2)) [], ?_, ?_⟩
    · obtain ⟨dx, hx⟩ := hW.ins
      refine ⟨.ref x, rfl, x, dx, _, rfl, hx, rfl, .ref l, rfl, l, _, 1, .ref kl, rfl, rfl, SqL.of (F.sm _ _ hl), atI_nat (j := 1) rfl, kl, vs, 0, .ref a0, rfl, rfl, SqL.of (F.sm _ _ hk), ea0, a0, _, 0, .int v0, rfl, rfl, SqT.of (F.sm _ _ ha0), atI_nat (j := 0) rfl, ?_⟩
      refine ⟨x, lv, lh, d, wd, [0], [0], [], x, .int 0, .int v0, .int 0, .int v0, rfl, hW, .int _, .int _, fun bad => ?_, fun _ bad => ?_, fun s v es ev _ _ _ _ H' k1 hW' => ?_⟩
      · cases bad
      · rw [btw_true bd0.1 bd0.2.1] at bad
        cases bad
      · cases es
        cases ev
        have e1 : ks.take 1 = [(v0, 0)] := by
          cases ks with
          | nil => cases em0
          | cons k r =>
            have : k = (v0, 0) := by simpa using em0
            rw [this]
            rfl
        rw [e1]
        exact ⟨rfl, ⟨fun c o e => k1 c o (F.sm c o e) (ne_of_none e F.v), F.x, F.v, F.h, F.d⟩, hW'⟩
    rintro σ H2 ⟨rfl, F, hW⟩
    refine ⟨fun σ H' => ∃ y1 y2, σ = [some (.ref l), some (.ref x), y1, y2, none, none, none, none, none] ∧ Fr H H' x lv lh d ∧ WAt T.Watcher.C H' x lv lh d wd (ks.map (·.1)) (ks.map (·.2)) [], ?_, ?_⟩
    · refine ⟨.ref l, rfl, l, _, 1, .ref kl, rfl, rfl, SqL.of (F.sm _ _ hl), atI_nat (j := 1) rfl, 1, rfl, kl, vs, rfl, SqL.of (F.sm _ _ hk), fun b nb => ?_⟩
      have sb : Same H2 (upd H2 b (.lst (cutV vs (some 1) none))) := same_new nb
      have hb : (upd H2 b (.lst (cutV vs (some 1) none))) b = some (.lst (cutV vs (some 1) none)) := upd_same
      have hu : TDs H (cutV vs (some 1) none) ((ks.drop 1).map msgD) := by
        have e := ht.cut (some ((1 : Nat) : Int)) none
        rw [cutA_from _ (by rw [List.length_map]; exact lks.1), ← List.map_drop] at e
        exact e
      have fb := F.sm.free nb
      have F3 : Fr H (upd H2 b (.lst (cutV vs (some 1) none))) x lv lh d := ⟨F.sm.trans sb, F.x, F.v, F.h, F.d⟩
      have W3 := hW.mono sb
      generalize cutV vs (some 1) none = us at *
      generalize upd H2 b (.lst us) = H3 at *
      have lu : us.length = (ks.drop 1).length := hu.msgs_len
      rw [List.length_drop] at lu
      have bv : b ≠ lv := fun e => by
        have z := W3.ver
        rw [← e, hb] at z
        have := W3.len
        subst e
        rw [hW.ver] at nb
        cases nb
      have bh : b ≠ lh := fun e => by
        subst e
        rw [hW.hel] at nb
        cases nb
      refine ⟨b, rfl, ⟨_, SqL.of hb⟩, ?_⟩
      refine for_list (xs := us) (fun i σ H' => ∃ y1 y2, σ = [some (.ref l), some (.ref x), y1, y2, none, none, none, none, none] ∧ Fr H H' x lv lh d ∧ WAt T.Watcher.C H' x lv lh d wd ((ks.take (1 + i)).map (·.1)) ((ks.take (1 + i)).map (·.2)) [] ∧ H' b = some (.lst us)) ?_ ?_ ?_ ?_
      · exact ⟨none, none, rfl, F3, W3, hb⟩
      · rintro i σ H' hi ⟨y1, y2, rfl, F, hW, hb⟩
        exact SqL.of hb
      · rintro i y σ H' hi ⟨y1, y2, rfl, F, hW, hb⟩
        obtain ⟨m, a, em, rfl, ha⟩ := hu.msg hi
        rw [List.getElem?_drop] at em
        have bm := kinds_bd hks.all em
        have il : i < ks.length - 1 := by have := (List.getElem?_eq_some_iff.mp hi).1; omega
        obtain ⟨dx, hx⟩ := hW.ins
        refine ⟨a, [.int m.1, .int m.2], rfl, SqT.of (F.sm _ _ ha), rfl, .int m.1, [.int m.2], rfl, .int m.2, [], rfl, rfl, ?_⟩
        have lt : ((ks.take (1 + i)).map (·.1)).length = 1 + i := by rw [List.length_map, List.length_take]; omega
        refine ⟨.ref x, rfl, x, dx, _, rfl, hx, rfl, .int m.1, rfl, .int m.2, rfl, x, lv, lh, d, wd, _, _, [], x, .int m.1, .int m.2, .int m.1, .int m.2, rfl, hW, .int _, .int _, fun bad => ?_, fun _ bad => ?_, fun _ _ six => ?_, fun a b ea eb _ _ _ H'' k1 hW' => ?_⟩
        · rw [btw_true bm.1 bm.2.1] at bad
          cases bad
        · rw [btw_true bm.2.2.1 bm.2.2.2] at bad
          cases bad
        · omega
        · cases ea
          cases eb
          have et : ks.take (1 + (i + 1)) = ks.take (1 + i) ++ [m] := by
            rw [show 1 + (i + 1) = (1 + i) + 1 from rfl, List.take_add_one, em]
            rfl
          rw [et, List.map_append, List.map_append]
          exact ⟨_, _, rfl, ⟨fun c o e => k1 c o (F.sm c o e) (ne_of_none e F.v) (ne_of_none e F.h), F.x, F.v, F.h, F.d⟩, hW', k1 _ _ hb bv bh⟩
      · rintro σ H' ⟨y1, y2, rfl, F, hW, hb⟩
        rw [List.take_of_length_le (by omega)] at hW
        exact ⟨y1, y2, rfl, F, hW⟩
    rintro σ H3 ⟨y1, y2, rfl, F, hW⟩
    refine ⟨fun σ H' => σ[1]? = some (some (.ref x)) ∧ Fr H H' x lv lh d ∧ WAt T.Watcher.C H' x lv lh d wd (ks.map (·.1)) (ks.map (·.2)) (rowsOf R), ?_, ?_⟩
    · have hrl3 := F.sm _ _ hrl
      refine ⟨rl, _, hrl3, trivial, fun od => ?_⟩
      have nx : rl ≠ x := ne_of_none hrl F.x
      have nv : rl ≠ lv := ne_of_none hrl F.v
      have nh : rl ≠ lh := ne_of_none hrl F.h
      have nd : rl ≠ d := ne_of_none hrl F.d
      have nl : l ≠ rl := ne_of hl hrl (fun z => nomatch z)
      have tpo : Tups H3 (upd H3 rl (.frz od (.dT kvs))) := Tups.put hrl3 (fun _ z => nomatch z)
      have W4 := hW.off (o := .frz od (.dT kvs)) hrl3 (fun _ z => nomatch z) nx nv nh nd
      have k4 : ∀ c o, H c = some o → c ≠ rl → (upd H3 rl (.frz od (.dT kvs))) c = some o := fun c o e n => by rw [upd_ne n]; exact F.sm c o e
      have hf4 : (upd H3 rl (.frz od (.dT kvs))) rl = some (.frz od (.dT kvs)) := upd_same
      generalize upd H3 rl (.frz od (.dT kvs)) = H4 at *
      refine ⟨.ref l, rfl, l, _, 2, .ref rl, rfl, rfl, SqL.of (k4 _ _ hl nl), atI_nat (j := 2) rfl, rl, od, rfl, .inr ⟨kvs, hf4, ?_⟩⟩
      have lkv : kvs.length = R.length := by
        have := congrArg List.length hkv.keys
        rw [List.length_map, rowsOf_keys, List.length_map] at this
        exact this
      refine for_it walk_keysT (fun i σ H' => ∃ y1 y2 y3 y4 y5 y6 y7, σ = [some (.ref l), some (.ref x), y1, y2, y3, y4, y5, y6, y7] ∧ (∀ c o, H c = some o → c ≠ rl → H' c = some o) ∧ H' rl = some (.frz od (.dT kvs)) ∧ WAt T.Watcher.C H' x lv lh d wd (ks.map (·.1)) (ks.map (·.2)) (rowsOf (R.take i))) ?_ ?_ ?_ ?_
      · exact ⟨y1, y2, none, none, none, none, none, rfl, k4, hf4, W4⟩
      · rintro i σ H' hi ⟨y1, y2, y3, y4, y5, y6, y7, rfl, k5, hf, hW⟩
        exact hf
      · rintro i y σ H0 H' hi ⟨y1, y2, y3, y4, y5, y6, y7, rfl, k5, hf, hW⟩ ⟨rfl, k, v, qa, ekv, rfl, hq⟩
        have tH : Tups H H' := fun a xs e => k5 a _ e (ne_of e hrl (fun z => nomatch z))
        have hiR : i < R.length := by omega
        obtain ⟨r, er⟩ : ∃ r, R[i]? = some r := ⟨R[i], List.getElem?_eq_getElem hiR⟩
        have rok := ok.r r (List.mem_of_getElem? er)
        have hpair := paired_get hkv ekv
        obtain ⟨rr, err, e1, tv⟩ := hpair
        have err' : rr = (r.1, ruleD r.2) := by
          have : (rowsOf R)[i]? = some (r.1, ruleD r.2) := by
            unfold rowsOf
            rw [List.getElem?_map, er]
            rfl
          rw [this] at err
          exact (Option.some.inj err).symm
        subst err'
        have e1' : k = r.1 := e1
        subst e1'
        obtain ⟨rk, tg, sk⟩ := r
        obtain ⟨si, wj, t, rfl, i0, i1, j0, j1, tok, g0, g1, sok⟩ := rok
        dsimp only at i0 i1 j0 j1 tok g0 g1 sok hq
        obtain ⟨ra, sa, rfl, hra, hsa⟩ := TD.rule (TD.mono tH _ tv)
        have kn := List.pairwise_iff_getElem.mp (show (R.map (·.1)).Nodup from ok.nd)
        refine ⟨qa, [.int si, .int wj, kV t], rfl, SqT.of hq, rfl, .int si, [.int wj, kV t], rfl, .int wj, [kV t], rfl, kV t, [], rfl, rfl, ?_⟩
        refine ⟨.ref l, rfl, l, _, 2, .ref rl, rfl, rfl, SqL.of (k5 _ _ hl nl), atI_nat (j := 2) rfl, .int si, rfl, .int wj, rfl, kV t, rfl, by show 3 ≤ sizeLine; decide, fun tt ntt => ?_⟩
        have st : Same H' (upd H' tt (.tup [.int si, .int wj, kV t])) := same_new ntt
        have W5 := hW.mono st
        have htt : (upd H' tt (.tup [.int si, .int wj, kV t])) tt = some (.tup (([Sum.inl si, Sum.inl wj, t] : List Key).map kV)) := upd_same
        have hf5 := st _ _ hf
        have hra5 := st _ _ hra
        have hsa5 := st _ _ hsa
        have k6 : ∀ c o, H c = some o → c ≠ rl → (upd H' tt (.tup [.int si, .int wj, kV t])) c = some o := fun c o e n => st _ _ (k5 c o e n)
        generalize upd H' tt (.tup [.int si, .int wj, kV t]) = H5 at *
        have ndk : (kvs.map (·.1)).Nodup := by rw [hkv.keys, rowsOf_keys]; exact ok.nd
        have evv : valV kvs [Sum.inl si, Sum.inl wj, t] = some (.ref ra) := val_nodup ndk ekv
        refine ⟨rl, .ref ra, rfl, .inr ⟨kvs, [Sum.inl si, Sum.inl wj, t], tt, .inr ⟨od, hf5⟩, rfl, htt, evv.symm⟩, ra, _, rfl, SqT.of hra5, rfl, .int tg, [.ref sa], rfl, .ref sa, [], rfl, rfl, ?_⟩
        obtain ⟨dx, hx⟩ := W5.ins
        have hb1 := held_bd hks i0 i1
        have hb2 := held_bd hks g0 g1
        have sl : sk.length ≤ 50 := by have := sok.len; omega
        have l1 : (ks.map (·.1)).length = ks.length := List.length_map _
        have nk : [Sum.inl si, Sum.inl wj, t] ∉ (rowsOf (R.take i)).map (·.1) := by
          rw [rowsOf_keys, List.map_take]
          intro z
          obtain ⟨j, hj, e⟩ := List.getElem_of_mem z
          rw [List.length_take, List.length_map] at hj
          rw [List.getElem_take] at e
          have e3 : (R.map (·.1))[i]'(by rw [List.length_map]; exact hiR) = [Sum.inl si, Sum.inl wj, t] := by
            rw [List.getElem_map]
            have := (List.getElem?_eq_some_iff.mp er).2
            rw [this]
          exact kn j i (by rw [List.length_map]; omega) (by rw [List.length_map]; exact hiR) (by omega) (e.trans e3.symm)
        have lt : (rowsOf (R.take i)).length < 1000 := by
          unfold rowsOf
          rw [List.length_map, List.length_take]
          have := ok.len
          dsimp only at this
          omega
        refine ⟨.ref x, rfl, x, dx, _, rfl, hx, rfl, .int si, rfl, .int wj, rfl, kV t, rfl, .int tg, rfl, .ref sa, rfl, x, lv, lh, d, wd, _, _, _, x, .int si, .int wj, kV t, .int tg, .ref sa, .int si, .int wj, kD t, .int tg, .tuple (sk.map kD), rfl, W5, .int _, .int _, ldK t, .int _, .tup (ne_of hsa5 hx (fun z => nomatch z)) hsa5 (lds_keys sk), kD_nd t, smallT_keys sl, lt, fun bad => ?_, fun _ bad => ?_, fun _ _ bad => ?_, fun s' tg' w' es eg ew _ _ _ _ _ _ => ⟨fun bad => ?_, fun t' ev ed _ => ⟨fun bad => ?_, fun ks' are => ⟨fun z => ?_, fun _ H' k7 hW' => ?_⟩⟩⟩⟩
        · rw [l1, btw_true i0 (by omega)] at bad
          cases bad
        · rw [l1, btw_true g0 (by omega)] at bad
          cases bad
        · rw [btw_true j0 (by omega)] at bad
          cases bad
        · cases es
          rw [hAt_held, testOk_is tok] at bad
          cases bad
        · cases es
          cases eg
          have := kD_inj ed
          subst this
          rw [hAt_held, hAt_held] at bad
          exact absurd ⟨sk, srcOk_are sok⟩ bad
        · cases es
          cases ew
          have := kD_inj ed
          subst this
          exact absurd z nk
        · cases es
          cases eg
          cases ew
          have := kD_inj ed
          subst this
          have e9 := map_kD_inj (PyData.tuple.inj are.d)
          subst e9
          have et : R.take (i + 1) = R.take i ++ [([Sum.inl si, Sum.inl wj, t], tg, sk)] := by rw [List.take_add_one, er]; rfl
          refine ⟨_, _, _, _, _, _, _, rfl, fun c o e n => k7 c o (k6 c o e n) (ne_of_none e F.d), k7 _ _ hf5 nd, ?_⟩
          rw [et, rowsOf_snoc]
          exact hW'
      · rintro σ H' ⟨y1, y2, y3, y4, y5, y6, y7, rfl, k5, hf, hW⟩
        rw [lkv, List.take_length] at hW
        refine ⟨hf, rfl, ⟨fun c o e => ?_, F.x, F.v, F.h, F.d⟩, hW.off hf (fun _ z => nomatch z) nx nv nh nd⟩
        by_cases e2 : c = rl
        · subst e2
          rw [hrl] at e
          cases e
          exact upd_same
        · rw [upd_ne e2]
          exact k5 c o e e2
    rintro σ H4 ⟨es, F, hW⟩
    exact ⟨.ref x, es, q x lv lh d H4 F.sm F.x F.v F.h F.d hW⟩
end
section
variable {P : Program} {w : World} {K : PySem.W.Frag} {mg : Str → Option Value} {base : Heap}
theorem G_Watcher_len (T : Tx K mg) : FnG P w K mg base CX0 1 T.Watcher_len.f T.Watcher_len.fd ["self"] (sp_W_len T.Watcher.C) := ok_Watcher_len T.Watcher_len.F T.W T.m_len
theorem G_Watcher_verdicts (T : Tx K mg) : FnG P w K mg base CX0 1 T.Watcher_verdicts.f T.Watcher_verdicts.fd ["self"] (sp_W_ver T.Watcher.C) := ok_Watcher_verdicts T.Watcher_verdicts.F T.W T.m_tuple
theorem G_Watcher_held_counts (T : Tx K mg) : FnG P w K mg base CX0 1 T.Watcher_held_counts.f T.Watcher_held_counts.fd ["self"] (sp_W_hel T.Watcher.C) := ok_Watcher_held_counts T.Watcher_held_counts.F T.W T.m_tuple
end
theorem val_no {κ : Type} [DecidableEq κ] {kvs : List (κ × V)} {k : κ} (h : k ∉ kvs.map (·.1)) : valV kvs k = none := by
  unfold valV
  rw [List.find?_eq_none.mpr]
  · rfl
  · intro y hy
    simp only [decide_eq_true_eq]
    intro e
    exact h (List.mem_map.mpr ⟨y, hy, e⟩)
section
variable {P : Program} {w : World} {K : PySem.W.Frag} {mg : Str → Option Value} {base : Heap}
abbrev N_Watcher_rule_for : List Str := ["self", "state", "word", "test"]
theorem sc_Watcher_rule_for : FnScope N_Watcher_rule_for ["self", "state", "word", "test"] (defScope s_Watcher_rule_for) := ⟨rfl, rfl, rfl, by decide +kernel, rfl, by decide +kernel, by decide +kernel⟩
theorem G_Watcher_rule_for (T : Tx K mg) : FnG P w K mg base CX0 1 T.Watcher_rule_for.f T.Watcher_rule_for.fd ["self", "state", "word", "test"] (sp_rule_for T.Watcher.C) := by
  refine okG T.Watcher_rule_for.F sc_Watcher_rule_for (fun vs H Q E h => ?_) (fun cdv A outer s H vs Q E gd hr h => ?_)
  · obtain ⟨x, lv, lh, d, n, vs, hs, R, s', w', t, rfl, _⟩ := h
    rfl
  · obtain ⟨x, lv, lh, d, n, vs, hs, R, s', w', t, rfl, hW, q1, q2⟩ := h
    refine ⟨_, 
      (pss_one (ps_ret (pe_dget1 (hu_of hr) (pe_fld (pv 0) rfl) (pe_tup (pa_cons (pv 1) (pa_cons (pv 2) (pa_cons (pv 3) pa_nil)))) ⟨by rfl, by rfl, by rfl, by rfl⟩))) -- return self._rules.get((state, word, test))
       , ?_⟩
    obtain ⟨dx, hx⟩ := hW.ins
    obtain ⟨kvs, hd, hkv⟩ := hW.rul
    refine ⟨.ref x, rfl, x, T.Watcher.C, dx, _, .ref d, rfl, hx, T.Watcher.cl, T.W.n4, rfl, d, rfl, .inr ⟨kvs, .inl hd⟩, .int s', rfl, .int w', rfl, kV t, rfl, by show 3 ≤ sizeLine; decide, fun tt nt => ?_⟩
    have sm : Same H (upd H tt (.tup [.int s', .int w', kV t])) := same_new nt
    refine ⟨_, DGet.t (k := [Sum.inl s', Sum.inl w', t]) (sm _ _ hd) upd_same, ?_⟩
    by_cases hk : [Sum.inl s', Sum.inl w', t] ∈ R.map (·.1)
    · obtain ⟨v, ev, tv⟩ := hkv.val hk
      rw [ev]
      exact q2 hk v _ sm (tv.mono (Tups.same sm))
    · have en : valV kvs [Sum.inl s', Sum.inl w', t] = none := by
        unfold valV
        rw [List.find?_eq_none.mpr]
        · rfl
        · intro y hy
          simp only [decide_eq_true_eq]
          intro e
          exact hk (e ▸ hkv.keys ▸ List.mem_map.mpr ⟨y, hy, rfl⟩)
      rw [en]
      exact q1 hk _ sm
end
def lookP (R : List PRule) (k : List Key) : Option (Int × List Key) := (R.find? fun r => decide (r.1 = k)).map (·.2)
theorem lookP_none {R : List PRule} {k : List Key} (h : lookP R k = none) : k ∉ (rowsOf R).map (·.1) := by
  rw [rowsOf_keys]
  intro z
  obtain ⟨r, hr, e⟩ := List.mem_map.mp z
  unfold lookP at h
  rw [Option.map_eq_none_iff, List.find?_eq_none] at h
  exact h r hr (decide_eq_true e)
theorem lookP_some {R : List PRule} {k : List Key} {v : Int × List Key} (h : lookP R k = some v) : (k, v) ∈ R ∧ k ∈ (rowsOf R).map (·.1) ∧ lookR (rowsOf R) k = ruleD v := by
  unfold lookP at h
  obtain ⟨r, e, rfl⟩ := Option.map_eq_some_iff.mp h
  have hk : r.1 = k := by simpa using List.find?_some e
  have hm := List.mem_of_find?_eq_some e
  subst hk
  refine ⟨hm, by rw [rowsOf_keys]; exact List.mem_map.mpr ⟨r, hm, rfl⟩, ?_⟩
  unfold lookR rowsOf
  rw [List.find?_map]
  have e2 : (R.find? ((fun p : List Key × PyData => decide (p.1 = r.1)) ∘ fun p : PRule => (p.1, ruleD p.2))) = some r := e
  rw [e2]
  rfl
def testV (held : List Int) (v : Int) : Key := if v ∈ held then Sum.inl (held.idxOf v : Nat) else Sum.inr ("new" : Str)
def srcV (held : List Int) (v : Int) : Key → Int
  | .inl n => (held[n.toNat]?).getD 0
  | .inr _ => v
def carryK (src : List Key) (held : List Int) (v : Int) : List Int := src.map (srcV held v)
def stepM (R : List PRule) (s : Int × List Int) (m : Int × Int) : Int × List Int :=
  match lookP R [Sum.inl s.1, Sum.inl m.1, testV s.2 m.2] with
  | none => s
  | some r => (r.1, carryK r.2 s.2 m.2)
def runM (R : List PRule) (s : Int × List Int) (ms : List (Int × Int)) : Int × List Int := ms.foldl (stepM R) s
def SrcIn (held : List Int) (k : Key) : Prop := (∃ n : Int, k = Sum.inl n ∧ 0 ≤ n ∧ n < held.length) ∨ k = Sum.inr ("value" : Str)
structure StOk (kinds : List (Int × Int)) (s : Int × List Int) : Prop where
  lo : 0 ≤ s.1
  hi : s.1 < kinds.length
  len : (s.2.length : Int) = heldAt kinds s.1
theorem step_in {w : Int} {kinds : List (Int × Int)} {R : List PRule} (hR : ∀ r ∈ R, RuleOk w kinds r) {s : Int × List Int} (hs : StOk kinds s) {m : Int × Int} {r : Int × List Key} (h : lookP R [Sum.inl s.1, Sum.inl m.1, testV s.2 m.2] = some r) :
    (∀ k ∈ r.2, SrcIn s.2 k) ∧ StOk kinds (r.1, carryK r.2 s.2 m.2) := by
  obtain ⟨i, j, t, e, i0, i1, j0, j1, tok, g0, g1, sok⟩ := hR _ (lookP_some h).1
  dsimp only at e tok g0 g1 sok
  have ei : i = s.1 := by
    have := (List.cons.inj e).1
    exact (Sum.inl.inj this).symm
  subst ei
  refine ⟨fun k hk => ?_, ⟨g0, g1, ?_⟩⟩
  · rcases sok.all k hk with ⟨n, rfl, n0, n1⟩ | ⟨rfl, _⟩
    · exact .inl ⟨n, rfl, n0, by rw [hs.len]; exact n1⟩
    · exact .inr rfl
  · unfold carryK
    rw [List.length_map]
    exact sok.len
theorem step_ok {w : Int} {kinds : List (Int × Int)} {R : List PRule} (hR : ∀ r ∈ R, RuleOk w kinds r) {s : Int × List Int} (hs : StOk kinds s) (m : Int × Int) : StOk kinds (stepM R s m) := by
  unfold stepM
  split
  · exact hs
  · exact (step_in hR hs (by assumption)).2
theorem run_ok {w : Int} {kinds : List (Int × Int)} {R : List PRule} (hR : ∀ r ∈ R, RuleOk w kinds r) : ∀ (ms : List (Int × Int)) {s : Int × List Int}, StOk kinds s → StOk kinds (runM R s ms)
  | [], _, h => h
  | m :: ms, _, h => run_ok hR ms (step_ok hR h m)
/-- a state with its held values, at v -/
def StAt (H : Hp) (v : V) (s : Int × List Int) : Prop := ∃ r a, v = .ref r ∧ H r = some (.tup [.int s.1, .ref a]) ∧ HT H a s.2
theorem StAt.mono {H H' : Hp} {v : V} {s : Int × List Int} (h : StAt H v s) (e : Same H H') : StAt H' v s := by
  obtain ⟨r, a, rfl, h1, h2⟩ := h
  exact ⟨r, a, rfl, e _ _ h1, h2.mono e⟩
def stD (s : Int × List Int) : PyData := .tuple [.int s.1, .tuple (s.2.map .int)]
theorem StAt.dp {K : PySem.W.Frag} {H : Hp} {v : V} {s : Int × List Int} (h : StAt H v s) : Dp K H v (stD s) := by
  obtain ⟨r, a, rfl, h1, h2⟩ := h
  exact .tup (SqT.of h1) (.cons (.int _) (.cons (.tup h2.sq (dp_ints _ _ _)) .nil))
def sp_carried : Sp := fun us H Q _ => ∃ (sa ha : Addr) (src : List Key) (held : List Int) (v : Int), us = [.ref sa, .ref ha, .int v] ∧ H sa = some (.tup (src.map kV)) ∧ HT H ha held ∧ (∀ k ∈ src, SrcIn held k) ∧ src.length ≤ 1000 ∧
  ∀ a H', Same H H' → H a = none → HT H' a (carryK src held v) → Q (.ref a) H'
/-- the watcher that a plan makes -/
structure WP (C : Addr) (H : Hp) (x lv lh d : Addr) (P : Plan) : Prop where
  w : WAt C H x lv lh d P.words (P.kinds.map (·.1)) (P.kinds.map (·.2)) (rowsOf P.rules)
  ok : PlanOk P
theorem WP.mono {C : Addr} {H H' : Hp} {x lv lh d : Addr} {P : Plan} (h : WP C H x lv lh d P) (e : Same H H') : WP C H' x lv lh d P := ⟨h.w.mono e, h.ok⟩
def sp_after (C : Addr) : Sp := fun us H Q _ => ∃ (x lv lh d ha : Addr) (pl : Plan) (s : Int) (held : List Int) (w v : Int), us = [.ref x, .int s, .ref ha, .int w, .int v] ∧ WP C H x lv lh d pl ∧ HT H ha held ∧ StOk pl.kinds (s, held) ∧
  ∀ u H', Same H H' → StAt H' u (stepM pl.rules (s, held) (w, v)) → Q u H'
/-- a stream of ints at t -/
def StrmAt (K : PySem.W.Frag) (H : Hp) (t : Addr) (ms : List (Int × Int)) : Prop := ∃ xs, SqT K H t xs ∧ TDs H xs (ms.map msgD)
theorem StrmAt.mono {K : PySem.W.Frag} {H H' : Hp} {t : Addr} {ms : List (Int × Int)} (h : StrmAt K H t ms) (e : Same H H') : StrmAt K H' t ms := by
  obtain ⟨xs, h1, h2⟩ := h
  refine ⟨xs, ?_, h2.mono (Tups.same e)⟩
  rcases h1 with (h1 | ⟨o, h1⟩) | h1
  · exact .inl (.inl (e _ _ h1))
  · exact .inl (.inr ⟨o, e _ _ h1⟩)
  · exact .inr h1
theorem idx_first {held : List Int} {v : Int} (h : v ∈ held) : held[held.idxOf v]? = some v ∧ ∀ m, m < held.idxOf v → held[m]? ≠ some v := by
  induction held with
  | nil => cases h
  | cons x r ih =>
    by_cases e : x = v
    · subst e
      rw [List.idxOf_cons_self]
      exact ⟨rfl, fun m hm => absurd hm (Nat.not_lt_zero _)⟩
    · have hr : v ∈ r := by
        rcases List.mem_cons.mp h with z | z
        · exact absurd z.symm e
        · exact z
      obtain ⟨a, b⟩ := ih hr
      have e2 : (x :: r).idxOf v = r.idxOf v + 1 := by rw [List.idxOf_cons, beq_eq_false_iff_ne.mpr e]; rfl
      rw [e2]
      refine ⟨by simpa using a, fun m hm => ?_⟩
      cases m with
      | zero => simpa using e
      | succ m => simpa using b m (by omega)
section
variable {P : Program} {w : World} {K : PySem.W.Frag} {mg : Str → Option Value} {base : Heap}
abbrev N_carried : List Str := ["sources", "held", "value", "source"]
theorem sc_carried : FnScope N_carried ["sources", "held", "value"] (defScope s_carried) := ⟨rfl, rfl, rfl, by decide +kernel, rfl, by decide +kernel, by decide +kernel⟩
theorem G_carried (T : Tx K mg) : FnG P w K mg base CX0 1 T.carried.f T.carried.fd ["sources", "held", "value"] sp_carried := by
  refine okG T.carried.F sc_carried (fun vs H Q E h => ?_) (fun cdv A outer s H vs Q E gd hr h => ?_)
  · obtain ⟨sa, ha, src, held, v, rfl, _⟩ := h
    rfl
  · obtain ⟨sa, ha, src, held, v, rfl, hs, hh, hin, ls, q⟩ := h
    refine ⟨_, 
      (pss_one (ps_ret (pe_callTy call_tupleF (by rfl) T.m_tuple (by decide +kernel) (pa_cons (pe_lc (own := [("source", 3)]) (g := gName 3) rfl sc_carried.nd (pi_tup (pv 0)) (blkOk_by (N := N_carried) (sc := defScope s_carried) (by decide +kernel)) (fun _ _ _ _ _ => (pg_name (i := 3) sc_carried.nd rfl (.inl rfl))) (fun _ _ _ _ _ => pts_nil) (fun _ _ _ _ _ => (pe_ifExp (pt_cmpR (op_eqS hr.units) (pv 3) (pe_glob (v := .str "value") rfl T.g_VALUE ⟨_, rfl⟩) (nomark _)) (pv 2) (pe_ix (r := rIxT K) ix_tup (pv 1) (pv 3) (fun _ _ => rfl))))) pa_nil)))) -- return tuple([value if source == VALUE else held[source] for source in sources])
       , ?_⟩
    refine ⟨.ref sa, rfl, sa, rfl, ⟨_, SqT.of hs⟩, fun D nD => ?_⟩
    refine lc_tup (K := K) (a := sa) (xs := src.map kV) (fun i H' => Same H H' ∧ H' D = some (.lst ((carryK (src.take i) held v).map V.int))) ?_ ?_ ?_ ?_
    · exact ⟨same_new nD, upd_same⟩
    · rintro i H' hi ⟨sm, hD⟩
      exact SqT.of (sm _ _ hs)
    · rintro i x H' hi ⟨sm, hD⟩
      rw [List.getElem?_map] at hi
      obtain ⟨k, ek, rfl⟩ := Option.map_eq_some_iff.mp hi
      have kin := hin k (List.mem_of_getElem? ek)
      have fin : ∀ y : Int, y = srcV held v k → (∃ acc, H' D = some (.lst acc) ∧ acc.length < sizeLine ∧ (Same H (upd H' D (.lst (acc ++ [V.int y]))) ∧ (upd H' D (.lst (acc ++ [V.int y]))) D = some (.lst ((carryK (src.take (i + 1)) held v).map V.int)))) := fun y hy => by
        refine ⟨_, hD, ?_, fun b o e => ?_, ?_⟩
        · rw [List.length_map, carryK, List.length_map, List.length_take]
          exact small1000 (by omega)
        · have : b ≠ D := ne_of_none e nD
          rw [upd_ne this]
          exact sm _ _ e
        · rw [upd_same, List.take_add_one, ek]
          unfold carryK
          rw [List.map_append, List.map_append, hy]
          rfl
      refine ⟨rfl, kV k, rfl, sa, kD k, "value", ldK k, kD_nd k, rfl, _, rfl, ?_⟩
      rcases kin with ⟨n, rfl, n0, n1⟩ | rfl
      · refine iteF ?_
        refine ⟨.ref ha, rfl, .int n, rfl, ha, held.map V.int, n, .int (srcV held v (.inl n)), rfl, rfl, (hh.mono sm).sq, ?_, fin _ rfl⟩
        obtain ⟨j, rfl⟩ : ∃ j : Nat, n = j := ⟨n.toNat, by omega⟩
        have hj : j < held.length := by omega
        refine atI_nat ?_
        rw [List.getElem?_map, List.getElem?_eq_getElem hj]
        show _ = some (V.int ((held[((j : Nat) : Int).toNat]?).getD 0))
        rw [Int.toNat_natCast, List.getElem?_eq_getElem hj]
        rfl
      · exact iteT ⟨.int v, rfl, fin v rfl⟩
    · rintro H' ⟨sm, hD⟩
      rw [List.length_map, List.take_length] at hD
      refine ⟨D, _, rfl, SqL.of hD, fun a ob na hob => ?_⟩
      exact q a _ (sm.trans (same_new na)) (sm.free na) ⟨ob, upd_same, hob⟩
abbrev N_after_message : List Str := ["watcher", "state", "held", "word", "value", "test", "rule", "target", "sources"]
theorem sc_after_message : FnScope N_after_message ["watcher", "state", "held", "word", "value"] (defScope s_after_message) := ⟨rfl, rfl, rfl, by decide +kernel, rfl, by decide +kernel, by decide +kernel⟩
theorem G_after_message (T : Tx K mg) : FnG P w K mg base CX0 2 T.after_message.f T.after_message.fd ["watcher", "state", "held", "word", "value"] (sp_after T.Watcher.C) := by
  refine okG T.after_message.F sc_after_message (fun vs H Q E h => ?_) (fun cdv A outer s H vs Q E gd hr h => ?_)
  · obtain ⟨x, lv, lh, d, ha, pl, s', held, w', v, rfl, _⟩ := h
    rfl
  · obtain ⟨x, lv, lh, d, ha, pl, s', held, w', v, rfl, hW, hh, hs, q⟩ := h
    refine ⟨_, 
      (C8.pss_cut (ps_set (i := 5) sc_after_message.nd rfl (.inl rfl) (pe_ifExp (pt_cmpR op_in_seq (pv 4) (pv 2) rfl) (pe_bmT PySem.F.plainAttrs_tuple PySem.F.slot_tuple_index PySem.F.type_tuple_index mt_tup_indexI (pv 2) (pa_cons (pv 4) pa_nil)) (pe_glob (v := .str "new") rfl T.g_NEW ⟨_, rfl⟩))) -- test = held.index(value) if value in held else NEW
      (pss_cons (ps_set (i := 6) sc_after_message.nd rfl (.inl rfl) (pe_methG (pv 0) T.Watcher.cl T.Watcher_rule_for.M (G_Watcher_rule_for T) gd (hr.mono (by decide)) T.Watcher_rule_for.b .nil pass0 (pa_cons (pv 1) (pa_cons (pv 3) (pa_cons (pv 5) pa_nil))))) -- rule = watcher.rule_for(state, word, test)
      (pss_cons (ps_if (pt_cmp (pc_isN (pv 6))) 
        (pss_one (ps_ret (pe_tup (pa_cons (pv 1) (pa_cons (pv 2) pa_nil))))) -- return (state, held)
         pss_nil) -- if rule is None:
      (pss_cons (ps_asg (pv 6) (pg_tup rfl (pgs_cons (pg_name (i := 7) sc_after_message.nd rfl (.inl rfl)) (pgs_cons (pg_name (i := 8) sc_after_message.nd rfl (.inl rfl)) pgs_nil)))) -- target, sources = rule
      (pss_one (ps_ret (pe_tup (pa_cons (pv 7) (pa_cons (pe_callG (G_carried T) gd (hr.mono (by decide)) rfl T.carried.g T.carried.F.kp T.carried.b .nil pass0 (pa_cons (pv 8) (pa_cons (pv 2) (pa_cons (pv 4) pa_nil)))) pa_nil))))) -- return (target, carried(sources, held, value))
      )))) , ?_⟩
    refine ⟨fun σ H' => σ = [some (.ref x), some (.int s'), some (.ref ha), some (.int w'), some (.int v), some (kV (testV held v)), none, none, none] ∧ H' = H, ?_, ?_⟩
    · refine ⟨.int v, rfl, .ref ha, rfl, ha, _, rfl, .inr hh.sq, rfl, flat_ints _, _, rfl, ?_⟩
      dsimp only
      rw [if_neg Bool.false_ne_true, inV_ints]
      by_cases hv : v ∈ held
      · rw [decide_eq_true hv]
        obtain ⟨i1, i2⟩ := idx_first hv
        have e : testV held v = Sum.inl ((held.idxOf v : Nat) : Int) := by unfold testV; rw [if_pos hv]
        rw [e]
        exact iteT ⟨.ref ha, rfl, hh.ty, .int v, rfl, ha, held, v, held.idxOf v, rfl, rfl, hh.sq, i1, i2, rfl, rfl⟩
      · rw [decide_eq_false hv]
        have e : testV held v = Sum.inr ("new" : Str) := by unfold testV; rw [if_neg hv]
        rw [e]
        exact iteF ⟨rfl, rfl⟩
    rintro σ H' ⟨rfl, rfl⟩
    obtain ⟨dx, hx⟩ := hW.w.ins
    refine ⟨.ref x, rfl, x, dx, _, rfl, hx, rfl, .int s', rfl, .int w', rfl, kV (testV held v), rfl, x, lv, lh, d, pl.words, _, _, rowsOf pl.rules, s', w', testV held v, rfl, hW.w, fun nk H1 s1 => ?_, fun hk v1 H1 s1 t1 => ?_⟩
    · have e : stepM pl.rules (s', held) (w', v) = (s', held) := by
        unfold stepM
        split
        · rfl
        · rename_i r hr'
          exact absurd (lookP_some hr').2.1 nk
      refine ⟨.non, rfl, _, rfl, iteT ?_⟩
      refine ⟨.int s', rfl, .ref ha, rfl, by show 2 ≤ sizeLine; decide, fun r nr => ?_⟩
      refine q (.ref r) _ (s1.trans (same_new nr)) ?_
      rw [e]
      exact ⟨r, ha, rfl, upd_same, (hh.mono s1).mono (same_new nr)⟩
    · obtain ⟨r, er⟩ : ∃ r, lookP pl.rules [Sum.inl s', Sum.inl w', testV held v] = some r := by
        cases e : lookP pl.rules [Sum.inl s', Sum.inl w', testV held v] with
        | none => exact absurd hk (lookP_none e)
        | some r => exact ⟨r, rfl⟩
      have e : stepM pl.rules (s', held) (w', v) = (r.1, carryK r.2 held v) := by
        unfold stepM
        rw [er]
      obtain ⟨sin, _⟩ := step_in (s := (s', held)) (m := (w', v)) hW.ok.r hs er
      have lsr : r.2.length ≤ 1000 := by
        obtain ⟨i, j, t, _, i0, i1, _, _, _, g0, g1, sok⟩ := hW.ok.r _ (lookP_some er).1
        have := sok.len
        have := held_bd hW.ok.k g0 g1
        dsimp only at *
        omega
      rw [(lookP_some er).2.2] at t1
      obtain ⟨a, b, rfl, h1, h2⟩ := TD.rule t1
      refine ⟨.ref a, rfl, _, rfl, iteF ?_⟩
      refine ⟨.ref a, rfl, a, _, rfl, SqT.of h1, rfl, .int r.1, [.ref b], rfl, .ref b, [], rfl, rfl, ?_⟩
      refine ⟨.int r.1, rfl, .ref b, rfl, .ref ha, rfl, .int v, rfl, b, ha, r.2, held, v, rfl, h2, hh.mono s1, sin, lsr, fun c H2 s2 nc hc => ?_⟩
      refine ⟨by show 2 ≤ sizeLine; decide, fun u nu => ?_⟩
      refine q (.ref u) _ ((s1.trans s2).trans (same_new nu)) ?_
      rw [e]
      exact ⟨u, c, rfl, upd_same, hc.mono (same_new nu)⟩
end
def sp_law_moved : Sp := fun us H Q _ => ∃ (l kl rl m : Addr) (pv : V) (pl : Plan) (s : Int × List Int) (w v : Int), us = [.ref l, pv, .ref m] ∧ PlanAt H l kl rl pl ∧ PlanOk pl ∧ StAt H pv s ∧ StOk pl.kinds s ∧ H m = some (.tup [.int w, .int v]) ∧
  ∀ u H', Same H H' → StAt H' u (stepM pl.rules s (w, v)) → Q u H'
section
variable {P : Program} {w : World} {K : PySem.W.Frag} {mg : Str → Option Value} {base : Heap}
abbrev N_law_moved : List Str := ["plan", "present", "message", "state", "held", "test", "rule", "target", "sources", "source"]
theorem sc_law_moved : FnScope N_law_moved ["plan", "present", "message"] (defScope s_law_moved) := ⟨rfl, rfl, rfl, by decide +kernel, rfl, by decide +kernel, by decide +kernel⟩
theorem G_law_moved (T : Tx K mg) : FnG P w K mg base CX0 1 T.law_moved.f T.law_moved.fd ["plan", "present", "message"] sp_law_moved := by
  refine okG T.law_moved.F sc_law_moved (fun vs H Q E h => ?_) (fun cdv A outer s H vs Q E gd hr h => ?_)
  · obtain ⟨l, kl, rl, m, pv, pl, s', w', v, rfl, _⟩ := h
    rfl
  · obtain ⟨l, kl, rl, m, pv, pl, ⟨s', held⟩, w', v, rfl, hp, ok, hst, so, hm, q⟩ := h
    obtain ⟨pr, ha, rfl, hpr, hh⟩ := hst
    dsimp only at hpr hh so q
    refine ⟨_, 
      (pss_cons (ps_asg (pv 1) (pg_tup rfl (pgs_cons (pg_name (i := 3) sc_law_moved.nd rfl (.inl rfl)) (pgs_cons (pg_name (i := 4) sc_law_moved.nd rfl (.inr rfl)) pgs_nil)))) -- state, held = present
      (C8.pss_cut (ps_set (i := 5) sc_law_moved.nd rfl (.inl rfl) (pe_ifExp (pt_cmpR op_in_seq (pe_ix ix_tup (pv 2) pe_int (fun _ _ => rfl)) (pv 4) rfl) (pe_bmT PySem.F.plainAttrs_tuple PySem.F.slot_tuple_index PySem.F.type_tuple_index mt_tup_indexI (pv 4) (pa_cons (pe_ix ix_tup (pv 2) pe_int (fun _ _ => rfl)) pa_nil)) pe_str)) -- test = held.index(message[1]) if message[1] in held else 'new'
      (pss_cons (ps_set (i := 6) sc_law_moved.nd rfl (.inl rfl) (pe_tup (pa_cons (pv 3) (pa_cons (pe_ix ix_tup (pv 2) pe_int (fun _ _ => rfl)) (pa_cons (pv 5) pa_nil))))) -- rule = (state, message[0], test)
      (pss_cons (ps_if (pt_cmp (pc_dnotin (hu_of hr) (pv 6) (pe_ix ix_list (pv 0) pe_int (fun _ _ => rfl)))) 
        (pss_one (ps_ret (pv 1))) -- return present
         pss_nil) -- if rule not in plan[2]:
      (pss_cons (ps_asg (pe_dget (hu_of hr) (pe_ix ix_list (pv 0) pe_int (fun _ _ => rfl)) (pv 6) (fun _ _ => rfl)) (pg_tup rfl (pgs_cons (pg_name (i := 7) sc_law_moved.nd rfl (.inl rfl)) (pgs_cons (pg_name (i := 8) sc_law_moved.nd rfl (.inl rfl)) pgs_nil)))) -- target, sources = plan[2][rule]
      (pss_one (ps_ret (pe_tup (pa_cons (pv 7) (pa_cons (pe_callTy call_tupleF (by rfl) T.m_tuple (by decide +kernel) (pa_cons (pe_lc (own := [("source", 9)]) (g := gName 9) rfl sc_law_moved.nd (pi_tup (pv 8)) (blkOk_by (N := N_law_moved) (sc := defScope s_law_moved) (by decide +kernel)) (fun _ _ _ _ _ => (pg_name (i := 9) sc_law_moved.nd rfl (.inl rfl))) (fun _ _ _ _ _ => pts_nil) (fun _ _ _ _ _ => (pe_ifExp (pt_cmpR op_eq (pv 9) pe_str (nomark _)) (pe_ix (r := rIxT K) ix_tup (pv 2) pe_int (fun _ _ => rfl)) (pe_ix (r := rIxT K) ix_tup (pv 4) (pv 9) (fun _ _ => rfl))))) pa_nil)) pa_nil))))) -- return (target, tuple([message[1] if source == 'value' else held[source] for source in sources]))
      ))))) , ?_⟩
    refine ⟨.ref pr, rfl, pr, _, rfl, SqT.of hpr, rfl, .int s', [.ref ha], rfl, .ref ha, [], rfl, rfl, ?_⟩
    refine ⟨fun σ H' => σ = [some (.ref l), some (.ref pr), some (.ref m), some (.int s'), some (.ref ha), some (kV (testV held v)), none, none, none, none] ∧ H' = H, ?_, ?_⟩
    · refine ⟨.ref m, rfl, m, _, 1, .int v, rfl, rfl, SqT.of hm, atI_nat (j := 1) rfl, .ref ha, rfl, ha, _, rfl, .inr hh.sq, rfl, flat_ints _, _, rfl, ?_⟩
      dsimp only
      rw [if_neg Bool.false_ne_true, inV_ints]
      by_cases hv : v ∈ held
      · rw [decide_eq_true hv]
        obtain ⟨i1, i2⟩ := idx_first hv
        have e : testV held v = Sum.inl ((held.idxOf v : Nat) : Int) := by unfold testV; rw [if_pos hv]
        rw [e]
        exact iteT ⟨.ref ha, rfl, hh.ty, .ref m, rfl, m, _, 1, .int v, rfl, rfl, SqT.of hm, atI_nat (j := 1) rfl, ha, held, v, held.idxOf v, rfl, rfl, hh.sq, i1, i2, rfl, rfl⟩
      · rw [decide_eq_false hv]
        have e : testV held v = Sum.inr ("new" : Str) := by unfold testV; rw [if_neg hv]
        rw [e]
        exact iteF ⟨rfl, rfl⟩
    rintro σ H' ⟨rfl, rfl⟩
    obtain ⟨kvs, hrl, hkv⟩ := hp.rul
    refine ⟨.int s', rfl, .ref m, rfl, m, _, 0, .int w', rfl, rfl, SqT.of hm, atI_nat (j := 0) rfl, kV (testV held v), rfl, by show 3 ≤ sizeLine; decide, fun rt nrt => ?_⟩
    have s1 : Same H' (upd H' rt (.tup [.int s', .int w', kV (testV held v)])) := same_new nrt
    have hrt : (upd H' rt (.tup [.int s', .int w', kV (testV held v)])) rt = some (.tup (([Sum.inl s', Sum.inl w', testV held v] : List Key).map kV)) := upd_same
    generalize upd H' rt (.tup [.int s', .int w', kV (testV held v)]) = H1 at *
    have hl1 := s1 _ _ hp.at_
    have hrl1 := s1 _ _ hrl
    refine ⟨.ref rt, rfl, .ref l, rfl, l, _, 2, .ref rl, rfl, rfl, SqL.of hl1, atI_nat (j := 2) rfl, rl, _, rfl, DGet.t (k := [Sum.inl s', Sum.inl w', testV held v]) hrl1 hrt, _, rfl, ?_⟩
    cases er : lookP pl.rules [Sum.inl s', Sum.inl w', testV held v] with
    | none =>
      have nk := lookP_none er
      have en : valV kvs [Sum.inl s', Sum.inl w', testV held v] = none := by
        unfold valV
        rw [List.find?_eq_none.mpr]
        · rfl
        · intro y hy
          simp only [decide_eq_true_eq]
          intro e
          exact nk (e ▸ hkv.keys ▸ List.mem_map.mpr ⟨y, hy, rfl⟩)
      rw [en]
      have e : stepM pl.rules (s', held) (w', v) = (s', held) := by
        unfold stepM
        rw [er]
      refine iteT ⟨.ref pr, rfl, q (.ref pr) H1 s1 ?_⟩
      rw [e]
      exact ⟨pr, ha, rfl, s1 _ _ hpr, hh.mono s1⟩
    | some r =>
      obtain ⟨rm, rk, re⟩ := lookP_some er
      obtain ⟨val, ev, tv⟩ := hkv.val rk
      rw [ev]
      have e : stepM pl.rules (s', held) (w', v) = (r.1, carryK r.2 held v) := by
        unfold stepM
        rw [er]
      obtain ⟨sin, _⟩ := step_in (s := (s', held)) (m := (w', v)) ok.r so er
      have lsr : r.2.length ≤ 1000 := by
        obtain ⟨i, j, t, _, i0, i1, _, _, _, g0, g1, sok⟩ := ok.r _ rm
        have := sok.len
        have := held_bd ok.k g0 g1
        dsimp only at *
        omega
      rw [re] at tv
      obtain ⟨a, b, rfl, h1, h2⟩ := TD.rule (tv.mono (Tups.same s1))
      refine iteF ?_
      have g := DGet.t (k := [Sum.inl s', Sum.inl w', testV held v]) hrl1 hrt
      rw [ev] at g
      refine ⟨.ref l, rfl, l, _, 2, .ref rl, rfl, rfl, SqL.of hl1, atI_nat (j := 2) rfl, .ref rt, rfl, rl, .ref a, rfl, g, a, _, rfl, SqT.of h1, rfl, .int r.1, [.ref b], rfl, .ref b, [], rfl, rfl, ?_⟩
      refine ⟨.int r.1, rfl, .ref b, rfl, b, rfl, ⟨_, SqT.of h2⟩, fun D nD => ?_⟩
      refine lc_tup (K := K) (a := b) (xs := r.2.map kV) (fun i H' => Same H1 H' ∧ H' D = some (.lst ((carryK (r.2.take i) held v).map V.int))) ?_ ?_ ?_ ?_
      · exact ⟨same_new nD, upd_same⟩
      · rintro i H2 hi ⟨sm, hD⟩
        exact SqT.of (sm _ _ h2)
      · rintro i x H2 hi ⟨sm, hD⟩
        rw [List.getElem?_map] at hi
        obtain ⟨k, ek, rfl⟩ := Option.map_eq_some_iff.mp hi
        have kin := sin k (List.mem_of_getElem? ek)
        have fin : ∀ y : Int, y = srcV held v k → (∃ acc, H2 D = some (.lst acc) ∧ acc.length < sizeLine ∧ (Same H1 (upd H2 D (.lst (acc ++ [V.int y]))) ∧ (upd H2 D (.lst (acc ++ [V.int y]))) D = some (.lst ((carryK (r.2.take (i + 1)) held v).map V.int)))) := fun y hy => by
          refine ⟨_, hD, ?_, fun b o e => ?_, ?_⟩
          · rw [List.length_map, carryK, List.length_map, List.length_take]
            exact small1000 (by omega)
          · have : b ≠ D := ne_of_none e nD
            rw [upd_ne this]
            exact sm _ _ e
          · rw [upd_same, List.take_add_one, ek]
            unfold carryK
            rw [List.map_append, List.map_append, hy]
            rfl
        rcases kin with ⟨n, rfl, n0, n1⟩ | rfl
        · refine ⟨rfl, .int n, rfl, rfl, _, rfl, ?_⟩
          refine ⟨.ref ha, rfl, .int n, rfl, ha, held.map V.int, n, .int (srcV held v (.inl n)), rfl, rfl, ((hh.mono s1).mono sm).sq, ?_, fin _ rfl⟩
          obtain ⟨j, rfl⟩ : ∃ j : Nat, n = j := ⟨n.toNat, by omega⟩
          dsimp only at n1
          have hj : j < held.length := by omega
          refine atI_nat ?_
          rw [List.getElem?_map, List.getElem?_eq_getElem hj]
          show _ = some (V.int ((held[((j : Nat) : Int).toNat]?).getD 0))
          rw [Int.toNat_natCast, List.getElem?_eq_getElem hj]
          rfl
        · refine ⟨rfl, .str "value", rfl, rfl, _, rfl, ?_⟩
          exact ⟨.ref m, rfl, m, _, 1, .int v, rfl, rfl, SqT.of (sm _ _ (s1 _ _ hm)), atI_nat (j := 1) rfl, fin v rfl⟩
      · rintro H2 ⟨sm, hD⟩
        rw [List.length_map, List.take_length] at hD
        refine ⟨D, _, rfl, SqL.of hD, fun c ob nc hob => ?_⟩
        refine ⟨by show 2 ≤ sizeLine; decide, fun u nu => ?_⟩
        refine q (.ref u) _ (((s1.trans sm).trans (same_new nc)).trans (same_new nu)) ?_
        rw [e]
        exact ⟨u, c, rfl, upd_same, HT.mono ⟨ob, upd_same, hob⟩ (same_new nu)⟩
end
abbrev Sit := Int × Int × List (Int × Int)
def pairD (m : Int × Int) : PyData := .tuple [.int m.1, .int m.2]
def pairsD (ps : List (Int × Int)) : PyData := .tuple (ps.map pairD)
def sitD (s : Sit) : PyData := .tuple [.int s.1, .int s.2.1, pairsD s.2.2]
def sitK (s : Sit) : NestedKey := .tup [.num s.1, .num s.2.1, .tup (s.2.2.map fun m => .tup [.num m.1, .num m.2])]
theorem nkDs_map {α : Type} (f : α → NestedKey) : ∀ l : List α, nkDs (l.map f) = l.map fun x => nkD (f x)
  | [] => rfl
  | x :: r => by
    show nkD (f x) :: nkDs (r.map f) = _
    rw [nkDs_map f r]
    rfl
theorem sitK_D (s : Sit) : nkD (sitK s) = sitD s := by
  unfold sitK sitD pairsD
  show PyData.tuple [.int s.1, .int s.2.1, .tuple (nkDs (s.2.2.map fun m => NestedKey.tup [.num m.1, .num m.2]))] = _
  rw [nkDs_map]
  rfl
theorem sitK_depth (s : Sit) : (sitK s).depth ≤ 8 := by
  have h : ∀ l : List (Int × Int), NestedKey.depthAll (l.map fun m => NestedKey.tup [.num m.1, .num m.2]) ≤ 1 := by
    intro l
    induction l with
    | nil => simp [NestedKey.depthAll]
    | cons x r ih =>
      simp only [List.map_cons, NestedKey.depthAll, NestedKey.depth]
      omega
  have := h s.2.2
  simp only [sitK, NestedKey.depth, NestedKey.depthAll]
  omega
theorem sitK_inj {s s' : Sit} (h : sitK s = sitK s') : s = s' := by
  obtain ⟨a, b, c⟩ := s
  obtain ⟨a', b', c'⟩ := s'
  unfold sitK at h
  simp only [NestedKey.tup.injEq, List.cons.injEq, NestedKey.num.injEq, and_true] at h
  obtain ⟨rfl, rfl, h⟩ := h
  have : ∀ l l' : List (Int × Int), (l.map fun m => NestedKey.tup [.num m.1, .num m.2]) = (l'.map fun m => NestedKey.tup [.num m.1, .num m.2]) → l = l' := by
    intro l
    induction l with
    | nil =>
      intro l' h
      cases l' with
      | nil => rfl
      | cons x r => cases h
    | cons x r ih =>
      intro l' h
      cases l' with
      | nil => cases h
      | cons y r' =>
        simp only [List.map_cons, List.cons.injEq, NestedKey.tup.injEq, NestedKey.num.injEq, and_true] at h
        rw [ih r' h.2, Prod.ext h.1.1 h.1.2]
  rw [this _ _ h]
theorem sit_key {H : Hp} {v : V} {s : Sit} (h : TD H v (sitD s)) : NKey H (sitK s) v := ⟨sitK_depth s, by rw [sitK_D]; exact h, _, rfl⟩
structure WA where
  (x lv lh d : Addr)
/-- a pair of watchers -/
structure PairAt (K : PySem.W.Frag) (C : Addr) (H : Hp) (t : Addr) (a b : WA) (P1 P2 : Plan) : Prop where
  sq : SqT K H t [.ref a.x, .ref b.x]
  w1 : WP C H a.x a.lv a.lh a.d P1
  w2 : WP C H b.x b.lv b.lh b.d P2
theorem sqT_same {K : PySem.W.Frag} {H H' : Hp} {t : Addr} {xs : List V} (h : SqT K H t xs) (e : Same H H') : SqT K H' t xs := by
  rcases h with (h1 | ⟨o, h1⟩) | h1
  · exact .inl (.inl (e _ _ h1))
  · exact .inl (.inr ⟨o, e _ _ h1⟩)
  · exact .inr h1
theorem PairAt.mono {K : PySem.W.Frag} {C : Addr} {H H' : Hp} {t : Addr} {a b : WA} {P1 P2 : Plan} (h : PairAt K C H t a b P1 P2) (s : Same H H') : PairAt K C H' t a b P1 P2 := ⟨sqT_same h.sq s, h.w1.mono s, h.w2.mono s⟩
/-- its states are there -/
structure SitIn (P1 P2 : Plan) (s : Sit) : Prop where
  p0 : 0 ≤ s.1
  p1 : s.1 < P1.kinds.length
  q0 : 0 ≤ s.2.1
  q1 : s.2.1 < P2.kinds.length
  len : s.2.2.length ≤ 3
def firstM (h : Int) : List Int := (List.range h.toNat).map fun i : Nat => (i : Int)
theorem firstM_V (h : Int) : (firstM h).map V.int = rgV 0 h := by
  unfold firstM rgV
  rw [List.map_map]
  simp [Function.comp_def]
theorem firstM_len (h : Int) : (firstM h).length = h.toNat := by
  unfold firstM
  rw [List.length_map, List.length_range]
def prt (pairs : List (Int × Int)) (j : Int) : Option Int := pairs.foldl (fun o m => if m.2 = j then some m.1 else o) none
def secF (pairs : List (Int × Int)) (h : Int) (n : Nat) : List Int × Int := (List.range n).foldl (fun (s : List Int × Int) (j : Nat) => match prt pairs (j : Int) with | some i => (s.1 ++ [i], s.2) | none => (s.1 ++ [s.2], s.2 + 1)) ([], h)
def secondM (pairs : List (Int × Int)) (h1 h2 : Int) : List Int := (secF pairs h1 h2.toNat).1
theorem secF_succ (pairs : List (Int × Int)) (h : Int) (n : Nat) : secF pairs h (n + 1) = match prt pairs (n : Int) with | some i => ((secF pairs h n).1 ++ [i], (secF pairs h n).2) | none => ((secF pairs h n).1 ++ [(secF pairs h n).2], (secF pairs h n).2 + 1) := by
  unfold secF
  rw [List.range_succ, List.foldl_append]
  rfl
theorem secF_len (pairs : List (Int × Int)) (h : Int) : ∀ n : Nat, (secF pairs h n).1.length = n
  | 0 => rfl
  | n + 1 => by
    rw [secF_succ]
    split <;> simp [secF_len pairs h n]
/-- the places at which both hold one value, of the first n -/
def eqF (f s : List Int) (n : Nat) : List (Int × Int) := (List.range n).filterMap fun (i : Nat) => (f[i]?).bind fun v => if v ∈ s then some ((i : Int), ((s.idxOf v : Nat) : Int)) else none
def eqM (f s : List Int) : List (Int × Int) := eqF f s f.length
theorem eqF_succ (f s : List Int) (n : Nat) {v : Int} (h : f[n]? = some v) : eqF f s (n + 1) = eqF f s n ++ (if v ∈ s then [((n : Int), ((s.idxOf v : Nat) : Int))] else []) := by
  unfold eqF
  rw [List.range_succ, List.filterMap_append]
  congr 1
  by_cases hv : v ∈ s <;> simp [h, hv]
theorem eqF_len (f s : List Int) (n : Nat) : (eqF f s n).length ≤ n := by
  unfold eqF
  exact Nat.le_trans (List.length_filterMap_le _ _) (by rw [List.length_range]; exact Nat.le_refl _)
/-- the places of the first one whose values the second one doesn't hold -/
def loneF (f s : List Int) (n : Nat) : List Int := (List.range n).filterMap fun (i : Nat) => (f[i]?).bind fun v => if v ∈ s then none else some (i : Int)
def loneM (f s : List Int) : List Int := loneF f s f.length
theorem loneF_succ (f s : List Int) (n : Nat) {v : Int} (h : f[n]? = some v) : loneF f s (n + 1) = loneF f s n ++ (if v ∈ s then [] else [(n : Int)]) := by
  unfold loneF
  rw [List.range_succ, List.filterMap_append]
  congr 1
  by_cases hv : v ∈ s <;> simp [h, hv]
theorem loneF_len (f s : List Int) (n : Nat) : (loneF f s n).length ≤ n := by
  unfold loneF
  exact Nat.le_trans (List.length_filterMap_le _ _) (by rw [List.length_range]; exact Nat.le_refl _)
inductive Cs where
  | both (i j : Int) | first (i : Int) | second (j : Int) | new
  deriving DecidableEq
def csD : Cs → PyData
  | .both i j => .tuple [.str "both", .int i, .int j]
  | .first i => .tuple [.str "first", .int i]
  | .second j => .tuple [.str "second", .int j]
  | .new => .tuple [.str "new"]
def casesM (f s : List Int) : List Cs := (eqM f s).map (fun m => Cs.both m.1 m.2) ++ ((loneM f s).map Cs.first ++ ((loneM s f).map Cs.second ++ [Cs.new]))
def leastF (vs : List Int) : Nat → Int → Int
  | 0, n => n
  | k + 1, n => if n ∈ vs then leastF vs k (n + 1) else n
def leastM (vs : List Int) : Int := leastF vs (vs.length + 1) 0
def valueM (c : Cs) (f s : List Int) : Int := match c with
  | .both i _ => (f[i.toNat]?).getD 0
  | .first i => (f[i.toNat]?).getD 0
  | .second j => (s[j.toNat]?).getD 0
  | .new => leastM (f ++ s)
def afterM (P1 P2 : Plan) (s : Sit) (f g : List Int) (w : Int) (c : Cs) : Sit := ((stepM P1.rules (s.1, f) (w, valueM c f g)).1, (stepM P2.rules (s.2.1, g) (w, valueM c f g)).1, eqM (stepM P1.rules (s.1, f) (w, valueM c f g)).2 (stepM P2.rules (s.2.1, g) (w, valueM c f g)).2)
def heldM (P1 P2 : Plan) (s : Sit) : List Int × List Int := (firstM (heldAt P1.kinds s.1), secondM s.2.2 (heldAt P1.kinds s.1) (heldAt P2.kinds s.2.1))
def stepsM (P1 P2 : Plan) (s : Sit) : List (Int × Cs × Sit) := (List.range P1.words.toNat).flatMap fun w : Nat => (casesM (heldM P1 P2 s).1 (heldM P1 P2 s).2).map fun c => ((w : Int), c, afterM P1 P2 s (heldM P1 P2 s).1 (heldM P1 P2 s).2 w c)
theorem heldM_ok {P1 P2 : Plan} {s : Sit} (o1 : PlanOk P1) (o2 : PlanOk P2) (h : SitIn P1 P2 s) : StOk P1.kinds (s.1, (heldM P1 P2 s).1) ∧ StOk P2.kinds (s.2.1, (heldM P1 P2 s).2) := by
  have b1 := held_bd o1.k h.p0 h.p1
  have b2 := held_bd o2.k h.q0 h.q1
  refine ⟨⟨h.p0, h.p1, ?_⟩, ⟨h.q0, h.q1, ?_⟩⟩
  · show (((firstM (heldAt P1.kinds s.1)).length : Nat) : Int) = heldAt P1.kinds s.1
    rw [firstM_len]
    omega
  · show (((secF s.2.2 (heldAt P1.kinds s.1) (heldAt P2.kinds s.2.1).toNat).1.length : Nat) : Int) = heldAt P2.kinds s.2.1
    rw [secF_len]
    omega
theorem afterM_in {P1 P2 : Plan} {s : Sit} {f g : List Int} {w : Int} {c : Cs} (o1 : PlanOk P1) (o2 : PlanOk P2) (h1 : StOk P1.kinds (s.1, f)) (h2 : StOk P2.kinds (s.2.1, g)) : SitIn P1 P2 (afterM P1 P2 s f g w c) := by
  have a := step_ok o1.r h1 (w, valueM c f g)
  have b := step_ok o2.r h2 (w, valueM c f g)
  refine ⟨a.lo, a.hi, b.lo, b.hi, ?_⟩
  have e := eqF_len (stepM P1.rules (s.1, f) (w, valueM c f g)).2 (stepM P2.rules (s.2.1, g) (w, valueM c f g)).2 (stepM P1.rules (s.1, f) (w, valueM c f g)).2.length
  have l := a.len
  have := (held_bd o1.k a.lo a.hi).2
  show (eqF _ _ _).length ≤ 3
  omega
def sp_held_numbers (K : PySem.W.Frag) (C : Addr) : Sp := fun us H Q _ => ∃ (t : Addr) (v : V) (a b : WA) (P1 P2 : Plan) (s : Sit), us = [.ref t, v] ∧ PairAt K C H t a b P1 P2 ∧ TD H v (sitD s) ∧ SitIn P1 P2 s ∧
  ∀ r x y H', Same H H' → H' r = some (.tup [.ref x, .ref y]) → HT H' x (heldM P1 P2 s).1 → HT H' y (heldM P1 P2 s).2 → Q (.ref r) H'
def sp_equal_places : Sp := fun us H Q _ => ∃ (x y : Addr) (f s : List Int), us = [.ref x, .ref y] ∧ HT H x f ∧ HT H y s ∧ f.length ≤ 100 ∧ s.length ≤ 100 ∧ ∀ r H', Same H H' → TD H' (.ref r) (pairsD (eqM f s)) → Q (.ref r) H'
def sp_cases_between : Sp := fun us H Q _ => ∃ (x y : Addr) (f s : List Int), us = [.ref x, .ref y] ∧ HT H x f ∧ HT H y s ∧ f.length ≤ 100 ∧ s.length ≤ 100 ∧ ∀ r H', Same H H' → TD H' (.ref r) (.tuple ((casesM f s).map csD)) → Q (.ref r) H'
def sp_least_other : Sp := fun us H Q _ => ∃ (x : Addr) (vs : List Int), us = [.ref x] ∧ H x = some (.tup (vs.map V.int)) ∧ vs.length ≤ 1000 ∧ Q (.int (leastM vs)) H
def CsIn (c : Cs) (f s : List Int) : Prop := match c with
  | .both i _ => 0 ≤ i ∧ i < f.length
  | .first i => 0 ≤ i ∧ i < f.length
  | .second j => 0 ≤ j ∧ j < s.length
  | .new => True
def sp_value_of : Sp := fun us H Q _ => ∃ (v : V) (x y : Addr) (c : Cs) (f s : List Int), us = [v, .ref x, .ref y] ∧ TD H v (csD c) ∧ HT H x f ∧ HT H y s ∧ f.length ≤ 100 ∧ s.length ≤ 100 ∧ CsIn c f s ∧ ∀ H', Same H H' → Q (.int (valueM c f s)) H'
def sp_situation_after (K : PySem.W.Frag) (C : Addr) : Sp := fun us H Q _ => ∃ (t r x y : Addr) (sv cv : V) (a b : WA) (P1 P2 : Plan) (s : Sit) (f g : List Int) (w : Int) (c : Cs), us = [.ref t, sv, .ref r, .int w, cv] ∧ PairAt K C H t a b P1 P2 ∧ TD H sv (sitD s) ∧ SitIn P1 P2 s ∧
  SqT K H r [.ref x, .ref y] ∧ HT H x f ∧ HT H y g ∧ StOk P1.kinds (s.1, f) ∧ StOk P2.kinds (s.2.1, g) ∧ TD H cv (csD c) ∧ CsIn c f g ∧
  ∀ v H', Same H H' → TD H' v (sitD (afterM P1 P2 s f g w c)) → Q v H'
def stepD (x : Int × Cs × Sit) : PyData := .tuple [.int x.1, csD x.2.1, sitD x.2.2]
def sp_steps_from (K : PySem.W.Frag) (C : Addr) : Sp := fun us H Q _ => ∃ (t : Addr) (v : V) (a b : WA) (P1 P2 : Plan) (s : Sit), us = [.ref t, v] ∧ PairAt K C H t a b P1 P2 ∧ TD H v (sitD s) ∧ SitIn P1 P2 s ∧
  ∀ r xs H', Same H H' → H r = none → H' r = some (.lst xs) → TDs H' xs ((stepsM P1 P2 s).map stepD) → Q (.ref r) H'
theorem same_at {H H' : Hp} {D : Addr} {o : HO} (s : Same H H') (n : H D = none) : Same H (upd H' D o) := fun c u e => by
  rw [upd_ne (ne_of_none e n)]
  exact s _ _ e
theorem tds_snoc {H : Hp} : ∀ {xs : List V} {ds : List PyData} {v : V} {d : PyData}, TDs H xs ds → TD H v d → TDs H (xs ++ [v]) (ds ++ [d])
  | _, [], _, _, h, k => by
    cases h
    exact .cons k .nil
  | _, _ :: _, _, _, h, k => by
    cases h with
    | cons a r => exact .cons a (tds_snoc r k)
theorem TDs.len {H : Hp} : ∀ {xs : List V} {ds : List PyData}, TDs H xs ds → xs.length = ds.length
  | _, [], h => by
    cases h
    rfl
  | _, _ :: _, h => by
    cases h with
    | cons a r => rw [List.length_cons, List.length_cons, r.len]
def LoW (x : Addr) (H : Hp) (vs : List Int) : Nat → L2.St → Hp → Prop := fun m σ H' => ∃ n : Int, σ = [some (.ref x), some (.int n)] ∧ H' = H ∧ leastF vs m n = leastM vs
theorem pig : ∀ (k : Nat) (n : Int) (vs : List Int), (∀ i : Nat, i < k → n + i ∈ vs) → k ≤ vs.length
  | 0, _, _, _ => Nat.zero_le _
  | k + 1, n, vs, h => by
    have hk := h k (by omega)
    have ih := pig k n (vs.erase (n + k)) fun i hi => (List.mem_erase_of_ne (by omega)).mpr (h i (by omega))
    rw [List.length_erase_of_mem hk] at ih
    have := List.length_pos_of_mem hk
    omega
theorem leastF_in {vs : List Int} : ∀ (k : Nat) (n : Int), leastF vs k n ∈ vs → ∀ i : Nat, i ≤ k → n + i ∈ vs
  | 0, n, h, i, hi => by
    obtain rfl : i = 0 := by omega
    simpa [leastF] using h
  | k + 1, n, h, i, hi => by
    unfold leastF at h
    by_cases hn : n ∈ vs
    · rw [if_pos hn] at h
      cases i with
      | zero => simpa using hn
      | succ i =>
        have := leastF_in k (n + 1) h i (by omega)
        have e : n + 1 + (i : Int) = n + ((i + 1 : Nat) : Int) := by omega
        rwa [e] at this
    · rw [if_neg hn] at h
      exact absurd h hn
theorem leastM_out (vs : List Int) : leastM vs ∉ vs := fun h => by
  have := pig (vs.length + 2) 0 vs fun i hi => leastF_in (vs.length + 1) 0 h i (by omega)
  omega
section
variable {P : Program} {w : World} {K : PySem.W.Frag} {mg : Str → Option Value} {base : Heap}
abbrev N_least_other : List Str := ["values", "number"]
theorem sc_least_other : FnScope N_least_other ["values"] (defScope s_least_other) := ⟨rfl, rfl, rfl, by decide +kernel, rfl, by decide +kernel, by decide +kernel⟩
theorem G_least_other (T : Tx K mg) : FnG P w K mg base CX0 1 T.least_other.f T.least_other.fd ["values"] sp_least_other := by
  refine okG T.least_other.F sc_least_other (fun vs H Q E h => ?_) (fun cdv A outer s H vs Q E gd hr h => ?_)
  · obtain ⟨x, vs, rfl, _⟩ := h
    rfl
  · obtain ⟨x, vs, rfl, hx, hl, q⟩ := h
    refine ⟨_, 
      (pss_cons (ps_set (i := 1) sc_least_other.nd rfl (.inl rfl) pe_int) -- number = 0
      (pss_cons (ps_while PassesOwn.never (pt_cmpR op_in_seq (pv 1) (pv 0) rfl) 
        (pss_one (ps_aug (i := 1) sc_least_other.nd rfl (.inl rfl) pe_int ip_add)) -- number += 1
        ) -- while number in values:
      (pss_one (ps_ret (pv 1))) -- return number
      )) , ?_⟩
    refine ⟨LoW x H vs, ⟨vs.length + 1, _, rfl, rfl, rfl⟩, fun m σ H' hW => ?_⟩
    obtain ⟨n, rfl, rfl, he⟩ := hW
    refine ⟨.int n, rfl, .ref x, rfl, x, _, rfl, .inr (SqT.of hx), rfl, flat_ints _, _, rfl, ?_⟩
    rw [if_neg Bool.false_ne_true, inV_ints]
    by_cases hn : n ∈ vs
    · rw [decide_eq_true hn]
      refine iteT ?_
      cases m with
      | zero =>
        have : leastM vs = n := he.symm
        exact absurd (this ▸ hn) (leastM_out vs)
      | succ m =>
        unfold leastF at he
        rw [if_pos hn] at he
        exact ⟨LoW x H' vs m, fun σ' H2 h2 => ⟨m, Nat.lt_succ_self m, h2⟩, .int n, rfl, n, 1, rfl, rfl, n + 1, rfl, rfl, he⟩
    · rw [decide_eq_false hn]
      refine iteF ?_
      have e : leastF vs m n = n := by
        cases m with
        | zero => rfl
        | succ m =>
          unfold leastF
          rw [if_neg hn]
      rw [e] at he
      rw [← he] at q
      exact ⟨.int n, rfl, q⟩
abbrev N_equal_places : List Str := ["first", "second", "i", "value"]
theorem sc_equal_places : FnScope N_equal_places ["first", "second"] (defScope s_equal_places) := ⟨rfl, rfl, rfl, by decide +kernel, rfl, by decide +kernel, by decide +kernel⟩
theorem G_equal_places (T : Tx K mg) : FnG P w K mg base CX0 1 T.equal_places.f T.equal_places.fd ["first", "second"] sp_equal_places := by
  refine okG T.equal_places.F sc_equal_places (fun vs H Q E h => ?_) (fun cdv A outer s H vs Q E gd hr h => ?_)
  · obtain ⟨x, y, f, s, rfl, _⟩ := h
    rfl
  · obtain ⟨x, y, f, g, rfl, hf, hg, lf, lg, q⟩ := h
    refine ⟨_, 
      (pss_one (ps_ret (pe_callTy call_tuple_of (by rfl) T.m_tuple (by decide +kernel) (pa_cons (pe_lc (own := [("i", 2), ("value", 3)]) (g := gTup K 2 (gCons (gName 2) (gCons (gName 3) gNil))) rfl sc_equal_places.nd (pi_enumT (by rfl) T.m_enumerate (pa_cons (pv 0) pa_nil)) (blkOk_by (N := N_equal_places) (sc := defScope s_equal_places) (by decide +kernel)) (fun _ _ _ _ _ => (pg_tup rfl (pgs_cons (pg_name (i := 2) sc_equal_places.nd rfl (.inl rfl)) (pgs_cons (pg_name (i := 3) sc_equal_places.nd rfl (.inl rfl)) pgs_nil)))) (fun _ _ _ _ _ => (pts_one (pt_cmpR (r := rIn K false) op_in_seq (pv 3) (pv 1) rfl))) (fun _ _ _ _ _ => (pe_tup (pa_cons (pv 2) (pa_cons (pe_bmT (r := rIdxI K) PySem.F.plainAttrs_tuple PySem.F.slot_tuple_index PySem.F.type_tuple_index mt_tup_indexI (pv 1) (pa_cons (pv 3) pa_nil)) pa_nil))))) pa_nil)))) -- return tuple([(i, second.index(value)) for i, value in enumerate(first) if value in second])
       , ?_⟩
    have L5 : 200000 ≤ sizeLine := by decide
    refine ⟨.ref x, rfl, x, _, rfl, hf.sq, fun D nD => ?_⟩
    refine lc_it (walk_enumT (xs := f.map V.int)) (fun i H' => Same H H' ∧ ∃ xs, H' D = some (.lst xs) ∧ TDs H' xs ((eqF f g i).map pairD)) ?_ ?_ ?_ ?_
    · exact ⟨same_at (Same.refl H) nD, [], upd_same, .nil⟩
    · exact fun i H' _ h => sqT_same hf.sq h.1
    · rintro i v H1 H2 hi ⟨sm, xs, hD, hxs⟩ ⟨TT, x1, x2, rfl, nT, rfl, e1, e2⟩
      cases e1
      have hi' : i < f.length := by rw [List.length_map] at hi; exact hi
      have ef : f[i]? = some f[i] := List.getElem?_eq_getElem hi'
      have ex : x2 = .int f[i] := by
        have e2 : (f.map V.int)[i]? = some x2 := e2
        rw [List.getElem?_map, ef] at e2
        exact (Option.some.inj e2).symm
      subst ex
      have s7 := same_new (o := .tup [.int (i : Nat), .int f[i]]) nT
      have sm7 := sm.trans s7
      have hD7 := s7 _ _ hD
      refine ⟨TT, _, rfl, SqT.of upd_same, rfl, .int (i : Nat), [.int f[i]], rfl, .int f[i], [], rfl, rfl, rfl, ?_⟩
      refine ⟨.int f[i], rfl, .ref y, rfl, y, _, rfl, .inr (hg.mono sm7).sq, rfl, flat_ints _, _, rfl, ?_⟩
      rw [if_neg Bool.false_ne_true, inV_ints, eqF_succ f g i ef]
      by_cases hv : f[i] ∈ g
      · rw [decide_eq_true hv, if_pos hv]
        refine iteT ?_
        obtain ⟨i1, i2⟩ := idx_first hv
        refine ⟨.int (i : Nat), rfl, .ref y, rfl, (hg.mono sm7).ty, .int f[i], rfl, y, g, f[i], g.idxOf f[i], rfl, rfl, (hg.mono sm7).sq, i1, i2, by show 2 ≤ sizeLine; decide, fun m nm => ?_⟩
        have s8 := same_new (o := .tup [.int (i : Nat), .int ((g.idxOf f[i] : Nat) : Int)]) nm
        have hD8 := s8 _ _ hD7
        have tp := Tups.lst (o := .lst (xs ++ [.ref m])) hD8
        refine ⟨xs, hD8, ?_, same_at (sm7.trans s8) nD, _, upd_same, ?_⟩
        · have := hxs.len
          have := eqF_len f g i
          rw [List.length_map] at *
          have := L5
          omega
        · rw [List.map_append]
          exact tds_snoc ((hxs.mono (Tups.same (s7.trans s8))).mono tp) (.tup (tp _ _ upd_same) (.cons (.int _) (.cons (.int _) .nil)))
      · rw [decide_eq_false hv, if_neg hv]
        refine iteF ?_
        rw [List.append_nil]
        exact ⟨sm7, xs, hD7, hxs.mono (Tups.same s7)⟩
    · rintro H1 ⟨sm, xs, hD, hxs⟩
      rw [List.length_map] at hxs
      refine ⟨D, xs, rfl, .inl ⟨SqL.of hD, fun l nl => ?_⟩⟩
      refine q l _ (sm.trans (same_new nl)) (.tup upd_same (hxs.mono (Tups.same (same_new nl))))
abbrev N_held_numbers : List Str := ["pair", "situation", "p", "q", "pairs", "first", "partners", "i", "j", "second", "fresh"]
theorem sc_held_numbers : FnScope N_held_numbers ["pair", "situation"] (defScope s_held_numbers) := ⟨rfl, rfl, rfl, by decide +kernel, rfl, by decide +kernel, by decide +kernel⟩
theorem G_held_numbers (T : Tx K mg) : FnG P w K mg base CX0 2 T.held_numbers.f T.held_numbers.fd ["pair", "situation"] (sp_held_numbers K T.Watcher.C) := by
  refine okG T.held_numbers.F sc_held_numbers (fun vs H Q E h => ?_) (fun cdv A outer s H vs Q E gd hr h => ?_)
  · obtain ⟨t, v, a, b, P1, P2, s, rfl, _⟩ := h
    rfl
  · obtain ⟨t, v, a, b, P1, P2, st, rfl, hp, hv, hin, q⟩ := h
    refine ⟨_, 
      (pss_cons (ps_asg (pv 1) (pg_tup rfl (pgs_cons (pg_name (i := 2) sc_held_numbers.nd rfl (.inl rfl)) (pgs_cons (pg_name (i := 3) sc_held_numbers.nd rfl (.inl rfl)) (pgs_cons (pg_name (i := 4) sc_held_numbers.nd rfl (.inl rfl)) pgs_nil))))) -- p, q, pairs = situation
      (C8.pss_cut (ps_set (i := 5) sc_held_numbers.nd rfl (.inl rfl) (pe_tupRgF rfl (by rfl) T.m_tuple (prg_1 (by rfl) T.m_range (pe_ix ix_tup (pe_meth0G (pe_ix ix_tup (pv 0) pe_int (fun _ _ => rfl)) T.Watcher.cl T.Watcher_held_counts.M (G_Watcher_held_counts T) gd (hr.mono (by decide)) T.Watcher_held_counts.b .nil pass0) (pv 2) (fun _ _ => rfl))))) -- first = tuple(range(pair[0].held_counts()[p]))
      (C8.pss_cut (ps_setDc (i := 6) (own := [("i", 7), ("j", 8)]) (g := gTup K 2 (gCons (gName 7) (gCons (gName 8) gNil))) rfl sc_held_numbers.nd rfl rfl (by rfl) (pi_tup (pv 4)) (blkOk_by (N := N_held_numbers) (sc := defScope s_held_numbers) (by decide +kernel)) (fun _ _ _ _ _ => (pg_tup rfl (pgs_cons (pg_name (i := 7) sc_held_numbers.nd rfl (.inl rfl)) (pgs_cons (pg_name (i := 8) sc_held_numbers.nd rfl (.inl rfl)) pgs_nil)))) (fun _ _ _ _ _ => pts_nil) (fun _ _ _ _ _ => (pv 8)) (fun _ _ _ _ _ => (pv 7))) -- partners = {j: i for i, j in pairs}
      (pss_cons (ps_set (i := 9) sc_held_numbers.nd rfl (.inl rfl) (pe_lst pa_nil)) -- second = []
      (pss_cons (ps_set (i := 10) sc_held_numbers.nd rfl (.inl rfl) (pe_callB call_len_seq (by rfl) T.m_len PySem.boot_len (pa_cons (pv 5) pa_nil))) -- fresh = len(first)
      (C8.pss_cut (ps_for PassesOwn.never rfl (pi_range1 rfl T.m_range (pa_cons (pe_ix ix_tup (pe_meth0G (pe_ix ix_tup (pv 0) pe_int (fun _ _ => rfl)) T.Watcher.cl T.Watcher_held_counts.M (G_Watcher_held_counts T) gd (hr.mono (by decide)) T.Watcher_held_counts.b .nil pass0) (pv 3) (fun _ _ => rfl)) pa_nil)) (pg_name (i := 8) sc_held_numbers.nd rfl (.inl rfl)) 
        (pss_one (ps_if (pt_cmp (pc_din (hu_of hr) (pv 8) (pv 6))) 
          (pss_one (ps_expr (pe_bm PySem.F.plainAttrs_list PySem.F.slot_list_append PySem.F.type_list_append mt_append (pv 9) (pa_cons (pe_dget (hu_of hr) (pv 6) (pv 8) (fun _ _ => rfl)) pa_nil)))) -- second.append(partners[j])
           
          (pss_cons (ps_expr (pe_bm PySem.F.plainAttrs_list PySem.F.slot_list_append PySem.F.type_list_append mt_append (pv 9) (pa_cons (pv 10) pa_nil))) -- second.append(fresh)
          (pss_one (ps_aug (i := 10) sc_held_numbers.nd rfl (.inl rfl) pe_int ip_add)) -- fresh += 1
          ))) -- if j in partners:
        ) -- for j in range(pair[1].held_counts()[q]):
      (pss_one (ps_ret (pe_tup (pa_cons (pv 5) (pa_cons (pe_callTy call_tupleF (by rfl) T.m_tuple (by decide +kernel) (pa_cons (pv 9) pa_nil)) pa_nil))))) -- return (first, tuple(second))
      )))))) , ?_⟩
    obtain ⟨p, pq, ps⟩ := st
    obtain ⟨sv, xs, rfl, hsv, hxs⟩ := hv.isTup
    cases hxs with
    | cons h1 hxs =>
      cases h1
      cases hxs with
      | cons h2 hxs =>
        cases h2
        cases hxs with
        | cons h3 hxs =>
          cases hxs
          obtain ⟨pa, ys, rfl, hpa, hys⟩ := h3.isTup
          refine ⟨.ref sv, rfl, sv, _, rfl, SqT.of hsv, rfl, .int p, [.int pq, .ref pa], rfl, .int pq, [.ref pa], rfl, .ref pa, [], rfl, rfl, ?_⟩
          obtain ⟨dx, hx⟩ := hp.w1.w.ins
          obtain ⟨dy, hy⟩ := hp.w2.w.ins
          have hA := held_bd hp.w1.ok.k hin.p0 hin.p1
          have hB := held_bd hp.w2.ok.k hin.q0 hin.q1
          dsimp only at hA hB
          have iA : atI ((P1.kinds.map (·.2)).map V.int) p = some (.int (heldAt P1.kinds p)) := by
            rw [← hAt_held]
            exact hs_at hin.p0 (by rw [List.length_map]; exact hin.p1)
          have iB : atI ((P2.kinds.map (·.2)).map V.int) pq = some (.int (heldAt P2.kinds pq)) := by
            rw [← hAt_held]
            exact hs_at hin.q0 (by rw [List.length_map]; exact hin.q1)
          refine ⟨fun σ H' => ∃ fa, σ = [some (.ref t), some (.ref sv), some (.int p), some (.int pq), some (.ref pa), some (.ref fa), none, none, none, none, none] ∧ Same H H' ∧ HT H' fa (firstM (heldAt P1.kinds p)), ?_, ?_⟩
          · clear q
            refine ⟨.ref t, rfl, t, _, 0, .ref a.x, rfl, rfl, hp.sq, atI_nat (j := 0) rfl, a.x, dx, _, rfl, hx, rfl, a.x, a.lv, a.lh, a.d, _, _, _, _, rfl, hp.w1.w, fun c nc => ⟨.int p, rfl, c, _, p, .int (heldAt P1.kinds p), rfl, rfl, SqT.of upd_same, iA, ?_⟩⟩
            refine ⟨heldAt P1.kinds p, rfl, RgOk.of_le (Int.le_refl 0) (by omega) (by omega) hA.1, fun fa ob nfa hob => ⟨fa, rfl, (same_new nc).trans (same_new nfa), ob, ?_, hob⟩⟩
            rw [upd_same, firstM_V]
          rintro σ H1 ⟨fa, rfl, s1, hfa⟩
          have lps : ys.length = ps.length := by
            have := hys.length
            rwa [List.length_map] at this
          have lp3 : ps.length ≤ 3 := hin.len
          refine ⟨fun σ H' => ∃ (D : Addr) (kvs : List (Key × V)), σ = [some (.ref t), some (.ref sv), some (.int p), some (.int pq), some (.ref pa), some (.ref fa), some (.ref D), none, none, none, none] ∧ Same H1 H' ∧ H1 D = none ∧ H' D = some (.dK kvs) ∧ ∀ j : Int, valV kvs (.inl j : Key) = (prt ps j).map V.int, ?_, ?_⟩
          · clear q
            refine ⟨.ref pa, rfl, pa, rfl, ⟨ys, SqT.of (s1 _ _ hpa)⟩, fun D nD => ?_⟩
            refine dc_tup (xs := ys) (fun i H' => Same H1 H' ∧ ∃ kvs : List (Key × V), H' D = some (.dK kvs) ∧ kvs.length ≤ i ∧ ∀ j : Int, valV kvs (.inl j : Key) = (prt (ps.take i) j).map V.int) ?_ ?_ ?_ ?_
            · exact ⟨same_at (Same.refl H1) nD, [], upd_same, Nat.le_refl _, fun j => rfl⟩
            · exact fun i H' _ h => SqT.of (h.1 _ _ (s1 _ _ hpa))
            · rintro i x H2 hx ⟨s2, kvs, hD, lk, hk⟩
              have hi : i < ps.length := by
                have := (List.getElem?_eq_some_iff.mp hx).1
                omega
              obtain ⟨d, hd, hxd⟩ := hys.get hx
              rw [List.getElem?_map, List.getElem?_eq_getElem hi] at hd
              obtain rfl := (Option.some.inj hd)
              obtain ⟨ta, zs, rfl, hta, hzs⟩ := hxd.isTup
              cases hzs with
              | cons g1 gr =>
                cases g1
                cases gr with
                | cons g2 gr =>
                  cases g2
                  cases gr
                  refine ⟨ta, _, rfl, SqT.of (s2 _ _ (s1 _ _ hta)), rfl, .int ps[i].1, [.int ps[i].2], rfl, .int ps[i].2, [], rfl, rfl, rfl, ?_⟩
                  refine ⟨.int ps[i].2, rfl, .int ps[i].1, rfl, kvs, .inl ps[i].2, rfl, hD, Nat.lt_of_le_of_lt lk (Nat.lt_trans hi (Nat.lt_of_le_of_lt lp3 (by decide))), same_at s2 nD, putK kvs (.inl ps[i].2) (.int ps[i].1), upd_same, ?_, fun j => ?_⟩
                  · have := length_putK kvs (.inl ps[i].2 : Key) (V.int ps[i].1)
                    omega
                  · rw [valV_put, hk j, List.take_add_one, List.getElem?_eq_getElem hi]
                    unfold prt
                    rw [Option.toList_some, List.foldl_append]
                    show _ = Option.map V.int (if ps[i].2 = j then some ps[i].1 else _)
                    by_cases e : ps[i].2 = j
                    · rw [if_pos e, if_pos (by rw [e])]
                      rfl
                    · rw [if_neg e, if_neg (fun z => e (Sum.inl.inj z).symm)]
            · rintro H2 ⟨s2, kvs, hD, lk, hk⟩
              rw [lps, List.take_length] at hk
              exact ⟨D, kvs, rfl, s2, nD, hD, hk⟩
          rintro σ H2 ⟨D, kvs, rfl, s2, nD, hD, hk⟩
          have s12 := s1.trans s2
          refine ⟨by show 0 ≤ sizeLine; decide, fun sl nsl => ?_⟩
          have s3 := same_new (o := .lst []) nsl
          refine ⟨.ref fa, rfl, fa, _, rfl, .inr ((hfa.mono s2).mono s3).sq, ?_⟩
          rw [List.length_map, firstM_len]
          refine ⟨fun σ H' => ∃ y, σ = [some (.ref t), some (.ref sv), some (.int p), some (.int pq), some (.ref pa), some (.ref fa), some (.ref D), none, y, some (.ref sl), some (.int (secF ps (heldAt P1.kinds p) (heldAt P2.kinds pq).toNat).2)] ∧ Same H H' ∧ HT H' fa (firstM (heldAt P1.kinds p)) ∧ H' sl = some (.lst ((secondM ps (heldAt P1.kinds p) (heldAt P2.kinds pq)).map V.int)), ?_, ?_⟩
          · clear q
            have sm := s12.trans s3
            have hy3 := sm _ _ hy
            refine ⟨.ref t, rfl, t, _, 1, .ref b.x, rfl, rfl, sqT_same hp.sq sm, atI_nat (j := 1) rfl, b.x, dy, _, rfl, hy3, rfl, b.x, b.lv, b.lh, b.d, _, _, _, _, rfl, hp.w2.w.mono sm, fun c nc => ⟨.int pq, rfl, c, _, pq, .int (heldAt P2.kinds pq), rfl, rfl, SqT.of upd_same, iB, heldAt P2.kinds pq, rfl, by omega, by omega, ?_⟩⟩
            have s4 := same_new (o := .tup ((P2.kinds.map (·.2)).map V.int)) nc
            refine for_range (n := (heldAt P2.kinds pq).toNat) (fun i σ H' => ∃ y, σ = [some (.ref t), some (.ref sv), some (.int p), some (.int pq), some (.ref pa), some (.ref fa), some (.ref D), none, y, some (.ref sl), some (.int (secF ps (heldAt P1.kinds p) i).2)] ∧ Same H2 H' ∧ H' sl = some (.lst ((secF ps (heldAt P1.kinds p) i).1.map V.int))) ?_ ?_ ?_
            · refine ⟨none, ?_, s3.trans s4, s4 _ _ upd_same⟩
              have e : (((heldAt P1.kinds p).toNat : Nat) : Int) = heldAt P1.kinds p := by omega
              rw [e]
              rfl
            · rintro i σ H5 hi ⟨y, rfl, s5, hsl⟩
              have e0 : (0 : Int) + (i : Int) = (i : Int) := by omega
              rw [e0]
              have hD5 := s5 _ _ hD
              have hki := hk (i : Int)
              have ll := secF_len ps (heldAt P1.kinds p) i
              refine ⟨.int (i : Int), rfl, .ref D, rfl, D, _, rfl, DGet.k (k := (.inl (i : Int) : Key)) hD5, _, rfl, ?_⟩
              rw [hki, Option.isSome_map]
              have es := secF_succ ps (heldAt P1.kinds p) i
              cases e : prt ps (i : Int) with
              | some z =>
                rw [e] at hki es
                dsimp only at es
                refine iteT ?_
                refine ⟨.ref sl, rfl, .inl ⟨rfl, _, SqL.of hsl⟩, .ref D, rfl, .int (i : Int), rfl, D, .int z, rfl, ?_, sl, _, .int z, rfl, rfl, hsl, ?_, some (.int (i : Int)), ?_, same_at s5 (by exact nsl), ?_⟩
                · have := DGet.k (k := (.inl (i : Int) : Key)) hD5
                  rw [hki] at this
                  exact this
                · rw [List.length_map, ll]
                  have : 10 ≤ sizeLine := by decide
                  omega
                · rw [es]
                  rfl
                · rw [upd_same, es, List.map_append]
                  rfl
              | none =>
                rw [e] at hki es
                dsimp only at es
                refine iteF ?_
                refine ⟨.ref sl, rfl, .inl ⟨rfl, _, SqL.of hsl⟩, .int _, rfl, sl, _, .int (secF ps (heldAt P1.kinds p) i).2, rfl, rfl, hsl, ?_, .int _, rfl, _, 1, rfl, rfl, some (.int (i : Int)), ?_, same_at s5 (by exact nsl), ?_⟩
                · rw [List.length_map, ll]
                  have : 10 ≤ sizeLine := by decide
                  omega
                · rw [es]
                  rfl
                · rw [upd_same, es, List.map_append]
                  rfl
            · rintro σ H5 ⟨y, rfl, s5, hsl⟩
              exact ⟨y, rfl, s12.trans s5, (hfa.mono s2).mono s5, hsl⟩
          rintro σ H3 ⟨y, rfl, s3', hfa3, hsl3⟩
          refine ⟨.ref fa, rfl, .ref sl, rfl, sl, _, rfl, SqL.of hsl3, fun l ob nl hob => ?_⟩
          have s6 := same_new (o := .frz ob (.tup ((secondM ps (heldAt P1.kinds p) (heldAt P2.kinds pq)).map V.int))) nl
          refine ⟨by show 2 ≤ sizeLine; decide, fun r nr => ?_⟩
          have s7 := same_new (o := .tup [.ref fa, .ref l]) nr
          exact q r fa l _ ((s3'.trans s6).trans s7) upd_same ((hfa3.mono s6).mono s7) ⟨ob, s7 _ _ upd_same, hob⟩
end
section
variable {P : Program} {w : World} {K : PySem.W.Frag} {mg : Str → Option Value} {base : Heap}
abbrev N_cases_between : List Str := ["first", "second", "both", "i", "j", "alone", "value", "others"]
theorem sc_cases_between : FnScope N_cases_between ["first", "second"] (defScope s_cases_between) := ⟨rfl, rfl, rfl, by decide +kernel, rfl, by decide +kernel, by decide +kernel⟩
theorem G_cases_between (T : Tx K mg) : FnG P w K mg base CX0 2 T.cases_between.f T.cases_between.fd ["first", "second"] sp_cases_between := by
  refine okG T.cases_between.F sc_cases_between (fun vs H Q E h => ?_) (fun cdv A outer s H vs Q E gd hr h => ?_)
  · obtain ⟨x, y, f, s, rfl, _⟩ := h
    rfl
  · obtain ⟨x, y, f, g, rfl, hf, hg, lf, lg, q⟩ := h
    refine ⟨_, 
      (C8.pss_cut (ps_setLc (i := 2) (own := [("i", 3), ("j", 4)]) (g := gTup K 2 (gCons (gName 3) (gCons (gName 4) gNil))) rfl sc_cases_between.nd rfl rfl (by rfl) (pi_tup (pe_callG (G_equal_places T) gd (hr.mono (by decide)) rfl T.equal_places.g T.equal_places.F.kp T.equal_places.b .nil pass0 (pa_cons (pv 0) (pa_cons (pv 1) pa_nil)))) (blkOk_by (N := N_cases_between) (sc := defScope s_cases_between) (by decide +kernel)) (fun _ _ _ _ _ => (pg_tup rfl (pgs_cons (pg_name (i := 3) sc_cases_between.nd rfl (.inl rfl)) (pgs_cons (pg_name (i := 4) sc_cases_between.nd rfl (.inl rfl)) pgs_nil)))) (fun _ _ _ _ _ => pts_nil) (fun _ _ _ _ _ => (pe_tup (pa_cons (pe_glob (v := .str "both") rfl T.g_BOTH ⟨_, rfl⟩) (pa_cons (pv 3) (pa_cons (pv 4) pa_nil)))))) -- both = [(BOTH, i, j) for i, j in equal_places(first, second)]
      (C8.pss_cut (ps_setLc (i := 5) (own := [("i", 3), ("value", 6)]) (g := gTup K 2 (gCons (gName 3) (gCons (gName 6) gNil))) rfl sc_cases_between.nd rfl rfl (by rfl) (pi_enumT (by rfl) T.m_enumerate (pa_cons (pv 0) pa_nil)) (blkOk_by (N := N_cases_between) (sc := defScope s_cases_between) (by decide +kernel)) (fun _ _ _ _ _ => (pg_tup rfl (pgs_cons (pg_name (i := 3) sc_cases_between.nd rfl (.inl rfl)) (pgs_cons (pg_name (i := 6) sc_cases_between.nd rfl (.inl rfl)) pgs_nil)))) (fun _ _ _ _ _ => (pts_one (pt_cmpR (r := rIn K true) op_notIn_seq (pv 6) (pv 1) rfl))) (fun _ _ _ _ _ => (pe_tup (pa_cons (pe_glob (v := .str "first") rfl T.g_FIRST ⟨_, rfl⟩) (pa_cons (pv 3) pa_nil))))) -- alone = [(FIRST, i) for i, value in enumerate(first) if value not in second]
      (C8.pss_cut (ps_setLc (i := 7) (own := [("j", 4), ("value", 6)]) (g := gTup K 2 (gCons (gName 4) (gCons (gName 6) gNil))) rfl sc_cases_between.nd rfl rfl (by rfl) (pi_enumT (by rfl) T.m_enumerate (pa_cons (pv 1) pa_nil)) (blkOk_by (N := N_cases_between) (sc := defScope s_cases_between) (by decide +kernel)) (fun _ _ _ _ _ => (pg_tup rfl (pgs_cons (pg_name (i := 4) sc_cases_between.nd rfl (.inl rfl)) (pgs_cons (pg_name (i := 6) sc_cases_between.nd rfl (.inl rfl)) pgs_nil)))) (fun _ _ _ _ _ => (pts_one (pt_cmpR (r := rIn K true) op_notIn_seq (pv 6) (pv 0) rfl))) (fun _ _ _ _ _ => (pe_tup (pa_cons (pe_glob (v := .str "second") rfl T.g_SECOND ⟨_, rfl⟩) (pa_cons (pv 4) pa_nil))))) -- others = [(SECOND, j) for j, value in enumerate(second) if value not in first]
      (pss_one (ps_ret (pe_tup (StX.pa_star (pv 2) (StX.pa_star (pv 5) (StX.pa_star (pv 7) (pa_cons (pe_tup (pa_cons (pe_glob (v := .str "new") rfl T.g_NEW ⟨_, rfl⟩) pa_nil)) pa_nil))))))) -- return (*both, *alone, *others, (NEW,))
      ))) , ?_⟩
    have L5 : 200000 ≤ sizeLine := by decide
    refine ⟨fun σ H' => ∃ y2 y3 y4 b1 xs, σ = [some (.ref x), some (.ref y), y2, y3, y4, none, none, none] ∧ y2 = some (.ref b1) ∧ Same H H' ∧ H' b1 = some (.lst xs) ∧ TDs H' xs (((eqM f g).map fun m => Cs.both m.1 m.2).map csD), ?_, ?_⟩
    · clear q
      refine ⟨.ref x, rfl, .ref y, rfl, x, y, f, g, rfl, hf, hg, lf, lg, fun r H1 s1 hr1 => ?_⟩
      obtain ⟨ra, es, er, hra, hes⟩ := hr1.isTup
      obtain rfl := V.ref.inj er
      have les : es.length = (eqM f g).length := by
        have := hes.length
        rwa [List.length_map] at this
      have le100 : (eqM f g).length ≤ 100 := Nat.le_trans (eqF_len f g _) lf
      refine ⟨r, rfl, ⟨es, SqT.of hra⟩, fun D nD => ?_⟩
      refine lc_tup (xs := es) (fun i H' => Same H1 H' ∧ ∃ xs, H' D = some (.lst xs) ∧ TDs H' xs ((((eqM f g).take i).map fun m => Cs.both m.1 m.2).map csD)) ?_ ?_ ?_ ?_
      · exact ⟨same_at (Same.refl H1) nD, [], upd_same, .nil⟩
      · exact fun i H' _ h => SqT.of (h.1 _ _ hra)
      · rintro i v H2 hv ⟨s2, xs, hD, hxs⟩
        have hi : i < (eqM f g).length := by
          have := (List.getElem?_eq_some_iff.mp hv).1
          omega
        obtain ⟨d, hd, hvd⟩ := hes.get hv
        rw [List.getElem?_map, List.getElem?_eq_getElem hi] at hd
        obtain rfl := (Option.some.inj hd)
        obtain ⟨ta, zs, rfl, hta, hzs⟩ := hvd.isTup
        cases hzs with
        | cons g1 gr =>
          cases g1
          cases gr with
          | cons g2 gr =>
            cases g2
            cases gr
            refine ⟨ta, _, rfl, SqT.of (s2 _ _ hta), rfl, .int (eqM f g)[i].1, [.int (eqM f g)[i].2], rfl, .int (eqM f g)[i].2, [], rfl, rfl, rfl, ?_⟩
            refine ⟨.int (eqM f g)[i].1, rfl, .int (eqM f g)[i].2, rfl, by show 3 ≤ sizeLine; decide, fun m nm => ?_⟩
            have s8 := same_new (o := .tup [.str "both", .int (eqM f g)[i].1, .int (eqM f g)[i].2]) nm
            have hD8 := s8 _ _ hD
            have tp := Tups.lst (o := .lst (xs ++ [.ref m])) hD8
            refine ⟨xs, hD8, ?_, same_at (s2.trans s8) nD, _, upd_same, ?_⟩
            · have := hxs.len
              rw [List.length_map, List.length_map, List.length_take] at this
              omega
            · rw [List.take_add_one, List.getElem?_eq_getElem hi, Option.toList_some, List.map_append, List.map_append]
              exact tds_snoc ((hxs.mono (Tups.same s8)).mono tp) (.tup (tp _ _ upd_same) (.cons (.str _) (.cons (.int _) (.cons (.int _) .nil))))
      · rintro H2 ⟨s2, xs, hD, hxs⟩
        rw [les, List.take_length] at hxs
        exact ⟨_, none, none, D, xs, rfl, rfl, s1.trans s2, hD, hxs⟩
    rintro σ H1 ⟨_, y3, y4, b1, x1, rfl, rfl, s1, hb1, hx1⟩
    refine ⟨fun σ H' => ∃ y3 y4 y6 b2 xs, σ = [some (.ref x), some (.ref y), some (.ref b1), y3, y4, some (.ref b2), y6, none] ∧ Same H1 H' ∧ H' b2 = some (.lst xs) ∧ TDs H' xs (((loneM f g).map Cs.first).map csD), ?_, ?_⟩
    · clear q
      refine ⟨.ref x, rfl, x, _, rfl, (hf.mono s1).sq, fun D nD => ?_⟩
      refine lc_it (walk_enumT (xs := f.map V.int)) (fun i H' => Same H1 H' ∧ ∃ xs, H' D = some (.lst xs) ∧ TDs H' xs (((loneF f g i).map Cs.first).map csD)) ?_ ?_ ?_ ?_
      · exact ⟨same_at (Same.refl _) nD, [], upd_same, .nil⟩
      · exact fun i H' _ h => sqT_same (hf.mono s1).sq h.1
      · rintro i v H3 H4 hi ⟨sm, xs, hD, hxs⟩ ⟨TT, x1, x2, rfl, nT, rfl, e1, e2⟩
        cases e1
        have hi' : i < f.length := by rw [List.length_map] at hi; exact hi
        have ef : f[i]? = some f[i] := List.getElem?_eq_getElem hi'
        have ex : x2 = .int f[i] := by
          have e2 : (f.map V.int)[i]? = some x2 := e2
          rw [List.getElem?_map, ef] at e2
          exact (Option.some.inj e2).symm
        subst ex
        have s7 := same_new (o := .tup [.int (i : Nat), .int f[i]]) nT
        have sm7 := sm.trans s7
        have hD7 := s7 _ _ hD
        refine ⟨TT, _, rfl, SqT.of upd_same, rfl, .int (i : Nat), [.int f[i]], rfl, .int f[i], [], rfl, rfl, rfl, ?_⟩
        refine ⟨.int f[i], rfl, .ref y, rfl, y, _, rfl, .inr ((hg.mono s1).mono sm7).sq, rfl, flat_ints _, _, rfl, ?_⟩
        rw [if_pos rfl, inV_ints, loneF_succ f g i ef]
        by_cases hv : f[i] ∈ g
        · rw [decide_eq_true hv, if_pos hv]
          refine iteF ?_
          rw [List.append_nil]
          exact ⟨sm7, xs, hD7, hxs.mono (Tups.same s7)⟩
        · rw [decide_eq_false hv, if_neg hv]
          refine iteT ?_
          refine ⟨.int (i : Nat), rfl, by show 2 ≤ sizeLine; decide, fun m nm => ?_⟩
          have s8 := same_new (o := .tup [.str "first", .int (i : Nat)]) nm
          have hD8 := s8 _ _ hD7
          have tp := Tups.lst (o := .lst (xs ++ [.ref m])) hD8
          refine ⟨xs, hD8, ?_, same_at (sm7.trans s8) nD, _, upd_same, ?_⟩
          · have := hxs.len
            have := loneF_len f g i
            rw [List.length_map, List.length_map] at *
            omega
          · rw [List.map_append, List.map_append]
            exact tds_snoc ((hxs.mono (Tups.same (s7.trans s8))).mono tp) (.tup (tp _ _ upd_same) (.cons (.str _) (.cons (.int _) .nil)))
      · rintro H3 ⟨sm, xs, hD, hxs⟩
        rw [List.length_map] at hxs
        exact ⟨_, _, none, D, xs, rfl, sm, hD, hxs⟩
    rintro σ H2 ⟨y3, y4, y6, b2, x2, rfl, s2, hb2, hx2⟩
    refine ⟨fun σ H' => ∃ y3 y4 y6 b3 xs, σ = [some (.ref x), some (.ref y), some (.ref b1), y3, y4, some (.ref b2), y6, some (.ref b3)] ∧ Same H2 H' ∧ H' b3 = some (.lst xs) ∧ TDs H' xs (((loneM g f).map Cs.second).map csD), ?_, ?_⟩
    · clear q
      have s12 := s1.trans s2
      refine ⟨.ref y, rfl, y, _, rfl, (hg.mono s12).sq, fun D nD => ?_⟩
      refine lc_it (walk_enumT (xs := g.map V.int)) (fun i H' => Same H2 H' ∧ ∃ xs, H' D = some (.lst xs) ∧ TDs H' xs (((loneF g f i).map Cs.second).map csD)) ?_ ?_ ?_ ?_
      · exact ⟨same_at (Same.refl _) nD, [], upd_same, .nil⟩
      · exact fun i H' _ h => sqT_same (hg.mono s12).sq h.1
      · rintro i v H3 H4 hi ⟨sm, xs, hD, hxs⟩ ⟨TT, x1, x2, rfl, nT, rfl, e1, e2⟩
        cases e1
        have hi' : i < g.length := by rw [List.length_map] at hi; exact hi
        have ef : g[i]? = some g[i] := List.getElem?_eq_getElem hi'
        have ex : x2 = .int g[i] := by
          have e2 : (g.map V.int)[i]? = some x2 := e2
          rw [List.getElem?_map, ef] at e2
          exact (Option.some.inj e2).symm
        subst ex
        have s7 := same_new (o := .tup [.int (i : Nat), .int g[i]]) nT
        have sm7 := sm.trans s7
        have hD7 := s7 _ _ hD
        refine ⟨TT, _, rfl, SqT.of upd_same, rfl, .int (i : Nat), [.int g[i]], rfl, .int g[i], [], rfl, rfl, rfl, ?_⟩
        refine ⟨.int g[i], rfl, .ref x, rfl, x, _, rfl, .inr ((hf.mono s12).mono sm7).sq, rfl, flat_ints _, _, rfl, ?_⟩
        rw [if_pos rfl, inV_ints, loneF_succ g f i ef]
        by_cases hv : g[i] ∈ f
        · rw [decide_eq_true hv, if_pos hv]
          refine iteF ?_
          rw [List.append_nil]
          exact ⟨sm7, xs, hD7, hxs.mono (Tups.same s7)⟩
        · rw [decide_eq_false hv, if_neg hv]
          refine iteT ?_
          refine ⟨.int (i : Nat), rfl, by show 2 ≤ sizeLine; decide, fun m nm => ?_⟩
          have s8 := same_new (o := .tup [.str "second", .int (i : Nat)]) nm
          have hD8 := s8 _ _ hD7
          have tp := Tups.lst (o := .lst (xs ++ [.ref m])) hD8
          refine ⟨xs, hD8, ?_, same_at (sm7.trans s8) nD, _, upd_same, ?_⟩
          · have := hxs.len
            have := loneF_len g f i
            rw [List.length_map, List.length_map] at *
            omega
          · rw [List.map_append, List.map_append]
            exact tds_snoc ((hxs.mono (Tups.same (s7.trans s8))).mono tp) (.tup (tp _ _ upd_same) (.cons (.str _) (.cons (.int _) .nil)))
      · rintro H3 ⟨sm, xs, hD, hxs⟩
        rw [List.length_map] at hxs
        exact ⟨_, _, _, D, xs, rfl, sm, hD, hxs⟩
    rintro σ H3 ⟨y3, y4, y6, b3, x3, rfl, s3, hb3, hx3⟩
    have t1 := hx1.mono (Tups.same (s2.trans s3))
    have t2 := hx2.mono (Tups.same s3)
    refine ⟨.ref b1, rfl, b1, x1, rfl, .inr (SqL.of ((s2.trans s3) _ _ hb1)), .ref b2, rfl, b2, x2, rfl, .inr (SqL.of (s3 _ _ hb2)), .ref b3, rfl, b3, x3, rfl, .inr (SqL.of hb3), by show 1 ≤ sizeLine; decide, fun m nm => ⟨?_, fun r nr => ?_⟩⟩
    · have e1 := hx1.len
      have e2 := hx2.len
      have e3 := hx3.len
      rw [List.length_map, List.length_map] at e1 e2 e3
      have n1 := eqF_len f g f.length
      have n2 := loneF_len f g f.length
      have n3 := loneF_len g f g.length
      have m1 : (eqM f g).length ≤ f.length := n1
      have m2 : (loneM f g).length ≤ f.length := n2
      have m3 : (loneM g f).length ≤ g.length := n3
      simp only [List.length_append, List.length_cons, List.length_nil]
      omega
    have s4 := same_new (o := .tup [.str "new"]) nm
    have s5 := same_new (o := .tup (x1 ++ (x2 ++ (x3 ++ [.ref m])))) nr
    have s45 := s4.trans s5
    refine q r _ (((s1.trans s2).trans s3).trans s45) (.tup upd_same ?_)
    unfold casesM
    rw [List.map_append, List.map_append, List.map_append]
    exact (t1.mono (Tups.same s45)).app ((t2.mono (Tups.same s45)).app ((hx3.mono (Tups.same s45)).app (.cons (.tup (s5 _ _ upd_same) (.cons (.str _) .nil)) .nil)))
abbrev N_value_of : List Str := ["case", "first", "second"]
theorem sc_value_of : FnScope N_value_of ["case", "first", "second"] (defScope s_value_of) := ⟨rfl, rfl, rfl, by decide +kernel, rfl, by decide +kernel, by decide +kernel⟩
theorem G_value_of (T : Tx K mg) : FnG P w K mg base CX0 2 T.value_of.f T.value_of.fd ["case", "first", "second"] sp_value_of := by
  refine okG T.value_of.F sc_value_of (fun vs H Q E h => ?_) (fun cdv A outer s H vs Q E gd hr h => ?_)
  · obtain ⟨v, x, y, c, f, s, rfl, _⟩ := h
    rfl
  · obtain ⟨v, x, y, c, f, g, rfl, hv, hf, hg, lf, lg, hc, q⟩ := h
    refine ⟨_, 
      (pss_cons (ps_if (pt_cmpR op_eq (pe_ix ix_tup (pv 0) pe_int (fun _ _ => rfl)) (pe_glob (v := .str "new") rfl T.g_NEW ⟨_, rfl⟩) (nomark _)) 
        (pss_one (ps_ret (pe_callG (G_least_other T) gd (hr.mono (by decide)) rfl T.least_other.g T.least_other.F.kp T.least_other.b .nil pass0 (pa_cons (pe_tup (StX.pa_star (pv 1) (StX.pa_star (pv 2) pa_nil))) pa_nil)))) -- return least_other((*first, *second))
         pss_nil) -- if case[0] == NEW:
      (pss_cons (ps_if (pt_cmpR op_eq (pe_ix ix_tup (pv 0) pe_int (fun _ _ => rfl)) (pe_glob (v := .str "second") rfl T.g_SECOND ⟨_, rfl⟩) (nomark _)) 
        (pss_one (ps_ret (pe_ix ix_tup (pv 2) (pe_ix ix_tup (pv 0) pe_int (fun _ _ => rfl)) (fun _ _ => rfl)))) -- return second[case[1]]
         pss_nil) -- if case[0] == SECOND:
      (pss_one (ps_ret (pe_ix ix_tup (pv 1) (pe_ix ix_tup (pv 0) pe_int (fun _ _ => rfl)) (fun _ _ => rfl)))) -- return first[case[1]]
      )) , ?_⟩
    have L5 : 200000 ≤ sizeLine := by decide
    obtain ⟨ca, xs, hca, rfl, hxs⟩ : ∃ ca xs, H ca = some (.tup xs) ∧ v = .ref ca ∧ ∃ ds, csD c = .tuple ds ∧ TDs H xs ds := by
      cases c <;> (obtain ⟨ca, xs, e, h1, h2⟩ := hv.isTup; exact ⟨ca, xs, h1, e, _, rfl, h2⟩)
    obtain ⟨ds, ed, hds⟩ := hxs
    have nm : ∀ (a b : Str), a ≠ b → decide (V.str a = V.str b) = false := fun a b n => decide_eq_false fun z => n (V.str.inj z)
    cases c with
    | new =>
      cases ed
      cases hds with
      | cons g1 gr =>
        cases g1
        cases gr
        refine ⟨.ref ca, rfl, ca, _, 0, .str "new", rfl, rfl, SqT.of hca, atI_nat (j := 0) rfl, rfl, true, congrArg V.bl (decide_eq_true rfl), iteT ?_⟩
        refine ⟨.ref x, rfl, x, _, rfl, .inl hf.sq, .ref y, rfl, y, _, rfl, .inl hg.sq, ?_, fun m nm => ?_⟩
        · rw [List.length_append, List.length_append, List.length_map, List.length_map]
          show _ + (_ + 0) ≤ sizeLine
          omega
        refine ⟨m, f ++ g, rfl, ?_, by rw [List.length_append]; omega, q _ (same_new nm)⟩
        rw [upd_same, List.append_nil, List.map_append]
    | both i j =>
      cases ed
      cases hds with
      | cons g1 gr =>
        cases g1
        cases gr with
        | cons g2 gr =>
          cases g2
          obtain ⟨hc0, hc1⟩ := hc
          obtain ⟨n, rfl⟩ : ∃ n : Nat, i = n := ⟨i.toNat, by omega⟩
          have hn : n < f.length := by omega
          refine ⟨.ref ca, rfl, ca, _, 0, .str "both", rfl, rfl, SqT.of hca, atI_nat (j := 0) rfl, rfl, false, congrArg V.bl (nm _ _ (by decide +kernel)), iteF ?_⟩
          refine ⟨.ref ca, rfl, ca, _, 0, .str "both", rfl, rfl, SqT.of hca, atI_nat (j := 0) rfl, rfl, false, congrArg V.bl (nm _ _ (by decide +kernel)), iteF ?_⟩
          refine ⟨.ref x, rfl, .ref ca, rfl, ca, _, 1, .int (n : Int), rfl, rfl, SqT.of hca, atI_nat (j := 1) rfl, x, _, (n : Int), .int f[n], rfl, rfl, hf.sq, atI_nat (by rw [List.getElem?_map, List.getElem?_eq_getElem hn]; rfl), ?_⟩
          have := q H (Same.refl H)
          have e : valueM (.both (n : Int) j) f g = f[n] := by
            show (f[(n : Int).toNat]?).getD 0 = f[n]
            rw [Int.toNat_natCast, List.getElem?_eq_getElem hn]
            rfl
          rw [e] at this
          exact this
    | first i =>
      cases ed
      cases hds with
      | cons g1 gr =>
        cases g1
        cases gr with
        | cons g2 gr =>
          cases g2
          cases gr
          obtain ⟨hc0, hc1⟩ := hc
          obtain ⟨n, rfl⟩ : ∃ n : Nat, i = n := ⟨i.toNat, by omega⟩
          have hn : n < f.length := by omega
          refine ⟨.ref ca, rfl, ca, _, 0, .str "first", rfl, rfl, SqT.of hca, atI_nat (j := 0) rfl, rfl, false, congrArg V.bl (nm _ _ (by decide +kernel)), iteF ?_⟩
          refine ⟨.ref ca, rfl, ca, _, 0, .str "first", rfl, rfl, SqT.of hca, atI_nat (j := 0) rfl, rfl, false, congrArg V.bl (nm _ _ (by decide +kernel)), iteF ?_⟩
          refine ⟨.ref x, rfl, .ref ca, rfl, ca, _, 1, .int (n : Int), rfl, rfl, SqT.of hca, atI_nat (j := 1) rfl, x, _, (n : Int), .int f[n], rfl, rfl, hf.sq, atI_nat (by rw [List.getElem?_map, List.getElem?_eq_getElem hn]; rfl), ?_⟩
          have := q H (Same.refl H)
          have e : valueM (.first (n : Int)) f g = f[n] := by
            show (f[(n : Int).toNat]?).getD 0 = f[n]
            rw [Int.toNat_natCast, List.getElem?_eq_getElem hn]
            rfl
          rw [e] at this
          exact this
    | second i =>
      cases ed
      cases hds with
      | cons g1 gr =>
        cases g1
        cases gr with
        | cons g2 gr =>
          cases g2
          cases gr
          obtain ⟨hc0, hc1⟩ := hc
          obtain ⟨n, rfl⟩ : ∃ n : Nat, i = n := ⟨i.toNat, by omega⟩
          have hn : n < g.length := by omega
          refine ⟨.ref ca, rfl, ca, _, 0, .str "second", rfl, rfl, SqT.of hca, atI_nat (j := 0) rfl, rfl, false, congrArg V.bl (nm _ _ (by decide +kernel)), iteF ?_⟩
          refine ⟨.ref ca, rfl, ca, _, 0, .str "second", rfl, rfl, SqT.of hca, atI_nat (j := 0) rfl, rfl, true, congrArg V.bl (decide_eq_true rfl), iteT ?_⟩
          refine ⟨.ref y, rfl, .ref ca, rfl, ca, _, 1, .int (n : Int), rfl, rfl, SqT.of hca, atI_nat (j := 1) rfl, y, _, (n : Int), .int g[n], rfl, rfl, hg.sq, atI_nat (by rw [List.getElem?_map, List.getElem?_eq_getElem hn]; rfl), ?_⟩
          have := q H (Same.refl H)
          have e : valueM (.second (n : Int)) f g = g[n] := by
            show (g[(n : Int).toNat]?).getD 0 = g[n]
            rw [Int.toNat_natCast, List.getElem?_eq_getElem hn]
            rfl
          rw [e] at this
          exact this
abbrev N_situation_after : List Str := ["pair", "situation", "held", "word", "case", "first", "second", "value", "p", "first_after", "q", "second_after"]
theorem sc_situation_after : FnScope N_situation_after ["pair", "situation", "held", "word", "case"] (defScope s_situation_after) := ⟨rfl, rfl, rfl, by decide +kernel, rfl, by decide +kernel, by decide +kernel⟩
theorem G_situation_after (T : Tx K mg) : FnG P w K mg base CX0 3 T.situation_after.f T.situation_after.fd ["pair", "situation", "held", "word", "case"] (sp_situation_after K T.Watcher.C) := by
  refine okG T.situation_after.F sc_situation_after (fun vs H Q E h => ?_) (fun cdv A outer s H vs Q E gd hr h => ?_)
  · obtain ⟨t, r, x, y, sv, cv, a, b, P1, P2, s, f, g, w', c, rfl, _⟩ := h
    rfl
  · obtain ⟨t, r, x, y, sv, cv, a, b, P1, P2, st, f, g, w', c, rfl, hp, hsv, hin, hr0, hf, hg, h1, h2, hcv, hc, q⟩ := h
    refine ⟨_, 
      (pss_cons (ps_asg (pv 2) (pg_tup rfl (pgs_cons (pg_name (i := 5) sc_situation_after.nd rfl (.inl rfl)) (pgs_cons (pg_name (i := 6) sc_situation_after.nd rfl (.inl rfl)) pgs_nil)))) -- first, second = held
      (C8.pss_cut (ps_set (i := 7) sc_situation_after.nd rfl (.inl rfl) (pe_callG (G_value_of T) gd (hr.mono (by decide)) rfl T.value_of.g T.value_of.F.kp T.value_of.b .nil pass0 (pa_cons (pv 4) (pa_cons (pv 5) (pa_cons (pv 6) pa_nil))))) -- value = value_of(case, first, second)
      (C8.pss_cut (ps_asg (pe_callG (G_after_message T) gd (hr.mono (by decide)) rfl T.after_message.g T.after_message.F.kp T.after_message.b .nil pass0 (pa_cons (pe_ix ix_tup (pv 0) pe_int (fun _ _ => rfl)) (pa_cons (pe_ix ix_tup (pv 1) pe_int (fun _ _ => rfl)) (pa_cons (pv 5) (pa_cons (pv 3) (pa_cons (pv 7) pa_nil)))))) (pg_tup rfl (pgs_cons (pg_name (i := 8) sc_situation_after.nd rfl (.inl rfl)) (pgs_cons (pg_name (i := 9) sc_situation_after.nd rfl (.inl rfl)) pgs_nil)))) -- p, first_after = after_message(pair[0], situation[0], first, word, value)
      (C8.pss_cut (ps_asg (pe_callG (G_after_message T) gd (hr.mono (by decide)) rfl T.after_message.g T.after_message.F.kp T.after_message.b .nil pass0 (pa_cons (pe_ix ix_tup (pv 0) pe_int (fun _ _ => rfl)) (pa_cons (pe_ix ix_tup (pv 1) pe_int (fun _ _ => rfl)) (pa_cons (pv 6) (pa_cons (pv 3) (pa_cons (pv 7) pa_nil)))))) (pg_tup rfl (pgs_cons (pg_name (i := 10) sc_situation_after.nd rfl (.inl rfl)) (pgs_cons (pg_name (i := 11) sc_situation_after.nd rfl (.inl rfl)) pgs_nil)))) -- q, second_after = after_message(pair[1], situation[1], second, word, value)
      (pss_one (ps_ret (pe_tup (pa_cons (pv 8) (pa_cons (pv 10) (pa_cons (pe_callG (G_equal_places T) gd (hr.mono (by decide)) rfl T.equal_places.g T.equal_places.F.kp T.equal_places.b .nil pass0 (pa_cons (pv 9) (pa_cons (pv 11) pa_nil))) pa_nil)))))) -- return (p, q, equal_places(first_after, second_after))
      )))) , ?_⟩
    obtain ⟨sa, zs, rfl, hsa, hzs⟩ := hsv.isTup
    cases hzs with
    | cons z1 zr =>
      cases z1
      cases zr with
      | cons z2 zr =>
        cases z2
        cases zr with
        | cons z3 zr =>
          cases zr
          refine ⟨.ref r, rfl, r, _, rfl, hr0, rfl, .ref x, [.ref y], rfl, .ref y, [], rfl, rfl, ?_⟩
          refine ⟨fun σ H' => σ = [some (.ref t), some (.ref sa), some (.ref r), some (.int w'), some cv, some (.ref x), some (.ref y), some (.int (valueM c f g)), none, none, none, none] ∧ Same H H', ?_, ?_⟩
          · clear q
            have l3 := h1.len
            have l4 := h2.len
            have b1 := held_bd hp.w1.ok.k h1.lo h1.hi
            have b2 := held_bd hp.w2.ok.k h2.lo h2.hi
            dsimp only at l3 l4 b1 b2
            exact ⟨cv, rfl, .ref x, rfl, .ref y, rfl, cv, x, y, c, f, g, rfl, hcv, hf, hg, by omega, by omega, hc, fun H1 s1 => ⟨rfl, s1⟩⟩
          rintro σ H1 ⟨rfl, s1⟩
          refine ⟨fun σ H' => ∃ x', σ = [some (.ref t), some (.ref sa), some (.ref r), some (.int w'), some cv, some (.ref x), some (.ref y), some (.int (valueM c f g)), some (.int (stepM P1.rules (st.1, f) (w', valueM c f g)).1), some (.ref x'), none, none] ∧ Same H H' ∧ HT H' x' (stepM P1.rules (st.1, f) (w', valueM c f g)).2, ?_, ?_⟩
          · clear q
            refine ⟨.ref t, rfl, t, _, 0, .ref a.x, rfl, rfl, sqT_same hp.sq s1, atI_nat (j := 0) rfl, .ref sa, rfl, sa, _, 0, .int st.1, rfl, rfl, SqT.of (s1 _ _ hsa), atI_nat (j := 0) rfl, .ref x, rfl, .int w', rfl, .int _, rfl, a.x, a.lv, a.lh, a.d, x, P1, st.1, f, w', valueM c f g, rfl, hp.w1.mono s1, hf.mono s1, h1, fun u H2 s2 hu => ?_⟩
            obtain ⟨ra, xa, rfl, hra, hxa⟩ := hu
            exact ⟨ra, _, rfl, SqT.of hra, rfl, .int _, [.ref xa], rfl, .ref xa, [], rfl, rfl, xa, rfl, s1.trans s2, hxa⟩
          rintro σ H2 ⟨x', rfl, s2, hx'⟩
          refine ⟨fun σ H' => ∃ y', σ = [some (.ref t), some (.ref sa), some (.ref r), some (.int w'), some cv, some (.ref x), some (.ref y), some (.int (valueM c f g)), some (.int (stepM P1.rules (st.1, f) (w', valueM c f g)).1), some (.ref x'), some (.int (stepM P2.rules (st.2.1, g) (w', valueM c f g)).1), some (.ref y')] ∧ Same H2 H' ∧ HT H' y' (stepM P2.rules (st.2.1, g) (w', valueM c f g)).2, ?_, ?_⟩
          · clear q
            refine ⟨.ref t, rfl, t, _, 1, .ref b.x, rfl, rfl, sqT_same hp.sq s2, atI_nat (j := 1) rfl, .ref sa, rfl, sa, _, 1, .int st.2.1, rfl, rfl, SqT.of (s2 _ _ hsa), atI_nat (j := 1) rfl, .ref y, rfl, .int w', rfl, .int _, rfl, b.x, b.lv, b.lh, b.d, y, P2, st.2.1, g, w', valueM c f g, rfl, hp.w2.mono s2, hg.mono s2, h2, fun u H3 s3 hu => ?_⟩
            obtain ⟨ra, xa, rfl, hra, hxa⟩ := hu
            exact ⟨ra, _, rfl, SqT.of hra, rfl, .int _, [.ref xa], rfl, .ref xa, [], rfl, rfl, xa, rfl, s3, hxa⟩
          rintro σ H3 ⟨y', rfl, s3, hy'⟩
          have o1 := step_ok hp.w1.ok.r h1 (w', valueM c f g)
          have o2 := step_ok hp.w2.ok.r h2 (w', valueM c f g)
          have l3 := o1.len
          have l4 := o2.len
          have b1 := held_bd hp.w1.ok.k o1.lo o1.hi
          have b2 := held_bd hp.w2.ok.k o2.lo o2.hi
          refine ⟨.int _, rfl, .int _, rfl, .ref x', rfl, .ref y', rfl, x', y', _, _, rfl, hx'.mono s3, hy', by omega, by omega, fun e H4 s4 he => ?_⟩
          refine ⟨by show 3 ≤ sizeLine; decide, fun m nm => ?_⟩
          have s5 := same_new (o := .tup [.int (stepM P1.rules (st.1, f) (w', valueM c f g)).1, .int (stepM P2.rules (st.2.1, g) (w', valueM c f g)).1, .ref e]) nm
          exact q _ _ (((s2.trans s3).trans s4).trans s5) (.tup upd_same (.cons (.int _) (.cons (.int _) (.cons (TD.mono (Tups.same s5) _ he) .nil))))
end
theorem casesM_in {f g : List Int} {c : Cs} (h : c ∈ casesM f g) : CsIn c f g := by
  unfold casesM at h
  rcases List.mem_append.mp h with h | h
  · obtain ⟨m, hm, rfl⟩ := List.mem_map.mp h
    obtain ⟨i, hi, e⟩ := List.mem_filterMap.mp hm
    have hi' := List.mem_range.mp hi
    rw [List.getElem?_eq_getElem hi', Option.bind_some] at e
    by_cases hv : f[i] ∈ g
    · rw [if_pos hv] at e
      obtain rfl := Option.some.inj e
      exact ⟨by show (0 : Int) ≤ (i : Int); omega, by show (i : Int) < f.length; omega⟩
    · rw [if_neg hv] at e
      cases e
  · rcases List.mem_append.mp h with h | h
    · obtain ⟨m, hm, rfl⟩ := List.mem_map.mp h
      obtain ⟨i, hi, e⟩ := List.mem_filterMap.mp hm
      have hi' := List.mem_range.mp hi
      rw [List.getElem?_eq_getElem hi', Option.bind_some] at e
      by_cases hv : f[i] ∈ g
      · rw [if_pos hv] at e
        cases e
      · rw [if_neg hv] at e
        obtain rfl := Option.some.inj e
        exact ⟨by show (0 : Int) ≤ (i : Int); omega, by show (i : Int) < f.length; omega⟩
    · rcases List.mem_append.mp h with h | h
      · obtain ⟨m, hm, rfl⟩ := List.mem_map.mp h
        obtain ⟨i, hi, e⟩ := List.mem_filterMap.mp hm
        have hi' := List.mem_range.mp hi
        rw [List.getElem?_eq_getElem hi', Option.bind_some] at e
        by_cases hv : g[i] ∈ f
        · rw [if_pos hv] at e
          cases e
        · rw [if_neg hv] at e
          obtain rfl := Option.some.inj e
          exact ⟨by show (0 : Int) ≤ (i : Int); omega, by show (i : Int) < g.length; omega⟩
      · rw [List.mem_singleton.mp h]
        exact True.intro
theorem casesM_len (f g : List Int) : (casesM f g).length ≤ f.length + (f.length + (g.length + 1)) := by
  have n1 : (eqM f g).length ≤ f.length := eqF_len f g f.length
  have n2 : (loneM f g).length ≤ f.length := loneF_len f g f.length
  have n3 : (loneM g f).length ≤ g.length := loneF_len g f g.length
  unfold casesM
  simp only [List.length_append, List.length_map, List.length_cons, List.length_nil]
  omega
theorem flat_len (P1 P2 : Plan) (s : Sit) (i : Nat) : ((List.range i).flatMap fun w : Nat => (casesM (heldM P1 P2 s).1 (heldM P1 P2 s).2).map fun c => ((w : Int), c, afterM P1 P2 s (heldM P1 P2 s).1 (heldM P1 P2 s).2 w c)).length = i * (casesM (heldM P1 P2 s).1 (heldM P1 P2 s).2).length := by
  induction i with
  | zero => simp
  | succ i ih =>
    rw [List.range_succ, List.flatMap_append, List.length_append, ih]
    simp [Nat.succ_mul]
/-- the steps of the words before i, and of the first j cases of word i, stand at D -/
def StW (P1 P2 : Plan) (s : Sit) (H0 : Hp) (D : Addr) (H : Hp) (i j : Nat) : Prop := Same H0 H ∧ H0 D = none ∧ ∃ xs, H D = some (.lst xs) ∧
  TDs H xs ((((List.range i).flatMap fun w : Nat => (casesM (heldM P1 P2 s).1 (heldM P1 P2 s).2).map fun c => ((w : Int), c, afterM P1 P2 s (heldM P1 P2 s).1 (heldM P1 P2 s).2 w c)) ++ (((casesM (heldM P1 P2 s).1 (heldM P1 P2 s).2).take j).map fun c => ((i : Int), c, afterM P1 P2 s (heldM P1 P2 s).1 (heldM P1 P2 s).2 i c))).map stepD)
section
variable {P : Program} {w : World} {K : PySem.W.Frag} {mg : Str → Option Value} {base : Heap}
abbrev N_steps_from : List Str := ["pair", "situation", "held", "first", "second", "in_order", "word", "case"]
theorem sc_steps_from : FnScope N_steps_from ["pair", "situation"] (defScope s_steps_from) := ⟨rfl, rfl, rfl, by decide +kernel, rfl, by decide +kernel, by decide +kernel⟩
theorem G_steps_from (T : Tx K mg) : FnG P w K mg base CX0 4 T.steps_from.f T.steps_from.fd ["pair", "situation"] (sp_steps_from K T.Watcher.C) := by
  refine okG T.steps_from.F sc_steps_from (fun vs H Q E h => ?_) (fun cdv A outer s H vs Q E gd hr h => ?_)
  · obtain ⟨t, v, a, b, P1, P2, s, rfl, _⟩ := h
    rfl
  · obtain ⟨t, v, a, b, P1, P2, st, rfl, hp, hv, hin, q⟩ := h
    refine ⟨_, 
      (C8.pss_cut (ps_set (i := 2) sc_steps_from.nd rfl (.inr rfl) (pe_callG (G_held_numbers T) gd (hr.mono (by decide)) rfl T.held_numbers.g T.held_numbers.F.kp T.held_numbers.b .nil pass0 (pa_cons (pv 0) (pa_cons (pv 1) pa_nil)))) -- held = held_numbers(pair, situation)
      (pss_cons (ps_asg (pv 2) (pg_tup rfl (pgs_cons (pg_name (i := 3) sc_steps_from.nd rfl (.inl rfl)) (pgs_cons (pg_name (i := 4) sc_steps_from.nd rfl (.inl rfl)) pgs_nil)))) -- first, second = held
      (C8.pss_cut (ps_set (i := 5) sc_steps_from.nd rfl (.inr rfl) (pe_callG (G_cases_between T) gd (hr.mono (by decide)) rfl T.cases_between.g T.cases_between.F.kp T.cases_between.b .nil pass0 (pa_cons (pv 3) (pa_cons (pv 4) pa_nil)))) -- in_order = cases_between(first, second)
      (pss_one (ps_ret (pe_lc2 (own := [("word", 6), ("case", 7)]) (vs1 := [7]) (g := gName 6) (g1 := gName 7) (wi1 := iTup K (tVar 5)) rfl sc_steps_from.nd (pi_range1 rfl T.m_range (pa_cons (pe_fld (pe_ix ix_tup (pv 0) pe_int (fun _ _ => rfl)) rfl) pa_nil)) (blkOk_by (N := N_steps_from) (sc := defScope s_steps_from) (by decide +kernel)) (by decide) (fun _ _ _ _ _ => (pg_name (i := 6) sc_steps_from.nd rfl (.inl rfl))) (fun _ _ _ _ _ => pts_nil) (fun _ _ _ _ _ => (pi_tup (pv 5))) (fun _ _ _ _ _ => (pg_name (i := 7) sc_steps_from.nd rfl (.inl rfl))) (fun _ _ _ _ _ => pts_nil) (fun _ _ _ _ _ => (pe_tup (pa_cons (pv 6) (pa_cons (pv 7) (pa_cons (pe_callG (G_situation_after T) gd (hr.mono (by decide)) rfl T.situation_after.g T.situation_after.F.kp T.situation_after.b .nil pass0 (pa_cons (pv 0) (pa_cons (pv 1) (pa_cons (pv 2) (pa_cons (pv 6) (pa_cons (pv 7) pa_nil)))))) pa_nil)))))))) -- return [(word, case, situation_after(pair, situation, held, word, case)) for word in range(pair[0].words) for case in in_order]
      ))) , ?_⟩
    have L5 : 200000 ≤ sizeLine := by decide
    obtain ⟨o1, o2⟩ := heldM_ok hp.w1.ok hp.w2.ok hin
    have l1 := o1.len
    have l2 := o2.len
    have b1 := held_bd hp.w1.ok.k o1.lo o1.hi
    have b2 := held_bd hp.w2.ok.k o2.lo o2.hi
    dsimp only at l1 l2 b1 b2
    refine ⟨fun σ H' => ∃ r x y, σ = [some (.ref t), some v, some (.ref r), none, none, none, none, none] ∧ Same H H' ∧ H' r = some (.tup [.ref x, .ref y]) ∧ HT H' x (heldM P1 P2 st).1 ∧ HT H' y (heldM P1 P2 st).2, ?_, ?_⟩
    · clear q
      exact ⟨.ref t, rfl, v, rfl, t, v, a, b, P1, P2, st, rfl, hp, hv, hin, fun r x y H1 s1 h1 h2 h3 => ⟨r, x, y, rfl, s1, h1, h2, h3⟩⟩
    rintro σ H1 ⟨r, x, y, rfl, s1, hr1, hx, hy⟩
    refine ⟨.ref r, rfl, r, _, rfl, SqT.of hr1, rfl, .ref x, [.ref y], rfl, .ref y, [], rfl, rfl, ?_⟩
    refine ⟨fun σ H' => ∃ c, σ = [some (.ref t), some v, some (.ref r), some (.ref x), some (.ref y), some (.ref c), none, none] ∧ Same H1 H' ∧ TD H' (.ref c) (.tuple ((casesM (heldM P1 P2 st).1 (heldM P1 P2 st).2).map csD)), ?_, ?_⟩
    · clear q
      exact ⟨.ref x, rfl, .ref y, rfl, x, y, _, _, rfl, hx, hy, by omega, by omega, fun c H2 s2 hc => ⟨c, rfl, s2, hc⟩⟩
    rintro σ H2 ⟨c, rfl, s2, hc⟩
    obtain ⟨dx, hx0⟩ := hp.w1.w.ins
    have s12 := s1.trans s2
    obtain ⟨ca, cs, ec, hca, hcs⟩ := hc.isTup
    obtain rfl := V.ref.inj ec
    have hw1 := hp.w1.ok.w
    have lcs : cs.length = (casesM (heldM P1 P2 st).1 (heldM P1 P2 st).2).length := by
      have := hcs.length
      rwa [List.length_map] at this
    have s12w := hp.w1.w
    refine ⟨.ref t, rfl, t, _, 0, .ref a.x, rfl, rfl, sqT_same hp.sq s12, atI_nat (j := 0) rfl, a.x, T.Watcher.C, dx, _, .int P1.words, rfl, s12 _ _ hx0, T.Watcher.cl, T.nf_Watcherwords, rfl, P1.words, rfl, by omega, by omega, fun D nD => ?_⟩
    refine ⟨fun i m H' => m = P1.words.toNat - i ∧ i ≤ P1.words.toNat ∧ StW P1 P2 st H2 D H' i 0, ⟨P1.words.toNat, by simp, Nat.zero_le _, ?_⟩, ?_⟩
    · exact ⟨same_at (Same.refl _) nD, nD, [], upd_same, .nil⟩
    rintro i m H3 ⟨rfl, hi, hP⟩
    by_cases hlt : i < P1.words.toNat
    · refine .inr ⟨hlt, fun H' => StW P1 P2 st H2 D H' (i + 1) 0, fun H4 p => ⟨P1.words.toNat - (i + 1), by omega, rfl, hlt, p⟩, fun xv H4 yy => ?_⟩
      obtain ⟨e, yy⟩ := yy
      subst e yy
      have e0 : (0 : Int) + (i : Int) = (i : Int) := by omega
      rw [e0]
      have hca3 := hP.1 _ _ hca
      refine ⟨rfl, .ref c, rfl, c, rfl, ⟨cs, SqT.of hca3⟩, fun j k H' => k = cs.length - j ∧ j ≤ cs.length ∧ StW P1 P2 st H2 D H' i j, ⟨cs.length, by simp, Nat.zero_le _, hP⟩, ?_⟩
      rintro j k H5 ⟨rfl, hj, hP5⟩
      have hca5 := hP5.1 _ _ hca
      by_cases hjl : j < cs.length
      · refine .inr ⟨⟨cs, cs[j], SqT.of hca5, by simp [hjl]⟩, fun H' => StW P1 P2 st H2 D H' i (j + 1), fun H' p => ⟨cs.length - (j + 1), by omega, rfl, hjl, p⟩, fun yv H6 yy => ?_⟩
        obtain ⟨e, yy⟩ := yy
        subst e
        have hyv : cs[j]? = some yv := yy cs (SqT.of hca5)
        have hjc : j < (casesM (heldM P1 P2 st).1 (heldM P1 P2 st).2).length := by omega
        obtain ⟨d, hd, hvd⟩ := hcs.get hyv
        rw [List.getElem?_map, List.getElem?_eq_getElem hjc] at hd
        obtain rfl := (Option.some.inj hd)
        obtain ⟨s5, _, xs, hD5, hx5⟩ := hP5
        have s15 := s12.trans s5
        have hcv := TD.mono (Tups.same s5) _ hvd
        refine ⟨rfl, .int (i : Int), rfl, yv, rfl, .ref t, rfl, v, rfl, .ref r, rfl, .int (i : Int), rfl, yv, rfl, t, r, x, y, v, yv, a, b, P1, P2, st, (heldM P1 P2 st).1, (heldM P1 P2 st).2, (i : Int), (casesM (heldM P1 P2 st).1 (heldM P1 P2 st).2)[j], rfl, hp.mono s15, TD.mono (Tups.same s15) _ hv, hin, SqT.of ((s2.trans s5) _ _ hr1), (hx.mono s2).mono s5, (hy.mono s2).mono s5, o1, o2, hcv, casesM_in (List.getElem_mem hjc), fun av H7 s7 hav => ⟨by show 3 ≤ sizeLine; decide, fun m nm => ?_⟩⟩
        have s8 := same_new (o := .tup [.int (i : Int), yv, av]) nm
        have s78 := s7.trans s8
        have hD8 := s78 _ _ hD5
        have tp := Tups.lst (o := .lst (xs ++ [.ref m])) hD8
        refine ⟨xs, hD8, ?_, same_at (s5.trans s78) nD, nD, _, upd_same, ?_⟩
        · have e1 := hx5.len
          rw [e1, List.length_map, List.length_append, List.length_map, List.length_take]
          have e2 := flat_len P1 P2 st i
          have e3 := casesM_len (heldM P1 P2 st).1 (heldM P1 P2 st).2
          have e4 : i * (casesM (heldM P1 P2 st).1 (heldM P1 P2 st).2).length ≤ 3 * 300 := Nat.mul_le_mul (by omega) (by omega)
          omega
        · rw [List.take_add_one, List.getElem?_eq_getElem hjc, Option.toList_some]
          simp only [List.map_append, List.map_cons, List.map_nil]
          rw [← List.append_assoc]
          simp only [List.map_append] at hx5
          exact tds_snoc ((hx5.mono (Tups.same s78)).mono tp) (.tup (tp _ _ upd_same) (.cons (.int _) (.cons (TD.mono tp _ (TD.mono (Tups.same s78) _ hcv)) (.cons (TD.mono tp _ (TD.mono (Tups.same s8) _ hav)) .nil))))
      · have e : j = cs.length := by omega
        subst e
        refine .inl ⟨⟨cs, SqT.of hca5, Nat.le_refl _⟩, ?_⟩
        obtain ⟨s5, _, xs, hD5, hx5⟩ := hP5
        refine ⟨s5, nD, xs, hD5, ?_⟩
        rw [lcs, List.take_length] at hx5
        rw [List.range_succ, List.flatMap_append, List.take_zero, List.map_nil, List.append_nil]
        simpa using hx5
    · have e : i = P1.words.toNat := by omega
      subst e
      refine .inl ⟨Nat.le_refl _, ?_⟩
      obtain ⟨s3, _, xs, hD3, hx3⟩ := hP
      rw [List.take_zero, List.map_nil, List.append_nil] at hx3
      have nDH : H D = none := by
        cases e : H D with
        | none => rfl
        | some o => rw [s12 _ _ e] at nD; cases nD
      exact q D xs H3 (s12.trans s3) nDH hD3 hx3
end
/-- what steps lead to -/
inductive Rch (P1 P2 : Plan) (ss : List Sit) : Sit → Prop
  | base {s : Sit} : s ∈ ss → Rch P1 P2 ss s
  | step {s : Sit} {x : Int × Cs × Sit} : Rch P1 P2 ss s → x ∈ stepsM P1 P2 s → Rch P1 P2 ss x.2.2
theorem Rch.in_ {P1 P2 : Plan} {ss : List Sit} (o1 : PlanOk P1) (o2 : PlanOk P2) (h : ∀ s ∈ ss, SitIn P1 P2 s) {s : Sit} (r : Rch P1 P2 ss s) : SitIn P1 P2 s := by
  induction r with
  | base hs => exact h _ hs
  | @step s x hs hx ih =>
    obtain ⟨w, _, hx⟩ := List.mem_flatMap.mp hx
    obtain ⟨c, _, rfl⟩ := List.mem_map.mp hx
    obtain ⟨a, b⟩ := heldM_ok o1 o2 ih
    exact afterM_in o1 o2 a b
theorem nodup_le {α : Type} [DecidableEq α] : ∀ {ks S : List α}, ks.Nodup → (∀ k ∈ ks, k ∈ S) → ks.length ≤ S.length
  | [], _, _, _ => Nat.zero_le _
  | k :: r, S, n, h => by
    have n' := List.nodup_cons.mp n
    have hk := h k List.mem_cons_self
    have ih := nodup_le (S := S.erase k) n'.2 fun x hx => (List.mem_erase_of_ne (fun e => n'.1 (by rw [← e]; exact hx))).mpr (h x (List.mem_cons_of_mem _ hx))
    rw [List.length_erase_of_mem hk] at ih
    have := List.length_pos_of_mem hk
    rw [List.length_cons]
    omega
theorem stepsM_len {P1 P2 : Plan} {s : Sit} (o1 : PlanOk P1) (o2 : PlanOk P2) (h : SitIn P1 P2 s) : (stepsM P1 P2 s).length ≤ 30 := by
  have e := flat_len P1 P2 s P1.words.toNat
  have e3 := casesM_len (heldM P1 P2 s).1 (heldM P1 P2 s).2
  obtain ⟨a, b⟩ := heldM_ok o1 o2 h
  have l1 := a.len
  have l2 := b.len
  have b1 := held_bd o1.k a.lo a.hi
  have b2 := held_bd o2.k b.lo b.hi
  dsimp only at l1 l2 b1 b2
  have hw := o1.w
  have : P1.words.toNat * (casesM (heldM P1 P2 s).1 (heldM P1 P2 s).2).length ≤ 3 * 10 := Nat.mul_le_mul (by omega) (by omega)
  unfold stepsM
  omega
abbrev StRel (P1 P2 : Plan) (z : Addr) (H : Hp) : List (NestedKey × V) → List Sit → Prop := Paired fun p k => p.1 = sitK k ∧ ∃ l xs, p.2 = .ref l ∧ l ≠ z ∧ H l = some (.lst xs) ∧ TDs H xs ((stepsM P1 P2 k).map stepD)
/-- a dict from these situations to their lists of steps -/
def StD (P : Program) (w : World) (P1 P2 : Plan) (H : Hp) (D : Addr) (ks : List Sit) : Prop := ∃ kvs z, NDict P w H D kvs ∧ StRel P1 P2 z H kvs ks
theorem StRel.keys {P1 P2 : Plan} {z : Addr} {H : Hp} {kvs : List (NestedKey × V)} {ks : List Sit} (h : StRel P1 P2 z H kvs ks) : kvs.map (·.1) = ks.map sitK := by
  induction h with
  | nil => rfl
  | cons a _ ih => rw [List.map_cons, List.map_cons, a.1, ih]
theorem StRel.val {P1 P2 : Plan} {z : Addr} {H : Hp} {kvs : List (NestedKey × V)} {ks : List Sit} (h : StRel P1 P2 z H kvs ks) (s : Sit) : (s ∉ ks → valV kvs (sitK s) = none) ∧ (s ∈ ks → ∃ l xs, valV kvs (sitK s) = some (.ref l) ∧ H l = some (.lst xs) ∧ TDs H xs ((stepsM P1 P2 s).map stepD)) := by
  induction h with
  | nil => exact ⟨fun _ => rfl, fun z => by cases z⟩
  | @cons p k ps ks hp _ ih =>
    by_cases e : k = s
    · subst e
      refine ⟨fun z => absurd List.mem_cons_self z, fun _ => ?_⟩
      obtain ⟨l, xs, e2, _, h1, h2⟩ := hp.2
      exact ⟨l, xs, by rw [valV_pos hp.1, e2], h1, h2⟩
    · have ne : ¬ p.1 = sitK s := fun z => e (sitK_inj (hp.1.symm.trans z))
      rw [valV_neg ne]
      exact ⟨fun z => ih.1 fun y => z (List.mem_cons_of_mem _ y), fun z => ih.2 (by rcases List.mem_cons.mp z with z | z; exact absurd z.symm e; exact z)⟩
def sp_steps_among (P : Program) (w : World) (K : PySem.W.Frag) (C : Addr) : Sp := fun us H Q _ => ∃ (t l : Addr) (vs : List V) (a b : WA) (P1 P2 : Plan) (ss S : List Sit), us = [.ref t, .ref l] ∧ PairAt K C H t a b P1 P2 ∧ H l = some (.lst vs) ∧ TDs H vs (ss.map sitD) ∧ (∀ s ∈ ss, SitIn P1 P2 s) ∧ ss.length ≤ 1000 ∧
  (∀ k, Rch P1 P2 ss k → k ∈ S) ∧ S.length ≤ 100000 ∧
  ∀ D ks H', Same H H' → H D = none → StD P w P1 P2 H' D ks → ks.Nodup → (∀ k, k ∈ ks ↔ Rch P1 P2 ss k) → Q (.ref D) H'
/-- the loop's word -/
structure AmW (P : Program) (w : World) (P1 P2 : Plan) (ss S : List Sit) (H0 : Hp) (D wl : Addr) (m : Nat) (H : Hp) (ks ws : List Sit) : Prop where
  sm : Same H0 H
  st : ∃ kvs, NDict P w H D kvs ∧ StRel P1 P2 wl H kvs ks
  wt : ∃ vs, H wl = some (.lst vs) ∧ TDs H vs (ws.map sitD)
  nd : ks.Nodup
  rk : ∀ k ∈ ks, Rch P1 P2 ss k
  rw_ : ∀ k ∈ ws, Rch P1 P2 ss k
  base : ∀ s ∈ ss, s ∈ ks ∨ s ∈ ws
  cl : ∀ k ∈ ks, ∀ x ∈ stepsM P1 P2 k, x.2.2 ∈ ks ∨ x.2.2 ∈ ws
  me : m = (S.length - ks.length) * 1000 + ws.length
  ln : ws.length ≤ 1000 + 30 * ks.length
/-- all but a stands -/
def NLx (a : Addr) (H H' : Hp) : Prop := ∀ c o, H c = some o → c ≠ a → H' c = some o
def AmV (P : Program) (w : World) (P1 P2 : Plan) (ss S : List Sit) (H0 : Hp) (t l D wl : Addr) : Nat → L2.St → Hp → Prop := fun m σ H => ∃ ks ws y4 y5 y6, σ = [some (.ref t), some (.ref l), some (.ref D), some (.ref wl), y4, y5, y6] ∧ AmW P w P1 P2 ss S H0 D wl m H ks ws
theorem tds_split {H : Hp} : ∀ {ds : List PyData} {vs : List V} {d : PyData}, TDs H vs (ds ++ [d]) → ∃ vs0 v, vs = vs0 ++ [v] ∧ TDs H vs0 ds ∧ TD H v d
  | [], _, _, h => by
    cases h with
    | cons a r =>
      cases r
      exact ⟨[], _, rfl, .nil, a⟩
  | _ :: _, _, _, h => by
    cases h with
    | cons a r =>
      obtain ⟨vs0, v, rfl, h1, h2⟩ := tds_split r
      exact ⟨_ :: vs0, v, rfl, .cons a h1, h2⟩
/-- all but lists that z names stands -/
theorem StRel.but {P1 P2 : Plan} {z : Addr} {H H' : Hp} {kvs : List (NestedKey × V)} {ks : List Sit} (h : StRel P1 P2 z H kvs ks) (k : ∀ c xs, c ≠ z → H c = some (.lst xs) → H' c = some (.lst xs)) (t : Tups H H') : StRel P1 P2 z H' kvs ks :=
  Paired.mapP h fun _ _ ⟨a, l, xs, b, c, d, e⟩ => ⟨a, l, xs, b, c, k _ _ c d, e.mono t⟩
section
variable {P : Program} {w : World} {K : PySem.W.Frag} {mg : Str → Option Value} {base : Heap}
abbrev N_steps_among : List Str := ["pair", "situations", "steps", "waiting", "here", "_", "there"]
theorem sc_steps_among : FnScope N_steps_among ["pair", "situations"] (defScope s_steps_among) := ⟨rfl, rfl, rfl, by decide +kernel, rfl, by decide +kernel, by decide +kernel⟩
theorem G_steps_among (T : Tx K mg) : FnG P w K mg base CX0 5 T.steps_among.f T.steps_among.fd ["pair", "situations"] (sp_steps_among P w K T.Watcher.C) := by
  refine okG T.steps_among.F sc_steps_among (fun vs H Q E h => ?_) (fun cdv A outer s H vs Q E gd hr h => ?_)
  · obtain ⟨t, l, vs, a, b, P1, P2, ss, S, rfl, _⟩ := h
    rfl
  · obtain ⟨t, l, vs, a, b, P1, P2, ss, S, rfl, hp, hl, hvs, hin, lss, hS, lS, q⟩ := h
    refine ⟨_, 
      (pss_cons (ps_set (i := 2) sc_steps_among.nd rfl (.inl rfl) pe_newN) -- steps = {}
      (pss_cons (ps_set (i := 3) sc_steps_among.nd rfl (.inl rfl) (pe_callTy call_list_of (by rfl) T.m_list (by decide +kernel) (pa_cons (pv 1) pa_nil))) -- waiting = list(situations)
      (pss_cons (ps_while PassesOwn.never (pt_truth (pv 3) (by intro _; rfl)) 
        (pss_cons (ps_set (i := 4) sc_steps_among.nd rfl (.inl rfl) (pe_bm0 PySem.F.plainAttrs_list PySem.F.slot_list_pop PySem.F.type_list_pop mt_pop (pv 3))) -- here = waiting.pop()
        (pss_one (ps_if (pt_cmpR (op_notInN hr.units) (pv 4) (pv 2) rfl) 
          (pss_cons (ps_putN hr.units (pv 2) (pv 4) (pe_callG (G_steps_from T) gd (hr.mono (by decide)) rfl T.steps_from.g T.steps_from.F.kp T.steps_from.b .nil pass0 (pa_cons (pv 0) (pa_cons (pv 4) pa_nil))) rfl) -- steps[here] = steps_from(pair, here)
          (pss_one (ps_expr (pe_bm PySem.F.plainAttrs_list PySem.F.slot_list_extend PySem.F.type_list_extend mt_extend (pv 3) (pa_cons (pe_lc (own := [("_", 5), ("_", 5), ("there", 6)]) (g := gTup K 3 (gCons (gName 5) (gCons (gName 5) (gCons (gName 6) gNil)))) rfl sc_steps_among.nd (pi_list (pe_getN hr.units (pv 2) (pv 4))) (blkOk_by (N := N_steps_among) (sc := defScope s_steps_among) (by decide +kernel)) (fun _ _ _ _ _ => (pg_tup rfl (pgs_cons (pg_name (i := 5) sc_steps_among.nd rfl (.inl rfl)) (pgs_cons (pg_name (i := 5) sc_steps_among.nd rfl (.inl rfl)) (pgs_cons (pg_name (i := 6) sc_steps_among.nd rfl (.inl rfl)) pgs_nil))))) (fun _ _ _ _ _ => pts_nil) (fun _ _ _ _ _ => (pv 6))) pa_nil)))) -- waiting.extend([there for _, _, there in steps[here]])
          ) pss_nil)) -- if here not in steps:
        )) -- while waiting:
      (pss_one (ps_ret (pv 2))) -- return steps
      ))) , ?_⟩
    have L5 : 4000000 ≤ sizeLine := by decide
    refine fun D nD => ⟨.ref l, rfl, l, vs, rfl, .inl (SqL.of (same_new nD _ _ hl)), fun wl nwl => ?_⟩
    have nwl0 := (upd_none nwl).2
    have nDw := (upd_none nwl).1
    have sA : Same H (upd (upd H D (NO P w D [])) wl (.lst vs)) := (same_new nD).trans (same_new nwl)
    refine ⟨AmV P w P1 P2 ss S H t l D wl, ⟨S.length * 1000 + ss.length, [], ss, none, none, none, rfl, ⟨sA, ⟨[], ⟨[], same_new nwl _ _ upd_same, .nil⟩, .nil⟩, ⟨vs, upd_same, hvs.mono (Tups.same sA)⟩, List.nodup_nil, (fun k hk => by cases hk), fun k hk => .base hk, fun s hs => .inr hs, (fun k hk => by cases hk), (by simp), (by simpa using lss)⟩⟩, fun m σ H' hW => ?_⟩
    obtain ⟨ks, ws, y4, y5, y6, rfl, hA⟩ := hW
    obtain ⟨kvs, hND, hSR⟩ := hA.st
    obtain ⟨wv, hwl, hwv⟩ := hA.wt
    have hks : ks.length ≤ S.length := nodup_le hA.nd fun k hk => hS k (hA.rk k hk)
    rcases List.eq_nil_or_concat ws with rfl | ⟨ws0, st, ews⟩
    · cases hwv
      refine ⟨.ref wl, rfl, false, .inl ⟨[], SqL.of hwl, rfl⟩, iteF ?_⟩
      refine ⟨.ref D, rfl, q D ks H' hA.sm nD ⟨kvs, wl, hND, hSR⟩ hA.nd fun k => ⟨hA.rk k, fun r => ?_⟩⟩
      induction r with
      | base hs =>
        rcases hA.base _ hs with h | h
        · exact h
        · cases h
      | step _ hx ih =>
        rcases hA.cl _ ih _ hx with h | h
        · exact h
        · cases h
    · rw [List.concat_eq_append] at ews
      subst ews
      rw [List.map_append, List.map_cons, List.map_nil] at hwv
      obtain ⟨v0, y, rfl, hv0, hy⟩ := tds_split hwv
      have rst : Rch P1 P2 ss st := hA.rw_ st (List.mem_append.mpr (.inr (List.mem_singleton.mpr rfl)))
      have ist := rst.in_ hp.w1.ok hp.w2.ok hin
      have lws := hA.ln
      have lme := hA.me
      rw [List.length_append, List.length_singleton] at lws lme
      refine ⟨.ref wl, rfl, true, .inl ⟨v0 ++ [y], SqL.of hwl, by simp⟩, iteT ?_⟩
      refine ⟨fun σ' H2 => ∃ m', m' < m ∧ AmV P w P1 P2 ss S H t l D wl m' σ' H2, fun σ' H2 h => h, ?_⟩
      refine ⟨.ref wl, rfl, .inl ⟨rfl, _, SqL.of hwl⟩, wl, v0 ++ [y], y, rfl, rfl, hwl, by simp, ?_⟩
      rw [List.dropLast_concat]
      have nl : NLx wl H' (upd H' wl (.lst v0)) := fun c o e n => by rw [upd_ne n]; exact e
      have tp : Tups H' (upd H' wl (.lst v0)) := Tups.lst hwl
      have sP : Same H (upd H' wl (.lst v0)) := same_at hA.sm nwl0
      have hND1 : NDict P w (upd H' wl (.lst v0)) D kvs := hND.keep tp fun o e => by rw [upd_ne nDw.symm]; exact e
      have hSR1 : StRel P1 P2 wl (upd H' wl (.lst v0)) kvs ks := hSR.but (fun c xs n e => by rw [upd_ne n]; exact e) tp
      have hy1 := TD.mono tp _ hy
      refine ⟨y, rfl, .ref D, rfl, D, sitK st, kvs, rfl, sit_key hy1, hND1, ?_⟩
      have hval := hSR1.val st
      by_cases hst : st ∈ ks
      · obtain ⟨l1, x1, e1, _, _⟩ := hval.2 hst
        rw [e1]
        refine ⟨false, rfl, iteF ?_⟩
        refine ⟨(S.length - ks.length) * 1000 + ws0.length, by omega, ks, ws0, _, y5, y6, rfl, sP, ⟨kvs, hND1, hSR1⟩, ⟨v0, upd_same, hv0.mono tp⟩, hA.nd, hA.rk, fun k hk => hA.rw_ k (List.mem_append.mpr (.inl hk)), fun s hs => ?_, fun k hk x hx => ?_, rfl, by omega⟩
        · rcases hA.base s hs with h | h
          · exact .inl h
          · rcases List.mem_append.mp h with h | h
            · exact .inr h
            · rw [List.mem_singleton.mp h]
              exact .inl hst
        · rcases hA.cl k hk x hx with h | h
          · exact .inl h
          · rcases List.mem_append.mp h with h | h
            · exact .inr h
            · rw [List.mem_singleton.mp h]
              exact .inl hst
      · have e1 := hval.1 hst
        rw [e1]
        refine ⟨true, rfl, iteT ?_⟩
        refine ⟨.ref t, rfl, y, rfl, t, y, a, b, P1, P2, st, rfl, hp.mono sP, hy1, ist, fun r xs H3 s3 nr hr3 hx3 => ⟨.ref D, rfl, y, rfl, D, sitK st, kvs, rfl, sit_key (TD.mono (Tups.same s3) _ hy1), hND1.mono s3, ?_, fun H4 k4 nd4 => ?_⟩⟩
        · have := congrArg List.length hSR.keys
          rw [List.length_map, List.length_map] at this
          omega
        have hND3 := hND1.mono s3
        obtain ⟨φ, eD⟩ := hND3.some
        have tp4 : Tups H3 H4 := fun c zs e => by
          rw [k4 c (fun q => by rw [q, eD] at e; cases e)]
          exact e
        have nrD : r ≠ D := fun e => by
          obtain ⟨φ1, eD1⟩ := hND1.some
          rw [e, eD1] at nr
          cases nr
        have nrw : r ≠ wl := fun e => by
          rw [e, upd_same] at nr
          cases nr
        have hr4 : H4 r = some (.lst xs) := by rw [k4 r nrD]; exact hr3
        have hwl4 : H4 wl = some (.lst v0) := by rw [k4 wl nDw]; exact s3 _ _ upd_same
        have hx4 := hx3.mono tp4
        have hy4 := TD.mono tp4 _ (TD.mono (Tups.same s3) _ hy1)
        have sm4 : Same H H4 := fun c o e => by
          rw [k4 c (fun q => by rw [q, nD] at e; cases e)]
          exact s3 _ _ (sP _ _ e)
        have hv04 := ((hv0.mono tp).mono (Tups.same s3)).mono tp4
        have hSR4 : StRel P1 P2 wl H4 kvs ks := hSR1.but (fun c zs n e => by
          rw [k4 c (fun q => by
            obtain ⟨φ1, eD1⟩ := hND1.some
            rw [q, eD1] at e
            cases e)]
          exact s3 _ _ e) (Tups.trans (Tups.same s3) tp4)
        have lxs : xs.length = (stepsM P1 P2 st).length := by
          have := hx3.len
          rwa [List.length_map] at this
        have l30 := stepsM_len hp.w1.ok hp.w2.ok ist
        refine ⟨.ref wl, rfl, .inl ⟨rfl, _, SqL.of hwl4⟩, .ref D, rfl, y, rfl, D, sitK st, _, .ref r, rfl, sit_key hy4, nd4, by rw [valV_put, if_pos rfl], r, rfl, ⟨xs, SqL.of hr4⟩, fun L nL => ?_⟩
        refine lc_list (xs := xs) (fun i H' => Same H4 H' ∧ ∃ zs, H' L = some (.lst zs) ∧ TDs H' zs (((stepsM P1 P2 st).take i).map fun x => sitD x.2.2)) ?_ ?_ ?_ ?_
        · exact ⟨same_at (Same.refl _) nL, [], upd_same, .nil⟩
        · exact fun i H' _ h => SqL.of (h.1 _ _ hr4)
        · rintro i xv H5 hxv ⟨s5, zs, hL, hzs⟩
          have hi : i < (stepsM P1 P2 st).length := by
            have := (List.getElem?_eq_some_iff.mp hxv).1
            omega
          obtain ⟨d, hd, hvd⟩ := hx4.get hxv
          rw [List.getElem?_map, List.getElem?_eq_getElem hi] at hd
          obtain rfl := (Option.some.inj hd)
          obtain ⟨ta, us, rfl, hta, hus⟩ := hvd.isTup
          cases hus with
          | @cons u1 d1 us1 ds1 g1 gr =>
            cases gr with
            | @cons u2 d2 us2 ds2 g2 gr =>
              cases gr with
              | @cons u3 d3 us3 ds3 g3 gr =>
                cases gr
                have tpL := Tups.lst (o := .lst (zs ++ [u3])) hL
                refine ⟨ta, _, rfl, SqT.of (s5 _ _ hta), rfl, u1, [u2, u3], rfl, u2, [u3], rfl, u3, [], rfl, rfl, rfl, u3, rfl, zs, hL, ?_, same_at s5 nL, _, upd_same, ?_⟩
                · have := hzs.len
                  rw [List.length_map, List.length_take] at this
                  omega
                · rw [List.take_add_one, List.getElem?_eq_getElem hi, Option.toList_some, List.map_append]
                  exact tds_snoc (hzs.mono tpL) (TD.mono tpL _ (TD.mono (Tups.same s5) _ g3))
        · rintro H5 ⟨s5, zs, hL, hzs⟩
          rw [lxs, List.take_length] at hzs
          have lzs : zs.length = (stepsM P1 P2 st).length := by
            have := hzs.len
            rwa [List.length_map] at this
          have lv0 : v0.length = ws0.length := by
            have := hv0.len
            rwa [List.length_map] at this
          have hwl5 := s5 _ _ hwl4
          have tpw := Tups.lst (o := .lst (v0 ++ zs)) hwl5
          have nd' : (ks ++ [st]).Nodup := List.nodup_append.mpr ⟨hA.nd, List.nodup_cons.mpr ⟨(fun z => by cases z), List.nodup_nil⟩, fun x hx z hz => by rw [List.mem_singleton.mp hz]; exact fun e => hst (e ▸ hx)⟩
          have rk' : ∀ k ∈ ks ++ [st], Rch P1 P2 ss k := fun k hk => by
            rcases List.mem_append.mp hk with h | h
            · exact hA.rk k h
            · rw [List.mem_singleton.mp h]
              exact rst
          have lk' : (ks ++ [st]).length ≤ S.length := nodup_le nd' fun k hk => hS k (rk' k hk)
          have lk2 : (ks ++ [st]).length = ks.length + 1 := by rw [List.length_append]; rfl
          rw [lk2] at lk'
          refine ⟨wl, L, v0, zs, rfl, rfl, hwl5, hL, by omega, (S.length - (ks.length + 1)) * 1000 + (ws0.length + (stepsM P1 P2 st).length), by omega, ks ++ [st], ws0 ++ (stepsM P1 P2 st).map (·.2.2), _, y5, y6, rfl, same_at (sm4.trans s5) nwl0, ⟨putK kvs (sitK st) (.ref r), ?_, ?_⟩, ⟨v0 ++ zs, upd_same, ?_⟩, nd', rk', ?_, ?_, ?_, ?_, ?_⟩
          · exact (nd4.mono s5).keep tpw fun o e => by rw [upd_ne nDw.symm]; exact e
          · rw [putK_new _ e1]
            refine Paired.snoc ((hSR4.but (fun c us n e => s5 _ _ e) (Tups.same s5)).but (fun c us n e => by rw [upd_ne n]; exact e) tpw) ⟨rfl, r, xs, rfl, nrw, by rw [upd_ne nrw]; exact s5 _ _ hr4, (hx4.mono (Tups.same s5)).mono tpw⟩
          · rw [List.map_append, List.map_map]
            exact ((hv04.mono (Tups.same s5)).mono tpw).app (hzs.mono tpw)
          · intro k hk
            rcases List.mem_append.mp hk with h | h
            · exact hA.rw_ k (List.mem_append.mpr (.inl h))
            · obtain ⟨x, hx, rfl⟩ := List.mem_map.mp h
              exact .step rst hx
          · intro s' hs
            rcases hA.base s' hs with h | h
            · exact .inl (List.mem_append.mpr (.inl h))
            · rcases List.mem_append.mp h with h | h
              · exact .inr (List.mem_append.mpr (.inl h))
              · exact .inl (List.mem_append.mpr (.inr h))
          · intro k hk x hx
            rcases List.mem_append.mp hk with h | h
            · rcases hA.cl k h x hx with h | h
              · exact .inl (List.mem_append.mpr (.inl h))
              · rcases List.mem_append.mp h with h | h
                · exact .inr (List.mem_append.mpr (.inl h))
                · exact .inl (List.mem_append.mpr (.inr h))
            · rw [List.mem_singleton.mp h] at hx
              exact .inr (List.mem_append.mpr (.inr (List.mem_map.mpr ⟨x, hx, rfl⟩)))
          · rw [lk2, List.length_append, List.length_map]
          · rw [lk2, List.length_append, List.length_map]
            omega
end
def ascN (ks : List Sit) : List NestedKey := srtN (ks.map sitK)
def sp_reached_situations (K : PySem.W.Frag) (C : Addr) : Sp := fun us H Q _ => ∃ (t : Addr) (v : V) (a b : WA) (P1 P2 : Plan) (s : Sit) (S : List Sit), us = [.ref t, v] ∧ PairAt K C H t a b P1 P2 ∧ TD H v (sitD s) ∧ SitIn P1 P2 s ∧
  (∀ k, Rch P1 P2 [s] k → k ∈ S) ∧ S.length ≤ 100000 ∧
  ∀ r ks H', Same H H' → TD H' (.ref r) (.tuple ((ascN ks).map nkD)) → ks.Nodup → (∀ k, k ∈ ks ↔ Rch P1 P2 [s] k) → Q (.ref r) H'
theorem sitK_alike (s s' : Sit) : PySem.W.alike (nkD (sitK s)) (nkD (sitK s')) = true := by
  rw [sitK_D, sitK_D]
  have h : ∀ l l' : List (Int × Int), PySem.W.alikeAll (l.map pairD) (l'.map pairD) = true := by
    intro l
    induction l with
    | nil => intro l'; simp [PySem.W.alikeAll]
    | cons x r ih =>
      intro l'
      cases l' with
      | nil => simp [PySem.W.alikeAll]
      | cons y r' =>
        simp only [List.map_cons, PySem.W.alikeAll, Bool.and_eq_true]
        exact ⟨by simp [pairD, PySem.W.alike, PySem.W.alikeAll], ih r'⟩
  unfold sitD pairsD
  simp only [PySem.W.alike, PySem.W.alikeAll, Bool.and_true, Bool.true_and]
  exact h _ _
section
variable {P : Program} {w : World} {K : PySem.W.Frag} {mg : Str → Option Value} {base : Heap}
abbrev N_reached_situations : List Str := ["pair", "situation"]
theorem sc_reached_situations : FnScope N_reached_situations ["pair", "situation"] (defScope s_reached_situations) := ⟨rfl, rfl, rfl, by decide +kernel, rfl, by decide +kernel, by decide +kernel⟩
theorem G_reached_situations (T : Tx K mg) : FnG P w K mg base CX0 6 T.reached_situations.f T.reached_situations.fd ["pair", "situation"] (sp_reached_situations K T.Watcher.C) := by
  refine okG T.reached_situations.F sc_reached_situations (fun vs H Q E h => ?_) (fun cdv A outer s H vs Q E gd hr h => ?_)
  · obtain ⟨t, v, a, b, P1, P2, s, S, rfl, _⟩ := h
    rfl
  · obtain ⟨t, v, a, b, P1, P2, st, S, rfl, hp, hv, hin, hS, lS, q⟩ := h
    refine ⟨_, 
      (pss_one (ps_ret (pe_callTy call_tuple_of (by rfl) T.m_tuple (by decide +kernel) (pa_cons (pe_callB (call_sortN rfl hr.units) (by rfl) T.m_sorted PyProof.Rows.boot_sorted (pa_cons (pe_callG (G_steps_among T) gd (hr.mono (by decide)) rfl T.steps_among.g T.steps_among.F.kp T.steps_among.b .nil pass0 (pa_cons (pv 0) (pa_cons (pe_lst (pa_cons (pv 1) pa_nil)) pa_nil))) pa_nil)) pa_nil)))) -- return tuple(sorted(steps_among(pair, [situation])))
       , ?_⟩
    have L5 : 4000000 ≤ sizeLine := by decide
    refine ⟨.ref t, rfl, v, rfl, by show 1 ≤ sizeLine; decide, fun l nl => ?_⟩
    have s1 := same_new (o := .lst [v]) nl
    refine ⟨t, l, [v], a, b, P1, P2, [st], S, rfl, hp.mono s1, upd_same, .cons (TD.mono (Tups.same s1) _ hv) .nil, fun s hs => by rw [List.mem_singleton.mp hs]; exact hin, by show 1 ≤ 1000; decide, hS, lS, fun D ks H2 s2 nD hD nd hk => ?_⟩
    obtain ⟨kvs, z, hND, hSR⟩ := hD
    refine ⟨D, kvs, rfl, hND, ?_, fun p bs np hbs => ?_⟩
    · rw [hSR.keys]
      refine ⟨fun x hx y hy => ?_, fun x hx => ?_⟩
      · obtain ⟨k1, _, rfl⟩ := List.mem_map.mp hx
        obtain ⟨k2, _, rfl⟩ := List.mem_map.mp hy
        exact sitK_alike k1 k2
      · obtain ⟨k1, _, rfl⟩ := List.mem_map.mp hx
        exact ⟨_, _, rfl⟩
    · rw [hSR.keys] at hbs
      have s3 := same_new (o := .lst (bs.map V.ref)) np
      refine ⟨p, _, rfl, .inl ⟨SqL.of upd_same, fun r nr => ?_⟩⟩
      have s4 := same_new (o := .tup (bs.map V.ref)) nr
      refine q r ks _ (((s1.trans s2).trans s3).trans s4) (.tup upd_same ?_) nd hk
      have hb2 := hbs.mono (Tups.same (s3.trans s4))
      generalize upd (upd H2 p (.lst (bs.map V.ref))) r (.tup (bs.map V.ref)) = H9 at hb2
      have all : ∀ {ks : List NestedKey} {bs : List Addr}, IsNK H9 ks bs → TDs H9 (bs.map V.ref) (ks.map nkD) := by
        intro ks bs h
        induction h with
        | nil => exact .nil
        | cons h1 _ ih => exact .cons h1.2.1 ih
      exact all hb2
end
def verAt (ks : List (Int × Int)) (i : Int) : Int := ((ks[i.toNat]?).getD (0, 0)).1
def othF (n : Nat) (i : Int) : List (Int × Int) := (List.range n).filterMap fun j : Nat => if (j : Int) = i then none else some ((j : Int), (j : Int))
def otherS (ks : List (Int × Int)) (p i : Int) : Sit := (p, p, othF (heldAt ks p).toNat i)
theorem othF_succ (n : Nat) (i : Int) : othF (n + 1) i = othF n i ++ (if (n : Int) = i then [] else [((n : Int), (n : Int))]) := by
  unfold othF
  rw [List.range_succ, List.filterMap_append]
  congr 1
  by_cases h : (n : Int) = i <;> simp [h]
theorem othF_len (n : Nat) (i : Int) : (othF n i).length ≤ n := by
  unfold othF
  exact Nat.le_trans (List.length_filterMap_le _ _) (by rw [List.length_range]; exact Nat.le_refl _)
def plW (ks : List (Int × Int)) (p n : Nat) : List (Int × Int) := (List.range n).map fun i : Nat => ((p : Int), (i : Int))
def placesM (ks : List (Int × Int)) : List (Int × Int) := (List.range ks.length).flatMap fun p : Nat => plW ks p (heldAt ks p).toNat
theorem plW_len (ks : List (Int × Int)) (p n : Nat) : (plW ks p n).length = n := by
  unfold plW
  rw [List.length_map, List.length_range]
theorem plW_succ (ks : List (Int × Int)) (p n : Nat) : plW ks p (n + 1) = plW ks p n ++ [((p : Int), (n : Int))] := by
  unfold plW
  rw [List.range_succ, List.map_append]
  rfl
theorem plF_len {ks : List (Int × Int)} (h : KindsOk ks) : ∀ i : Nat, i ≤ ks.length → ((List.range i).flatMap fun p : Nat => plW ks p (heldAt ks p).toNat).length ≤ 3 * i
  | 0, _ => by simp
  | i + 1, hi => by
    have ih := plF_len h i (by omega)
    have b := held_bd h (i := (i : Int)) (by omega) (by omega)
    rw [List.range_succ, List.flatMap_append, List.length_append]
    have e : (List.flatMap (fun p : Nat => plW ks p (heldAt ks p).toNat) [i]).length = (heldAt ks (i : Int)).toNat := by
      rw [List.flatMap_singleton, plW_len]
    rw [e]
    omega
def PlW (ks : List (Int × Int)) (H1 : Hp) (D : Addr) (H : Hp) (i j : Nat) : Prop := Same H1 H ∧ ∃ xs, H D = some (.lst xs) ∧ TDs H xs (((List.range i).flatMap (fun p : Nat => plW ks p (heldAt ks p).toNat) ++ plW ks i j).map pairD)
def sp_verdicts_at (K : PySem.W.Frag) (C : Addr) : Sp := fun us H Q _ => ∃ (t : Addr) (v : V) (a b : WA) (P1 P2 : Plan) (s : Sit), us = [.ref t, v] ∧ PairAt K C H t a b P1 P2 ∧ TD H v (sitD s) ∧ SitIn P1 P2 s ∧
  ∀ r H', Same H H' → H' r = some (.tup [.int (verAt P1.kinds s.1), .int (verAt P2.kinds s.2.1)]) → Q (.ref r) H'
def sp_are_sought : Sp := fun us H Q _ => ∃ (c v : Addr) (x y : Int) (s : Str) (rest : List V), us = [.ref c, .ref v] ∧ H c = some (.tup (.str s :: rest)) ∧ s ≠ ("together" : Str) ∧ H v = some (.tup [.int x, .int y]) ∧ Q (.bl (!decide (x = y))) H
def sp_other_value (C : Addr) : Sp := fun us H Q _ => ∃ (x lv lh d : Addr) (P : Plan) (p i : Int), us = [.ref x, .int p, .int i] ∧ WP C H x lv lh d P ∧ 0 ≤ p ∧ p < P.kinds.length ∧
  ∀ r H', Same H H' → TD H' (.ref r) (sitD (otherS P.kinds p i)) → Q (.ref r) H'
def sp_all_places (C : Addr) : Sp := fun us H Q _ => ∃ (x lv lh d : Addr) (P : Plan), us = [.ref x] ∧ WP C H x lv lh d P ∧
  ∀ r xs H', Same H H' → H r = none → H' r = some (.lst xs) → TDs H' xs ((placesM P.kinds).map pairD) → Q (.ref r) H'
theorem ver_at {ks : List (Int × Int)} {i : Int} (h0 : 0 ≤ i) (h1 : i < ks.length) : atI ((ks.map (·.1)).map V.int) i = some (.int (verAt ks i)) := by
  have e : (((i.toNat : Nat)) : Int) = i := by omega
  rw [← e]
  refine atI_nat ?_
  have hi : i.toNat < ks.length := by omega
  rw [List.getElem?_map, List.getElem?_map, List.getElem?_eq_getElem hi]
  unfold verAt
  rw [e, List.getElem?_eq_getElem hi]
  rfl
section
variable {P : Program} {w : World} {K : PySem.W.Frag} {mg : Str → Option Value} {base : Heap}
abbrev N_verdicts_at : List Str := ["pair", "situation", "p", "q", "_"]
theorem sc_verdicts_at : FnScope N_verdicts_at ["pair", "situation"] (defScope s_verdicts_at) := ⟨rfl, rfl, rfl, by decide +kernel, rfl, by decide +kernel, by decide +kernel⟩
theorem G_verdicts_at (T : Tx K mg) : FnG P w K mg base CX0 2 T.verdicts_at.f T.verdicts_at.fd ["pair", "situation"] (sp_verdicts_at K T.Watcher.C) := by
  refine okG T.verdicts_at.F sc_verdicts_at (fun vs H Q E h => ?_) (fun cdv A outer s H vs Q E gd hr h => ?_)
  · obtain ⟨t, v, a, b, P1, P2, s, rfl, _⟩ := h
    rfl
  · obtain ⟨t, v, a, b, P1, P2, st, rfl, hp, hv, hin, q⟩ := h
    refine ⟨_, 
      (pss_cons (ps_asg (pv 1) (pg_tup rfl (pgs_cons (pg_name (i := 2) sc_verdicts_at.nd rfl (.inl rfl)) (pgs_cons (pg_name (i := 3) sc_verdicts_at.nd rfl (.inl rfl)) (pgs_cons (pg_name (i := 4) sc_verdicts_at.nd rfl (.inl rfl)) pgs_nil))))) -- p, q, _ = situation
      (pss_one (ps_ret (pe_tup (pa_cons (pe_ix ix_tup (pe_meth0G (pe_ix ix_tup (pv 0) pe_int (fun _ _ => rfl)) T.Watcher.cl T.Watcher_verdicts.M (G_Watcher_verdicts T) gd (hr.mono (by decide)) T.Watcher_verdicts.b .nil pass0) (pv 2) (fun _ _ => rfl)) (pa_cons (pe_ix ix_tup (pe_meth0G (pe_ix ix_tup (pv 0) pe_int (fun _ _ => rfl)) T.Watcher.cl T.Watcher_verdicts.M (G_Watcher_verdicts T) gd (hr.mono (by decide)) T.Watcher_verdicts.b .nil pass0) (pv 3) (fun _ _ => rfl)) pa_nil))))) -- return (pair[0].verdicts()[p], pair[1].verdicts()[q])
      ) , ?_⟩
    obtain ⟨sv, xs, rfl, hsv, hxs⟩ := hv.isTup
    obtain ⟨dx, hx⟩ := hp.w1.w.ins
    obtain ⟨dy, hy⟩ := hp.w2.w.ins
    cases hxs with
    | cons h1 hxs =>
      cases h1
      cases hxs with
      | cons h2 hxs =>
        cases h2
        cases hxs with
        | @cons v3 d3 vs3 ds3 h3 hxs =>
          cases hxs
          refine ⟨.ref sv, rfl, sv, _, rfl, SqT.of hsv, rfl, .int st.1, [.int st.2.1, v3], rfl, .int st.2.1, [v3], rfl, v3, [], rfl, rfl, ?_⟩
          refine ⟨.ref t, rfl, t, _, 0, .ref a.x, rfl, rfl, hp.sq, atI_nat (j := 0) rfl, a.x, dx, _, rfl, hx, rfl, a.x, a.lv, a.lh, a.d, _, _, _, _, rfl, hp.w1.w, fun c nc => ⟨.int st.1, rfl, c, _, st.1, .int (verAt P1.kinds st.1), rfl, rfl, SqT.of upd_same, ver_at hin.p0 hin.p1, ?_⟩⟩
          have s1 := same_new (o := .tup ((P1.kinds.map (·.1)).map V.int)) nc
          refine ⟨.ref t, rfl, t, _, 1, .ref b.x, rfl, rfl, sqT_same hp.sq s1, atI_nat (j := 1) rfl, b.x, dy, _, rfl, s1 _ _ hy, rfl, b.x, b.lv, b.lh, b.d, _, _, _, _, rfl, hp.w2.w.mono s1, fun c2 nc2 => ⟨.int st.2.1, rfl, c2, _, st.2.1, .int (verAt P2.kinds st.2.1), rfl, rfl, SqT.of upd_same, ver_at hin.q0 hin.q1, ?_⟩⟩
          have s2 := same_new (o := .tup ((P2.kinds.map (·.1)).map V.int)) nc2
          refine ⟨by show 2 ≤ sizeLine; decide, fun r nr => ?_⟩
          exact q r _ ((s1.trans s2).trans (same_new nr)) upd_same
abbrev N_are_sought : List Str := ["claim", "verdicts"]
theorem sc_are_sought : FnScope N_are_sought ["claim", "verdicts"] (defScope s_are_sought) := ⟨rfl, rfl, rfl, by decide +kernel, rfl, by decide +kernel, by decide +kernel⟩
theorem G_are_sought (T : Tx K mg) : FnG P w K mg base CX0 1 T.are_sought.f T.are_sought.fd ["claim", "verdicts"] sp_are_sought := by
  refine okG T.are_sought.F sc_are_sought (fun vs H Q E h => ?_) (fun cdv A outer s H vs Q E gd hr h => ?_)
  · obtain ⟨c, v, x, y, s, rest, rfl, _⟩ := h
    rfl
  · obtain ⟨c, v, x, y, sK, rest, rfl, hc, hs, hv, q⟩ := h
    refine ⟨_, 
      (pss_cons (ps_if (pt_cmpR op_eq (pe_ix ix_tup (pv 0) pe_int (fun _ _ => rfl)) (pe_glob (v := .str "together") rfl T.g_TOGETHER ⟨_, rfl⟩) (nomark _)) 
        (pss_one (ps_ret (pe_cmpR (op_eqT hr.units) (pv 1) (pe_slice sl_D (pv 0) (po_some pe_int) po_none) (nomark _)))) -- return verdicts == claim[1:]
         pss_nil) -- if claim[0] == TOGETHER:
      (pss_one (ps_ret (pe_cmpR op_ne (pe_ix ix_tup (pv 1) pe_int (fun _ _ => rfl)) (pe_ix ix_tup (pv 1) pe_int (fun _ _ => rfl)) (nomark _)))) -- return verdicts[0] != verdicts[1]
      ) , ?_⟩
    refine ⟨.ref c, rfl, c, _, 0, .str sK, rfl, rfl, SqT.of hc, atI_nat (j := 0) rfl, rfl, false, congrArg V.bl (decide_eq_false (fun z => hs (V.str.inj z))), iteF ?_⟩
    refine ⟨.ref v, rfl, v, _, 0, .int x, rfl, rfl, SqT.of hv, atI_nat (j := 0) rfl, .ref v, rfl, v, _, 1, .int y, rfl, rfl, SqT.of hv, atI_nat (j := 1) rfl, rfl, ?_⟩
    have e : decide (V.int x = V.int y) = decide (x = y) := by
      by_cases h : x = y
      · rw [h]
        simp
      · rw [decide_eq_false h, decide_eq_false fun z => h (V.int.inj z)]
    rw [e]
    exact q
abbrev N_other_value : List Str := ["watcher", "p", "i", "j"]
theorem sc_other_value : FnScope N_other_value ["watcher", "p", "i"] (defScope s_other_value) := ⟨rfl, rfl, rfl, by decide +kernel, rfl, by decide +kernel, by decide +kernel⟩
theorem G_other_value (T : Tx K mg) : FnG P w K mg base CX0 2 T.other_value.f T.other_value.fd ["watcher", "p", "i"] (sp_other_value T.Watcher.C) := by
  refine okG T.other_value.F sc_other_value (fun vs H Q E h => ?_) (fun cdv A outer s H vs Q E gd hr h => ?_)
  · obtain ⟨x, lv, lh, d, P', p, i, rfl, _⟩ := h
    rfl
  · obtain ⟨x, lv, lh, d, PL, p, i, rfl, hw, p0, p1, q⟩ := h
    refine ⟨_, 
      (pss_one (ps_ret (pe_tup (pa_cons (pv 1) (pa_cons (pv 1) (pa_cons (pe_callTy call_tuple_of (by rfl) T.m_tuple (by decide +kernel) (pa_cons (pe_lc (own := [("j", 3)]) (g := gName 3) rfl sc_other_value.nd (pi_range1 rfl T.m_range (pa_cons (pe_ix ix_tup (pe_meth0G (pv 0) T.Watcher.cl T.Watcher_held_counts.M (G_Watcher_held_counts T) gd (hr.mono (by decide)) T.Watcher_held_counts.b .nil pass0) (pv 1) (fun _ _ => rfl)) pa_nil)) (blkOk_by (N := N_other_value) (sc := defScope s_other_value) (by decide +kernel)) (fun _ _ _ _ _ => (pg_name (i := 3) sc_other_value.nd rfl (.inl rfl))) (fun _ _ _ _ _ => (pts_one (pt_cmpR op_ne (pv 3) (pv 2) (nomark _)))) (fun _ _ _ _ _ => (pe_tup (pa_cons (pv 3) (pa_cons (pv 3) pa_nil))))) pa_nil)) pa_nil)))))) -- return (p, p, tuple([(j, j) for j in range(watcher.held_counts()[p]) if j != i]))
       , ?_⟩
    have L5 : 200000 ≤ sizeLine := by decide
    obtain ⟨dx, hx⟩ := hw.w.ins
    have hA := held_bd hw.ok.k p0 p1
    have iA : atI ((PL.kinds.map (·.2)).map V.int) p = some (.int (heldAt PL.kinds p)) := by
      rw [← hAt_held]
      exact hs_at p0 (by rw [List.length_map]; exact p1)
    refine ⟨.int p, rfl, .int p, rfl, .ref x, rfl, x, dx, _, rfl, hx, rfl, x, lv, lh, d, _, _, _, _, rfl, hw.w, fun c nc => ⟨.int p, rfl, c, _, p, .int (heldAt PL.kinds p), rfl, rfl, SqT.of upd_same, iA, heldAt PL.kinds p, rfl, by omega, by omega, fun D nD => ?_⟩⟩
    have s1 := same_new (o := .tup ((PL.kinds.map (·.2)).map V.int)) nc
    refine lc_range (n := (heldAt PL.kinds p).toNat) (fun j H' => Same (upd H c (.tup ((PL.kinds.map (·.2)).map V.int))) H' ∧ ∃ xs, H' D = some (.lst xs) ∧ TDs H' xs ((othF j i).map pairD)) ?_ ?_ ?_
    · exact ⟨same_at (Same.refl _) nD, [], upd_same, .nil⟩
    · rintro j H3 hj ⟨s3, xs, hD, hxs⟩
      have e0 : (0 : Int) + (j : Int) = (j : Int) := by omega
      rw [e0]
      refine ⟨rfl, .int (j : Int), rfl, .int i, rfl, rfl, ?_⟩
      rw [othF_succ]
      have e : decide (V.int (j : Int) = V.int i) = decide ((j : Int) = i) := by
        by_cases h : (j : Int) = i
        · rw [h]
          simp
        · rw [decide_eq_false h, decide_eq_false fun z => h (V.int.inj z)]
      rw [e]
      by_cases h : (j : Int) = i
      · rw [decide_eq_true h, if_pos h]
        refine ⟨false, rfl, iteF ?_⟩
        rw [List.append_nil]
        exact ⟨s3, xs, hD, hxs⟩
      · rw [decide_eq_false h, if_neg h]
        refine ⟨true, rfl, iteT ?_⟩
        refine ⟨.int (j : Int), rfl, .int (j : Int), rfl, by show 2 ≤ sizeLine; decide, fun m nm => ?_⟩
        have s8 := same_new (o := .tup [.int (j : Int), .int (j : Int)]) nm
        have hD8 := s8 _ _ hD
        have tp := Tups.lst (o := .lst (xs ++ [.ref m])) hD8
        refine ⟨xs, hD8, ?_, same_at (s3.trans s8) nD, _, upd_same, ?_⟩
        · have := hxs.len
          have := othF_len j i
          rw [List.length_map] at *
          omega
        · rw [List.map_append]
          exact tds_snoc ((hxs.mono (Tups.same s8)).mono tp) (.tup (tp _ _ upd_same) (.cons (.int _) (.cons (.int _) .nil)))
    · rintro H3 ⟨s3, xs, hD, hxs⟩
      refine ⟨D, xs, rfl, .inl ⟨SqL.of hD, fun l nl => ⟨by show 3 ≤ sizeLine; decide, fun r nr => ?_⟩⟩⟩
      have s4 := same_new (o := .tup xs) nl
      have s5 := same_new (o := .tup [.int p, .int p, .ref l]) nr
      exact q r _ (((s1.trans s3).trans s4).trans s5) (.tup upd_same (.cons (.int _) (.cons (.int _) (.cons (.tup (s5 _ _ upd_same) (hxs.mono (Tups.same (s4.trans s5)))) .nil))))
abbrev N_all_places : List Str := ["watcher", "p", "held", "i"]
theorem sc_all_places : FnScope N_all_places ["watcher"] (defScope s_all_places) := ⟨rfl, rfl, rfl, by decide +kernel, rfl, by decide +kernel, by decide +kernel⟩
theorem G_all_places (T : Tx K mg) : FnG P w K mg base CX0 2 T.all_places.f T.all_places.fd ["watcher"] (sp_all_places T.Watcher.C) := by
  refine okG T.all_places.F sc_all_places (fun vs H Q E h => ?_) (fun cdv A outer s H vs Q E gd hr h => ?_)
  · obtain ⟨x, lv, lh, d, P', rfl, _⟩ := h
    rfl
  · obtain ⟨x, lv, lh, d, PL, rfl, hw, q⟩ := h
    refine ⟨_, 
      (pss_one (ps_ret (pe_lc2 (own := [("p", 1), ("held", 2), ("i", 3)]) (vs1 := [3]) (g := gTup K 2 (gCons (gName 1) (gCons (gName 2) gNil))) (g1 := gName 3) (wi1 := _) rfl sc_all_places.nd (pi_enumT (by rfl) T.m_enumerate (pa_cons (pe_meth0G (pv 0) T.Watcher.cl T.Watcher_held_counts.M (G_Watcher_held_counts T) gd (hr.mono (by decide)) T.Watcher_held_counts.b .nil pass0) pa_nil)) (blkOk_by (N := N_all_places) (sc := defScope s_all_places) (by decide +kernel)) (by decide) (fun _ _ _ _ _ => (pg_tup rfl (pgs_cons (pg_name (i := 1) sc_all_places.nd rfl (.inl rfl)) (pgs_cons (pg_name (i := 2) sc_all_places.nd rfl (.inl rfl)) pgs_nil)))) (fun _ _ _ _ _ => pts_nil) (fun _ _ _ _ _ => (pi_range1 rfl T.m_range (pa_cons (pv 2) pa_nil))) (fun _ _ _ _ _ => (pg_name (i := 3) sc_all_places.nd rfl (.inl rfl))) (fun _ _ _ _ _ => pts_nil) (fun _ _ _ _ _ => (pe_tup (pa_cons (pv 1) (pa_cons (pv 3) pa_nil))))))) -- return [(p, i) for p, held in enumerate(watcher.held_counts()) for i in range(held)]
       , ?_⟩
    have L5 : 200000 ≤ sizeLine := by decide
    obtain ⟨dx, hx⟩ := hw.w.ins
    refine ⟨.ref x, rfl, x, dx, _, rfl, hx, rfl, x, lv, lh, d, _, _, _, _, rfl, hw.w, fun c nc => ?_⟩
    have s1 := same_new (o := .tup ((PL.kinds.map (·.2)).map V.int)) nc
    have hc : (upd H c (.tup ((PL.kinds.map (·.2)).map V.int))) c = some (.tup ((PL.kinds.map (·.2)).map V.int)) := upd_same
    generalize upd H c (.tup ((PL.kinds.map (·.2)).map V.int)) = H1 at s1 hc
    refine ⟨c, _, rfl, SqT.of hc, fun D nD => ?_⟩
    have nDH : H D = none := by
      cases e : H D with
      | none => rfl
      | some o => rw [s1 _ _ e] at nD; cases nD
    have wk := walk_enumT (K := K) (a := c) (xs := (PL.kinds.map (·.2)).map V.int)
    have ln : ((PL.kinds.map (·.2)).map V.int).length = PL.kinds.length := by rw [List.length_map, List.length_map]
    rw [ln] at wk
    refine ⟨fun i m H' => m = PL.kinds.length - i ∧ i ≤ PL.kinds.length ∧ PlW PL.kinds H1 D H' i 0, ⟨PL.kinds.length, by simp, Nat.zero_le _, same_at (Same.refl _) nD, [], upd_same, .nil⟩, ?_⟩
    rintro i m H3 ⟨rfl, hi, hP⟩
    by_cases hlt : i < PL.kinds.length
    · refine .inr ⟨wk.goes i H3 hlt (SqT.of (hP.1 _ _ hc)), fun H' => PlW PL.kinds H1 D H' (i + 1) 0, fun H4 p => ⟨PL.kinds.length - (i + 1), by omega, rfl, hlt, p⟩, fun xv H4 yy => ?_⟩
      obtain ⟨TT, x1, x2, rfl, nT, rfl, e1, e2⟩ := wk.yields i H3 xv H4 hlt (SqT.of (hP.1 _ _ hc)) yy
      cases e1
      have hbd := held_bd hw.ok.k (i := (i : Int)) (by omega) (by omega)
      have ex : x2 = .int (heldAt PL.kinds (i : Int)) := by
        dsimp only at e2
        rw [List.getElem?_map, List.getElem?_map, List.getElem?_eq_getElem hlt] at e2
        have : heldAt PL.kinds (i : Int) = PL.kinds[i].2 := by
          unfold heldAt
          have : ((i : Int)).toNat = i := by omega
          rw [this, List.getElem?_eq_getElem hlt]
          rfl
        rw [this]
        exact (Option.some.inj e2).symm
      subst ex
      have s7 := same_new (o := .tup [.int (i : Nat), .int (heldAt PL.kinds (i : Int))]) nT
      have hP4 : PlW PL.kinds H1 D (upd H3 TT (.tup [.int (i : Nat), .int (heldAt PL.kinds (i : Int))])) i 0 := by
        obtain ⟨sm, xs, hD, hxs⟩ := hP
        exact ⟨sm.trans s7, xs, s7 _ _ hD, hxs.mono (Tups.same s7)⟩
      refine ⟨TT, _, rfl, SqT.of upd_same, rfl, .int (i : Nat), [.int (heldAt PL.kinds (i : Int))], rfl, .int (heldAt PL.kinds (i : Int)), [], rfl, rfl, rfl, ?_⟩
      refine ⟨.int (heldAt PL.kinds (i : Int)), rfl, heldAt PL.kinds (i : Int), rfl, by omega, by omega, ?_⟩
      generalize upd H3 TT (.tup [.int (i : Nat), .int (heldAt PL.kinds (i : Int))]) = H4 at hP4
      refine ⟨fun j k H' => k = (heldAt PL.kinds (i : Int)).toNat - j ∧ j ≤ (heldAt PL.kinds (i : Int)).toNat ∧ PlW PL.kinds H1 D H' i j, ⟨_, rfl, Nat.zero_le _, hP4⟩, ?_⟩
      rintro j k H5 ⟨rfl, hj, hP5⟩
      by_cases hjl : j < (heldAt PL.kinds (i : Int)).toNat
      · refine .inr ⟨hjl, fun H' => PlW PL.kinds H1 D H' i (j + 1), fun H' p => ⟨_, by omega, rfl, hjl, p⟩, fun yv H6 yy => ?_⟩
        obtain ⟨e, yy⟩ := yy
        subst e yy
        have e0 : (0 : Int) + (j : Int) = (j : Int) := by omega
        rw [e0]
        obtain ⟨s5, xs, hD5, hx5⟩ := hP5
        refine ⟨rfl, .int (i : Int), rfl, .int (j : Int), rfl, by show 2 ≤ sizeLine; decide, fun m nm => ?_⟩
        have s8 := same_new (o := .tup [.int (i : Int), .int (j : Int)]) nm
        have hD8 := s8 _ _ hD5
        have tp := Tups.lst (o := .lst (xs ++ [.ref m])) hD8
        refine ⟨xs, hD8, ?_, same_at (s5.trans s8) nD, _, upd_same, ?_⟩
        · have e1 := hx5.len
          have e2 := plF_len hw.ok.k i hi
          rw [List.length_map, List.length_append, plW_len] at e1
          have := hw.ok.k.len
          omega
        · rw [plW_succ, ← List.append_assoc, List.map_append]
          exact tds_snoc ((hx5.mono (Tups.same s8)).mono tp) (.tup (tp _ _ upd_same) (.cons (.int _) (.cons (.int _) .nil)))
      · have e : j = (heldAt PL.kinds (i : Int)).toNat := by omega
        subst e
        refine .inl ⟨Nat.le_refl _, ?_⟩
        obtain ⟨s5, xs, hD5, hx5⟩ := hP5
        refine ⟨s5, xs, hD5, ?_⟩
        rw [List.range_succ, List.flatMap_append]
        show TDs H5 xs (List.map pairD (_ ++ [])) 
        rw [List.append_nil]
        simpa using hx5
    · have e : i = PL.kinds.length := by omega
      subst e
      refine .inl ⟨wk.stops _ (SqT.of (hP.1 _ _ hc)), ?_⟩
      obtain ⟨s3, xs, hD3, hx3⟩ := hP
      refine q D xs H3 (s1.trans s3) nDH hD3 ?_
      have hx3 : TDs H3 xs (((List.range PL.kinds.length).flatMap (fun p : Nat => plW PL.kinds p (heldAt PL.kinds p).toNat) ++ []).map pairD) := hx3
      rw [List.append_nil] at hx3
      exact hx3
end
/-- what steps lead to an end -/
inductive WayTo (P1 P2 : Plan) (ks es : List Sit) : Sit → Prop
  | base {s : Sit} : s ∈ es → WayTo P1 P2 ks es s
  | step {s : Sit} {x : Int × Cs × Sit} : s ∈ ks → x ∈ stepsM P1 P2 s → WayTo P1 P2 ks es x.2.2 → WayTo P1 P2 ks es s
abbrev ArP : NestedKey × V → Sit × Addr → Prop := fun p m => p.1 = sitK m.1 ∧ p.2 = .ref m.2
theorem ArP.keys {kva : List (NestedKey × V)} {kas : List (Sit × Addr)} (h : Paired ArP kva kas) : kva.map (·.1) = (kas.map (·.1)).map sitK := by
  induction h with
  | nil => rfl
  | cons a _ ih => rw [List.map_cons, List.map_cons, List.map_cons, a.1, ih]
theorem sitK_mem {k : Sit} {l : List Sit} : sitK k ∈ l.map sitK ↔ k ∈ l := by
  constructor
  · intro h
    obtain ⟨x, hx, e⟩ := List.mem_map.mp h
    exact sitK_inj e ▸ hx
  · exact fun h => List.mem_map.mpr ⟨k, h, rfl⟩
theorem ArP.val {kva : List (NestedKey × V)} {kas : List (Sit × Addr)} (h : Paired ArP kva kas) (nd : (kas.map (·.1)).Nodup) {m : Sit × Addr} (hm : m ∈ kas) : valV kva (sitK m.1) = some (.ref m.2) := by
  induction h with
  | nil => cases hm
  | @cons p q ps qs a t ih =>
    rw [List.map_cons] at nd
    have nd' := List.nodup_cons.mp nd
    rcases List.mem_cons.mp hm with rfl | hm
    · rw [valV_pos a.1, a.2]
    · have ne : ¬ p.1 = sitK m.1 := fun z => nd'.1 (by
        rw [sitK_inj (a.1.symm.trans z)]
        exact List.mem_map.mpr ⟨m, hm, rfl⟩)
      rw [valV_neg ne]
      exact ih nd'.2 hm
theorem row_key {P1 P2 : Plan} {z : Addr} {H : Hp} {kvs : List (NestedKey × V)} {rs : List NRow} {ks : List Sit} (h1 : NRel H kvs rs) (h2 : StRel P1 P2 z H kvs ks) {i : Nat} {r : NRow} (hr : rs[i]? = some r) :
    ∃ k, ks[i]? = some k ∧ NKey H (sitK k) (.ref r.2.1) := by
  have hi := (List.getElem?_eq_some_iff.mp hr).1
  have hi' : i < kvs.length := by rw [Paired.length h1]; exact hi
  have e := List.getElem?_eq_getElem hi'
  obtain ⟨b, hb, q⟩ := L2.paired_get h1 e
  rw [hr] at hb
  obtain rfl := Option.some.inj hb
  obtain ⟨k, hk, q2⟩ := L2.paired_get h2 e
  exact ⟨k, hk, by rw [← q2.1]; exact q.2.1⟩
abbrev Stp := Sit × (Int × Cs × Sit)
def arD (m : Stp) : PyData := .tuple [sitD m.1, stepD m.2]
/-- the lists behind the situations, each of what leads there of pr -/
structure ArW (P : Program) (w : World) (H : Hp) (A : Addr) (ks : List Sit) (kas : List (Sit × Addr)) (pr : List Stp) : Prop where
  nd : ∃ kva, NDict P w H A kva ∧ Paired ArP kva kas
  ke : kas.map (·.1) = ks
  nk : ks.Nodup
  ad : (kas.map (·.2)).Nodup
  ls : ∀ m ∈ kas, ∃ xs, H m.2 = some (.lst xs) ∧ TDs H xs ((pr.filter fun y => decide (y.2.2.2 = m.1)).map arD)
theorem ArW.keep {P : Program} {w : World} {H H' : Hp} {A : Addr} {ks : List Sit} {kas : List (Sit × Addr)} {pr : List Stp} (h : ArW P w H A ks kas pr) (t : Tups H H') (kA : ∀ o, H A = some o → H' A = some o) (kl : ∀ c xs, H c = some (.lst xs) → H' c = some (.lst xs)) : ArW P w H' A ks kas pr := by
  obtain ⟨⟨kva, a, b⟩, c, nk, d, e⟩ := h
  refine ⟨⟨kva, a.keep t kA, b⟩, c, nk, d, fun m hm => ?_⟩
  obtain ⟨xs, x1, x2⟩ := e m hm
  exact ⟨xs, kl _ _ x1, x2.mono t⟩
theorem ArW.mono {P : Program} {w : World} {H H' : Hp} {A : Addr} {ks : List Sit} {kas : List (Sit × Addr)} {pr : List Stp} (h : ArW P w H A ks kas pr) (s : Same H H') : ArW P w H' A ks kas pr := h.keep (Tups.same s) (fun _ e => s _ _ e) (fun _ _ e => s _ _ e)
theorem mem_at {α : Type} {k : α} {β : Type} : ∀ {l : List (α × β)}, k ∈ l.map (·.1) → ∃ b, (k, b) ∈ l := by
  intro l h
  obtain ⟨m, hm, e⟩ := List.mem_map.mp h
  exact ⟨m.2, by rw [← e]; exact hm⟩
theorem inj_nd {α β : Type} {f : α → β} : ∀ {l : List α}, (l.map f).Nodup → ∀ {m m' : α}, m ∈ l → m' ∈ l → f m = f m' → m = m'
  | [], _, m, m', h, _, _ => nomatch h
  | x :: r, nd, m, m', h, h', e => by
    rw [List.map_cons] at nd
    have nd' := List.nodup_cons.mp nd
    rcases List.mem_cons.mp h with e1 | h1
    · rcases List.mem_cons.mp h' with e2 | h2
      · rw [e1, e2]
      · exact absurd (List.mem_map.mpr ⟨m', h2, by rw [← e, e1]⟩) nd'.1
    · rcases List.mem_cons.mp h' with e2 | h2
      · exact absurd (List.mem_map.mpr ⟨m, h1, by rw [e, e2]⟩) nd'.1
      · exact inj_nd nd'.2 h1 h2 e
def prK (P1 P2 : Plan) (k : Sit) : List Stp := (stepsM P1 P2 k).map fun x => (k, x)
def prA (P1 P2 : Plan) (ks : List Sit) : List Stp := ks.flatMap (prK P1 P2)
/-- of the first i situations, and of the first j steps of the next one -/
def prF (P1 P2 : Plan) (ks : List Sit) (i j : Nat) : List Stp := prA P1 P2 (ks.take i) ++ (match ks[i]? with | some k => ((stepsM P1 P2 k).take j).map fun x => (k, x) | none => [])
theorem prF_zero (P1 P2 : Plan) (ks : List Sit) (i : Nat) : prF P1 P2 ks i 0 = prA P1 P2 (ks.take i) := by
  unfold prF
  cases ks[i]? <;> simp
theorem prF_succ {P1 P2 : Plan} {ks : List Sit} {i j : Nat} {k : Sit} {x : Int × Cs × Sit} (h : ks[i]? = some k) (hx : (stepsM P1 P2 k)[j]? = some x) : prF P1 P2 ks i (j + 1) = prF P1 P2 ks i j ++ [(k, x)] := by
  unfold prF
  rw [h]
  dsimp only
  rw [List.take_add_one, hx, Option.toList_some, List.map_append, List.append_assoc]
  rfl
theorem prF_full {P1 P2 : Plan} {ks : List Sit} {i : Nat} {k : Sit} (h : ks[i]? = some k) : prF P1 P2 ks i (stepsM P1 P2 k).length = prA P1 P2 (ks.take (i + 1)) := by
  unfold prF
  rw [h]
  dsimp only
  rw [List.take_length, List.take_add_one, h, Option.toList_some]
  unfold prA
  rw [List.flatMap_append]
  simp [prK]
theorem prA_mem {P1 P2 : Plan} {ks : List Sit} {m : Stp} : m ∈ prA P1 P2 ks ↔ m.1 ∈ ks ∧ m.2 ∈ stepsM P1 P2 m.1 := by
  unfold prA prK
  constructor
  · intro h
    obtain ⟨k, hk, h⟩ := List.mem_flatMap.mp h
    obtain ⟨x, hx, rfl⟩ := List.mem_map.mp h
    exact ⟨hk, hx⟩
  · rintro ⟨h1, h2⟩
    exact List.mem_flatMap.mpr ⟨m.1, h1, List.mem_map.mpr ⟨m.2, h2, rfl⟩⟩
theorem prA_len {P1 P2 : Plan} (o1 : PlanOk P1) (o2 : PlanOk P2) : ∀ {ks : List Sit}, (∀ k ∈ ks, SitIn P1 P2 k) → (prA P1 P2 ks).length ≤ 30 * ks.length
  | [], _ => by simp [prA]
  | k :: r, h => by
    have ih := prA_len o1 o2 (ks := r) fun x hx => h x (List.mem_cons_of_mem _ hx)
    have := stepsM_len o1 o2 (h k List.mem_cons_self)
    unfold prA at *
    rw [List.flatMap_cons, List.length_append, List.length_cons]
    have : (prK P1 P2 k).length = (stepsM P1 P2 k).length := by
      unfold prK
      rw [List.length_map]
    omega
theorem prF_len {P1 P2 : Plan} (o1 : PlanOk P1) (o2 : PlanOk P2) {ks : List Sit} (h : ∀ k ∈ ks, SitIn P1 P2 k) (i j : Nat) : (prF P1 P2 ks i j).length ≤ 30 * ks.length + 30 := by
  unfold prF
  have h1 := prA_len o1 o2 (ks := ks.take i) fun k hk => h k (List.mem_of_mem_take hk)
  have h2 : (ks.take i).length ≤ ks.length := by
    rw [List.length_take]
    omega
  rw [List.length_append]
  cases e : ks[i]? with
  | none =>
    dsimp only
    rw [List.length_nil]
    omega
  | some k =>
    dsimp only
    have := stepsM_len o1 o2 (h k (List.mem_of_getElem? e))
    rw [List.length_map, List.length_take]
    omega
/-- one more step, behind its situation -/
theorem ArW.push {P : Program} {w : World} {H : Hp} {A : Addr} {ks : List Sit} {kas : List (Sit × Addr)} {pr : List Stp} (h : ArW P w H A ks kas pr) {m : Sit × Addr} (hm : m ∈ kas) {y : Stp} (hy : y.2.2.2 = m.1) {xs : List V} (hx : H m.2 = some (.lst xs)) {v : V} (hv : TD H v (arD y)) :
    ArW P w (upd H m.2 (.lst (xs ++ [v]))) A ks kas (pr ++ [y]) := by
  have tp := Tups.lst (o := .lst (xs ++ [v])) hx
  obtain ⟨⟨kva, a, b⟩, c, nk, d, e⟩ := h
  refine ⟨⟨kva, a.keep tp fun o eo => ?_, b⟩, c, nk, d, fun m' hm' => ?_⟩
  · obtain ⟨φ, eA⟩ := a.some
    have : A ≠ m.2 := fun z => by rw [z, hx] at eA; cases eA
    rw [upd_ne this]
    exact eo
  · by_cases em : m'.2 = m.2
    · obtain rfl := inj_nd d hm' hm em
      obtain ⟨xs', x1, x2⟩ := e m' hm'
      rw [hx] at x1
      obtain rfl := HO.lst.inj (Option.some.inj x1)
      refine ⟨xs ++ [v], upd_same, ?_⟩
      rw [List.filter_append, List.filter_cons, if_pos (decide_eq_true hy), List.filter_nil, List.map_append]
      exact tds_snoc (x2.mono tp) (TD.mono tp _ hv)
    · obtain ⟨xs', x1, x2⟩ := e m' hm'
      refine ⟨xs', by rw [upd_ne em]; exact x1, ?_⟩
      have ne : ¬ y.2.2.2 = m'.1 := fun z => by
        exact em (by rw [inj_nd (by rw [c]; exact nk) hm' hm (z.symm.trans hy)])
      rw [List.filter_append, List.filter_cons, if_neg (by simpa using ne), List.filter_nil, List.append_nil]
      exact x2.mono tp
def addS (kw : List Sit) (k : Sit) : List Sit := if k ∈ kw then kw else kw ++ [k]
theorem addS_keys {kvw : List (NestedKey × V)} {kw : List Sit} (h : kvw.map (·.1) = kw.map sitK) (k : Sit) (v : V) : (putK kvw (sitK k) v).map (·.1) = (addS kw k).map sitK := by
  unfold addS
  by_cases hk : k ∈ kw
  · rw [if_pos hk]
    have e : (kvw.any fun kv => decide (kv.1 = sitK k)) = true := by
      have : sitK k ∈ kvw.map (·.1) := by rw [h]; exact sitK_mem.mpr hk
      obtain ⟨x, hx, ex⟩ := List.mem_map.mp this
      exact List.any_eq_true.mpr ⟨x, hx, decide_eq_true ex⟩
    unfold putK
    rw [if_pos e, ← h, List.map_map]
    refine List.map_congr_left fun x _ => ?_
    show (if x.1 = sitK k then (x.1, v) else x).1 = x.1
    split <;> rfl
  · rw [if_neg hk, putK_new _ (val_no (by rw [h]; exact fun z => hk (sitK_mem.mp z))), List.map_append, List.map_append, h]
    rfl
theorem addS_nd {kw : List Sit} (h : kw.Nodup) (k : Sit) : (addS kw k).Nodup := by
  unfold addS
  split
  · exact h
  · next n => exact List.nodup_append.mpr ⟨h, List.nodup_cons.mpr ⟨(fun z => by cases z), List.nodup_nil⟩, fun x hx z hz => by rw [List.mem_singleton.mp hz]; exact fun e => n (e ▸ hx)⟩
theorem addS_mem {kw : List Sit} {k x : Sit} : x ∈ addS kw k ↔ x ∈ kw ∨ x = k := by
  unfold addS
  split
  · next h => exact ⟨.inl, fun z => z.elim id fun e => e ▸ h⟩
  · rw [List.mem_append, List.mem_singleton]
theorem keys_len {kvw : List (NestedKey × V)} {kw : List Sit} (h : kvw.map (·.1) = kw.map sitK) : kvw.length = kw.length := by
  have := congrArg List.length h
  rwa [List.length_map, List.length_map] at this
theorem keys_val {kvw : List (NestedKey × V)} {kw : List Sit} (h : kvw.map (·.1) = kw.map sitK) (k : Sit) : (valV kvw (sitK k)).isSome = decide (k ∈ kw) := by
  by_cases hk : k ∈ kw
  · rw [decide_eq_true hk]
    have : sitK k ∈ kvw.map (·.1) := by rw [h]; exact sitK_mem.mpr hk
    rw [← valV_any]
    obtain ⟨x, hx, ex⟩ := List.mem_map.mp this
    exact List.any_eq_true.mpr ⟨x, hx, decide_eq_true ex⟩
  · rw [decide_eq_false hk, val_no (by rw [h]; exact fun z => hk (sitK_mem.mp z))]
    rfl
def Cl (P1 P2 : Plan) (ks kw : List Sit) (t : Sit) : Prop := ∀ m ∈ prA P1 P2 ks, m.2.2.2 = t → m.1 ∈ kw
/-- what stands behind each situation: nothing at an end, else a step to one that was found before -/
structure VlW (P1 P2 : Plan) (es : List Sit) (H : Hp) (kw : List Sit) (kvw : List (NestedKey × V)) : Prop where
  nd : kw.Nodup
  val : ∀ k ∈ kw, ∃ v, valV kvw (sitK k) = some v ∧ ((k ∈ es ∧ v = V.non) ∨ ∃ x ∈ stepsM P1 P2 k, TD H v (stepD x) ∧ x.2.2 ∈ kw ∧ kw.idxOf x.2.2 < kw.idxOf k)
theorem VlW.mono {P1 P2 : Plan} {es : List Sit} {H H' : Hp} {kw : List Sit} {kvw : List (NestedKey × V)} (h : VlW P1 P2 es H kw kvw) (t : Tups H H') : VlW P1 P2 es H' kw kvw := ⟨h.nd, fun k hk => by
  obtain ⟨v, e, z | ⟨x, hx, hv, r⟩⟩ := h.val k hk
  · exact ⟨v, e, .inl z⟩
  · exact ⟨v, e, .inr ⟨x, hx, TD.mono t _ hv, r⟩⟩⟩
theorem addS_old {kw : List Sit} {k x : Sit} (h : x ∈ kw) : x ∈ addS kw k ∧ (addS kw k).idxOf x = kw.idxOf x := by
  unfold addS
  split
  · exact ⟨h, rfl⟩
  · exact ⟨List.mem_append.mpr (.inl h), by rw [List.idxOf_append, if_pos h]⟩
theorem VlW.other {P1 P2 : Plan} {es : List Sit} {H : Hp} {kw : List Sit} {kvw : List (NestedKey × V)} (h : VlW P1 P2 es H kw kvw) (e : Sit) (y : V) {k : Sit} (hk : k ∈ kw) (n : k ≠ e) :
    ∃ v, valV (putK kvw (sitK e) y) (sitK k) = some v ∧ ((k ∈ es ∧ v = V.non) ∨ ∃ x ∈ stepsM P1 P2 k, TD H v (stepD x) ∧ x.2.2 ∈ addS kw e ∧ (addS kw e).idxOf x.2.2 < (addS kw e).idxOf k) := by
  obtain ⟨v, ev, z⟩ := h.val k hk
  refine ⟨v, ?_, ?_⟩
  · rw [valV_put, if_neg (fun q => n (sitK_inj q))]
    exact ev
  · rcases z with z | ⟨x, hx, hv, hm, hl⟩
    · exact .inl z
    · refine .inr ⟨x, hx, hv, (addS_old hm).1, ?_⟩
      rw [(addS_old hm).2, (addS_old hk).2]
      exact hl
theorem VlW.fin {P1 P2 : Plan} {es : List Sit} {H : Hp} {kw : List Sit} {kvw : List (NestedKey × V)} (h : VlW P1 P2 es H kw kvw) {e : Sit} (he : e ∈ es) : VlW P1 P2 es H (addS kw e) (putK kvw (sitK e) .non) := ⟨addS_nd h.nd e, fun k hk => by
  by_cases n : k = e
  · subst n
    exact ⟨.non, by rw [valV_put, if_pos rfl], .inl ⟨he, rfl⟩⟩
  · rcases addS_mem.mp hk with z | z
    · exact h.other e _ z n
    · exact absurd z n⟩
theorem VlW.step {P1 P2 : Plan} {es : List Sit} {H : Hp} {kw : List Sit} {kvw : List (NestedKey × V)} (h : VlW P1 P2 es H kw kvw) {k : Sit} (hk : k ∉ kw) {x : Int × Cs × Sit} (hx : x ∈ stepsM P1 P2 k) {v : V} (hv : TD H v (stepD x)) (ht : x.2.2 ∈ kw) : VlW P1 P2 es H (addS kw k) (putK kvw (sitK k) v) := ⟨addS_nd h.nd k, fun k' hk' => by
  by_cases n : k' = k
  · subst n
    refine ⟨v, by rw [valV_put, if_pos rfl], .inr ⟨x, hx, hv, (addS_old ht).1, ?_⟩⟩
    rw [(addS_old ht).2]
    have h1 := List.idxOf_lt_length_iff.mpr ht
    have h2 : (addS kw k').idxOf k' = kw.length := by
      unfold addS
      rw [if_neg hk, List.idxOf_append, if_neg hk]
      simp
    omega
  · rcases addS_mem.mp hk' with z | z
    · exact h.other k _ z n
    · exact absurd z n⟩
/-- what the search has -/
structure WyW (P : Program) (w : World) (P1 P2 : Plan) (ks es : List Sit) (H3 : Hp) (Wd : Addr) (H : Hp) (kw : List Sit) : Prop where
  kp : NLx Wd H3 H
  wd : ∃ kvw, NDict P w H Wd kvw ∧ kvw.map (·.1) = kw.map sitK ∧ VlW P1 P2 es H kw kvw
  nd : kw.Nodup
  way : ∀ k ∈ kw, WayTo P1 P2 ks es k
  iks : ∀ k ∈ kw, k ∈ ks
  ends : ∀ e ∈ es, e ∈ kw
/-- amid a look -/
structure BfW (P : Program) (w : World) (P1 P2 : Plan) (ks es : List Sit) (H3 : Hp) (Wd : Addr) (kw1 la : List Sit) (wl ba : Addr) (lv : List V) (i : Nat) (H : Hp) (kw be : List Sit) : Prop where
  W : WyW P w P1 P2 ks es H3 Wd H kw
  wl : H wl = some (.lst lv)
  bf : ∃ bv, H ba = some (.lst bv) ∧ TDs H bv (be.map sitD)
  sub : ∀ k ∈ be, k ∈ kw
  len : kw.length = kw1.length + be.length
  lin : ∀ k ∈ la, k ∈ kw
  cl : ∀ k ∈ kw, k ∈ be ∨ k ∈ la.drop i ∨ Cl P1 P2 ks kw k
/-- before each look at `last` -/
def WyV (P : Program) (w : World) (P1 P2 : Plan) (ks es : List Sit) (H3 : Hp) (D l A Wd : Addr) (x3 x4 : Option V) : Nat → L2.St → Hp → Prop := fun m σ H => ∃ (kw la : List Sit) (wl : Addr) (y3 y4 y6 y8 y9 : Option V), σ = [some (.ref D), some (.ref l), some (.ref A), y3, y4, some (.ref Wd), y6, some (.ref wl), y8, y9] ∧
  m = (ks.length - kw.length) * 2 + (if la = [] then 0 else 1) ∧ WyW P w P1 P2 ks es H3 Wd H kw ∧ wl ≠ Wd ∧ (∀ k ∈ la, k ∈ kw) ∧ (∃ vs, H wl = some (.lst vs) ∧ TDs H vs (la.map sitD)) ∧ ∀ k ∈ kw, k ∈ la ∨ Cl P1 P2 ks kw k
def sp_ways_to (P : Program) (w : World) : Sp := fun us H Q _ => ∃ (D l : Addr) (P1 P2 : Plan) (ks es : List Sit) (vs : List V), us = [.ref D, .ref l] ∧ StD P w P1 P2 H D ks ∧ ks.Nodup ∧ PlanOk P1 ∧ PlanOk P2 ∧ (∀ k ∈ ks, SitIn P1 P2 k) ∧
  (∀ k ∈ ks, ∀ x ∈ stepsM P1 P2 k, x.2.2 ∈ ks) ∧ ks.length ≤ 100000 ∧ H l = some (.lst vs) ∧ TDs H vs (es.map sitD) ∧ (∀ e ∈ es, e ∈ ks) ∧ es.length ≤ 100000 ∧
  ∀ (W : Addr) (kw : List Sit) (kvw : List (NestedKey × V)) H', Same H H' → NDict P w H' W kvw → kvw.map (·.1) = kw.map sitK → VlW P1 P2 es H' kw kvw → (∀ k, k ∈ kw ↔ WayTo P1 P2 ks es k) → Q (.ref W) H'
section
variable {P : Program} {w : World} {K : PySem.W.Frag} {mg : Str → Option Value} {base : Heap}
abbrev N_ways_to : List Str := ["steps", "ends", "arriving", "here", "step_there", "ways", "end", "last", "before", "there"]
theorem sc_ways_to : FnScope N_ways_to ["steps", "ends"] (defScope s_ways_to) := ⟨rfl, rfl, rfl, by decide +kernel, rfl, by decide +kernel, by decide +kernel⟩
theorem G_ways_to (T : Tx K mg) : FnG P w K mg base CX0 1 T.ways_to.f T.ways_to.fd ["steps", "ends"] (sp_ways_to P w) := by
  refine okG T.ways_to.F sc_ways_to (fun vs H Q E h => ?_) (fun cdv A outer s H vs Q E gd hr h => ?_)
  · obtain ⟨D, l, P1, P2, ks, es, vs, rfl, _⟩ := h
    rfl
  · obtain ⟨D, l, P1, P2, ks, es, vs, rfl, ⟨kvs, z, hND, hSR⟩, nd, o1, o2, hin, hcl, lks, hl, hvs, hes, les, q⟩ := h
    refine ⟨_, 
      (C8.pss_cut (ps_lock (ps_setDcN (i := 2) (own := [("here", 3)]) (g := gName 3) rfl sc_ways_to.nd hr.units rfl rfl (by rfl) (pi_keysN (pv 0)) (blkOk_by (N := N_ways_to) (sc := defScope s_ways_to) (by decide +kernel)) (fun _ _ _ _ _ => (pg_name (i := 3) sc_ways_to.nd rfl (.inl rfl))) (fun _ _ _ _ _ => pts_nil) (fun _ _ _ _ _ => (pv 3)) (fun _ _ _ _ _ => (pe_lst pa_nil)))) -- arriving = {here: [] for here in steps}
      (C8.pss_cut (ps_lock (ps_for PassesOwn.never rfl (pi_keysN (pv 0)) (pg_name (i := 3) sc_ways_to.nd rfl (.inl rfl)) 
        (pss_one (ps_for PassesOwn.never rfl (pi_list (pe_getNR hr.units (pv 0) (pv 3))) (pg_name (i := 4) sc_ways_to.nd rfl (.inl rfl)) 
          (pss_one (ps_expr (pe_bm PySem.F.plainAttrs_list PySem.F.slot_list_append PySem.F.type_list_append mt_append (pe_getN hr.units (pv 2) (pe_ix ix_tup (pv 4) pe_int (fun _ _ => rfl))) (pa_cons (pe_tup (pa_cons (pv 3) (pa_cons (pv 4) pa_nil))) pa_nil)))) -- arriving[step_there[2]].append((here, step_there))
          )) -- for step_there in steps[here]:
        )) -- for here in steps:
      (C8.pss_cut (ps_setDcN (i := 5) (own := [("end", 6)]) (g := gName 6) rfl sc_ways_to.nd hr.units rfl rfl (by rfl) (pi_list (pv 1)) (blkOk_by (N := N_ways_to) (sc := defScope s_ways_to) (by decide +kernel)) (fun _ _ _ _ _ => (pg_name (i := 6) sc_ways_to.nd rfl (.inl rfl))) (fun _ _ _ _ _ => pts_nil) (fun _ _ _ _ _ => (pv 6)) (fun _ _ _ _ _ => pe_non)) -- ways = {end: None for end in ends}
      (pss_cons (ps_set (i := 7) sc_ways_to.nd rfl (.inl rfl) (pe_callTy call_list_of (by rfl) T.m_list (by decide +kernel) (pa_cons (pv 1) pa_nil))) -- last = list(ends)
      (pss_cons (ps_while PassesOwn.never (pt_truth (pv 7) (by intro _; rfl)) 
        (pss_cons (ps_set (i := 8) sc_ways_to.nd rfl (.inl rfl) (pe_lst pa_nil)) -- before = []
        (pss_cons (ps_for PassesOwn.never rfl (pi_list (pv 7)) (pg_name (i := 9) sc_ways_to.nd rfl (.inl rfl)) 
          (pss_one (ps_for PassesOwn.never rfl (pi_list (pe_getN hr.units (pv 2) (pv 9))) (pg_tup rfl (pgs_cons (pg_name (i := 3) sc_ways_to.nd rfl (.inl rfl)) (pgs_cons (pg_name (i := 4) sc_ways_to.nd rfl (.inl rfl)) pgs_nil))) 
            (pss_one (ps_if (pt_cmpR (op_notInN hr.units) (pv 3) (pv 5) rfl) 
              (pss_cons (ps_putN hr.units (pv 5) (pv 3) (pv 4) rfl) -- ways[here] = step_there
              (pss_one (ps_expr (pe_bm PySem.F.plainAttrs_list PySem.F.slot_list_append PySem.F.type_list_append mt_append (pv 8) (pa_cons (pv 3) pa_nil)))) -- before.append(here)
              ) pss_nil)) -- if here not in ways:
            )) -- for here, step_there in arriving[there]:
          ) -- for there in last:
        (pss_one (ps_set (i := 7) sc_ways_to.nd rfl (.inl rfl) (pv 8))) -- last = before
        ))) -- while last:
      (pss_one (ps_ret (pv 5))) -- return ways
      ))))) , ?_⟩
    have L5 : 4000000 ≤ sizeLine := by decide
    obtain ⟨rs, eD, rel⟩ := hND
    have lrs : rs.length = ks.length := by rw [← Paired.length rel, Paired.length hSR]
    refine ⟨fun σ H' => ∃ A kas, σ = [some (.ref D), some (.ref l), some (.ref A), none, none, none, none, none, none, none] ∧ Same H H' ∧ H A = none ∧ (∀ m ∈ kas, H m.2 = none) ∧ ArW P w H' A ks kas [], ?_, ?_⟩
    · clear q
      refine ⟨D, _, eD, trivial, fun od => ?_⟩
      have hD1 : (upd H D (.frz od (NO P w D rs))) D = some (.frz od (NO P w D rs)) := upd_same
      have off : ∀ c, c ≠ D → (upd H D (.frz od (NO P w D rs))) c = H c := fun c n => upd_ne n
      have tpL : Tups H (upd H D (.frz od (NO P w D rs))) := Tups.put eD (fun _ z => nomatch z)
      generalize upd H D (.frz od (NO P w D rs)) = HL at hD1 off tpL
      refine ⟨.ref D, rfl, D, od, rs, rfl, hD1, fun A nA => ?_⟩
      have nAD : A ≠ D := fun e => by rw [e, hD1] at nA; cases nA
      refine dcN_it walk_keysN (fun i H' => Same HL H' ∧ ∃ kas kva, kas.map (·.1) = ks.take i ∧ (kas.map (·.2)).Nodup ∧ (∀ m ∈ kas, HL m.2 = none ∧ H' m.2 = some (.lst [])) ∧ NDict P w H' A kva ∧ Paired ArP kva kas) ?_ ?_ ?_ ?_
      · exact ⟨same_at (Same.refl _) nA, [], [], rfl, List.nodup_nil, (fun m hm => by cases hm), NDict.new, .nil⟩
      · exact fun i H' h => h.1 _ _ hD1
      · rintro i x H1 H2 hi ⟨s1, kas, kva, e1, e2, e3, e4, e5⟩ ⟨rfl, r, hr, rfl⟩
        obtain ⟨k, hk, nk⟩ := row_key rel hSR hr
        refine ⟨rfl, .ref r.2.1, rfl, by show 0 ≤ sizeLine; decide, fun la nla => ⟨kva, sitK k, (nk.mono tpL).mono (Tups.same (s1.trans (same_new nla))), e4.mono (same_new nla), ?_, fun H6 k6 n6 => ?_⟩⟩
        · have := keys_len (kw := kas.map Prod.fst) (ArP.keys e5)
          rw [e1, List.length_take] at this
          omega
        have nlA : la ≠ A := fun e => by
          obtain ⟨φ, eA⟩ := e4.some
          rw [e, eA] at nla
          cases nla
        have hkn : k ∉ kas.map (·.1) := by
          rw [e1]
          intro hm
          obtain ⟨j, hj⟩ := List.mem_iff_getElem?.mp hm
          rw [List.getElem?_take] at hj
          by_cases hji : j < i
          · rw [if_pos hji] at hj
            have a1 := (List.getElem?_eq_some_iff.mp hk).1
            have := (List.getElem?_inj a1 nd).mp (hk.trans hj.symm)
            omega
          · rw [if_neg hji] at hj
            cases hj
        refine ⟨fun c o e => ?_, kas ++ [(k, la)], putK kva (sitK k) (.ref la), ?_, ?_, ?_, n6, ?_⟩
        · rw [k6 c (fun q => by rw [q, nA] at e; cases e)]
          exact same_new nla _ _ (s1 _ _ e)
        · rw [List.map_append, e1, List.take_add_one, hk]
          rfl
        · rw [List.map_append]
          refine List.nodup_append.mpr ⟨e2, List.nodup_cons.mpr ⟨(fun z => by cases z), List.nodup_nil⟩, fun a ha b hb => ?_⟩
          rw [List.mem_singleton.mp hb]
          intro e
          obtain ⟨m, hm, em⟩ := List.mem_map.mp ha
          have := (e3 m hm).2
          rw [em, e, nla] at this
          cases this
        · intro m hm
          rcases List.mem_append.mp hm with hm | hm
          · have h3 := e3 m hm
            refine ⟨h3.1, ?_⟩
            have : m.2 ≠ A := fun e => by
              obtain ⟨φ, eA⟩ := e4.some
              rw [← e, h3.2] at eA
              cases eA
            rw [k6 _ this]
            exact same_new nla _ _ h3.2
          · rw [List.mem_singleton.mp hm]
            refine ⟨?_, ?_⟩
            · show HL la = none
              cases e : HL la with
              | none => rfl
              | some o => rw [s1 _ _ e] at nla; cases nla
            · show H6 la = _
              rw [k6 la nlA]
              exact upd_same
        · rw [putK_new _ (val_no (by rw [ArP.keys e5]; exact fun z => hkn (sitK_mem.mp z)))]
          exact Paired.snoc e5 ⟨rfl, rfl⟩
      · rintro H1 ⟨s1, kas, kva, e1, e2, e3, e4, e5⟩
        rw [lrs, List.take_length] at e1
        have sD := s1 _ _ hD1
        refine ⟨sD, A, kas, rfl, fun c o e => ?_, by rw [← off A nAD]; exact nA, fun m hm => ?_, ?_⟩
        · by_cases hc : c = D
          · subst hc
            rw [eD] at e
            rw [upd_same]
            exact e
          · rw [upd_ne hc]
            exact s1 _ _ (by rw [off c hc]; exact e)
        · have h3 := (e3 m hm).1
          have : m.2 ≠ D := fun e => by rw [e, hD1] at h3; cases h3
          rw [← off _ this]
          exact h3
        · have tp : Tups H1 (upd H1 D (NO P w D rs)) := Tups.put sD (fun _ z => nomatch z)
          refine ⟨⟨kva, e4.keep tp fun o e => by rw [upd_ne nAD]; exact e, e5⟩, e1, nd, e2, fun m hm => ⟨[], ?_, .nil⟩⟩
          have h3 := e3 m hm
          have : m.2 ≠ D := fun e => by rw [e, hD1] at h3; cases h3.1
          rw [upd_ne this]
          exact h3.2
    rintro σ H1 ⟨A, kas, rfl, s1, nA, nla, hAr⟩
    have eD1 := s1 _ _ eD
    have lasD : ∀ m ∈ kas, m.2 ≠ D := fun m hm e => by
      have := nla m hm
      rw [e, eD] at this
      cases this
    have nAD : A ≠ D := fun e => by rw [e, eD] at nA; cases nA
    refine ⟨fun σ H' => ∃ y3 y4, σ = [some (.ref D), some (.ref l), some (.ref A), y3, y4, none, none, none, none, none] ∧ Same H H' ∧ ArW P w H' A ks kas (prA P1 P2 ks), ?_, ?_⟩
    · clear q
      refine ⟨D, _, eD1, trivial, fun od => ?_⟩
      have hD1 : (upd H1 D (.frz od (NO P w D rs))) D = some (.frz od (NO P w D rs)) := upd_same
      have off : ∀ c, c ≠ D → (upd H1 D (.frz od (NO P w D rs))) c = H1 c := fun c n => upd_ne n
      have tpL : Tups H1 (upd H1 D (.frz od (NO P w D rs))) := Tups.put eD1 (fun _ z => nomatch z)
      have hAL : ArW P w (upd H1 D (.frz od (NO P w D rs))) A ks kas [] := hAr.keep tpL (fun o e => by rw [upd_ne nAD]; exact e) (fun c xs e => by
        rw [upd_ne (fun z => by rw [z, eD1] at e; cases e)]
        exact e)
      generalize upd H1 D (.frz od (NO P w D rs)) = HL at hD1 off tpL hAL
      have tpH : Tups H HL := Tups.trans (Tups.same s1) tpL
      have relL : NRel HL kvs rs := rel.mono tpH
      refine ⟨.ref D, rfl, D, od, rs, rfl, hD1, ?_⟩
      refine for_it walk_keysN (fun i σ H' => ∃ y3 y4, σ = [some (.ref D), some (.ref l), some (.ref A), y3, y4, none, none, none, none, none] ∧ (∀ c o, HL c = some o → (∀ m ∈ kas, c ≠ m.2) → H' c = some o) ∧ ArW P w H' A ks kas (prA P1 P2 (ks.take i))) ?_ ?_ ?_ ?_
      · exact ⟨none, none, rfl, fun c o e _ => e, hAL⟩
      · rintro i σ H' _ ⟨y3, y4, rfl, kp, hA⟩
        exact kp _ _ hD1 fun m hm e => lasD m hm e.symm
      · rintro i x σ H2 H2' hi ⟨y3, y4, rfl, kp, hA⟩ ⟨rfl, r, hr, rfl⟩
        obtain ⟨k, hk, nk⟩ := row_key rel hSR hr
        have hkm : k ∈ ks := List.mem_of_getElem? hk
        obtain ⟨lk, sx, ev, hlk, hsx⟩ := (hSR.val k).2 hkm
        have tp2 : Tups HL H2' := fun c xs e => kp c _ e fun m hm z => by
          obtain ⟨ys, y1, _⟩ := hAL.ls m hm
          rw [z, y1] at e
          cases e
        have hlkn : ∀ m ∈ kas, lk ≠ m.2 := fun m hm e => by
          have := nla m hm
          rw [← e, hlk] at this
          cases this
        have lkD : lk ≠ D := fun e => by rw [e, eD] at hlk; cases hlk
        have hlkL : HL lk = some (.lst sx) := by
          rw [off lk lkD]
          exact s1 _ _ hlk
        have lsx : sx.length = (stepsM P1 P2 k).length := by
          have := hsx.len
          rwa [List.length_map] at this
        have hD2 := kp _ _ hD1 fun m hm e => lasD m hm e.symm
        refine ⟨.ref D, rfl, .ref r.2.1, rfl, D, sitK k, kvs, .ref lk, rfl, (nk.mono tpH).mono tp2, ⟨rs, .inr ⟨od, hD2⟩, relL.mono tp2⟩, ev, lk, rfl, ⟨sx, SqL.of (kp _ _ hlkL hlkn)⟩, ?_⟩
        refine for_list (xs := sx) (fun j σ H' => ∃ y4, σ = [some (.ref D), some (.ref l), some (.ref A), some (.ref r.2.1), y4, none, none, none, none, none] ∧ (∀ c o, HL c = some o → (∀ m ∈ kas, c ≠ m.2) → H' c = some o) ∧ ArW P w H' A ks kas (prF P1 P2 ks i j)) ?_ ?_ ?_ ?_
        · exact ⟨y4, rfl, kp, by rw [prF_zero]; exact hA⟩
        · rintro j σ H' _ ⟨y4, rfl, kp, hA⟩
          exact SqL.of (kp _ _ hlkL hlkn)
        · rintro j xv σ H3 hxv ⟨y4, rfl, kp3, hA3⟩
          have hj : j < (stepsM P1 P2 k).length := by
            have := (List.getElem?_eq_some_iff.mp hxv).1
            omega
          have tp3 : Tups HL H3 := fun c xs e => kp3 c _ e fun m hm z => by
            obtain ⟨ys, y1, _⟩ := hAL.ls m hm
            rw [z, y1] at e
            cases e
          obtain ⟨d, hd, hvd0⟩ := hsx.get hxv
          rw [List.getElem?_map, List.getElem?_eq_getElem hj] at hd
          obtain rfl := (Option.some.inj hd)
          have hvd := TD.mono tp3 _ (TD.mono tpH _ hvd0)
          have hstep := hcl k hkm _ (List.getElem_mem hj)
          have hxe : (stepsM P1 P2 k)[j]? = some (stepsM P1 P2 k)[j] := List.getElem?_eq_getElem hj
          generalize (stepsM P1 P2 k)[j] = X at hvd hstep hxe
          obtain ⟨bm, hm⟩ := mem_at (by rw [hA3.ke]; exact hstep)
          obtain ⟨ys, hys, hyt⟩ := hA3.ls _ hm
          obtain ⟨⟨kva, hNA, hPA⟩, _⟩ := id hA3
          have hvv := hvd
          obtain ⟨ta, us, rfl, hta, hus⟩ := hvd.isTup
          cases hus with
          | @cons u1 d1 us1 ds1 g1 gr =>
            cases gr with
            | @cons u2 d2 us2 ds2 g2 gr =>
              cases gr with
              | @cons u3 d3 us3 ds3 g3 gr =>
                cases gr
                have hval : valV kva (sitK X.2.2) = some (.ref bm) := ArP.val hPA (by rw [hA3.ke]; exact nd) hm
                refine ⟨.ref A, rfl, .ref ta, rfl, ta, _, 2, u3, rfl, rfl, SqT.of hta, atI_nat (j := 2) rfl, A, sitK X.2.2, kva, .ref bm, rfl, sit_key g3, hNA, hval, .inl ⟨rfl, _, SqL.of hys⟩, .ref r.2.1, rfl, .ref ta, rfl, by show 2 ≤ sizeLine; decide, fun mm nmm => ?_⟩
                have s8 := same_new (o := .tup [.ref r.2.1, .ref ta]) nmm
                have hys8 := s8 _ _ hys
                refine ⟨bm, ys, .ref mm, rfl, rfl, hys8, ?_, some (.ref ta), rfl, fun c o e hc => ?_, ?_⟩
                · have h1 := hyt.len
                  rw [List.length_map] at h1
                  have h2 := List.length_filter_le (fun y : Stp => decide (y.2.2.2 = (X.2.2, bm).1)) (prF P1 P2 ks i j)
                  have h3 := prF_len o1 o2 hin i j
                  omega
                · rw [upd_ne (hc _ hm)]
                  exact s8 _ _ (kp3 _ _ e hc)
                · rw [prF_succ hk hxe]
                  refine (hA3.mono s8).push hm rfl hys8 (.tup upd_same (.cons ?_ (.cons (TD.mono (Tups.same s8) _ hvv) .nil)))
                  have := ((nk.mono tpH).mono tp3).2.1
                  rw [sitK_D] at this
                  exact TD.mono (Tups.same s8) _ this
        · rintro σ H3 ⟨y4, rfl, kp3, hA3⟩
          rw [lsx, prF_full hk] at hA3
          exact ⟨_, y4, rfl, kp3, hA3⟩
      · rintro σ H2 ⟨y3, y4, rfl, kp, hA⟩
        rw [lrs, List.take_length] at hA
        have hD2 := kp _ _ hD1 fun m hm e => lasD m hm e.symm
        refine ⟨hD2, y3, y4, rfl, fun c o e => ?_, hA.keep (Tups.put hD2 (fun _ z => nomatch z)) (fun o e => by rw [upd_ne nAD]; exact e) (fun c xs e => by
          rw [upd_ne (fun z => by rw [z, hD2] at e; cases e)]
          exact e)⟩
        by_cases hc : c = D
        · subst hc
          rw [eD] at e
          rw [upd_same]
          exact e
        · rw [upd_ne hc]
          refine kp _ _ (by rw [off c hc]; exact s1 _ _ e) fun m hm z => ?_
          have := nla m hm
          rw [← z, e] at this
          cases this
    rintro σ H2 ⟨y3, y4, rfl, s2, hA2⟩
    have hl2 := s2 _ _ hl
    have hvs2 := hvs.mono (Tups.same s2)
    have lvs : vs.length = es.length := by
      have := hvs.len
      rwa [List.length_map] at this
    refine ⟨fun σ H' => ∃ Wd kw, σ = [some (.ref D), some (.ref l), some (.ref A), y3, y4, some (.ref Wd), none, none, none, none] ∧ Same H2 H' ∧ H2 Wd = none ∧ WyW P w P1 P2 ks es H' Wd H' kw ∧ ∀ k ∈ kw, k ∈ es, ?_, ?_⟩
    · clear q
      refine ⟨.ref l, rfl, l, rfl, ⟨vs, SqL.of hl2⟩, fun Wd nWd => ?_⟩
      refine dcN_it (walk_list (K := K) (a := l) (xs := vs)) (fun i H' => Same H2 H' ∧ ∃ (kvw : List (NestedKey × V)) (kw : List Sit), NDict P w H' Wd kvw ∧ kvw.map (·.1) = kw.map sitK ∧ VlW P1 P2 es H' kw kvw ∧ kw.Nodup ∧ (∀ k ∈ kw, k ∈ es) ∧ ∀ k ∈ es.take i, k ∈ kw) ?_ ?_ ?_ ?_
      · exact ⟨same_at (Same.refl _) nWd, [], [], NDict.new, rfl, ⟨List.nodup_nil, fun k hk => by cases hk⟩, List.nodup_nil, (fun k hk => by cases hk), (fun k hk => by cases hk)⟩
      · exact fun i H' h => SqL.of (h.1 _ _ hl2)
      · rintro i x H3 H4 hi ⟨s3, kvw, kw, n1, n2, nV, n3, n4, n5⟩ ⟨rfl, hx⟩
        have hie : i < es.length := by omega
        obtain ⟨d, hd, hxd⟩ := hvs2.get hx
        rw [List.getElem?_map, List.getElem?_eq_getElem hie] at hd
        obtain rfl := (Option.some.inj hd)
        refine ⟨rfl, x, rfl, kvw, sitK es[i], sit_key (TD.mono (Tups.same s3) _ hxd), n1, ?_, fun H6 k6 n6 => ⟨fun c o e => ?_, _, addS kw es[i], n6, addS_keys n2 _ _, (nV.mono (fun c ys e => by obtain ⟨φ, eW⟩ := n1.some; rw [k6 c (fun z => by rw [z, eW] at e; cases e)]; exact e)).fin (List.getElem_mem hie), addS_nd n3 _, fun k hk => ?_, fun k hk => ?_⟩⟩
        · have h1 := keys_len n2
          have h2 := nodup_le n3 n4
          omega
        · rw [k6 c (fun q => by rw [q, nWd] at e; cases e)]
          exact s3 _ _ e
        · rcases addS_mem.mp hk with h | rfl
          · exact n4 k h
          · exact List.getElem_mem hie
        · rw [List.take_add_one, List.getElem?_eq_getElem hie, Option.toList_some] at hk
          rcases List.mem_append.mp hk with h | h
          · exact addS_mem.mpr (.inl (n5 k h))
          · exact addS_mem.mpr (.inr (List.mem_singleton.mp h))
      · rintro H3 ⟨s3, kvw, kw, n1, n2, nV, n3, n4, n5⟩
        rw [lvs, List.take_length] at n5
        exact ⟨Wd, kw, rfl, s3, nWd, ⟨(fun c o e _ => e), ⟨kvw, n1, n2, nV⟩, n3, fun k hk => .base (n4 k hk), fun k hk => hes k (n4 k hk), n5⟩, n4⟩
    rintro σ H3 ⟨Wd, kw, rfl, s3, nWd, hW, hkw⟩
    have s23 := s2.trans s3
    have hA3 := hA2.mono s3
    have nWdH : H Wd = none := by
      cases e : H Wd with
      | none => rfl
      | some o => rw [s2 _ _ e] at nWd; cases nWd
    have nWA : Wd ≠ A := by
      obtain ⟨⟨kva, a, _⟩, _⟩ := hA2
      obtain ⟨φ, eA⟩ := a.some
      intro e
      rw [e, eA] at nWd
      cases nWd
    refine ⟨.ref l, rfl, l, vs, rfl, .inl (SqL.of (s3 _ _ hl2)), fun wl nwl => ?_⟩
    have sA := same_new (o := .lst vs) nwl
    have nwlW : wl ≠ Wd := fun e => by
      obtain ⟨kvw, a, _⟩ := hW.wd
      obtain ⟨φ, eA⟩ := a.some
      rw [e, eA] at nwl
      cases nwl
    refine ⟨WyV P w P1 P2 ks es H3 D l A Wd y3 y4, ⟨(ks.length - kw.length) * 2 + (if es = [] then 0 else 1), kw, es, wl, y3, y4, none, none, none, rfl, rfl, ⟨(fun c o e _ => sA _ _ e), ?_, hW.nd, hW.way, hW.iks, hW.ends⟩, nwlW, fun k hk => hW.ends k hk, ⟨vs, upd_same, hvs2.mono (Tups.same (s3.trans sA))⟩, fun k hk => .inl (hkw k hk)⟩, fun m σ H' hV => ?_⟩
    · obtain ⟨kvw, a, b⟩ := hW.wd
      exact ⟨kvw, a.mono sA, b.1, b.2.mono (Tups.same sA)⟩
    obtain ⟨kw1, la, wl1, y3', y4', y6, y8, y9, rfl, hm, hW1, nl1, hlk, ⟨lv, hwl, hlv⟩, hcl1⟩ := hV
    have llv : lv.length = la.length := by
      have := hlv.len
      rwa [List.length_map] at this
    have tps : ∀ {H' : Hp}, NLx Wd H3 H' → Tups H3 H' := fun {H'} k c xs e => k c _ e fun z => by
      obtain ⟨kvw, a, _⟩ := hW.wd
      obtain ⟨φ, eA⟩ := a.some
      rw [z, eA] at e
      cases e
    cases la with
    | nil =>
      obtain rfl : lv = [] := List.eq_nil_of_length_eq_zero llv
      refine ⟨.ref wl1, rfl, false, .inl ⟨[], SqL.of hwl, rfl⟩, iteF ?_⟩
      obtain ⟨kvw, a, b⟩ := hW1.wd
      refine ⟨.ref Wd, rfl, q Wd kw1 kvw H' (fun c o e => hW1.kp c o (s23 _ _ e) fun z => by rw [z, nWdH] at e; cases e) a b.1 b.2 fun k => ⟨hW1.way k, fun hk => ?_⟩⟩
      induction hk with
      | base h => exact hW1.ends _ h
      | @step s x h1 h2 _ ih =>
        rcases hcl1 _ ih with h | h
        · cases h
        · exact h (s, x) (prA_mem.mpr ⟨h1, h2⟩) rfl
    | cons l0 lr =>
      refine ⟨.ref wl1, rfl, true, .inl ⟨lv, SqL.of hwl, by cases lv with | nil => cases llv | cons _ _ => rfl⟩, iteT ?_⟩
      clear q
      refine ⟨fun σ' H2 => ∃ m', m' < m ∧ WyV P w P1 P2 ks es H3 D l A Wd y3 y4 m' σ' H2, fun σ' H2 h => h, ?_⟩
      refine ⟨by show 0 ≤ sizeLine; decide, fun ba nba => ?_⟩
      have sB := same_new (o := .lst []) nba
      have nbW : ba ≠ Wd := fun e => by
        obtain ⟨kvw, a, _⟩ := hW1.wd
        obtain ⟨φ, eA⟩ := a.some
        rw [e, eA] at nba
        cases nba
      have nbl : ba ≠ wl1 := fun e => by rw [e, hwl] at nba; cases nba
      have nb3 : H3 ba = none := by
        cases e : H3 ba with
        | none => rfl
        | some o => rw [hW1.kp _ _ e nbW] at nba; cases nba
      have hlk' : ∀ k ∈ l0 :: lr, k ∈ ks := fun k hk => hW1.iks k (hlk k hk)
      refine ⟨.ref wl1, rfl, wl1, rfl, ⟨lv, SqL.of (sB _ _ hwl)⟩, ?_⟩
      have b0 : BfW P w P1 P2 ks es H3 Wd kw1 (l0 :: lr) wl1 ba lv 0 (upd H' ba (.lst [])) kw1 [] := by
        obtain ⟨kvw, a, b⟩ := hW1.wd
        refine ⟨⟨fun c o e n => sB _ _ (hW1.kp c o e n), ⟨kvw, a.mono sB, b.1, b.2.mono (Tups.same sB)⟩, hW1.nd, hW1.way, hW1.iks, hW1.ends⟩, sB _ _ hwl, ⟨[], upd_same, .nil⟩, (fun k hk => by cases hk), rfl, hlk, fun k hk => ?_⟩
        rcases hcl1 k hk with h | h
        · exact .inr (.inl h)
        · exact .inr (.inr h)
      have hlv' := hlv.mono (Tups.same sB)
      have tpb : Tups H3 (upd H' ba (.lst [])) := tps b0.W.kp
      refine for_list (xs := lv) (fun i σ H' => ∃ kw be y3 y4 y9, σ = [some (.ref D), some (.ref l), some (.ref A), y3, y4, some (.ref Wd), y6, some (.ref wl1), some (.ref ba), y9] ∧ BfW P w P1 P2 ks es H3 Wd kw1 (l0 :: lr) wl1 ba lv i H' kw be ∧ TDs H' lv ((l0 :: lr).map sitD)) ?_ ?_ ?_ ?_
      · exact ⟨kw1, [], y3', y4', y9, rfl, b0, hlv'⟩
      · rintro i σ H5 _ ⟨kw, be, y3, y4, y9, rfl, hB, _⟩
        exact SqL.of hB.wl
      · rintro i tv σ H5 htv ⟨kw, be, y3, y4, y9, rfl, hB, hl5⟩
        have hi : i < (l0 :: lr).length := by
          have := (List.getElem?_eq_some_iff.mp htv).1
          omega
        obtain ⟨d, hd, htd⟩ := hl5.get htv
        rw [List.getElem?_map, List.getElem?_eq_getElem hi] at hd
        obtain rfl := (Option.some.inj hd)
        have hdr : (l0 :: lr).drop i = (l0 :: lr)[i] :: (l0 :: lr).drop (i + 1) := List.drop_eq_getElem_cons hi
        have hti : (l0 :: lr)[i] ∈ l0 :: lr := List.getElem_mem hi
        generalize (l0 :: lr)[i] = t at htd hdr hti
        obtain ⟨bm, hbm⟩ := mem_at (by rw [hA3.ke]; exact hlk' t hti)
        obtain ⟨xs, hxs, hxt⟩ := hA3.ls _ hbm
        have bmW : bm ≠ Wd := fun e => by
          obtain ⟨kvw, a, _⟩ := hW.wd
          obtain ⟨φ, eA⟩ := a.some
          rw [← e, hxs] at eA
          cases eA
        have hA5 : ArW P w H5 A ks kas (prA P1 P2 ks) := hA3.keep (tps hB.W.kp) (fun o e => hB.W.kp _ _ e nWA.symm) (fun c ys e => hB.W.kp _ _ e fun z => by
          obtain ⟨kvw, a, _⟩ := hW.wd
          obtain ⟨φ, eA⟩ := a.some
          rw [z, eA] at e
          cases e)
        obtain ⟨⟨kva, hNA, hPA⟩, _⟩ := id hA5
        have hval : valV kva (sitK t) = some (.ref bm) := ArP.val hPA (by rw [hA5.ke]; exact nd) hbm
        have lxs : xs.length = ((prA P1 P2 ks).filter fun y => decide (y.2.2.2 = t)).length := by
          have := hxt.len
          rwa [List.length_map] at this
        have hF : ∀ m ∈ ((prA P1 P2 ks).filter fun y => decide (y.2.2.2 = t)), m.1 ∈ ks ∧ m.2 ∈ stepsM P1 P2 m.1 ∧ m.2.2.2 = t := fun m hm => by
          have := List.mem_filter.mp hm
          exact ⟨(prA_mem.mp this.1).1, (prA_mem.mp this.1).2, of_decide_eq_true this.2⟩
        have hF2 : ∀ m ∈ prA P1 P2 ks, m.2.2.2 = t → m ∈ ((prA P1 P2 ks).filter fun y => decide (y.2.2.2 = t)) := fun m hm e => List.mem_filter.mpr ⟨hm, decide_eq_true e⟩
        generalize ((prA P1 P2 ks).filter fun y => decide (y.2.2.2 = t)) = F at hxt lxs hF hF2
        refine ⟨.ref A, rfl, tv, rfl, A, sitK t, kva, .ref bm, rfl, sit_key htd, hNA, hval, bm, rfl, ⟨xs, SqL.of (hB.W.kp _ _ hxs bmW)⟩, ?_⟩
        refine for_list (xs := xs) (fun j σ H' => ∃ kw be y3 y4, σ = [some (.ref D), some (.ref l), some (.ref A), y3, y4, some (.ref Wd), y6, some (.ref wl1), some (.ref ba), some tv] ∧ BfW P w P1 P2 ks es H3 Wd kw1 (l0 :: lr) wl1 ba lv i H' kw be ∧ TDs H' lv ((l0 :: lr).map sitD) ∧ ∀ m ∈ F.take j, m.1 ∈ kw) ?_ ?_ ?_ ?_
        · exact ⟨kw, be, y3, y4, rfl, hB, hl5, (fun m hm => by cases hm)⟩
        · rintro j σ H6 _ ⟨kw, be, y3, y4, rfl, hB, _⟩
          exact SqL.of (hB.W.kp _ _ hxs bmW)
        · rintro j xv σ H6 hxv ⟨kw, be, y3, y4, rfl, hB6, hl6, hdone⟩
          have hj : j < F.length := by
            have := (List.getElem?_eq_some_iff.mp hxv).1
            omega
          obtain ⟨d, hd, hvd0⟩ := hxt.get hxv
          rw [List.getElem?_map, List.getElem?_eq_getElem hj] at hd
          obtain rfl := (Option.some.inj hd)
          have hvd := TD.mono (tps hB6.W.kp) _ hvd0
          have hFj := hF _ (List.getElem_mem hj)
          have htk : F.take (j + 1) = F.take j ++ [F[j]] := by
            rw [List.take_add_one, List.getElem?_eq_getElem hj]
            rfl
          generalize F[j] = M at hvd hFj htk
          obtain ⟨ta, us, rfl, hta, hus⟩ := hvd.isTup
          cases hus with
          | @cons u1 d1 us1 ds1 g1 gr =>
            cases gr with
            | @cons u2 d2 us2 ds2 g2 gr =>
              cases gr
              obtain ⟨kvw, hNW, hKW, hVW⟩ := hB6.W.wd
              refine ⟨ta, _, rfl, SqT.of hta, rfl, u1, [u2], rfl, u2, [], rfl, rfl, ?_⟩
              refine ⟨u1, rfl, .ref Wd, rfl, Wd, sitK M.1, kvw, rfl, sit_key g1, hNW, ?_⟩
              rw [keys_val hKW]
              by_cases hk : M.1 ∈ kw
              · rw [decide_eq_true hk]
                refine ⟨false, rfl, iteF ?_⟩
                refine ⟨kw, be, some u1, some u2, rfl, hB6, hl6, fun m hm => ?_⟩
                rw [htk] at hm
                rcases List.mem_append.mp hm with h | h
                · exact hdone m h
                · rw [List.mem_singleton.mp h]
                  exact hk
              · rw [decide_eq_false hk]
                refine ⟨true, rfl, iteT ?_⟩
                have lkw : kw.length ≤ ks.length := nodup_le hB6.W.nd hB6.W.iks
                refine ⟨u2, rfl, .ref Wd, rfl, u1, rfl, Wd, sitK M.1, kvw, rfl, sit_key g1, hNW, by rw [keys_len hKW]; omega, fun H7 k7 n7 => ?_⟩
                obtain ⟨bv, hbv, hbt⟩ := hB6.bf
                obtain ⟨φ, eW⟩ := hNW.some
                have tp7 : Tups H6 H7 := fun c ys e => by
                  rw [k7 c (fun z => by rw [z, eW] at e; cases e)]
                  exact e
                have hbv7 : H7 ba = some (.lst bv) := by rw [k7 ba nbW]; exact hbv
                have tp8 := Tups.lst (o := .lst (bv ++ [u1])) hbv7
                have lbv : bv.length = be.length := by
                  have := hbt.len
                  rwa [List.length_map] at this
                have hway : WayTo P1 P2 ks es M.1 := .step hFj.1 hFj.2.1 (by rw [hFj.2.2]; exact hB6.W.way t (hB6.lin t hti))
                have hkw' : ∀ x, x ∈ addS kw M.1 ↔ x ∈ kw ∨ x = M.1 := fun x => addS_mem
                have ladd : (addS kw M.1).length = kw.length + 1 := by
                  unfold addS
                  rw [if_neg hk, List.length_append]
                  rfl
                have hlen := hB6.len
                refine ⟨.ref ba, rfl, .inl ⟨rfl, _, SqL.of hbv7⟩, u1, rfl, ba, bv, u1, rfl, rfl, hbv7, by omega, addS kw M.1, be ++ [M.1], some u1, some u2, rfl, ⟨⟨fun c o e n => ?_, ⟨_, n7.keep tp8 fun o e => by rw [upd_ne nbW.symm]; exact e, addS_keys hKW _ _, ((hVW.mono tp7).step hk hFj.2.1 (TD.mono tp7 _ g2) (by rw [hFj.2.2]; exact hB6.lin t hti)).mono tp8⟩, addS_nd hB6.W.nd _, fun k hk => ?_, fun k hk => ?_, fun e he => (hkw' e).mpr (.inl (hB6.W.ends e he))⟩, ?_, ⟨bv ++ [u1], upd_same, ?_⟩, fun k hk => ?_, ?_, fun k hk => (hkw' k).mpr (.inl (hB6.lin k hk)), fun k hk => ?_⟩, ?_, fun m hm => ?_⟩
                · rw [upd_ne (fun z => by rw [z, nb3] at e; cases e), k7 c n]
                  exact hB6.W.kp c o e n
                · rcases (hkw' k).mp hk with h | rfl
                  · exact hB6.W.way k h
                  · exact hway
                · rcases (hkw' k).mp hk with h | rfl
                  · exact hB6.W.iks k h
                  · exact hFj.1
                · rw [upd_ne nbl.symm, k7 wl1 nl1]
                  exact hB6.wl
                · rw [List.map_append]
                  exact tds_snoc ((hbt.mono tp7).mono tp8) (TD.mono tp8 _ (TD.mono tp7 _ g1))
                · rcases List.mem_append.mp hk with h | h
                  · exact (hkw' k).mpr (.inl (hB6.sub k h))
                  · exact (hkw' k).mpr (.inr (List.mem_singleton.mp h))
                · rw [ladd, List.length_append, List.length_singleton]
                  omega
                · rcases (hkw' k).mp hk with h | rfl
                  · rcases hB6.cl k h with h | h | h
                    · exact .inl (List.mem_append.mpr (.inl h))
                    · exact .inr (.inl h)
                    · exact .inr (.inr fun m hm e => (hkw' _).mpr (.inl (h m hm e)))
                  · exact .inl (List.mem_append.mpr (.inr List.mem_cons_self))
                · exact (hl6.mono tp7).mono tp8
                · rw [htk] at hm
                  rcases List.mem_append.mp hm with h | h
                  · exact (hkw' _).mpr (.inl (hdone m h))
                  · exact (hkw' _).mpr (.inr (by rw [List.mem_singleton.mp h]))
        · rintro σ H6 ⟨kw, be, y3, y4, rfl, hB6, hl6, hdone⟩
          rw [lxs, List.take_length] at hdone
          refine ⟨kw, be, y3, y4, some tv, rfl, ⟨hB6.W, hB6.wl, hB6.bf, hB6.sub, hB6.len, hB6.lin, fun k hk => ?_⟩, hl6⟩
          rcases hB6.cl k hk with h | h | h
          · exact .inl h
          · rw [hdr] at h
            rcases List.mem_cons.mp h with rfl | h
            · exact .inr (.inr fun m hm e => hdone m (hF2 m hm e))
            · exact .inr (.inl h)
          · exact .inr (.inr h)
      · rintro σ H5 ⟨kw, be, y3, y4, y9, rfl, hB, hl5⟩
        rw [llv] at hB
        obtain ⟨bv, hbv, hbt⟩ := hB.bf
        have hlen := hB.len
        have lkw : kw.length ≤ ks.length := nodup_le hB.W.nd hB.W.iks
        refine ⟨.ref ba, rfl, (ks.length - kw.length) * 2 + (if be = [] then 0 else 1), ?_, kw, be, ba, y3, y4, y6, _, y9, rfl, rfl, hB.W, nbW, hB.sub, ⟨bv, hbv, hbt⟩, fun k hk => ?_⟩
        · have e1 : (if l0 :: lr = [] then 0 else 1) = 1 := if_neg (fun z => by cases z)
          rw [hm, e1]
          by_cases hbe : be = []
          · rw [if_pos hbe]
            rw [hbe] at hlen
            have : kw.length = kw1.length := hlen
            omega
          · rw [if_neg hbe]
            have := List.length_pos_iff.mpr hbe
            omega
        · rcases hB.cl k hk with h | h | h
          · exact .inl h
          · rw [List.drop_length] at h
            cases h
          · exact .inr h
end
def unl (P1 P2 : Plan) (s : Sit) : Bool := !decide (verAt P1.kinds s.1 = verAt P2.kinds s.2.1)
def Ul (P1 P2 : Plan) (k : Sit) : Prop := ∃ s, Rch P1 P2 [k] s ∧ unl P1 P2 s = true
theorem Rch.trans {P1 P2 : Plan} {ss : List Sit} {k s : Sit} (h : Rch P1 P2 ss k) (r : Rch P1 P2 [k] s) : Rch P1 P2 ss s := by
  induction r with
  | base hs =>
    rw [List.mem_singleton.mp hs]
    exact h
  | step _ hx ih => exact .step ih hx
theorem way_ul {P1 P2 : Plan} {ss ks : List Sit} (hk : ∀ k, k ∈ ks ↔ Rch P1 P2 ss k) (k : Sit) : WayTo P1 P2 ks (ks.filter (unl P1 P2)) k ↔ Rch P1 P2 ss k ∧ Ul P1 P2 k := by
  constructor
  · intro h
    induction h with
    | base h =>
      have := List.mem_filter.mp h
      exact ⟨(hk _).mp this.1, _, .base List.mem_cons_self, this.2⟩
    | @step s x h1 h2 _ ih =>
      obtain ⟨s', r, u⟩ := ih.2
      refine ⟨(hk _).mp h1, s', ?_, u⟩
      exact Rch.trans (.step (.base List.mem_cons_self) h2) r
  · rintro ⟨h, s, r, u⟩
    have key : ∀ s, Rch P1 P2 [k] s → WayTo P1 P2 ks (ks.filter (unl P1 P2)) s → WayTo P1 P2 ks (ks.filter (unl P1 P2)) k := by
      intro s r
      induction r with
      | base hs =>
        rw [List.mem_singleton.mp hs]
        exact id
      | @step s x hs hx ih => exact fun z => ih (.step ((hk _).mpr (h.trans hs)) hx z)
    exact key s r (.base (List.mem_filter.mpr ⟨(hk _).mpr (h.trans r), u⟩))
def sp_ways_to_sought (P : Program) (w : World) (K : PySem.W.Frag) (C : Addr) : Sp := fun us H Q _ => ∃ (t l c : Addr) (vs : List V) (a b : WA) (P1 P2 : Plan) (ss S : List Sit), us = [.ref t, .ref l, .ref c] ∧ PairAt K C H t a b P1 P2 ∧ H l = some (.lst vs) ∧ TDs H vs (ss.map sitD) ∧ (∀ s ∈ ss, SitIn P1 P2 s) ∧ ss.length ≤ 1000 ∧
  (∀ k, Rch P1 P2 ss k → k ∈ S) ∧ S.length ≤ 100000 ∧ (∃ (sK : Str) (rest : List V), H c = some (.tup (.str sK :: rest)) ∧ sK ≠ ("together" : Str)) ∧
  ∀ (W : Addr) (kw : List Sit) (kvw : List (NestedKey × V)) H', Same H H' → NDict P w H' W kvw → kvw.map (·.1) = kw.map sitK → (∃ es, (∀ e ∈ es, unl P1 P2 e = true) ∧ VlW P1 P2 es H' kw kvw) → (∀ k, k ∈ kw ↔ Rch P1 P2 ss k ∧ Ul P1 P2 k) → Q (.ref W) H'
def sp_ways_to_unlike (P : Program) (w : World) (C : Addr) : Sp := fun us H Q _ => ∃ (x lv lh d l : Addr) (vs : List V) (PL : Plan) (ss S : List Sit), us = [.ref x, .ref l] ∧ WP C H x lv lh d PL ∧ H l = some (.lst vs) ∧ TDs H vs (ss.map sitD) ∧ (∀ s ∈ ss, SitIn PL PL s) ∧ ss.length ≤ 1000 ∧
  (∀ k, Rch PL PL ss k → k ∈ S) ∧ S.length ≤ 100000 ∧
  ∀ (W : Addr) (kw : List Sit) (kvw : List (NestedKey × V)) H', Same H H' → NDict P w H' W kvw → kvw.map (·.1) = kw.map sitK → (∀ k, k ∈ kw ↔ Rch PL PL ss k ∧ Ul PL PL k) → Q (.ref W) H'
section
variable {P : Program} {w : World} {K : PySem.W.Frag} {mg : Str → Option Value} {base : Heap}
abbrev N_ways_to_sought : List Str := ["watchers", "situations", "claim", "steps", "here"]
theorem sc_ways_to_sought : FnScope N_ways_to_sought ["watchers", "situations", "claim"] (defScope s_ways_to_sought) := ⟨rfl, rfl, rfl, by decide +kernel, rfl, by decide +kernel, by decide +kernel⟩
theorem G_ways_to_sought (T : Tx K mg) : FnG P w K mg base CX0 6 T.ways_to_sought.f T.ways_to_sought.fd ["watchers", "situations", "claim"] (sp_ways_to_sought P w K T.Watcher.C) := by
  refine okG T.ways_to_sought.F sc_ways_to_sought (fun vs H Q E h => ?_) (fun cdv A outer s H vs Q E gd hr h => ?_)
  · obtain ⟨t, l, c, vs, a, b, P1, P2, ss, S, rfl, _⟩ := h
    rfl
  · obtain ⟨t, l, c, vs, a, b, P1, P2, ss, S, rfl, hp, hl, hvs, hin, lss, hS, lS, ⟨sK, rest, hc, hsK⟩, q⟩ := h
    refine ⟨_, 
      (C8.pss_cut (ps_set (i := 3) sc_ways_to_sought.nd rfl (.inl rfl) (pe_callG (G_steps_among T) gd (hr.mono (by decide)) rfl T.steps_among.g T.steps_among.F.kp T.steps_among.b .nil pass0 (pa_cons (pv 0) (pa_cons (pv 1) pa_nil)))) -- steps = steps_among(watchers, situations)
      (pss_one (ps_ret (pe_callG (G_ways_to T) gd (hr.mono (by decide)) rfl T.ways_to.g T.ways_to.F.kp T.ways_to.b .nil pass0 (pa_cons (pv 3) (pa_cons (pe_lock (pe_lc (own := [("here", 4)]) (g := gName 4) rfl sc_ways_to_sought.nd (pi_keysN (pv 3)) (blkOk_by (N := N_ways_to_sought) (sc := defScope s_ways_to_sought) (by decide +kernel)) (fun _ _ _ _ _ => (pg_name (i := 4) sc_ways_to_sought.nd rfl (.inl rfl))) (fun _ _ _ _ _ => (pts_one (pt_val (pe_callG (G_are_sought T) gd (hr.mono (by decide)) rfl T.are_sought.g T.are_sought.F.kp T.are_sought.b .nil pass0 (pa_cons (pv 2) (pa_cons (pe_callG (G_verdicts_at T) gd (hr.mono (by decide)) rfl T.verdicts_at.g T.verdicts_at.F.kp T.verdicts_at.b .nil pass0 (pa_cons (pv 0) (pa_cons (pv 4) pa_nil))) pa_nil)))))) (fun _ _ _ _ _ => (pv 4)))) pa_nil))))) -- return ways_to(steps, [here for here in steps if are_sought(claim, verdicts_at(watchers, here))])
      ) , ?_⟩
    have L5 : 4000000 ≤ sizeLine := by decide
    refine ⟨fun σ H' => ∃ D ks, σ = [some (.ref t), some (.ref l), some (.ref c), some (.ref D), none] ∧ Same H H' ∧ H D = none ∧ StD P w P1 P2 H' D ks ∧ ks.Nodup ∧ ∀ k, k ∈ ks ↔ Rch P1 P2 ss k, ?_, ?_⟩
    · clear q
      exact ⟨.ref t, rfl, .ref l, rfl, t, l, vs, a, b, P1, P2, ss, S, rfl, hp, hl, hvs, hin, lss, hS, lS, fun D ks H' s1 nD hD nd hk => ⟨D, ks, rfl, s1, nD, hD, nd, hk⟩⟩
    rintro σ H1 ⟨D, ks, rfl, s1, nD, ⟨kvs, z, hND, hSR⟩, nd, hk⟩
    obtain ⟨rs, eD, rel⟩ := hND
    have lrs : rs.length = ks.length := by rw [← Paired.length rel, Paired.length hSR]
    have lks : ks.length ≤ 100000 := Nat.le_trans (nodup_le nd fun k hk' => hS k ((hk k).mp hk')) lS
    have hkin : ∀ k ∈ ks, SitIn P1 P2 k := fun k h => ((hk k).mp h).in_ hp.w1.ok hp.w2.ok hin
    refine ⟨.ref D, rfl, D, _, eD, trivial, fun od => ?_⟩
    have hD1 : (upd H1 D (.frz od (NO P w D rs))) D = some (.frz od (NO P w D rs)) := upd_same
    have off : ∀ c, c ≠ D → (upd H1 D (.frz od (NO P w D rs))) c = H1 c := fun c n => upd_ne n
    have tpL : Tups H1 (upd H1 D (.frz od (NO P w D rs))) := Tups.put eD (fun _ z => nomatch z)
    have sL : Same H (upd H1 D (.frz od (NO P w D rs))) := same_at s1 nD
    generalize upd H1 D (.frz od (NO P w D rs)) = HL at hD1 off tpL sL
    refine ⟨.ref D, rfl, D, od, rs, rfl, hD1, fun L nL => ?_⟩
    refine lc_it walk_keysN (fun i H' => Same HL H' ∧ ∃ xs, H' L = some (.lst xs) ∧ TDs H' xs (((ks.take i).filter (unl P1 P2)).map sitD)) ?_ ?_ ?_ ?_
    · exact ⟨same_at (Same.refl _) nL, [], upd_same, .nil⟩
    · exact fun i H' _ h => h.1 _ _ hD1
    · rintro i x H2 H3 hi ⟨s2, xs, hL, hxs⟩ ⟨rfl, r, hr, rfl⟩
      obtain ⟨k, hki, nk⟩ := row_key rel hSR hr
      have hkm : k ∈ ks := List.mem_of_getElem? hki
      have nk2 := ((nk.mono tpL).mono (Tups.same s2)).2.1
      rw [sitK_D] at nk2
      have s02 := sL.trans s2
      refine ⟨rfl, .ref c, rfl, .ref t, rfl, .ref r.2.1, rfl, t, .ref r.2.1, a, b, P1, P2, k, rfl, hp.mono s02, nk2, hkin k hkm, fun rv H4 s4 hrv => ⟨c, rv, _, _, sK, rest, rfl, s4 _ _ (s02 _ _ hc), hsK, hrv, ?_⟩⟩
      have htk : ks.take (i + 1) = ks.take i ++ [k] := by
        rw [List.take_add_one, hki]
        rfl
      refine ⟨_, rfl, ?_⟩
      rw [htk, List.filter_append]
      have hL4 := s4 _ _ hL
      by_cases hu : unl P1 P2 k = true
      · have e1 : (!decide (verAt P1.kinds k.1 = verAt P2.kinds k.2.1)) = true := hu
        rw [e1, List.filter_cons, if_pos hu, List.filter_nil, List.map_append]
        refine iteT ?_
        have tp := Tups.lst (o := .lst (xs ++ [.ref r.2.1])) hL4
        refine ⟨.ref r.2.1, rfl, xs, hL4, ?_, same_at (s2.trans s4) nL, _, upd_same, ?_⟩
        · have h1 := hxs.len
          rw [List.length_map] at h1
          have h2 := List.length_filter_le (unl P1 P2) (ks.take i)
          have h3 : (ks.take i).length ≤ ks.length := by
            rw [List.length_take]
            omega
          omega
        · exact tds_snoc ((hxs.mono (Tups.same s4)).mono tp) (TD.mono tp _ (TD.mono (Tups.same s4) _ nk2))
      · have e1 : (!decide (verAt P1.kinds k.1 = verAt P2.kinds k.2.1)) = false := by simpa [unl] using hu
        rw [e1, List.filter_cons, if_neg hu, List.filter_nil, List.append_nil]
        refine iteF ?_
        exact ⟨s2.trans s4, xs, hL4, hxs.mono (Tups.same s4)⟩
    · rintro H2 ⟨s2, xs, hL, hxs⟩
      rw [lrs, List.take_length] at hxs
      have hD2 := s2 _ _ hD1
      refine ⟨hD2, ?_⟩
      have sF : Same H1 (upd H2 D (NO P w D rs)) := fun c o e => by
        by_cases hcD : c = D
        · subst hcD
          rw [eD] at e
          rw [upd_same]
          exact e
        · rw [upd_ne hcD]
          exact s2 _ _ (by rw [off c hcD]; exact e)
      have tp2 : Tups H2 (upd H2 D (NO P w D rs)) := Tups.put hD2 (fun _ z => nomatch z)
      have nLD : L ≠ D := fun e => by rw [e, hD1] at nL; cases nL
      refine ⟨D, L, P1, P2, ks, ks.filter (unl P1 P2), xs, rfl, ⟨kvs, z, ⟨rs, sF _ _ eD, rel.mono (Tups.same sF)⟩, hSR.but (fun c ys _ e => sF _ _ e) (Tups.same sF)⟩, nd, hp.w1.ok, hp.w2.ok, hkin, fun k h x hx => (hk _).mpr (.step ((hk k).mp h) hx), lks, by rw [upd_ne nLD]; exact hL, hxs.mono tp2, fun e he => (List.mem_filter.mp he).1, Nat.le_trans (List.length_filter_le _ _) lks, fun W kw kvw H' s5 h1 h2 hV h3 => q W kw kvw H' ((s1.trans sF).trans s5) h1 h2 ⟨_, fun e he => (List.mem_filter.mp he).2, hV⟩ fun k => (h3 k).trans (way_ul hk k)⟩
abbrev N_ways_to_unlike : List Str := ["watcher", "situations"]
theorem sc_ways_to_unlike : FnScope N_ways_to_unlike ["watcher", "situations"] (defScope s_ways_to_unlike) := ⟨rfl, rfl, rfl, by decide +kernel, rfl, by decide +kernel, by decide +kernel⟩
theorem G_ways_to_unlike (T : Tx K mg) : FnG P w K mg base CX0 7 T.ways_to_unlike.f T.ways_to_unlike.fd ["watcher", "situations"] (sp_ways_to_unlike P w T.Watcher.C) := by
  refine okG T.ways_to_unlike.F sc_ways_to_unlike (fun vs H Q E h => ?_) (fun cdv A outer s H vs Q E gd hr h => ?_)
  · obtain ⟨x, lv, lh, d, l, vs, PL, ss, S, rfl, _⟩ := h
    rfl
  · obtain ⟨x, lv, lh, d, l, vs, PL, ss, S, rfl, hw, hl, hvs, hin, lss, hS, lS, q⟩ := h
    refine ⟨_, 
      (pss_one (ps_ret (pe_callG (G_ways_to_sought T) gd (hr.mono (by decide)) rfl T.ways_to_sought.g T.ways_to_sought.F.kp T.ways_to_sought.b .nil pass0 (pa_cons (pe_tup (pa_cons (pv 0) (pa_cons (pv 0) pa_nil))) (pa_cons (pv 1) (pa_cons (pe_tup (pa_cons (pe_glob (v := .str "alike") rfl T.g_ALIKE ⟨_, rfl⟩) pa_nil)) pa_nil)))))) -- return ways_to_sought((watcher, watcher), situations, (ALIKE,))
       , ?_⟩
    refine ⟨.ref x, rfl, .ref x, rfl, by show 2 ≤ sizeLine; decide, fun t nt => ⟨.ref l, rfl, by show 1 ≤ sizeLine; decide, fun c nc => ?_⟩⟩
    have s1 := same_new (o := .tup [.ref x, .ref x]) nt
    have s2 := same_new (o := .tup [.str "alike"]) nc
    have s12 := s1.trans s2
    refine ⟨t, l, c, vs, ⟨x, lv, lh, d⟩, ⟨x, lv, lh, d⟩, PL, PL, ss, S, rfl, ⟨SqT.of (s2 _ _ upd_same), hw.mono s12, hw.mono s12⟩, s12 _ _ hl, hvs.mono (Tups.same s12), hin, lss, hS, lS, ⟨_, [], upd_same, by decide⟩, fun W kw kvw H' s3 h1 h2 _ h3 => q W kw kvw H' (s12.trans s3) h1 h2 h3⟩
end
def opts (i : Nat) : List (Option (Int × Int)) := [none, some ((i : Int), 0), some ((i : Int), 1), some ((i : Int), 2)]
def pairsAll : List (List (Int × Int)) := (opts 0).flatMap fun a => (opts 1).flatMap fun b => (opts 2).map fun c => [a, b, c].filterMap id
def allS : List Sit := (List.range 6).flatMap fun p : Nat => (List.range 6).flatMap fun q : Nat => pairsAll.map fun ps => ((p : Int), (q : Int), ps)
theorem allS_len : allS.length ≤ 100000 := by decide +kernel
theorem pairs_all (h : Nat → Option (Int × Int)) {n : Nat} (hn : n ≤ 3) (ho : ∀ i, i < n → h i ∈ opts i) : (List.range n).filterMap h ∈ pairsAll := by
  have key : ∀ a b c, a ∈ opts 0 → b ∈ opts 1 → c ∈ opts 2 → [a, b, c].filterMap id ∈ pairsAll := fun a b c ha hb hc =>
    List.mem_flatMap.mpr ⟨a, ha, List.mem_flatMap.mpr ⟨b, hb, List.mem_map.mpr ⟨c, hc, rfl⟩⟩⟩
  have n0 : (none : Option (Int × Int)) ∈ opts 0 := List.mem_cons_self
  have n1 : (none : Option (Int × Int)) ∈ opts 1 := List.mem_cons_self
  have n2 : (none : Option (Int × Int)) ∈ opts 2 := List.mem_cons_self
  match n, hn with
  | 0, _ => exact key none none none n0 n1 n2
  | 1, _ =>
    have e : (List.range 1).filterMap h = [h 0, none, none].filterMap id := by
      show [0].filterMap h = _
      cases e : h 0 <;> simp [e]
    rw [e]
    exact key _ _ _ (ho 0 (by omega)) n1 n2
  | 2, _ =>
    have e : (List.range 2).filterMap h = [h 0, h 1, none].filterMap id := by
      show [0, 1].filterMap h = _
      cases e : h 0 <;> cases e1 : h 1 <;> simp [e, e1]
    rw [e]
    exact key _ _ _ (ho 0 (by omega)) (ho 1 (by omega)) n2
  | 3, _ =>
    have e : (List.range 3).filterMap h = [h 0, h 1, h 2].filterMap id := by
      show [0, 1, 2].filterMap h = _
      cases e : h 0 <;> cases e1 : h 1 <;> cases e2 : h 2 <;> simp [e, e1, e2]
    rw [e]
    exact key _ _ _ (ho 0 (by omega)) (ho 1 (by omega)) (ho 2 (by omega))
theorem opts_mem {i j : Nat} (h : j < 3) : some ((i : Int), (j : Int)) ∈ opts i := by
  unfold opts
  match j, h with
  | 0, _ => simp
  | 1, _ => simp
  | 2, _ => simp
theorem allS_mem {s : Sit} (p0 : 0 ≤ s.1) (p1 : s.1 < 6) (q0 : 0 ≤ s.2.1) (q1 : s.2.1 < 6) (h : s.2.2 ∈ pairsAll) : s ∈ allS := by
  refine List.mem_flatMap.mpr ⟨s.1.toNat, List.mem_range.mpr (by omega), List.mem_flatMap.mpr ⟨s.2.1.toNat, List.mem_range.mpr (by omega), List.mem_map.mpr ⟨s.2.2, h, ?_⟩⟩⟩
  have e1 : ((s.1.toNat : Nat) : Int) = s.1 := by omega
  have e2 : ((s.2.1.toNat : Nat) : Int) = s.2.1 := by omega
  rw [e1, e2]
theorem eqM_all {f g : List Int} (hf : f.length ≤ 3) (hg : g.length ≤ 3) : eqM f g ∈ pairsAll := by
  unfold eqM eqF
  refine pairs_all _ hf fun i hi => ?_
  rw [List.getElem?_eq_getElem hi, Option.bind_some]
  by_cases hv : f[i] ∈ g
  · rw [if_pos hv]
    refine opts_mem ?_
    have := List.idxOf_lt_length_iff.mpr hv
    omega
  · rw [if_neg hv]
    exact List.mem_cons_self
theorem othF_all {n : Nat} (hn : n ≤ 3) (i : Int) : othF n i ∈ pairsAll := by
  unfold othF
  refine pairs_all _ hn fun j hj => ?_
  by_cases h : (j : Int) = i
  · rw [if_pos h]
    exact List.mem_cons_self
  · rw [if_neg h]
    exact opts_mem (by omega)
theorem rch_all {P1 P2 : Plan} {ss : List Sit} (o1 : PlanOk P1) (o2 : PlanOk P2) (h : ∀ s ∈ ss, SitIn P1 P2 s) (hs : ∀ s ∈ ss, s ∈ allS) {k : Sit} (r : Rch P1 P2 ss k) : k ∈ allS := by
  have hin := r.in_ o1 o2 h
  have l1 := o1.k.len
  have l2 := o2.k.len
  have a0 := hin.p0
  have a1 := hin.p1
  have a2 := hin.q0
  have a3 := hin.q1
  cases r with
  | base hb => exact hs _ hb
  | @step s x r hx =>
    refine allS_mem (by omega) (by omega) (by omega) (by omega) ?_
    obtain ⟨w, _, hx⟩ := List.mem_flatMap.mp hx
    obtain ⟨c, _, rfl⟩ := List.mem_map.mp hx
    obtain ⟨b1, b2⟩ := heldM_ok o1 o2 (r.in_ o1 o2 h)
    have c1 := step_ok o1.r b1 ((w : Int), valueM c (heldM P1 P2 s).1 (heldM P1 P2 s).2)
    have c2 := step_ok o2.r b2 ((w : Int), valueM c (heldM P1 P2 s).1 (heldM P1 P2 s).2)
    have d1 := held_bd o1.k c1.lo c1.hi
    have d2 := held_bd o2.k c2.lo c2.hi
    have e1 := c1.len
    have e2 := c2.len
    exact eqM_all (by omega) (by omega)
noncomputable def need (P : Plan) (p i : Int) : Bool := @decide (Ul P P (otherS P.kinds p i)) (Classical.propDecidable _)
noncomputable def rowM (P : Plan) (p : Nat) : List Int := ((List.range (heldAt P.kinds (p : Int)).toNat).map fun i : Nat => (i : Int)).filter (need P (p : Int))
/-- row p of these places -/
noncomputable def rowJ (P : Plan) (ms : List (Int × Int)) (p : Nat) : List Int := (ms.filter fun m => decide (m.1 = (p : Int)) && need P m.1 m.2).map (·.2)
theorem rowJ_snoc (P : Plan) (ms : List (Int × Int)) (m : Int × Int) (p : Nat) : rowJ P (ms ++ [m]) p = rowJ P ms p ++ (if (decide (m.1 = (p : Int)) && need P m.1 m.2) = true then [m.2] else []) := by
  unfold rowJ
  rw [List.filter_append, List.map_append, List.filter_cons, List.filter_nil]
  congr 1
  split <;> rfl
theorem rowJ_plW (P : Plan) (p' p n : Nat) : rowJ P (plW P.kinds p' n) p = if p' = p then ((List.range n).map fun i : Nat => (i : Int)).filter (need P (p : Int)) else [] := by
  induction n with
  | zero => simp [plW, rowJ]
  | succ n ih =>
    rw [plW_succ, rowJ_snoc, ih]
    by_cases h : p' = p
    · subst h
      rw [if_pos rfl, if_pos rfl, List.range_succ, List.map_append, List.filter_append]
      congr 1
      by_cases hn : need P (p' : Int) (n : Int) = true
      · simp [hn]
      · simp [hn]
    · have : ¬ (p' : Int) = (p : Int) := by omega
      rw [if_neg h, if_neg h]
      simp [this]
theorem rowJ_all (P : Plan) (p : Nat) : ∀ n : Nat, rowJ P ((List.range n).flatMap fun p : Nat => plW P.kinds p (heldAt P.kinds (p : Int)).toNat) p = if p < n then rowM P p else []
  | 0 => by simp [rowJ]
  | n + 1 => by
    have ih := rowJ_all P p n
    have e : rowJ P ((List.range (n + 1)).flatMap fun p : Nat => plW P.kinds p (heldAt P.kinds (p : Int)).toNat) p = rowJ P ((List.range n).flatMap fun p : Nat => plW P.kinds p (heldAt P.kinds (p : Int)).toNat) p ++ rowJ P (plW P.kinds n (heldAt P.kinds (n : Int)).toNat) p := by
      rw [List.range_succ, List.flatMap_append, List.flatMap_singleton]
      unfold rowJ
      rw [List.filter_append, List.map_append]
    rw [e, ih, rowJ_plW]
    by_cases h : n = p
    · subst h
      rw [if_neg (by omega), if_pos rfl, if_pos (by omega)]
      rfl
    · rw [if_neg h, List.append_nil]
      by_cases h2 : p < n
      · rw [if_pos h2, if_pos (by omega)]
      · rw [if_neg h2, if_neg (by omega)]
theorem placesM_in {P : Plan} (o : PlanOk P) {m : Int × Int} (h : m ∈ placesM P.kinds) : 0 ≤ m.1 ∧ m.1 < P.kinds.length ∧ 0 ≤ m.2 ∧ m.2 < heldAt P.kinds m.1 := by
  obtain ⟨p, hp, h⟩ := List.mem_flatMap.mp h
  obtain ⟨i, hi, rfl⟩ := List.mem_map.mp h
  have := List.mem_range.mp hp
  have := List.mem_range.mp hi
  dsimp only
  omega
theorem otherS_in {P : Plan} (o : PlanOk P) {p i : Int} (p0 : 0 ≤ p) (p1 : p < P.kinds.length) : SitIn P P (otherS P.kinds p i) ∧ otherS P.kinds p i ∈ allS := by
  have b := held_bd o.k p0 p1
  have l := o.k.len
  refine ⟨⟨p0, p1, p0, p1, ?_⟩, allS_mem p0 (by show p < 6; omega) p0 (by show p < 6; omega) (othF_all (by omega) i)⟩
  have := othF_len (heldAt P.kinds p).toNat i
  show (othF _ _).length ≤ 3
  omega
theorem otherS_ul {P : Plan} {p i : Int} : need P p i = true ↔ Ul P P (otherS P.kinds p i) := by
  unfold need
  exact @decide_eq_true_iff _ (Classical.propDecidable _)
/-- the tuple of needed places at r, its rows known -/
structure RowsAt (H : Hp) (r : Addr) (rs : List Addr) (PL : Plan) : Prop where
  at_ : H r = some (.tup (rs.map V.ref))
  len : rs.length = PL.kinds.length
  row : ∀ (p : Nat) (a : Addr), rs[p]? = some a → HT H a (rowM PL p)
theorem RowsAt.mono {H H' : Hp} {r : Addr} {rs : List Addr} {PL : Plan} (h : RowsAt H r rs PL) (s : Same H H') : RowsAt H' r rs PL := ⟨s _ _ h.at_, h.len, fun p a e => (h.row p a e).mono s⟩
def sp_needed_places (C : Addr) : Sp := fun us H Q _ => ∃ (x lv lh d : Addr) (PL : Plan), us = [.ref x] ∧ WP C H x lv lh d PL ∧ ∀ r rs H', Same H H' → H r = none → (∀ a ∈ rs, H a = none) → RowsAt H' r rs PL → Q (.ref r) H'
/-- the rows so far -/
structure RwW (PL : Plan) (H3 : Hp) (la : List Addr) (N : Addr) (ms : List (Int × Int)) (H : Hp) : Prop where
  kp : ∀ c o, H3 c = some o → c ∉ la → H c = some o
  rw_ : ∀ (p : Nat) (a : Addr), la[p]? = some a → H a = some (.lst ((rowJ PL ms p).map V.int))
section
variable {P : Program} {w : World} {K : PySem.W.Frag} {mg : Str → Option Value} {base : Heap}
abbrev N_needed_places : List Str := ["watcher", "places", "ways", "p", "i", "needed", "_", "row"]
theorem sc_needed_places : FnScope N_needed_places ["watcher"] (defScope s_needed_places) := ⟨rfl, rfl, rfl, by decide +kernel, rfl, by decide +kernel, by decide +kernel⟩
theorem G_needed_places (T : Tx K mg) : FnG P w K mg base CX0 8 T.needed_places.f T.needed_places.fd ["watcher"] (sp_needed_places T.Watcher.C) := by
  refine okG T.needed_places.F sc_needed_places (fun vs H Q E h => ?_) (fun cdv A outer s H vs Q E gd hr h => ?_)
  · obtain ⟨x, lv, lh, d, PL, rfl, _⟩ := h
    rfl
  · obtain ⟨x, lv, lh, d, PL, rfl, hw, q⟩ := h
    refine ⟨_, 
      (C8.pss_cut (ps_set (i := 1) sc_needed_places.nd rfl (.inl rfl) (pe_callG (G_all_places T) gd (hr.mono (by decide)) rfl T.all_places.g T.all_places.F.kp T.all_places.b .nil pass0 (pa_cons (pv 0) pa_nil))) -- places = all_places(watcher)
      (C8.pss_cut (ps_set (i := 2) sc_needed_places.nd rfl (.inl rfl) (pe_callG (G_ways_to_unlike T) gd (hr.mono (by decide)) rfl T.ways_to_unlike.g T.ways_to_unlike.F.kp T.ways_to_unlike.b .nil pass0 (pa_cons (pv 0) (pa_cons (pe_lc (own := [("p", 3), ("i", 4)]) (g := gTup K 2 (gCons (gName 3) (gCons (gName 4) gNil))) rfl sc_needed_places.nd (pi_list (pv 1)) (blkOk_by (N := N_needed_places) (sc := defScope s_needed_places) (by decide +kernel)) (fun _ _ _ _ _ => (pg_tup rfl (pgs_cons (pg_name (i := 3) sc_needed_places.nd rfl (.inl rfl)) (pgs_cons (pg_name (i := 4) sc_needed_places.nd rfl (.inl rfl)) pgs_nil)))) (fun _ _ _ _ _ => pts_nil) (fun _ _ _ _ _ => (pe_callG (G_other_value T) gd (hr.mono (by decide)) rfl T.other_value.g T.other_value.F.kp T.other_value.b .nil pass0 (pa_cons (pv 0) (pa_cons (pv 3) (pa_cons (pv 4) pa_nil)))))) pa_nil)))) -- ways = ways_to_unlike(watcher, [other_value(watcher, p, i) for p, i in places])
      (C8.pss_cut (ps_setLc (i := 5) (own := [("_", 6)]) (g := gName 6) rfl sc_needed_places.nd rfl rfl (by rfl) (pi_range1 rfl T.m_range (pa_cons (pe_callB (call_lenG T.Watcher_len.M.at_ T.tf_Watcher_len (G_Watcher_len T) gd (hr.mono (by decide)) T.Watcher_len.b) (by rfl) T.m_len PySem.boot_len (pa_cons (pv 0) pa_nil)) pa_nil)) (blkOk_by (N := N_needed_places) (sc := defScope s_needed_places) (by decide +kernel)) (fun _ _ _ _ _ => (pg_name (i := 6) sc_needed_places.nd rfl (.inl rfl))) (fun _ _ _ _ _ => pts_nil) (fun _ _ _ _ _ => (pe_lst pa_nil))) -- needed = [[] for _ in range(len(watcher))]
      (C8.pss_cut (ps_for PassesOwn.never rfl (pi_list (pv 1)) (pg_tup rfl (pgs_cons (pg_name (i := 3) sc_needed_places.nd rfl (.inl rfl)) (pgs_cons (pg_name (i := 4) sc_needed_places.nd rfl (.inl rfl)) pgs_nil))) 
        (pss_one (ps_if (pt_cmpR (op_inN hr.units) (pe_callG (G_other_value T) gd (hr.mono (by decide)) rfl T.other_value.g T.other_value.F.kp T.other_value.b .nil pass0 (pa_cons (pv 0) (pa_cons (pv 3) (pa_cons (pv 4) pa_nil)))) (pv 2) rfl) 
          (pss_one (ps_expr (pe_bm PySem.F.plainAttrs_list PySem.F.slot_list_append PySem.F.type_list_append mt_append (pe_ix ix_list (pv 5) (pv 3) (fun _ _ => rfl)) (pa_cons (pv 4) pa_nil)))) -- needed[p].append(i)
           pss_nil)) -- if other_value(watcher, p, i) in ways:
        ) -- for p, i in places:
      (pss_one (ps_ret (pe_callTy call_tuple_of (by rfl) T.m_tuple (by decide +kernel) (pa_cons (pe_lc (own := [("row", 7)]) (g := gName 7) rfl sc_needed_places.nd (pi_list (pv 5)) (blkOk_by (N := N_needed_places) (sc := defScope s_needed_places) (by decide +kernel)) (fun _ _ _ _ _ => (pg_name (i := 7) sc_needed_places.nd rfl (.inl rfl))) (fun _ _ _ _ _ => pts_nil) (fun _ _ _ _ _ => (pe_callTy (T := "tuple") (r := rTupF K) call_tupleF (by rfl) T.m_tuple (by decide +kernel) (pa_cons (pv 7) pa_nil)))) pa_nil)))) -- return tuple([tuple(row) for row in needed])
      )))) , ?_⟩
    have L5 : 4000000 ≤ sizeLine := by decide
    have hk6 := hw.ok.k.len
    have lpm : (placesM PL.kinds).length ≤ 3 * PL.kinds.length := plF_len hw.ok.k _ (Nat.le_refl _)
    refine ⟨fun σ H' => ∃ Lp xs, σ = [some (.ref x), some (.ref Lp), none, none, none, none, none, none] ∧ Same H H' ∧ H' Lp = some (.lst xs) ∧ TDs H' xs ((placesM PL.kinds).map pairD), ?_, ?_⟩
    · clear q
      exact ⟨.ref x, rfl, x, lv, lh, d, PL, rfl, hw, fun r xs H1 s1 _ h1 h2 => ⟨r, xs, rfl, s1, h1, h2⟩⟩
    rintro σ H1 ⟨Lp, xs, rfl, s1, hLp, hxs⟩
    have lxs : xs.length = (placesM PL.kinds).length := by
      have := hxs.len
      rwa [List.length_map] at this
    refine ⟨fun σ H' => ∃ (W : Addr) (kw : List Sit) (kvw : List (NestedKey × V)) (y3 y4 : Option V), σ = [some (.ref x), some (.ref Lp), some (.ref W), y3, y4, none, none, none] ∧ Same H1 H' ∧ NDict P w H' W kvw ∧ kvw.map (·.1) = kw.map sitK ∧ ∀ m ∈ placesM PL.kinds, otherS PL.kinds m.1 m.2 ∈ kw ↔ need PL m.1 m.2 = true, ?_, ?_⟩
    · clear q
      refine ⟨.ref x, rfl, .ref Lp, rfl, Lp, rfl, ⟨xs, SqL.of hLp⟩, fun D nD => ?_⟩
      refine lc_list (xs := xs) (fun i H' => Same H1 H' ∧ ∃ ys, H' D = some (.lst ys) ∧ TDs H' ys ((((placesM PL.kinds).take i).map fun m => otherS PL.kinds m.1 m.2).map sitD)) ?_ ?_ ?_ ?_
      · exact ⟨same_at (Same.refl _) nD, [], upd_same, .nil⟩
      · exact fun i H' _ h => SqL.of (h.1 _ _ hLp)
      · rintro i v H2 hv ⟨s2, ys, hD, hys⟩
        have hi : i < (placesM PL.kinds).length := by
          have := (List.getElem?_eq_some_iff.mp hv).1
          omega
        obtain ⟨dd, hd, hvd⟩ := hxs.get hv
        rw [List.getElem?_map, List.getElem?_eq_getElem hi] at hd
        obtain rfl := (Option.some.inj hd)
        have hm := placesM_in hw.ok (List.getElem_mem hi)
        have htk : (placesM PL.kinds).take (i + 1) = (placesM PL.kinds).take i ++ [(placesM PL.kinds)[i]] := by
          rw [List.take_add_one, List.getElem?_eq_getElem hi]
          rfl
        generalize (placesM PL.kinds)[i] = M at hvd hm htk
        obtain ⟨ta, zs, rfl, hta, hzs⟩ := hvd.isTup
        cases hzs with
        | cons g1 gr =>
          cases g1
          cases gr with
          | cons g2 gr =>
            cases g2
            cases gr
            refine ⟨ta, _, rfl, SqT.of (s2 _ _ hta), rfl, .int M.1, [.int M.2], rfl, .int M.2, [], rfl, rfl, rfl, ?_⟩
            refine ⟨.ref x, rfl, .int M.1, rfl, .int M.2, rfl, x, lv, lh, d, PL, M.1, M.2, rfl, hw.mono (s1.trans s2), hm.1, hm.2.1, fun r H3 s3 hr => ?_⟩
            have hD3 := s3 _ _ hD
            have tp := Tups.lst (o := .lst (ys ++ [.ref r])) hD3
            refine ⟨ys, hD3, ?_, same_at (s2.trans s3) nD, _, upd_same, ?_⟩
            · have := hys.len
              rw [List.length_map, List.length_map, List.length_take] at this
              omega
            · rw [htk, List.map_append, List.map_append]
              exact tds_snoc ((hys.mono (Tups.same s3)).mono tp) (TD.mono tp _ hr)
      · rintro H2 ⟨s2, ys, hD, hys⟩
        rw [lxs, List.take_length] at hys
        have hss : ∀ s ∈ (placesM PL.kinds).map (fun m => otherS PL.kinds m.1 m.2), SitIn PL PL s ∧ s ∈ allS := fun s hs => by
          obtain ⟨m, hm, rfl⟩ := List.mem_map.mp hs
          have := placesM_in hw.ok hm
          exact otherS_in hw.ok this.1 this.2.1
        refine ⟨x, lv, lh, d, D, ys, PL, _, allS, rfl, hw.mono (s1.trans s2), hD, hys, fun s hs => (hss s hs).1, by rw [List.length_map]; omega, fun k hk => rch_all hw.ok hw.ok (fun s hs => (hss s hs).1) (fun s hs => (hss s hs).2) hk, allS_len, fun W kw kvw H3 s3 n1 n2 n3 => ⟨W, kw, kvw, none, none, rfl, s2.trans s3, n1, n2, fun m hm => ?_⟩⟩
        rw [n3, otherS_ul]
        exact ⟨fun h => h.2, fun h => ⟨.base (List.mem_map.mpr ⟨m, hm, rfl⟩), h⟩⟩
    rintro σ H2 ⟨W, kw, kvw, y3, y4, rfl, s2, hNW, hKW, hneed⟩
    have s12 := s1.trans s2
    obtain ⟨dx, hx⟩ := hw.w.ins
    refine ⟨fun σ H' => ∃ (N : Addr) (la : List Addr) (y6 : Option V), σ = [some (.ref x), some (.ref Lp), some (.ref W), y3, y4, some (.ref N), y6, none] ∧ Same H2 H' ∧ H2 N = none ∧ H' N = some (.lst (la.map V.ref)) ∧ la.length = PL.kinds.length ∧ la.Nodup ∧ ∀ a ∈ la, H2 a = none ∧ H' a = some (.lst []), ?_, ?_⟩
    · clear q
      refine ⟨.ref x, rfl, x, dx, _, rfl, s12 _ _ hx, x, lv, lh, d, _, _, _, _, rfl, hw.w.mono s12, PL.kinds.length, by rw [List.length_map], by omega, (PL.kinds.length : Int), rfl, by omega, by omega, fun N nN => ?_⟩
      refine lc_range (n := PL.kinds.length) (fun i H' => Same H2 H' ∧ ∃ la : List Addr, H' N = some (.lst (la.map V.ref)) ∧ la.length = i ∧ la.Nodup ∧ ∀ a ∈ la, H2 a = none ∧ H' a = some (.lst [])) ?_ ?_ ?_
      · exact ⟨same_at (Same.refl _) nN, [], upd_same, rfl, List.nodup_nil, fun a ha => by cases ha⟩
      · rintro i H3 hi ⟨s3, la, hN, ll, nd, hl⟩
        refine ⟨rfl, by show 0 ≤ sizeLine; decide, fun a na => ?_⟩
        have s4 := same_new (o := .lst []) na
        have hN4 := s4 _ _ hN
        have naN : a ≠ N := fun e => by rw [e, hN] at na; cases na
        refine ⟨la.map V.ref, hN4, by rw [List.length_map]; omega, same_at (s3.trans s4) nN, la ++ [a], ?_, by rw [List.length_append, ll]; rfl, ?_, fun b hb => ?_⟩
        · rw [upd_same, List.map_append]
          rfl
        · refine List.nodup_append.mpr ⟨nd, List.nodup_cons.mpr ⟨(fun z => by cases z), List.nodup_nil⟩, fun b hb c hc => ?_⟩
          rw [List.mem_singleton.mp hc]
          intro e
          have := (hl b hb).2
          rw [e, na] at this
          cases this
        · rcases List.mem_append.mp hb with h | h
          · have h2 := hl b h
            refine ⟨h2.1, ?_⟩
            have : b ≠ N := fun e => by
              have h3 := h2.2
              rw [e, hN] at h3
              have h4 := HO.lst.inj (Option.some.inj h3)
              rw [List.map_eq_nil_iff.mp h4] at h
              cases h
            rw [upd_ne this]
            exact s4 _ _ h2.2
          · rw [List.mem_singleton.mp h]
            refine ⟨?_, by rw [upd_ne naN]; exact upd_same⟩
            cases e : H2 a with
            | none => rfl
            | some o => rw [s3 _ _ e] at na; cases na
      · rintro H3 ⟨s3, la, hN, ll, nd, hl⟩
        exact ⟨N, la, none, rfl, s3, nN, hN, ll, nd, hl⟩
    rintro σ H3 ⟨N, la, y6, rfl, s3, nN, hN, lla, nda, hla⟩
    have s13 := s12.trans s3
    have hLp3 := (s2.trans s3) _ _ hLp
    have hxs3 := hxs.mono (Tups.same (s2.trans s3))
    have n2 : ∀ c o, H2 c = some o → c ∉ la := fun c o e hm => by
      have := (hla c hm).1
      rw [e] at this
      cases this
    have hNl : N ∉ la := fun hm => by
      have h3 := (hla N hm).2
      rw [hN] at h3
      have h4 := HO.lst.inj (Option.some.inj h3)
      rw [List.map_eq_nil_iff.mp h4] at hm
      cases hm
    refine ⟨fun σ H' => ∃ y3 y4, σ = [some (.ref x), some (.ref Lp), some (.ref W), y3, y4, some (.ref N), y6, none] ∧ RwW PL H3 la N (placesM PL.kinds) H', ?_, ?_⟩
    · clear q
      refine ⟨.ref Lp, rfl, Lp, rfl, ⟨xs, SqL.of hLp3⟩, ?_⟩
      refine for_list (xs := xs) (fun i σ H' => ∃ y3 y4, σ = [some (.ref x), some (.ref Lp), some (.ref W), y3, y4, some (.ref N), y6, none] ∧ RwW PL H3 la N ((placesM PL.kinds).take i) H') ?_ ?_ ?_ ?_
      · refine ⟨y3, y4, rfl, fun c o e _ => e, fun p a e => ?_⟩
        exact (hla a (List.mem_of_getElem? e)).2
      · rintro i σ H5 _ ⟨y3, y4, rfl, hR⟩
        exact SqL.of (hR.kp _ _ hLp3 (n2 _ _ (s2 _ _ hLp)))
      · rintro i v σ H5 hv ⟨y3, y4, rfl, hR⟩
        have hi : i < (placesM PL.kinds).length := by
          have := (List.getElem?_eq_some_iff.mp hv).1
          omega
        have tp5 : Tups H3 H5 := fun c ys e => hR.kp c _ e fun hm => by
          have := (hla c hm).2
          rw [e] at this
          cases this
        have s05 : Same H2 H5 := fun c o e => hR.kp c o (s3 _ _ e) (n2 _ _ e)
        obtain ⟨dd, hd, hvd0⟩ := hxs3.get hv
        rw [List.getElem?_map, List.getElem?_eq_getElem hi] at hd
        obtain rfl := (Option.some.inj hd)
        have hvd := TD.mono tp5 _ hvd0
        have hmm := List.getElem_mem hi
        have hm := placesM_in hw.ok hmm
        have htk : (placesM PL.kinds).take (i + 1) = (placesM PL.kinds).take i ++ [(placesM PL.kinds)[i]] := by
          rw [List.take_add_one, List.getElem?_eq_getElem hi]
          rfl
        generalize (placesM PL.kinds)[i] = M at hvd hm htk hmm
        obtain ⟨ta, zs, rfl, hta, hzs⟩ := hvd.isTup
        cases hzs with
        | cons g1 gr =>
          cases g1
          cases gr with
          | cons g2 gr =>
            cases g2
            cases gr
            refine ⟨ta, _, rfl, SqT.of hta, rfl, .int M.1, [.int M.2], rfl, .int M.2, [], rfl, rfl, ?_⟩
            refine ⟨.ref x, rfl, .int M.1, rfl, .int M.2, rfl, x, lv, lh, d, PL, M.1, M.2, rfl, hw.mono (s12.trans s05), hm.1, hm.2.1, fun r H6 s6 hr => ?_⟩
            have s06 := s05.trans s6
            refine ⟨.ref W, rfl, W, sitK (otherS PL.kinds M.1 M.2), kvw, rfl, sit_key hr, hNW.mono s06, ?_⟩
            rw [keys_val hKW]
            have hR6 : RwW PL H3 la N ((placesM PL.kinds).take i) H6 := ⟨fun c o e n => s6 _ _ (hR.kp c o e n), fun p a e => s6 _ _ (hR.rw_ p a e)⟩
            have hM1 : ((M.1.toNat : Nat) : Int) = M.1 := by omega
            have hp : M.1.toNat < la.length := by omega
            by_cases hn : need PL M.1 M.2 = true
            · rw [decide_eq_true ((hneed M hmm).mpr hn)]
              refine ⟨true, rfl, iteT ?_⟩
              have hN6 := hR6.kp _ _ hN hNl
              have ea := List.getElem?_eq_getElem hp
              have hrow := hR6.rw_ _ _ ea
              have lrow : (rowJ PL ((placesM PL.kinds).take i) M.1.toNat).length ≤ 18 := by
                unfold rowJ
                rw [List.length_map]
                have h1 := List.length_filter_le (fun m : Int × Int => decide (m.1 = ((M.1.toNat : Nat) : Int)) && need PL m.1 m.2) ((placesM PL.kinds).take i)
                have h2 : ((placesM PL.kinds).take i).length ≤ (placesM PL.kinds).length := by
                  rw [List.length_take]
                  omega
                omega
              have iA : atI (la.map V.ref) ((M.1.toNat : Nat) : Int) = some (.ref la[M.1.toNat]) := atI_nat (by rw [List.getElem?_map, ea]; rfl)
              rw [hM1] at iA
              refine ⟨.ref N, rfl, .int M.1, rfl, N, _, M.1, .ref la[M.1.toNat], rfl, rfl, SqL.of hN6, iA, .inl ⟨rfl, _, SqL.of hrow⟩, .int M.2, rfl, la[M.1.toNat], _, .int M.2, rfl, rfl, hrow, by rw [List.length_map]; omega, some (.int M.1), some (.int M.2), rfl, fun c o e n => ?_, fun p a e => ?_⟩
              · rw [upd_ne (fun z => n (by rw [z]; exact List.getElem_mem hp))]
                exact hR6.kp c o e n
              · rw [htk, rowJ_snoc]
                by_cases ep : p = M.1.toNat
                · subst ep
                  rw [ea] at e
                  obtain rfl := Option.some.inj e
                  rw [upd_same, if_pos (by rw [hn, hM1]; simp), List.map_append]
                  rfl
                · have hp2 := (List.getElem?_eq_some_iff.mp e).1
                  have : a ≠ la[M.1.toNat] := fun z => ep (by
                    rw [z, ← ea] at e
                    exact (List.getElem?_inj hp2 nda).mp e)
                  rw [upd_ne this, if_neg, List.append_nil]
                  · exact hR6.rw_ p a e
                  · have : ¬ M.1 = (p : Int) := by omega
                    simp [this]
            · rw [decide_eq_false fun z => hn ((hneed M hmm).mp z)]
              refine ⟨false, rfl, iteF ?_⟩
              refine ⟨some (.int M.1), some (.int M.2), rfl, hR6.kp, fun p a e => ?_⟩
              rw [htk, rowJ_snoc, if_neg (by simp [hn]), List.append_nil]
              exact hR6.rw_ p a e
      · rintro σ H5 ⟨y3, y4, rfl, hR⟩
        rw [lxs, List.take_length] at hR
        exact ⟨y3, y4, rfl, hR⟩
    rintro σ H4 ⟨y3, y4, rfl, hR⟩
    have hN4 := hR.kp _ _ hN hNl
    have s04 : Same H H4 := fun c o e => hR.kp c o (s13 _ _ e) (n2 _ _ (s12 _ _ e))
    refine ⟨.ref N, rfl, N, rfl, ⟨la.map V.ref, SqL.of hN4⟩, fun D nD => ?_⟩
    have ell : (la.map V.ref).length = PL.kinds.length := by rw [List.length_map, lla]
    refine lc_list (xs := la.map V.ref) (fun i H' => Same H4 H' ∧ ∃ rs : List Addr, H' D = some (.lst (rs.map V.ref)) ∧ rs.length = i ∧ (∀ a ∈ rs, H4 a = none) ∧ ∀ (p : Nat) (a : Addr), rs[p]? = some a → HT H' a (rowM PL p)) ?_ ?_ ?_ ?_
    · exact ⟨same_at (Same.refl _) nD, [], upd_same, rfl, (fun a h => by cases h), (fun p a e => by cases e)⟩
    · exact fun i H' _ h => SqL.of (h.1 _ _ hN4)
    · rintro i v H5 hv ⟨s5, rs, hD, lrs, nrs, hrs⟩
      have hi : i < la.length := by
        have := (List.getElem?_eq_some_iff.mp hv).1
        omega
      have ea := List.getElem?_eq_getElem hi
      rw [List.getElem?_map, ea] at hv
      obtain rfl := (Option.some.inj hv)
      have hrow := s5 _ _ (hR.rw_ _ _ ea)
      have er : rowJ PL (placesM PL.kinds) i = rowM PL i := by
        have := rowJ_all PL i PL.kinds.length
        rw [if_pos (by omega)] at this
        exact this
      rw [er] at hrow
      refine ⟨rfl, .ref la[i], rfl, la[i], _, rfl, SqL.of hrow, fun l ob nl ob0 => ?_⟩
      have s6 := same_new (o := .frz ob (.tup ((rowM PL i).map V.int))) nl
      have hD6 := s6 _ _ hD
      refine ⟨rs.map V.ref, hD6, ?_, same_at (s5.trans s6) nD, rs ++ [l], ?_, by rw [List.length_append, lrs]; rfl, fun a ha => ?_, fun p a e => ?_⟩
      · rw [List.length_map]
        omega
      · rw [upd_same, List.map_append]
        rfl
      · rcases List.mem_append.mp ha with h | h
        · exact nrs a h
        · rw [List.mem_singleton.mp h]
          exact s5.free nl
      · have hlD : l ≠ D := fun e => by rw [e, hD] at nl; cases nl
        by_cases ep : p < rs.length
        · rw [List.getElem?_append_left ep] at e
          obtain ⟨ob', h1, h2⟩ := hrs p a e
          have : a ≠ D := fun z => by
            rw [z, hD] at h1
            cases h1
          exact ⟨ob', by rw [upd_ne this]; exact s6 _ _ h1, h2⟩
        · rw [List.getElem?_append_right (by omega)] at e
          have hp := (List.getElem?_eq_some_iff.mp e).1
          have hp : p = i := by
            have : ([l] : List Addr).length = 1 := rfl
            omega
          subst hp
          rw [show p - rs.length = 0 by omega] at e
          obtain rfl := Option.some.inj e
          exact ⟨ob, by rw [upd_ne hlD]; exact upd_same, ob0⟩
    · rintro H5 ⟨s5, rs, hD, lrs, nrs, hrs⟩
      rw [ell] at lrs
      refine ⟨D, _, rfl, .inl ⟨SqL.of hD, fun r nr => ?_⟩⟩
      have s6 := same_new (o := .tup (rs.map V.ref)) nr
      exact q r rs _ ((s04.trans s5).trans s6) (s04.free (s5.free nr)) (fun a ha => s04.free (nrs a ha)) ⟨upd_same, lrs, fun p a e => (hrs p a e).mono s6⟩
end
/-- [plan, plan] -/
structure PsAt (H : Hp) (L l kl rl : Addr) (PL : Plan) : Prop where
  at_ : H L = some (.lst [.ref l, .ref l])
  pl : PlanAt H l kl rl PL
  ok : PlanOk PL
theorem PsAt.mono {H H' : Hp} {L l kl rl : Addr} {PL : Plan} (h : PsAt H L l kl rl PL) (s : Same H H') : PsAt H' L l kl rl PL := ⟨s _ _ h.at_, h.pl.mono s, h.ok⟩
def sp_law_situation : Sp := fun us H Q _ => ∃ (v1 v2 : V) (s1 s2 : Int × List Int), us = [v1, v2] ∧ StAt H v1 s1 ∧ StAt H v2 s2 ∧ s1.2.length ≤ 100 ∧ s2.2.length ≤ 100 ∧ ∀ r H', Same H H' → TD H' (.ref r) (sitD (s1.1, s2.1, eqM s1.2 s2.2)) → Q (.ref r) H'
def sp_law_without : Sp := fun us H Q _ => ∃ (h i : Int), us = [.int h, .int i] ∧ 0 ≤ h ∧ h ≤ 3 ∧ ∀ r H', Same H H' → TD H' (.ref r) (pairsD (othF h.toNat i)) → Q (.ref r) H'
def sp_law_started : Sp := fun us H Q _ => ∃ (L l kl rl : Addr) (v : V) (PL : Plan) (s : Sit), us = [.ref L, v] ∧ PsAt H L l kl rl PL ∧ TD H v (sitD s) ∧ SitIn PL PL s ∧
  ∀ r v1 v2 H', Same H H' → H' r = some (.tup [v1, v2]) → StAt H' v1 (s.1, (heldM PL PL s).1) → StAt H' v2 (s.2.1, (heldM PL PL s).2) → Q (.ref r) H'
theorem mapP_mem {α β : Type} {F G : α → β → Prop} : ∀ {a : List α} {b : List β}, Paired F a b → (∀ x y, x ∈ a → F x y → G x y) → Paired G a b
  | _, _, .nil, _ => .nil
  | _, _, .cons h t, k => .cons (k _ _ List.mem_cons_self h) (mapP_mem t fun x y hx => k x y (List.mem_cons_of_mem _ hx))
theorem merge_prt : ∀ (ps : List (Int × Int)) (kvs : List (Key × V)) (j : Int) (o : Option Int), valV kvs (.inl j : Key) = o.map V.int → valV (mergeK kvs (ps.map fun m => ((.inl m.2 : Key), V.int m.1))) (.inl j : Key) = (ps.foldl (fun o m => if m.2 = j then some m.1 else o) o).map V.int
  | [], _, _, _, h => h
  | m :: r, kvs, j, o, h => by
    refine merge_prt r (putK kvs (.inl m.2) (.int m.1)) j (if m.2 = j then some m.1 else o) ?_
    rw [valV_put]
    by_cases e : m.2 = j
    · rw [if_pos e, if_pos (by rw [e])]
      rfl
    · rw [if_neg e, if_neg (fun z => e (Sum.inl.inj z).symm)]
      exact h
section
variable {P : Program} {w : World} {K : PySem.W.Frag} {mg : Str → Option Value} {base : Heap}
abbrev N_law_without : List Str := ["held", "place", "k"]
theorem sc_law_without : FnScope N_law_without ["held", "place"] (defScope s_law_without) := ⟨rfl, rfl, rfl, by decide +kernel, rfl, by decide +kernel, by decide +kernel⟩
theorem G_law_without (T : Tx K mg) : FnG P w K mg base CX0 1 T.law_without.f T.law_without.fd ["held", "place"] sp_law_without := by
  refine okG T.law_without.F sc_law_without (fun vs H Q E h => ?_) (fun cdv A outer s H vs Q E gd hr h => ?_)
  · obtain ⟨h', i, rfl, _⟩ := h
    rfl
  · obtain ⟨hh, i, rfl, h0, h3, q⟩ := h
    refine ⟨_, 
      (pss_one (ps_ret (pe_callTy call_tuple_of (by rfl) T.m_tuple (by decide +kernel) (pa_cons (pe_lc (own := [("k", 2)]) (g := gName 2) rfl sc_law_without.nd (pi_range1 rfl T.m_range (pa_cons (pv 0) pa_nil)) (blkOk_by (N := N_law_without) (sc := defScope s_law_without) (by decide +kernel)) (fun _ _ _ _ _ => (pg_name (i := 2) sc_law_without.nd rfl (.inl rfl))) (fun _ _ _ _ _ => (pts_one (pt_cmpR op_ne (pv 2) (pv 1) (nomark _)))) (fun _ _ _ _ _ => (pe_tup (pa_cons (pv 2) (pa_cons (pv 2) pa_nil))))) pa_nil)))) -- return tuple([(k, k) for k in range(held) if k != place])
       , ?_⟩
    have L5 : 200000 ≤ sizeLine := by decide
    refine ⟨.int hh, rfl, hh, rfl, by omega, by omega, fun D nD => ?_⟩
    refine lc_range (n := hh.toNat) (fun j H' => Same H H' ∧ ∃ xs, H' D = some (.lst xs) ∧ TDs H' xs ((othF j i).map pairD)) ?_ ?_ ?_
    · exact ⟨same_at (Same.refl _) nD, [], upd_same, .nil⟩
    · rintro j H3 hj ⟨s3, xs, hD, hxs⟩
      have e0 : (0 : Int) + (j : Int) = (j : Int) := by omega
      rw [e0]
      refine ⟨rfl, .int (j : Int), rfl, .int i, rfl, rfl, ?_⟩
      rw [othF_succ]
      have e : decide (V.int (j : Int) = V.int i) = decide ((j : Int) = i) := by
        by_cases h : (j : Int) = i
        · rw [h]
          simp
        · rw [decide_eq_false h, decide_eq_false fun z => h (V.int.inj z)]
      rw [e]
      by_cases h : (j : Int) = i
      · rw [decide_eq_true h, if_pos h]
        refine ⟨false, rfl, iteF ?_⟩
        rw [List.append_nil]
        exact ⟨s3, xs, hD, hxs⟩
      · rw [decide_eq_false h, if_neg h]
        refine ⟨true, rfl, iteT ?_⟩
        refine ⟨.int (j : Int), rfl, .int (j : Int), rfl, by show 2 ≤ sizeLine; decide, fun m nm => ?_⟩
        have s8 := same_new (o := .tup [.int (j : Int), .int (j : Int)]) nm
        have hD8 := s8 _ _ hD
        have tp := Tups.lst (o := .lst (xs ++ [.ref m])) hD8
        refine ⟨xs, hD8, ?_, same_at (s3.trans s8) nD, _, upd_same, ?_⟩
        · have := hxs.len
          have := othF_len j i
          rw [List.length_map] at *
          omega
        · rw [List.map_append]
          exact tds_snoc ((hxs.mono (Tups.same s8)).mono tp) (.tup (tp _ _ upd_same) (.cons (.int _) (.cons (.int _) .nil)))
    · rintro H3 ⟨s3, xs, hD, hxs⟩
      refine ⟨D, xs, rfl, .inl ⟨SqL.of hD, fun l nl => ?_⟩⟩
      have s4 := same_new (o := .tup xs) nl
      exact q l _ (s3.trans s4) (.tup upd_same (hxs.mono (Tups.same s4)))
abbrev N_law_situation : List Str := ["one", "other", "pairs", "i", "value"]
theorem sc_law_situation : FnScope N_law_situation ["one", "other"] (defScope s_law_situation) := ⟨rfl, rfl, rfl, by decide +kernel, rfl, by decide +kernel, by decide +kernel⟩
theorem G_law_situation (T : Tx K mg) : FnG P w K mg base CX0 1 T.law_situation.f T.law_situation.fd ["one", "other"] sp_law_situation := by
  refine okG T.law_situation.F sc_law_situation (fun vs H Q E h => ?_) (fun cdv A outer s H vs Q E gd hr h => ?_)
  · obtain ⟨v1, v2, s1, s2, rfl, _⟩ := h
    rfl
  · obtain ⟨v1, v2, ⟨p, f⟩, ⟨p2, g⟩, rfl, ⟨r1, x, rfl, h1, hf⟩, ⟨r2, y, rfl, h2, hg⟩, lf, lg, q⟩ := h
    refine ⟨_, 
      (C8.pss_cut (ps_setLc (i := 2) (own := [("i", 3), ("value", 4)]) (g := gTup K 2 (gCons (gName 3) (gCons (gName 4) gNil))) rfl sc_law_situation.nd rfl rfl (by rfl) (pi_enumT (by rfl) T.m_enumerate (pa_cons (pe_ix ix_tup (pv 0) pe_int (fun _ _ => rfl)) pa_nil)) (blkOk_by (N := N_law_situation) (sc := defScope s_law_situation) (by decide +kernel)) (fun _ _ _ _ _ => (pg_tup rfl (pgs_cons (pg_name (i := 3) sc_law_situation.nd rfl (.inl rfl)) (pgs_cons (pg_name (i := 4) sc_law_situation.nd rfl (.inl rfl)) pgs_nil)))) (fun _ _ _ _ _ => (pts_one (pt_cmpR (r := rIn K false) op_in_seq (pv 4) (pe_ix (r := rIxT K) ix_tup (pv 1) pe_int (fun _ _ => rfl)) rfl))) (fun _ _ _ _ _ => (pe_tup (pa_cons (pv 3) (pa_cons (pe_bmT (r := rIdxI K) PySem.F.plainAttrs_tuple PySem.F.slot_tuple_index PySem.F.type_tuple_index mt_tup_indexI (pe_ix (r := rIxT K) ix_tup (pv 1) pe_int (fun _ _ => rfl)) (pa_cons (pv 4) pa_nil)) pa_nil))))) -- pairs = [(i, other[1].index(value)) for i, value in enumerate(one[1]) if value in other[1]]
      (pss_one (ps_ret (pe_tup (pa_cons (pe_ix ix_tup (pv 0) pe_int (fun _ _ => rfl)) (pa_cons (pe_ix ix_tup (pv 1) pe_int (fun _ _ => rfl)) (pa_cons (pe_callTy call_tuple_of (by rfl) T.m_tuple (by decide +kernel) (pa_cons (pv 2) pa_nil)) pa_nil)))))) -- return (one[0], other[0], tuple(pairs))
      ) , ?_⟩
    have L5 : 200000 ≤ sizeLine := by decide
    dsimp only at lf lg h1 h2 hf hg q
    refine ⟨fun σ H' => ∃ D xs y3 y4, σ = [some (.ref r1), some (.ref r2), some (.ref D), y3, y4] ∧ Same H H' ∧ H' D = some (.lst xs) ∧ TDs H' xs ((eqM f g).map pairD), ?_, ?_⟩
    · clear q
      refine ⟨.ref r1, rfl, r1, _, 1, .ref x, rfl, rfl, SqT.of h1, atI_nat (j := 1) rfl, x, _, rfl, hf.sq, fun D nD => ?_⟩
      refine lc_it (walk_enumT (xs := f.map V.int)) (fun i H' => Same H H' ∧ ∃ xs, H' D = some (.lst xs) ∧ TDs H' xs ((eqF f g i).map pairD)) ?_ ?_ ?_ ?_
      · exact ⟨same_at (Same.refl H) nD, [], upd_same, .nil⟩
      · exact fun i H' _ h => sqT_same hf.sq h.1
      · rintro i v H1 H2 hi ⟨sm, xs, hD, hxs⟩ ⟨TT, x1, x2, rfl, nT, rfl, e1, e2⟩
        cases e1
        have hi' : i < f.length := by rw [List.length_map] at hi; exact hi
        have ef : f[i]? = some f[i] := List.getElem?_eq_getElem hi'
        have ex : x2 = .int f[i] := by
          have e2 : (f.map V.int)[i]? = some x2 := e2
          rw [List.getElem?_map, ef] at e2
          exact (Option.some.inj e2).symm
        subst ex
        have s7 := same_new (o := .tup [.int (i : Nat), .int f[i]]) nT
        have sm7 := sm.trans s7
        have hD7 := s7 _ _ hD
        refine ⟨TT, _, rfl, SqT.of upd_same, rfl, .int (i : Nat), [.int f[i]], rfl, .int f[i], [], rfl, rfl, rfl, ?_⟩
        refine ⟨.int f[i], rfl, .ref r2, rfl, r2, _, 1, .ref y, rfl, rfl, SqT.of (sm7 _ _ h2), atI_nat (j := 1) rfl, y, _, rfl, .inr (hg.mono sm7).sq, rfl, flat_ints _, _, rfl, ?_⟩
        rw [if_neg Bool.false_ne_true, inV_ints, eqF_succ f g i ef]
        by_cases hv : f[i] ∈ g
        · rw [decide_eq_true hv, if_pos hv]
          refine iteT ?_
          obtain ⟨i1, i2⟩ := idx_first hv
          refine ⟨.int (i : Nat), rfl, .ref r2, rfl, r2, _, 1, .ref y, rfl, rfl, SqT.of (sm7 _ _ h2), atI_nat (j := 1) rfl, (hg.mono sm7).ty, .int f[i], rfl, y, g, f[i], g.idxOf f[i], rfl, rfl, (hg.mono sm7).sq, i1, i2, by show 2 ≤ sizeLine; decide, fun m nm => ?_⟩
          have s8 := same_new (o := .tup [.int (i : Nat), .int ((g.idxOf f[i] : Nat) : Int)]) nm
          have hD8 := s8 _ _ hD7
          have tp := Tups.lst (o := .lst (xs ++ [.ref m])) hD8
          refine ⟨xs, hD8, ?_, same_at (sm7.trans s8) nD, _, upd_same, ?_⟩
          · have := hxs.len
            have := eqF_len f g i
            rw [List.length_map] at *
            have := L5
            omega
          · rw [List.map_append]
            exact tds_snoc ((hxs.mono (Tups.same (s7.trans s8))).mono tp) (.tup (tp _ _ upd_same) (.cons (.int _) (.cons (.int _) .nil)))
        · rw [decide_eq_false hv, if_neg hv]
          refine iteF ?_
          rw [List.append_nil]
          exact ⟨sm7, xs, hD7, hxs.mono (Tups.same s7)⟩
      · rintro H1 ⟨sm, xs, hD, hxs⟩
        rw [List.length_map] at hxs
        exact ⟨D, xs, none, none, rfl, sm, hD, hxs⟩
    rintro σ H1 ⟨D, xs, y3, y4, rfl, s1, hD, hxs⟩
    refine ⟨.ref r1, rfl, r1, _, 0, .int p, rfl, rfl, SqT.of (s1 _ _ h1), atI_nat (j := 0) rfl, .ref r2, rfl, r2, _, 0, .int p2, rfl, rfl, SqT.of (s1 _ _ h2), atI_nat (j := 0) rfl, .ref D, rfl, D, xs, rfl, .inl ⟨SqL.of hD, fun l nl => ⟨by show 3 ≤ sizeLine; decide, fun r nr => ?_⟩⟩⟩
    have s4 := same_new (o := .tup xs) nl
    have s5 := same_new (o := .tup [.int p, .int p2, .ref l]) nr
    exact q r _ ((s1.trans s4).trans s5) (.tup upd_same (.cons (.int _) (.cons (.int _) (.cons (.tup (s5 _ _ upd_same) (hxs.mono (Tups.same (s4.trans s5)))) .nil))))
abbrev N_law_started : List Str := ["plans", "situation", "p", "q", "pairs", "count", "back", "i", "j", "held"]
theorem sc_law_started : FnScope N_law_started ["plans", "situation"] (defScope s_law_started) := ⟨rfl, rfl, rfl, by decide +kernel, rfl, by decide +kernel, by decide +kernel⟩
theorem G_law_started (T : Tx K mg) : FnG P w K mg base CX0 1 T.law_started.f T.law_started.fd ["plans", "situation"] sp_law_started := by
  refine okG T.law_started.F sc_law_started (fun vs H Q E h => ?_) (fun cdv A outer s H vs Q E gd hr h => ?_)
  · obtain ⟨L, l, kl, rl, v, PL, s, rfl, _⟩ := h
    rfl
  · obtain ⟨L, l, kl, rl, v, PL, ⟨p, pq, ps⟩, rfl, hp, hv, hin, q⟩ := h
    refine ⟨_, 
      (pss_cons (ps_asg (pv 1) (pg_tup rfl (pgs_cons (pg_name (i := 2) sc_law_started.nd rfl (.inl rfl)) (pgs_cons (pg_name (i := 3) sc_law_started.nd rfl (.inl rfl)) (pgs_cons (pg_name (i := 4) sc_law_started.nd rfl (.inl rfl)) pgs_nil))))) -- p, q, pairs = situation
      (C8.pss_cut (ps_par (i := 5) (j := 6) rfl sc_law_started.nd rfl rfl (by decide) rfl rfl (pa_cons (pe_ix ix_tup (pe_ix ix_list (pe_ix ix_list (pe_ix ix_list (pv 0) pe_int (fun _ _ => rfl)) pe_int (fun _ _ => rfl)) (pv 2) (fun _ _ => rfl)) pe_int (fun _ _ => rfl)) (pa_cons (pe_callTy (call_dictPI rfl) (by rfl) T.m_dict (by decide +kernel) (pa_cons (pe_lc (own := [("i", 7), ("j", 8)]) (g := gTup K 2 (gCons (gName 7) (gCons (gName 8) gNil))) rfl sc_law_started.nd (pi_tup (pv 4)) (blkOk_by (N := N_law_started) (sc := defScope s_law_started) (by decide +kernel)) (fun _ _ _ _ _ => (pg_tup rfl (pgs_cons (pg_name (i := 7) sc_law_started.nd rfl (.inl rfl)) (pgs_cons (pg_name (i := 8) sc_law_started.nd rfl (.inl rfl)) pgs_nil)))) (fun _ _ _ _ _ => pts_nil) (fun _ _ _ _ _ => (pe_tup (pa_cons (pv 8) (pa_cons (pv 7) pa_nil))))) pa_nil)) pa_nil)) rfl) -- count, back = (plans[0][1][p][1], dict([(j, i) for i, j in pairs]))
      (pss_cons (ps_set (i := 9) sc_law_started.nd rfl (.inl rfl) (pe_lst pa_nil)) -- held = []
      (C8.pss_cut (ps_for PassesOwn.never rfl (pi_range1 rfl T.m_range (pa_cons (pe_ix ix_tup (pe_ix ix_list (pe_ix ix_list (pe_ix ix_list (pv 0) pe_int (fun _ _ => rfl)) pe_int (fun _ _ => rfl)) (pv 3) (fun _ _ => rfl)) pe_int (fun _ _ => rfl)) pa_nil)) (pg_name (i := 8) sc_law_started.nd rfl (.inl rfl)) 
        (pss_cons (ps_expr (pe_bm PySem.F.plainAttrs_list PySem.F.slot_list_append PySem.F.type_list_append mt_append (pv 9) (pa_cons (pe_dget2 (hu_of hr) (pv 6) (pv 8) (pv 5) ⟨by rfl, by rfl, by rfl, by rfl⟩) pa_nil))) -- held.append(back.get(j, count))
        (pss_one (ps_set (i := 5) sc_law_started.nd rfl (.inl rfl) (pe_op op_add (pv 5) (pe_callTy call_int1 (by rfl) T.m_int (by decide +kernel) (pa_cons (pe_cmp (pc_dnotin (hu_of hr) (pv 8) (pv 6))) pa_nil))))) -- count = count + int(j not in back)
        )) -- for j in range(plans[1][1][q][1]):
      (pss_one (ps_ret (pe_tup (pa_cons (pe_tup (pa_cons (pv 2) (pa_cons (pe_tupRgF rfl (by rfl) T.m_tuple (prg_1 (by rfl) T.m_range (pe_ix ix_tup (pe_ix ix_list (pe_ix ix_list (pe_ix ix_list (pv 0) pe_int (fun _ _ => rfl)) pe_int (fun _ _ => rfl)) (pv 2) (fun _ _ => rfl)) pe_int (fun _ _ => rfl)))) pa_nil))) (pa_cons (pe_tup (pa_cons (pv 3) (pa_cons (pe_callTy call_tupleF (by rfl) T.m_tuple (by decide +kernel) (pa_cons (pv 9) pa_nil)) pa_nil))) pa_nil))))) -- return ((p, tuple(range(plans[0][1][p][1]))), (q, tuple(held)))
      )))) , ?_⟩
    have L5 : 200000 ≤ sizeLine := by decide
    obtain ⟨sv, xs, rfl, hsv, hxs⟩ := hv.isTup
    cases hxs with
    | cons h1 hxs =>
      cases h1
      cases hxs with
      | cons h2 hxs =>
        cases h2
        cases hxs with
        | cons h3 hxs =>
          cases hxs
          obtain ⟨pa, ys, rfl, hpa, hys⟩ := h3.isTup
          refine ⟨.ref sv, rfl, sv, _, rfl, SqT.of hsv, rfl, .int p, [.int pq, .ref pa], rfl, .int pq, [.ref pa], rfl, .ref pa, [], rfl, rfl, ?_⟩
          obtain ⟨kvs0, hkl, hkt⟩ := hp.pl.kin
          have hA := held_bd hp.ok.k hin.p0 hin.p1
          have hB := held_bd hp.ok.k hin.q0 hin.q1
          dsimp only at hA hB
          obtain ⟨a1, va1, i1, ha1, _⟩ := kinds_at hkt hin.p0 hin.p1
          obtain ⟨a2, va2, i2, ha2, _⟩ := kinds_at hkt hin.q0 hin.q1
          dsimp only at i1 i2 ha1 ha2
          have lps : ys.length = ps.length := by
            have := hys.length
            rwa [List.length_map] at this
          have lp3 : ps.length ≤ 3 := hin.len
          refine ⟨fun σ H' => ∃ (B : Addr) (kvs : List (Key × V)) (y7 y8 : Option V), σ = [some (.ref L), some (.ref sv), some (.int p), some (.int pq), some (.ref pa), some (.int (heldAt PL.kinds p)), some (.ref B), y7, y8, none] ∧ Same H H' ∧ H' B = some (.dK kvs) ∧ ∀ j : Int, valV kvs (.inl j : Key) = (prt ps j).map V.int, ?_, ?_⟩
          · clear q
            refine ⟨.ref L, rfl, L, _, 0, .ref l, rfl, rfl, SqL.of hp.at_, atI_nat (j := 0) rfl, l, _, 1, .ref kl, rfl, rfl, SqL.of hp.pl.at_, atI_nat (j := 1) rfl, .int p, rfl, kl, kvs0, p, .ref a1, rfl, rfl, SqL.of hkl, i1, a1, _, 1, .int (heldAt PL.kinds p), rfl, rfl, SqT.of ha1, atI_nat (j := 1) rfl, ?_⟩
            refine ⟨.ref pa, rfl, pa, rfl, ⟨ys, SqT.of hpa⟩, fun D nD => ?_⟩
            refine lc_tup (xs := ys) (fun i H' => Same H H' ∧ ∃ ts : List Addr, H' D = some (.lst (ts.map V.ref)) ∧ PairsK H' ts ((ps.take i).map fun m => ((.inl m.2 : Key), V.int m.1)) ∧ ∀ t ∈ ts, t ≠ D) ?_ ?_ ?_ ?_
            · exact ⟨same_at (Same.refl H) nD, [], upd_same, .nil, fun t ht => by cases ht⟩
            · exact fun i H' _ h => SqT.of (h.1 _ _ hpa)
            · rintro i x H2 hx ⟨s2, ts, hD, hts, hne⟩
              have hi : i < ps.length := by
                have := (List.getElem?_eq_some_iff.mp hx).1
                omega
              obtain ⟨d, hd, hxd⟩ := hys.get hx
              rw [List.getElem?_map, List.getElem?_eq_getElem hi] at hd
              obtain rfl := (Option.some.inj hd)
              obtain ⟨ta, zs, rfl, hta, hzs⟩ := hxd.isTup
              cases hzs with
              | cons g1 gr =>
                cases g1
                cases gr with
                | cons g2 gr =>
                  cases g2
                  cases gr
                  refine ⟨ta, _, rfl, SqT.of (s2 _ _ hta), rfl, .int ps[i].1, [.int ps[i].2], rfl, .int ps[i].2, [], rfl, rfl, rfl, ?_⟩
                  refine ⟨.int ps[i].2, rfl, .int ps[i].1, rfl, by show 2 ≤ sizeLine; decide, fun m nm => ?_⟩
                  have s8 := same_new (o := .tup [.int ps[i].2, .int ps[i].1]) nm
                  have hD8 := s8 _ _ hD
                  have lts : ts.length = i := by
                    have := Paired.length hts
                    rw [List.length_map, List.length_take] at this
                    omega
                  have nmD : m ≠ D := fun e => by rw [e, hD] at nm; cases nm
                  refine ⟨_, hD8, by rw [List.length_map]; omega, same_at (s2.trans s8) nD, ts ++ [m], ?_, ?_, fun t ht => ?_⟩
                  · rw [upd_same, List.map_append]
                    rfl
                  · rw [List.take_add_one, List.getElem?_eq_getElem hi, Option.toList_some, List.map_append]
                    refine Paired.snoc (mapP_mem hts fun t p ht e => ?_) ?_
                    · rw [upd_ne (hne t ht)]
                      exact s8 _ _ e
                    · show (upd _ D _) m = _
                      rw [upd_ne nmD]
                      exact upd_same
                  · rcases List.mem_append.mp ht with h | h
                    · exact hne t h
                    · rw [List.mem_singleton.mp h]
                      exact nmD
            · rintro H2 ⟨s2, ts, hD, hts, hne⟩
              rw [lps, List.take_length] at hts
              refine ⟨D, ts, _, rfl, hD, hts, fun B nB => ⟨_, _, rfl, B, _, none, none, rfl, s2.trans (same_new nB), upd_same, fun j => ?_⟩⟩
              exact merge_prt ps [] j none rfl
          rintro σ H2 ⟨B, kvs, y7, y8, rfl, s2, hBk, hk⟩
          refine ⟨by show 0 ≤ sizeLine; decide, fun sl nsl => ?_⟩
          have s3 := same_new (o := .lst []) nsl
          have s23 := s2.trans s3
          refine ⟨fun σ H' => ∃ y5 y8, σ = [some (.ref L), some (.ref sv), some (.int p), some (.int pq), some (.ref pa), y5, some (.ref B), y7, y8, some (.ref sl)] ∧ Same H H' ∧ H' sl = some (.lst ((secondM ps (heldAt PL.kinds p) (heldAt PL.kinds pq)).map V.int)), ?_, ?_⟩
          · clear q
            refine ⟨.ref L, rfl, L, _, 1, .ref l, rfl, rfl, SqL.of (s23 _ _ hp.at_), atI_nat (j := 1) rfl, l, _, 1, .ref kl, rfl, rfl, SqL.of (s23 _ _ hp.pl.at_), atI_nat (j := 1) rfl, .int pq, rfl, kl, kvs0, pq, .ref a2, rfl, rfl, SqL.of (s23 _ _ hkl), i2, a2, _, 1, .int (heldAt PL.kinds pq), rfl, rfl, SqT.of (s23 _ _ ha2), atI_nat (j := 1) rfl, heldAt PL.kinds pq, rfl, by omega, by omega, ?_⟩
            refine for_range (n := (heldAt PL.kinds pq).toNat) (fun i σ H' => ∃ y8, σ = [some (.ref L), some (.ref sv), some (.int p), some (.int pq), some (.ref pa), some (.int (secF ps (heldAt PL.kinds p) i).2), some (.ref B), y7, y8, some (.ref sl)] ∧ Same H2 H' ∧ H' sl = some (.lst ((secF ps (heldAt PL.kinds p) i).1.map V.int))) ?_ ?_ ?_
            · exact ⟨y8, rfl, s3, upd_same⟩
            · rintro i σ H5 hi ⟨y, rfl, s5, hsl⟩
              have e0 : (0 : Int) + (i : Int) = (i : Int) := by omega
              rw [e0]
              have hB5 := s5 _ _ hBk
              have hki := hk (i : Int)
              have ll := secF_len ps (heldAt PL.kinds p) i
              have es := secF_succ ps (heldAt PL.kinds p) i
              refine ⟨.ref sl, rfl, .inl ⟨rfl, _, SqL.of hsl⟩, .ref B, rfl, B, rfl, .inl ⟨_, .inl hB5⟩, .int (i : Int), rfl, .int (secF ps (heldAt PL.kinds p) i).2, rfl, _, DGet.k (k := (.inl (i : Int) : Key)) hB5, ?_⟩
              rw [hki]
              have nBs : B ≠ sl := fun e => by rw [e, nsl] at hBk; cases hBk
              have big : (secF ps (heldAt PL.kinds p) i).1.length < sizeLine := by
                rw [ll]
                omega
              cases e : prt ps (i : Int) with
              | some z =>
                rw [e] at hki es
                dsimp only at es
                refine ⟨sl, _, .int z, rfl, rfl, hsl, by rw [List.length_map]; exact big, .int _, rfl, .int (i : Int), rfl, .ref B, rfl, B, _, rfl, DGet.k (k := (.inl (i : Int) : Key)) (by rw [upd_ne nBs]; exact hB5), ?_⟩
                rw [hki]
                refine .inr ⟨_, rfl, _, _, rfl, rfl, some (.int (i : Int)), ?_, same_at s5 nsl, ?_⟩
                · rw [es]
                  show _ = _
                  simp
                · rw [upd_same, es, List.map_append]
                  rfl
              | none =>
                rw [e] at hki es
                dsimp only at es
                refine ⟨sl, _, .int _, rfl, rfl, hsl, by rw [List.length_map]; exact big, .int _, rfl, .int (i : Int), rfl, .ref B, rfl, B, _, rfl, DGet.k (k := (.inl (i : Int) : Key)) (by rw [upd_ne nBs]; exact hB5), ?_⟩
                rw [hki]
                refine .inr ⟨_, rfl, _, _, rfl, rfl, some (.int (i : Int)), ?_, same_at s5 nsl, ?_⟩
                · rw [es]
                  show _ = _
                  simp
                · rw [upd_same, es, List.map_append]
                  rfl
            · rintro σ H5 ⟨y, rfl, s5, hsl⟩
              exact ⟨_, y, rfl, s2.trans s5, hsl⟩
          rintro σ H3 ⟨y5, y8', rfl, s3', hsl3⟩
          refine ⟨.int p, rfl, .ref L, rfl, L, _, 0, .ref l, rfl, rfl, SqL.of (s3' _ _ hp.at_), atI_nat (j := 0) rfl, l, _, 1, .ref kl, rfl, rfl, SqL.of (s3' _ _ hp.pl.at_), atI_nat (j := 1) rfl, .int p, rfl, kl, kvs0, p, .ref a1, rfl, rfl, SqL.of (s3' _ _ hkl), i1, a1, _, 1, .int (heldAt PL.kinds p), rfl, rfl, SqT.of (s3' _ _ ha1), atI_nat (j := 1) rfl, heldAt PL.kinds p, rfl, RgOk.of_le (Int.le_refl 0) (by omega) (by omega) hA.1, fun fa ob nfa hob => ?_⟩
          have s4 := same_new (o := .frz ob (.tup (rgV 0 (heldAt PL.kinds p)))) nfa
          refine ⟨by show 2 ≤ sizeLine; decide, fun t1 nt1 => ?_⟩
          have s5 := same_new (o := .tup [.int p, .ref fa]) nt1
          refine ⟨.int pq, rfl, .ref sl, rfl, sl, _, rfl, SqL.of (s5 _ _ (s4 _ _ hsl3)), fun la ob2 nla hob2 => ?_⟩
          have s6 := same_new (o := .frz ob2 (.tup ((secondM ps (heldAt PL.kinds p) (heldAt PL.kinds pq)).map V.int))) nla
          refine ⟨by show 2 ≤ sizeLine; decide, fun t2 nt2 => ?_⟩
          have s7 := same_new (o := .tup [.int pq, .ref la]) nt2
          refine ⟨by show 2 ≤ sizeLine; decide, fun r nr => ?_⟩
          have s8 := same_new (o := .tup [.ref t1, .ref t2]) nr
          refine q r (.ref t1) (.ref t2) _ (((((s3'.trans s4).trans s5).trans s6).trans s7).trans s8) upd_same ⟨t1, fa, rfl, s8 _ _ (s7 _ _ (s6 _ _ upd_same)), ob, ?_, hob⟩ ⟨t2, la, rfl, s8 _ _ upd_same, ob2, s8 _ _ (s7 _ _ upd_same), hob2⟩
          have e1 : some (HO.frz ob (.tup (rgV 0 (heldAt PL.kinds p)))) = some (HO.frz ob (.tup ((heldM PL PL (p, pq, ps)).1.map V.int))) := by
            show _ = some (HO.frz ob (.tup ((firstM (heldAt PL.kinds p)).map V.int)))
            rw [firstM_V]
          rw [← e1]
          exact s8 _ _ (s7 _ _ (s6 _ _ (s5 _ _ upd_same)))
end
theorem idx_pat {α : Type} {ℓ ℓ' : α → Int} {a a' : Int} : ∀ (I : List α), (∀ i ∈ I, (ℓ i = a ↔ ℓ' i = a')) → (a ∈ I.map ℓ ↔ a' ∈ I.map ℓ') ∧ (I.map ℓ).idxOf a = (I.map ℓ').idxOf a'
  | [], _ => ⟨by simp, rfl⟩
  | i :: r, h => by
    obtain ⟨h1, h2⟩ := idx_pat r fun j hj => h j (List.mem_cons_of_mem _ hj)
    have h0 := h i List.mem_cons_self
    rw [List.map_cons, List.map_cons, List.idxOf_cons, List.idxOf_cons, List.mem_cons, List.mem_cons, h1, h2]
    by_cases e : ℓ i = a
    · have e' := h0.mp e
      refine ⟨⟨fun _ => .inl e'.symm, fun _ => .inl e.symm⟩, ?_⟩
      rw [e, e']
      simp
    · have e' : ¬ ℓ' i = a' := fun z => e (h0.mpr z)
      refine ⟨⟨fun z => z.elim (fun y => absurd y.symm e) .inr, fun z => z.elim (fun y => absurd y.symm e') .inr⟩, ?_⟩
      have b1 : (ℓ i == a) = false := beq_eq_false_iff_ne.mpr e
      have b2 : (ℓ' i == a') = false := beq_eq_false_iff_ne.mpr e'
      rw [b1, b2]
theorem fm_congr {α β : Type} {f g : α → Option β} : ∀ {l : List α}, (∀ x ∈ l, f x = g x) → l.filterMap f = l.filterMap g
  | [], _ => rfl
  | x :: r, h => by
    rw [List.filterMap_cons, List.filterMap_cons, h x List.mem_cons_self, fm_congr fun y hy => h y (List.mem_cons_of_mem _ hy)]
theorem eqM_pat {α : Type} {ℓ ℓ' : α → Int} {I J : List α} (h : ∀ i ∈ I, ∀ j ∈ J, (ℓ j = ℓ i ↔ ℓ' j = ℓ' i)) : eqM (I.map ℓ) (J.map ℓ) = eqM (I.map ℓ') (J.map ℓ') := by
  unfold eqM eqF
  rw [List.length_map, List.length_map]
  refine fm_congr fun x _ => ?_
  rw [List.getElem?_map, List.getElem?_map]
  cases e : I[x]? with
  | none => rfl
  | some i =>
    obtain ⟨h1, h2⟩ := idx_pat (a := ℓ i) (a' := ℓ' i) J fun j hj => h i (List.mem_of_getElem? e) j hj
    simp only [Option.map_some, Option.bind_some]
    by_cases hm : ℓ i ∈ J.map ℓ
    · rw [if_pos hm, if_pos (h1.mp hm), h2]
    · rw [if_neg hm, if_neg fun z => hm (h1.mpr z)]
theorem step_pat {α : Type} {wd : Int} {kinds : List (Int × Int)} {R : List PRule} (hR : ∀ r ∈ R, RuleOk wd kinds r) {ℓ ℓ' : α → Int} {I : List α} {c : α} {p w : Int} (hs : StOk kinds (p, I.map ℓ)) (h : ∀ i ∈ I, (ℓ i = ℓ c ↔ ℓ' i = ℓ' c)) :
    ∃ (p' : Int) (I' : List α), (∀ i ∈ I', i ∈ I ∨ i = c) ∧ stepM R (p, I.map ℓ) (w, ℓ c) = (p', I'.map ℓ) ∧ stepM R (p, I.map ℓ') (w, ℓ' c) = (p', I'.map ℓ') := by
  obtain ⟨h1, h2⟩ := idx_pat I h
  have et : testV (I.map ℓ) (ℓ c) = testV (I.map ℓ') (ℓ' c) := by
    unfold testV
    by_cases hm : ℓ c ∈ I.map ℓ
    · rw [if_pos hm, if_pos (h1.mp hm), h2]
    · rw [if_neg hm, if_neg fun z => hm (h1.mpr z)]
  cases e : lookP R [Sum.inl p, Sum.inl w, testV (I.map ℓ) (ℓ c)] with
  | none =>
    refine ⟨p, I, fun i hi => .inl hi, ?_, ?_⟩
    · unfold stepM
      dsimp only
      rw [e]
    · unfold stepM
      dsimp only
      rw [← et, e]
  | some r =>
    have hin := (step_in hR hs (m := (w, ℓ c)) e).1
    dsimp only at hin
    refine ⟨r.1, r.2.map fun k => match k with | .inl n => (I[n.toNat]?).getD c | .inr _ => c, fun i hi => ?_, ?_, ?_⟩
    · obtain ⟨k, hk, rfl⟩ := List.mem_map.mp hi
      cases k with
      | inl n =>
        dsimp only
        cases e2 : I[n.toNat]? with
        | none => exact .inr rfl
        | some j => exact .inl (List.mem_of_getElem? e2)
      | inr _ => exact .inr rfl
    · unfold stepM
      dsimp only
      rw [e]
      dsimp only
      unfold carryK
      rw [List.map_map]
      refine congrArg (Prod.mk r.1) (List.map_congr_left fun k hk => ?_)
      rcases hin k hk with ⟨n, rfl, n0, n1⟩ | rfl
      · rw [List.length_map] at n1
        have hn : n.toNat < I.length := by omega
        show (((I.map ℓ)[n.toNat]?).getD 0 : Int) = ℓ ((I[n.toNat]?).getD c)
        rw [List.getElem?_map, List.getElem?_eq_getElem hn]
        rfl
      · rfl
    · unfold stepM
      dsimp only
      rw [← et, e]
      dsimp only
      unfold carryK
      rw [List.map_map]
      refine congrArg (Prod.mk r.1) (List.map_congr_left fun k hk => ?_)
      rcases hin k hk with ⟨n, rfl, n0, n1⟩ | rfl
      · rw [List.length_map] at n1
        have hn : n.toNat < I.length := by omega
        show (((I.map ℓ')[n.toNat]?).getD 0 : Int) = ℓ' ((I[n.toNat]?).getD c)
        rw [List.getElem?_map, List.getElem?_eq_getElem hn]
        rfl
      · rfl
def nth (l : List Int) (i : Nat) : Int := (l[i]?).getD 0
theorem nth_at {l : List Int} {i : Nat} (h : i < l.length) : nth l i = l[i] := by
  unfold nth
  rw [List.getElem?_eq_getElem h]
  rfl
theorem map_nth (l : List Int) : (List.range l.length).map (nth l) = l := by
  apply List.ext_getElem
  · rw [List.length_map, List.length_range]
  · intro i h1 h2
    rw [List.getElem_map, List.getElem_range, nth_at h2]
theorem nth_mem {l : List Int} {v : Int} : v ∈ l ↔ ∃ i, i < l.length ∧ nth l i = v := by
  constructor
  · intro h
    obtain ⟨i, hi, e⟩ := List.mem_iff_getElem.mp h
    exact ⟨i, hi, by rw [nth_at hi, e]⟩
  · rintro ⟨i, hi, rfl⟩
    rw [nth_at hi]
    exact List.getElem_mem hi
theorem nth_inj {l : List Int} (nd : l.Nodup) {i j : Nat} (hi : i < l.length) (hj : j < l.length) (e : nth l i = nth l j) : i = j := by
  rw [nth_at hi, nth_at hj] at e
  exact (List.getElem_inj nd).mp e
theorem nd_nth {l : List Int} (h : ∀ i j, i < j → j < l.length → nth l i ≠ nth l j) : l.Nodup := by
  rw [List.nodup_iff_pairwise_ne, List.pairwise_iff_getElem]
  intro i j hi hj hij
  have := h i j hij hj
  rwa [nth_at hi, nth_at hj] at this
/-- two pairs of held lists with a value each, alike -/
structure Corr (f g : List Int) (v : Int) (f0 g0 : List Int) (v0 : Int) : Prop where
  lf : f.length = f0.length
  lg : g.length = g0.length
  cf : ∀ i, i < f.length → (nth f i = v ↔ nth f0 i = v0)
  cg : ∀ j, j < g.length → (nth g j = v ↔ nth g0 j = v0)
  cc : ∀ i j, i < f.length → j < g.length → (nth g j = nth f i ↔ nth g0 j = nth f0 i)
def sitOf (PL : Plan) (p q : Int) (f g : List Int) (w v : Int) : Sit := ((stepM PL.rules (p, f) (w, v)).1, (stepM PL.rules (q, g) (w, v)).1, eqM (stepM PL.rules (p, f) (w, v)).2 (stepM PL.rules (q, g) (w, v)).2)
theorem corr_step {PL : Plan} (o : PlanOk PL) {p q : Int} {f g f0 g0 : List Int} {v v0 : Int} (w : Int) (h : Corr f g v f0 g0 v0) (s1 : StOk PL.kinds (p, f)) (s2 : StOk PL.kinds (q, g)) : sitOf PL p q f g w v = sitOf PL p q f0 g0 w v0 := by
  let ℓ : Option (Nat ⊕ Nat) → Int := fun x => match x with | none => v | some (.inl i) => nth f i | some (.inr j) => nth g j
  let ℓ' : Option (Nat ⊕ Nat) → Int := fun x => match x with | none => v0 | some (.inl i) => nth f0 i | some (.inr j) => nth g0 j
  let I : List (Option (Nat ⊕ Nat)) := (List.range f.length).map fun i => some (.inl i)
  let J : List (Option (Nat ⊕ Nat)) := (List.range g.length).map fun i => some (.inr i)
  have e1 : I.map ℓ = f := by
    show ((List.range f.length).map fun i => some (Sum.inl i)).map ℓ = f
    rw [List.map_map]
    exact map_nth f
  have e2 : J.map ℓ = g := by
    show ((List.range g.length).map fun i => some (Sum.inr i)).map ℓ = g
    rw [List.map_map]
    exact map_nth g
  have e3 : I.map ℓ' = f0 := by
    show ((List.range f.length).map fun i => some (Sum.inl i)).map ℓ' = f0
    rw [List.map_map, h.lf]
    exact map_nth f0
  have e4 : J.map ℓ' = g0 := by
    show ((List.range g.length).map fun i => some (Sum.inr i)).map ℓ' = g0
    rw [List.map_map, h.lg]
    exact map_nth g0
  have hI : ∀ x ∈ I, ∃ i, i < f.length ∧ x = some (.inl i) := fun x hx => by
    obtain ⟨i, hi, rfl⟩ := List.mem_map.mp hx
    exact ⟨i, List.mem_range.mp hi, rfl⟩
  have hJ : ∀ x ∈ J, ∃ i, i < g.length ∧ x = some (.inr i) := fun x hx => by
    obtain ⟨i, hi, rfl⟩ := List.mem_map.mp hx
    exact ⟨i, List.mem_range.mp hi, rfl⟩
  have hc1 : ∀ i ∈ I, (ℓ i = ℓ none ↔ ℓ' i = ℓ' none) := fun x hx => by
    obtain ⟨i, hi, rfl⟩ := hI x hx
    exact h.cf i hi
  have hc2 : ∀ i ∈ J, (ℓ i = ℓ none ↔ ℓ' i = ℓ' none) := fun x hx => by
    obtain ⟨i, hi, rfl⟩ := hJ x hx
    exact h.cg i hi
  obtain ⟨p', I', a1, a2, a3⟩ := step_pat (ℓ := ℓ) (ℓ' := ℓ') (c := none) o.r (w := w) (by rw [e1]; exact s1) hc1
  obtain ⟨q', J', b1, b2, b3⟩ := step_pat (ℓ := ℓ) (ℓ' := ℓ') (c := none) o.r (w := w) (by rw [e2]; exact s2) hc2
  rw [e1] at a2
  rw [e3] at a3
  rw [e2] at b2
  rw [e4] at b3
  have ev : ℓ none = v := rfl
  have ev' : ℓ' none = v0 := rfl
  rw [ev] at a2 b2
  rw [ev'] at a3 b3
  unfold sitOf
  rw [a2, a3, b2, b3]
  refine congrArg (fun z => (p', q', z)) (eqM_pat fun i hi j hj => ?_)
  rcases a1 i hi with hi | rfl
  · rcases b1 j hj with hj | rfl
    · obtain ⟨i', hi', rfl⟩ := hI i hi
      obtain ⟨j', hj', rfl⟩ := hJ j hj
      exact h.cc i' j' hi' hj'
    · have := hc1 i hi
      exact ⟨fun z => (this.mp z.symm).symm, fun z => (this.mpr z.symm).symm⟩
  · rcases b1 j hj with hj | rfl
    · exact hc2 j hj
    · exact ⟨fun _ => rfl, fun _ => rfl⟩
theorem prt_snoc (ps : List (Int × Int)) (m : Int × Int) (j : Int) : prt (ps ++ [m]) j = if m.2 = j then some m.1 else prt ps j := by
  unfold prt
  rw [List.foldl_append]
  rfl
theorem prt_mem : ∀ (n : Nat) (ps : List (Int × Int)), ps.length = n → ∀ j : Int, (∀ i, prt ps j = some i → (i, j) ∈ ps) ∧ (prt ps j = none → ∀ i, (i, j) ∉ ps)
  | 0, ps, h, j => by
    obtain rfl := List.eq_nil_of_length_eq_zero h
    exact ⟨(fun i e => by cases e), (fun _ i h => by cases h)⟩
  | n + 1, ps, h, j => by
    have hl : ps ≠ [] := by intro e; subst e; cases h
    obtain ⟨r, m, rfl⟩ : ∃ r x, ps = r ++ [x] := ⟨ps.dropLast, ps.getLast hl, (List.dropLast_concat_getLast hl).symm⟩
    have hr : r.length = n := by rw [List.length_append] at h; simpa using h
    obtain ⟨a, b⟩ := prt_mem n r hr j
    rw [prt_snoc]
    by_cases e : m.2 = j
    · rw [if_pos e]
      refine ⟨fun i z => ?_, (fun z => by cases z)⟩
      refine List.mem_append.mpr (.inr (List.mem_singleton.mpr ?_))
      rw [← Option.some.inj z, ← e]
    · rw [if_neg e]
      refine ⟨fun i z => List.mem_append.mpr (.inl (a i z)), fun z i hm => ?_⟩
      rcases List.mem_append.mp hm with h1 | h1
      · exact b z i h1
      · exact e (by rw [← List.mem_singleton.mp h1])
theorem eqM_mem {f g : List Int} (nd : g.Nodup) {a b : Int} : (a, b) ∈ eqM f g ↔ ∃ i j : Nat, a = (i : Int) ∧ b = (j : Int) ∧ i < f.length ∧ j < g.length ∧ nth g j = nth f i := by
  unfold eqM eqF
  constructor
  · intro h
    obtain ⟨i, hi, e⟩ := List.mem_filterMap.mp h
    have hi := List.mem_range.mp hi
    rw [List.getElem?_eq_getElem hi, Option.bind_some] at e
    by_cases hv : f[i] ∈ g
    · rw [if_pos hv] at e
      have e := Option.some.inj e
      have h1 := List.idxOf_lt_length_iff.mpr hv
      refine ⟨i, g.idxOf f[i], (congrArg Prod.fst e).symm, (congrArg Prod.snd e).symm, hi, h1, ?_⟩
      rw [nth_at h1, nth_at hi]
      exact List.getElem_idxOf h1
    · rw [if_neg hv] at e
      cases e
  · rintro ⟨i, j, rfl, rfl, hi, hj, e⟩
    refine List.mem_filterMap.mpr ⟨i, List.mem_range.mpr hi, ?_⟩
    rw [List.getElem?_eq_getElem hi, Option.bind_some]
    rw [nth_at hi, nth_at hj] at e
    have hv : f[i] ∈ g := e ▸ List.getElem_mem hj
    rw [if_pos hv]
    have h1 := List.idxOf_lt_length_iff.mpr hv
    have h2 : g[g.idxOf f[i]] = f[i] := List.getElem_idxOf h1
    have : g.idxOf f[i] = j := (List.getElem_inj nd).mp (h2.trans e.symm)
    rw [this]
theorem secF_at (ps : List (Int × Int)) (h : Int) : ∀ n j : Nat, j < n → nth (secF ps h n).1 j = (prt ps (j : Int)).getD (secF ps h j).2
  | 0, _, hj => absurd hj (Nat.not_lt_zero _)
  | n + 1, j, hj => by
    have ll := secF_len ps h n
    have e := secF_succ ps h n
    by_cases hjn : j < n
    · rw [← secF_at ps h n j hjn, e]
      cases hp : prt ps (n : Int) with
      | some i =>
        unfold nth
        dsimp only
        rw [List.getElem?_append_left (by omega)]
      | none =>
        unfold nth
        dsimp only
        rw [List.getElem?_append_left (by omega)]
    · have : j = n := by omega
      subst this
      rw [e]
      cases hp : prt ps (j : Int) with
      | some i =>
        unfold nth
        dsimp only
        rw [List.getElem?_append_right (by omega), ll]
        simp
      | none =>
        unfold nth
        dsimp only
        rw [List.getElem?_append_right (by omega), ll]
        simp
theorem secF_cnt (ps : List (Int × Int)) (h : Int) : ∀ j k : Nat, j ≤ k → (secF ps h j).2 ≤ (secF ps h k).2 ∧ (secF ps h k).2 ≤ (secF ps h j).2 + ((k - j : Nat) : Int) ∧ (prt ps (j : Int) = none → j < k → (secF ps h j).2 < (secF ps h k).2)
  | j, 0, hjk => by
    obtain rfl : j = 0 := by omega
    exact ⟨Int.le_refl _, by simp, fun _ z => absurd z (Nat.lt_irrefl _)⟩
  | j, k + 1, hjk => by
    have e := secF_succ ps h k
    by_cases hj : j = k + 1
    · subst hj
      exact ⟨Int.le_refl _, by simp, fun _ z => absurd z (Nat.lt_irrefl _)⟩
    · obtain ⟨a, b, c⟩ := secF_cnt ps h j k (by omega)
      have h2 : (secF ps h (k + 1)).2 = (secF ps h k).2 + (if prt ps (k : Int) = none then 1 else 0) := by
        rw [e]
        cases prt ps (k : Int) <;> simp
      rw [h2]
      by_cases hp : prt ps (k : Int) = none
      · rw [if_pos hp]
        refine ⟨by omega, by omega, fun hn hlt => ?_⟩
        by_cases hjk' : j < k
        · have := c hn hjk'
          omega
        · omega
      · rw [if_neg hp]
        refine ⟨by omega, by omega, fun hn hlt => ?_⟩
        by_cases hjk' : j < k
        · have := c hn hjk'
          omega
        · exfalso
          have : j = k := by omega
          exact hp (this ▸ hn)
/-- the numbers for what f and g share -/
theorem canon {f g : List Int} (nf : f.Nodup) (ng : g.Nodup) {h1 h2 : Int} (e1 : (f.length : Int) = h1) (e2 : (g.length : Int) = h2) :
    (firstM h1).length = f.length ∧ (secondM (eqM f g) h1 h2).length = g.length ∧ (firstM h1).Nodup ∧ (secondM (eqM f g) h1 h2).Nodup ∧
    (∀ i j, i < f.length → j < g.length → (nth g j = nth f i ↔ nth (secondM (eqM f g) h1 h2) j = nth (firstM h1) i)) ∧ ∀ v ∈ firstM h1 ++ secondM (eqM f g) h1 h2, v < h1 + h2 := by
  have t1 : h1.toNat = f.length := by omega
  have t2 : h2.toNat = g.length := by omega
  have l1 : (firstM h1).length = f.length := by rw [firstM_len, t1]
  have l2 : (secondM (eqM f g) h1 h2).length = g.length := by
    unfold secondM
    rw [secF_len, t2]
  have n1 : ∀ i, i < f.length → nth (firstM h1) i = (i : Int) := fun i hi => by
    rw [nth_at (by omega)]
    unfold firstM
    rw [List.getElem_map, List.getElem_range]
  have n2 : ∀ j, j < g.length → nth (secondM (eqM f g) h1 h2) j = (prt (eqM f g) (j : Int)).getD (secF (eqM f g) h1 j).2 := fun j hj => secF_at _ _ _ j (by omega)
  have hs : ∀ (j : Nat) (i : Int), prt (eqM f g) (j : Int) = some i → ∃ k : Nat, i = (k : Int) ∧ k < f.length ∧ j < g.length ∧ nth g j = nth f k := fun j i e => by
    obtain ⟨a, b, x1, x2, x3, x4, x5⟩ := (eqM_mem ng).mp ((prt_mem _ _ rfl _).1 i e)
    have : j = b := by omega
    subst this
    exact ⟨a, x1, x3, x4, x5⟩
  have hn : ∀ j : Nat, prt (eqM f g) (j : Int) = none → ∀ k, k < f.length → j < g.length → nth g j ≠ nth f k := fun j e k hk hj z =>
    (prt_mem _ _ rfl _).2 e (k : Int) ((eqM_mem ng).mpr ⟨k, j, rfl, rfl, hk, hj, z⟩)
  have c0 : (secF (eqM f g) h1 0).2 = h1 := rfl
  refine ⟨l1, l2, nd_nth fun i j hij hj => ?_, nd_nth fun i j hij hj => ?_, fun i j hi hj => ?_, fun v hv => ?_⟩
  · rw [n1 i (by omega), n1 j (by omega)]
    omega
  · rw [n2 i (by omega), n2 j (by omega)]
    have ci := secF_cnt (eqM f g) h1 0 i (Nat.zero_le _)
    have cj := secF_cnt (eqM f g) h1 0 j (Nat.zero_le _)
    have cij := secF_cnt (eqM f g) h1 i j (Nat.le_of_lt hij)
    rw [c0] at ci cj
    cases ei : prt (eqM f g) (i : Int) with
    | some a =>
      obtain ⟨k, rfl, hk, _, ek⟩ := hs i a ei
      cases ej : prt (eqM f g) (j : Int) with
      | some b =>
        obtain ⟨k', rfl, hk', _, ek'⟩ := hs j b ej
        intro z
        have z : (k : Int) = (k' : Int) := z
        have : k = k' := by omega
        subst this
        have := nth_inj ng (i := i) (j := j) (by omega) (by omega) (ek.trans ek'.symm)
        omega
      | none =>
        show (k : Int) ≠ (secF (eqM f g) h1 j).2
        omega
    | none =>
      cases ej : prt (eqM f g) (j : Int) with
      | some b =>
        obtain ⟨k', rfl, hk', _, ek'⟩ := hs j b ej
        show (secF (eqM f g) h1 i).2 ≠ (k' : Int)
        omega
      | none =>
        have := cij.2.2 ei hij
        show (secF (eqM f g) h1 i).2 ≠ (secF (eqM f g) h1 j).2
        omega
  · rw [n1 i hi, n2 j hj]
    have cj := secF_cnt (eqM f g) h1 0 j (Nat.zero_le _)
    rw [c0] at cj
    cases ej : prt (eqM f g) (j : Int) with
    | some b =>
      obtain ⟨k, rfl, hk, _, ek⟩ := hs j b ej
      show _ ↔ (k : Int) = (i : Int)
      constructor
      · intro z
        have := nth_inj nf hk hi (ek.symm.trans z)
        omega
      · intro z
        have : k = i := by omega
        subst this
        exact ek
    | none =>
      refine ⟨fun z => absurd z (hn j ej i hi hj), fun z => ?_⟩
      have z : (secF (eqM f g) h1 j).2 = (i : Int) := z
      omega
  · rcases List.mem_append.mp hv with h | h
    · obtain ⟨i, hi, rfl⟩ := nth_mem.mp h
      rw [n1 i (by omega)]
      omega
    · obtain ⟨j, hj, rfl⟩ := nth_mem.mp h
      rw [n2 j (by omega)]
      have cj := secF_cnt (eqM f g) h1 0 j (Nat.zero_le _)
      rw [c0] at cj
      cases ej : prt (eqM f g) (j : Int) with
      | some b =>
        obtain ⟨k, rfl, hk, _, ek⟩ := hs j b ej
        show (k : Int) < _
        omega
      | none =>
        show (secF (eqM f g) h1 j).2 < _
        omega
theorem eqM_corr {f g f0 g0 : List Int} (lf : f.length = f0.length) (lg : g.length = g0.length) (cc : ∀ i j, i < f.length → j < g.length → (nth g j = nth f i ↔ nth g0 j = nth f0 i)) : eqM f g = eqM f0 g0 := by
  let ℓ : Nat ⊕ Nat → Int := fun x => match x with | .inl i => nth f i | .inr j => nth g j
  let ℓ' : Nat ⊕ Nat → Int := fun x => match x with | .inl i => nth f0 i | .inr j => nth g0 j
  let I : List (Nat ⊕ Nat) := (List.range f.length).map .inl
  let J : List (Nat ⊕ Nat) := (List.range g.length).map .inr
  have e1 : I.map ℓ = f := by
    show ((List.range f.length).map Sum.inl).map ℓ = f
    rw [List.map_map]
    exact map_nth f
  have e2 : J.map ℓ = g := by
    show ((List.range g.length).map Sum.inr).map ℓ = g
    rw [List.map_map]
    exact map_nth g
  have e3 : I.map ℓ' = f0 := by
    show ((List.range f.length).map Sum.inl).map ℓ' = f0
    rw [List.map_map, lf]
    exact map_nth f0
  have e4 : J.map ℓ' = g0 := by
    show ((List.range g.length).map Sum.inr).map ℓ' = g0
    rw [List.map_map, lg]
    exact map_nth g0
  have key := eqM_pat (ℓ := ℓ) (ℓ' := ℓ') (I := I) (J := J) fun i hi j hj => by
    obtain ⟨i', hi', rfl⟩ := List.mem_map.mp hi
    obtain ⟨j', hj', rfl⟩ := List.mem_map.mp hj
    exact cc i' j' (List.mem_range.mp hi') (List.mem_range.mp hj')
  rw [e1, e2, e3, e4] at key
  exact key
/-- alike lists -/
structure Lk (f g f0 g0 : List Int) : Prop where
  lf : f.length = f0.length
  lg : g.length = g0.length
  nf : f.Nodup
  ng : g.Nodup
  nf0 : f0.Nodup
  ng0 : g0.Nodup
  cc : ∀ i j, i < f.length → j < g.length → (nth g j = nth f i ↔ nth g0 j = nth f0 i)
theorem Lk.cF {f g f0 g0 : List Int} (h : Lk f g f0 g0) {i : Nat} (hi : i < f.length) : Corr f g (nth f i) f0 g0 (nth f0 i) := by
  have l1 := h.lf
  have l2 := h.lg
  exact ⟨h.lf, h.lg, fun k hk => ⟨fun e => by rw [nth_inj h.nf hk hi e], fun e => by rw [nth_inj h.nf0 (by omega) (by omega) e]⟩, fun j hj => h.cc i j hi hj, h.cc⟩
theorem Lk.cG {f g f0 g0 : List Int} (h : Lk f g f0 g0) {j : Nat} (hj : j < g.length) : Corr f g (nth g j) f0 g0 (nth g0 j) := by
  have l1 := h.lf
  have l2 := h.lg
  refine ⟨h.lf, h.lg, fun k hk => ?_, fun k hk => ⟨fun e => by rw [nth_inj h.ng hk hj e], fun e => by rw [nth_inj h.ng0 (by omega) (by omega) e]⟩, h.cc⟩
  have := h.cc k j hk hj
  exact ⟨fun z => (this.mp z.symm).symm, fun z => (this.mpr z.symm).symm⟩
theorem Lk.cN {f g f0 g0 : List Int} (h : Lk f g f0 g0) {v v0 : Int} (n1 : v ∉ f) (n2 : v ∉ g) (m1 : v0 ∉ f0) (m2 : v0 ∉ g0) : Corr f g v f0 g0 v0 := by
  have l1 := h.lf
  have l2 := h.lg
  refine ⟨h.lf, h.lg, fun k hk => ⟨fun e => absurd (nth_mem.mpr ⟨k, hk, e⟩) n1, fun e => absurd (nth_mem.mpr ⟨k, by omega, e⟩) m1⟩, fun k hk => ⟨fun e => absurd (nth_mem.mpr ⟨k, hk, e⟩) n2, fun e => absurd (nth_mem.mpr ⟨k, by omega, e⟩) m2⟩, h.cc⟩
theorem lone_mem {f g : List Int} {a : Int} : a ∈ loneM f g ↔ ∃ i : Nat, a = (i : Int) ∧ i < f.length ∧ nth f i ∉ g := by
  unfold loneM loneF
  constructor
  · intro h
    obtain ⟨i, hi, e⟩ := List.mem_filterMap.mp h
    have hi := List.mem_range.mp hi
    rw [List.getElem?_eq_getElem hi, Option.bind_some] at e
    by_cases hv : f[i] ∈ g
    · rw [if_pos hv] at e
      cases e
    · rw [if_neg hv] at e
      exact ⟨i, (Option.some.inj e).symm, hi, by rw [nth_at hi]; exact hv⟩
  · rintro ⟨i, rfl, hi, hv⟩
    rw [nth_at hi] at hv
    refine List.mem_filterMap.mpr ⟨i, List.mem_range.mpr hi, ?_⟩
    rw [List.getElem?_eq_getElem hi, Option.bind_some, if_neg hv]
/-- a case for each value -/
theorem case_of {f g f0 g0 : List Int} (h : Lk f g f0 g0) (v : Int) : ∃ c ∈ casesM f0 g0, Corr f g v f0 g0 (valueM c f0 g0) := by
  have l1 := h.lf
  have l2 := h.lg
  by_cases hf : v ∈ f
  · obtain ⟨i, hi, rfl⟩ := nth_mem.mp hf
    by_cases h0 : nth f0 i ∈ g0
    · obtain ⟨j, hj, ej⟩ := nth_mem.mp h0
      refine ⟨.both (i : Int) (j : Int), ?_, ?_⟩
      · unfold casesM
        exact List.mem_append.mpr (.inl (List.mem_map.mpr ⟨((i : Int), (j : Int)), (eqM_mem h.ng0).mpr ⟨i, j, rfl, rfl, by omega, hj, ej⟩, rfl⟩))
      · have e : valueM (.both (i : Int) (j : Int)) f0 g0 = nth f0 i := rfl
        rw [e]
        exact h.cF hi
    · refine ⟨.first (i : Int), ?_, ?_⟩
      · unfold casesM
        exact List.mem_append.mpr (.inr (List.mem_append.mpr (.inl (List.mem_map.mpr ⟨(i : Int), lone_mem.mpr ⟨i, rfl, by omega, h0⟩, rfl⟩))))
      · have e : valueM (.first (i : Int)) f0 g0 = nth f0 i := rfl
        rw [e]
        exact h.cF hi
  · by_cases hg : v ∈ g
    · obtain ⟨j, hj, rfl⟩ := nth_mem.mp hg
      refine ⟨.second (j : Int), ?_, ?_⟩
      · unfold casesM
        refine List.mem_append.mpr (.inr (List.mem_append.mpr (.inr (List.mem_append.mpr (.inl (List.mem_map.mpr ⟨(j : Int), lone_mem.mpr ⟨j, rfl, by omega, fun z => ?_⟩, rfl⟩))))))
        obtain ⟨i, hi, ei⟩ := nth_mem.mp z
        exact hf (nth_mem.mpr ⟨i, by omega, ((h.cc i j (by omega) hj).mpr ei.symm).symm⟩)
      · have e : valueM (.second (j : Int)) f0 g0 = nth g0 j := rfl
        rw [e]
        exact h.cG hj
    · refine ⟨.new, ?_, ?_⟩
      · unfold casesM
        exact List.mem_append.mpr (.inr (List.mem_append.mpr (.inr (List.mem_append.mpr (.inr List.mem_cons_self)))))
      · have out := leastM_out (f0 ++ g0)
        exact h.cN hf hg (fun z => out (List.mem_append.mpr (.inl z))) (fun z => out (List.mem_append.mpr (.inr z)))
/-- a value for each case -/
theorem value_for {f g f0 g0 : List Int} (h : Lk f g f0 g0) {c : Cs} (hc : c ∈ casesM f0 g0) {fr : Int} (n1 : fr ∉ f) (n2 : fr ∉ g) : ∃ v, (v ∈ f ++ g ∨ v = fr) ∧ Corr f g v f0 g0 (valueM c f0 g0) := by
  have l1 := h.lf
  have l2 := h.lg
  unfold casesM at hc
  rcases List.mem_append.mp hc with hc | hc
  · obtain ⟨⟨a, b⟩, hm, rfl⟩ := List.mem_map.mp hc
    obtain ⟨i, j, rfl, rfl, hi, hj, _⟩ := (eqM_mem h.ng0).mp hm
    have e : valueM (.both (i : Int) (j : Int)) f0 g0 = nth f0 i := rfl
    refine ⟨nth f i, .inl (List.mem_append.mpr (.inl (nth_mem.mpr ⟨i, by omega, rfl⟩))), ?_⟩
    show Corr f g _ f0 g0 (valueM (.both (i : Int) (j : Int)) f0 g0)
    rw [e]
    exact h.cF (by omega)
  · rcases List.mem_append.mp hc with hc | hc
    · obtain ⟨a, hm, rfl⟩ := List.mem_map.mp hc
      obtain ⟨i, rfl, hi, _⟩ := lone_mem.mp hm
      have e : valueM (.first (i : Int)) f0 g0 = nth f0 i := rfl
      refine ⟨nth f i, .inl (List.mem_append.mpr (.inl (nth_mem.mpr ⟨i, by omega, rfl⟩))), ?_⟩
      rw [e]
      exact h.cF (by omega)
    · rcases List.mem_append.mp hc with hc | hc
      · obtain ⟨a, hm, rfl⟩ := List.mem_map.mp hc
        obtain ⟨j, rfl, hj, _⟩ := lone_mem.mp hm
        have e : valueM (.second (j : Int)) f0 g0 = nth g0 j := rfl
        refine ⟨nth g j, .inl (List.mem_append.mpr (.inr (nth_mem.mpr ⟨j, by omega, rfl⟩))), ?_⟩
        rw [e]
        exact h.cG (by omega)
      · rw [List.mem_singleton.mp hc]
        have out := leastM_out (f0 ++ g0)
        exact ⟨fr, .inr rfl, h.cN n1 n2 (fun z => out (List.mem_append.mpr (.inl z))) (fun z => out (List.mem_append.mpr (.inr z)))⟩
/-- what stands behind a situation of the law's -/
structure Good (PL : Plan) (k : Sit) (f g : List Int) (n : Nat) : Prop where
  s1 : StOk PL.kinds (k.1, f)
  s2 : StOk PL.kinds (k.2.1, g)
  nf : f.Nodup
  ng : g.Nodup
  bd : ∀ v ∈ f ++ g, v < 100 + (n : Int)
  e : k.2.2 = eqM f g
theorem Good.lk {PL : Plan} {k : Sit} {f g : List Int} {n : Nat} (h : Good PL k f g n) : Lk f g (heldM PL PL k).1 (heldM PL PL k).2 := by
  obtain ⟨a, b, c, d, e, _⟩ := canon h.nf h.ng h.s1.len h.s2.len
  have e2 : (heldM PL PL k).2 = secondM (eqM f g) (heldAt PL.kinds k.1) (heldAt PL.kinds k.2.1) := by
    unfold heldM
    rw [h.e]
  rw [e2]
  exact ⟨a.symm, b.symm, h.nf, h.ng, c, d, e⟩
theorem Good.sound {PL : Plan} (o : PlanOk PL) {k : Sit} {f g : List Int} {n : Nat} (h : Good PL k f g n) {w : Nat} (hw : w < PL.words.toNat) (v : Int) : ∃ x ∈ stepsM PL PL k, x.2.2 = sitOf PL k.1 k.2.1 f g w v := by
  obtain ⟨c, hc, hv⟩ := case_of h.lk v
  refine ⟨_, List.mem_flatMap.mpr ⟨w, List.mem_range.mpr hw, List.mem_map.mpr ⟨c, hc, rfl⟩⟩, ?_⟩
  exact (corr_step o (w : Int) hv h.s1 h.s2).symm
theorem Good.full {PL : Plan} (o : PlanOk PL) {k : Sit} {f g : List Int} {n : Nat} (h : Good PL k f g n) {x : Int × Cs × Sit} (hx : x ∈ stepsM PL PL k) : ∃ w : Nat, w < PL.words.toNat ∧ ∃ v, (v ∈ f ++ g ∨ v = 100 + (n : Int)) ∧ x.2.2 = sitOf PL k.1 k.2.1 f g w v := by
  obtain ⟨w, hw, hx⟩ := List.mem_flatMap.mp hx
  obtain ⟨c, hc, rfl⟩ := List.mem_map.mp hx
  have hfr : 100 + (n : Int) ∉ f ++ g := fun z => absurd (h.bd _ z) (by omega)
  obtain ⟨v, hv, hcv⟩ := value_for h.lk hc (fun z => hfr (List.mem_append.mpr (.inl z))) (fun z => hfr (List.mem_append.mpr (.inr z)))
  exact ⟨w, List.mem_range.mp hw, v, hv, (corr_step o (w : Int) hcv h.s1 h.s2).symm⟩
theorem step_nd {PL : Plan} (o : PlanOk PL) {p : Int} {f : List Int} (hs : StOk PL.kinds (p, f)) (nd : f.Nodup) (w v : Int) : (stepM PL.rules (p, f) (w, v)).2.Nodup ∧ ∀ x ∈ (stepM PL.rules (p, f) (w, v)).2, x ∈ f ∨ x = v := by
  cases e : lookP PL.rules [Sum.inl p, Sum.inl w, testV f v] with
  | none =>
    unfold stepM
    dsimp only
    rw [e]
    exact ⟨nd, fun x hx => .inl hx⟩
  | some r =>
    have hin := (step_in o.r hs (m := (w, v)) e).1
    obtain ⟨i, j, t, et, i0, i1, j0, j1, tok, g0, g1, sok⟩ := o.r _ (lookP_some e).1
    dsimp only at hin et sok
    have ett : t = testV f v := (List.cons.inj (List.cons.inj (List.cons.inj et).2).2).1.symm
    unfold stepM
    dsimp only
    rw [e]
    dsimp only
    unfold carryK
    have hval : ∀ k ∈ r.2, (∃ n : Nat, k = Sum.inl (n : Int) ∧ n < f.length ∧ srcV f v k = nth f n) ∨ (k = Sum.inr ("value" : Str) ∧ v ∉ f ∧ srcV f v k = v) := fun k hk => by
      rcases hin k hk with ⟨n, rfl, n0, n1⟩ | rfl
      · refine .inl ⟨n.toNat, by rw [Int.toNat_of_nonneg n0], by omega, rfl⟩
      · refine .inr ⟨rfl, fun hv => ?_, rfl⟩
        rcases sok.all _ hk with ⟨n, z, _⟩ | ⟨_, z⟩
        · cases z
        · rw [ett] at z
          unfold testV at z
          rw [if_pos hv] at z
          cases z
    refine ⟨?_, fun x hx => ?_⟩
    · refine List.Pairwise.map _ (fun a b h => h) ?_
      refine List.Pairwise.imp_of_mem (fun {a b} ha hb hab => ?_) sok.nd
      intro z
      rcases hval a ha with ⟨n, rfl, hn, en⟩ | ⟨rfl, nv, ev⟩
      · rcases hval b hb with ⟨m, rfl, hm, em⟩ | ⟨rfl, nv, ev⟩
        · rw [en, em] at z
          exact hab (by rw [nth_inj nd hn hm z])
        · rw [en, ev] at z
          exact nv (nth_mem.mpr ⟨n, hn, z⟩)
      · rcases hval b hb with ⟨m, rfl, hm, em⟩ | ⟨rfl, _, _⟩
        · rw [ev, em] at z
          exact nv (nth_mem.mpr ⟨m, hm, z.symm⟩)
        · exact hab rfl
    · obtain ⟨k, hk, rfl⟩ := List.mem_map.mp hx
      rcases hval k hk with ⟨n, rfl, hn, en⟩ | ⟨rfl, nv, ev⟩
      · exact .inl (by rw [en]; exact nth_mem.mpr ⟨n, hn, rfl⟩)
      · exact .inr ev
theorem Good.next {PL : Plan} (o : PlanOk PL) {k : Sit} {f g : List Int} {n : Nat} (h : Good PL k f g n) (w v : Int) (hv : v ∈ f ++ g ∨ v = 100 + (n : Int)) :
    Good PL (sitOf PL k.1 k.2.1 f g w v) (stepM PL.rules (k.1, f) (w, v)).2 (stepM PL.rules (k.2.1, g) (w, v)).2 (n + 1) := by
  have a := step_nd o h.s1 h.nf w v
  have b := step_nd o h.s2 h.ng w v
  refine ⟨step_ok o.r h.s1 (w, v), step_ok o.r h.s2 (w, v), a.1, b.1, fun x hx => ?_, rfl⟩
  have hv' : v < 100 + ((n + 1 : Nat) : Int) := by
    rcases hv with z | z
    · have := h.bd v z
      omega
    · omega
  have hb : ∀ y ∈ f ++ g, y < 100 + ((n + 1 : Nat) : Int) := fun y hy => by
    have := h.bd y hy
    omega
  rcases List.mem_append.mp hx with z | z
  · rcases a.2 x z with y | rfl
    · exact hb x (List.mem_append.mpr (.inl y))
    · exact hv'
  · rcases b.2 x z with y | rfl
    · exact hb x (List.mem_append.mpr (.inr y))
    · exact hv'
theorem good_start {PL : Plan} (o : PlanOk PL) {p i : Int} (p0 : 0 ≤ p) (p1 : p < PL.kinds.length) : Good PL (otherS PL.kinds p i) (heldM PL PL (otherS PL.kinds p i)).1 (heldM PL PL (otherS PL.kinds p i)).2 0 := by
  have b := held_bd o.k p0 p1
  obtain ⟨hin, _⟩ := otherS_in (i := i) o p0 p1
  obtain ⟨s1, s2⟩ := heldM_ok o o hin
  let n := (heldAt PL.kinds p).toNat
  have hn : (n : Int) = heldAt PL.kinds p := by
    show (((heldAt PL.kinds p).toNat : Nat) : Int) = _
    omega
  let F := firstM (heldAt PL.kinds p)
  let G : List Int := (List.range n).map fun j : Nat => if (j : Int) = i then 100 else (j : Int)
  have lF : F.length = n := firstM_len _
  have lG : G.length = n := by
    show ((List.range n).map _).length = n
    rw [List.length_map, List.length_range]
  have nF : ∀ j, j < n → nth F j = (j : Int) := fun j hj => by
    have e : F = (List.range n).map fun i : Nat => (i : Int) := rfl
    unfold nth
    rw [e, List.getElem?_map, List.getElem?_range hj]
    rfl
  have nG : ∀ j, j < n → nth G j = if (j : Int) = i then 100 else (j : Int) := fun j hj => by
    have e : G = (List.range n).map fun j : Nat => if (j : Int) = i then (100 : Int) else (j : Int) := rfl
    unfold nth
    rw [e, List.getElem?_map, List.getElem?_range hj]
    rfl
  have dF : F.Nodup := nd_nth fun j k hjk hk => by
    rw [nF j (by omega), nF k (by omega)]
    omega
  have dG : G.Nodup := nd_nth fun j k hjk hk => by
    rw [nG j (by omega), nG k (by omega)]
    split <;> split <;> omega
  have e : othF n i = eqM F G := by
    unfold othF eqM eqF
    rw [lF]
    refine fm_congr fun x hx => ?_
    have hx := List.mem_range.mp hx
    have hxF : x < F.length := by omega
    have hxG : x < G.length := by omega
    have ex := nF x hx
    rw [nth_at hxF] at ex
    rw [List.getElem?_eq_getElem hxF, Option.bind_some, ex]
    by_cases h : (x : Int) = i
    · rw [if_pos h, if_neg]
      intro hm
      obtain ⟨j, hj, ej⟩ := nth_mem.mp hm
      rw [nG j (by omega)] at ej
      split at ej
      · omega
      · omega
    · have e2 := nG x hx
      rw [if_neg h, nth_at hxG] at e2
      have hm : (x : Int) ∈ G := e2 ▸ List.getElem_mem hxG
      rw [if_neg h, if_pos hm]
      have h1 := List.idxOf_lt_length_iff.mpr hm
      have h2 : G[G.idxOf (x : Int)] = (x : Int) := List.getElem_idxOf h1
      have : G.idxOf (x : Int) = x := (List.getElem_inj dG).mp (h2.trans e2.symm)
      rw [this]
  obtain ⟨a1, a2, a3, a4, a5, a6⟩ := canon dF dG (h1 := heldAt PL.kinds p) (h2 := heldAt PL.kinds p) (by rw [lF]; exact hn) (by rw [lG]; exact hn)
  have eh : heldM PL PL (otherS PL.kinds p i) = (F, secondM (eqM F G) (heldAt PL.kinds p) (heldAt PL.kinds p)) := by
    rw [← e]
    rfl
  rw [eh] at s1 s2 ⊢
  refine ⟨s1, s2, dF, a4, fun v hv => ?_, ?_⟩
  · have := a6 v hv
    omega
  · have e3 : (otherS PL.kinds p i).2.2 = othF n i := rfl
    rw [e3, e]
    exact eqM_corr rfl a2.symm a5
def KeepT (H H' : Hp) : Prop := ∀ c o, H c = some o → ((∃ xs, o = .tup xs) ∨ ∃ ob u, o = .frz ob u) → H' c = some o
theorem KeepT.same {H H' : Hp} (s : Same H H') : KeepT H H' := fun c o e _ => s c o e
theorem KeepT.trans {H H1 H2 : Hp} (a : KeepT H H1) (b : KeepT H1 H2) : KeepT H H2 := fun c o e t => b c o (a c o e t) t
theorem KeepT.tups {H H' : Hp} (k : KeepT H H') : Tups H H' := fun c xs e => k c _ e (.inl ⟨xs, rfl⟩)
theorem KeepT.st {H H' : Hp} (k : KeepT H H') {v : V} {s : Int × List Int} (h : StAt H v s) : StAt H' v s := by
  obtain ⟨r, a, rfl, h1, ob, h2, h3⟩ := h
  exact ⟨r, a, rfl, k _ _ h1 (.inl ⟨_, rfl⟩), ob, k _ _ h2 (.inr ⟨_, _, rfl⟩), h3⟩
theorem KeepT.lst {H : Hp} {a : Addr} {xs ys : List V} (h : H a = some (.lst xs)) : KeepT H (upd H a (.lst ys)) := fun c o e t => by
  rw [upd_ne (fun z => by
    rw [z, h] at e
    cases e
    rcases t with ⟨_, t⟩ | ⟨_, _, t⟩ <;> cases t)]
  exact e
theorem KeepT.ext {H H' : Hp} {a : Addr} {φ : Heap → Prop} (h : H a = some (.ext φ)) (k : ∀ c, c ≠ a → H' c = H c) : KeepT H H' := fun c o e t => by
  rw [k c (fun z => by
    rw [z, h] at e
    cases e
    rcases t with ⟨_, t⟩ | ⟨_, _, t⟩ <;> cases t)]
  exact e
/-- a stream that leads there -/
def Led (PL : Plan) (s0 k : Sit) (f g : List Int) (H : Hp) (xs : List V) : Prop := ∃ ms : List (Int × Int), TDs H xs (ms.map pairD) ∧ (k.1, f) = runM PL.rules (s0.1, (heldM PL PL s0).1) ms ∧ (k.2.1, g) = runM PL.rules (s0.2.1, (heldM PL PL s0).2) ms
theorem Led.mono {PL : Plan} {s0 k : Sit} {f g : List Int} {H H' : Hp} {xs : List V} (h : Led PL s0 k f g H xs) (t : Tups H H') : Led PL s0 k f g H' xs := by
  obtain ⟨ms, a, b, c⟩ := h
  exact ⟨ms, a.mono t, b, c⟩
theorem runM_one (R : List PRule) (s : Int × List Int) (ms : List (Int × Int)) (m : Int × Int) : runM R s (ms ++ [m]) = stepM R (runM R s ms) m := by
  unfold runM
  rw [List.foldl_append]
  rfl
theorem Led.next {PL : Plan} {s0 k : Sit} {f g : List Int} {H H' : Hp} {xs : List V} (h : Led PL s0 k f g H xs) (t : Tups H H') {w x : Int} {mm : Addr} (hm : H' mm = some (.tup [.int w, .int x])) :
    Led PL s0 (sitOf PL k.1 k.2.1 f g w x) (stepM PL.rules (k.1, f) (w, x)).2 (stepM PL.rules (k.2.1, g) (w, x)).2 H' (xs ++ [.ref mm]) := by
  obtain ⟨ms, a, b, c⟩ := h
  refine ⟨ms ++ [(w, x)], ?_, ?_, ?_⟩
  · rw [List.map_append]
    exact tds_snoc (a.mono t) (.tup hm (.cons (.int _) (.cons (.int _) .nil)))
  · rw [runM_one, ← b]
    rfl
  · rw [runM_one, ← c]
    rfl
/-- behind a situation: the stream there, and where it leads -/
def LEnt (PL : Plan) (s0 : Sit) (N : Nat) (H : Hp) (v : V) (k : Sit) : Prop := ∃ (r sr : Addr) (xs : List V) (v1 v2 : V) (f g : List Int), v = .ref r ∧ H r = some (.tup [.ref sr, v1, v2]) ∧ H sr = some (.tup xs) ∧ StAt H v1 (k.1, f) ∧ StAt H v2 (k.2.1, g) ∧ Good PL k f g xs.length ∧ xs.length ≤ N ∧ Led PL s0 k f g H xs
theorem LEnt.keep {PL : Plan} {s0 : Sit} {N N' : Nat} {H H' : Hp} {v : V} {k : Sit} (h : LEnt PL s0 N H v k) (t : KeepT H H') (n : N ≤ N') : LEnt PL s0 N' H' v k := by
  obtain ⟨r, sr, xs, v1, v2, f, g, e, h1, h2, h3, h4, h5, h6, h7⟩ := h
  exact ⟨r, sr, xs, v1, v2, f, g, e, t _ _ h1 (.inl ⟨_, rfl⟩), t _ _ h2 (.inl ⟨_, rfl⟩), t.st h3, t.st h4, h5, Nat.le_trans h6 n, h7.mono t.tups⟩
abbrev EnR (PL : Plan) (s0 : Sit) (N : Nat) (H : Hp) : List (NestedKey × V) → List Sit → Prop := Paired fun p k => p.1 = sitK k ∧ LEnt PL s0 N H p.2 k
theorem EnR.keep {PL : Plan} {s0 : Sit} {N N' : Nat} {H H' : Hp} {kvs : List (NestedKey × V)} {ks : List Sit} (h : EnR PL s0 N H kvs ks) (t : KeepT H H') (n : N ≤ N') : EnR PL s0 N' H' kvs ks := Paired.mapP h fun _ _ z => ⟨z.1, z.2.keep t n⟩
theorem EnR.keys {PL : Plan} {s0 : Sit} {N : Nat} {H : Hp} {kvs : List (NestedKey × V)} {ks : List Sit} (h : EnR PL s0 N H kvs ks) : kvs.map (·.1) = ks.map sitK := by
  induction h with
  | nil => rfl
  | cons a _ ih => rw [List.map_cons, List.map_cons, a.1, ih]
theorem EnR.val {PL : Plan} {s0 : Sit} {N : Nat} {H : Hp} {kvs : List (NestedKey × V)} {ks : List Sit} (h : EnR PL s0 N H kvs ks) {k : Sit} (hk : k ∈ ks) : ∃ v, valV kvs (sitK k) = some v ∧ LEnt PL s0 N H v k := by
  induction h with
  | nil => cases hk
  | @cons p q ps qs a t ih =>
    by_cases e : q = k
    · subst e
      exact ⟨p.2, valV_pos a.1, a.2⟩
    · have ne : ¬ p.1 = sitK k := fun z => e (sitK_inj (a.1.symm.trans z))
      rw [valV_neg ne]
      refine ih ?_
      rcases List.mem_cons.mp hk with z | z
      · exact absurd z.symm e
      · exact z
structure MetW (P : Program) (w : World) (PL : Plan) (s : Sit) (H0 : Hp) (D wl : Addr) (H : Hp) (ks ws : List Sit) : Prop where
  sm : Same H0 H
  kv : ∃ kvs, NDict P w H D kvs ∧ EnR PL s ks.length H kvs ks
  wt : ∃ vs, H wl = some (.lst vs) ∧ TDs H vs (ws.map sitD)
  nd : ks.Nodup
  rk : ∀ k ∈ ks, Rch PL PL [s] k
  al : ∀ k ∈ ks, unl PL PL k = false
  sub : ∀ k ∈ ws, k ∈ ks
  base : s ∈ ks
/-- new things lie besides -/
theorem MetW.mono {P : Program} {w : World} {PL : Plan} {s : Sit} {H0 H H' : Hp} {D wl : Addr} {ks ws : List Sit} (h : MetW P w PL s H0 D wl H ks ws) (e : Same H H') : MetW P w PL s H0 D wl H' ks ws := by
  obtain ⟨kvs, b, c⟩ := h.kv
  obtain ⟨vs, d, f⟩ := h.wt
  exact ⟨h.sm.trans e, ⟨kvs, b.mono e, c.keep (KeepT.same e) (Nat.le_refl _)⟩, ⟨vs, e _ _ d, f.mono (Tups.same e)⟩, h.nd, h.rk, h.al, h.sub, h.base⟩
def sp_law_met (P : Program) (w : World) : Sp := fun us H Q _ => ∃ (L l kl rl : Addr) (v : V) (PL : Plan) (s : Sit), us = [.ref L, v, .bl true] ∧ PsAt H L l kl rl PL ∧ TD H v (sitD s) ∧ SitIn PL PL s ∧ (∀ k, Rch PL PL [s] k → k ∈ allS) ∧
  Good PL s (heldM PL PL s).1 (heldM PL PL s).2 0 ∧ unl PL PL s = false ∧
  ∀ (D : Addr) (kvs : List (NestedKey × V)) (ks : List Sit) (t : Sit) H', Same H H' → NDict P w H' D kvs → EnR PL s (ks.length + 1) H' kvs (ks ++ [t]) → Rch PL PL [s] t → (unl PL PL t = true ∨ ∀ k, Rch PL PL [s] k → unl PL PL k = false) → Q (.ref D) H'
def MetV (P : Program) (w : World) (PL : Plan) (s : Sit) (H0 : Hp) (L D wl : Addr) (v : V) : Nat → L2.St → Hp → Prop := fun m σ H => ∃ (ks ws : List Sit) (y3 y4 y7 y8 y9 y10 y11 y12 y13 y14 : Option V), σ = [some (.ref L), some v, some (.bl true), y3, y4, some (.ref D), some (.ref wl), y7, y8, y9, y10, y11, y12, y13, y14] ∧
  MetW P w PL s H0 D wl H ks ws ∧ m = (allS.length - ks.length) * 2 + ws.length ∧ ws.length ≤ ks.length ∧ ∀ k ∈ ks, k ∈ ws ∨ ∀ x ∈ stepsM PL PL k, x.2.2 ∈ ks
theorem tds_cons {H : Hp} {vs : List V} {d : PyData} {ds : List PyData} (h : TDs H vs (d :: ds)) : ∃ v r, vs = v :: r ∧ TD H v d ∧ TDs H r ds := by
  cases h with
  | cons a b => exact ⟨_, _, rfl, a, b⟩
/-- amid a situation's steps -/
structure MetL (P : Program) (w : World) (PL : Plan) (s : Sit) (H0 : Hp) (D wl : Addr) (h0 : Sit) (va : Addr) (vals : List Int) (H8 : Hp) (ks wr : List Sit) (H : Hp) (ks' ws' : List Sit) : Prop where
  M : MetW P w PL s H0 D wl H ks' ws'
  kp : KeepT H8 H
  va : H va = some (.lst (vals.map V.int))
  cnt : ws'.length + ks.length = ks'.length + wr.length
  mo : ∀ k ∈ ks, k ∈ ks'
  cl : ∀ k ∈ ks', k = h0 ∨ k ∈ ws' ∨ ∀ x ∈ stepsM PL PL k, x.2.2 ∈ ks'
theorem MetL.mono {P : Program} {w : World} {PL : Plan} {s : Sit} {H0 : Hp} {D wl : Addr} {h0 : Sit} {va : Addr} {vals : List Int} {H8 : Hp} {ks wr : List Sit} {H H' : Hp} {ks' ws' : List Sit} (h : MetL P w PL s H0 D wl h0 va vals H8 ks wr H ks' ws') (e : Same H H') : MetL P w PL s H0 D wl h0 va vals H8 ks wr H' ks' ws' := ⟨h.M.mono e, h.kp.trans (KeepT.same e), e _ _ h.va, h.cnt, h.mo, h.cl⟩
theorem nd_snoc {ks : List Sit} {k : Sit} (h : ks.Nodup) (n : k ∉ ks) : (ks ++ [k]).Nodup := List.nodup_append.mpr ⟨h, List.nodup_cons.mpr ⟨(fun z => by cases z), List.nodup_nil⟩, fun x hx z hz => by rw [List.mem_singleton.mp hz]; exact fun e => n (e ▸ hx)⟩
section
variable {P : Program} {w : World} {K : PySem.W.Frag} {mg : Str → Option Value} {base : Heap}
abbrev N_law_met : List Str := ["plans", "situation", "ends", "one", "other", "found", "waiting", "stream", "values", "word", "value", "message", "ones", "others", "spot"]
theorem sc_law_met : FnScope N_law_met ["plans", "situation", "ends"] (defScope s_law_met) := ⟨rfl, rfl, rfl, by decide +kernel, rfl, by decide +kernel, by decide +kernel⟩
theorem G_law_met (T : Tx K mg) : FnG P w K mg base CX0 2 T.law_met.f T.law_met.fd ["plans", "situation", "ends"] (sp_law_met P w) := by
  refine okG T.law_met.F sc_law_met (fun vs H Q E h => ?_) (fun cdv A outer s H vs Q E gd hr h => ?_)
  · obtain ⟨L, l, kl, rl, v, PL, s, rfl, _⟩ := h
    rfl
  · obtain ⟨L, l, kl, rl, v, PL, st, rfl, hp, hv, hin, hS, hG, hu, q⟩ := h
    refine ⟨_, 
      (C8.pss_cut (ps_asg (pe_callG (G_law_started T) gd (hr.mono (by decide)) rfl T.law_started.g T.law_started.F.kp T.law_started.b .nil pass0 (pa_cons (pv 0) (pa_cons (pv 1) pa_nil))) (pg_tup rfl (pgs_cons (pg_name (i := 3) sc_law_met.nd rfl (.inl rfl)) (pgs_cons (pg_name (i := 4) sc_law_met.nd rfl (.inl rfl)) pgs_nil)))) -- one, other = _law_started(plans, situation)
      (pss_cons (ps_par (i := 5) (j := 6) rfl sc_law_met.nd rfl rfl (by decide) rfl rfl (pa_cons (pe_dispN hr.units (pv 1) (pe_tup (pa_cons (pe_tup pa_nil) (pa_cons (pv 3) (pa_cons (pv 4) pa_nil))))) (pa_cons (pe_lst (pa_cons (pv 1) pa_nil)) pa_nil)) rfl) -- found, waiting = ({situation: ((), one, other)}, [situation])
      (pss_cons (ps_if (PW.pt (pw_and (pt_val (pv 2)) (pw_and1 (pt_cmpR op_ne (pe_ix ix_tup (pe_ix ix_list (pe_ix ix_list (pe_ix ix_list (pv 0) pe_int (fun _ _ => rfl)) pe_int (fun _ _ => rfl)) (pe_ix ix_tup (pv 3) pe_int (fun _ _ => rfl)) (fun _ _ => rfl)) pe_int (fun _ _ => rfl)) (pe_ix ix_tup (pe_ix ix_list (pe_ix ix_list (pe_ix ix_list (pv 0) pe_int (fun _ _ => rfl)) pe_int (fun _ _ => rfl)) (pe_ix ix_tup (pv 4) pe_int (fun _ _ => rfl)) (fun _ _ => rfl)) pe_int (fun _ _ => rfl)) (nomark _))))) 
        (pss_one (ps_ret (pv 5))) -- return found
         pss_nil) -- if ends and plans[0][1][one[0]][0] != plans[1][1][other[0]][0]:
      (pss_cons (ps_while PassesOwn.never (pt_cmpR (op_neL0 hr.units) (pv 6) (pe_lst pa_nil) (nomark _)) 
        (C8.pss_cut (ps_asg (pe_getN hr.units (pv 5) (pe_bm PySem.F.plainAttrs_list PySem.F.slot_list_pop PySem.F.type_list_pop mt_popAt (pv 6) (pa_cons pe_int pa_nil))) (pg_tup rfl (pgs_cons (pg_name (i := 7) sc_law_met.nd rfl (.inl rfl)) (pgs_cons (pg_name (i := 3) sc_law_met.nd rfl (.inl rfl)) (pgs_cons (pg_name (i := 4) sc_law_met.nd rfl (.inl rfl)) pgs_nil))))) -- stream, one, other = found[waiting.pop(0)]
        (C8.pss_cut (ps_set (i := 8) sc_law_met.nd rfl (.inl rfl) (pe_op op_cat (pe_callB (cr_sortedSet rfl) (by rfl) T.m_sorted PyProof.Rows.boot_sorted (pa_cons (pe_callTy (call_setIT rfl) (by rfl) T.m_set (by decide +kernel) (pa_cons (pe_op op_catA (pe_ix ix_tup (pv 3) pe_int (fun _ _ => rfl)) (pe_ix ix_tup (pv 4) pe_int (fun _ _ => rfl))) pa_nil)) pa_nil)) (pe_lst (pa_cons (pe_op op_add pe_int (pe_callB call_len_seq (by rfl) T.m_len PySem.boot_len (pa_cons (pv 7) pa_nil))) pa_nil)))) -- values = sorted(set(one[1] + other[1])) + [100 + len(stream)]
        (pss_one (ps_for PassesOwn.never rfl (pi_range1 rfl T.m_range (pa_cons (pe_ix ix_list (pe_ix ix_list (pv 0) pe_int (fun _ _ => rfl)) pe_int (fun _ _ => rfl)) pa_nil)) (pg_name (i := 9) sc_law_met.nd rfl (.inl rfl)) 
          (pss_one (ps_for PassesOwn.never rfl (pi_list (pv 8)) (pg_name (i := 10) sc_law_met.nd rfl (.inl rfl)) 
            (pss_cons (ps_set (i := 11) sc_law_met.nd rfl (.inl rfl) (pe_tup (pa_cons (pv 9) (pa_cons (pv 10) pa_nil)))) -- message = (word, value)
            (pss_cons (ps_par (i := 12) (j := 13) rfl sc_law_met.nd rfl rfl (by decide) rfl rfl (pa_cons (pe_callG (G_law_moved T) gd (hr.mono (by decide)) rfl T.law_moved.g T.law_moved.F.kp T.law_moved.b .nil pass0 (pa_cons (pe_ix ix_list (pv 0) pe_int (fun _ _ => rfl)) (pa_cons (pv 3) (pa_cons (pv 11) pa_nil)))) (pa_cons (pe_callG (G_law_moved T) gd (hr.mono (by decide)) rfl T.law_moved.g T.law_moved.F.kp T.law_moved.b .nil pass0 (pa_cons (pe_ix ix_list (pv 0) pe_int (fun _ _ => rfl)) (pa_cons (pv 4) (pa_cons (pv 11) pa_nil)))) pa_nil)) rfl) -- ones, others = (_law_moved(plans[0], one, message), _law_moved(plans[1], other, message))
            (pss_cons (ps_set (i := 14) sc_law_met.nd rfl (.inl rfl) (pe_callG (G_law_situation T) gd (hr.mono (by decide)) rfl T.law_situation.g T.law_situation.F.kp T.law_situation.b .nil pass0 (pa_cons (pv 12) (pa_cons (pv 13) pa_nil)))) -- spot = _law_situation(ones, others)
            (pss_one (ps_if (pt_cmpR (op_notInN hr.units) (pv 14) (pv 5) rfl) 
              (pss_cons (ps_putN hr.units (pv 5) (pv 14) (pe_tup (pa_cons (pe_op op_catA (pv 7) (pe_tup (pa_cons (pv 11) pa_nil))) (pa_cons (pv 12) (pa_cons (pv 13) pa_nil)))) rfl) -- found[spot] = (stream + (message,), ones, others)
              (pss_cons (ps_expr (pe_bm PySem.F.plainAttrs_list PySem.F.slot_list_append PySem.F.type_list_append mt_append (pv 6) (pa_cons (pv 14) pa_nil))) -- waiting.append(spot)
              (pss_one (ps_if (PW.pt (pw_and (pt_val (pv 2)) (pw_and1 (pt_cmpR op_ne (pe_ix ix_tup (pe_ix ix_list (pe_ix ix_list (pe_ix ix_list (pv 0) pe_int (fun _ _ => rfl)) pe_int (fun _ _ => rfl)) (pe_ix ix_tup (pv 12) pe_int (fun _ _ => rfl)) (fun _ _ => rfl)) pe_int (fun _ _ => rfl)) (pe_ix ix_tup (pe_ix ix_list (pe_ix ix_list (pe_ix ix_list (pv 0) pe_int (fun _ _ => rfl)) pe_int (fun _ _ => rfl)) (pe_ix ix_tup (pv 13) pe_int (fun _ _ => rfl)) (fun _ _ => rfl)) pe_int (fun _ _ => rfl)) (nomark _))))) 
                (pss_one (ps_ret (pv 5))) -- return found
                 pss_nil)) -- if ends and plans[0][1][ones[0]][0] != plans[1][1][others[0]][0]:
              )) pss_nil)) -- if spot not in found:
            ))))) -- for value in values:
          )) -- for word in range(plans[0][0]):
        ))) -- while waiting != []:
      (pss_one (ps_ret (pv 5))) -- return found
      )))) , ?_⟩
    have L5 : 4000000 ≤ sizeLine := by decide
    obtain ⟨kin, hkl, hkt⟩ := hp.pl.kin
    refine ⟨fun σ H' => ∃ v1 v2, σ = [some (.ref L), some v, some (.bl true), some v1, some v2, none, none, none, none, none, none, none, none, none, none] ∧ Same H H' ∧ StAt H' v1 (st.1, (heldM PL PL st).1) ∧ StAt H' v2 (st.2.1, (heldM PL PL st).2), ?_, ?_⟩
    · clear q
      exact ⟨.ref L, rfl, v, rfl, L, l, kl, rl, v, PL, st, rfl, hp, hv, hin, fun r v1 v2 H' s1 hr h1 h2 => ⟨r, _, rfl, SqT.of hr, rfl, v1, [v2], rfl, v2, [], rfl, rfl, v1, v2, rfl, s1, h1, h2⟩⟩
    rintro σ H1 ⟨v1, v2, rfl, s1, h1, h2⟩
    refine fun D nD => ⟨v, rfl, by show 0 ≤ sizeLine; decide, fun e0 ne0 => ⟨v1, rfl, v2, rfl, by show 3 ≤ sizeLine; decide, fun r nr => ?_⟩⟩
    have sD := same_new (o := NO P w D []) nD
    have se := same_new (o := .tup []) ne0
    have sr := same_new (o := .tup [.ref e0, v1, v2]) nr
    have hv1 := TD.mono (Tups.same s1) _ hv
    refine ⟨sitK st, sit_key (TD.mono (Tups.same ((sD.trans se).trans sr)) _ hv1), sr _ _ (se _ _ upd_same), fun H3 k3 n3 => ?_⟩
    have nDH : H D = none := by
      cases e : H D with
      | none => rfl
      | some o => rw [s1 _ _ e] at nD; cases nD
    have hDr : (upd (upd (upd H1 D (NO P w D [])) e0 (.tup [])) r (.tup [.ref e0, v1, v2])) D = some (NO P w D []) := sr _ _ (se _ _ upd_same)
    have kt3 : KeepT (upd (upd (upd H1 D (NO P w D [])) e0 (.tup [])) r (.tup [.ref e0, v1, v2])) H3 := KeepT.ext hDr k3
    have s3 : Same H H3 := fun c o e => by
      rw [k3 c (fun z => by rw [z, nDH] at e; cases e)]
      exact sr _ _ (se _ _ (sD _ _ (s1 _ _ e)))
    have en : LEnt PL st 1 H3 (.ref r) st := by
      refine ⟨r, e0, [], v1, v2, _, _, rfl, kt3 _ _ upd_same (.inl ⟨_, rfl⟩), kt3 _ _ (sr _ _ upd_same) (.inl ⟨_, rfl⟩), kt3.st ?_, kt3.st ?_, hG, Nat.zero_le _, ⟨[], .nil, rfl, rfl⟩⟩
      · exact (KeepT.same ((sD.trans se).trans sr)).st h1
      · exact (KeepT.same ((sD.trans se).trans sr)).st h2
    have hv3 := TD.mono (Tups.same s3) _ hv
    refine ⟨v, rfl, by show 1 ≤ sizeLine; decide, fun wl nwl => ?_⟩
    have nwD : wl ≠ D := fun e => by
      obtain ⟨φ, eD⟩ := n3.some
      rw [e, eD] at nwl
      cases nwl
    have nwH : H wl = none := by
      cases e : H wl with
      | none => rfl
      | some o => rw [s3 _ _ e] at nwl; cases nwl
    have s4 := same_new (o := .lst [v]) nwl
    have h14 := (KeepT.same ((sD.trans se).trans sr)).trans (kt3.trans (KeepT.same s4))
    have m0 : MetW P w PL st H D wl (upd H3 wl (.lst [v])) [st] [st] := by
      refine ⟨s3.trans s4, ⟨_, n3.mono s4, .cons ⟨rfl, en.keep (KeepT.same s4) (Nat.le_refl _)⟩ .nil⟩, ⟨[v], upd_same, .cons (TD.mono (Tups.same s4) _ hv3) .nil⟩, by simp, fun k hk => ?_, fun k hk => ?_, fun k hk => hk, List.mem_cons_self⟩
      · rw [List.mem_singleton.mp hk]
        exact .base List.mem_cons_self
      · rw [List.mem_singleton.mp hk]
        exact hu
    have h1w := h14.st h1
    have h2w := h14.st h2
    have sw := s3.trans s4
    generalize upd H3 wl (.lst [v]) = H4 at m0 h1w h2w sw
    obtain ⟨r1, a1, rfl, hr1, hf1⟩ := h1w
    obtain ⟨r2, a2, rfl, hr2, hf2⟩ := h2w
    obtain ⟨b1, va1, i1, hb1, ev1⟩ := kinds_at hkt hin.p0 hin.p1
    obtain ⟨b2, va2, i2, hb2, ev2⟩ := kinds_at hkt hin.q0 hin.q1
    have w1 : verAt PL.kinds st.1 = va1 := by
      unfold verAt
      rw [ev1]
      rfl
    have w2 : verAt PL.kinds st.2.1 = va2 := by
      unfold verAt
      rw [ev2]
      rfl
    have hvv : va1 = va2 := by
      unfold unl at hu
      rw [w1, w2] at hu
      simpa using hu
    refine ⟨_, _, rfl, ?_⟩
    refine ⟨.bl true, rfl, true, rfl, iteT ?_⟩
    refine ⟨.ref L, rfl, L, _, 0, .ref l, rfl, rfl, SqL.of (sw _ _ hp.at_), atI_nat (j := 0) rfl, l, _, 1, .ref kl, rfl, rfl, SqL.of (sw _ _ hp.pl.at_), atI_nat (j := 1) rfl, .ref r1, rfl, r1, _, 0, .int st.1, rfl, rfl, SqT.of hr1, atI_nat (j := 0) rfl, kl, kin, st.1, .ref b1, rfl, rfl, SqL.of (sw _ _ hkl), i1, b1, _, 0, .int va1, rfl, rfl, SqT.of (sw _ _ hb1), atI_nat (j := 0) rfl, ?_⟩
    refine ⟨.ref L, rfl, L, _, 1, .ref l, rfl, rfl, SqL.of (sw _ _ hp.at_), atI_nat (j := 1) rfl, l, _, 1, .ref kl, rfl, rfl, SqL.of (sw _ _ hp.pl.at_), atI_nat (j := 1) rfl, .ref r2, rfl, r2, _, 0, .int st.2.1, rfl, rfl, SqT.of hr2, atI_nat (j := 0) rfl, kl, kin, st.2.1, .ref b2, rfl, rfl, SqL.of (sw _ _ hkl), i2, b2, _, 0, .int va2, rfl, rfl, SqT.of (sw _ _ hb2), atI_nat (j := 0) rfl, rfl, false, by rw [hvv]; simp, iteF ?_⟩
    refine ⟨MetV P w PL st H L D wl v, ⟨(allS.length - 1) * 2 + 1, [st], [st], _, _, none, none, none, none, none, none, none, none, rfl, m0, rfl, Nat.le_refl _, fun k hk => .inl hk⟩, fun m σ H5 hV => ?_⟩
    obtain ⟨ks, ws, y3, y4, y7, y8, y9, y10, y11, y12, y13, y14, rfl, hM, hm, hwk, hcl⟩ := hV
    obtain ⟨wv, hwl, hwt⟩ := hM.wt
    have lwv : wv.length = ws.length := by
      have := hwt.len
      rwa [List.length_map] at this
    have lks : ks.length ≤ allS.length := nodup_le hM.nd fun k hk => hS k (hM.rk k hk)
    refine ⟨.ref wl, rfl, by show 0 ≤ sizeLine; decide, fun tb ntb => ?_⟩
    have stb := same_new (o := .lst []) ntb
    have hM6 := hM.mono stb
    have hwl6 := stb _ _ hwl
    have htb : (upd H5 tb (.lst [])) tb = some (.lst []) := upd_same
    generalize upd H5 tb (.lst []) = H6 at stb hM6 hwl6 htb
    cases ws with
    | nil =>
      obtain rfl : wv = [] := List.eq_nil_of_length_eq_zero lwv
      refine ⟨wl, tb, _, rfl, rfl, hwl6, htb, false, rfl, iteF ?_⟩
      obtain ⟨kvs, n1, n2⟩ := hM6.kv
      have hne : ks ≠ [] := fun e => by have := hM.base; rw [e] at this; cases this
      obtain ⟨k0, t, rfl⟩ : ∃ k0 t, ks = k0 ++ [t] := ⟨ks.dropLast, ks.getLast hne, (List.dropLast_concat_getLast hne).symm⟩
      refine ⟨.ref D, rfl, q D kvs k0 t H6 hM6.sm n1 (by rw [List.length_append] at n2; exact n2) (hM.rk t (List.mem_append.mpr (.inr List.mem_cons_self))) (.inr fun k hk => ?_)⟩
      have : k ∈ k0 ++ [t] := by
        induction hk with
        | base hs =>
          rw [List.mem_singleton.mp hs]
          exact hM.base
        | @step s' x _ hx ih =>
          rcases hcl _ ih with z | z
          · cases z
          · exact z x hx
      exact hM.al k this
    | cons h0 wr =>
      have hne : V.bl (!wv.isEmpty) = V.bl true := by
        cases wv with
        | nil => cases lwv
        | cons a r => rfl
      refine ⟨wl, tb, _, rfl, rfl, hwl6, htb, true, hne, iteT ?_⟩
      refine ⟨fun σ' H2 => ∃ m', m' < m ∧ MetV P w PL st H L D wl v m' σ' H2, fun σ' H2 h => h, ?_⟩
      obtain ⟨wv2, hwl2, hwt6⟩ := hM6.wt
      rw [hwl6] at hwl2
      obtain rfl := HO.lst.inj (Option.some.inj hwl2)
      obtain ⟨y0, wvr, rfl, hy0, hwr⟩ := tds_cons hwt6
      · skip
        obtain ⟨kvs, n1, n2⟩ := hM6.kv
        have hh0 : h0 ∈ ks := hM.sub h0 List.mem_cons_self
        obtain ⟨ev, hev, r, sr, xs, v1, v2, f, g, rfl, e1, e2, e3, e4, hgd, hxl, hled⟩ := n2.val hh0
        have kt7 : KeepT H6 (upd H6 wl (.lst wvr)) := KeepT.lst hwl6
        have tp7 := kt7.tups
        have hM7 : MetW P w PL st H D wl (upd H6 wl (.lst wvr)) ks wr := by
          refine ⟨same_at hM6.sm nwH, ⟨kvs, n1.keep tp7 fun o e => by rw [upd_ne nwD.symm]; exact e, n2.keep kt7 (Nat.le_refl _)⟩, ⟨wvr, upd_same, hwr.mono tp7⟩, hM.nd, hM.rk, hM.al, fun k hk => hM.sub k (List.mem_cons_of_mem _ hk), hM.base⟩
        have hcl7 : ∀ k ∈ ks, k = h0 ∨ k ∈ wr ∨ ∀ x ∈ stepsM PL PL k, x.2.2 ∈ ks := fun k hk => by
          rcases hcl k hk with z | z
          · rcases List.mem_cons.mp z with z | z
            · exact .inl z
            · exact .inr (.inl z)
          · exact .inr (.inr z)
        refine ⟨fun σ H7 => σ = [some (.ref L), some v, some (.bl true), some v1, some v2, some (.ref D), some (.ref wl), some (.ref sr), y8, y9, y10, y11, y12, y13, y14] ∧ MetW P w PL st H D wl H7 ks wr ∧ H7 sr = some (.tup xs) ∧ StAt H7 v1 (h0.1, f) ∧ StAt H7 v2 (h0.2.1, g) ∧ Led PL st h0 f g H7 xs, ?_, ?_⟩
        · clear q
          refine ⟨.ref D, rfl, .ref wl, rfl, .inl ⟨rfl, _, SqL.of hwl6⟩, wl, y0 :: wvr, 0, 0, y0, rfl, rfl, hwl6, by decide, by decide, seqIx (by simp), rfl, ?_⟩
          refine ⟨D, sitK h0, kvs, .ref r, rfl, sit_key (TD.mono tp7 _ hy0), n1.keep tp7 fun o e => by rw [List.eraseIdx_zero, List.tail_cons, upd_ne nwD.symm]; exact e, hev, ?_⟩
          exact ⟨r, _, rfl, SqT.of (tp7 _ _ e1), rfl, .ref sr, [v1, v2], rfl, v1, [v2], rfl, v2, [], rfl, rfl, rfl, hM7, tp7 _ _ e2, kt7.st e3, kt7.st e4, hled.mono tp7⟩
        rintro σ H7 ⟨rfl, hM7, e2, e3, e4, hled⟩
        obtain ⟨r1, a1, rfl, hr1, hf1⟩ := e3
        obtain ⟨r2, a2, rfl, hr2, hf2⟩ := e4
        have lf := hgd.s1.len
        have lg := hgd.s2.len
        have bf := held_bd hp.ok.k hgd.s1.lo hgd.s1.hi
        have bg := held_bd hp.ok.k hgd.s2.lo hgd.s2.hi
        dsimp only at lf lg bf bg hr1 hr2 hf1 hf2
        refine ⟨fun σ H8 => ∃ (va : Addr) (vals : List Int), σ = [some (.ref L), some v, some (.bl true), some (.ref r1), some (.ref r2), some (.ref D), some (.ref wl), some (.ref sr), some (.ref va), y9, y10, y11, y12, y13, y14] ∧ Same H7 H8 ∧ H7 va = none ∧ H8 va = some (.lst (vals.map V.int)) ∧ (∀ x, x ∈ vals ↔ x ∈ f ++ g ∨ x = 100 + (xs.length : Int)), ?_, ?_⟩
        · clear q
          refine ⟨.ref r1, rfl, r1, _, 1, .ref a1, rfl, rfl, SqT.of hr1, atI_nat (j := 1) rfl, .ref r2, rfl, r2, _, 1, .ref a2, rfl, rfl, SqT.of hr2, atI_nat (j := 1) rfl, a1, a2, _, _, rfl, rfl, hf1.sq, hf2.sq, by rw [List.length_map, List.length_map]; omega, fun e => ?_, fun _ e => ?_, fun _ _ t nt => ?_⟩
          · have s8 := Same.refl H7
            have ht : SqT K H7 a2 (f.map V.int ++ g.map V.int) := by rw [e]; exact hf2.sq
            refine ⟨a2, f ++ g, rfl, by rw [List.map_append]; exact ht, by rw [List.length_append]; omega, fun a c hc na => ⟨a, _, c, rfl, upd_same, by rw [List.length_append] at hc; omega, fun ns p _ hmem hlen np => ?_⟩⟩
            have s9 := same_new (o := SetO w a (fun j => decide (j ∈ f ++ g)) c) na
            have s10 := same_new (o := .lst (ns.map V.int)) np
            have s810 := (s8.trans s9).trans s10
            refine ⟨.ref sr, rfl, sr, _, rfl, .inr (SqT.of (s810 _ _ e2)), 100, (xs.length : Int), rfl, rfl, by show 1 ≤ sizeLine; decide, fun b nb => ?_⟩
            have s11 := same_new (o := .lst [.int (100 + (xs.length : Int))]) nb
            refine ⟨p, b, _, _, rfl, rfl, s11 _ _ upd_same, upd_same, ?_, fun va nva => ?_⟩
            · rw [List.length_map, hlen]
              rw [List.length_append] at hc
              show c + 1 ≤ sizeLine
              omega
            have s12 := same_new (o := .lst (ns.map V.int ++ [.int (100 + (xs.length : Int))])) nva
            refine ⟨va, ns ++ [100 + (xs.length : Int)], rfl, (s810.trans s11).trans s12, ?_, by rw [upd_same, List.map_append]; rfl, fun x => ?_⟩
            · cases e : H7 va with
              | none => rfl
              | some o => rw [(s810.trans s11) _ _ e] at nva; cases nva
            · rw [List.mem_append, hmem, decide_eq_true_eq, List.mem_singleton]
          · have s8 := Same.refl H7
            have ht : SqT K H7 a1 (f.map V.int ++ g.map V.int) := by rw [e, List.append_nil]; exact hf1.sq
            refine ⟨a1, f ++ g, rfl, by rw [List.map_append]; exact ht, by rw [List.length_append]; omega, fun a c hc na => ⟨a, _, c, rfl, upd_same, by rw [List.length_append] at hc; omega, fun ns p _ hmem hlen np => ?_⟩⟩
            have s9 := same_new (o := SetO w a (fun j => decide (j ∈ f ++ g)) c) na
            have s10 := same_new (o := .lst (ns.map V.int)) np
            have s810 := (s8.trans s9).trans s10
            refine ⟨.ref sr, rfl, sr, _, rfl, .inr (SqT.of (s810 _ _ e2)), 100, (xs.length : Int), rfl, rfl, by show 1 ≤ sizeLine; decide, fun b nb => ?_⟩
            have s11 := same_new (o := .lst [.int (100 + (xs.length : Int))]) nb
            refine ⟨p, b, _, _, rfl, rfl, s11 _ _ upd_same, upd_same, ?_, fun va nva => ?_⟩
            · rw [List.length_map, hlen]
              rw [List.length_append] at hc
              show c + 1 ≤ sizeLine
              omega
            have s12 := same_new (o := .lst (ns.map V.int ++ [.int (100 + (xs.length : Int))])) nva
            refine ⟨va, ns ++ [100 + (xs.length : Int)], rfl, (s810.trans s11).trans s12, ?_, by rw [upd_same, List.map_append]; rfl, fun x => ?_⟩
            · cases e : H7 va with
              | none => rfl
              | some o => rw [(s810.trans s11) _ _ e] at nva; cases nva
            · rw [List.mem_append, hmem, decide_eq_true_eq, List.mem_singleton]
          · have s8 := same_new (o := .tup (f.map V.int ++ g.map V.int)) nt
            have ht : SqT K (upd H7 t (.tup (f.map V.int ++ g.map V.int))) t (f.map V.int ++ g.map V.int) := SqT.of upd_same
            generalize upd H7 t (.tup (f.map V.int ++ g.map V.int)) = H8 at s8 ht ⊢
            refine ⟨t, f ++ g, rfl, by rw [List.map_append]; exact ht, by rw [List.length_append]; omega, fun a c hc na => ⟨a, _, c, rfl, upd_same, by rw [List.length_append] at hc; omega, fun ns p _ hmem hlen np => ?_⟩⟩
            have s9 := same_new (o := SetO w a (fun j => decide (j ∈ f ++ g)) c) na
            have s10 := same_new (o := .lst (ns.map V.int)) np
            have s810 := (s8.trans s9).trans s10
            refine ⟨.ref sr, rfl, sr, _, rfl, .inr (SqT.of (s810 _ _ e2)), 100, (xs.length : Int), rfl, rfl, by show 1 ≤ sizeLine; decide, fun b nb => ?_⟩
            have s11 := same_new (o := .lst [.int (100 + (xs.length : Int))]) nb
            refine ⟨p, b, _, _, rfl, rfl, s11 _ _ upd_same, upd_same, ?_, fun va nva => ?_⟩
            · rw [List.length_map, hlen]
              rw [List.length_append] at hc
              show c + 1 ≤ sizeLine
              omega
            have s12 := same_new (o := .lst (ns.map V.int ++ [.int (100 + (xs.length : Int))])) nva
            refine ⟨va, ns ++ [100 + (xs.length : Int)], rfl, (s810.trans s11).trans s12, ?_, by rw [upd_same, List.map_append]; rfl, fun x => ?_⟩
            · cases e : H7 va with
              | none => rfl
              | some o => rw [(s810.trans s11) _ _ e] at nva; cases nva
            · rw [List.mem_append, hmem, decide_eq_true_eq, List.mem_singleton]
        rintro σ H8 ⟨va, vals, rfl, s8, nva, hva, hvals⟩
        have nvaw : va ≠ wl := fun e => by
          obtain ⟨vs, h1, _⟩ := hM7.wt
          rw [e, h1] at nva
          cases nva
        have nvaD : va ≠ D := fun e => by
          obtain ⟨kvs, n1, _⟩ := hM7.kv
          obtain ⟨φ, eD⟩ := n1.some
          rw [e, eD] at nva
          cases nva
        have sm8 := (hM7.mono s8).sm
        have hw3 := hp.ok.w
        refine ⟨.ref L, rfl, L, _, 0, .ref l, rfl, rfl, SqL.of (sm8 _ _ hp.at_), atI_nat (j := 0) rfl, l, _, 0, .int PL.words, rfl, rfl, SqL.of (sm8 _ _ hp.pl.at_), atI_nat (j := 0) rfl, PL.words, rfl, by omega, by omega, ?_⟩
        refine for_range (n := PL.words.toNat) (fun i σ H9 => ∃ ks' ws' y9 y10 y11 y12 y13 y14, σ = [some (.ref L), some v, some (.bl true), some (.ref r1), some (.ref r2), some (.ref D), some (.ref wl), some (.ref sr), some (.ref va), y9, y10, y11, y12, y13, y14] ∧ MetL P w PL st H D wl h0 va vals H8 ks wr H9 ks' ws' ∧ ∀ w', w' < i → ∀ x ∈ vals, sitOf PL h0.1 h0.2.1 f g (w' : Nat) x ∈ ks') ?_ ?_ ?_
        · exact ⟨ks, wr, y9, y10, y11, y12, y13, y14, rfl, ⟨hM7.mono s8, KeepT.same (Same.refl _), hva, Nat.add_comm _ _, fun k hk => hk, hcl7⟩, fun w' hw' => absurd hw' (Nat.not_lt_zero _)⟩
        · rintro i σ H9 hi ⟨ks', ws', y9, y10, y11, y12, y13, y14, rfl, hL9, hdone⟩
          have e0 : (0 : Int) + (i : Int) = (i : Int) := by omega
          rw [e0]
          refine ⟨.ref va, rfl, va, rfl, ⟨_, SqL.of hL9.va⟩, ?_⟩
          refine for_list (xs := vals.map V.int) (fun j σ H9 => ∃ ks' ws' y10 y11 y12 y13 y14, σ = [some (.ref L), some v, some (.bl true), some (.ref r1), some (.ref r2), some (.ref D), some (.ref wl), some (.ref sr), some (.ref va), some (.int (i : Int)), y10, y11, y12, y13, y14] ∧ MetL P w PL st H D wl h0 va vals H8 ks wr H9 ks' ws' ∧ (∀ w', w' < i → ∀ x ∈ vals, sitOf PL h0.1 h0.2.1 f g (w' : Nat) x ∈ ks') ∧ ∀ x ∈ vals.take j, sitOf PL h0.1 h0.2.1 f g (i : Nat) x ∈ ks') ?_ ?_ ?_ ?_
          · exact ⟨ks', ws', y10, y11, y12, y13, y14, rfl, hL9, hdone, (fun x hx => by cases hx)⟩
          · rintro j σ H9 _ ⟨ks', ws', y10, y11, y12, y13, y14, rfl, hL9, _⟩
            exact SqL.of hL9.va
          · rintro j xv σ H9 hxv ⟨ks', ws', y10, y11, y12, y13, y14, rfl, hL9, hdone, hdj⟩
            have hj : j < vals.length := by
              have := (List.getElem?_eq_some_iff.mp hxv).1
              rwa [List.length_map] at this
            rw [List.getElem?_map, List.getElem?_eq_getElem hj] at hxv
            obtain rfl := (Option.some.inj hxv)
            have hxm := (hvals _).mp (List.getElem_mem hj)
            have htk : vals.take (j + 1) = vals.take j ++ [vals[j]] := by
              rw [List.take_add_one, List.getElem?_eq_getElem hj]
              rfl
            generalize vals[j] = x at hxm htk
            refine ⟨.int (i : Int), rfl, .int x, rfl, by show 2 ≤ sizeLine; decide, fun mm nmm => ?_⟩
            have s9 := same_new (o := .tup [.int (i : Int), .int x]) nmm
            have hmm : (upd H9 mm (.tup [.int (i : Int), .int x])) mm = some (.tup [.int (i : Int), .int x]) := upd_same
            have hL : MetL P w PL st H D wl h0 va vals H8 ks wr (upd H9 mm (.tup [.int (i : Int), .int x])) ks' ws' := hL9.mono s9
            generalize upd H9 mm (.tup [.int (i : Int), .int x]) = H10 at hmm hL
            have smA := hL.M.sm
            have kA := (KeepT.same s8).trans hL.kp
            have st1 : StAt H10 (.ref r1) (h0.1, f) := kA.st ⟨r1, a1, rfl, hr1, hf1⟩
            have st2 : StAt H10 (.ref r2) (h0.2.1, g) := kA.st ⟨r2, a2, rfl, hr2, hf2⟩
            refine ⟨.ref L, rfl, L, _, 0, .ref l, rfl, rfl, SqL.of (smA _ _ hp.at_), atI_nat (j := 0) rfl, .ref r1, rfl, .ref mm, rfl, l, kl, rl, mm, .ref r1, PL, (h0.1, f), (i : Int), x, rfl, hp.pl.mono smA, hp.ok, st1, hgd.s1, hmm, fun u1 H11 s11 hu1 => ?_⟩
            have smB := smA.trans s11
            refine ⟨.ref L, rfl, L, _, 1, .ref l, rfl, rfl, SqL.of (smB _ _ hp.at_), atI_nat (j := 1) rfl, .ref r2, rfl, .ref mm, rfl, l, kl, rl, mm, .ref r2, PL, (h0.2.1, g), (i : Int), x, rfl, hp.pl.mono smB, hp.ok, st2.mono s11, hgd.s2, s11 _ _ hmm, fun u2 H12 s12 hu2 => ?_⟩
            have hu1' := hu1.mono s12
            have hnx := hgd.next hp.ok (i : Int) x hxm
            have n1 : (((stepM PL.rules (h0.1, f) ((i : Int), x)).2.length : Nat) : Int) = heldAt PL.kinds (sitOf PL h0.1 h0.2.1 f g (i : Int) x).1 := hnx.s1.len
            have n2 : (((stepM PL.rules (h0.2.1, g) ((i : Int), x)).2.length : Nat) : Int) = heldAt PL.kinds (sitOf PL h0.1 h0.2.1 f g (i : Int) x).2.1 := hnx.s2.len
            have n3 := held_bd hp.ok.k hnx.s1.lo hnx.s1.hi
            have n4 := held_bd hp.ok.k hnx.s2.lo hnx.s2.hi
            dsimp only at n3 n4
            refine ⟨u1, u2, rfl, u1, rfl, u2, rfl, u1, u2, stepM PL.rules (h0.1, f) ((i : Int), x), stepM PL.rules (h0.2.1, g) ((i : Int), x), rfl, hu1', hu2, (by omega), (by omega), fun sp H13 s13 hsp => ?_⟩
            have s103 := (s11.trans s12).trans s13
            have hL13 := hL.mono s103
            obtain ⟨kvs3, m1, m2⟩ := hL13.M.kv
            obtain ⟨y, hys, hye⟩ := hgd.sound hp.ok hi x
            have hrch : Rch PL PL [st] (sitOf PL h0.1 h0.2.1 f g (i : Int) x) := hye ▸ Rch.step (hM.rk h0 hh0) hys
            refine ⟨.ref sp, rfl, .ref D, rfl, D, sitK (sitOf PL h0.1 h0.2.1 f g (i : Int) x), kvs3, rfl, sit_key hsp, m1, ?_⟩
            rw [keys_val m2.keys]
            by_cases hk : sitOf PL h0.1 h0.2.1 f g (i : Int) x ∈ ks'
            · rw [decide_eq_true hk]
              refine ⟨false, rfl, iteF ?_⟩
              refine ⟨ks', ws', _, _, _, _, _, rfl, hL13, hdone, fun z hz => ?_⟩
              rw [htk] at hz
              rcases List.mem_append.mp hz with h | h
              · exact hdj z h
              · rw [List.mem_singleton.mp h]
                exact hk
            · rw [decide_eq_false hk]
              refine ⟨true, rfl, iteT ?_⟩
              have lks' : (ks' ++ [sitOf PL h0.1 h0.2.1 f g (i : Int) x]).length ≤ allS.length := nodup_le (nd_snoc hL13.M.nd hk) fun k hk' => hS k (by
                rcases List.mem_append.mp hk' with h | h
                · exact hL13.M.rk k h
                · rw [List.mem_singleton.mp h]
                  exact hrch)
              have lall := allS_len
              rw [List.length_append, List.length_singleton] at lks'
              refine ⟨.ref sr, rfl, .ref mm, rfl, by show 1 ≤ sizeLine; decide, fun t1 nt1 => ?_⟩
              have s14 := same_new (o := .tup [.ref mm]) nt1
              have ht1 : (upd H13 t1 (.tup [.ref mm])) t1 = some (.tup [.ref mm]) := upd_same
              generalize upd H13 t1 (.tup [.ref mm]) = H14 at s14 ht1
              have hsr : H14 sr = some (.tup xs) := s14 _ _ (s103 _ _ (kA _ _ e2 (.inl ⟨_, rfl⟩)))
              refine ⟨sr, t1, xs, [.ref mm], rfl, rfl, SqT.of hsr, SqT.of ht1, by show xs.length + 1 ≤ sizeLine; omega, fun e => ?_, fun _ e => absurd e (by simp), fun _ _ t nt => ?_⟩
              · have s15 := Same.refl H14
                have ht : H14 t1 = some (.tup (xs ++ [.ref mm])) := by rw [e]; exact ht1
                have ktA : KeepT H13 H14 := KeepT.same (s14.trans s15)
                refine ⟨u1, rfl, u2, rfl, by show 3 ≤ sizeLine; decide, fun er ner => ?_⟩
                have s16 := same_new (o := .tup [.ref t1, u1, u2]) ner
                have her : (upd H14 er (.tup [.ref t1, u1, u2])) er = some (.tup [.ref t1, u1, u2]) := upd_same
                generalize upd H14 er (.tup [.ref t1, u1, u2]) = H16 at s16 her
                have s316 := (s14.trans s15).trans s16
                have m1b := m1.mono s316
                obtain ⟨φ, eD⟩ := m1b.some
                refine ⟨.ref D, rfl, .ref sp, rfl, D, sitK (sitOf PL h0.1 h0.2.1 f g (i : Int) x), kvs3, rfl, sit_key (TD.mono (Tups.same s316) _ hsp), m1b, ?_, fun H17 k17 n17 => ?_⟩
                · rw [keys_len m2.keys]
                  omega
                have kt17 : KeepT H16 H17 := KeepT.ext eD k17
                obtain ⟨wvs, hw1, hw2⟩ := hL13.M.wt
                have hw17 : H17 wl = some (.lst wvs) := by
                  rw [k17 wl nwD]
                  exact s316 _ _ hw1
                have lwv3 : wvs.length = ws'.length := by
                  have := hw2.len
                  rwa [List.length_map] at this
                have hcnt := hL13.cnt
                have lkk : ks.length ≤ ks'.length := nodup_le hM.nd hL13.mo
                refine ⟨.ref wl, rfl, .inl ⟨rfl, _, SqL.of hw17⟩, .ref sp, rfl, wl, wvs, .ref sp, rfl, rfl, hw17, ?_, ?_⟩
                · rw [List.length_cons] at hwk
                  omega
                have kt18 : KeepT H17 (upd H17 wl (.lst (wvs ++ [.ref sp]))) := KeepT.lst hw17
                have hw18 : (upd H17 wl (.lst (wvs ++ [.ref sp]))) wl = some (.lst (wvs ++ [.ref sp])) := upd_same
                have off18 : ∀ c, c ≠ wl → (upd H17 wl (.lst (wvs ++ [.ref sp]))) c = H17 c := fun c n => upd_ne n
                generalize upd H17 wl (.lst (wvs ++ [.ref sp])) = H18 at kt18 hw18 off18
                have kt : KeepT H13 H18 := (KeepT.same s316).trans (kt17.trans kt18)
                have sm18 : Same H H18 := fun c o e => by
                  rw [off18 c (fun z => by rw [z, nwH] at e; cases e), k17 c (fun z => by rw [z, nDH] at e; cases e)]
                  exact s316 _ _ (hL13.M.sm _ _ e)
                have nd18 := n17.keep kt18.tups fun o e => by rw [off18 D nwD.symm]; exact e
                have hu1f := kt.st (hu1'.mono s13)
                have hu2f := kt.st (hu2.mono s13)
                have hen : LEnt PL st (ks'.length + 1) H18 (.ref er) (sitOf PL h0.1 h0.2.1 f g (i : Int) x) := by
                  refine ⟨er, t1, xs ++ [.ref mm], u1, u2, _, _, rfl, kt18 _ _ (kt17 _ _ her (.inl ⟨_, rfl⟩)) (.inl ⟨_, rfl⟩), kt18 _ _ (kt17 _ _ (s16 _ _ ht) (.inl ⟨_, rfl⟩)) (.inl ⟨_, rfl⟩), hu1f, hu2f, ?_, ?_, (by exact hled.next ((kA.trans (KeepT.same s103)).trans kt).tups (kt _ _ (s103 _ _ hmm) (.inl ⟨_, rfl⟩)))⟩
                  · rw [List.length_append, List.length_singleton]
                    exact hnx
                  · rw [List.length_append, List.length_singleton]
                    omega
                have hER : EnR PL st (ks'.length + 1) H18 (putK kvs3 (sitK (sitOf PL h0.1 h0.2.1 f g (i : Int) x)) (.ref er)) (ks' ++ [sitOf PL h0.1 h0.2.1 f g (i : Int) x]) := by
                  rw [putK_new _ (val_no (by rw [m2.keys]; exact fun z => hk (sitK_mem.mp z)))]
                  exact Paired.snoc (m2.keep kt (Nat.le_succ _)) ⟨rfl, hen⟩
                obtain ⟨ru1, au1, rfl, hru1, hau1⟩ := hu1f
                obtain ⟨ru2, au2, rfl, hru2, hau2⟩ := hu2f
                obtain ⟨c1, vc1, ic1, hc1, ec1⟩ := kinds_at hkt hnx.s1.lo hnx.s1.hi
                obtain ⟨c2, vc2, ic2, hc2, ec2⟩ := kinds_at hkt hnx.s2.lo hnx.s2.hi
                have x1 : verAt PL.kinds (sitOf PL h0.1 h0.2.1 f g (i : Int) x).1 = vc1 := by
                  unfold verAt
                  rw [ec1]
                  rfl
                have x2 : verAt PL.kinds (sitOf PL h0.1 h0.2.1 f g (i : Int) x).2.1 = vc2 := by
                  unfold verAt
                  rw [ec2]
                  rfl
                have xu : unl PL PL (sitOf PL h0.1 h0.2.1 f g (i : Int) x) = !decide (vc1 = vc2) := by
                  unfold unl
                  rw [x1, x2]
                have xd : decide (V.int vc1 = V.int vc2) = decide (vc1 = vc2) := by
                  by_cases h : vc1 = vc2
                  · rw [h]
                    simp
                  · rw [decide_eq_false h, decide_eq_false fun z => h (V.int.inj z)]
                refine ⟨.bl true, rfl, true, rfl, iteT ?_⟩
                refine ⟨.ref L, rfl, L, _, 0, .ref l, rfl, rfl, SqL.of (sm18 _ _ hp.at_), atI_nat (j := 0) rfl, l, _, 1, .ref kl, rfl, rfl, SqL.of (sm18 _ _ hp.pl.at_), atI_nat (j := 1) rfl, .ref ru1, rfl, ru1, _, 0, .int _, rfl, rfl, SqT.of hru1, atI_nat (j := 0) rfl, kl, kin, _, .ref c1, rfl, rfl, SqL.of (sm18 _ _ hkl), ic1, c1, _, 0, .int vc1, rfl, rfl, SqT.of (sm18 _ _ hc1), atI_nat (j := 0) rfl, ?_⟩
                refine ⟨.ref L, rfl, L, _, 1, .ref l, rfl, rfl, SqL.of (sm18 _ _ hp.at_), atI_nat (j := 1) rfl, l, _, 1, .ref kl, rfl, rfl, SqL.of (sm18 _ _ hp.pl.at_), atI_nat (j := 1) rfl, .ref ru2, rfl, ru2, _, 0, .int _, rfl, rfl, SqT.of hru2, atI_nat (j := 0) rfl, kl, kin, _, .ref c2, rfl, rfl, SqL.of (sm18 _ _ hkl), ic2, c2, _, 0, .int vc2, rfl, rfl, SqT.of (sm18 _ _ hc2), atI_nat (j := 0) rfl, rfl, ?_⟩
                by_cases hun : unl PL PL (sitOf PL h0.1 h0.2.1 f g (i : Int) x) = true
                · refine ⟨true, by rw [xd, ← xu, hun], iteT ?_⟩
                  exact ⟨.ref D, rfl, q D _ ks' _ H18 sm18 nd18 hER hrch (.inl hun)⟩
                · have hun2 : unl PL PL (sitOf PL h0.1 h0.2.1 f g (i : Int) x) = false := by simpa using hun
                  refine ⟨false, by rw [xd, ← xu, hun2], iteF ?_⟩
                  refine ⟨ks' ++ [sitOf PL h0.1 h0.2.1 f g (i : Int) x], ws' ++ [sitOf PL h0.1 h0.2.1 f g (i : Int) x], _, _, _, _, _, rfl, ⟨⟨sm18, ⟨_, nd18, by rw [List.length_append]; exact hER⟩, ⟨_, hw18, ?_⟩, nd_snoc hL13.M.nd hk, fun k hk' => ?_, fun k hk' => ?_, fun k hk' => ?_, List.mem_append.mpr (.inl hL13.M.base)⟩, hL13.kp.trans kt, ?_, ?_, fun k hk' => List.mem_append.mpr (.inl (hL13.mo k hk')), fun k hk' => ?_⟩, fun w' hw' z hz => List.mem_append.mpr (.inl (hdone w' hw' z hz)), fun z hz => ?_⟩
                  · rw [List.map_append]
                    exact tds_snoc (hw2.mono kt.tups) (TD.mono kt.tups _ hsp)
                  · rcases List.mem_append.mp hk' with h | h
                    · exact hL13.M.rk k h
                    · rw [List.mem_singleton.mp h]
                      exact hrch
                  · rcases List.mem_append.mp hk' with h | h
                    · exact hL13.M.al k h
                    · rw [List.mem_singleton.mp h]
                      exact hun2
                  · rcases List.mem_append.mp hk' with h | h
                    · exact List.mem_append.mpr (.inl (hL13.M.sub k h))
                    · exact List.mem_append.mpr (.inr h)
                  · rw [off18 va nvaw, k17 va nvaD]
                    exact s316 _ _ hL13.va
                  · rw [List.length_append, List.length_append, List.length_singleton]
                    omega
                  · rcases List.mem_append.mp hk' with h | h
                    · rcases hL13.cl k h with h | h | h
                      · exact .inl h
                      · exact .inr (.inl (List.mem_append.mpr (.inl h)))
                      · exact .inr (.inr fun y hy => List.mem_append.mpr (.inl (h y hy)))
                    · exact .inr (.inl (List.mem_append.mpr (.inr h)))
                  · rw [htk] at hz
                    rcases List.mem_append.mp hz with h | h
                    · exact List.mem_append.mpr (.inl (hdj z h))
                    · rw [List.mem_singleton.mp h]
                      exact List.mem_append.mpr (.inr List.mem_cons_self)
              · have s15 := same_new (o := .tup (xs ++ [.ref mm])) nt
                have ht : (upd H14 t (.tup (xs ++ [.ref mm]))) t = some (.tup (xs ++ [.ref mm])) := upd_same
                generalize upd H14 t (.tup (xs ++ [.ref mm])) = H15 at s15 ht ⊢
                have ktA : KeepT H13 H15 := KeepT.same (s14.trans s15)
                refine ⟨u1, rfl, u2, rfl, by show 3 ≤ sizeLine; decide, fun er ner => ?_⟩
                have s16 := same_new (o := .tup [.ref t, u1, u2]) ner
                have her : (upd H15 er (.tup [.ref t, u1, u2])) er = some (.tup [.ref t, u1, u2]) := upd_same
                generalize upd H15 er (.tup [.ref t, u1, u2]) = H16 at s16 her
                have s316 := (s14.trans s15).trans s16
                have m1b := m1.mono s316
                obtain ⟨φ, eD⟩ := m1b.some
                refine ⟨.ref D, rfl, .ref sp, rfl, D, sitK (sitOf PL h0.1 h0.2.1 f g (i : Int) x), kvs3, rfl, sit_key (TD.mono (Tups.same s316) _ hsp), m1b, ?_, fun H17 k17 n17 => ?_⟩
                · rw [keys_len m2.keys]
                  omega
                have kt17 : KeepT H16 H17 := KeepT.ext eD k17
                obtain ⟨wvs, hw1, hw2⟩ := hL13.M.wt
                have hw17 : H17 wl = some (.lst wvs) := by
                  rw [k17 wl nwD]
                  exact s316 _ _ hw1
                have lwv3 : wvs.length = ws'.length := by
                  have := hw2.len
                  rwa [List.length_map] at this
                have hcnt := hL13.cnt
                have lkk : ks.length ≤ ks'.length := nodup_le hM.nd hL13.mo
                refine ⟨.ref wl, rfl, .inl ⟨rfl, _, SqL.of hw17⟩, .ref sp, rfl, wl, wvs, .ref sp, rfl, rfl, hw17, ?_, ?_⟩
                · rw [List.length_cons] at hwk
                  omega
                have kt18 : KeepT H17 (upd H17 wl (.lst (wvs ++ [.ref sp]))) := KeepT.lst hw17
                have hw18 : (upd H17 wl (.lst (wvs ++ [.ref sp]))) wl = some (.lst (wvs ++ [.ref sp])) := upd_same
                have off18 : ∀ c, c ≠ wl → (upd H17 wl (.lst (wvs ++ [.ref sp]))) c = H17 c := fun c n => upd_ne n
                generalize upd H17 wl (.lst (wvs ++ [.ref sp])) = H18 at kt18 hw18 off18
                have kt : KeepT H13 H18 := (KeepT.same s316).trans (kt17.trans kt18)
                have sm18 : Same H H18 := fun c o e => by
                  rw [off18 c (fun z => by rw [z, nwH] at e; cases e), k17 c (fun z => by rw [z, nDH] at e; cases e)]
                  exact s316 _ _ (hL13.M.sm _ _ e)
                have nd18 := n17.keep kt18.tups fun o e => by rw [off18 D nwD.symm]; exact e
                have hu1f := kt.st (hu1'.mono s13)
                have hu2f := kt.st (hu2.mono s13)
                have hen : LEnt PL st (ks'.length + 1) H18 (.ref er) (sitOf PL h0.1 h0.2.1 f g (i : Int) x) := by
                  refine ⟨er, t, xs ++ [.ref mm], u1, u2, _, _, rfl, kt18 _ _ (kt17 _ _ her (.inl ⟨_, rfl⟩)) (.inl ⟨_, rfl⟩), kt18 _ _ (kt17 _ _ (s16 _ _ ht) (.inl ⟨_, rfl⟩)) (.inl ⟨_, rfl⟩), hu1f, hu2f, ?_, ?_, (by exact hled.next ((kA.trans (KeepT.same s103)).trans kt).tups (kt _ _ (s103 _ _ hmm) (.inl ⟨_, rfl⟩)))⟩
                  · rw [List.length_append, List.length_singleton]
                    exact hnx
                  · rw [List.length_append, List.length_singleton]
                    omega
                have hER : EnR PL st (ks'.length + 1) H18 (putK kvs3 (sitK (sitOf PL h0.1 h0.2.1 f g (i : Int) x)) (.ref er)) (ks' ++ [sitOf PL h0.1 h0.2.1 f g (i : Int) x]) := by
                  rw [putK_new _ (val_no (by rw [m2.keys]; exact fun z => hk (sitK_mem.mp z)))]
                  exact Paired.snoc (m2.keep kt (Nat.le_succ _)) ⟨rfl, hen⟩
                obtain ⟨ru1, au1, rfl, hru1, hau1⟩ := hu1f
                obtain ⟨ru2, au2, rfl, hru2, hau2⟩ := hu2f
                obtain ⟨c1, vc1, ic1, hc1, ec1⟩ := kinds_at hkt hnx.s1.lo hnx.s1.hi
                obtain ⟨c2, vc2, ic2, hc2, ec2⟩ := kinds_at hkt hnx.s2.lo hnx.s2.hi
                have x1 : verAt PL.kinds (sitOf PL h0.1 h0.2.1 f g (i : Int) x).1 = vc1 := by
                  unfold verAt
                  rw [ec1]
                  rfl
                have x2 : verAt PL.kinds (sitOf PL h0.1 h0.2.1 f g (i : Int) x).2.1 = vc2 := by
                  unfold verAt
                  rw [ec2]
                  rfl
                have xu : unl PL PL (sitOf PL h0.1 h0.2.1 f g (i : Int) x) = !decide (vc1 = vc2) := by
                  unfold unl
                  rw [x1, x2]
                have xd : decide (V.int vc1 = V.int vc2) = decide (vc1 = vc2) := by
                  by_cases h : vc1 = vc2
                  · rw [h]
                    simp
                  · rw [decide_eq_false h, decide_eq_false fun z => h (V.int.inj z)]
                refine ⟨.bl true, rfl, true, rfl, iteT ?_⟩
                refine ⟨.ref L, rfl, L, _, 0, .ref l, rfl, rfl, SqL.of (sm18 _ _ hp.at_), atI_nat (j := 0) rfl, l, _, 1, .ref kl, rfl, rfl, SqL.of (sm18 _ _ hp.pl.at_), atI_nat (j := 1) rfl, .ref ru1, rfl, ru1, _, 0, .int _, rfl, rfl, SqT.of hru1, atI_nat (j := 0) rfl, kl, kin, _, .ref c1, rfl, rfl, SqL.of (sm18 _ _ hkl), ic1, c1, _, 0, .int vc1, rfl, rfl, SqT.of (sm18 _ _ hc1), atI_nat (j := 0) rfl, ?_⟩
                refine ⟨.ref L, rfl, L, _, 1, .ref l, rfl, rfl, SqL.of (sm18 _ _ hp.at_), atI_nat (j := 1) rfl, l, _, 1, .ref kl, rfl, rfl, SqL.of (sm18 _ _ hp.pl.at_), atI_nat (j := 1) rfl, .ref ru2, rfl, ru2, _, 0, .int _, rfl, rfl, SqT.of hru2, atI_nat (j := 0) rfl, kl, kin, _, .ref c2, rfl, rfl, SqL.of (sm18 _ _ hkl), ic2, c2, _, 0, .int vc2, rfl, rfl, SqT.of (sm18 _ _ hc2), atI_nat (j := 0) rfl, rfl, ?_⟩
                by_cases hun : unl PL PL (sitOf PL h0.1 h0.2.1 f g (i : Int) x) = true
                · refine ⟨true, by rw [xd, ← xu, hun], iteT ?_⟩
                  exact ⟨.ref D, rfl, q D _ ks' _ H18 sm18 nd18 hER hrch (.inl hun)⟩
                · have hun2 : unl PL PL (sitOf PL h0.1 h0.2.1 f g (i : Int) x) = false := by simpa using hun
                  refine ⟨false, by rw [xd, ← xu, hun2], iteF ?_⟩
                  refine ⟨ks' ++ [sitOf PL h0.1 h0.2.1 f g (i : Int) x], ws' ++ [sitOf PL h0.1 h0.2.1 f g (i : Int) x], _, _, _, _, _, rfl, ⟨⟨sm18, ⟨_, nd18, by rw [List.length_append]; exact hER⟩, ⟨_, hw18, ?_⟩, nd_snoc hL13.M.nd hk, fun k hk' => ?_, fun k hk' => ?_, fun k hk' => ?_, List.mem_append.mpr (.inl hL13.M.base)⟩, hL13.kp.trans kt, ?_, ?_, fun k hk' => List.mem_append.mpr (.inl (hL13.mo k hk')), fun k hk' => ?_⟩, fun w' hw' z hz => List.mem_append.mpr (.inl (hdone w' hw' z hz)), fun z hz => ?_⟩
                  · rw [List.map_append]
                    exact tds_snoc (hw2.mono kt.tups) (TD.mono kt.tups _ hsp)
                  · rcases List.mem_append.mp hk' with h | h
                    · exact hL13.M.rk k h
                    · rw [List.mem_singleton.mp h]
                      exact hrch
                  · rcases List.mem_append.mp hk' with h | h
                    · exact hL13.M.al k h
                    · rw [List.mem_singleton.mp h]
                      exact hun2
                  · rcases List.mem_append.mp hk' with h | h
                    · exact List.mem_append.mpr (.inl (hL13.M.sub k h))
                    · exact List.mem_append.mpr (.inr h)
                  · rw [off18 va nvaw, k17 va nvaD]
                    exact s316 _ _ hL13.va
                  · rw [List.length_append, List.length_append, List.length_singleton]
                    omega
                  · rcases List.mem_append.mp hk' with h | h
                    · rcases hL13.cl k h with h | h | h
                      · exact .inl h
                      · exact .inr (.inl (List.mem_append.mpr (.inl h)))
                      · exact .inr (.inr fun y hy => List.mem_append.mpr (.inl (h y hy)))
                    · exact .inr (.inl (List.mem_append.mpr (.inr h)))
                  · rw [htk] at hz
                    rcases List.mem_append.mp hz with h | h
                    · exact List.mem_append.mpr (.inl (hdj z h))
                    · rw [List.mem_singleton.mp h]
                      exact List.mem_append.mpr (.inr List.mem_cons_self)
          · rintro σ H9 ⟨ks', ws', y10, y11, y12, y13, y14, rfl, hL9, hdone, hdj⟩
            rw [List.length_map, List.take_length] at hdj
            refine ⟨ks', ws', _, y10, y11, y12, y13, y14, rfl, hL9, fun w' hw' x hx => ?_⟩
            by_cases e : w' = i
            · subst e
              exact hdj x hx
            · exact hdone w' (by omega) x hx
        · rintro σ H9 ⟨ks', ws', y9, y10, y11, y12, y13, y14, rfl, hL9, hdone⟩
          have lks' : ks'.length ≤ allS.length := nodup_le hL9.M.nd fun k hk => hS k (hL9.M.rk k hk)
          have hcnt := hL9.cnt
          have hsub : ks.length ≤ ks'.length := nodup_le hM.nd hL9.mo
          refine ⟨(allS.length - ks'.length) * 2 + ws'.length, ?_, ks', ws', _, _, _, _, y9, y10, y11, y12, y13, y14, rfl, hL9.M, rfl, by rw [List.length_cons] at hwk; omega, fun k hk => ?_⟩
          · rw [hm, List.length_cons]
            omega
          · rcases hL9.cl k hk with rfl | z | z
            · refine .inr fun x hx => ?_
              obtain ⟨w', hw', x', hx', e⟩ := hgd.full hp.ok hx
              rw [e]
              exact hdone w' hw' x' ((hvals x').mpr hx')
            · exact .inl z
            · exact .inr z
end
def sp_law_unlike : Sp := fun us H Q _ => ∃ (L l kl rl : Addr) (v : V) (PL : Plan) (s : Sit), us = [.ref L, v] ∧ PsAt H L l kl rl PL ∧ TD H v (sitD s) ∧ SitIn PL PL s ∧ (∀ k, Rch PL PL [s] k → k ∈ allS) ∧
  Good PL s (heldM PL PL s).1 (heldM PL PL s).2 0 ∧ unl PL PL s = false ∧ ∀ u H', Same H H' → ((Ul PL PL s ∧ ∃ (a : Addr) (xs : List V) (ms : List (Int × Int)), u = .ref a ∧ H' a = some (.tup xs) ∧ TDs H' xs (ms.map pairD) ∧ verAt PL.kinds (runM PL.rules (s.1, (heldM PL PL s).1) ms).1 ≠ verAt PL.kinds (runM PL.rules (s.2.1, (heldM PL PL s).2) ms).1) ∨ (¬ Ul PL PL s ∧ u = .non)) → Q u H'
theorem en_key {P : Program} {w : World} {PL : Plan} {s0 : Sit} {N : Nat} {H H2 : Hp} {kvs : List (NestedKey × V)} {rs : List NRow} {ks : List Sit} (h1 : NRel H kvs rs) (h2 : EnR PL s0 N H2 kvs ks) {i : Nat} {k : Sit} (hk : ks[i]? = some k) :
    ∃ r, rs[i]? = some r ∧ NKey H (sitK k) (.ref r.2.1) := by
  have hi := (List.getElem?_eq_some_iff.mp hk).1
  have hi' : i < kvs.length := by rw [Paired.length h2]; exact hi
  have e := List.getElem?_eq_getElem hi'
  obtain ⟨b, hb, q⟩ := L2.paired_get h2 e
  rw [hk] at hb
  obtain rfl := Option.some.inj hb
  obtain ⟨r, hr, q2⟩ := L2.paired_get h1 e
  exact ⟨r, hr, by rw [← q.1]; exact q2.2.1⟩
section
variable {P : Program} {w : World} {K : PySem.W.Frag} {mg : Str → Option Value} {base : Heap}
abbrev N_law_unlike : List Str := ["plans", "situation", "met", "spot"]
theorem sc_law_unlike : FnScope N_law_unlike ["plans", "situation"] (defScope s_law_unlike) := ⟨rfl, rfl, rfl, by decide +kernel, rfl, by decide +kernel, by decide +kernel⟩
theorem G_law_unlike (T : Tx K mg) : FnG P w K mg base CX0 3 T.law_unlike.f T.law_unlike.fd ["plans", "situation"] sp_law_unlike := by
  refine okG T.law_unlike.F sc_law_unlike (fun vs H Q E h => ?_) (fun cdv A outer s H vs Q E gd hr h => ?_)
  · obtain ⟨L, l, kl, rl, v, PL, s, rfl, _⟩ := h
    rfl
  · obtain ⟨L, l, kl, rl, v, PL, st, rfl, hp, hv, hin, hS, hG, hu, q⟩ := h
    refine ⟨_, 
      (C8.pss_cut (ps_set (i := 2) sc_law_unlike.nd rfl (.inl rfl) (pe_callG (G_law_met T) gd (hr.mono (by decide)) rfl T.law_met.g T.law_met.F.kp T.law_met.b .nil pass0 (pa_cons (pv 0) (pa_cons (pv 1) (pa_cons pe_bl pa_nil))))) -- met = _law_met(plans, situation, True)
      (pss_cons (ps_set (i := 3) sc_law_unlike.nd rfl (.inl rfl) (pe_ix ix_list (pe_callTy (call_listN rfl) (by rfl) T.m_list (by decide +kernel) (pa_cons (pv 2) pa_nil)) (pe_un un_neg pe_int) (fun _ _ => rfl))) -- spot = list(met)[-1]
      (pss_one (ps_ret (pe_ifExp (pt_cmpR op_ne (pe_ix ix_tup (pe_ix ix_list (pe_ix ix_list (pe_ix ix_list (pv 0) pe_int (fun _ _ => rfl)) pe_int (fun _ _ => rfl)) (pe_ix ix_tup (pv 3) pe_int (fun _ _ => rfl)) (fun _ _ => rfl)) pe_int (fun _ _ => rfl)) (pe_ix ix_tup (pe_ix ix_list (pe_ix ix_list (pe_ix ix_list (pv 0) pe_int (fun _ _ => rfl)) pe_int (fun _ _ => rfl)) (pe_ix ix_tup (pv 3) pe_int (fun _ _ => rfl)) (fun _ _ => rfl)) pe_int (fun _ _ => rfl)) (nomark _)) (pe_ix ix_tup (pe_getN hr.units (pv 2) (pv 3)) pe_int (fun _ _ => rfl)) pe_non))) -- return met[spot][0] if plans[0][1][spot[0]][0] != plans[1][1][spot[1]][0] else None
      )) , ?_⟩
    have L5 : 4000000 ≤ sizeLine := by decide
    obtain ⟨kin, hkl, hkt⟩ := hp.pl.kin
    refine ⟨fun σ H' => ∃ (D : Addr) (kvs : List (NestedKey × V)) (ks : List Sit) (t : Sit), σ = [some (.ref L), some v, some (.ref D), none] ∧ Same H H' ∧ NDict P w H' D kvs ∧ EnR PL st (ks.length + 1) H' kvs (ks ++ [t]) ∧ Rch PL PL [st] t ∧ (unl PL PL t = true ∨ ∀ k, Rch PL PL [st] k → unl PL PL k = false), ?_, ?_⟩
    · clear q
      exact ⟨.ref L, rfl, v, rfl, L, l, kl, rl, v, PL, st, rfl, hp, hv, hin, hS, hG, hu, fun D kvs ks t H' s1 n1 n2 hr hd => ⟨D, kvs, ks, t, rfl, s1, n1, n2, hr, hd⟩⟩
    rintro σ H1 ⟨D, kvs, ks, t, rfl, s1, n1, n2, hr, hd⟩
    obtain ⟨rs, eD, rel⟩ := id n1
    obtain ⟨r, hr1, hkey⟩ := en_key (P := P) (w := w) rel n2 (i := ks.length) (k := t) (by simp)
    have lrs : rs.length = ks.length + 1 := by
      rw [← Paired.length rel, Paired.length n2, List.length_append]
      rfl
    refine ⟨.ref D, rfl, D, rs, rfl, eD, fun p np => ?_⟩
    have s2 := same_new (o := .lst (rs.map fun r => V.ref r.2.1)) np
    have ia : atI (rs.map fun r => V.ref r.2.1) (-1) = some (.ref r.2.1) := by
      obtain ⟨r0, x, rfl⟩ : ∃ r0 x, rs = r0 ++ [x] := ⟨rs.dropLast, rs.getLast (fun e => by rw [e] at lrs; cases lrs), (List.dropLast_concat_getLast _).symm⟩
      have l0 : r0.length = ks.length := by
        rw [List.length_append, List.length_singleton] at lrs
        omega
      rw [← l0, List.getElem?_append_right (Nat.le_refl _), Nat.sub_self] at hr1
      obtain rfl : x = r := Option.some.inj hr1
      rw [List.map_append]
      exact L2.atI_last _ _
    refine ⟨1, rfl, p, _, -1, .ref r.2.1, rfl, rfl, SqL.of upd_same, ia, ?_⟩
    have hkt2 := (hkey.mono (Tups.same s2))
    have htd := hkt2.2.1
    rw [sitK_D] at htd
    have n1b := n1.mono s2
    have s12 := s1.trans s2
    obtain ⟨ev, hev, rr, sr, xs, v1, v2, f, g, rfl, e1, e2, e3, e4, hgd, hxl, ms, hts, hl1, hl2⟩ := n2.val (k := t) (List.mem_append.mpr (.inr List.mem_cons_self))
    obtain ⟨c1, vc1, ic1, hc1, ec1⟩ := kinds_at hkt hgd.s1.lo hgd.s1.hi
    obtain ⟨c2, vc2, ic2, hc2, ec2⟩ := kinds_at hkt hgd.s2.lo hgd.s2.hi
    dsimp only at ic1 ic2
    have x1 : verAt PL.kinds t.1 = vc1 := by
      unfold verAt
      rw [ec1]
      rfl
    have x2 : verAt PL.kinds t.2.1 = vc2 := by
      unfold verAt
      rw [ec2]
      rfl
    have xu : unl PL PL t = !decide (vc1 = vc2) := by
      unfold unl
      rw [x1, x2]
    have xd : decide (V.int vc1 = V.int vc2) = decide (vc1 = vc2) := by
      by_cases h : vc1 = vc2
      · rw [h]
        simp
      · rw [decide_eq_false h, decide_eq_false fun z => h (V.int.inj z)]
    have e1b := s2 _ _ e1
    have e2b := s2 _ _ e2
    have htsb := hts.mono (Tups.same s2)
    generalize upd H1 p (.lst (rs.map fun r => V.ref r.2.1)) = H2 at s2 hkt2 htd n1b s12 e1b e2b htsb
    obtain ⟨ta, zs, eta, hta, hzs⟩ := htd.isTup
    have eta' := V.ref.inj eta
    subst eta'
    cases hzs with
    | cons z1 zr =>
      cases z1
      cases zr with
      | cons z2 zr =>
        cases z2
        cases zr with
        | @cons z3 d3 z3s d3s g3 zr =>
          cases zr
          refine ⟨.ref L, rfl, L, _, 0, .ref l, rfl, rfl, SqL.of (s12 _ _ hp.at_), atI_nat (j := 0) rfl, l, _, 1, .ref kl, rfl, rfl, SqL.of (s12 _ _ hp.pl.at_), atI_nat (j := 1) rfl, .ref r.2.1, rfl, r.2.1, _, 0, .int t.1, rfl, rfl, SqT.of hta, atI_nat (j := 0) rfl, kl, kin, _, .ref c1, rfl, rfl, SqL.of (s12 _ _ hkl), ic1, c1, _, 0, .int vc1, rfl, rfl, SqT.of (s12 _ _ hc1), atI_nat (j := 0) rfl, ?_⟩
          refine ⟨.ref L, rfl, L, _, 1, .ref l, rfl, rfl, SqL.of (s12 _ _ hp.at_), atI_nat (j := 1) rfl, l, _, 1, .ref kl, rfl, rfl, SqL.of (s12 _ _ hp.pl.at_), atI_nat (j := 1) rfl, .ref r.2.1, rfl, r.2.1, _, 1, .int t.2.1, rfl, rfl, SqT.of hta, atI_nat (j := 1) rfl, kl, kin, _, .ref c2, rfl, rfl, SqL.of (s12 _ _ hkl), ic2, c2, _, 0, .int vc2, rfl, rfl, SqT.of (s12 _ _ hc2), atI_nat (j := 0) rfl, rfl, ?_⟩
          by_cases hun : unl PL PL t = true
          · refine ⟨true, by rw [xd, ← xu, hun], iteT ?_⟩
            exact ⟨.ref D, rfl, .ref r.2.1, rfl, D, sitK t, kvs, .ref rr, rfl, hkt2, n1b, hev, rr, _, 0, .ref sr, rfl, rfl, SqT.of e1b, atI_nat (j := 0) rfl, q _ _ s12 (.inl ⟨⟨t, hr, hun⟩, sr, xs, ms, rfl, e2b, htsb, by rw [← hl1, ← hl2]; unfold unl at hun; simpa using hun⟩)⟩
          · have hun2 : unl PL PL t = false := by simpa using hun
            refine ⟨false, by rw [xd, ← xu, hun2], iteF ?_⟩
            refine q _ _ s12 (.inr ⟨?_, rfl⟩)
            rintro ⟨s', h1, h2⟩
            rcases hd with z | z
            · exact hun z
            · rw [z s' h1] at h2
              cases h2
end
def sp_law_few_plan : Sp := fun vs H Q _ => ∃ (p c : Addr), vs = [.ref p] ∧ Pen H p c ∧
  ∀ l kl rl pl H', Keep p H H' → Pen H' p c → H l = none → H kl = none → H rl = none → PlanAt H' l kl rl pl → PlanOk pl → Q (.ref l) H'
section
variable {P : Program} {w : World} {K : PySem.W.Frag} {mg : Str → Option Value} {base : Heap}
abbrev N_law_few_plan : List Str := ["pen", "words", "states", "held"]
theorem sc_law_few_plan : FnScope N_law_few_plan ["pen"] (defScope s_law_few_plan) := ⟨rfl, rfl, rfl, by decide +kernel, rfl, by decide +kernel, by decide +kernel⟩
theorem G_law_few_plan (T : Tx K mg) : FnG P w K mg base CX0 5 T.law_few_plan.f T.law_few_plan.fd ["pen"] sp_law_few_plan := by
  refine okG T.law_few_plan.F sc_law_few_plan (fun vs H Q E h => ?_) (fun cdv A outer s H vs Q E gd hr h => ?_)
  · obtain ⟨p, c, rfl, _⟩ := h
    rfl
  · obtain ⟨p, c, rfl, hP, q⟩ := h
    refine ⟨_, 
      (pss_cons (ps_asg (pe_ix ix_list (pe_lst (pa_cons (pe_tup (pa_cons pe_int (pa_cons pe_int (pa_cons pe_int pa_nil)))) (pa_cons (pe_tup (pa_cons pe_int (pa_cons pe_int (pa_cons pe_int pa_nil)))) (pa_cons (pe_tup (pa_cons pe_int (pa_cons pe_int (pa_cons pe_int pa_nil)))) (pa_cons (pe_tup (pa_cons pe_int (pa_cons pe_int (pa_cons pe_int pa_nil)))) (pa_cons (pe_tup (pa_cons pe_int (pa_cons pe_int (pa_cons pe_int pa_nil)))) (pa_cons (pe_tup (pa_cons pe_int (pa_cons pe_int (pa_cons pe_int pa_nil)))) pa_nil))))))) (pe_callG (G_law_draw T) gd (hr.mono (by decide)) rfl T.law_draw.g T.law_draw.F.kp T.law_draw.b .nil pass0 (pa_cons (pv 0) (pa_cons pe_int pa_nil))) (fun _ _ => rfl)) (pg_tup rfl (pgs_cons (pg_name (i := 1) sc_law_few_plan.nd rfl (.inl rfl)) (pgs_cons (pg_name (i := 2) sc_law_few_plan.nd rfl (.inl rfl)) (pgs_cons (pg_name (i := 3) sc_law_few_plan.nd rfl (.inl rfl)) pgs_nil))))) -- words, states, held = [(1, 3, 2), (1, 3, 2), (2, 2, 2), (2, 3, 1), (3, 2, 1), (1, 6, 1)][_law_draw(pen, 6)]
      (pss_one (ps_ret (pe_callG (G_law_plan T) gd (hr.mono (by decide)) rfl T.law_plan.g T.law_plan.F.kp T.law_plan.b .nil pass0 (pa_cons (pv 0) (pa_cons (pv 1) (pa_cons (pv 2) (pa_cons (pv 3) pa_nil))))))) -- return _law_plan(pen, words, states, held)
      ) , ?_⟩
    refine ⟨by show 3 ≤ sizeLine; decide, fun t0 n0 => ⟨by show 3 ≤ sizeLine; decide, fun t1 n1 => ⟨by show 3 ≤ sizeLine; decide, fun t2 n2 => ⟨by show 3 ≤ sizeLine; decide, fun t3 n3 => ⟨by show 3 ≤ sizeLine; decide, fun t4 n4 => ⟨by show 3 ≤ sizeLine; decide, fun t5 n5 => ⟨by show 6 ≤ sizeLine; decide, fun L nL => ?_⟩⟩⟩⟩⟩⟩⟩
    have s0 := same_new (o := .tup [.int 1, .int 3, .int 2]) n0
    have s1 := same_new (o := .tup [.int 1, .int 3, .int 2]) n1
    have s2 := same_new (o := .tup [.int 2, .int 2, .int 2]) n2
    have s3 := same_new (o := .tup [.int 2, .int 3, .int 1]) n3
    have s4 := same_new (o := .tup [.int 3, .int 2, .int 1]) n4
    have s5 := same_new (o := .tup [.int 1, .int 6, .int 1]) n5
    have sL := same_new (o := .lst [.ref t0, .ref t1, .ref t2, .ref t3, .ref t4, .ref t5]) nL
    have g0 := sL (t0) (.tup [.int 1, .int 3, .int 2]) (s5 _ _ (s4 _ _ (s3 _ _ (s2 _ _ (s1 _ _ upd_same)))))
    have g1 := sL (t1) (.tup [.int 1, .int 3, .int 2]) (s5 _ _ (s4 _ _ (s3 _ _ (s2 _ _ upd_same))))
    have g2 := sL (t2) (.tup [.int 2, .int 2, .int 2]) (s5 _ _ (s4 _ _ (s3 _ _ upd_same)))
    have g3 := sL (t3) (.tup [.int 2, .int 3, .int 1]) (s5 _ _ (s4 _ _ upd_same))
    have g4 := sL (t4) (.tup [.int 3, .int 2, .int 1]) (s5 _ _ upd_same)
    have g5 := sL (t5) (.tup [.int 1, .int 6, .int 1]) upd_same
    have sA := (((((s0.trans s1).trans s2).trans s3).trans s4).trans s5).trans sL
    have hPp : H p ≠ none := hP.some'
    have ne : ∀ t, H t = none → t ≠ p := fun t h e => hPp (e ▸ h)
    have fo : ∀ {H' : Hp} {t : Addr}, Same H H' → H' t = none → t ≠ p := fun {H' t} s n => ne t (by
      cases e : H t with
      | none => rfl
      | some o => rw [s _ _ e] at n; cases n)
    have f0 := fo (Same.refl H) n0
    have f1 := fo s0 n1
    have f2 := fo (s0.trans s1) n2
    have f3 := fo ((s0.trans s1).trans s2) n3
    have f4 := fo (((s0.trans s1).trans s2).trans s3) n4
    have f5 := fo ((((s0.trans s1).trans s2).trans s3).trans s4) n5
    have fL := fo (((((s0.trans s1).trans s2).trans s3).trans s4).trans s5) nL
    have hP6 := hP.mono sA
    refine ⟨.ref p, rfl, p, c, 6, rfl, hP6, by decide, by decide, fun d H7 d0 d1 k7 hP7 => ?_⟩
    have hL7 := k7 L _ upd_same fL
    have kk : Keep p H H7 := (Keep.same sA).trans k7
    have hd : d = 0 ∨ d = 1 ∨ d = 2 ∨ d = 3 ∨ d = 4 ∨ d = 5 := by omega
    rcases hd with rfl | rfl | rfl | rfl | rfl | rfl
    · refine ⟨L, _, 0, .ref t0, rfl, rfl, SqL.of hL7, atI_nat (j := 0) rfl, t0, _, rfl, SqT.of (k7 _ _ g0 f0), rfl, .int 1, [.int 3, .int 2], rfl, .int 3, [.int 2], rfl, .int 2, [], rfl, rfl, ?_⟩
      exact ⟨.ref p, rfl, .int 1, rfl, .int 3, rfl, .int 2, rfl, p, c, 1, 3, 2, rfl, hP7, by decide, by decide, by decide, by decide, by decide, by decide, fun l kl rl pl H8 _ k8 hP8 fl fk fr hp ok _ => q l kl rl pl H8 (kk.trans k8) hP8 (kk.free hP7.some' fl) (kk.free hP7.some' fk) (kk.free hP7.some' fr) hp ok⟩
    · refine ⟨L, _, 1, .ref t1, rfl, rfl, SqL.of hL7, atI_nat (j := 1) rfl, t1, _, rfl, SqT.of (k7 _ _ g1 f1), rfl, .int 1, [.int 3, .int 2], rfl, .int 3, [.int 2], rfl, .int 2, [], rfl, rfl, ?_⟩
      exact ⟨.ref p, rfl, .int 1, rfl, .int 3, rfl, .int 2, rfl, p, c, 1, 3, 2, rfl, hP7, by decide, by decide, by decide, by decide, by decide, by decide, fun l kl rl pl H8 _ k8 hP8 fl fk fr hp ok _ => q l kl rl pl H8 (kk.trans k8) hP8 (kk.free hP7.some' fl) (kk.free hP7.some' fk) (kk.free hP7.some' fr) hp ok⟩
    · refine ⟨L, _, 2, .ref t2, rfl, rfl, SqL.of hL7, atI_nat (j := 2) rfl, t2, _, rfl, SqT.of (k7 _ _ g2 f2), rfl, .int 2, [.int 2, .int 2], rfl, .int 2, [.int 2], rfl, .int 2, [], rfl, rfl, ?_⟩
      exact ⟨.ref p, rfl, .int 2, rfl, .int 2, rfl, .int 2, rfl, p, c, 2, 2, 2, rfl, hP7, by decide, by decide, by decide, by decide, by decide, by decide, fun l kl rl pl H8 _ k8 hP8 fl fk fr hp ok _ => q l kl rl pl H8 (kk.trans k8) hP8 (kk.free hP7.some' fl) (kk.free hP7.some' fk) (kk.free hP7.some' fr) hp ok⟩
    · refine ⟨L, _, 3, .ref t3, rfl, rfl, SqL.of hL7, atI_nat (j := 3) rfl, t3, _, rfl, SqT.of (k7 _ _ g3 f3), rfl, .int 2, [.int 3, .int 1], rfl, .int 3, [.int 1], rfl, .int 1, [], rfl, rfl, ?_⟩
      exact ⟨.ref p, rfl, .int 2, rfl, .int 3, rfl, .int 1, rfl, p, c, 2, 3, 1, rfl, hP7, by decide, by decide, by decide, by decide, by decide, by decide, fun l kl rl pl H8 _ k8 hP8 fl fk fr hp ok _ => q l kl rl pl H8 (kk.trans k8) hP8 (kk.free hP7.some' fl) (kk.free hP7.some' fk) (kk.free hP7.some' fr) hp ok⟩
    · refine ⟨L, _, 4, .ref t4, rfl, rfl, SqL.of hL7, atI_nat (j := 4) rfl, t4, _, rfl, SqT.of (k7 _ _ g4 f4), rfl, .int 3, [.int 2, .int 1], rfl, .int 2, [.int 1], rfl, .int 1, [], rfl, rfl, ?_⟩
      exact ⟨.ref p, rfl, .int 3, rfl, .int 2, rfl, .int 1, rfl, p, c, 3, 2, 1, rfl, hP7, by decide, by decide, by decide, by decide, by decide, by decide, fun l kl rl pl H8 _ k8 hP8 fl fk fr hp ok _ => q l kl rl pl H8 (kk.trans k8) hP8 (kk.free hP7.some' fl) (kk.free hP7.some' fk) (kk.free hP7.some' fr) hp ok⟩
    · refine ⟨L, _, 5, .ref t5, rfl, rfl, SqL.of hL7, atI_nat (j := 5) rfl, t5, _, rfl, SqT.of (k7 _ _ g5 f5), rfl, .int 1, [.int 6, .int 1], rfl, .int 6, [.int 1], rfl, .int 1, [], rfl, rfl, ?_⟩
      exact ⟨.ref p, rfl, .int 1, rfl, .int 6, rfl, .int 1, rfl, p, c, 1, 6, 1, rfl, hP7, by decide, by decide, by decide, by decide, by decide, by decide, fun l kl rl pl H8 _ k8 hP8 fl fk fr hp ok _ => q l kl rl pl H8 (kk.trans k8) hP8 (kk.free hP7.some' fl) (kk.free hP7.some' fk) (kk.free hP7.some' fr) hp ok⟩
end
abbrev Cfg := Int × List Int
def verC (PL : Plan) (s : Cfg) : Int := verAt PL.kinds s.1
def Wds (PL : Plan) (ms : List (Int × Int)) : Prop := ∀ m ∈ ms, 0 ≤ m.1 ∧ m.1 < PL.words
def Alk (PL : Plan) (c c' : Cfg) : Prop := ∀ ms, Wds PL ms → verC PL (runM PL.rules c ms) = verC PL (runM PL.rules c' ms)
theorem Alk.refl {PL : Plan} (c : Cfg) : Alk PL c c := fun _ _ => rfl
theorem Alk.symm {PL : Plan} {c c' : Cfg} (h : Alk PL c c') : Alk PL c' c := fun ms hw => (h ms hw).symm
theorem Alk.trans {PL : Plan} {a b c : Cfg} (h : Alk PL a b) (h' : Alk PL b c) : Alk PL a c := fun ms hw => (h ms hw).trans (h' ms hw)
theorem Wds.nil {PL : Plan} : Wds PL [] := fun _ h => by cases h
theorem Wds.cons {PL : Plan} {m : Int × Int} {ms : List (Int × Int)} (h : 0 ≤ m.1 ∧ m.1 < PL.words) (hw : Wds PL ms) : Wds PL (m :: ms) := fun x hx => by
  rcases List.mem_cons.mp hx with e | e
  · rw [e]; exact h
  · exact hw x e
theorem Wds.snoc {PL : Plan} {m : Int × Int} {ms : List (Int × Int)} (hw : Wds PL ms) (h : 0 ≤ m.1 ∧ m.1 < PL.words) : Wds PL (ms ++ [m]) := fun x hx => by
  rcases List.mem_append.mp hx with e | e
  · exact hw x e
  · rw [List.mem_singleton.mp e]; exact h
theorem Alk.step {PL : Plan} {c c' : Cfg} (h : Alk PL c c') {m : Int × Int} (hm : 0 ≤ m.1 ∧ m.1 < PL.words) : Alk PL (stepM PL.rules c m) (stepM PL.rules c' m) := fun ms hw => h (m :: ms) (Wds.cons hm hw)
theorem runM_snoc (R : List PRule) (s : Cfg) (ms : List (Int × Int)) (m : Int × Int) : runM R s (ms ++ [m]) = stepM R (runM R s ms) m := by
  unfold runM
  rw [List.foldl_append]
  rfl
structure CfOk (PL : Plan) (c : Cfg) : Prop where
  s : StOk PL.kinds c
  nd : c.2.Nodup
theorem CfOk.step {PL : Plan} (o : PlanOk PL) {c : Cfg} (h : CfOk PL c) (m : Int × Int) : CfOk PL (stepM PL.rules c m) := ⟨step_ok o.r h.s m, (step_nd o h.s h.nd m.1 m.2).1⟩
theorem CfOk.run {PL : Plan} (o : PlanOk PL) : ∀ (ms : List (Int × Int)) {c : Cfg}, CfOk PL c → CfOk PL (runM PL.rules c ms)
  | [], _, h => h
  | m :: ms, _, h => CfOk.run o ms (h.step o m)
def sumA (l : List Int) : Nat := (l.map Int.natAbs).sum
theorem sumA_bd : ∀ {l : List Int} {v : Int}, v ∈ l → v < 100 + (sumA l : Int)
  | a :: r, v, h => by
    have e : sumA (a :: r) = a.natAbs + sumA r := by
      unfold sumA
      rw [List.map_cons, List.sum_cons]
    rcases List.mem_cons.mp h with z | z
    · rw [z]
      omega
    · have := sumA_bd z
      omega
def sitC (c c' : Cfg) : Sit := (c.1, c'.1, eqM c.2 c'.2)
theorem good_of {PL : Plan} {c c' : Cfg} (a : CfOk PL c) (b : CfOk PL c') : Good PL (sitC c c') c.2 c'.2 (sumA (c.2 ++ c'.2)) := ⟨a.s, b.s, a.nd, b.nd, fun _ hv => sumA_bd hv, rfl⟩
theorem alk_run {PL : Plan} (o : PlanOk PL) : ∀ (ms : List (Int × Int)) {c c' : Cfg}, CfOk PL c → CfOk PL c' → ¬ Ul PL PL (sitC c c') → Wds PL ms → verC PL (runM PL.rules c ms) = verC PL (runM PL.rules c' ms)
  | [], c, c', a, b, h, _ => by
    by_cases e : verC PL c = verC PL c'
    · exact e
    · refine absurd ⟨_, Rch.base List.mem_cons_self, ?_⟩ h
      show (!decide (verC PL c = verC PL c')) = true
      rw [decide_eq_false e]
      rfl
  | m :: ms, c, c', a, b, h, hw => by
    have hm := hw m List.mem_cons_self
    have hwd := o.w
    obtain ⟨x, hx, ex⟩ := (good_of a b).sound o (w := m.1.toNat) (by omega) m.2
    have e : ((m.1.toNat : Nat) : Int) = m.1 := by omega
    rw [e] at ex
    refine alk_run o ms (a.step o m) (b.step o m) (fun u => h ?_) (fun y hy => hw y (List.mem_cons_of_mem _ hy))
    obtain ⟨s, r, hs⟩ := u
    refine ⟨s, Rch.trans (.step (.base List.mem_cons_self) hx) ?_, hs⟩
    rw [ex]
    exact r
theorem rch_run {PL : Plan} (o : PlanOk PL) {c c' : Cfg} (a : CfOk PL c) (b : CfOk PL c') {s : Sit} (r : Rch PL PL [sitC c c'] s) : ∃ ms, Wds PL ms ∧ s = sitC (runM PL.rules c ms) (runM PL.rules c' ms) := by
  induction r with
  | base h => exact ⟨[], Wds.nil, List.mem_singleton.mp h⟩
  | @step s x r hx ih =>
    obtain ⟨ms, hw, e⟩ := ih
    rw [e] at hx
    obtain ⟨w, hw', v, _, ex⟩ := (good_of (a.run o ms) (b.run o ms)).full o hx
    have hwd := o.w
    refine ⟨ms ++ [((w : Int), v)], hw.snoc (by dsimp only; omega), ?_⟩
    rw [runM_snoc, runM_snoc, ex]
    rfl
theorem alk_iff {PL : Plan} (o : PlanOk PL) {c c' : Cfg} (a : CfOk PL c) (b : CfOk PL c') : Alk PL c c' ↔ ¬ Ul PL PL (sitC c c') := by
  constructor
  · rintro h ⟨s, r, hs⟩
    obtain ⟨ms, hw, rfl⟩ := rch_run o a b r
    have : verC PL (runM PL.rules c ms) = verC PL (runM PL.rules c' ms) := h ms hw
    have hs : (!decide (verC PL (runM PL.rules c ms) = verC PL (runM PL.rules c' ms))) = true := hs
    rw [decide_eq_true this] at hs
    cases hs
  · exact fun h ms hw => alk_run o ms a b h hw
theorem eqM_oth {f g : List Int} {i : Nat} (nf : f.Nodup) (ng : g.Nodup) (l : g.length = f.length) (h : ∀ j, j < f.length → j ≠ i → nth g j = nth f j) (h1 : i < f.length → nth f i ∉ g) : eqM f g = othF f.length (i : Int) := by
  unfold eqM eqF othF
  refine fm_congr fun x hx => ?_
  have hx := List.mem_range.mp hx
  rw [List.getElem?_eq_getElem hx, Option.bind_some]
  by_cases e : x = i
  · subst e
    rw [if_pos rfl, ← nth_at hx, if_neg (h1 hx)]
  · have e' : ¬ (x : Int) = (i : Int) := by omega
    have hg := h x hx e
    have hx' : x < g.length := by omega
    rw [if_neg e', ← nth_at hx, ← hg]
    have hm : nth g x ∈ g := nth_mem.mpr ⟨x, hx', rfl⟩
    rw [if_pos hm]
    have : g.idxOf (nth g x) = x := by
      have hi := List.idxOf_lt_length_iff.mpr hm
      have h2 := (idx_first hm).1
      refine nth_inj ng hi hx' ?_
      unfold nth at h2 ⊢
      rw [h2]
      rfl
    rw [this]
theorem nth_set {f : List Int} {i j : Nat} {z : Int} (hj : j < f.length) : nth (f.set i z) j = if i = j then z else nth f j := by
  unfold nth
  rw [List.getElem?_set]
  by_cases e : i = j
  · subst e
    rw [if_pos rfl, if_pos rfl, if_pos hj]
    rfl
  · rw [if_neg e, if_neg e]
theorem set_nd {f : List Int} (nd : f.Nodup) {i : Nat} {z : Int} (hz : z ∉ f) : (f.set i z).Nodup := by
  refine nd_nth fun a b hab hb => ?_
  rw [List.length_set] at hb
  rw [nth_set (by omega), nth_set hb]
  have hfa : nth f a ∈ f := nth_mem.mpr ⟨a, by omega, rfl⟩
  have hfb : nth f b ∈ f := nth_mem.mpr ⟨b, hb, rfl⟩
  by_cases e1 : i = a
  · rw [if_pos e1, if_neg (by omega)]
    exact fun e => hz (e ▸ hfb)
  · rw [if_neg e1]
    by_cases e2 : i = b
    · rw [if_pos e2]
      exact fun e => hz (e ▸ hfa)
    · rw [if_neg e2]
      exact fun e => absurd (nth_inj nd (by omega) hb e) (by omega)
theorem CfOk.set {PL : Plan} {p : Int} {f : List Int} (a : CfOk PL (p, f)) (i : Nat) {z : Int} (hz : z ∉ f) : CfOk PL (p, f.set i z) := by
  refine ⟨⟨a.s.lo, a.s.hi, ?_⟩, set_nd a.nd hz⟩
  show ((f.set i z).length : Int) = _
  rw [List.length_set]
  exact a.s.len
theorem sit_set {PL : Plan} {p : Int} {f : List Int} (a : CfOk PL (p, f)) {i : Nat} (hi : i < f.length) {z : Int} (hz : z ∉ f) : sitC (p, f) (p, f.set i z) = otherS PL.kinds p (i : Int) := by
  have hl : (f.length : Int) = heldAt PL.kinds p := a.s.len
  have hl' : f.length = (heldAt PL.kinds p).toNat := by omega
  unfold sitC otherS
  dsimp only
  rw [eqM_oth (i := i) a.nd (set_nd a.nd hz) (List.length_set ..) (fun j hj e => by rw [nth_set hj, if_neg (fun x => e x.symm)]) (fun _ h => ?_), hl']
  rcases List.mem_iff_getElem.mp h with ⟨j, hj, e⟩
  rw [List.length_set] at hj
  have e2 : nth (f.set i z) j = nth f i := by
    rw [nth_at (by rw [List.length_set]; exact hj), e]
  rw [nth_set hj] at e2
  by_cases q : i = j
  · rw [if_pos q] at e2
    exact hz (e2 ▸ nth_mem.mpr ⟨i, hi, rfl⟩)
  · rw [if_neg q] at e2
    exact q (nth_inj a.nd hj hi e2).symm
theorem need_iff {PL : Plan} (o : PlanOk PL) {p : Int} {f : List Int} (a : CfOk PL (p, f)) {i : Nat} (hi : i < f.length) {z : Int} (hz : z ∉ f) : need PL p (i : Int) = true ↔ ¬ Alk PL (p, f) (p, f.set i z) := by
  rw [otherS_ul, alk_iff o a (a.set i hz), sit_set a hi hz]
  exact ⟨fun h n => n h, fun h => Classical.byContradiction h⟩
/-- the needed places of a state -/
noncomputable def rowI (PL : Plan) (p : Int) : List Int := rowM PL p.toNat
theorem rowI_mem {PL : Plan} {p : Int} (p0 : 0 ≤ p) {n : Int} : n ∈ rowI PL p ↔ ∃ k : Nat, n = (k : Int) ∧ (k : Int) < heldAt PL.kinds p ∧ need PL p (k : Int) = true := by
  have e : ((p.toNat : Nat) : Int) = p := by omega
  unfold rowI rowM
  rw [e, List.mem_filter, List.mem_map]
  constructor
  · rintro ⟨⟨k, hk, rfl⟩, hn⟩
    have := List.mem_range.mp hk
    exact ⟨k, rfl, by omega, hn⟩
  · rintro ⟨k, rfl, hk, hn⟩
    exact ⟨⟨k, List.mem_range.mpr (by omega), rfl⟩, hn⟩
theorem CsIn.len {f g f0 g0 : List Int} {c : Cs} (h : CsIn c f0 g0) (l1 : f.length = f0.length) (l2 : g.length = g0.length) : CsIn c f g := by
  cases c with
  | both i j => exact ⟨h.1, by rw [l1]; exact h.2⟩
  | first i => exact ⟨h.1, by rw [l1]; exact h.2⟩
  | second j => exact ⟨h.1, by rw [l2]; exact h.2⟩
  | new => trivial
/-- the value of a case as it is now -/
theorem value_cur {f g f0 g0 : List Int} (h : Lk f g f0 g0) {c : Cs} (hc : c ∈ casesM f0 g0) : Corr f g (valueM c f g) f0 g0 (valueM c f0 g0) := by
  have l1 := h.lf
  have l2 := h.lg
  unfold casesM at hc
  rcases List.mem_append.mp hc with hc | hc
  · obtain ⟨⟨a, b⟩, hm, rfl⟩ := List.mem_map.mp hc
    obtain ⟨i, j, rfl, rfl, hi, hj, _⟩ := (eqM_mem h.ng0).mp hm
    have e : valueM (.both (i : Int) (j : Int)) f0 g0 = nth f0 i := rfl
    have e' : valueM (.both (i : Int) (j : Int)) f g = nth f i := rfl
    show Corr f g (valueM (.both (i : Int) (j : Int)) f g) f0 g0 (valueM (.both (i : Int) (j : Int)) f0 g0)
    rw [e, e']
    exact h.cF (by omega)
  · rcases List.mem_append.mp hc with hc | hc
    · obtain ⟨a, hm, rfl⟩ := List.mem_map.mp hc
      obtain ⟨i, rfl, hi, _⟩ := lone_mem.mp hm
      have e : valueM (.first (i : Int)) f0 g0 = nth f0 i := rfl
      have e' : valueM (.first (i : Int)) f g = nth f i := rfl
      rw [e, e']
      exact h.cF (by omega)
    · rcases List.mem_append.mp hc with hc | hc
      · obtain ⟨a, hm, rfl⟩ := List.mem_map.mp hc
        obtain ⟨j, rfl, hj, _⟩ := lone_mem.mp hm
        have e : valueM (.second (j : Int)) f0 g0 = nth g0 j := rfl
        have e' : valueM (.second (j : Int)) f g = nth g j := rfl
        rw [e, e']
        exact h.cG (by omega)
      · rw [List.mem_singleton.mp hc]
        have out := leastM_out (f0 ++ g0)
        have out' := leastM_out (f ++ g)
        exact h.cN (fun z => out' (List.mem_append.mpr (.inl z))) (fun z => out' (List.mem_append.mpr (.inr z))) (fun z => out (List.mem_append.mpr (.inl z))) (fun z => out (List.mem_append.mpr (.inr z)))
/-- amid a continuation -/
structure CtW (PL : Plan) (kw : List Sit) (s : Sit) (H0 : Hp) (ml : Addr) (H : Hp) (k : Sit) (f g : List Int) (xs : List V) (ms : List (Int × Int)) : Prop where
  kp : NLx ml H0 H
  at_ : H ml = some (.lst xs)
  ts : TDs H xs (ms.map pairD)
  mem : k ∈ kw
  c1 : CfOk PL (k.1, f)
  c2 : CfOk PL (k.2.1, g)
  e : k.2.2 = eqM f g
  l1 : (k.1, f) = runM PL.rules (s.1, (heldM PL PL s).1) ms
  l2 : (k.2.1, g) = runM PL.rules (s.2.1, (heldM PL PL s).2) ms
  n : ms.length + kw.idxOf k ≤ kw.idxOf s
def CtV (PL : Plan) (kw : List Sit) (s : Sit) (H0 : Hp) (t W ml : Addr) : Nat → L2.St → Hp → Prop := fun m σ H => ∃ (v : V) (x y : Addr) (k : Sit) (f g : List Int) (xs : List V) (ms : List (Int × Int)) (y6 y7 y8 y9 y10 : Option V),
  σ = [some (.ref t), some v, some (.ref W), some (.ref x), some (.ref y), some (.ref ml), y6, y7, y8, y9, y10] ∧ CtW PL kw s H0 ml H k f g xs ms ∧ TD H v (sitD k) ∧ HT H x f ∧ HT H y g ∧ m = kw.idxOf k
def sp_continuation_along (P : Program) (w : World) (K : PySem.W.Frag) (C : Addr) : Sp := fun us H Q _ => ∃ (t : Addr) (v : V) (W : Addr) (a b : WA) (PL : Plan) (s : Sit) (kw es : List Sit) (kvw : List (NestedKey × V)), us = [.ref t, v, .ref W] ∧ PairAt K C H t a b PL PL ∧ TD H v (sitD s) ∧ SitIn PL PL s ∧
  NDict P w H W kvw ∧ (∀ e ∈ es, unl PL PL e = true) ∧ VlW PL PL es H kw kvw ∧ kw.length ≤ 100000 ∧ s ∈ kw ∧ CfOk PL (s.1, (heldM PL PL s).1) ∧ CfOk PL (s.2.1, (heldM PL PL s).2) ∧ s.2.2 = eqM (heldM PL PL s).1 (heldM PL PL s).2 ∧
  ∀ (r : Addr) (xs : List V) (ms : List (Int × Int)) H', Same H H' → H' r = some (.tup xs) → TDs H' xs (ms.map pairD) → verAt PL.kinds (runM PL.rules (s.1, (heldM PL PL s).1) ms).1 ≠ verAt PL.kinds (runM PL.rules (s.2.1, (heldM PL PL s).2) ms).1 → Q (.ref r) H'
section
variable {P : Program} {w : World} {K : PySem.W.Frag} {mg : Str → Option Value} {base : Heap}
abbrev N_continuation_along : List Str := ["pair", "situation", "ways", "first", "second", "messages", "word", "case", "there", "value", "_"]
theorem sc_continuation_along : FnScope N_continuation_along ["pair", "situation", "ways"] (defScope s_continuation_along) := ⟨rfl, rfl, rfl, by decide +kernel, rfl, by decide +kernel, by decide +kernel⟩
theorem G_continuation_along (T : Tx K mg) : FnG P w K mg base CX0 3 T.continuation_along.f T.continuation_along.fd ["pair", "situation", "ways"] (sp_continuation_along P w K T.Watcher.C) := by
  refine okG T.continuation_along.F sc_continuation_along (fun vs H Q E h => ?_) (fun cdv A outer s H vs Q E gd hr h => ?_)
  · obtain ⟨t, v, W, a, b, PL, s, kw, es, kvw, rfl, _⟩ := h
    rfl
  · obtain ⟨t, v, W, a, b, PL, st, kw, es, kvw, rfl, hp, hv, hin, hND, hes, hVl, lkw, hsk, hc1, hc2, hse, q⟩ := h
    refine ⟨_, 
      (C8.pss_cut (ps_asg (pe_callG (G_held_numbers T) gd (hr.mono (by decide)) rfl T.held_numbers.g T.held_numbers.F.kp T.held_numbers.b .nil pass0 (pa_cons (pv 0) (pa_cons (pv 1) pa_nil))) (pg_tup rfl (pgs_cons (pg_name (i := 3) sc_continuation_along.nd rfl (.inl rfl)) (pgs_cons (pg_name (i := 4) sc_continuation_along.nd rfl (.inl rfl)) pgs_nil)))) -- first, second = held_numbers(pair, situation)
      (pss_cons (ps_set (i := 5) sc_continuation_along.nd rfl (.inl rfl) (pe_lst pa_nil)) -- messages = []
      (pss_cons (ps_while PassesOwn.never (pt_cmp (pc_notN (pe_getN hr.units (pv 2) (pv 1)))) 
        (pss_cons (ps_asg (pe_getN hr.units (pv 2) (pv 1)) (pg_tup rfl (pgs_cons (pg_name (i := 6) sc_continuation_along.nd rfl (.inl rfl)) (pgs_cons (pg_name (i := 7) sc_continuation_along.nd rfl (.inl rfl)) (pgs_cons (pg_name (i := 8) sc_continuation_along.nd rfl (.inl rfl)) pgs_nil))))) -- word, case, there = ways[situation]
        (pss_cons (ps_set (i := 9) sc_continuation_along.nd rfl (.inl rfl) (pe_callG (G_value_of T) gd (hr.mono (by decide)) rfl T.value_of.g T.value_of.F.kp T.value_of.b .nil pass0 (pa_cons (pv 7) (pa_cons (pv 3) (pa_cons (pv 4) pa_nil))))) -- value = value_of(case, first, second)
        (pss_cons (ps_expr (pe_bm PySem.F.plainAttrs_list PySem.F.slot_list_append PySem.F.type_list_append mt_append (pv 5) (pa_cons (pe_tup (pa_cons (pv 6) (pa_cons (pv 9) pa_nil))) pa_nil))) -- messages.append((word, value))
        (pss_cons (ps_asg (pe_callG (G_after_message T) gd (hr.mono (by decide)) rfl T.after_message.g T.after_message.F.kp T.after_message.b .nil pass0 (pa_cons (pe_ix ix_tup (pv 0) pe_int (fun _ _ => rfl)) (pa_cons (pe_ix ix_tup (pv 1) pe_int (fun _ _ => rfl)) (pa_cons (pv 3) (pa_cons (pv 6) (pa_cons (pv 9) pa_nil)))))) (pg_tup rfl (pgs_cons (pg_name (i := 10) sc_continuation_along.nd rfl (.inl rfl)) (pgs_cons (pg_name (i := 3) sc_continuation_along.nd rfl (.inl rfl)) pgs_nil)))) -- _, first = after_message(pair[0], situation[0], first, word, value)
        (pss_cons (ps_asg (pe_callG (G_after_message T) gd (hr.mono (by decide)) rfl T.after_message.g T.after_message.F.kp T.after_message.b .nil pass0 (pa_cons (pe_ix ix_tup (pv 0) pe_int (fun _ _ => rfl)) (pa_cons (pe_ix ix_tup (pv 1) pe_int (fun _ _ => rfl)) (pa_cons (pv 4) (pa_cons (pv 6) (pa_cons (pv 9) pa_nil)))))) (pg_tup rfl (pgs_cons (pg_name (i := 10) sc_continuation_along.nd rfl (.inl rfl)) (pgs_cons (pg_name (i := 4) sc_continuation_along.nd rfl (.inl rfl)) pgs_nil)))) -- _, second = after_message(pair[1], situation[1], second, word, value)
        (pss_one (ps_set (i := 1) sc_continuation_along.nd rfl (.inl rfl) (pv 8))) -- situation = there
        )))))) -- while ways[situation] is not None:
      (pss_one (ps_ret (pe_callTy call_tuple_of (by rfl) T.m_tuple (by decide +kernel) (pa_cons (pv 5) pa_nil)))) -- return tuple(messages)
      ))) , ?_⟩
    have L5 : 4000000 ≤ sizeLine := by decide
    refine ⟨fun σ H' => ∃ x y, σ = [some (.ref t), some v, some (.ref W), some (.ref x), some (.ref y), none, none, none, none, none, none] ∧ Same H H' ∧ HT H' x (heldM PL PL st).1 ∧ HT H' y (heldM PL PL st).2, ?_, ?_⟩
    · clear q
      exact ⟨.ref t, rfl, v, rfl, t, v, a, b, PL, PL, st, rfl, hp, hv, hin, fun r x y H' s1 hr hx hy => ⟨r, _, rfl, SqT.of hr, rfl, .ref x, [.ref y], rfl, .ref y, [], rfl, rfl, x, y, rfl, s1, hx, hy⟩⟩
    rintro σ H1 ⟨x, y, rfl, s1, hx, hy⟩
    refine ⟨by show 0 ≤ sizeLine; decide, fun ml nml => ?_⟩
    have sml := same_new (o := .lst []) nml
    have hml : (upd H1 ml (.lst [])) ml = some (.lst []) := upd_same
    have nmlH : H ml = none := by
      cases e : H ml with
      | none => rfl
      | some o => rw [s1 _ _ e] at nml; cases nml
    have s2 := s1.trans sml
    have hx2 := hx.mono sml
    have hy2 := hy.mono sml
    generalize upd H1 ml (.lst []) = H2 at sml hml s2 hx2 hy2
    have hND2 := hND.mono s2
    have hVl2 := hVl.mono (Tups.same s2)
    have hp2 := hp.mono s2
    have nWml : W ≠ ml := fun e => by
      obtain ⟨φ, eW⟩ := hND2.some
      rw [e, hml] at eW
      cases eW
    refine ⟨CtV PL kw st H2 t W ml, ⟨kw.idxOf st, v, x, y, st, _, _, [], [], none, none, none, none, none, rfl, ⟨fun c o e _ => e, hml, .nil, hsk, hc1, hc2, hse, rfl, rfl, by simp⟩, TD.mono (Tups.same s2) _ hv, hx2, hy2, rfl⟩, fun m σ H3 hV => ?_⟩
    obtain ⟨v3, x3, y3, k, f, g, xs, ms, y6, y7, y8, y9, y10, rfl, hC, hv3, hx3, hy3, rfl⟩ := hV
    have tp3 : Tups H2 H3 := fun c ys e => hC.kp c _ e fun z => by rw [z, hml] at e; cases e
    have hND3 : NDict P w H3 W kvw := hND2.keep tp3 fun o e => hC.kp _ _ e nWml
    obtain ⟨vv, hval, hcase⟩ := hVl2.val k hC.mem
    refine ⟨.ref W, rfl, v3, rfl, W, sitK k, kvw, vv, rfl, sit_key hv3, hND3, hval, ?_⟩
    rcases hcase with ⟨hke, rfl⟩ | ⟨X, hX, hvX, hXm, hXi⟩
    · refine ⟨false, rfl, iteF ?_⟩
      refine ⟨.ref ml, rfl, ml, xs, rfl, .inl ⟨SqL.of hC.at_, fun r nr => ?_⟩⟩
      have sr := same_new (o := .tup xs) nr
      refine q r xs ms _ (fun c o e => sr _ _ (hC.kp c o (s2 _ _ e) fun z => by rw [z, nmlH] at e; cases e)) upd_same (hC.ts.mono (Tups.same sr)) ?_
      rw [← hC.l1, ← hC.l2]
      have hu := hes k hke
      unfold unl at hu
      simpa using hu
    · obtain ⟨ta, us, rfl, hta, hus⟩ := hvX.isTup
      refine ⟨true, rfl, iteT ?_⟩
      clear q
      have sH3 : Same H H3 := fun c o e => hC.kp c o (s2 _ _ e) fun z => by rw [z, nmlH] at e; cases e
      have okP := hp.w1.ok
      have hgood := good_of hC.c1 hC.c2
      have hek : sitC (k.1, f) (k.2.1, g) = k := by
        unfold sitC
        dsimp only
        rw [← hC.e]
      rw [hek] at hgood
      have hlk := hgood.lk
      obtain ⟨wn, hwn, hX2⟩ := List.mem_flatMap.mp hX
      obtain ⟨c, hc, rfl⟩ := List.mem_map.mp hX2
      have hcin : CsIn c f g := (casesM_in hc).len hlk.lf hlk.lg
      have hth : afterM PL PL k (heldM PL PL k).1 (heldM PL PL k).2 (wn : Int) c = sitOf PL k.1 k.2.1 f g (wn : Int) (valueM c f g) := (corr_step okP (wn : Int) (value_cur hlk hc) hC.c1.s hC.c2.s).symm
      dsimp only at hXm hXi hus
      rw [hth] at hXm hXi
      have lf := hC.c1.s.len
      have lg := hC.c2.s.len
      have bf := held_bd okP.k hC.c1.s.lo hC.c1.s.hi
      have bg := held_bd okP.k hC.c2.s.lo hC.c2.s.hi
      dsimp only at lf lg bf bg
      obtain ⟨sv, ss, rfl, hsv, hss⟩ := hv3.isTup
      cases hss with
      | cons g1 hss =>
      cases g1
      cases hss with
      | cons g2 hss =>
      cases g2
      cases hss with
      | @cons z3 dz3 zs3 dzs3 g3 hss =>
      cases hss
      have hus2 : TDs H2 us [.int (wn : Int), csD c, sitD (afterM PL PL k (heldM PL PL k).1 (heldM PL PL k).2 (wn : Int) c)] := hus
      clear hus
      rw [hth] at hus2
      cases hus2 with
      | cons h1 hus2 =>
      cases h1
      cases hus2 with
      | @cons u2 d2 us2 ds2 h2 hus2 =>
      cases hus2 with
      | @cons u3 d3 us3 ds3 h3 hus2 =>
      cases hus2
      have hnx1 := hC.c1.step okP ((wn : Int), valueM c f g)
      have hnx2 := hC.c2.step okP ((wn : Int), valueM c f g)
      have hlen := hC.n
      have hki := List.idxOf_lt_length_iff.mpr hsk
      have lxs : xs.length = ms.length := by
        have := hC.ts.len
        rwa [List.length_map] at this
      refine ⟨fun σ' H' => ∃ m', m' < kw.idxOf k ∧ CtV PL kw st H2 t W ml m' σ' H', fun σ' H' h => h, ?_⟩
      refine ⟨.ref W, rfl, .ref sv, rfl, W, sitK k, kvw, .ref ta, rfl, sit_key hv3, hND3, hval, ta, _, rfl, SqT.of (tp3 _ _ hta), rfl, .int (wn : Int), [u2, u3], rfl, u2, [u3], rfl, u3, [], rfl, rfl, ?_⟩
      refine ⟨u2, rfl, .ref x3, rfl, .ref y3, rfl, u2, x3, y3, c, f, g, rfl, TD.mono tp3 _ h2, hx3, hy3, by omega, by omega, hcin, fun H4 s4 => ?_⟩
      have hml4 := s4 _ _ hC.at_
      refine ⟨.ref ml, rfl, .inl ⟨rfl, _, SqL.of hml4⟩, .int (wn : Int), rfl, .int (valueM c f g), rfl, by show 2 ≤ sizeLine; decide, fun mm nmm => ?_⟩
      have s5 := same_new (o := .tup [.int (wn : Int), .int (valueM c f g)]) nmm
      have hmm : (upd H4 mm (.tup [.int (wn : Int), .int (valueM c f g)])) mm = some (.tup [.int (wn : Int), .int (valueM c f g)]) := upd_same
      have hml5 := s5 _ _ hml4
      generalize upd H4 mm (.tup [.int (wn : Int), .int (valueM c f g)]) = H5 at s5 hmm hml5
      refine ⟨ml, xs, .ref mm, rfl, rfl, hml5, by omega, ?_⟩
      have K6 : NLx ml H3 (upd H5 ml (.lst (xs ++ [.ref mm]))) := fun c o e n => by
        rw [upd_ne n]
        exact s5 _ _ (s4 _ _ e)
      have hml6 : (upd H5 ml (.lst (xs ++ [.ref mm]))) ml = some (.lst (xs ++ [.ref mm])) := upd_same
      have nmmml : mm ≠ ml := fun e => by rw [e, hml5] at hmm; cases hmm
      have hmm6 : (upd H5 ml (.lst (xs ++ [.ref mm]))) mm = some (.tup [.int (wn : Int), .int (valueM c f g)]) := by
        rw [upd_ne nmmml]
        exact hmm
      generalize upd H5 ml (.lst (xs ++ [.ref mm])) = H6 at K6 hml6 hmm6
      have tp6 : Tups H3 H6 := fun c ys e => K6 c _ e fun z => by rw [z, hC.at_] at e; cases e
      have sH6 : Same H H6 := fun c o e => K6 c o (sH3 _ _ e) fun z => by rw [z, nmlH] at e; cases e
      have hx6 : HT H6 x3 f := by
        obtain ⟨ob, e1, e2⟩ := hx3
        exact ⟨ob, K6 _ _ e1 (fun z => by rw [z, hC.at_] at e1; cases e1), e2⟩
      have hy6 : HT H6 y3 g := by
        obtain ⟨ob, e1, e2⟩ := hy3
        exact ⟨ob, K6 _ _ e1 (fun z => by rw [z, hC.at_] at e1; cases e1), e2⟩
      have hsv6 := tp6 _ _ hsv
      have hp6 := hp.mono sH6
      refine ⟨.ref t, rfl, t, _, 0, .ref a.x, rfl, rfl, hp6.sq, atI_nat (j := 0) rfl, .ref sv, rfl, sv, _, 0, .int k.1, rfl, rfl, SqT.of hsv6, atI_nat (j := 0) rfl, .ref x3, rfl, .int (wn : Int), rfl, .int (valueM c f g), rfl, a.x, a.lv, a.lh, a.d, x3, PL, k.1, f, (wn : Int), valueM c f g, rfl, hp6.w1, hx6, hC.c1.s, fun w1 H7 s7 hw1 => ?_⟩
      obtain ⟨r1, x7, rfl, hr1, hx7⟩ := hw1
      refine ⟨r1, _, rfl, SqT.of hr1, rfl, .int _, [.ref x7], rfl, .ref x7, [], rfl, rfl, ?_⟩
      have hp7 := hp6.mono s7
      refine ⟨.ref t, rfl, t, _, 1, .ref b.x, rfl, rfl, hp7.sq, atI_nat (j := 1) rfl, .ref sv, rfl, sv, _, 1, .int k.2.1, rfl, rfl, SqT.of (s7 _ _ hsv6), atI_nat (j := 1) rfl, .ref y3, rfl, .int (wn : Int), rfl, .int (valueM c f g), rfl, b.x, b.lv, b.lh, b.d, y3, PL, k.2.1, g, (wn : Int), valueM c f g, rfl, hp7.w2, hy6.mono s7, hC.c2.s, fun w2 H8 s8 hw2 => ?_⟩
      obtain ⟨r2, y8, rfl, hr2, hy8⟩ := hw2
      refine ⟨r2, _, rfl, SqT.of hr2, rfl, .int _, [.ref y8], rfl, .ref y8, [], rfl, rfl, ?_⟩
      have s68 := s7.trans s8
      have tp8 := tp6.trans (Tups.same s68)
      refine ⟨u3, rfl, kw.idxOf (sitOf PL k.1 k.2.1 f g (wn : Int) (valueM c f g)), hXi, u3, x7, y8, _, (stepM PL.rules (k.1, f) ((wn : Int), valueM c f g)).2, (stepM PL.rules (k.2.1, g) ((wn : Int), valueM c f g)).2, xs ++ [.ref mm], ms ++ [((wn : Int), valueM c f g)], _, _, _, _, _, rfl, ⟨fun c o e n => s68 _ _ (K6 c o (hC.kp c o e n) n), s68 _ _ hml6, ?_, hXm, hnx1, hnx2, rfl, ?_, ?_, ?_⟩, TD.mono tp8 _ (TD.mono tp3 _ h3), hx7.mono s8, hy8, rfl⟩
      · rw [List.map_append]
        exact tds_snoc (hC.ts.mono tp8) (.tup (s68 _ _ hmm6) (.cons (.int _) (.cons (.int _) .nil)))
      · rw [runM_one, ← hC.l1]
        rfl
      · rw [runM_one, ← hC.l2]
        rfl
      · rw [List.length_append, List.length_singleton]
        omega
end
theorem pss_dead {X : Cx} {st : List Stmt} : PSs X st (fun _ _ _ => False) := ⟨fun _ _ _ _ _ _ h => h.elim⟩
theorem pe_dead {X : Cx} {e : Expr} : PE X e (fun _ _ _ => False) := ⟨fun _ _ _ _ _ _ h => h.elim⟩
theorem pt_dead {X : Cx} {e : Expr} : PT X e (fun _ _ _ => False) := ⟨fun _ _ _ _ _ _ h => h.elim⟩
def Sd (sd : Str) : Prop := sd = "A" ∨ sd = "B"
def clV (sd : Str) (p i : Int) : List V := [.str "unneeded", .str sd, .int p, .int i]
/-- a claim about a place that is there -/
structure ClAt (H : Hp) (c : Addr) (PL : Plan) (sd : Str) (p i : Int) : Prop where
  at_ : H c = some (.tup (clV sd p i))
  sd : Sd sd
  p0 : 0 ≤ p
  p1 : p < PL.kinds.length
  i0 : 0 ≤ i
  i1 : i < heldAt PL.kinds p
theorem ClAt.mono {H H' : Hp} {c : Addr} {PL : Plan} {sd : Str} {p i : Int} (h : ClAt H c PL sd p i) (s : Same H H') : ClAt H' c PL sd p i := ⟨s _ _ h.at_, h.sd, h.p0, h.p1, h.i0, h.i1⟩
theorem ClAt.td {H : Hp} {c : Addr} {PL : Plan} {sd : Str} {p i : Int} (h : ClAt H c PL sd p i) : TD H (.ref c) (.tuple [.str "unneeded", .str sd, .int p, .int i]) := .tup h.at_ (.cons (.str _) (.cons (.str _) (.cons (.int _) (.cons (.int _) .nil))))
def sp_watcher_of (K : PySem.W.Frag) (C : Addr) : Sp := fun us H Q _ => ∃ (t : Addr) (a : WA) (PL : Plan) (sd : Str), us = [.ref t, .str sd] ∧ PairAt K C H t a a PL PL ∧ Q (.ref a.x) H
def sp_are_places (C : Addr) : Sp := fun us H Q _ => ∃ (a : WA) (PL : Plan) (p i : Int) (l : Addr), us = [.ref a.x, .int p, .ref l] ∧ WP C H a.x a.lv a.lh a.d PL ∧ 0 ≤ p ∧ p < PL.kinds.length ∧ 0 ≤ i ∧ i < heldAt PL.kinds p ∧ TD H (.ref l) (.tuple [.int i]) ∧ ∀ H', Same H H' → Q (.bl true) H'
def sp_is_claim_about (C : Addr) : Sp := fun us H Q _ => ∃ (a : WA) (PL : Plan) (p i : Int) (l : Addr), us = [.ref a.x, .str "unneeded", .ref l] ∧ WP C H a.x a.lv a.lh a.d PL ∧ 0 ≤ p ∧ p < PL.kinds.length ∧ 0 ≤ i ∧ i < heldAt PL.kinds p ∧ TD H (.ref l) (.tuple [.int p, .int i]) ∧ ∀ H', Same H H' → Q (.bl true) H'
def sp_is_claim (K : PySem.W.Frag) (C : Addr) : Sp := fun us H Q _ => ∃ (t c : Addr) (a : WA) (PL : Plan) (sd : Str) (p i : Int), us = [.ref t, .ref c] ∧ PairAt K C H t a a PL PL ∧ ClAt H c PL sd p i ∧ ∀ H', Same H H' → Q (.bl true) H'
def sp_require_claim (K : PySem.W.Frag) (C : Addr) : Sp := fun us H Q _ => ∃ (t c : Addr) (a : WA) (PL : Plan) (sd : Str) (p i : Int), us = [.ref t, .ref c] ∧ PairAt K C H t a a PL PL ∧ ClAt H c PL sd p i ∧ ∀ H', Same H H' → Q .non H'
def sp_require_paired (K : PySem.W.Frag) (C : Addr) : Sp := fun us H Q _ => ∃ (t : Addr) (a : WA) (PL : Plan), us = [.ref t] ∧ PairAt K C H t a a PL PL ∧ Q .non H
def sp_compared (K : PySem.W.Frag) (C : Addr) : Sp := fun us H Q _ => ∃ (t c : Addr) (a : WA) (PL : Plan) (sd : Str) (p i : Int), us = [.ref t, .ref c] ∧ PairAt K C H t a a PL PL ∧ ClAt H c PL sd p i ∧
  ∀ r t2 sv H', Same H H' → H' r = some (.tup [.ref t2, .ref sv]) → PairAt K C H' t2 a a PL PL → TD H' (.ref sv) (sitD (otherS PL.kinds p i)) → Q (.ref r) H'
def sp_answer (a : Str) : Sp := fun us H Q _ => ∃ (c : Addr) (PL : Plan) (sd : Str) (p i : Int), us = [.ref c] ∧ ClAt H c PL sd p i ∧ Q (.str a) H
/-- the stream tells the two apart -/
def Tells (PL : Plan) (s : Sit) (ms : List (Int × Int)) : Prop := verAt PL.kinds (runM PL.rules (s.1, (heldM PL PL s).1) ms).1 ≠ verAt PL.kinds (runM PL.rules (s.2.1, (heldM PL PL s).2) ms).1
def sp_decide (K : PySem.W.Frag) (C : Addr) : Sp := fun us H Q _ => ∃ (t c : Addr) (a : WA) (PL : Plan) (sd : Str) (p i : Int), us = [.ref t, .ref c] ∧ PairAt K C H t a a PL PL ∧ ClAt H c PL sd p i ∧
  ∀ (r z : Addr) H', Same H H' → ((Ul PL PL (otherS PL.kinds p i) ∧ H' r = some (.tup [.str "broken", .ref c, .ref z]) ∧ ∃ xs ms, H' z = some (.tup xs) ∧ TDs H' xs (ms.map pairD) ∧ Tells PL (otherS PL.kinds p i) ms) ∨ (¬ Ul PL PL (otherS PL.kinds p i) ∧ H' r = some (.tup [.str "shown", .ref c, .ref z]))) → Q (.ref r) H'
theorem str_ne {a b : Str} (h : a ≠ b) : V.bl (decide (V.str a = V.str b)) = V.bl false := congrArg V.bl (decide_eq_false (fun z => h (V.str.inj z)))
theorem str_eq (a : Str) : V.bl (decide (V.str a = V.str a)) = V.bl true := by simp
section
variable {P : Program} {w : World} {K : PySem.W.Frag} {mg : Str → Option Value} {base : Heap}
abbrev N_require_paired : List Str := ["pair"]
theorem sc_require_paired : FnScope N_require_paired ["pair"] (defScope s_require_paired) := ⟨rfl, rfl, rfl, by decide +kernel, rfl, by decide +kernel, by decide +kernel⟩
theorem G_require_paired (T : Tx K mg) : FnG P w K mg base CX0 1 T.require_paired.f T.require_paired.fd ["pair"] (sp_require_paired K T.Watcher.C) := by
  refine okG T.require_paired.F sc_require_paired (fun vs H Q E h => ?_) (fun cdv A outer s H vs Q E gd hr h => ?_)
  · obtain ⟨t, a, PL, rfl, _⟩ := h
    rfl
  · obtain ⟨t, a, PL, rfl, hp, q⟩ := h
    refine ⟨_, 
      (pss_one (ps_if (pt_cmpR op_ne (pe_fld (pe_ix ix_tup (pv 0) pe_int (fun _ _ => rfl)) rfl) (pe_fld (pe_ix ix_tup (pv 0) pe_int (fun _ _ => rfl)) rfl) (nomark _)) pss_dead pss_nil)) -- if pair[0].words != pair[1].words:
       , ?_⟩
    obtain ⟨dx, hx⟩ := hp.w1.w.ins
    refine ⟨.ref t, rfl, t, _, 0, .ref a.x, rfl, rfl, hp.sq, atI_nat (j := 0) rfl, a.x, T.Watcher.C, dx, _, .int PL.words, rfl, hx, T.Watcher.cl, T.W.n1, rfl, .ref t, rfl, t, _, 1, .ref a.x, rfl, rfl, hp.sq, atI_nat (j := 1) rfl, a.x, T.Watcher.C, dx, _, .int PL.words, rfl, hx, T.Watcher.cl, T.W.n1, rfl, rfl, false, by simp, iteF ?_⟩
    exact q
abbrev N_watcher_of : List Str := ["pair", "side"]
theorem sc_watcher_of : FnScope N_watcher_of ["pair", "side"] (defScope s_watcher_of) := ⟨rfl, rfl, rfl, by decide +kernel, rfl, by decide +kernel, by decide +kernel⟩
theorem G_watcher_of (T : Tx K mg) : FnG P w K mg base CX0 1 T.watcher_of.f T.watcher_of.fd ["pair", "side"] (sp_watcher_of K T.Watcher.C) := by
  refine okG T.watcher_of.F sc_watcher_of (fun vs H Q E h => ?_) (fun cdv A outer s H vs Q E gd hr h => ?_)
  · obtain ⟨t, a, PL, sd, rfl, _⟩ := h
    rfl
  · obtain ⟨t, a, PL, sd, rfl, hp, q⟩ := h
    refine ⟨_, 
      (pss_one (ps_ret (pe_ifExp (pt_cmpR op_eq (pv 1) pe_str (nomark _)) (pe_ix ix_tup (pv 0) pe_int (fun _ _ => rfl)) (pe_ix ix_tup (pv 0) pe_int (fun _ _ => rfl))))) -- return pair[0] if side == 'A' else pair[1]
       , ?_⟩
    by_cases e : sd = "A"
    · refine ⟨.str sd, rfl, rfl, true, by rw [e]; simp, iteT ?_⟩
      exact ⟨.ref t, rfl, t, _, 0, .ref a.x, rfl, rfl, hp.sq, atI_nat (j := 0) rfl, q⟩
    · refine ⟨.str sd, rfl, rfl, false, str_ne e, iteF ?_⟩
      exact ⟨.ref t, rfl, t, _, 1, .ref a.x, rfl, rfl, hp.sq, atI_nat (j := 1) rfl, q⟩
abbrev N_are_places : List Str := ["watcher", "state", "places", "held", "place"]
theorem sc_are_places : FnScope N_are_places ["watcher", "state", "places"] (defScope s_are_places) := ⟨rfl, rfl, rfl, by decide +kernel, rfl, by decide +kernel, by decide +kernel⟩
theorem G_are_places (T : Tx K mg) : FnG P w K mg base CX0 3 T.are_places.f T.are_places.fd ["watcher", "state", "places"] (sp_are_places T.Watcher.C) := by
  refine okG T.are_places.F sc_are_places (fun vs H Q E h => ?_) (fun cdv A outer s H vs Q E gd hr h => ?_)
  · obtain ⟨a, PL, p, i, l, rfl, _⟩ := h
    rfl
  · obtain ⟨a, PL, p, i, l, rfl, hw, p0, p1, i0, i1, hl, q⟩ := h
    refine ⟨_, 
      (pss_cons (ps_if (pt_not (pt_val (pe_callG (G_is_between T) gd (hr.mono (by decide)) rfl T.is_between.g T.is_between.F.kp T.is_between.b .nil pass0 (pa_cons (pv 1) (pa_cons pe_int (pa_cons (pe_op op_sub (pe_callB (call_lenG T.Watcher_len.M.at_ T.tf_Watcher_len (G_Watcher_len T) gd (hr.mono (by decide)) T.Watcher_len.b) (by rfl) T.m_len PySem.boot_len (pa_cons (pv 0) pa_nil)) pe_int) pa_nil)))))) pss_dead pss_nil) -- if not is_between(state, 0, len(watcher) - 1):
      (pss_cons (ps_set (i := 3) sc_are_places.nd rfl (.inl rfl) (pe_ix ix_tup (pe_meth0G (pv 0) T.Watcher.cl T.Watcher_held_counts.M (G_Watcher_held_counts T) gd (hr.mono (by decide)) T.Watcher_held_counts.b .nil pass0) (pv 1) (fun _ _ => rfl))) -- held = watcher.held_counts()[state]
      (pss_cons (ps_for PassesOwn.never rfl (pi_tup (pv 2)) (pg_name (i := 4) sc_are_places.nd rfl (.inl rfl)) 
        (pss_one (ps_if (pt_not (pt_val (pe_callG (G_is_between T) gd (hr.mono (by decide)) rfl T.is_between.g T.is_between.F.kp T.is_between.b .nil pass0 (pa_cons (pv 4) (pa_cons pe_int (pa_cons (pe_op op_sub (pv 3) pe_int) pa_nil)))))) pss_dead pss_nil)) -- if not is_between(place, 0, held - 1):
        ) -- for place in places:
      (pss_one (ps_ret pe_bl)) -- return True
      ))) , ?_⟩
    obtain ⟨dx, hx⟩ := hw.w.ins
    have hA := held_bd hw.ok.k p0 p1
    have hk6 := hw.ok.k.len
    have iA : atI ((PL.kinds.map (·.2)).map V.int) p = some (.int (heldAt PL.kinds p)) := by
      rw [← hAt_held]
      exact hs_at p0 (by rw [List.length_map]; exact p1)
    have ln : (PL.kinds.map (·.1)).length = PL.kinds.length := by rw [List.length_map]
    have bp : btw (.int p) 0 (((PL.kinds.map (·.1)).length : Int) - 1) = true := by
      show (decide (0 ≤ p) && decide (p ≤ (((PL.kinds.map (·.1)).length : Int) - 1))) = true
      rw [decide_eq_true p0, decide_eq_true (by omega)]
      rfl
    have bi : btw (.int i) 0 (heldAt PL.kinds p - 1) = true := by
      show (decide (0 ≤ i) && decide (i ≤ heldAt PL.kinds p - 1)) = true
      rw [decide_eq_true i0, decide_eq_true (by omega)]
      rfl
    obtain ⟨la, ls, el, hla, hls⟩ := hl.isTup
    obtain rfl := V.ref.inj el
    cases hls with
    | cons h1 hls =>
    cases h1
    cases hls
    refine ⟨.int p, rfl, .ref a.x, rfl, a.x, dx, _, rfl, hx, a.x, a.lv, a.lh, a.d, _, _, _, _, rfl, hw.w, (PL.kinds.map (·.1)).length, rfl, by omega, _, 1, rfl, rfl, a.x, .int p, .int p, 0, _, rfl, .int p, true, by rw [bp], iteF ?_⟩
    refine ⟨.ref a.x, rfl, a.x, dx, _, rfl, hx, rfl, a.x, a.lv, a.lh, a.d, _, _, _, _, rfl, hw.w, fun c nc => ⟨.int p, rfl, c, _, p, .int (heldAt PL.kinds p), rfl, rfl, SqT.of upd_same, iA, ?_⟩⟩
    have s1 := same_new (o := .tup ((PL.kinds.map (·.2)).map V.int)) nc
    generalize upd H c (.tup ((PL.kinds.map (·.2)).map V.int)) = H1 at s1
    refine ⟨.ref l, rfl, l, rfl, ⟨_, SqT.of (s1 _ _ hla)⟩, ?_⟩
    refine for_tup (K := K) (a := l) (xs := [.int i]) (fun j σ H' => ∃ y4, σ = [some (.ref a.x), some (.int p), some (.ref l), some (.int (heldAt PL.kinds p)), y4] ∧ H' = H1) ?_ ?_ ?_ ?_
    · exact ⟨none, rfl, rfl⟩
    · rintro j σ H' hj ⟨y4, rfl, rfl⟩
      exact SqT.of (s1 _ _ hla)
    · rintro j y σ H' hj ⟨y4, rfl, rfl⟩
      obtain rfl : y = .int i := by
        cases j with
        | zero => exact (Option.some.inj hj).symm
        | succ j => cases hj
      exact ⟨.int i, rfl, .int (heldAt PL.kinds p), rfl, _, 1, rfl, rfl, l, .int i, .int i, 0, _, rfl, .int i, true, by rw [bi], iteF ⟨_, rfl, rfl⟩⟩
    · rintro σ H' ⟨y4, rfl, rfl⟩
      exact q _ s1
abbrev N_is_claim_about : List Str := ["watcher", "kind", "parts"]
theorem sc_is_claim_about : FnScope N_is_claim_about ["watcher", "kind", "parts"] (defScope s_is_claim_about) := ⟨rfl, rfl, rfl, by decide +kernel, rfl, by decide +kernel, by decide +kernel⟩
theorem G_is_claim_about (T : Tx K mg) : FnG P w K mg base CX0 4 T.is_claim_about.f T.is_claim_about.fd ["watcher", "kind", "parts"] (sp_is_claim_about T.Watcher.C) := by
  refine okG T.is_claim_about.F sc_is_claim_about (fun vs H Q E h => ?_) (fun cdv A outer s H vs Q E gd hr h => ?_)
  · obtain ⟨a, PL, p, i, l, rfl, _⟩ := h
    rfl
  · obtain ⟨a, PL, p, i, l, rfl, hw, p0, p1, i0, i1, hl, q⟩ := h
    refine ⟨_, 
      (pss_cons (ps_if (pt_cmpR op_eq (pv 1) (pe_glob (v := .str "least") rfl T.g_LEAST ⟨_, rfl⟩) (nomark _)) pss_dead pss_nil) -- if kind == LEAST:
      (pss_cons (ps_if (pt_cmpR op_eq (pv 1) (pe_glob (v := .str "never") rfl T.g_NEVER ⟨_, rfl⟩) (nomark _)) pss_dead pss_nil) -- if kind == NEVER:
      (pss_cons (ps_if (pt_cmpR op_eq (pv 1) (pe_glob (v := .str "unneeded") rfl T.g_UNNEEDED ⟨_, rfl⟩) (nomark _)) 
        (pss_one (ps_ret (pe_and (pe_cmpR op_eq (pe_callB call_len_seq (by rfl) T.m_len PySem.boot_len (pa_cons (pv 2) pa_nil)) pe_int (nomark _)) (pe_one (pe_callG (G_are_places T) gd (hr.mono (by decide)) rfl T.are_places.g T.are_places.F.kp T.are_places.b .nil pass0 (pa_cons (pv 0) (pa_cons (pe_ix ix_tup (pv 2) pe_int (fun _ _ => rfl)) (pa_cons (pe_slice sl_D (pv 2) (po_some pe_int) po_none) pa_nil)))))))) -- return len(parts) == 2 and are_places(watcher, parts[0], parts[1:])
         pss_nil) -- if kind == UNNEEDED:
      pss_dead))) , ?_⟩
    obtain ⟨la, ls, el, hla, hls⟩ := hl.isTup
    obtain rfl := V.ref.inj el
    cases hls with
    | cons h1 hls =>
    cases h1
    cases hls with
    | cons h2 hls =>
    cases h2
    cases hls
    refine ⟨.str "unneeded", rfl, rfl, false, str_ne (by decide), iteF ?_⟩
    refine ⟨.str "unneeded", rfl, rfl, false, str_ne (by decide), iteF ?_⟩
    refine ⟨.str "unneeded", rfl, rfl, true, str_eq _, iteT ?_⟩
    refine ⟨.ref l, rfl, l, _, rfl, .inr (SqT.of hla), rfl, true, by simp, iteT ?_⟩
    refine ⟨.ref a.x, rfl, .ref l, rfl, l, _, 0, .int p, rfl, rfl, SqT.of hla, atI_nat (j := 0) rfl, .ref l, rfl, 1, rfl, _, hl, fun l2 H1 s1 hl2 => ?_⟩
    have hl2 : TD H1 (.ref l2) (.tuple [.int i]) := hl2
    exact ⟨a, PL, p, i, l2, rfl, hw.mono s1, p0, p1, i0, i1, hl2, fun H2 s2 => q H2 (s1.trans s2)⟩
abbrev N_is_claim : List Str := ["pair", "claim"]
theorem sc_is_claim : FnScope N_is_claim ["pair", "claim"] (defScope s_is_claim) := ⟨rfl, rfl, rfl, by decide +kernel, rfl, by decide +kernel, by decide +kernel⟩
theorem G_is_claim (T : Tx K mg) : FnG P w K mg base CX0 5 T.is_claim.f T.is_claim.fd ["pair", "claim"] (sp_is_claim K T.Watcher.C) := by
  refine okG T.is_claim.F sc_is_claim (fun vs H Q E h => ?_) (fun cdv A outer s H vs Q E gd hr h => ?_)
  · obtain ⟨t, c, a, PL, sd, p, i, rfl, _⟩ := h
    rfl
  · obtain ⟨t, c, a, PL, sd, p, i, rfl, hp, hc, q⟩ := h
    refine ⟨_, 
      (pss_cons (ps_if (PW.pt (pw_or (pt_not (pt_val (pe_callB (call_isL kit_tup) (by rfl) T.m_isinstance (by decide +kernel) (pa_cons (pv 1) (pa_cons (pe_bltn (v := .ty "tuple") (by rfl) T.m_tuple (by decide +kernel) (show RelV (.ty "tuple") (.type "tuple") from rfl)) pa_nil))))) (pw_or1 (pt_cmpR op_eq (pe_callB call_len_seq (by rfl) T.m_len PySem.boot_len (pa_cons (pv 1) pa_nil)) pe_int (nomark _))))) pss_dead pss_nil) -- if not isinstance(claim, tuple) or len(claim) == 0:
      (pss_cons (ps_if (pt_cmpR op_eq (pe_ix ix_tup (pv 1) pe_int (fun _ _ => rfl)) (pe_glob (v := .str "alike") rfl T.g_ALIKE ⟨_, rfl⟩) (nomark _)) pss_dead pss_nil) -- if claim[0] == ALIKE:
      (pss_cons (ps_if (pt_cmpR op_eq (pe_ix ix_tup (pv 1) pe_int (fun _ _ => rfl)) (pe_glob (v := .str "together") rfl T.g_TOGETHER ⟨_, rfl⟩) (nomark _)) pss_dead pss_nil) -- if claim[0] == TOGETHER:
      (pss_cons (ps_if (PW.pt (pw_or (pt_cmpR op_eq (pe_callB call_len_seq (by rfl) T.m_len PySem.boot_len (pa_cons (pv 1) pa_nil)) pe_int (nomark _)) (pw_or1 (pt_cmpR op_notIn_seq (pe_ix ix_tup (pv 1) pe_int (fun _ _ => rfl)) (pe_tup (pa_cons pe_str (pa_cons pe_str pa_nil))) rfl)))) pss_dead pss_nil) -- if len(claim) == 1 or claim[1] not in ('A', 'B'):
      (pss_one (ps_ret (pe_callG (G_is_claim_about T) gd (hr.mono (by decide)) rfl T.is_claim_about.g T.is_claim_about.F.kp T.is_claim_about.b .nil pass0 (pa_cons (pe_callG (G_watcher_of T) gd (hr.mono (by decide)) rfl T.watcher_of.g T.watcher_of.F.kp T.watcher_of.b .nil pass0 (pa_cons (pv 0) (pa_cons (pe_ix ix_tup (pv 1) pe_int (fun _ _ => rfl)) pa_nil))) (pa_cons (pe_ix ix_tup (pv 1) pe_int (fun _ _ => rfl)) (pa_cons (pe_slice sl_D (pv 1) (po_some pe_int) po_none) pa_nil)))))) -- return is_claim_about(watcher_of(pair, claim[1]), claim[0], claim[2:])
      )))) , ?_⟩
    obtain ⟨dx, hx⟩ := hp.w1.w.ins
    have hn : ∀ xs, H a.x ≠ some (.tup xs) := fun xs e => by rw [hx] at e; cases e
    have hld := TD.ld hn _ hc.td
    have hsq : SqT K H c (clV sd p i) := SqT.of hc.at_
    refine ⟨.ref c, rfl, a.x, .ref c, _, rfl, hld, true, rfl, iteF ?_⟩
    refine ⟨.ref c, rfl, c, _, rfl, .inr hsq, rfl, false, by simp [clV], iteF ?_⟩
    refine ⟨.ref c, rfl, c, _, 0, .str "unneeded", rfl, rfl, hsq, atI_nat (j := 0) rfl, rfl, false, str_ne (by decide), iteF ?_⟩
    refine ⟨.ref c, rfl, c, _, 0, .str "unneeded", rfl, rfl, hsq, atI_nat (j := 0) rfl, rfl, false, str_ne (by decide), iteF ?_⟩
    refine ⟨.ref c, rfl, c, _, rfl, .inr hsq, rfl, false, by simp [clV], iteF ?_⟩
    refine ⟨.ref c, rfl, c, _, 1, .str sd, rfl, rfl, hsq, atI_nat (j := 1) rfl, by show 2 ≤ sizeLine; decide, fun tb ntb => ⟨tb, _, rfl, .inr (SqT.of upd_same), rfl, rfl, false, by rcases hc.sd with e | e <;> rw [e] <;> rfl, iteF ?_⟩⟩
    have s1 := same_new (o := .tup [.str "A", .str "B"]) ntb
    generalize upd H tb (.tup [.str "A", .str "B"]) = H1 at s1
    have hc1 := hc.mono s1
    have hsq1 : SqT K H1 c (clV sd p i) := SqT.of hc1.at_
    refine ⟨.ref t, rfl, .ref c, rfl, c, _, 1, .str sd, rfl, rfl, hsq1, atI_nat (j := 1) rfl, t, a, PL, sd, rfl, hp.mono s1, .ref c, rfl, c, _, 0, .str "unneeded", rfl, rfl, hsq1, atI_nat (j := 0) rfl, .ref c, rfl, 2, rfl, _, hc1.td, fun l H2 s2 hl => ?_⟩
    have hl : TD H2 (.ref l) (.tuple [.int p, .int i]) := hl
    exact ⟨a, PL, p, i, l, rfl, (hp.w1.mono s1).mono s2, hc.p0, hc.p1, hc.i0, hc.i1, hl, fun H3 s3 => q H3 ((s1.trans s2).trans s3)⟩
abbrev N_require_claim : List Str := ["pair", "claim"]
theorem sc_require_claim : FnScope N_require_claim ["pair", "claim"] (defScope s_require_claim) := ⟨rfl, rfl, rfl, by decide +kernel, rfl, by decide +kernel, by decide +kernel⟩
theorem G_require_claim (T : Tx K mg) : FnG P w K mg base CX0 6 T.require_claim.f T.require_claim.fd ["pair", "claim"] (sp_require_claim K T.Watcher.C) := by
  refine okG T.require_claim.F sc_require_claim (fun vs H Q E h => ?_) (fun cdv A outer s H vs Q E gd hr h => ?_)
  · obtain ⟨t, c, a, PL, sd, p, i, rfl, _⟩ := h
    rfl
  · obtain ⟨t, c, a, PL, sd, p, i, rfl, hp, hc, q⟩ := h
    refine ⟨_, 
      (pss_one (ps_if (pt_not (pt_val (pe_callG (G_is_claim T) gd (hr.mono (by decide)) rfl T.is_claim.g T.is_claim.F.kp T.is_claim.b .nil pass0 (pa_cons (pv 0) (pa_cons (pv 1) pa_nil))))) pss_dead pss_nil)) -- if not is_claim(pair, claim):
       , ?_⟩
    exact ⟨.ref t, rfl, .ref c, rfl, t, c, a, PL, sd, p, i, rfl, hp, hc, fun H' s1 => ⟨true, rfl, iteF (q H' s1)⟩⟩
abbrev N_compared : List Str := ["pair", "claim", "watcher"]
theorem sc_compared : FnScope N_compared ["pair", "claim"] (defScope s_compared) := ⟨rfl, rfl, rfl, by decide +kernel, rfl, by decide +kernel, by decide +kernel⟩
theorem G_compared (T : Tx K mg) : FnG P w K mg base CX0 3 T.compared.f T.compared.fd ["pair", "claim"] (sp_compared K T.Watcher.C) := by
  refine okG T.compared.F sc_compared (fun vs H Q E h => ?_) (fun cdv A outer s H vs Q E gd hr h => ?_)
  · obtain ⟨t, c, a, PL, sd, p, i, rfl, _⟩ := h
    rfl
  · obtain ⟨t, c, a, PL, sd, p, i, rfl, hp, hc, q⟩ := h
    refine ⟨_, 
      (pss_cons (ps_if (PW.pt (pw_and (pt_cmpR op_eq (pe_ix ix_tup (pv 1) pe_int (fun _ _ => rfl)) (pe_glob (v := .str "alike") rfl T.g_ALIKE ⟨_, rfl⟩) (nomark _)) (pw_and1 pt_dead))) pss_dead pss_nil) -- if claim[0] == ALIKE and len(claim) == 4:
      (pss_cons (ps_if (PW.pt (pw_or (pt_cmpR op_eq (pe_ix ix_tup (pv 1) pe_int (fun _ _ => rfl)) (pe_glob (v := .str "alike") rfl T.g_ALIKE ⟨_, rfl⟩) (nomark _)) (pw_or1 (pt_cmpR op_eq (pe_ix ix_tup (pv 1) pe_int (fun _ _ => rfl)) (pe_glob (v := .str "together") rfl T.g_TOGETHER ⟨_, rfl⟩) (nomark _))))) pss_dead pss_nil) -- if claim[0] == ALIKE or claim[0] == TOGETHER:
      (pss_cons (ps_set (i := 2) sc_compared.nd rfl (.inl rfl) (pe_callG (G_watcher_of T) gd (hr.mono (by decide)) rfl T.watcher_of.g T.watcher_of.F.kp T.watcher_of.b .nil pass0 (pa_cons (pv 0) (pa_cons (pe_ix ix_tup (pv 1) pe_int (fun _ _ => rfl)) pa_nil)))) -- watcher = watcher_of(pair, claim[1])
      (pss_cons (ps_if (pt_cmpR op_eq (pe_ix ix_tup (pv 1) pe_int (fun _ _ => rfl)) (pe_glob (v := .str "unneeded") rfl T.g_UNNEEDED ⟨_, rfl⟩) (nomark _)) 
        (pss_one (ps_ret (pe_tup (pa_cons (pe_tup (pa_cons (pv 2) (pa_cons (pv 2) pa_nil))) (pa_cons (pe_callG (G_other_value T) gd (hr.mono (by decide)) rfl T.other_value.g T.other_value.F.kp T.other_value.b .nil pass0 (pa_cons (pv 2) (pa_cons (pe_ix ix_tup (pv 1) pe_int (fun _ _ => rfl)) (pa_cons (pe_ix ix_tup (pv 1) pe_int (fun _ _ => rfl)) pa_nil)))) pa_nil))))) -- return ((watcher, watcher), other_value(watcher, claim[2], claim[3]))
         pss_nil) -- if claim[0] == UNNEEDED:
      pss_dead)))) , ?_⟩
    have hsq : SqT K H c (clV sd p i) := SqT.of hc.at_
    refine ⟨.ref c, rfl, c, _, 0, .str "unneeded", rfl, rfl, hsq, atI_nat (j := 0) rfl, rfl, false, str_ne (by decide), iteF (iteF ?_)⟩
    refine ⟨.ref c, rfl, c, _, 0, .str "unneeded", rfl, rfl, hsq, atI_nat (j := 0) rfl, rfl, false, str_ne (by decide), iteF ?_⟩
    refine ⟨.ref c, rfl, c, _, 0, .str "unneeded", rfl, rfl, hsq, atI_nat (j := 0) rfl, rfl, false, str_ne (by decide), iteF ?_⟩
    refine ⟨.ref t, rfl, .ref c, rfl, c, _, 1, .str sd, rfl, rfl, hsq, atI_nat (j := 1) rfl, t, a, PL, sd, rfl, hp, ?_⟩
    refine ⟨.ref c, rfl, c, _, 0, .str "unneeded", rfl, rfl, hsq, atI_nat (j := 0) rfl, rfl, true, str_eq _, iteT ?_⟩
    refine ⟨.ref a.x, rfl, .ref a.x, rfl, by show 2 ≤ sizeLine; decide, fun t2 nt2 => ?_⟩
    have s1 := same_new (o := .tup [.ref a.x, .ref a.x]) nt2
    have ht2 : (upd H t2 (.tup [.ref a.x, .ref a.x])) t2 = some (.tup [.ref a.x, .ref a.x]) := upd_same
    generalize upd H t2 (.tup [.ref a.x, .ref a.x]) = H1 at s1 ht2
    have hc1 := hc.mono s1
    have hsq1 : SqT K H1 c (clV sd p i) := SqT.of hc1.at_
    have hw1 := hp.w1.mono s1
    refine ⟨.ref a.x, rfl, .ref c, rfl, c, _, 2, .int p, rfl, rfl, hsq1, atI_nat (j := 2) rfl, .ref c, rfl, c, _, 3, .int i, rfl, rfl, hsq1, atI_nat (j := 3) rfl, a.x, a.lv, a.lh, a.d, PL, p, i, rfl, hw1, hc.p0, hc.p1, fun sv H2 s2 hsv => ⟨by show 2 ≤ sizeLine; decide, fun r nr => ?_⟩⟩
    have s3 := same_new (o := .tup [.ref t2, .ref sv]) nr
    exact q r t2 sv _ ((s1.trans s2).trans s3) upd_same ⟨SqT.of ((s2.trans s3) _ _ ht2), hw1.mono (s2.trans s3), hw1.mono (s2.trans s3)⟩ (TD.mono (Tups.same s3) _ hsv)
abbrev N_answer_of_stream : List Str := ["claim"]
theorem sc_answer_of_stream : FnScope N_answer_of_stream ["claim"] (defScope s_answer_of_stream) := ⟨rfl, rfl, rfl, by decide +kernel, rfl, by decide +kernel, by decide +kernel⟩
theorem G_answer_of_stream (T : Tx K mg) : FnG P w K mg base CX0 1 T.answer_of_stream.f T.answer_of_stream.fd ["claim"] (sp_answer "broken") := by
  refine okG T.answer_of_stream.F sc_answer_of_stream (fun vs H Q E h => ?_) (fun cdv A outer s H vs Q E gd hr h => ?_)
  · obtain ⟨c, PL, sd, p, i, rfl, _⟩ := h
    rfl
  · obtain ⟨c, PL, sd, p, i, rfl, hc, q⟩ := h
    refine ⟨_, 
      (pss_one (ps_ret (pe_ifExp (pt_cmpR op_eq (pe_ix ix_tup (pv 0) pe_int (fun _ _ => rfl)) (pe_glob (v := .str "together") rfl T.g_TOGETHER ⟨_, rfl⟩) (nomark _)) pe_dead (pe_glob (v := .str "broken") rfl T.g_BROKEN ⟨_, rfl⟩)))) -- return SHOWN if claim[0] == TOGETHER else BROKEN
       , ?_⟩
    refine ⟨.ref c, rfl, c, _, 0, .str "unneeded", rfl, rfl, SqT.of hc.at_, atI_nat (j := 0) rfl, rfl, false, str_ne (by decide), iteF ?_⟩
    exact q
abbrev N_answer_of_table : List Str := ["claim"]
theorem sc_answer_of_table : FnScope N_answer_of_table ["claim"] (defScope s_answer_of_table) := ⟨rfl, rfl, rfl, by decide +kernel, rfl, by decide +kernel, by decide +kernel⟩
theorem G_answer_of_table (T : Tx K mg) : FnG P w K mg base CX0 1 T.answer_of_table.f T.answer_of_table.fd ["claim"] (sp_answer "shown") := by
  refine okG T.answer_of_table.F sc_answer_of_table (fun vs H Q E h => ?_) (fun cdv A outer s H vs Q E gd hr h => ?_)
  · obtain ⟨c, PL, sd, p, i, rfl, _⟩ := h
    rfl
  · obtain ⟨c, PL, sd, p, i, rfl, hc, q⟩ := h
    refine ⟨_, 
      (pss_one (ps_ret (pe_ifExp (pt_cmpR op_eq (pe_ix ix_tup (pv 0) pe_int (fun _ _ => rfl)) (pe_glob (v := .str "together") rfl T.g_TOGETHER ⟨_, rfl⟩) (nomark _)) pe_dead (pe_glob (v := .str "shown") rfl T.g_SHOWN ⟨_, rfl⟩)))) -- return BROKEN if claim[0] == TOGETHER else SHOWN
       , ?_⟩
    refine ⟨.ref c, rfl, c, _, 0, .str "unneeded", rfl, rfl, SqT.of hc.at_, atI_nat (j := 0) rfl, rfl, false, str_ne (by decide), iteF ?_⟩
    exact q
abbrev N_decide_compared : List Str := ["pair", "claim", "watchers", "situation", "ways"]
theorem sc_decide_compared : FnScope N_decide_compared ["pair", "claim"] (defScope s_decide_compared) := ⟨rfl, rfl, rfl, by decide +kernel, rfl, by decide +kernel, by decide +kernel⟩
theorem G_decide_compared (T : Tx K mg) : FnG P w K mg base CX0 7 T.decide_compared.f T.decide_compared.fd ["pair", "claim"] (sp_decide K T.Watcher.C) := by
  refine okG T.decide_compared.F sc_decide_compared (fun vs H Q E h => ?_) (fun cdv A outer s H vs Q E gd hr h => ?_)
  · obtain ⟨t, c, a, PL, sd, p, i, rfl, _⟩ := h
    rfl
  · obtain ⟨t, c, a, PL, sd, p, i, rfl, hp, hc, q⟩ := h
    refine ⟨_, 
      (pss_cons (ps_asg (pe_callG (G_compared T) gd (hr.mono (by decide)) rfl T.compared.g T.compared.F.kp T.compared.b .nil pass0 (pa_cons (pv 0) (pa_cons (pv 1) pa_nil))) (pg_tup rfl (pgs_cons (pg_name (i := 2) sc_decide_compared.nd rfl (.inl rfl)) (pgs_cons (pg_name (i := 3) sc_decide_compared.nd rfl (.inl rfl)) pgs_nil)))) -- watchers, situation = compared(pair, claim)
      (pss_cons (ps_set (i := 4) sc_decide_compared.nd rfl (.inl rfl) (pe_callG (G_ways_to_sought T) gd (hr.mono (by decide)) rfl T.ways_to_sought.g T.ways_to_sought.F.kp T.ways_to_sought.b .nil pass0 (pa_cons (pv 2) (pa_cons (pe_lst (pa_cons (pv 3) pa_nil)) (pa_cons (pv 1) pa_nil))))) -- ways = ways_to_sought(watchers, [situation], claim)
      (pss_cons (ps_if (pt_cmpR (op_inN hr.units) (pv 3) (pv 4) rfl) 
        (pss_one (ps_ret (pe_tup (pa_cons (pe_callG (G_answer_of_stream T) gd (hr.mono (by decide)) rfl T.answer_of_stream.g T.answer_of_stream.F.kp T.answer_of_stream.b .nil pass0 (pa_cons (pv 1) pa_nil)) (pa_cons (pv 1) (pa_cons (pe_callG (G_continuation_along T) gd (hr.mono (by decide)) rfl T.continuation_along.g T.continuation_along.F.kp T.continuation_along.b .nil pass0 (pa_cons (pv 2) (pa_cons (pv 3) (pa_cons (pv 4) pa_nil)))) pa_nil)))))) -- return (answer_of_stream(claim), claim, continuation_along(watchers, situation, ways))
         pss_nil) -- if situation in ways:
      (pss_one (ps_ret (pe_tup (pa_cons (pe_callG (G_answer_of_table T) gd (hr.mono (by decide)) rfl T.answer_of_table.g T.answer_of_table.F.kp T.answer_of_table.b .nil pass0 (pa_cons (pv 1) pa_nil)) (pa_cons (pv 1) (pa_cons (pe_callG (G_reached_situations T) gd (hr.mono (by decide)) rfl T.reached_situations.g T.reached_situations.F.kp T.reached_situations.b .nil pass0 (pa_cons (pv 2) (pa_cons (pv 3) pa_nil))) pa_nil)))))) -- return (answer_of_table(claim), claim, reached_situations(watchers, situation))
      ))) , ?_⟩
    have okP := hp.w1.ok
    obtain ⟨hin, hall⟩ := otherS_in (i := i) okP hc.p0 hc.p1
    have hgs := good_start (i := i) okP hc.p0 hc.p1
    have hrch : ∀ k, Rch PL PL [otherS PL.kinds p i] k → k ∈ allS := fun k => rch_all okP okP (fun s hs => by rw [List.mem_singleton.mp hs]; exact hin) (fun s hs => by rw [List.mem_singleton.mp hs]; exact hall)
    refine ⟨.ref t, rfl, .ref c, rfl, t, c, a, PL, sd, p, i, rfl, hp, hc, fun r t2 sv H1 s1 hr hp2 hsv => ⟨r, _, rfl, SqT.of hr, rfl, .ref t2, [.ref sv], rfl, .ref sv, [], rfl, rfl, ?_⟩⟩
    refine ⟨.ref t2, rfl, .ref sv, rfl, by show 1 ≤ sizeLine; decide, fun l nl => ?_⟩
    have s2 := same_new (o := .lst [.ref sv]) nl
    have hl : (upd H1 l (.lst [.ref sv])) l = some (.lst [.ref sv]) := upd_same
    generalize upd H1 l (.lst [.ref sv]) = H2 at s2 hl
    have hsv2 := TD.mono (Tups.same s2) _ hsv
    refine ⟨.ref c, rfl, t2, l, c, [.ref sv], a, a, PL, PL, [otherS PL.kinds p i], allS, rfl, hp2.mono s2, hl, .cons hsv2 .nil, (fun s hs => by rw [List.mem_singleton.mp hs]; exact hin), by show 1 ≤ 1000; decide, hrch, allS_len, ⟨_, _, (hc.mono (s1.trans s2)).at_, by decide⟩, fun W kw kvw H3 s3 n1 n2 hVE hk => ?_⟩
    obtain ⟨es, hes, hV⟩ := hVE
    have s13 := (s1.trans s2).trans s3
    have hsv3 := TD.mono (Tups.same s3) _ hsv2
    have hp3 := (hp2.mono s2).mono s3
    have hc3 := hc.mono s13
    refine ⟨.ref sv, rfl, .ref W, rfl, W, sitK (otherS PL.kinds p i), kvw, rfl, sit_key hsv3, n1, ?_⟩
    rw [keys_val n2]
    by_cases hm : otherS PL.kinds p i ∈ kw
    · rw [decide_eq_true hm]
      have hul := ((hk _).mp hm).2
      have lkw : kw.length ≤ 100000 := Nat.le_trans (nodup_le hV.nd fun k hk' => hrch k ((hk k).mp hk').1) allS_len
      refine ⟨true, rfl, iteT ⟨.ref c, rfl, c, PL, sd, p, i, rfl, hc3, .ref c, rfl, .ref t2, rfl, .ref sv, rfl, .ref W, rfl, t2, .ref sv, W, a, a, PL, otherS PL.kinds p i, kw, es, kvw, rfl, hp3, hsv3, hin, n1, hes, hV, lkw, hm, ⟨hgs.s1, hgs.nf⟩, ⟨hgs.s2, hgs.ng⟩, hgs.e, fun z xs ms H4 s4 hz hts hne => ⟨by show 3 ≤ sizeLine; decide, fun r2 nr2 => ?_⟩⟩⟩
      have s5 := same_new (o := .tup [.str "broken", .ref c, .ref z]) nr2
      exact q r2 z _ ((s13.trans s4).trans s5) (.inl ⟨hul, upd_same, xs, ms, s5 _ _ hz, hts.mono (Tups.same s5), hne⟩)
    · rw [decide_eq_false hm]
      have hul : ¬ Ul PL PL (otherS PL.kinds p i) := fun h => hm ((hk _).mpr ⟨.base List.mem_cons_self, h⟩)
      refine ⟨false, rfl, iteF ⟨.ref c, rfl, c, PL, sd, p, i, rfl, hc3, .ref c, rfl, .ref t2, rfl, .ref sv, rfl, t2, .ref sv, a, a, PL, PL, otherS PL.kinds p i, allS, rfl, hp3, hsv3, hin, hrch, allS_len, fun z ks H4 s4 hz nd hk4 => ⟨by show 3 ≤ sizeLine; decide, fun r2 nr2 => ?_⟩⟩⟩
      have s5 := same_new (o := .tup [.str "shown", .ref c, .ref z]) nr2
      exact q r2 z _ ((s13.trans s4).trans s5) (.inr ⟨hul, upd_same⟩)
abbrev N_decide : List Str := ["pair", "claim"]
theorem sc_decide : FnScope N_decide ["pair", "claim"] (defScope s_decide) := ⟨rfl, rfl, rfl, by decide +kernel, rfl, by decide +kernel, by decide +kernel⟩
theorem G_decide (T : Tx K mg) : FnG P w K mg base CX0 8 T.decide.f T.decide.fd ["pair", "claim"] (sp_decide K T.Watcher.C) := by
  refine okG T.decide.F sc_decide (fun vs H Q E h => ?_) (fun cdv A outer s H vs Q E gd hr h => ?_)
  · obtain ⟨t, c, a, PL, sd, p, i, rfl, _⟩ := h
    rfl
  · obtain ⟨t, c, a, PL, sd, p, i, rfl, hp, hc, q⟩ := h
    refine ⟨_, 
      (pss_cons (ps_expr (pe_callG (G_require_paired T) gd (hr.mono (by decide)) rfl T.require_paired.g T.require_paired.F.kp T.require_paired.b .nil pass0 (pa_cons (pv 0) pa_nil))) -- require_paired(pair)
      (pss_cons (ps_expr (pe_callG (G_require_claim T) gd (hr.mono (by decide)) rfl T.require_claim.g T.require_claim.F.kp T.require_claim.b .nil pass0 (pa_cons (pv 0) (pa_cons (pv 1) pa_nil)))) -- require_claim(pair, claim)
      (pss_cons (ps_if (pt_cmpR op_eq (pe_ix ix_tup (pv 1) pe_int (fun _ _ => rfl)) (pe_glob (v := .str "never") rfl T.g_NEVER ⟨_, rfl⟩) (nomark _)) pss_dead pss_nil) -- if claim[0] == NEVER:
      (pss_cons (ps_if (pt_cmpR op_eq (pe_ix ix_tup (pv 1) pe_int (fun _ _ => rfl)) (pe_glob (v := .str "least") rfl T.g_LEAST ⟨_, rfl⟩) (nomark _)) pss_dead pss_nil) -- if claim[0] == LEAST:
      (pss_one (ps_ret (pe_callG (G_decide_compared T) gd (hr.mono (by decide)) rfl T.decide_compared.g T.decide_compared.F.kp T.decide_compared.b .nil pass0 (pa_cons (pv 0) (pa_cons (pv 1) pa_nil))))) -- return decide_compared(pair, claim)
      )))) , ?_⟩
    refine ⟨.ref t, rfl, t, a, PL, rfl, hp, .ref t, rfl, .ref c, rfl, t, c, a, PL, sd, p, i, rfl, hp, hc, fun H1 s1 => ?_⟩
    have hc1 := hc.mono s1
    have hsq : SqT K H1 c (clV sd p i) := SqT.of hc1.at_
    refine ⟨.ref c, rfl, c, _, 0, .str "unneeded", rfl, rfl, hsq, atI_nat (j := 0) rfl, rfl, false, str_ne (by decide), iteF ?_⟩
    refine ⟨.ref c, rfl, c, _, 0, .str "unneeded", rfl, rfl, hsq, atI_nat (j := 0) rfl, rfl, false, str_ne (by decide), iteF ?_⟩
    exact ⟨.ref t, rfl, .ref c, rfl, t, c, a, PL, sd, p, i, rfl, hp.mono s1, hc1, fun r z H' s2 hd => q r z H' (s1.trans s2) hd⟩
end
theorem oth_mem {n : Nat} {i x y : Int} : (x, y) ∈ othF n i ↔ ∃ k : Nat, k < n ∧ ¬ (k : Int) = i ∧ x = (k : Int) ∧ y = (k : Int) := by
  unfold othF
  rw [List.mem_filterMap]
  constructor
  · rintro ⟨k, hk, e⟩
    by_cases h : (k : Int) = i
    · rw [if_pos h] at e
      cases e
    · rw [if_neg h] at e
      cases e
      exact ⟨k, List.mem_range.mp hk, h, rfl, rfl⟩
  · rintro ⟨k, hk, h, rfl, rfl⟩
    exact ⟨k, List.mem_range.mpr hk, by rw [if_neg h]⟩
theorem prt_oth {n : Nat} {i : Int} {j : Nat} (hj : j < n) : prt (othF n i) (j : Int) = if (j : Int) = i then none else some (j : Int) := by
  obtain ⟨a, b⟩ := prt_mem _ (othF n i) rfl (j : Int)
  by_cases e : (j : Int) = i
  · rw [if_pos e]
    cases hp : prt (othF n i) (j : Int) with
    | none => rfl
    | some x =>
      obtain ⟨k, _, h, _, h3⟩ := oth_mem.mp (a x hp)
      exact absurd (h3.symm.trans e) h
  · rw [if_neg e]
    cases hp : prt (othF n i) (j : Int) with
    | none => exact absurd (oth_mem.mpr ⟨j, hj, e, rfl, rfl⟩) (b hp (j : Int))
    | some x =>
      obtain ⟨k, _, h, h2, h3⟩ := oth_mem.mp (a x hp)
      rw [h2, h3]
theorem secF_oth {n i : Nat} (h : Int) : ∀ m : Nat, m ≤ n → secF (othF n (i : Int)) h m = ((List.range m).map fun j : Nat => if j = i then h else (j : Int), if i < m then h + 1 else h)
  | 0, _ => by simp [secF]
  | m + 1, hm => by
    rw [secF_succ, secF_oth h m (by omega), prt_oth (by omega), List.range_succ, List.map_append]
    by_cases e : m = i
    · subst e
      simp
    · have e' : ¬ (m : Int) = (i : Int) := by omega
      rw [if_neg e']
      simp only [List.map_cons, List.map_nil, if_neg e]
      congr 1
      by_cases h2 : i < m
      · rw [if_pos h2, if_pos (by omega)]
      · rw [if_neg h2, if_neg (by omega)]
theorem second_other {ks : List (Int × Int)} {PL : Plan} (e : PL.kinds = ks) {p : Int} {i : Nat} : (heldM PL PL (otherS ks p (i : Int))).2 = (firstM (heldAt ks p)).set i (heldAt ks p) := by
  subst e
  show (secF (othF (heldAt PL.kinds p).toNat (i : Int)) (heldAt PL.kinds p) (heldAt PL.kinds p).toNat).1 = _
  rw [secF_oth _ _ (Nat.le_refl _)]
  unfold firstM
  refine List.ext_getElem (by simp) fun j h1 h2 => ?_
  rw [List.getElem_set]
  simp only [List.getElem_map, List.getElem_range]
  by_cases q : j = i
  · rw [if_pos q, if_pos q.symm]
  · rw [if_neg q, if_neg (fun z => q z.symm)]
/-- the two that are compared -/
def ends1 (PL : Plan) (p : Int) (ms : List (Int × Int)) : Int := verAt PL.kinds (runM PL.rules (p, firstM (heldAt PL.kinds p)) ms).1
def ends2 (PL : Plan) (p i : Int) (ms : List (Int × Int)) : Int := verAt PL.kinds (runM PL.rules (p, (firstM (heldAt PL.kinds p)).set i.toNat (heldAt PL.kinds p)) ms).1
theorem tells_ends {PL : Plan} {p i : Int} (i0 : 0 ≤ i) {ms : List (Int × Int)} : Tells PL (otherS PL.kinds p i) ms ↔ ends1 PL p ms ≠ ends2 PL p i ms := by
  have e : ((i.toNat : Nat) : Int) = i := by omega
  unfold Tells ends1 ends2
  have h2 := second_other (PL := PL) rfl (p := p) (i := i.toNat)
  rw [e] at h2
  rw [h2]
  exact Iff.rfl
theorem first_nd (h : Int) : (firstM h).Nodup := by
  unfold firstM
  refine List.Pairwise.map _ (fun a b hab e => ?_) List.nodup_range
  omega
theorem first_not (h : Int) : h ∉ firstM h := by
  unfold firstM
  intro z
  obtain ⟨k, hk, e⟩ := List.mem_map.mp z
  have := List.mem_range.mp hk
  omega
theorem first_ok {PL : Plan} (o : PlanOk PL) {p : Int} (p0 : 0 ≤ p) (p1 : p < PL.kinds.length) : CfOk PL (p, firstM (heldAt PL.kinds p)) := by
  have b := held_bd o.k p0 p1
  refine ⟨⟨p0, p1, ?_⟩, first_nd _⟩
  show (((firstM (heldAt PL.kinds p)).length : Nat) : Int) = heldAt PL.kinds p
  rw [firstM_len]
  omega
/-- what is not needed is told apart by nothing -/
theorem ends_same {PL : Plan} (o : PlanOk PL) {p i : Int} (p0 : 0 ≤ p) (p1 : p < PL.kinds.length) (i0 : 0 ≤ i) (i1 : i < heldAt PL.kinds p) (hn : need PL p i = false) {ms : List (Int × Int)} (hw : Wds PL ms) : ends1 PL p ms = ends2 PL p i ms := by
  have c := first_ok o p0 p1
  have e : ((i.toNat : Nat) : Int) = i := by omega
  have hl : i.toNat < (firstM (heldAt PL.kinds p)).length := by
    rw [firstM_len]
    omega
  have h := (need_iff o c hl (first_not (heldAt PL.kinds p)))
  rw [e, hn] at h
  exact Classical.byContradiction fun z => absurd (h.mpr fun A => z (A ms hw)) (by decide)
def sp_law_ends (K : PySem.W.Frag) : Sp := fun us H Q _ => ∃ (l kl rl t : Addr) (PL : Plan) (p i : Int) (ms : List (Int × Int)), us = [.ref l, .int p, .ref t, .int i] ∧ PlanAt H l kl rl PL ∧ PlanOk PL ∧ 0 ≤ p ∧ p < PL.kinds.length ∧ 0 ≤ i ∧ i < heldAt PL.kinds p ∧ StrmAt K H t ms ∧
  ∀ r H', Same H H' → H' r = some (.lst [.int (ends1 PL p ms), .int (ends2 PL p i ms)]) → Q (.ref r) H'
section
variable {P : Program} {w : World} {K : PySem.W.Frag} {mg : Str → Option Value} {base : Heap}
abbrev N_law_ends : List Str := ["plan", "state", "stream", "place", "held", "found", "values", "present", "message"]
theorem sc_law_ends : FnScope N_law_ends ["plan", "state", "stream", "place"] (defScope s_law_ends) := ⟨rfl, rfl, rfl, by decide +kernel, rfl, by decide +kernel, by decide +kernel⟩
theorem G_law_ends (T : Tx K mg) : FnG P w K mg base CX0 2 T.law_ends.f T.law_ends.fd ["plan", "state", "stream", "place"] (sp_law_ends K) := by
  refine okG T.law_ends.F sc_law_ends (fun vs H Q E h => ?_) (fun cdv A outer s H vs Q E gd hr h => ?_)
  · obtain ⟨l, kl, rl, t, PL, p, i, ms, rfl, _⟩ := h
    rfl
  · obtain ⟨l, kl, rl, t, PL, p, i, ms, rfl, hp, ok, p0, p1, i0, i1, ht, q⟩ := h
    refine ⟨_, 
      (C8.pss_cut (ps_par (i := 4) (j := 5) rfl sc_law_ends.nd rfl rfl (by decide) rfl rfl (pa_cons (pe_listRg rfl (by rfl) T.m_list (prg_1 (by rfl) T.m_range (pe_ix ix_tup (pe_ix ix_list (pe_ix ix_list (pv 0) pe_int (fun _ _ => rfl)) (pv 1) (fun _ _ => rfl)) pe_int (fun _ _ => rfl)))) (pa_cons (pe_lst pa_nil) pa_nil)) rfl) -- held, found = (list(range(plan[1][state][1])), [])
      (pss_cons (ps_for PassesOwn.never rfl (pi_tup (pe_tup (pa_cons (pv 4) (pa_cons (pe_op op_cat (pe_op op_cat (pe_slice sl_list (pv 4) po_none (po_some (pv 3))) (pe_lst (pa_cons (pe_callB call_len_seq (by rfl) T.m_len PySem.boot_len (pa_cons (pv 4) pa_nil)) pa_nil))) (pe_slice sl_list (pv 4) (po_some (pe_op op_add (pv 3) pe_int)) po_none)) pa_nil)))) (pg_name (i := 6) sc_law_ends.nd rfl (.inl rfl)) 
        (pss_cons (ps_set (i := 7) sc_law_ends.nd rfl (.inl rfl) (pe_tup (pa_cons (pv 1) (pa_cons (pe_callTy call_tupleF (by rfl) T.m_tuple (by decide +kernel) (pa_cons (pv 6) pa_nil)) pa_nil)))) -- present = (state, tuple(values))
        (pss_cons (ps_for PassesOwn.never rfl (pi_tup (pv 2)) (pg_name (i := 8) sc_law_ends.nd rfl (.inl rfl)) 
          (pss_one (ps_set (i := 7) sc_law_ends.nd rfl (.inl rfl) (pe_callG (G_law_moved T) gd (hr.mono (by decide)) rfl T.law_moved.g T.law_moved.F.kp T.law_moved.b .nil pass0 (pa_cons (pv 0) (pa_cons (pv 7) (pa_cons (pv 8) pa_nil)))))) -- present = _law_moved(plan, present, message)
          ) -- for message in stream:
        (pss_one (ps_expr (pe_bm PySem.F.plainAttrs_list PySem.F.slot_list_append PySem.F.type_list_append mt_append (pv 5) (pa_cons (pe_ix ix_tup (pe_ix ix_list (pe_ix ix_list (pv 0) pe_int (fun _ _ => rfl)) (pe_ix ix_tup (pv 7) pe_int (fun _ _ => rfl)) (fun _ _ => rfl)) pe_int (fun _ _ => rfl)) pa_nil)))) -- found.append(plan[1][present[0]][0])
        ))) -- for values in (held, held[:place] + [len(held)] + held[place + 1:]):
      (pss_one (ps_ret (pv 5))) -- return found
      )) , ?_⟩
    have L5 : 4000000 ≤ sizeLine := by decide
    obtain ⟨kin, hkl, hkt⟩ := hp.kin
    obtain ⟨c1, vc1, ic1, hc1, ec1⟩ := kinds_at hkt p0 p1
    have b := held_bd ok.k p0 p1
    refine ⟨fun σ H' => ∃ hl fl, σ = [some (.ref l), some (.int p), some (.ref t), some (.int i), some (.ref hl), some (.ref fl), none, none, none] ∧ Same H H' ∧ H fl = none ∧ H' fl = some (.lst []) ∧ fl ≠ hl ∧ H' hl = some (.lst ((firstM (heldAt PL.kinds p)).map V.int)), ?_, ?_⟩
    · clear q
      refine ⟨.ref l, rfl, l, _, 1, .ref kl, rfl, rfl, SqL.of hp.at_, atI_nat (j := 1) rfl, .int p, rfl, kl, kin, p, .ref c1, rfl, rfl, SqL.of hkl, ic1, c1, _, 1, .int (heldAt PL.kinds p), rfl, rfl, SqT.of hc1, atI_nat (j := 1) rfl, ?_⟩
      refine ⟨_, rfl, RgOk.of_le (by decide) (by omega) (by decide) b.1, fun hl nhl => ⟨by show 0 ≤ sizeLine; decide, fun fl nfl => ⟨_, _, rfl, ?_⟩⟩⟩
      have s1 := same_new (o := .lst (rgV 0 (heldAt PL.kinds p))) nhl
      have s2 := same_new (o := .lst []) nfl
      have e1 : (upd H hl (.lst (rgV 0 (heldAt PL.kinds p)))) hl = some (.lst (rgV 0 (heldAt PL.kinds p))) := upd_same
      refine ⟨hl, fl, rfl, s1.trans s2, ?_, upd_same, fun e => ?_, ?_⟩
      · cases e : H fl with
        | none => rfl
        | some o => rw [s1 _ _ e] at nfl; cases nfl
      · rw [e, e1] at nfl
        cases nfl
      · rw [firstM_V]
        exact s2 _ _ e1
    rintro σ H1 ⟨hl, fl, rfl, s1, nfl, hfl, nflhl, hhl⟩
    have hkl1 := s1 _ _ hkl
    have lf : (firstM (heldAt PL.kinds p)).length = (heldAt PL.kinds p).toNat := firstM_len _
    have ei : ((i.toNat : Nat) : Int) = i := by omega
    have lfV : ((firstM (heldAt PL.kinds p)).map V.int).length = (heldAt PL.kinds p).toNat := by rw [List.length_map, lf]
    have eX : cutV ((firstM (heldAt PL.kinds p)).map V.int) none (some i) ++ [.int ((firstM (heldAt PL.kinds p)).map V.int).length] ++ cutV ((firstM (heldAt PL.kinds p)).map V.int) (some (i + 1)) none = ((firstM (heldAt PL.kinds p)).set i.toNat (heldAt PL.kinds p)).map V.int := by
      have a1 : cutV ((firstM (heldAt PL.kinds p)).map V.int) none (some i) = ((firstM (heldAt PL.kinds p)).map V.int).take i.toNat := by
        have := cutA_to ((firstM (heldAt PL.kinds p)).map V.int) (k := i.toNat) (by omega)
        rw [ei] at this
        exact this
      have a2 : cutV ((firstM (heldAt PL.kinds p)).map V.int) (some (i + 1)) none = ((firstM (heldAt PL.kinds p)).map V.int).drop (i.toNat + 1) := by
        have := cutA_from ((firstM (heldAt PL.kinds p)).map V.int) (k := i.toNat + 1) (by omega)
        have e : ((i.toNat + 1 : Nat) : Int) = i + 1 := by omega
        rw [e] at this
        exact this
      have a3 : ((((firstM (heldAt PL.kinds p)).map V.int).length : Nat) : Int) = heldAt PL.kinds p := by omega
      rw [a1, a2, a3, List.set_eq_take_append_cons_drop, if_pos (by omega), List.map_append, List.map_cons, List.map_take, List.map_drop, List.append_assoc]
      rfl
    have z1 := cutV_length ((firstM (heldAt PL.kinds p)).map V.int) none (some i)
    have z2 := cutV_length ((firstM (heldAt PL.kinds p)).map V.int) (some (i + 1)) none
    refine ⟨.ref hl, rfl, .ref hl, rfl, .int i, rfl, i, rfl, hl, _, rfl, SqL.of hhl, fun s1a ns1a => ?_⟩
    generalize cutV ((firstM (heldAt PL.kinds p)).map V.int) none (some i) = X1 at z1 eX
    have x1 := same_new (o := .lst X1) ns1a
    have h1a : (upd H1 s1a (.lst X1)) s1a = some (.lst X1) := upd_same
    generalize upd H1 s1a (.lst X1) = Ha at x1 h1a
    refine ⟨.ref hl, rfl, hl, _, rfl, .inl (SqL.of (x1 _ _ hhl)), by show 1 ≤ sizeLine; decide, fun s2a ns2a => ?_⟩
    have x2 := same_new (o := .lst [.int ((firstM (heldAt PL.kinds p)).map V.int).length]) ns2a
    have h2a : (upd Ha s2a (.lst [.int ((firstM (heldAt PL.kinds p)).map V.int).length])) s2a = some (.lst [.int ((firstM (heldAt PL.kinds p)).map V.int).length]) := upd_same
    generalize upd Ha s2a (.lst [.int ((firstM (heldAt PL.kinds p)).map V.int).length]) = Hb at x2 h2a
    refine ⟨s1a, s2a, _, _, rfl, rfl, x2 _ _ h1a, h2a, ?_, fun s3a ns3a => ?_⟩
    · show _ + 1 ≤ sizeLine
      omega
    generalize V.int ((firstM (heldAt PL.kinds p)).map V.int).length = vl at eX
    have x3 := same_new (o := .lst (X1 ++ [vl])) ns3a
    have h3a : (upd Hb s3a (.lst (X1 ++ [vl]))) s3a = some (.lst (X1 ++ [vl])) := upd_same
    generalize upd Hb s3a (.lst (X1 ++ [vl])) = Hc at x3 h3a
    refine ⟨.ref hl, rfl, .int i, rfl, i, 1, rfl, rfl, i + 1, rfl, hl, _, rfl, SqL.of (x3 _ _ (x2 _ _ (x1 _ _ hhl))), fun s4a ns4a => ?_⟩
    generalize cutV ((firstM (heldAt PL.kinds p)).map V.int) (some (i + 1)) none = X2 at z2 eX
    have x4 := same_new (o := .lst X2) ns4a
    have h4a : (upd Hc s4a (.lst X2)) s4a = some (.lst X2) := upd_same
    generalize upd Hc s4a (.lst X2) = Hd at x4 h4a
    refine ⟨s3a, s4a, _, _, rfl, rfl, x4 _ _ h3a, h4a, ?_, fun xl nxl => ?_⟩
    · rw [List.length_append]
      show _ + 1 + _ ≤ sizeLine
      omega
    rw [eX]
    have x5 := same_new (o := .lst (((firstM (heldAt PL.kinds p)).set i.toNat (heldAt PL.kinds p)).map V.int)) nxl
    have hxl : (upd Hd xl (.lst (((firstM (heldAt PL.kinds p)).set i.toNat (heldAt PL.kinds p)).map V.int))) xl = some (.lst (((firstM (heldAt PL.kinds p)).set i.toNat (heldAt PL.kinds p)).map V.int)) := upd_same
    have x15 := (((x1.trans x2).trans x3).trans x4).trans x5
    generalize upd Hd xl (.lst (((firstM (heldAt PL.kinds p)).set i.toNat (heldAt PL.kinds p)).map V.int)) = H2 at x15 hxl
    refine ⟨by show 2 ≤ sizeLine; decide, fun tt ntt => ?_⟩
    have x6 := same_new (o := .tup [.ref hl, .ref xl]) ntt
    have htt : (upd H2 tt (.tup [.ref hl, .ref xl])) tt = some (.tup [.ref hl, .ref xl]) := upd_same
    have hhl3 := x6 _ _ (x15 _ _ hhl)
    have hxl3 := x6 _ _ hxl
    have hfl3 := x6 _ _ (x15 _ _ hfl)
    have s3 := s1.trans (x15.trans x6)
    generalize upd H2 tt (.tup [.ref hl, .ref xl]) = H3 at htt hhl3 hxl3 hfl3 s3
    refine ⟨tt, rfl, ⟨_, SqT.of htt⟩, ?_⟩
    have hnx : xl ≠ fl := fun e => by
      rw [e] at nxl
      rw [x4 _ _ (x3 _ _ (x2 _ _ (x1 _ _ hfl)))] at nxl
      cases nxl
    refine for_tup (K := K) (a := tt) (xs := [.ref hl, .ref xl]) (fun j σ H' => ∃ y6 y7 y8, σ = [some (.ref l), some (.int p), some (.ref t), some (.int i), some (.ref hl), some (.ref fl), y6, y7, y8] ∧ NLx fl H3 H' ∧ H' fl = some (.lst ([V.int (ends1 PL p ms), V.int (ends2 PL p i ms)].take j))) ?_ ?_ ?_ ?_
    · exact ⟨none, none, none, rfl, fun c o e _ => e, hfl3⟩
    · rintro j σ H' hj ⟨y6, y7, y8, rfl, k3, hf⟩
      exact SqT.of (k3 _ _ htt fun z => by rw [z, hfl3] at htt; cases htt)
    · rintro j y σ H4 hj ⟨y6, y7, y8, rfl, k3, hf⟩
      clear q
      obtain ⟨va, F, ev, rfl, hva, nva, hF, hT, hok⟩ : ∃ (va : Addr) (F : List Int) (ev : Int), y = .ref va ∧ H3 va = some (.lst (F.map V.int)) ∧ va ≠ fl ∧ verAt PL.kinds (runM PL.rules (p, F) ms).1 = ev ∧ ([V.int (ends1 PL p ms), V.int (ends2 PL p i ms)].take (j + 1) = [V.int (ends1 PL p ms), V.int (ends2 PL p i ms)].take j ++ [.int ev]) ∧ StOk PL.kinds (p, F) := by
        have c := first_ok ok p0 p1
        cases j with
        | zero =>
          refine ⟨hl, firstM (heldAt PL.kinds p), _, (Option.some.inj hj).symm, hhl3, nflhl.symm, rfl, rfl, c.s⟩
        | succ j =>
          cases j with
          | zero =>
            refine ⟨xl, (firstM (heldAt PL.kinds p)).set i.toNat (heldAt PL.kinds p), _, (Option.some.inj hj).symm, hxl3, hnx, rfl, rfl, (c.set i.toNat (first_not _)).s⟩
          | succ j => cases hj
      have s4 : Same H H4 := fun c o e => k3 c o (s3 _ _ e) fun z => by rw [z, nfl] at e; cases e
      refine ⟨.int p, rfl, .ref va, rfl, va, _, rfl, SqL.of (k3 _ _ hva nva), fun fr ob nfr hob => ⟨by show 2 ≤ sizeLine; decide, fun pr npr => ?_⟩⟩
      have x7 := same_new (o := .frz ob (.tup (F.map V.int))) nfr
      have hfr : (upd H4 fr (.frz ob (.tup (F.map V.int)))) fr = some (.frz ob (.tup (F.map V.int))) := upd_same
      generalize upd H4 fr (.frz ob (.tup (F.map V.int))) = H5 at x7 hfr npr
      have x8 := same_new (o := .tup [.int p, .ref fr]) npr
      have hst : StAt (upd H5 pr (.tup [.int p, .ref fr])) (.ref pr) (p, F) := ⟨pr, fr, rfl, upd_same, ob, x8 _ _ hfr, hob⟩
      have x78 := x7.trans x8
      generalize upd H5 pr (.tup [.int p, .ref fr]) = H6 at x8 x78 hst
      obtain ⟨xs, hx1, hx2⟩ := id ht
      have lx := hx2.msgs_len
      have s6 := s4.trans x78
      refine ⟨.ref t, rfl, t, rfl, ⟨_, sqT_same hx1 s6⟩, ?_⟩
      refine for_tup (K := K) (a := t) (xs := xs) (fun jj σ H' => ∃ pv y8, σ = [some (.ref l), some (.int p), some (.ref t), some (.int i), some (.ref hl), some (.ref fl), some (.ref va), some pv, y8] ∧ Same H6 H' ∧ StAt H' pv (runM PL.rules (p, F) (ms.take jj))) ?_ ?_ ?_ ?_
      · exact ⟨_, _, rfl, Same.refl _, hst⟩
      · rintro jj σ H7 hjj ⟨pv, y8, rfl, k7, hs7⟩
        exact sqT_same hx1 (s6.trans k7)
      · rintro jj yy σ H7 hjj ⟨pv, y8, rfl, k7, hs7⟩
        obtain ⟨m, a, em, rfl, hm⟩ := hx2.msg hjj
        have so := run_ok ok.r (ms.take jj) hok
        have et : runM PL.rules (p, F) (ms.take (jj + 1)) = stepM PL.rules (runM PL.rules (p, F) (ms.take jj)) m := by
          unfold runM
          rw [List.take_add_one, em, List.foldl_append]
          rfl
        refine ⟨.ref l, rfl, pv, rfl, .ref a, rfl, l, kl, rl, a, pv, PL, _, m.1, m.2, rfl, hp.mono (s6.trans k7), ok, hs7, so, (s6.trans k7) _ _ hm, fun u H8 s8 hu => ⟨u, _, rfl, k7.trans s8, ?_⟩⟩
        rw [et]
        exact hu
      · rintro σ H7 ⟨pv, y8, rfl, k7, hs7⟩
        rw [lx, List.take_length] at hs7
        have so := run_ok ok.r ms hok
        obtain ⟨c2, vc2, ic2, hc2, ec2⟩ := kinds_at hkt so.lo so.hi
        have hvc : ev = vc2 := by
          rw [← hF]
          unfold verAt
          rw [ec2]
          rfl
        obtain ⟨r2, b2, rfl, hr2, _⟩ := hs7
        have s7 := s6.trans k7
        have hf7 := (x78.trans k7) _ _ hf
        refine ⟨.ref fl, rfl, .inl ⟨rfl, _, SqL.of hf7⟩, .ref l, rfl, l, _, 1, .ref kl, rfl, rfl, SqL.of (s7 _ _ hp.at_), atI_nat (j := 1) rfl, .ref r2, rfl, r2, _, 0, .int _, rfl, rfl, SqT.of hr2, atI_nat (j := 0) rfl, kl, kin, _, .ref c2, rfl, rfl, SqL.of (s7 _ _ hkl), ic2, c2, _, 0, .int vc2, rfl, rfl, SqT.of (s7 _ _ hc2), atI_nat (j := 0) rfl, fl, _, .int vc2, rfl, rfl, hf7, ?_, _, _, _, rfl, fun c o e n => ?_, ?_⟩
        · have : ([V.int (ends1 PL p ms), V.int (ends2 PL p i ms)].take j).length ≤ 2 := by
            rw [List.length_take]
            exact Nat.min_le_right _ _
          omega
        · rw [upd_ne n]
          exact (x78.trans k7) _ _ (k3 c o e n)
        · rw [hT, hvc]
          exact upd_same
    · rintro σ H4 ⟨y6, y7, y8, rfl, k3, hf⟩
      refine ⟨.ref fl, rfl, q fl H4 (fun c o e => k3 c o (s3 _ _ e) fun z => by rw [z, nfl] at e; cases e) hf⟩
end
def sp_law_place_right : Sp := fun us H Q _ => ∃ (pn c l kl rl : Addr) (PL : Plan) (p i : Int) (tb : Bool), us = [.ref pn, .ref l, .int p, .int i, .bl tb] ∧ Pen H pn c ∧ PlanAt H l kl rl PL ∧ PlanOk PL ∧ l ≠ pn ∧ kl ≠ pn ∧ 0 ≤ p ∧ p < PL.kinds.length ∧ 0 ≤ i ∧ i < heldAt PL.kinds p ∧ tb = need PL p i ∧
  ∀ H', Keep pn H H' → Pen H' pn c → Q (.bl true) H'
section
variable {P : Program} {w : World} {K : PySem.W.Frag} {mg : Str → Option Value} {base : Heap}
abbrev N_law_place_right : List Str := ["pen", "plan", "state", "place", "tells", "situation", "stream", "one", "other", "often", "lap"]
theorem sc_law_place_right : FnScope N_law_place_right ["pen", "plan", "state", "place", "tells"] (defScope s_law_place_right) := ⟨rfl, rfl, rfl, by decide +kernel, rfl, by decide +kernel, by decide +kernel⟩
theorem G_law_place_right (T : Tx K mg) : FnG P w K mg base CX0 4 T.law_place_right.f T.law_place_right.fd ["pen", "plan", "state", "place", "tells"] sp_law_place_right := by
  refine okG T.law_place_right.F sc_law_place_right (fun vs H Q E h => ?_) (fun cdv A outer s H vs Q E gd hr h => ?_)
  · obtain ⟨pn, c, l, kl, rl, PL, p, i, tb, rfl, _⟩ := h
    rfl
  · obtain ⟨pn, c, l, kl, rl, PL, p, i, tb, rfl, hP, hp, ok, nl, nk, p0, p1, i0, i1, htb, q⟩ := h
    refine ⟨_, 
      (pss_cons (ps_set (i := 5) sc_law_place_right.nd rfl (.inl rfl) (pe_tup (pa_cons (pv 2) (pa_cons (pv 2) (pa_cons (pe_callG (G_law_without T) gd (hr.mono (by decide)) rfl T.law_without.g T.law_without.F.kp T.law_without.b .nil pass0 (pa_cons (pe_ix ix_tup (pe_ix ix_list (pe_ix ix_list (pv 1) pe_int (fun _ _ => rfl)) (pv 2) (fun _ _ => rfl)) pe_int (fun _ _ => rfl)) (pa_cons (pv 3) pa_nil))) pa_nil))))) -- situation = (state, state, _law_without(plan[1][state][1], place))
      (pss_cons (ps_set (i := 6) sc_law_place_right.nd rfl (.inl rfl) (pe_callG (G_law_unlike T) gd (hr.mono (by decide)) rfl T.law_unlike.g T.law_unlike.F.kp T.law_unlike.b .nil pass0 (pa_cons (pe_lst (pa_cons (pv 1) (pa_cons (pv 1) pa_nil))) (pa_cons (pv 5) pa_nil)))) -- stream = _law_unlike([plan, plan], situation)
      (pss_cons (ps_if (pt_val (pv 4)) 
        (pss_cons (ps_asg (pe_callG (G_law_ends T) gd (hr.mono (by decide)) rfl T.law_ends.g T.law_ends.F.kp T.law_ends.b .nil pass0 (pa_cons (pv 1) (pa_cons (pv 2) (pa_cons (pe_orT (pv 6) (pe_one (pe_tup pa_nil))) (pa_cons (pv 3) pa_nil))))) (pg_lst rfl (pgs_cons (pg_name (i := 7) sc_law_place_right.nd rfl (.inl rfl)) (pgs_cons (pg_name (i := 8) sc_law_place_right.nd rfl (.inl rfl)) pgs_nil)))) -- one, other = _law_ends(plan, state, stream or (), place)
        (pss_one (ps_ret (pe_cmpR op_ne (pv 7) (pv 8) (nomark _)))) -- return one != other
        ) pss_nil) -- if tells:
      (pss_cons (ps_for PassesOwn.never rfl (pi_range1 rfl T.m_range (pa_cons pe_int pa_nil)) (pg_name (i := 9) sc_law_place_right.nd rfl (.inl rfl)) 
        (pss_cons (ps_set (i := 6) sc_law_place_right.nd rfl (.inl rfl) (pe_callTy call_tuple_of (by rfl) T.m_tuple (by decide +kernel) (pa_cons (pe_lc (own := [("lap", 10)]) (g := gName 10) rfl sc_law_place_right.nd (pi_range1 rfl T.m_range (pa_cons (pe_callG (G_law_draw T) gd (hr.mono (by decide)) rfl T.law_draw.g T.law_draw.F.kp T.law_draw.b .nil pass0 (pa_cons (pv 0) (pa_cons pe_int pa_nil))) pa_nil)) (blkOk_by (N := N_law_place_right) (sc := defScope s_law_place_right) (by decide +kernel)) (fun _ _ _ _ _ => (pg_name (i := 10) sc_law_place_right.nd rfl (.inl rfl))) (fun _ _ _ _ _ => pts_nil) (fun _ _ _ _ _ => (pe_tup (pa_cons (pe_callG (G_law_draw T) gd (hr.mono (by decide)) rfl T.law_draw.g T.law_draw.F.kp T.law_draw.b .nil pass0 (pa_cons (pv 0) (pa_cons (pe_ix (r := rIxL K) ix_list (pv 1) pe_int (fun _ _ => rfl)) pa_nil))) (pa_cons (pe_callG (G_law_draw T) gd (hr.mono (by decide)) rfl T.law_draw.g T.law_draw.F.kp T.law_draw.b .nil pass0 (pa_cons (pv 0) (pa_cons pe_int pa_nil))) pa_nil))))) pa_nil))) -- stream = tuple([(_law_draw(pen, plan[0]), _law_draw(pen, 6)) for lap in range(_law_draw(pen, 7))])
        (pss_cons (ps_asg (pe_callG (G_law_ends T) gd (hr.mono (by decide)) rfl T.law_ends.g T.law_ends.F.kp T.law_ends.b .nil pass0 (pa_cons (pv 1) (pa_cons (pv 2) (pa_cons (pv 6) (pa_cons (pv 3) pa_nil))))) (pg_lst rfl (pgs_cons (pg_name (i := 7) sc_law_place_right.nd rfl (.inl rfl)) (pgs_cons (pg_name (i := 8) sc_law_place_right.nd rfl (.inl rfl)) pgs_nil)))) -- one, other = _law_ends(plan, state, stream, place)
        (pss_one (ps_if (pt_cmpR op_ne (pv 7) (pv 8) (nomark _)) 
          (pss_one (ps_ret pe_bl)) -- return False
           pss_nil)) -- if one != other:
        ))) -- for often in range(8):
      (pss_one (ps_ret pe_bl)) -- return True
      )))) , ?_⟩
    have L5 : 4000000 ≤ sizeLine := by decide
    obtain ⟨kin, hkl, hkt⟩ := hp.kin
    obtain ⟨c1, vc1, ic1, hc1, ec1⟩ := kinds_at hkt p0 p1
    have b := held_bd ok.k p0 p1
    obtain ⟨hin, hall⟩ := otherS_in (i := i) ok p0 p1
    have hgs := good_start (i := i) ok p0 p1
    have hrch : ∀ k, Rch PL PL [otherS PL.kinds p i] k → k ∈ allS := fun k => rch_all ok ok (fun s hs => by rw [List.mem_singleton.mp hs]; exact hin) (fun s hs => by rw [List.mem_singleton.mp hs]; exact hall)
    have hunl : unl PL PL (otherS PL.kinds p i) = false := by
      show (!decide (verAt PL.kinds p = verAt PL.kinds p)) = false
      simp
    refine ⟨.int p, rfl, .int p, rfl, .ref l, rfl, l, _, 1, .ref kl, rfl, rfl, SqL.of hp.at_, atI_nat (j := 1) rfl, .int p, rfl, kl, kin, p, .ref c1, rfl, rfl, SqL.of hkl, ic1, c1, _, 1, .int (heldAt PL.kinds p), rfl, rfl, SqT.of hc1, atI_nat (j := 1) rfl, .int i, rfl, heldAt PL.kinds p, i, rfl, b.1, b.2, fun r1 H1 s1 hr1 => ⟨by show 3 ≤ sizeLine; decide, fun st nst => ?_⟩⟩
    have s2 := same_new (o := .tup [.int p, .int p, .ref r1]) nst
    have hst : TD (upd H1 st (.tup [.int p, .int p, .ref r1])) (.ref st) (sitD (otherS PL.kinds p i)) := .tup upd_same (.cons (.int _) (.cons (.int _) (.cons (TD.mono (Tups.same s2) _ hr1) .nil)))
    have s12 := s1.trans s2
    generalize upd H1 st (.tup [.int p, .int p, .ref r1]) = H2 at s2 hst s12
    refine ⟨.ref l, rfl, .ref l, rfl, by show 2 ≤ sizeLine; decide, fun L nL => ?_⟩
    have s3 := same_new (o := .lst [.ref l, .ref l]) nL
    have hL : (upd H2 L (.lst [.ref l, .ref l])) L = some (.lst [.ref l, .ref l]) := upd_same
    have s13 := s12.trans s3
    have hst3 := TD.mono (Tups.same s3) _ hst
    generalize upd H2 L (.lst [.ref l, .ref l]) = H3 at s3 hL s13 hst3
    refine ⟨.ref st, rfl, L, l, kl, rl, .ref st, PL, otherS PL.kinds p i, rfl, ⟨hL, hp.mono s13, ok⟩, hst3, hin, hrch, hgs, hunl, fun u H4 s4 hu => ?_⟩
    have s14 := s13.trans s4
    have hp4 := hp.mono s14
    have hP4 := hP.mono s14
    refine ⟨.bl tb, rfl, tb, rfl, ?_⟩
    cases hb : tb with
    | true =>
      refine iteT ?_
      have hul : Ul PL PL (otherS PL.kinds p i) := otherS_ul.mp (htb.symm.trans hb)
      rcases hu with ⟨_, a, xs, ms, rfl, ha, hts, hne⟩ | ⟨hn, _⟩
      · have hne := tells_ends i0 |>.mp hne
        have hdd : (!decide (V.int (ends1 PL p ms) = V.int (ends2 PL p i ms))) = true := by
          rw [decide_eq_false (fun z => hne (V.int.inj z))]
          rfl
        refine ⟨.ref l, rfl, .int p, rfl, .ref a, rfl, !xs.isEmpty, .inr (.inl ⟨xs, SqT.of ha, rfl⟩), ?_⟩
        cases xs with
        | nil =>
          cases ms with
          | cons m r => cases hts
          | nil =>
            refine iteF ⟨by show 0 ≤ sizeLine; decide, fun e ne => ?_⟩
            have s5 := same_new (o := .tup []) ne
            refine ⟨.int i, rfl, l, kl, rl, e, PL, p, i, [], rfl, hp4.mono s5, ok, p0, p1, i0, i1, ⟨[], SqT.of upd_same, .nil⟩, fun r H6 s6 hr => ⟨r, _, rfl, SqL.of hr, rfl, .int _, [.int _], rfl, .int _, [], rfl, rfl, .int _, rfl, .int _, rfl, rfl, ?_⟩⟩
            rw [hdd]
            exact q H6 (Keep.same ((s14.trans s5).trans s6)) ((hP4.mono s5).mono s6)
        | cons x xr =>
          refine iteT ⟨.int i, rfl, l, kl, rl, a, PL, p, i, ms, rfl, hp4, ok, p0, p1, i0, i1, ⟨_, SqT.of ha, hts⟩, fun r H6 s6 hr => ⟨r, _, rfl, SqL.of hr, rfl, .int _, [.int _], rfl, .int _, [], rfl, rfl, .int _, rfl, .int _, rfl, rfl, ?_⟩⟩
          rw [hdd]
          exact q H6 (Keep.same (s14.trans s6)) (hP4.mono s6)
      · exact absurd hul hn
    | false =>
      refine iteF ?_
      have hnd : need PL p i = false := htb.symm.trans hb
      clear hu
      refine ⟨8, rfl, by decide, by decide, ?_⟩
      refine for_range (n := 8) (fun j σ H' => ∃ y5 y6 y7 y8 y9 y10, σ = [some (.ref pn), some (.ref l), some (.int p), some (.int i), some (.bl false), y5, y6, y7, y8, y9, y10] ∧ Keep pn H4 H' ∧ Pen H' pn c) ?_ ?_ ?_
      · exact ⟨_, _, _, _, _, _, rfl, fun _ _ e _ => e, hP4⟩
      · rintro j σ H5 hj ⟨y5, y6, y7, y8, y9, y10, rfl, k5, hP5⟩
        clear q
        generalize 0 + (j : Int) = lp
        have hp5 := hp4.but hP4 k5 nl nk
        refine ⟨.ref pn, rfl, pn, c, 7, rfl, hP5, by decide, by decide, fun d H6 d0 d1 k6 hP6 => ⟨d, rfl, by omega, by omega, fun D nD => ?_⟩⟩
        have hp6 := hp5.but hP5 k6 nl nk
        refine lc_range (n := d.toNat) (fun jj H' => Keep pn H6 H' ∧ Pen H' pn c ∧ ∃ xs ms, H' D = some (.lst xs) ∧ TDs H' xs (ms.map msgD) ∧ ms.length = jj ∧ Wds PL ms) ?_ ?_ ?_
        · exact ⟨fun c' o e _ => same_new nD _ _ e, hP6.mono (same_new nD), [], [], upd_same, .nil, rfl, Wds.nil⟩
        · rintro jj H7 hjj ⟨k7, hP7, xs, ms, hD7, hts7, hlen, hwd⟩
          have nDp := hP6.free nD
          have hp7 := hp6.but hP6 k7 nl nk
          have hw3 := ok.w
          refine ⟨rfl, .ref pn, rfl, .ref l, rfl, l, _, 0, .int PL.words, rfl, rfl, SqL.of hp7.at_, atI_nat (j := 0) rfl, pn, c, PL.words, rfl, hP7, by omega, by omega, fun a1 H8 a10 a11 k8 hP8 => ?_⟩
          refine ⟨.ref pn, rfl, pn, c, 6, rfl, hP8, by decide, by decide, fun a2 H9 a20 a21 k9 hP9 => ⟨by show 2 ≤ sizeLine; decide, fun m nm => ?_⟩⟩
          have k79 := k8.trans k9
          have hD9 := k79 _ _ hD7 nDp.1.symm
          have x9 := same_new (o := .tup [.int a1, .int a2]) nm
          have hm9 : (upd H9 m (.tup [.int a1, .int a2])) m = some (.tup [.int a1, .int a2]) := upd_same
          have hD10 := x9 _ _ hD9
          have hP10 := hP9.mono x9
          have tp10 : Tups H7 (upd H9 m (.tup [.int a1, .int a2])) := (hP7.tups k79).trans (Tups.same x9)
          have k10 : Keep pn H6 (upd H9 m (.tup [.int a1, .int a2])) := k7.trans (k79.trans (Keep.same x9))
          generalize upd H9 m (.tup [.int a1, .int a2]) = H10 at x9 hm9 hD10 hP10 tp10 k10
          have tpD := Tups.lst (o := .lst (xs ++ [.ref m])) hD10
          have lxs := hts7.len
          rw [List.length_map] at lxs
          refine ⟨xs, hD10, by omega, fun c' o e n => ?_, hP10.put nDp.1.symm nDp.2.symm, _, ms ++ [(a1, a2)], upd_same, ?_, by rw [List.length_append, hlen]; rfl, hwd.snoc ⟨a10, a11⟩⟩
          · rw [upd_ne (fun z => by rw [z, nD] at e; cases e)]
            exact k10 _ _ e n
          · rw [List.map_append]
            exact tds_snoc ((hts7.mono tp10).mono tpD) (.tup (tpD _ _ hm9) (.cons (.int _) (.cons (.int _) .nil)))
        · rintro H7 ⟨k7, hP7, xs, ms, hD7, hts7, hlen, hwd⟩
          refine ⟨D, xs, rfl, .inl ⟨SqL.of hD7, fun tt ntt => ?_⟩⟩
          have x8 := same_new (o := .tup xs) ntt
          have htt : (upd H7 tt (.tup xs)) tt = some (.tup xs) := upd_same
          have hts8 := hts7.mono (Tups.same x8)
          have hP8 := hP7.mono x8
          have k8 : Keep pn H6 (upd H7 tt (.tup xs)) := k7.trans (Keep.same x8)
          generalize upd H7 tt (.tup xs) = H8 at x8 htt hts8 hP8 k8
          have hp8 := hp6.but hP6 k8 nl nk
          refine ⟨.ref l, rfl, .int p, rfl, .ref tt, rfl, .int i, rfl, l, kl, rl, tt, PL, p, i, ms, rfl, hp8, ok, p0, p1, i0, i1, ⟨xs, SqT.of htt, hts8⟩, fun r H9 s9 hr => ⟨r, _, rfl, SqL.of hr, rfl, .int _, [.int _], rfl, .int _, [], rfl, rfl, ?_⟩⟩
          refine ⟨.int _, rfl, .int _, rfl, rfl, false, ?_, iteF ⟨_, _, _, _, _, _, rfl, k5.trans (k6.trans (k8.trans (Keep.same s9))), hP8.mono s9⟩⟩
          rw [ends_same ok p0 p1 i0 i1 hnd hwd]
          simp
      · rintro σ H5 ⟨y5, y6, y7, y8, y9, y10, rfl, k5, hP5⟩
        exact q H5 ((Keep.same s14).trans k5) hP5
end
def sp_law (K : PySem.W.Frag) : Sp := fun vs H Q _ => ∃ (a : Addr) (ns : List Int), vs = [.ref a] ∧ SqL K H a (ns.map V.int) ∧ ns.length ≤ 63 ∧ ∀ H', Q (.bl true) H'
theorem WAt.but {C : Addr} {H H' : Hp} {p c x lv lh d : Addr} {n : Int} {vs hs : List Int} {R : Rows} (h : WAt C H x lv lh d n vs hs R) (hP : Pen H p c) (b : Keep p H H') (n1 : lv ≠ p) (n2 : lh ≠ p) : WAt C H' x lv lh d n vs hs R := by
  obtain ⟨l, hp⟩ := hP.at
  obtain ⟨⟨dx, a⟩, f, g, ⟨kvs, e, k⟩, ne, i, j, len⟩ := h
  exact ⟨⟨dx, b _ _ a (ne_of a hp (fun z => nomatch z))⟩, b _ _ f n1, b _ _ g n2, ⟨kvs, b _ _ e (ne_of e hp (fun z => nomatch z)), k.mono (hP.tups b)⟩, ne, i, j, len⟩
/-- a turn's things -/
structure LW (C : Addr) (H : Hp) (pn c l kl rl : Addr) (a : WA) (nr : Addr) (rs : List Addr) (PL : Plan) : Prop where
  pen : Pen H pn c
  at_ : PlanAt H l kl rl PL
  wp : WP C H a.x a.lv a.lh a.d PL
  rows : RowsAt H nr rs PL
structure LSep (pn l kl : Addr) (a : WA) : Prop where
  n1 : l ≠ pn
  n2 : kl ≠ pn
  n3 : a.lv ≠ pn
  n4 : a.lh ≠ pn
theorem LW.mono {C : Addr} {H H' : Hp} {pn c l kl rl : Addr} {a : WA} {nr : Addr} {rs : List Addr} {PL : Plan} (h : LW C H pn c l kl rl a nr rs PL) (s : Same H H') : LW C H' pn c l kl rl a nr rs PL := ⟨h.pen.mono s, h.at_.mono s, h.wp.mono s, h.rows.mono s⟩
theorem LW.but {C : Addr} {H H' : Hp} {pn c l kl rl : Addr} {a : WA} {nr : Addr} {rs : List Addr} {PL : Plan} (h : LW C H pn c l kl rl a nr rs PL) (n : LSep pn l kl a) (k : Keep pn H H') (hP : Pen H' pn c) : LW C H' pn c l kl rl a nr rs PL := by
  obtain ⟨u, hp⟩ := h.pen.at
  refine ⟨hP, h.at_.but h.pen k n.n1 n.n2, ⟨h.wp.w.but h.pen k n.n3 n.n4, h.wp.ok⟩, ⟨k _ _ h.rows.at_ (ne_of h.rows.at_ hp (fun z => nomatch z)), h.rows.len, fun p a e => ?_⟩⟩
  obtain ⟨ob, e1, e2⟩ := h.rows.row p a e
  exact ⟨ob, k _ _ e1 (ne_of e1 hp (fun z => nomatch z)), e2⟩
theorem row_need {PL : Plan} {p i : Int} (p0 : 0 ≤ p) (i0 : 0 ≤ i) (i1 : i < heldAt PL.kinds p) : decide (i ∈ rowM PL p.toNat) = need PL p i := by
  have h := rowI_mem (PL := PL) p0 (n := i)
  have h : i ∈ rowM PL p.toNat ↔ ∃ k : Nat, i = (k : Int) ∧ (k : Int) < heldAt PL.kinds p ∧ need PL p (k : Int) = true := h
  cases hn : need PL p i with
  | true =>
    have e : ((i.toNat : Nat) : Int) = i := by omega
    exact decide_eq_true (h.mpr ⟨i.toNat, e.symm, by omega, by rw [e]; exact hn⟩)
  | false =>
    refine decide_eq_false fun z => ?_
    obtain ⟨k, rfl, _, hk⟩ := h.mp z
    rw [hn] at hk
    cases hk
section
variable {P : Program} {w : World} {K : PySem.W.Frag} {mg : Str → Option Value} {base : Heap}
abbrev N_law : List Str := ["script", "pen", "turn", "plan", "watcher", "needed", "state", "place", "claim", "found", "one", "other"]
theorem sc_law : FnScope N_law ["script"] (defScope s_law) := ⟨rfl, rfl, rfl, by decide +kernel, rfl, by decide +kernel, by decide +kernel⟩
theorem ok_law (T : Tx K mg) {f : Addr} {fd : FuncData} (F : Fun K "law" "law" s_law f fd) : FnG P w K mg base CX0 10 f fd ["script"] (sp_law K) := by
  refine okG F sc_law (fun vs H Q E h => ?_) (fun cdv A outer s H vs Q E gd hr h => ?_)
  · obtain ⟨a, ns, rfl, _⟩ := h
    rfl
  · obtain ⟨a, ns, rfl, hS, hl, q⟩ := h
    refine ⟨_, 
      (pss_cons (ps_set (i := 1) sc_law.nd rfl (.inl rfl) (pe_callG (G_law_pen T) gd (hr.mono (by decide)) rfl T.law_pen.g T.law_pen.F.kp T.law_pen.b .nil pass0 (pa_cons (pv 0) pa_nil))) -- pen = _law_pen(script)
      (pss_cons (ps_for PassesOwn.never rfl (pi_range1 rfl T.m_range (pa_cons pe_int pa_nil)) (pg_name (i := 2) sc_law.nd rfl (.inl rfl)) 
        (C8.pss_cut (ps_set (i := 3) sc_law.nd rfl (.inl rfl) (pe_ifExp (pt_cmpR op_gt (pe_callG (G_law_draw T) gd (hr.mono (by decide)) rfl T.law_draw.g T.law_draw.F.kp T.law_draw.b .nil pass0 (pa_cons (pv 1) (pa_cons pe_int pa_nil))) pe_int (nomark _)) (pe_callG (G_law_few_plan T) gd (hr.mono (by decide)) rfl T.law_few_plan.g T.law_few_plan.F.kp T.law_few_plan.b .nil pass0 (pa_cons (pv 1) pa_nil)) (pe_callG (G_law_plan T) gd (hr.mono (by decide)) rfl T.law_plan.g T.law_plan.F.kp T.law_plan.b .nil pass0 (pa_cons (pv 1) (pa_cons pe_int (pa_cons pe_int (pa_cons pe_int pa_nil))))))) -- plan = _law_few_plan(pen) if _law_draw(pen, 7) > 0 else _law_plan(pen, 1, 2, 3)
        (C8.pss_cut (ps_set (i := 4) sc_law.nd rfl (.inl rfl) (pe_callG (G_law_built T) gd (hr.mono (by decide)) rfl T.law_built.g T.law_built.F.kp T.law_built.b .nil pass0 (pa_cons (pv 3) pa_nil))) -- watcher = _law_built(plan)
        (C8.pss_cut (ps_set (i := 5) sc_law.nd rfl (.inl rfl) (pe_callG (G_needed_places T) gd (hr.mono (by decide)) rfl T.needed_places.g T.needed_places.F.kp T.needed_places.b .nil pass0 (pa_cons (pv 4) pa_nil))) -- needed = needed_places(watcher)
        (pss_one (ps_for PassesOwn.never rfl (pi_range1 rfl T.m_range (pa_cons (pe_callB call_len_seq (by rfl) T.m_len PySem.boot_len (pa_cons (pe_ix ix_list (pv 3) pe_int (fun _ _ => rfl)) pa_nil)) pa_nil)) (pg_name (i := 6) sc_law.nd rfl (.inl rfl)) 
          (pss_one (ps_for PassesOwn.never rfl (pi_range1 rfl T.m_range (pa_cons (pe_ix ix_tup (pe_ix ix_list (pe_ix ix_list (pv 3) pe_int (fun _ _ => rfl)) (pv 6) (fun _ _ => rfl)) pe_int (fun _ _ => rfl)) pa_nil)) (pg_name (i := 7) sc_law.nd rfl (.inl rfl)) 
            (pss_cons (ps_if (pt_not (pt_val (pe_callG (G_law_place_right T) gd (hr.mono (by decide)) rfl T.law_place_right.g T.law_place_right.F.kp T.law_place_right.b .nil pass0 (pa_cons (pv 1) (pa_cons (pv 3) (pa_cons (pv 6) (pa_cons (pv 7) (pa_cons (pe_cmpR op_in_seq (pv 7) (pe_ix ix_tup (pv 5) (pv 6) (fun _ _ => rfl)) rfl) pa_nil)))))))) 
              (pss_one (ps_ret pe_bl)) -- return False
               pss_nil) -- if not _law_place_right(pen, plan, state, place, place in needed[state]):
            (pss_cons (ps_set (i := 8) sc_law.nd rfl (.inl rfl) (pe_tup (pa_cons pe_str (pa_cons (pe_ix ix_str pe_str (pe_callG (G_law_draw T) gd (hr.mono (by decide)) rfl T.law_draw.g T.law_draw.F.kp T.law_draw.b .nil pass0 (pa_cons (pv 1) (pa_cons pe_int pa_nil))) (fun _ _ => rfl)) (pa_cons (pv 6) (pa_cons (pv 7) pa_nil)))))) -- claim = ('unneeded', 'AB'[_law_draw(pen, 2)], state, place)
            (pss_cons (ps_set (i := 9) sc_law.nd rfl (.inl rfl) (pe_callG (G_decide T) gd (hr.mono (by decide)) rfl T.decide.g T.decide.F.kp T.decide.b .nil pass0 (pa_cons (pe_tup (pa_cons (pv 4) (pa_cons (pv 4) pa_nil))) (pa_cons (pv 8) pa_nil)))) -- found = decide((watcher, watcher), claim)
            (pss_cons (ps_if (PW.pt (pw_or (pt_cmpR op_ne (pe_ix ix_tup (pv 9) pe_int (fun _ _ => rfl)) (pe_ifExp (pt_cmpR op_in_seq (pv 7) (pe_ix ix_tup (pv 5) (pv 6) (fun _ _ => rfl)) rfl) pe_str pe_str) (nomark _)) (pw_or1 (pt_cmpR (op_neT hr.units) (pe_ix ix_tup (pv 9) pe_int (fun _ _ => rfl)) (pv 8) (nomark _))))) 
              (pss_one (ps_ret pe_bl)) -- return False
               pss_nil) -- if found[0] != ('broken' if place in needed[state] else 'shown') or found[1] != claim:
            (pss_one (ps_if (pt_cmpR op_eq (pe_ix ix_tup (pv 9) pe_int (fun _ _ => rfl)) pe_str (nomark _)) 
              (pss_cons (ps_asg (pe_callG (G_law_ends T) gd (hr.mono (by decide)) rfl T.law_ends.g T.law_ends.F.kp T.law_ends.b .nil pass0 (pa_cons (pv 3) (pa_cons (pv 6) (pa_cons (pe_ix ix_tup (pv 9) pe_int (fun _ _ => rfl)) (pa_cons (pv 7) pa_nil))))) (pg_lst rfl (pgs_cons (pg_name (i := 10) sc_law.nd rfl (.inl rfl)) (pgs_cons (pg_name (i := 11) sc_law.nd rfl (.inl rfl)) pgs_nil)))) -- one, other = _law_ends(plan, state, found[2], place)
              (pss_one (ps_if (pt_cmpR op_eq (pv 10) (pv 11) (nomark _)) 
                (pss_one (ps_ret pe_bl)) -- return False
                 pss_nil)) -- if one == other:
              ) pss_nil)) -- if found[0] == 'broken':
            )))))) -- for place in range(plan[1][state][1]):
          )) -- for state in range(len(plan[1])):
        )))) -- for turn in range(1):
      (pss_one (ps_ret pe_bl)) -- return True
      )) , ?_⟩
    refine ⟨.ref a, rfl, a, ns, rfl, hS, hl, fun pn c H1 s1 np nc hP => ?_⟩
    refine ⟨1, rfl, by decide, by decide, ?_⟩
    refine for_range (n := 1) (fun j σ H' => ∃ y2 y3 y4 y5 y6 y7 y8 y9 y10 y11, σ = [some (.ref a), some (.ref pn), y2, y3, y4, y5, y6, y7, y8, y9, y10, y11] ∧ Pen H' pn c) ?_ ?_ ?_
    · exact ⟨_, _, _, _, _, _, _, _, _, _, rfl, hP⟩
    · rintro j σ H2 hj ⟨y2, y3, y4, y5, y6, y7, y8, y9, y10, y11, rfl, hP2⟩
      generalize 0 + (j : Int) = tn
      clear hj hP s1 np nc
      refine ⟨fun σ H' => ∃ l kl rl pl, σ = [some (.ref a), some (.ref pn), some (.int tn), some (.ref l), y4, y5, y6, y7, y8, y9, y10, y11] ∧ Pen H' pn c ∧ PlanAt H' l kl rl pl ∧ PlanOk pl ∧ l ≠ pn ∧ kl ≠ pn, ?_, ?_⟩
      · refine ⟨.ref pn, rfl, pn, c, 7, rfl, hP2, by decide, by decide, fun d H3 d0 d1 k3 hP3 => ?_⟩
        refine ⟨d, 0, rfl, rfl, _, rfl, ite2 (fun _ => ?_) (fun _ => ?_)⟩
        · exact ⟨.ref pn, rfl, pn, c, rfl, hP3, fun l kl rl pl H4 k4 hP4 fl fk fr hp ok => ⟨l, kl, rl, pl, rfl, hP4, hp, ok, (hP3.free fl).1.symm, (hP3.free fk).1.symm⟩⟩
        · exact ⟨.ref pn, rfl, pn, c, 1, 2, 3, rfl, hP3, by decide, by decide, by decide, by decide, by decide, by decide, fun l kl rl pl H4 _ k4 hP4 fl fk fr hp ok _ => ⟨l, kl, rl, pl, rfl, hP4, hp, ok, (hP3.free fl).1.symm, (hP3.free fk).1.symm⟩⟩
      rintro σ H3 ⟨l, kl, rl, PL, rfl, hP3, hp3, ok, nl, nk⟩
      refine ⟨fun σ H' => ∃ w : WA, σ = [some (.ref a), some (.ref pn), some (.int tn), some (.ref l), some (.ref w.x), y5, y6, y7, y8, y9, y10, y11] ∧ Pen H' pn c ∧ PlanAt H' l kl rl PL ∧ WP T.Watcher.C H' w.x w.lv w.lh w.d PL ∧ LSep pn l kl w, ?_, ?_⟩
      · refine ⟨.ref l, rfl, l, kl, rl, PL, rfl, hp3, ok, fun x lv lh d H4 s4 fx fv fh fd hW => ?_⟩
        exact ⟨⟨x, lv, lh, d⟩, rfl, hP3.mono s4, hp3.mono s4, ⟨hW, ok⟩, ⟨nl, nk, (hP3.free fv).1.symm, (hP3.free fh).1.symm⟩⟩
      clear hP3 hp3 hP2
      rintro σ H4 ⟨wa, rfl, hP4, hp4, hw4, sep⟩
      refine ⟨fun σ H' => ∃ nr rs, σ = [some (.ref a), some (.ref pn), some (.int tn), some (.ref l), some (.ref wa.x), some (.ref nr), y6, y7, y8, y9, y10, y11] ∧ LW T.Watcher.C H' pn c l kl rl wa nr rs PL, ?_, ?_⟩
      · exact ⟨.ref wa.x, rfl, wa.x, wa.lv, wa.lh, wa.d, PL, rfl, hw4, fun r rs H5 s5 _ _ hr => ⟨r, rs, rfl, hP4.mono s5, hp4.mono s5, hw4.mono s5, hr⟩⟩
      clear hP4 hp4 hw4
      rintro σ H5 ⟨nr, rs, rfl, W5⟩
      have hk6 := ok.k.len
      obtain ⟨kin, hkl, hkt⟩ := W5.at_.kin
      have lkin : kin.length = PL.kinds.length := hkt.msgs_len
      refine ⟨.ref l, rfl, l, _, 1, .ref kl, rfl, rfl, SqL.of W5.at_.at_, atI_nat (j := 1) rfl, kl, _, rfl, .inl (SqL.of hkl), ?_⟩
      rw [lkin]
      clear hkl hkt lkin kin
      refine ⟨_, rfl, by omega, by omega, ?_⟩
      refine for_range (n := (PL.kinds.length : Int).toNat) (fun js σ H' => ∃ y6 y7 y8 y9 y10 y11, σ = [some (.ref a), some (.ref pn), some (.int tn), some (.ref l), some (.ref wa.x), some (.ref nr), y6, y7, y8, y9, y10, y11] ∧ LW T.Watcher.C H' pn c l kl rl wa nr rs PL) ?_ ?_ ?_
      · exact ⟨_, _, _, _, _, _, rfl, W5⟩
      · clear W5
        rintro js σ H6 hjs ⟨y6, y7, y8, y9, y10, y11, rfl, W6⟩
        obtain ⟨p, ep⟩ : ∃ p : Int, p = 0 + (js : Int) := ⟨_, rfl⟩
        rw [← ep]
        have p0 : 0 ≤ p := by omega
        have p1 : p < PL.kinds.length := by omega
        have b := held_bd ok.k p0 p1
        obtain ⟨kin, hkl, hkt⟩ := W6.at_.kin
        obtain ⟨c1, vc1, ic1, hc1, ec1⟩ := kinds_at hkt p0 p1
        refine ⟨.ref l, rfl, l, _, 1, .ref kl, rfl, rfl, SqL.of W6.at_.at_, atI_nat (j := 1) rfl, .int p, rfl, kl, kin, p, .ref c1, rfl, rfl, SqL.of hkl, ic1, c1, _, 1, .int (heldAt PL.kinds p), rfl, rfl, SqT.of hc1, atI_nat (j := 1) rfl, heldAt PL.kinds p, rfl, by omega, by omega, ?_⟩
        clear hkl hkt hc1 ic1 ec1 kin
        refine for_range (n := (heldAt PL.kinds p).toNat) (fun ji σ H' => ∃ y7 y8 y9 y10 y11, σ = [some (.ref a), some (.ref pn), some (.int tn), some (.ref l), some (.ref wa.x), some (.ref nr), some (.int p), y7, y8, y9, y10, y11] ∧ LW T.Watcher.C H' pn c l kl rl wa nr rs PL) ?_ ?_ ?_
        · exact ⟨_, _, _, _, _, rfl, W6⟩
        · clear W6
          rintro ji σ H7 hji ⟨y7, y8, y9, y10, y11, rfl, W7⟩
          obtain ⟨i, ei⟩ : ∃ i : Int, i = 0 + (ji : Int) := ⟨_, rfl⟩
          rw [← ei]
          have i0 : 0 ≤ i := by omega
          have i1 : i < heldAt PL.kinds p := by omega
          have hrp : p.toNat < rs.length := by
            rw [W7.rows.len]
            omega
          have era : rs[p.toNat]? = some rs[p.toNat] := List.getElem?_eq_getElem hrp
          generalize rs[p.toNat] = ra at era
          have hra : atI (rs.map V.ref) p = some (.ref ra) := by
            have : ((p.toNat : Nat) : Int) = p := by omega
            rw [← this]
            refine atI_nat ?_
            rw [List.getElem?_map, era]
            rfl
          have hflat : ((rowM PL p.toNat).map V.int).all flatV = true := by
            rw [List.all_map]
            exact List.all_eq_true.mpr fun _ _ => rfl
          have hin : inV (.int i) ((rowM PL p.toNat).map V.int) = need PL p i := (inV_ints _ _).trans (row_need p0 i0 i1)
          refine ⟨.ref pn, rfl, .ref l, rfl, .int p, rfl, .int i, rfl, .int i, rfl, .ref nr, rfl, .int p, rfl, nr, _, p, .ref ra, rfl, rfl, SqT.of W7.rows.at_, hra, ra, _, rfl, .inr (W7.rows.row _ _ era).sq, rfl, hflat, ?_⟩
          refine ⟨pn, c, l, kl, rl, PL, p, i, _, rfl, W7.pen, W7.at_, ok, sep.n1, sep.n2, p0, p1, i0, i1, hin, fun H8 k8 hP8 => ⟨true, rfl, iteF ?_⟩⟩
          have W8 := W7.but sep k8 hP8
          clear W7
          refine ⟨.ref pn, rfl, pn, c, 2, rfl, W8.pen, by decide, by decide, fun d H9 d0 d1 k9 hP9 => ?_⟩
          have W9 := W8.but sep k9 hP9
          clear W8
          obtain ⟨sg, hsd, hat⟩ : ∃ sg : Nat, Sd ⟨#[sg]⟩ ∧ atI ("AB" : Str).cps.toList d = some sg := by
            have : d = 0 ∨ d = 1 := by omega
            rcases this with rfl | rfl
            · exact ⟨65, .inl (by decide), by decide⟩
            · exact ⟨66, .inr (by decide), by decide⟩
          refine ⟨"AB", d, sg, rfl, rfl, by decide, hat, .int p, rfl, .int i, rfl, by show 4 ≤ sizeLine; decide, fun cl ncl => ?_⟩
          generalize (⟨#[sg]⟩ : Str) = sd at hsd
          have x10 := same_new (o := .tup [.str "unneeded", .str sd, .int p, .int i]) ncl
          have hcl : (upd H9 cl (.tup [.str "unneeded", .str sd, .int p, .int i])) cl = some (.tup [.str "unneeded", .str sd, .int p, .int i]) := upd_same
          have W10 := W9.mono x10
          clear W9
          generalize upd H9 cl (.tup [.str "unneeded", .str sd, .int p, .int i]) = H10 at x10 hcl W10
          refine ⟨.ref wa.x, rfl, .ref wa.x, rfl, by show 2 ≤ sizeLine; decide, fun t nt => ?_⟩
          have x11 := same_new (o := .tup [.ref wa.x, .ref wa.x]) nt
          have ht11 : (upd H10 t (.tup [.ref wa.x, .ref wa.x])) t = some (.tup [.ref wa.x, .ref wa.x]) := upd_same
          have W11 := W10.mono x11
          have hcl11 := x11 _ _ hcl
          clear W10
          generalize upd H10 t (.tup [.ref wa.x, .ref wa.x]) = H11 at x11 ht11 W11 hcl11
          have hC11 : ClAt H11 cl PL sd p i := ⟨hcl11, hsd, p0, p1, i0, i1⟩
          refine ⟨.ref cl, rfl, t, cl, wa, PL, sd, p, i, rfl, ⟨SqT.of ht11, W11.wp, W11.wp⟩, hC11, fun r z H12 s12 hd => ?_⟩
          have W12 := W11.mono s12
          have hC12 := hC11.mono s12
          clear W11
          have hctd := hC12.td
          have hlay : (PyData.tuple [.str "unneeded", .str sd, .int p, .int i]).canLay0 = true := by
            have : PyData.strOk sd = true := by
              rcases hsd with e | e <;> rw [e] <;> decide +kernel
            simp only [PyData.canLay0, PyData.canLayAll0, this]
            decide +kernel
          have hsh : SeqAt.shaped (.tuple [.str "unneeded", .str sd, .int p, .int i]) = true := by
            unfold SeqAt.shaped
            rw [hlay]
            simp only [PyData.depth, PyData.depthAll]
            rfl
          have heq : PyData.eqv (.tuple [.str "unneeded", .str sd, .int p, .int i]) (.tuple [.str "unneeded", .str sd, .int p, .int i]) = true := SeqAt.eqv_refl _ hlay
          rcases hd with ⟨hul, hr, xs, ms, hz, hts, htl⟩ | ⟨hul, hr⟩
          · have hn : need PL p i = true := otherS_ul.mpr hul
            have hin2 := hin.trans hn
            refine ⟨.ref r, rfl, r, _, 0, .str "broken", rfl, rfl, SqT.of hr, atI_nat (j := 0) rfl, .int i, rfl, .ref nr, rfl, .int p, rfl, nr, _, p, .ref ra, rfl, rfl, SqT.of W12.rows.at_, hra, ra, _, rfl, .inr (W12.rows.row _ _ era).sq, rfl, hflat, true, congrArg V.bl hin2, iteT ⟨rfl, false, by simp, iteF ?_⟩⟩
            refine ⟨.ref r, rfl, r, _, 1, .ref cl, rfl, rfl, SqT.of hr, atI_nat (j := 1) rfl, .ref cl, rfl, _, _, hctd, hctd, hsh, hsh, false, by rw [heq]; rfl, iteF ?_⟩
            refine ⟨.ref r, rfl, r, _, 0, .str "broken", rfl, rfl, SqT.of hr, atI_nat (j := 0) rfl, rfl, true, str_eq _, iteT ?_⟩
            have hne := tells_ends i0 |>.mp htl
            refine ⟨.ref l, rfl, .int p, rfl, .ref r, rfl, r, _, 2, .ref z, rfl, rfl, SqT.of hr, atI_nat (j := 2) rfl, .int i, rfl, l, kl, rl, z, PL, p, i, ms, rfl, W12.at_, ok, p0, p1, i0, i1, ⟨xs, SqT.of hz, hts⟩, fun r2 H13 s13 hr2 => ⟨r2, _, rfl, SqL.of hr2, rfl, .int _, [.int _], rfl, .int _, [], rfl, rfl, .int _, rfl, .int _, rfl, rfl, false, congrArg V.bl (decide_eq_false fun e => hne (V.int.inj e)), iteF ?_⟩⟩
            exact ⟨_, _, _, _, _, rfl, W12.mono s13⟩
          · have hn : need PL p i = false := by
              cases h : need PL p i with
              | false => rfl
              | true => exact absurd (otherS_ul.mp h) hul
            have hin2 := hin.trans hn
            refine ⟨.ref r, rfl, r, _, 0, .str "shown", rfl, rfl, SqT.of hr, atI_nat (j := 0) rfl, .int i, rfl, .ref nr, rfl, .int p, rfl, nr, _, p, .ref ra, rfl, rfl, SqT.of W12.rows.at_, hra, ra, _, rfl, .inr (W12.rows.row _ _ era).sq, rfl, hflat, false, congrArg V.bl hin2, iteF ⟨rfl, false, by simp, iteF ?_⟩⟩
            refine ⟨.ref r, rfl, r, _, 1, .ref cl, rfl, rfl, SqT.of hr, atI_nat (j := 1) rfl, .ref cl, rfl, _, _, hctd, hctd, hsh, hsh, false, by rw [heq]; rfl, iteF ?_⟩
            refine ⟨.ref r, rfl, r, _, 0, .str "shown", rfl, rfl, SqT.of hr, atI_nat (j := 0) rfl, rfl, false, str_ne (by decide), iteF ?_⟩
            exact ⟨_, _, _, _, _, rfl, W12⟩
        · rintro σ H7 ⟨y7, y8, y9, y10, y11, rfl, W7⟩
          exact ⟨_, _, _, _, _, _, rfl, W7⟩
      · rintro σ H6 ⟨y6, y7, y8, y9, y10, y11, rfl, W6⟩
        exact ⟨_, _, _, _, _, _, _, _, _, _, rfl, W6.pen⟩
    · rintro σ H2 _
      exact q H2
end
theorem all_mk {l : PySem.W.OpenLaw} {w : World} {K : PySem.W.Frag} {h : Heap} {mg : Str → Option Value} {fa f_is_integer f_is_between f_Watcher_init f_Watcher_len f_Watcher_add_state f_Watcher_set_verdict f_Watcher_add_rule f_Watcher_verdicts f_Watcher_held_counts f_Watcher_rules f_Watcher_rule_for f_Watcher_require_state f_Watcher_require_word f_require_verdict f_is_test f_are_sources f_is_source f_rule_order f_part_order f_after_message f_carried f_verdicts_at f_steps_from f_steps_among f_reached_situations f_ways_to f_continuation_along f_held_numbers f_equal_places f_cases_between f_situation_after f_value_of f_least_other f_other_value f_are_sought f_ways_to_sought f_ways_to_unlike f_all_places f_require_claim f_decide f_require_paired f_is_claim f_is_claim_about f_are_places f_watcher_of f_compared f_answer_of_stream f_answer_of_table f_decide_compared f_needed_places f_law_pen f_law_fresh f_law_draw f_law_some_sources f_law_plan f_law_built f_law_moved f_law_situation f_law_started f_law_met f_law_unlike f_law_without f_law_few_plan f_law_ends f_law_place_right f_law : Addr} (X : K.In h) (G : h.Ns mainGlobals mg) (hfa : mg "law" = some (.ref fa))
    {od0 an0 od1 an1 od2 an2 od3 an3 od4 an4 od5 an5 od6 an6 od7 an7 od8 an8 od9 an9 od10 an10 od11 an11 od12 an12 od13 an13 od14 an14 od15 an15 od16 an16 od17 an17 od18 an18 od19 an19 od20 an20 od21 an21 od22 an22 od23 an23 od24 an24 od25 an25 od26 an26 od27 an27 od28 an28 od29 an29 od30 an30 od31 an31 od32 an32 od33 an33 od34 an34 od35 an35 od36 an36 od37 an37 od38 an38 od39 an39 od40 an40 od41 an41 od42 an42 od43 an43 od44 an44 od45 an45 od46 an46 od47 an47 od48 an48 od49 an49 od50 an50 od51 an51 od52 an52 od53 an53 od54 an54 od55 an55 od56 an56 od57 an57 od58 an58 od59 an59 od60 an60 od61 an61 od62 an62 od63 an63 od64 an64 od65 an65 : Option Addr} {sl0 sl1 sl2 sl3 sl4 sl5 sl6 sl7 sl8 sl9 sl10 sl11 sl12 sl13 sl14 sl15 sl16 sl17 sl18 sl19 sl20 sl21 sl22 sl23 sl24 sl25 sl26 sl27 sl28 sl29 sl30 sl31 sl32 sl33 sl34 sl35 sl36 sl37 sl38 sl39 sl40 sl41 sl42 sl43 sl44 sl45 sl46 sl47 sl48 sl49 sl50 sl51 sl52 sl53 sl54 sl55 sl56 sl57 sl58 sl59 sl60 sl61 sl62 sl63 sl64 sl65 : Array (Option Value)} {oc0 kV0 dc0 pm0 cd0 ct0 oc1 kV1 dc1 pm1 cd1 ct1 oc2 kV2 dc2 pm2 cd2 ct2 oc3 kV3 dc3 pm3 cd3 ct3 oc4 kV4 dc4 pm4 cd4 ct4 oc5 kV5 dc5 pm5 cd5 ct5 oc6 kV6 dc6 pm6 cd6 ct6 oc7 kV7 dc7 pm7 cd7 ct7 oc8 kV8 dc8 pm8 cd8 ct8 oc9 kV9 dc9 pm9 cd9 ct9 oc10 kV10 dc10 pm10 cd10 ct10 oc11 kV11 dc11 pm11 cd11 ct11 oc12 kV12 dc12 pm12 cd12 ct12 oc13 kV13 dc13 pm13 cd13 ct13 oc14 kV14 dc14 pm14 cd14 ct14 oc15 kV15 dc15 pm15 cd15 ct15 oc16 kV16 dc16 pm16 cd16 ct16 oc17 kV17 dc17 pm17 cd17 ct17 oc18 kV18 dc18 pm18 cd18 ct18 oc19 kV19 dc19 pm19 cd19 ct19 oc20 kV20 dc20 pm20 cd20 ct20 oc21 kV21 dc21 pm21 cd21 ct21 oc22 kV22 dc22 pm22 cd22 ct22 oc23 kV23 dc23 pm23 cd23 ct23 oc24 kV24 dc24 pm24 cd24 ct24 oc25 kV25 dc25 pm25 cd25 ct25 oc26 kV26 dc26 pm26 cd26 ct26 oc27 kV27 dc27 pm27 cd27 ct27 oc28 kV28 dc28 pm28 cd28 ct28 oc29 kV29 dc29 pm29 cd29 ct29 oc30 kV30 dc30 pm30 cd30 ct30 oc31 kV31 dc31 pm31 cd31 ct31 oc32 kV32 dc32 pm32 cd32 ct32 oc33 kV33 dc33 pm33 cd33 ct33 oc34 kV34 dc34 pm34 cd34 ct34 oc35 kV35 dc35 pm35 cd35 ct35 oc36 kV36 dc36 pm36 cd36 ct36 oc37 kV37 dc37 pm37 cd37 ct37 oc38 kV38 dc38 pm38 cd38 ct38 oc39 kV39 dc39 pm39 cd39 ct39 oc40 kV40 dc40 pm40 cd40 ct40 oc41 kV41 dc41 pm41 cd41 ct41 oc42 kV42 dc42 pm42 cd42 ct42 oc43 kV43 dc43 pm43 cd43 ct43 oc44 kV44 dc44 pm44 cd44 ct44 oc45 kV45 dc45 pm45 cd45 ct45 oc46 kV46 dc46 pm46 cd46 ct46 oc47 kV47 dc47 pm47 cd47 ct47 oc48 kV48 dc48 pm48 cd48 ct48 oc49 kV49 dc49 pm49 cd49 ct49 oc50 kV50 dc50 pm50 cd50 ct50 oc51 kV51 dc51 pm51 cd51 ct51 oc52 kV52 dc52 pm52 cd52 ct52 oc53 kV53 dc53 pm53 cd53 ct53 oc54 kV54 dc54 pm54 cd54 ct54 oc55 kV55 dc55 pm55 cd55 ct55 oc56 kV56 dc56 pm56 cd56 ct56 oc57 kV57 dc57 pm57 cd57 ct57 oc58 kV58 dc58 pm58 cd58 ct58 oc59 kV59 dc59 pm59 cd59 ct59 oc60 kV60 dc60 pm60 cd60 ct60 oc61 kV61 dc61 pm61 cd61 ct61 oc62 kV62 dc62 pm62 cd62 ct62 oc63 kV63 dc63 pm63 cd63 ct63 oc64 kV64 dc64 pm64 cd64 ct64 oc65 kV65 dc65 pm65 cd65 ct65 : Value}
    {ck_MOST_WORDS ck_MOST_STATES ck_MOST_HELD ck_MOST_VERDICT ck_NEW ck_VALUE ck_BOTH ck_FIRST ck_SECOND ck_ALIKE ck_TOGETHER ck_UNNEEDED ck_NEVER ck_LEAST ck_SHOWN ck_BROKEN : Tok}
    {C_Watcher : Addr}
    (a0 : PySem.W.nsIn K mainGlobals "is_integer" = some (some (.ref f_is_integer)))
    (l0 : K.lookup f_is_integer = some ⟨oc0, od0, .func (PySem.W.fnOf "is_integer" "is_integer" (defArgs s_is_integer) (defBody s_is_integer) (defScope s_is_integer) .none kV0 dc0 pm0 an0 cd0 ct0), sl0⟩) (c0 : PySem.W.codeIn K cd0 "is_integer" = true) (k0 : PySem.W.keepIn K (.ref f_is_integer) = true)
    (a1 : PySem.W.nsIn K mainGlobals "is_between" = some (some (.ref f_is_between)))
    (l1 : K.lookup f_is_between = some ⟨oc1, od1, .func (PySem.W.fnOf "is_between" "is_between" (defArgs s_is_between) (defBody s_is_between) (defScope s_is_between) .none kV1 dc1 pm1 an1 cd1 ct1), sl1⟩) (c1 : PySem.W.codeIn K cd1 "is_between" = true) (k1 : PySem.W.keepIn K (.ref f_is_between) = true)
    (a2 : PySem.W.findIn K (.ref C_Watcher) "__init__" = some (some (.ref f_Watcher_init))) (i2 : PySem.W.isFn K (.ref f_Watcher_init) = true)
    (l2 : K.lookup f_Watcher_init = some ⟨oc2, od2, .func (PySem.W.fnOf "__init__" "Watcher.__init__" (defArgs s_Watcher_init) (defBody s_Watcher_init) (defScope s_Watcher_init) .none kV2 dc2 pm2 an2 cd2 ct2), sl2⟩) (c2 : PySem.W.codeIn K cd2 "Watcher.__init__" = true) (k2 : PySem.W.keepIn K (.ref f_Watcher_init) = true)
    (a3 : PySem.W.findIn K (.ref C_Watcher) "__len__" = some (some (.ref f_Watcher_len))) (i3 : PySem.W.isFn K (.ref f_Watcher_len) = true)
    (l3 : K.lookup f_Watcher_len = some ⟨oc3, od3, .func (PySem.W.fnOf "__len__" "Watcher.__len__" (defArgs s_Watcher_len) (defBody s_Watcher_len) (defScope s_Watcher_len) .none kV3 dc3 pm3 an3 cd3 ct3), sl3⟩) (c3 : PySem.W.codeIn K cd3 "Watcher.__len__" = true) (k3 : PySem.W.keepIn K (.ref f_Watcher_len) = true)
    (a4 : PySem.W.findIn K (.ref C_Watcher) "add_state" = some (some (.ref f_Watcher_add_state))) (i4 : PySem.W.isFn K (.ref f_Watcher_add_state) = true)
    (l4 : K.lookup f_Watcher_add_state = some ⟨oc4, od4, .func (PySem.W.fnOf "add_state" "Watcher.add_state" (defArgs s_Watcher_add_state) (defBody s_Watcher_add_state) (defScope s_Watcher_add_state) .none kV4 dc4 pm4 an4 cd4 ct4), sl4⟩) (c4 : PySem.W.codeIn K cd4 "Watcher.add_state" = true) (k4 : PySem.W.keepIn K (.ref f_Watcher_add_state) = true)
    (a5 : PySem.W.findIn K (.ref C_Watcher) "set_verdict" = some (some (.ref f_Watcher_set_verdict))) (i5 : PySem.W.isFn K (.ref f_Watcher_set_verdict) = true)
    (l5 : K.lookup f_Watcher_set_verdict = some ⟨oc5, od5, .func (PySem.W.fnOf "set_verdict" "Watcher.set_verdict" (defArgs s_Watcher_set_verdict) (defBody s_Watcher_set_verdict) (defScope s_Watcher_set_verdict) .none kV5 dc5 pm5 an5 cd5 ct5), sl5⟩) (c5 : PySem.W.codeIn K cd5 "Watcher.set_verdict" = true) (k5 : PySem.W.keepIn K (.ref f_Watcher_set_verdict) = true)
    (a6 : PySem.W.findIn K (.ref C_Watcher) "add_rule" = some (some (.ref f_Watcher_add_rule))) (i6 : PySem.W.isFn K (.ref f_Watcher_add_rule) = true)
    (l6 : K.lookup f_Watcher_add_rule = some ⟨oc6, od6, .func (PySem.W.fnOf "add_rule" "Watcher.add_rule" (defArgs s_Watcher_add_rule) (defBody s_Watcher_add_rule) (defScope s_Watcher_add_rule) .none kV6 dc6 pm6 an6 cd6 ct6), sl6⟩) (c6 : PySem.W.codeIn K cd6 "Watcher.add_rule" = true) (k6 : PySem.W.keepIn K (.ref f_Watcher_add_rule) = true)
    (a7 : PySem.W.findIn K (.ref C_Watcher) "verdicts" = some (some (.ref f_Watcher_verdicts))) (i7 : PySem.W.isFn K (.ref f_Watcher_verdicts) = true)
    (l7 : K.lookup f_Watcher_verdicts = some ⟨oc7, od7, .func (PySem.W.fnOf "verdicts" "Watcher.verdicts" (defArgs s_Watcher_verdicts) (defBody s_Watcher_verdicts) (defScope s_Watcher_verdicts) .none kV7 dc7 pm7 an7 cd7 ct7), sl7⟩) (c7 : PySem.W.codeIn K cd7 "Watcher.verdicts" = true) (k7 : PySem.W.keepIn K (.ref f_Watcher_verdicts) = true)
    (a8 : PySem.W.findIn K (.ref C_Watcher) "held_counts" = some (some (.ref f_Watcher_held_counts))) (i8 : PySem.W.isFn K (.ref f_Watcher_held_counts) = true)
    (l8 : K.lookup f_Watcher_held_counts = some ⟨oc8, od8, .func (PySem.W.fnOf "held_counts" "Watcher.held_counts" (defArgs s_Watcher_held_counts) (defBody s_Watcher_held_counts) (defScope s_Watcher_held_counts) .none kV8 dc8 pm8 an8 cd8 ct8), sl8⟩) (c8 : PySem.W.codeIn K cd8 "Watcher.held_counts" = true) (k8 : PySem.W.keepIn K (.ref f_Watcher_held_counts) = true)
    (a9 : PySem.W.findIn K (.ref C_Watcher) "rules" = some (some (.ref f_Watcher_rules))) (i9 : PySem.W.isFn K (.ref f_Watcher_rules) = true)
    (l9 : K.lookup f_Watcher_rules = some ⟨oc9, od9, .func (PySem.W.fnOf "rules" "Watcher.rules" (defArgs s_Watcher_rules) (defBody s_Watcher_rules) (defScope s_Watcher_rules) .none kV9 dc9 pm9 an9 cd9 ct9), sl9⟩) (c9 : PySem.W.codeIn K cd9 "Watcher.rules" = true) (k9 : PySem.W.keepIn K (.ref f_Watcher_rules) = true)
    (a10 : PySem.W.findIn K (.ref C_Watcher) "rule_for" = some (some (.ref f_Watcher_rule_for))) (i10 : PySem.W.isFn K (.ref f_Watcher_rule_for) = true)
    (l10 : K.lookup f_Watcher_rule_for = some ⟨oc10, od10, .func (PySem.W.fnOf "rule_for" "Watcher.rule_for" (defArgs s_Watcher_rule_for) (defBody s_Watcher_rule_for) (defScope s_Watcher_rule_for) .none kV10 dc10 pm10 an10 cd10 ct10), sl10⟩) (c10 : PySem.W.codeIn K cd10 "Watcher.rule_for" = true) (k10 : PySem.W.keepIn K (.ref f_Watcher_rule_for) = true)
    (a11 : PySem.W.findIn K (.ref C_Watcher) "require_state" = some (some (.ref f_Watcher_require_state))) (i11 : PySem.W.isFn K (.ref f_Watcher_require_state) = true)
    (l11 : K.lookup f_Watcher_require_state = some ⟨oc11, od11, .func (PySem.W.fnOf "require_state" "Watcher.require_state" (defArgs s_Watcher_require_state) (defBody s_Watcher_require_state) (defScope s_Watcher_require_state) .none kV11 dc11 pm11 an11 cd11 ct11), sl11⟩) (c11 : PySem.W.codeIn K cd11 "Watcher.require_state" = true) (k11 : PySem.W.keepIn K (.ref f_Watcher_require_state) = true)
    (a12 : PySem.W.findIn K (.ref C_Watcher) "require_word" = some (some (.ref f_Watcher_require_word))) (i12 : PySem.W.isFn K (.ref f_Watcher_require_word) = true)
    (l12 : K.lookup f_Watcher_require_word = some ⟨oc12, od12, .func (PySem.W.fnOf "require_word" "Watcher.require_word" (defArgs s_Watcher_require_word) (defBody s_Watcher_require_word) (defScope s_Watcher_require_word) .none kV12 dc12 pm12 an12 cd12 ct12), sl12⟩) (c12 : PySem.W.codeIn K cd12 "Watcher.require_word" = true) (k12 : PySem.W.keepIn K (.ref f_Watcher_require_word) = true)
    (a13 : PySem.W.nsIn K mainGlobals "require_verdict" = some (some (.ref f_require_verdict)))
    (l13 : K.lookup f_require_verdict = some ⟨oc13, od13, .func (PySem.W.fnOf "require_verdict" "require_verdict" (defArgs s_require_verdict) (defBody s_require_verdict) (defScope s_require_verdict) .none kV13 dc13 pm13 an13 cd13 ct13), sl13⟩) (c13 : PySem.W.codeIn K cd13 "require_verdict" = true) (k13 : PySem.W.keepIn K (.ref f_require_verdict) = true)
    (a14 : PySem.W.nsIn K mainGlobals "is_test" = some (some (.ref f_is_test)))
    (l14 : K.lookup f_is_test = some ⟨oc14, od14, .func (PySem.W.fnOf "is_test" "is_test" (defArgs s_is_test) (defBody s_is_test) (defScope s_is_test) .none kV14 dc14 pm14 an14 cd14 ct14), sl14⟩) (c14 : PySem.W.codeIn K cd14 "is_test" = true) (k14 : PySem.W.keepIn K (.ref f_is_test) = true)
    (a15 : PySem.W.nsIn K mainGlobals "are_sources" = some (some (.ref f_are_sources)))
    (l15 : K.lookup f_are_sources = some ⟨oc15, od15, .func (PySem.W.fnOf "are_sources" "are_sources" (defArgs s_are_sources) (defBody s_are_sources) (defScope s_are_sources) .none kV15 dc15 pm15 an15 cd15 ct15), sl15⟩) (c15 : PySem.W.codeIn K cd15 "are_sources" = true) (k15 : PySem.W.keepIn K (.ref f_are_sources) = true)
    (a16 : PySem.W.nsIn K mainGlobals "is_source" = some (some (.ref f_is_source)))
    (l16 : K.lookup f_is_source = some ⟨oc16, od16, .func (PySem.W.fnOf "is_source" "is_source" (defArgs s_is_source) (defBody s_is_source) (defScope s_is_source) .none kV16 dc16 pm16 an16 cd16 ct16), sl16⟩) (c16 : PySem.W.codeIn K cd16 "is_source" = true) (k16 : PySem.W.keepIn K (.ref f_is_source) = true)
    (a17 : PySem.W.nsIn K mainGlobals "rule_order" = some (some (.ref f_rule_order)))
    (l17 : K.lookup f_rule_order = some ⟨oc17, od17, .func (PySem.W.fnOf "rule_order" "rule_order" (defArgs s_rule_order) (defBody s_rule_order) (defScope s_rule_order) .none kV17 dc17 pm17 an17 cd17 ct17), sl17⟩) (c17 : PySem.W.codeIn K cd17 "rule_order" = true) (k17 : PySem.W.keepIn K (.ref f_rule_order) = true)
    (a18 : PySem.W.nsIn K mainGlobals "part_order" = some (some (.ref f_part_order)))
    (l18 : K.lookup f_part_order = some ⟨oc18, od18, .func (PySem.W.fnOf "part_order" "part_order" (defArgs s_part_order) (defBody s_part_order) (defScope s_part_order) .none kV18 dc18 pm18 an18 cd18 ct18), sl18⟩) (c18 : PySem.W.codeIn K cd18 "part_order" = true) (k18 : PySem.W.keepIn K (.ref f_part_order) = true)
    (a19 : PySem.W.nsIn K mainGlobals "after_message" = some (some (.ref f_after_message)))
    (l19 : K.lookup f_after_message = some ⟨oc19, od19, .func (PySem.W.fnOf "after_message" "after_message" (defArgs s_after_message) (defBody s_after_message) (defScope s_after_message) .none kV19 dc19 pm19 an19 cd19 ct19), sl19⟩) (c19 : PySem.W.codeIn K cd19 "after_message" = true) (k19 : PySem.W.keepIn K (.ref f_after_message) = true)
    (a20 : PySem.W.nsIn K mainGlobals "carried" = some (some (.ref f_carried)))
    (l20 : K.lookup f_carried = some ⟨oc20, od20, .func (PySem.W.fnOf "carried" "carried" (defArgs s_carried) (defBody s_carried) (defScope s_carried) .none kV20 dc20 pm20 an20 cd20 ct20), sl20⟩) (c20 : PySem.W.codeIn K cd20 "carried" = true) (k20 : PySem.W.keepIn K (.ref f_carried) = true)
    (a21 : PySem.W.nsIn K mainGlobals "verdicts_at" = some (some (.ref f_verdicts_at)))
    (l21 : K.lookup f_verdicts_at = some ⟨oc21, od21, .func (PySem.W.fnOf "verdicts_at" "verdicts_at" (defArgs s_verdicts_at) (defBody s_verdicts_at) (defScope s_verdicts_at) .none kV21 dc21 pm21 an21 cd21 ct21), sl21⟩) (c21 : PySem.W.codeIn K cd21 "verdicts_at" = true) (k21 : PySem.W.keepIn K (.ref f_verdicts_at) = true)
    (a22 : PySem.W.nsIn K mainGlobals "steps_from" = some (some (.ref f_steps_from)))
    (l22 : K.lookup f_steps_from = some ⟨oc22, od22, .func (PySem.W.fnOf "steps_from" "steps_from" (defArgs s_steps_from) (defBody s_steps_from) (defScope s_steps_from) .none kV22 dc22 pm22 an22 cd22 ct22), sl22⟩) (c22 : PySem.W.codeIn K cd22 "steps_from" = true) (k22 : PySem.W.keepIn K (.ref f_steps_from) = true)
    (a23 : PySem.W.nsIn K mainGlobals "steps_among" = some (some (.ref f_steps_among)))
    (l23 : K.lookup f_steps_among = some ⟨oc23, od23, .func (PySem.W.fnOf "steps_among" "steps_among" (defArgs s_steps_among) (defBody s_steps_among) (defScope s_steps_among) .none kV23 dc23 pm23 an23 cd23 ct23), sl23⟩) (c23 : PySem.W.codeIn K cd23 "steps_among" = true) (k23 : PySem.W.keepIn K (.ref f_steps_among) = true)
    (a24 : PySem.W.nsIn K mainGlobals "reached_situations" = some (some (.ref f_reached_situations)))
    (l24 : K.lookup f_reached_situations = some ⟨oc24, od24, .func (PySem.W.fnOf "reached_situations" "reached_situations" (defArgs s_reached_situations) (defBody s_reached_situations) (defScope s_reached_situations) .none kV24 dc24 pm24 an24 cd24 ct24), sl24⟩) (c24 : PySem.W.codeIn K cd24 "reached_situations" = true) (k24 : PySem.W.keepIn K (.ref f_reached_situations) = true)
    (a25 : PySem.W.nsIn K mainGlobals "ways_to" = some (some (.ref f_ways_to)))
    (l25 : K.lookup f_ways_to = some ⟨oc25, od25, .func (PySem.W.fnOf "ways_to" "ways_to" (defArgs s_ways_to) (defBody s_ways_to) (defScope s_ways_to) .none kV25 dc25 pm25 an25 cd25 ct25), sl25⟩) (c25 : PySem.W.codeIn K cd25 "ways_to" = true) (k25 : PySem.W.keepIn K (.ref f_ways_to) = true)
    (a26 : PySem.W.nsIn K mainGlobals "continuation_along" = some (some (.ref f_continuation_along)))
    (l26 : K.lookup f_continuation_along = some ⟨oc26, od26, .func (PySem.W.fnOf "continuation_along" "continuation_along" (defArgs s_continuation_along) (defBody s_continuation_along) (defScope s_continuation_along) .none kV26 dc26 pm26 an26 cd26 ct26), sl26⟩) (c26 : PySem.W.codeIn K cd26 "continuation_along" = true) (k26 : PySem.W.keepIn K (.ref f_continuation_along) = true)
    (a27 : PySem.W.nsIn K mainGlobals "held_numbers" = some (some (.ref f_held_numbers)))
    (l27 : K.lookup f_held_numbers = some ⟨oc27, od27, .func (PySem.W.fnOf "held_numbers" "held_numbers" (defArgs s_held_numbers) (defBody s_held_numbers) (defScope s_held_numbers) .none kV27 dc27 pm27 an27 cd27 ct27), sl27⟩) (c27 : PySem.W.codeIn K cd27 "held_numbers" = true) (k27 : PySem.W.keepIn K (.ref f_held_numbers) = true)
    (a28 : PySem.W.nsIn K mainGlobals "equal_places" = some (some (.ref f_equal_places)))
    (l28 : K.lookup f_equal_places = some ⟨oc28, od28, .func (PySem.W.fnOf "equal_places" "equal_places" (defArgs s_equal_places) (defBody s_equal_places) (defScope s_equal_places) .none kV28 dc28 pm28 an28 cd28 ct28), sl28⟩) (c28 : PySem.W.codeIn K cd28 "equal_places" = true) (k28 : PySem.W.keepIn K (.ref f_equal_places) = true)
    (a29 : PySem.W.nsIn K mainGlobals "cases_between" = some (some (.ref f_cases_between)))
    (l29 : K.lookup f_cases_between = some ⟨oc29, od29, .func (PySem.W.fnOf "cases_between" "cases_between" (defArgs s_cases_between) (defBody s_cases_between) (defScope s_cases_between) .none kV29 dc29 pm29 an29 cd29 ct29), sl29⟩) (c29 : PySem.W.codeIn K cd29 "cases_between" = true) (k29 : PySem.W.keepIn K (.ref f_cases_between) = true)
    (a30 : PySem.W.nsIn K mainGlobals "situation_after" = some (some (.ref f_situation_after)))
    (l30 : K.lookup f_situation_after = some ⟨oc30, od30, .func (PySem.W.fnOf "situation_after" "situation_after" (defArgs s_situation_after) (defBody s_situation_after) (defScope s_situation_after) .none kV30 dc30 pm30 an30 cd30 ct30), sl30⟩) (c30 : PySem.W.codeIn K cd30 "situation_after" = true) (k30 : PySem.W.keepIn K (.ref f_situation_after) = true)
    (a31 : PySem.W.nsIn K mainGlobals "value_of" = some (some (.ref f_value_of)))
    (l31 : K.lookup f_value_of = some ⟨oc31, od31, .func (PySem.W.fnOf "value_of" "value_of" (defArgs s_value_of) (defBody s_value_of) (defScope s_value_of) .none kV31 dc31 pm31 an31 cd31 ct31), sl31⟩) (c31 : PySem.W.codeIn K cd31 "value_of" = true) (k31 : PySem.W.keepIn K (.ref f_value_of) = true)
    (a32 : PySem.W.nsIn K mainGlobals "least_other" = some (some (.ref f_least_other)))
    (l32 : K.lookup f_least_other = some ⟨oc32, od32, .func (PySem.W.fnOf "least_other" "least_other" (defArgs s_least_other) (defBody s_least_other) (defScope s_least_other) .none kV32 dc32 pm32 an32 cd32 ct32), sl32⟩) (c32 : PySem.W.codeIn K cd32 "least_other" = true) (k32 : PySem.W.keepIn K (.ref f_least_other) = true)
    (a33 : PySem.W.nsIn K mainGlobals "other_value" = some (some (.ref f_other_value)))
    (l33 : K.lookup f_other_value = some ⟨oc33, od33, .func (PySem.W.fnOf "other_value" "other_value" (defArgs s_other_value) (defBody s_other_value) (defScope s_other_value) .none kV33 dc33 pm33 an33 cd33 ct33), sl33⟩) (c33 : PySem.W.codeIn K cd33 "other_value" = true) (k33 : PySem.W.keepIn K (.ref f_other_value) = true)
    (a34 : PySem.W.nsIn K mainGlobals "are_sought" = some (some (.ref f_are_sought)))
    (l34 : K.lookup f_are_sought = some ⟨oc34, od34, .func (PySem.W.fnOf "are_sought" "are_sought" (defArgs s_are_sought) (defBody s_are_sought) (defScope s_are_sought) .none kV34 dc34 pm34 an34 cd34 ct34), sl34⟩) (c34 : PySem.W.codeIn K cd34 "are_sought" = true) (k34 : PySem.W.keepIn K (.ref f_are_sought) = true)
    (a35 : PySem.W.nsIn K mainGlobals "ways_to_sought" = some (some (.ref f_ways_to_sought)))
    (l35 : K.lookup f_ways_to_sought = some ⟨oc35, od35, .func (PySem.W.fnOf "ways_to_sought" "ways_to_sought" (defArgs s_ways_to_sought) (defBody s_ways_to_sought) (defScope s_ways_to_sought) .none kV35 dc35 pm35 an35 cd35 ct35), sl35⟩) (c35 : PySem.W.codeIn K cd35 "ways_to_sought" = true) (k35 : PySem.W.keepIn K (.ref f_ways_to_sought) = true)
    (a36 : PySem.W.nsIn K mainGlobals "ways_to_unlike" = some (some (.ref f_ways_to_unlike)))
    (l36 : K.lookup f_ways_to_unlike = some ⟨oc36, od36, .func (PySem.W.fnOf "ways_to_unlike" "ways_to_unlike" (defArgs s_ways_to_unlike) (defBody s_ways_to_unlike) (defScope s_ways_to_unlike) .none kV36 dc36 pm36 an36 cd36 ct36), sl36⟩) (c36 : PySem.W.codeIn K cd36 "ways_to_unlike" = true) (k36 : PySem.W.keepIn K (.ref f_ways_to_unlike) = true)
    (a37 : PySem.W.nsIn K mainGlobals "all_places" = some (some (.ref f_all_places)))
    (l37 : K.lookup f_all_places = some ⟨oc37, od37, .func (PySem.W.fnOf "all_places" "all_places" (defArgs s_all_places) (defBody s_all_places) (defScope s_all_places) .none kV37 dc37 pm37 an37 cd37 ct37), sl37⟩) (c37 : PySem.W.codeIn K cd37 "all_places" = true) (k37 : PySem.W.keepIn K (.ref f_all_places) = true)
    (a38 : PySem.W.nsIn K mainGlobals "require_claim" = some (some (.ref f_require_claim)))
    (l38 : K.lookup f_require_claim = some ⟨oc38, od38, .func (PySem.W.fnOf "require_claim" "require_claim" (defArgs s_require_claim) (defBody s_require_claim) (defScope s_require_claim) .none kV38 dc38 pm38 an38 cd38 ct38), sl38⟩) (c38 : PySem.W.codeIn K cd38 "require_claim" = true) (k38 : PySem.W.keepIn K (.ref f_require_claim) = true)
    (a39 : PySem.W.nsIn K mainGlobals "decide" = some (some (.ref f_decide)))
    (l39 : K.lookup f_decide = some ⟨oc39, od39, .func (PySem.W.fnOf "decide" "decide" (defArgs s_decide) (defBody s_decide) (defScope s_decide) .none kV39 dc39 pm39 an39 cd39 ct39), sl39⟩) (c39 : PySem.W.codeIn K cd39 "decide" = true) (k39 : PySem.W.keepIn K (.ref f_decide) = true)
    (a40 : PySem.W.nsIn K mainGlobals "require_paired" = some (some (.ref f_require_paired)))
    (l40 : K.lookup f_require_paired = some ⟨oc40, od40, .func (PySem.W.fnOf "require_paired" "require_paired" (defArgs s_require_paired) (defBody s_require_paired) (defScope s_require_paired) .none kV40 dc40 pm40 an40 cd40 ct40), sl40⟩) (c40 : PySem.W.codeIn K cd40 "require_paired" = true) (k40 : PySem.W.keepIn K (.ref f_require_paired) = true)
    (a41 : PySem.W.nsIn K mainGlobals "is_claim" = some (some (.ref f_is_claim)))
    (l41 : K.lookup f_is_claim = some ⟨oc41, od41, .func (PySem.W.fnOf "is_claim" "is_claim" (defArgs s_is_claim) (defBody s_is_claim) (defScope s_is_claim) .none kV41 dc41 pm41 an41 cd41 ct41), sl41⟩) (c41 : PySem.W.codeIn K cd41 "is_claim" = true) (k41 : PySem.W.keepIn K (.ref f_is_claim) = true)
    (a42 : PySem.W.nsIn K mainGlobals "is_claim_about" = some (some (.ref f_is_claim_about)))
    (l42 : K.lookup f_is_claim_about = some ⟨oc42, od42, .func (PySem.W.fnOf "is_claim_about" "is_claim_about" (defArgs s_is_claim_about) (defBody s_is_claim_about) (defScope s_is_claim_about) .none kV42 dc42 pm42 an42 cd42 ct42), sl42⟩) (c42 : PySem.W.codeIn K cd42 "is_claim_about" = true) (k42 : PySem.W.keepIn K (.ref f_is_claim_about) = true)
    (a43 : PySem.W.nsIn K mainGlobals "are_places" = some (some (.ref f_are_places)))
    (l43 : K.lookup f_are_places = some ⟨oc43, od43, .func (PySem.W.fnOf "are_places" "are_places" (defArgs s_are_places) (defBody s_are_places) (defScope s_are_places) .none kV43 dc43 pm43 an43 cd43 ct43), sl43⟩) (c43 : PySem.W.codeIn K cd43 "are_places" = true) (k43 : PySem.W.keepIn K (.ref f_are_places) = true)
    (a44 : PySem.W.nsIn K mainGlobals "watcher_of" = some (some (.ref f_watcher_of)))
    (l44 : K.lookup f_watcher_of = some ⟨oc44, od44, .func (PySem.W.fnOf "watcher_of" "watcher_of" (defArgs s_watcher_of) (defBody s_watcher_of) (defScope s_watcher_of) .none kV44 dc44 pm44 an44 cd44 ct44), sl44⟩) (c44 : PySem.W.codeIn K cd44 "watcher_of" = true) (k44 : PySem.W.keepIn K (.ref f_watcher_of) = true)
    (a45 : PySem.W.nsIn K mainGlobals "compared" = some (some (.ref f_compared)))
    (l45 : K.lookup f_compared = some ⟨oc45, od45, .func (PySem.W.fnOf "compared" "compared" (defArgs s_compared) (defBody s_compared) (defScope s_compared) .none kV45 dc45 pm45 an45 cd45 ct45), sl45⟩) (c45 : PySem.W.codeIn K cd45 "compared" = true) (k45 : PySem.W.keepIn K (.ref f_compared) = true)
    (a46 : PySem.W.nsIn K mainGlobals "answer_of_stream" = some (some (.ref f_answer_of_stream)))
    (l46 : K.lookup f_answer_of_stream = some ⟨oc46, od46, .func (PySem.W.fnOf "answer_of_stream" "answer_of_stream" (defArgs s_answer_of_stream) (defBody s_answer_of_stream) (defScope s_answer_of_stream) .none kV46 dc46 pm46 an46 cd46 ct46), sl46⟩) (c46 : PySem.W.codeIn K cd46 "answer_of_stream" = true) (k46 : PySem.W.keepIn K (.ref f_answer_of_stream) = true)
    (a47 : PySem.W.nsIn K mainGlobals "answer_of_table" = some (some (.ref f_answer_of_table)))
    (l47 : K.lookup f_answer_of_table = some ⟨oc47, od47, .func (PySem.W.fnOf "answer_of_table" "answer_of_table" (defArgs s_answer_of_table) (defBody s_answer_of_table) (defScope s_answer_of_table) .none kV47 dc47 pm47 an47 cd47 ct47), sl47⟩) (c47 : PySem.W.codeIn K cd47 "answer_of_table" = true) (k47 : PySem.W.keepIn K (.ref f_answer_of_table) = true)
    (a48 : PySem.W.nsIn K mainGlobals "decide_compared" = some (some (.ref f_decide_compared)))
    (l48 : K.lookup f_decide_compared = some ⟨oc48, od48, .func (PySem.W.fnOf "decide_compared" "decide_compared" (defArgs s_decide_compared) (defBody s_decide_compared) (defScope s_decide_compared) .none kV48 dc48 pm48 an48 cd48 ct48), sl48⟩) (c48 : PySem.W.codeIn K cd48 "decide_compared" = true) (k48 : PySem.W.keepIn K (.ref f_decide_compared) = true)
    (a49 : PySem.W.nsIn K mainGlobals "needed_places" = some (some (.ref f_needed_places)))
    (l49 : K.lookup f_needed_places = some ⟨oc49, od49, .func (PySem.W.fnOf "needed_places" "needed_places" (defArgs s_needed_places) (defBody s_needed_places) (defScope s_needed_places) .none kV49 dc49 pm49 an49 cd49 ct49), sl49⟩) (c49 : PySem.W.codeIn K cd49 "needed_places" = true) (k49 : PySem.W.keepIn K (.ref f_needed_places) = true)
    (a50 : PySem.W.nsIn K mainGlobals "_law_pen" = some (some (.ref f_law_pen)))
    (l50 : K.lookup f_law_pen = some ⟨oc50, od50, .func (PySem.W.fnOf "_law_pen" "_law_pen" (defArgs s_law_pen) (defBody s_law_pen) (defScope s_law_pen) .none kV50 dc50 pm50 an50 cd50 ct50), sl50⟩) (c50 : PySem.W.codeIn K cd50 "_law_pen" = true) (k50 : PySem.W.keepIn K (.ref f_law_pen) = true)
    (a51 : PySem.W.nsIn K mainGlobals "_law_fresh" = some (some (.ref f_law_fresh)))
    (l51 : K.lookup f_law_fresh = some ⟨oc51, od51, .func (PySem.W.fnOf "_law_fresh" "_law_fresh" (defArgs s_law_fresh) (defBody s_law_fresh) (defScope s_law_fresh) .none kV51 dc51 pm51 an51 cd51 ct51), sl51⟩) (c51 : PySem.W.codeIn K cd51 "_law_fresh" = true) (k51 : PySem.W.keepIn K (.ref f_law_fresh) = true)
    (a52 : PySem.W.nsIn K mainGlobals "_law_draw" = some (some (.ref f_law_draw)))
    (l52 : K.lookup f_law_draw = some ⟨oc52, od52, .func (PySem.W.fnOf "_law_draw" "_law_draw" (defArgs s_law_draw) (defBody s_law_draw) (defScope s_law_draw) .none kV52 dc52 pm52 an52 cd52 ct52), sl52⟩) (c52 : PySem.W.codeIn K cd52 "_law_draw" = true) (k52 : PySem.W.keepIn K (.ref f_law_draw) = true)
    (a53 : PySem.W.nsIn K mainGlobals "_law_some_sources" = some (some (.ref f_law_some_sources)))
    (l53 : K.lookup f_law_some_sources = some ⟨oc53, od53, .func (PySem.W.fnOf "_law_some_sources" "_law_some_sources" (defArgs s_law_some_sources) (defBody s_law_some_sources) (defScope s_law_some_sources) .none kV53 dc53 pm53 an53 cd53 ct53), sl53⟩) (c53 : PySem.W.codeIn K cd53 "_law_some_sources" = true) (k53 : PySem.W.keepIn K (.ref f_law_some_sources) = true)
    (a54 : PySem.W.nsIn K mainGlobals "_law_plan" = some (some (.ref f_law_plan)))
    (l54 : K.lookup f_law_plan = some ⟨oc54, od54, .func (PySem.W.fnOf "_law_plan" "_law_plan" (defArgs s_law_plan) (defBody s_law_plan) (defScope s_law_plan) .none kV54 dc54 pm54 an54 cd54 ct54), sl54⟩) (c54 : PySem.W.codeIn K cd54 "_law_plan" = true) (k54 : PySem.W.keepIn K (.ref f_law_plan) = true)
    (a55 : PySem.W.nsIn K mainGlobals "_law_built" = some (some (.ref f_law_built)))
    (l55 : K.lookup f_law_built = some ⟨oc55, od55, .func (PySem.W.fnOf "_law_built" "_law_built" (defArgs s_law_built) (defBody s_law_built) (defScope s_law_built) .none kV55 dc55 pm55 an55 cd55 ct55), sl55⟩) (c55 : PySem.W.codeIn K cd55 "_law_built" = true) (k55 : PySem.W.keepIn K (.ref f_law_built) = true)
    (a56 : PySem.W.nsIn K mainGlobals "_law_moved" = some (some (.ref f_law_moved)))
    (l56 : K.lookup f_law_moved = some ⟨oc56, od56, .func (PySem.W.fnOf "_law_moved" "_law_moved" (defArgs s_law_moved) (defBody s_law_moved) (defScope s_law_moved) .none kV56 dc56 pm56 an56 cd56 ct56), sl56⟩) (c56 : PySem.W.codeIn K cd56 "_law_moved" = true) (k56 : PySem.W.keepIn K (.ref f_law_moved) = true)
    (a57 : PySem.W.nsIn K mainGlobals "_law_situation" = some (some (.ref f_law_situation)))
    (l57 : K.lookup f_law_situation = some ⟨oc57, od57, .func (PySem.W.fnOf "_law_situation" "_law_situation" (defArgs s_law_situation) (defBody s_law_situation) (defScope s_law_situation) .none kV57 dc57 pm57 an57 cd57 ct57), sl57⟩) (c57 : PySem.W.codeIn K cd57 "_law_situation" = true) (k57 : PySem.W.keepIn K (.ref f_law_situation) = true)
    (a58 : PySem.W.nsIn K mainGlobals "_law_started" = some (some (.ref f_law_started)))
    (l58 : K.lookup f_law_started = some ⟨oc58, od58, .func (PySem.W.fnOf "_law_started" "_law_started" (defArgs s_law_started) (defBody s_law_started) (defScope s_law_started) .none kV58 dc58 pm58 an58 cd58 ct58), sl58⟩) (c58 : PySem.W.codeIn K cd58 "_law_started" = true) (k58 : PySem.W.keepIn K (.ref f_law_started) = true)
    (a59 : PySem.W.nsIn K mainGlobals "_law_met" = some (some (.ref f_law_met)))
    (l59 : K.lookup f_law_met = some ⟨oc59, od59, .func (PySem.W.fnOf "_law_met" "_law_met" (defArgs s_law_met) (defBody s_law_met) (defScope s_law_met) .none kV59 dc59 pm59 an59 cd59 ct59), sl59⟩) (c59 : PySem.W.codeIn K cd59 "_law_met" = true) (k59 : PySem.W.keepIn K (.ref f_law_met) = true)
    (a60 : PySem.W.nsIn K mainGlobals "_law_unlike" = some (some (.ref f_law_unlike)))
    (l60 : K.lookup f_law_unlike = some ⟨oc60, od60, .func (PySem.W.fnOf "_law_unlike" "_law_unlike" (defArgs s_law_unlike) (defBody s_law_unlike) (defScope s_law_unlike) .none kV60 dc60 pm60 an60 cd60 ct60), sl60⟩) (c60 : PySem.W.codeIn K cd60 "_law_unlike" = true) (k60 : PySem.W.keepIn K (.ref f_law_unlike) = true)
    (a61 : PySem.W.nsIn K mainGlobals "_law_without" = some (some (.ref f_law_without)))
    (l61 : K.lookup f_law_without = some ⟨oc61, od61, .func (PySem.W.fnOf "_law_without" "_law_without" (defArgs s_law_without) (defBody s_law_without) (defScope s_law_without) .none kV61 dc61 pm61 an61 cd61 ct61), sl61⟩) (c61 : PySem.W.codeIn K cd61 "_law_without" = true) (k61 : PySem.W.keepIn K (.ref f_law_without) = true)
    (a62 : PySem.W.nsIn K mainGlobals "_law_few_plan" = some (some (.ref f_law_few_plan)))
    (l62 : K.lookup f_law_few_plan = some ⟨oc62, od62, .func (PySem.W.fnOf "_law_few_plan" "_law_few_plan" (defArgs s_law_few_plan) (defBody s_law_few_plan) (defScope s_law_few_plan) .none kV62 dc62 pm62 an62 cd62 ct62), sl62⟩) (c62 : PySem.W.codeIn K cd62 "_law_few_plan" = true) (k62 : PySem.W.keepIn K (.ref f_law_few_plan) = true)
    (a63 : PySem.W.nsIn K mainGlobals "_law_ends" = some (some (.ref f_law_ends)))
    (l63 : K.lookup f_law_ends = some ⟨oc63, od63, .func (PySem.W.fnOf "_law_ends" "_law_ends" (defArgs s_law_ends) (defBody s_law_ends) (defScope s_law_ends) .none kV63 dc63 pm63 an63 cd63 ct63), sl63⟩) (c63 : PySem.W.codeIn K cd63 "_law_ends" = true) (k63 : PySem.W.keepIn K (.ref f_law_ends) = true)
    (a64 : PySem.W.nsIn K mainGlobals "_law_place_right" = some (some (.ref f_law_place_right)))
    (l64 : K.lookup f_law_place_right = some ⟨oc64, od64, .func (PySem.W.fnOf "_law_place_right" "_law_place_right" (defArgs s_law_place_right) (defBody s_law_place_right) (defScope s_law_place_right) .none kV64 dc64 pm64 an64 cd64 ct64), sl64⟩) (c64 : PySem.W.codeIn K cd64 "_law_place_right" = true) (k64 : PySem.W.keepIn K (.ref f_law_place_right) = true)
    (a65 : PySem.W.nsIn K mainGlobals "law" = some (some (.ref f_law)))
    (l65 : K.lookup f_law = some ⟨oc65, od65, .func (PySem.W.fnOf "law" "law" (defArgs s_law) (defBody s_law) (defScope s_law) .none kV65 dc65 pm65 an65 cd65 ct65), sl65⟩) (c65 : PySem.W.codeIn K cd65 "law" = true) (k65 : PySem.W.keepIn K (.ref f_law) = true)
    (tf_Watcher_len : PySem.W.typeIn K (.ref f_Watcher_len) = some (.type "function"))
    (wC_Watcher : PySem.W.nsIn K mainGlobals "Watcher" = some (some (.ref C_Watcher))) (pg_Watcher : PySem.W.plainGet K C_Watcher Str.empty = true) (hd_Watcher : PySem.W.hasDictIn K C_Watcher = true) (po_Watcher : PySem.W.plainOver K C_Watcher = true) (sa_Watcher : PySem.W.findIn K (.ref C_Watcher) "__setattr__" = some (some (.builtin "object.__setattr__"))) (mk_Watcher : PySem.W.makesIn K C_Watcher = true) (kc_Watcher : PySem.W.keepIn K (.ref C_Watcher) = true)
    (nf_Watcherwords : PySem.W.findIn K (.ref C_Watcher) "words" = some none)
    (nf_Watcher_verdicts : PySem.W.findIn K (.ref C_Watcher) "_verdicts" = some none)
    (nf_Watcher_held : PySem.W.findIn K (.ref C_Watcher) "_held" = some none)
    (nf_Watcher_rules : PySem.W.findIn K (.ref C_Watcher) "_rules" = some none)
    {eC0 ei0 : Addr} {nm0 eq0 : Str} {eN0 : Addr} {bs0 : List Value} {sn0 : List Str} {sub0 : List Value} {ab0 : Bool} {col0 : Option Bool} {dd0 : Option Addr} {m00 m10 m20 m30 m50 : Option Value} {eod0 ean0 : Option Addr} {esl0 : Array (Option Value)} {eoc0 edc0 epm0 ecd0 ect0 : Value}
    (eaC0 : PySem.W.nsIn K mainGlobals "NotAWord" = some (some (.ref eC0))) (exL0 : K.lookup eC0 = some (excClassObj nm0 eq0 eC0 eN0 bs0 [.type "ValueError", .type "Exception", .type "BaseException", .type "object"] true sn0 sub0 ab0 col0 dd0 m00 m10 m20 m30 m50 "ValueError.__new__"))
    (esa0 : PySem.W.findIn K (.ref eC0) "__setattr__" = some (some (.builtin "object.__setattr__"))) (ega0 : PySem.W.findIn K (.ref eC0) "__getattribute__" = some (some (.builtin "BaseException.__getattribute__"))) (egg0 : PySem.W.findIn K (.ref eC0) "__getattr__" = some none) (enb0 : PySem.W.findIn K (.ref eC0) "word" = some none)
    (ea10 : PySem.W.findIn K (.ref eC0) "__init__" = some (some (.ref ei0))) (et10 : PySem.W.typeIn K (.ref ei0) = some (.type "function"))
    (el10 : K.lookup ei0 = some ⟨eoc0, eod0, .func (PySem.W.fnOf "__init__" "NotAWord.__init__" (defArgs s_NotAWord_init) (defBody s_NotAWord_init) (defScope s_NotAWord_init) .none .none edc0 epm0 ean0 ecd0 ect0), esl0⟩) (ec10 : PySem.W.codeIn K ecd0 "NotAWord.__init__" = true)
    (ekC0 : PySem.W.keepIn K (.ref eC0) = true) (eeC0 : PySem.W.subIn K (.ref eC0) (.type "BaseException") = some true) (etC0 : PySem.W.typeIn K (.ref eC0) = some (.type "type")) (ehC0 : PySem.W.hasDictIn K eC0 = true) (eiC0 : PySem.W.isClsIn K eC0 = true) (esC0 : PySem.W.subIn K (.ref eC0) (.ref eC0) = some true)
    {eC1 ei1 : Addr} {nm1 eq1 : Str} {eN1 : Addr} {bs1 : List Value} {sn1 : List Str} {sub1 : List Value} {ab1 : Bool} {col1 : Option Bool} {dd1 : Option Addr} {m01 m11 m21 m31 m51 : Option Value} {eod1 ean1 : Option Addr} {esl1 : Array (Option Value)} {eoc1 edc1 epm1 ecd1 ect1 : Value}
    (eaC1 : PySem.W.nsIn K mainGlobals "NotAVerdict" = some (some (.ref eC1))) (exL1 : K.lookup eC1 = some (excClassObj nm1 eq1 eC1 eN1 bs1 [.type "ValueError", .type "Exception", .type "BaseException", .type "object"] true sn1 sub1 ab1 col1 dd1 m01 m11 m21 m31 m51 "ValueError.__new__"))
    (esa1 : PySem.W.findIn K (.ref eC1) "__setattr__" = some (some (.builtin "object.__setattr__"))) (ega1 : PySem.W.findIn K (.ref eC1) "__getattribute__" = some (some (.builtin "BaseException.__getattribute__"))) (egg1 : PySem.W.findIn K (.ref eC1) "__getattr__" = some none) (enb1 : PySem.W.findIn K (.ref eC1) "verdict" = some none)
    (ea11 : PySem.W.findIn K (.ref eC1) "__init__" = some (some (.ref ei1))) (et11 : PySem.W.typeIn K (.ref ei1) = some (.type "function"))
    (el11 : K.lookup ei1 = some ⟨eoc1, eod1, .func (PySem.W.fnOf "__init__" "NotAVerdict.__init__" (defArgs s_NotAVerdict_init) (defBody s_NotAVerdict_init) (defScope s_NotAVerdict_init) .none .none edc1 epm1 ean1 ecd1 ect1), esl1⟩) (ec11 : PySem.W.codeIn K ecd1 "NotAVerdict.__init__" = true)
    (ekC1 : PySem.W.keepIn K (.ref eC1) = true) (eeC1 : PySem.W.subIn K (.ref eC1) (.type "BaseException") = some true) (etC1 : PySem.W.typeIn K (.ref eC1) = some (.type "type")) (ehC1 : PySem.W.hasDictIn K eC1 = true) (eiC1 : PySem.W.isClsIn K eC1 = true) (esC1 : PySem.W.subIn K (.ref eC1) (.ref eC1) = some true)
    {eC2 ei2 : Addr} {nm2 eq2 : Str} {eN2 : Addr} {bs2 : List Value} {sn2 : List Str} {sub2 : List Value} {ab2 : Bool} {col2 : Option Bool} {dd2 : Option Addr} {m02 m12 m22 m32 m52 : Option Value} {eod2 ean2 : Option Addr} {esl2 : Array (Option Value)} {eoc2 edc2 epm2 ecd2 ect2 : Value}
    (eaC2 : PySem.W.nsIn K mainGlobals "InvalidTest" = some (some (.ref eC2))) (exL2 : K.lookup eC2 = some (excClassObj nm2 eq2 eC2 eN2 bs2 [.type "ValueError", .type "Exception", .type "BaseException", .type "object"] true sn2 sub2 ab2 col2 dd2 m02 m12 m22 m32 m52 "ValueError.__new__"))
    (esa2 : PySem.W.findIn K (.ref eC2) "__setattr__" = some (some (.builtin "object.__setattr__"))) (ega2 : PySem.W.findIn K (.ref eC2) "__getattribute__" = some (some (.builtin "BaseException.__getattribute__"))) (egg2 : PySem.W.findIn K (.ref eC2) "__getattr__" = some none) (enb2 : PySem.W.findIn K (.ref eC2) "test" = some none)
    (ea12 : PySem.W.findIn K (.ref eC2) "__init__" = some (some (.ref ei2))) (et12 : PySem.W.typeIn K (.ref ei2) = some (.type "function"))
    (el12 : K.lookup ei2 = some ⟨eoc2, eod2, .func (PySem.W.fnOf "__init__" "InvalidTest.__init__" (defArgs s_InvalidTest_init) (defBody s_InvalidTest_init) (defScope s_InvalidTest_init) .none .none edc2 epm2 ean2 ecd2 ect2), esl2⟩) (ec12 : PySem.W.codeIn K ecd2 "InvalidTest.__init__" = true)
    (ekC2 : PySem.W.keepIn K (.ref eC2) = true) (eeC2 : PySem.W.subIn K (.ref eC2) (.type "BaseException") = some true) (etC2 : PySem.W.typeIn K (.ref eC2) = some (.type "type")) (ehC2 : PySem.W.hasDictIn K eC2 = true) (eiC2 : PySem.W.isClsIn K eC2 = true) (esC2 : PySem.W.subIn K (.ref eC2) (.ref eC2) = some true)
    {eC3 ei3 : Addr} {nm3 eq3 : Str} {eN3 : Addr} {bs3 : List Value} {sn3 : List Str} {sub3 : List Value} {ab3 : Bool} {col3 : Option Bool} {dd3 : Option Addr} {m03 m13 m23 m33 m53 : Option Value} {eod3 ean3 : Option Addr} {esl3 : Array (Option Value)} {eoc3 edc3 epm3 ecd3 ect3 : Value}
    (eaC3 : PySem.W.nsIn K mainGlobals "InvalidSources" = some (some (.ref eC3))) (exL3 : K.lookup eC3 = some (excClassObj nm3 eq3 eC3 eN3 bs3 [.type "ValueError", .type "Exception", .type "BaseException", .type "object"] true sn3 sub3 ab3 col3 dd3 m03 m13 m23 m33 m53 "ValueError.__new__"))
    (esa3 : PySem.W.findIn K (.ref eC3) "__setattr__" = some (some (.builtin "object.__setattr__"))) (ega3 : PySem.W.findIn K (.ref eC3) "__getattribute__" = some (some (.builtin "BaseException.__getattribute__"))) (egg3 : PySem.W.findIn K (.ref eC3) "__getattr__" = some none) (enb3 : PySem.W.findIn K (.ref eC3) "sources" = some none)
    (ea13 : PySem.W.findIn K (.ref eC3) "__init__" = some (some (.ref ei3))) (et13 : PySem.W.typeIn K (.ref ei3) = some (.type "function"))
    (el13 : K.lookup ei3 = some ⟨eoc3, eod3, .func (PySem.W.fnOf "__init__" "InvalidSources.__init__" (defArgs s_InvalidSources_init) (defBody s_InvalidSources_init) (defScope s_InvalidSources_init) .none .none edc3 epm3 ean3 ecd3 ect3), esl3⟩) (ec13 : PySem.W.codeIn K ecd3 "InvalidSources.__init__" = true)
    (ekC3 : PySem.W.keepIn K (.ref eC3) = true) (eeC3 : PySem.W.subIn K (.ref eC3) (.type "BaseException") = some true) (etC3 : PySem.W.typeIn K (.ref eC3) = some (.type "type")) (ehC3 : PySem.W.hasDictIn K eC3 = true) (eiC3 : PySem.W.isClsIn K eC3 = true) (esC3 : PySem.W.subIn K (.ref eC3) (.ref eC3) = some true)
    {eC4 ei4 : Addr} {nm4 eq4 : Str} {eN4 : Addr} {bs4 : List Value} {sn4 : List Str} {sub4 : List Value} {ab4 : Bool} {col4 : Option Bool} {dd4 : Option Addr} {m04 m14 m24 m34 m54 : Option Value} {eod4 ean4 : Option Addr} {esl4 : Array (Option Value)} {eoc4 edc4 epm4 ecd4 ect4 : Value}
    (eaC4 : PySem.W.nsIn K mainGlobals "UnknownState" = some (some (.ref eC4))) (exL4 : K.lookup eC4 = some (excClassObj nm4 eq4 eC4 eN4 bs4 [.type "LookupError", .type "Exception", .type "BaseException", .type "object"] true sn4 sub4 ab4 col4 dd4 m04 m14 m24 m34 m54 "LookupError.__new__"))
    (esa4 : PySem.W.findIn K (.ref eC4) "__setattr__" = some (some (.builtin "object.__setattr__"))) (ega4 : PySem.W.findIn K (.ref eC4) "__getattribute__" = some (some (.builtin "BaseException.__getattribute__"))) (egg4 : PySem.W.findIn K (.ref eC4) "__getattr__" = some none) (enb4 : PySem.W.findIn K (.ref eC4) "state" = some none)
    (ea14 : PySem.W.findIn K (.ref eC4) "__init__" = some (some (.ref ei4))) (et14 : PySem.W.typeIn K (.ref ei4) = some (.type "function"))
    (el14 : K.lookup ei4 = some ⟨eoc4, eod4, .func (PySem.W.fnOf "__init__" "UnknownState.__init__" (defArgs s_UnknownState_init) (defBody s_UnknownState_init) (defScope s_UnknownState_init) .none .none edc4 epm4 ean4 ecd4 ect4), esl4⟩) (ec14 : PySem.W.codeIn K ecd4 "UnknownState.__init__" = true)
    (ekC4 : PySem.W.keepIn K (.ref eC4) = true) (eeC4 : PySem.W.subIn K (.ref eC4) (.type "BaseException") = some true) (etC4 : PySem.W.typeIn K (.ref eC4) = some (.type "type")) (ehC4 : PySem.W.hasDictIn K eC4 = true) (eiC4 : PySem.W.isClsIn K eC4 = true) (esC4 : PySem.W.subIn K (.ref eC4) (.ref eC4) = some true)
    {eC5 ei5 : Addr} {nm5 eq5 : Str} {eN5 : Addr} {bs5 : List Value} {sn5 : List Str} {sub5 : List Value} {ab5 : Bool} {col5 : Option Bool} {dd5 : Option Addr} {m05 m15 m25 m35 m55 : Option Value} {eod5 ean5 : Option Addr} {esl5 : Array (Option Value)} {eoc5 edc5 epm5 ecd5 ect5 : Value}
    (eaC5 : PySem.W.nsIn K mainGlobals "RuleExists" = some (some (.ref eC5))) (exL5 : K.lookup eC5 = some (excClassObj nm5 eq5 eC5 eN5 bs5 [.type "RuntimeError", .type "Exception", .type "BaseException", .type "object"] true sn5 sub5 ab5 col5 dd5 m05 m15 m25 m35 m55 "RuntimeError.__new__"))
    (esa5 : PySem.W.findIn K (.ref eC5) "__setattr__" = some (some (.builtin "object.__setattr__"))) (ega5 : PySem.W.findIn K (.ref eC5) "__getattribute__" = some (some (.builtin "BaseException.__getattribute__"))) (egg5 : PySem.W.findIn K (.ref eC5) "__getattr__" = some none) (enb5 : PySem.W.findIn K (.ref eC5) "rule" = some none)
    (ea15 : PySem.W.findIn K (.ref eC5) "__init__" = some (some (.ref ei5))) (et15 : PySem.W.typeIn K (.ref ei5) = some (.type "function"))
    (el15 : K.lookup ei5 = some ⟨eoc5, eod5, .func (PySem.W.fnOf "__init__" "RuleExists.__init__" (defArgs s_RuleExists_init) (defBody s_RuleExists_init) (defScope s_RuleExists_init) .none .none edc5 epm5 ean5 ecd5 ect5), esl5⟩) (ec15 : PySem.W.codeIn K ecd5 "RuleExists.__init__" = true)
    (ekC5 : PySem.W.keepIn K (.ref eC5) = true) (eeC5 : PySem.W.subIn K (.ref eC5) (.type "BaseException") = some true) (etC5 : PySem.W.typeIn K (.ref eC5) = some (.type "type")) (ehC5 : PySem.W.hasDictIn K eC5 = true) (eiC5 : PySem.W.isClsIn K eC5 = true) (esC5 : PySem.W.subIn K (.ref eC5) (.ref eC5) = some true)
    {eC6 ei6 : Addr} {nm6 eq6 : Str} {eN6 : Addr} {bs6 : List Value} {sn6 : List Str} {sub6 : List Value} {ab6 : Bool} {col6 : Option Bool} {dd6 : Option Addr} {m06 m16 m26 m36 m56 : Option Value} {eod6 ean6 : Option Addr} {esl6 : Array (Option Value)} {eoc6 edc6 epm6 ecd6 ect6 : Value}
    (eaC6 : PySem.W.nsIn K mainGlobals "LimitExceeded" = some (some (.ref eC6))) (exL6 : K.lookup eC6 = some (excClassObj nm6 eq6 eC6 eN6 bs6 [.type "OverflowError", .type "ArithmeticError", .type "Exception", .type "BaseException", .type "object"] true sn6 sub6 ab6 col6 dd6 m06 m16 m26 m36 m56 "OverflowError.__new__"))
    (esa6 : PySem.W.findIn K (.ref eC6) "__setattr__" = some (some (.builtin "object.__setattr__"))) (ega6 : PySem.W.findIn K (.ref eC6) "__getattribute__" = some (some (.builtin "BaseException.__getattribute__"))) (egg6 : PySem.W.findIn K (.ref eC6) "__getattr__" = some none) (enb6 : PySem.W.findIn K (.ref eC6) "limit" = some none)
    (ea16 : PySem.W.findIn K (.ref eC6) "__init__" = some (some (.ref ei6))) (et16 : PySem.W.typeIn K (.ref ei6) = some (.type "function"))
    (el16 : K.lookup ei6 = some ⟨eoc6, eod6, .func (PySem.W.fnOf "__init__" "LimitExceeded.__init__" (defArgs s_LimitExceeded_init) (defBody s_LimitExceeded_init) (defScope s_LimitExceeded_init) .none .none edc6 epm6 ean6 ecd6 ect6), esl6⟩) (ec16 : PySem.W.codeIn K ecd6 "LimitExceeded.__init__" = true)
    (ekC6 : PySem.W.keepIn K (.ref eC6) = true) (eeC6 : PySem.W.subIn K (.ref eC6) (.type "BaseException") = some true) (etC6 : PySem.W.typeIn K (.ref eC6) = some (.type "type")) (ehC6 : PySem.W.hasDictIn K eC6 = true) (eiC6 : PySem.W.isClsIn K eC6 = true) (esC6 : PySem.W.subIn K (.ref eC6) (.ref eC6) = some true)
    (ka_MOST_WORDS : PySem.W.nsIn K mainGlobals "MOST_WORDS" = some (some (.int 3 ck_MOST_WORDS)))
    (ka_MOST_STATES : PySem.W.nsIn K mainGlobals "MOST_STATES" = some (some (.int 6 ck_MOST_STATES)))
    (ka_MOST_HELD : PySem.W.nsIn K mainGlobals "MOST_HELD" = some (some (.int 3 ck_MOST_HELD)))
    (ka_MOST_VERDICT : PySem.W.nsIn K mainGlobals "MOST_VERDICT" = some (some (.int 3 ck_MOST_VERDICT)))
    (ka_NEW : PySem.W.nsIn K mainGlobals "NEW" = some (some (.str "new" ck_NEW)))
    (ka_VALUE : PySem.W.nsIn K mainGlobals "VALUE" = some (some (.str "value" ck_VALUE)))
    (ka_BOTH : PySem.W.nsIn K mainGlobals "BOTH" = some (some (.str "both" ck_BOTH)))
    (ka_FIRST : PySem.W.nsIn K mainGlobals "FIRST" = some (some (.str "first" ck_FIRST)))
    (ka_SECOND : PySem.W.nsIn K mainGlobals "SECOND" = some (some (.str "second" ck_SECOND)))
    (ka_ALIKE : PySem.W.nsIn K mainGlobals "ALIKE" = some (some (.str "alike" ck_ALIKE)))
    (ka_TOGETHER : PySem.W.nsIn K mainGlobals "TOGETHER" = some (some (.str "together" ck_TOGETHER)))
    (ka_UNNEEDED : PySem.W.nsIn K mainGlobals "UNNEEDED" = some (some (.str "unneeded" ck_UNNEEDED)))
    (ka_NEVER : PySem.W.nsIn K mainGlobals "NEVER" = some (some (.str "never" ck_NEVER)))
    (ka_LEAST : PySem.W.nsIn K mainGlobals "LEAST" = some (some (.str "least" ck_LEAST)))
    (ka_SHOWN : PySem.W.nsIn K mainGlobals "SHOWN" = some (some (.str "shown" ck_SHOWN)))
    (ka_BROKEN : PySem.W.nsIn K mainGlobals "BROKEN" = some (some (.str "broken" ck_BROKEN)))
    (z0 : PySem.W.nsIn K mainGlobals "abs" = some none)
    (z1 : PySem.W.nsIn K mainGlobals "enumerate" = some none)
    (z2 : PySem.W.nsIn K mainGlobals "list" = some none)
    (z3 : PySem.W.nsIn K mainGlobals "len" = some none)
    (z4 : PySem.W.nsIn K mainGlobals "range" = some none)
    (z5 : PySem.W.nsIn K mainGlobals "tuple" = some none)
    (z6 : PySem.W.nsIn K mainGlobals "isinstance" = some none)
    (z7 : PySem.W.nsIn K mainGlobals "bool" = some none)
    (z8 : PySem.W.nsIn K mainGlobals "int" = some none)
    (z9 : PySem.W.nsIn K mainGlobals "sorted" = some none)
    (z10 : PySem.W.nsIn K mainGlobals "set" = some none)
    (z11 : PySem.W.nsIn K mainGlobals "repr" = some none)
    (z12 : PySem.W.nsIn K mainGlobals "dict" = some none)
    : ∃ fd : FuncData, (∀ (s : Shared) (v : Value), BindsTo s fd ⟨[v], []⟩ [("script", v)]) ∧ ∀ base : Heap, K.In base → base.Ns mainGlobals mg → FnG l.prog w K mg base CX0 10 fa fd ["script"] (sp_law K) := by
  have e := hfa.symm.trans (PySem.W.mg_of X G a65)
  cases e
  have F_is_integer := fun_mk (st := s_is_integer) l0 c0 k0
  have b_is_integer := F_is_integer.binds (ps := ["value"]) fun _ _ _ _ _ _ us hl => match us, hl with | [_], _ => rfl
  have F_is_between := fun_mk (st := s_is_between) l1 c1 k1
  have b_is_between := F_is_between.binds (ps := ["value", "low", "high"]) fun _ _ _ _ _ _ us hl => match us, hl with | [_, _, _], _ => rfl
  have F_Watcher_init := fun_mk (st := s_Watcher_init) l2 c2 k2
  have b_Watcher_init := F_Watcher_init.binds (ps := ["self", "words"]) fun _ _ _ _ _ _ us hl => match us, hl with | [_, _], _ => rfl
  have F_Watcher_len := fun_mk (st := s_Watcher_len) l3 c3 k3
  have b_Watcher_len := F_Watcher_len.binds (ps := ["self"]) fun _ _ _ _ _ _ us hl => match us, hl with | [_], _ => rfl
  have F_Watcher_add_state := fun_mk (st := s_Watcher_add_state) l4 c4 k4
  have b_Watcher_add_state := F_Watcher_add_state.binds (ps := ["self", "verdict", "held"]) fun _ _ _ _ _ _ us hl => match us, hl with | [_, _, _], _ => rfl
  have F_Watcher_set_verdict := fun_mk (st := s_Watcher_set_verdict) l5 c5 k5
  have b_Watcher_set_verdict := F_Watcher_set_verdict.binds (ps := ["self", "state", "verdict"]) fun _ _ _ _ _ _ us hl => match us, hl with | [_, _, _], _ => rfl
  have F_Watcher_add_rule := fun_mk (st := s_Watcher_add_rule) l6 c6 k6
  have b_Watcher_add_rule := F_Watcher_add_rule.binds (ps := ["self", "state", "word", "test", "target", "sources"]) fun _ _ _ _ _ _ us hl => match us, hl with | [_, _, _, _, _, _], _ => rfl
  have F_Watcher_verdicts := fun_mk (st := s_Watcher_verdicts) l7 c7 k7
  have b_Watcher_verdicts := F_Watcher_verdicts.binds (ps := ["self"]) fun _ _ _ _ _ _ us hl => match us, hl with | [_], _ => rfl
  have F_Watcher_held_counts := fun_mk (st := s_Watcher_held_counts) l8 c8 k8
  have b_Watcher_held_counts := F_Watcher_held_counts.binds (ps := ["self"]) fun _ _ _ _ _ _ us hl => match us, hl with | [_], _ => rfl
  have F_Watcher_rules := fun_mk (st := s_Watcher_rules) l9 c9 k9
  have b_Watcher_rules := F_Watcher_rules.binds (ps := ["self"]) fun _ _ _ _ _ _ us hl => match us, hl with | [_], _ => rfl
  have F_Watcher_rule_for := fun_mk (st := s_Watcher_rule_for) l10 c10 k10
  have b_Watcher_rule_for := F_Watcher_rule_for.binds (ps := ["self", "state", "word", "test"]) fun _ _ _ _ _ _ us hl => match us, hl with | [_, _, _, _], _ => rfl
  have F_Watcher_require_state := fun_mk (st := s_Watcher_require_state) l11 c11 k11
  have b_Watcher_require_state := F_Watcher_require_state.binds (ps := ["self", "state"]) fun _ _ _ _ _ _ us hl => match us, hl with | [_, _], _ => rfl
  have F_Watcher_require_word := fun_mk (st := s_Watcher_require_word) l12 c12 k12
  have b_Watcher_require_word := F_Watcher_require_word.binds (ps := ["self", "word"]) fun _ _ _ _ _ _ us hl => match us, hl with | [_, _], _ => rfl
  have F_require_verdict := fun_mk (st := s_require_verdict) l13 c13 k13
  have b_require_verdict := F_require_verdict.binds (ps := ["verdict"]) fun _ _ _ _ _ _ us hl => match us, hl with | [_], _ => rfl
  have F_is_test := fun_mk (st := s_is_test) l14 c14 k14
  have b_is_test := F_is_test.binds (ps := ["test", "held"]) fun _ _ _ _ _ _ us hl => match us, hl with | [_, _], _ => rfl
  have F_are_sources := fun_mk (st := s_are_sources) l15 c15 k15
  have b_are_sources := F_are_sources.binds (ps := ["sources", "wanted", "held", "test"]) fun _ _ _ _ _ _ us hl => match us, hl with | [_, _, _, _], _ => rfl
  have F_is_source := fun_mk (st := s_is_source) l16 c16 k16
  have b_is_source := F_is_source.binds (ps := ["source", "held", "test"]) fun _ _ _ _ _ _ us hl => match us, hl with | [_, _, _], _ => rfl
  have F_rule_order := fun_mk (st := s_rule_order) l17 c17 k17
  have b_rule_order := F_rule_order.binds (ps := ["rule"]) fun _ _ _ _ _ _ us hl => match us, hl with | [_], _ => rfl
  have F_part_order := fun_mk (st := s_part_order) l18 c18 k18
  have b_part_order := F_part_order.binds (ps := ["part"]) fun _ _ _ _ _ _ us hl => match us, hl with | [_], _ => rfl
  have F_after_message := fun_mk (st := s_after_message) l19 c19 k19
  have b_after_message := F_after_message.binds (ps := ["watcher", "state", "held", "word", "value"]) fun _ _ _ _ _ _ us hl => match us, hl with | [_, _, _, _, _], _ => rfl
  have F_carried := fun_mk (st := s_carried) l20 c20 k20
  have b_carried := F_carried.binds (ps := ["sources", "held", "value"]) fun _ _ _ _ _ _ us hl => match us, hl with | [_, _, _], _ => rfl
  have F_verdicts_at := fun_mk (st := s_verdicts_at) l21 c21 k21
  have b_verdicts_at := F_verdicts_at.binds (ps := ["pair", "situation"]) fun _ _ _ _ _ _ us hl => match us, hl with | [_, _], _ => rfl
  have F_steps_from := fun_mk (st := s_steps_from) l22 c22 k22
  have b_steps_from := F_steps_from.binds (ps := ["pair", "situation"]) fun _ _ _ _ _ _ us hl => match us, hl with | [_, _], _ => rfl
  have F_steps_among := fun_mk (st := s_steps_among) l23 c23 k23
  have b_steps_among := F_steps_among.binds (ps := ["pair", "situations"]) fun _ _ _ _ _ _ us hl => match us, hl with | [_, _], _ => rfl
  have F_reached_situations := fun_mk (st := s_reached_situations) l24 c24 k24
  have b_reached_situations := F_reached_situations.binds (ps := ["pair", "situation"]) fun _ _ _ _ _ _ us hl => match us, hl with | [_, _], _ => rfl
  have F_ways_to := fun_mk (st := s_ways_to) l25 c25 k25
  have b_ways_to := F_ways_to.binds (ps := ["steps", "ends"]) fun _ _ _ _ _ _ us hl => match us, hl with | [_, _], _ => rfl
  have F_continuation_along := fun_mk (st := s_continuation_along) l26 c26 k26
  have b_continuation_along := F_continuation_along.binds (ps := ["pair", "situation", "ways"]) fun _ _ _ _ _ _ us hl => match us, hl with | [_, _, _], _ => rfl
  have F_held_numbers := fun_mk (st := s_held_numbers) l27 c27 k27
  have b_held_numbers := F_held_numbers.binds (ps := ["pair", "situation"]) fun _ _ _ _ _ _ us hl => match us, hl with | [_, _], _ => rfl
  have F_equal_places := fun_mk (st := s_equal_places) l28 c28 k28
  have b_equal_places := F_equal_places.binds (ps := ["first", "second"]) fun _ _ _ _ _ _ us hl => match us, hl with | [_, _], _ => rfl
  have F_cases_between := fun_mk (st := s_cases_between) l29 c29 k29
  have b_cases_between := F_cases_between.binds (ps := ["first", "second"]) fun _ _ _ _ _ _ us hl => match us, hl with | [_, _], _ => rfl
  have F_situation_after := fun_mk (st := s_situation_after) l30 c30 k30
  have b_situation_after := F_situation_after.binds (ps := ["pair", "situation", "held", "word", "case"]) fun _ _ _ _ _ _ us hl => match us, hl with | [_, _, _, _, _], _ => rfl
  have F_value_of := fun_mk (st := s_value_of) l31 c31 k31
  have b_value_of := F_value_of.binds (ps := ["case", "first", "second"]) fun _ _ _ _ _ _ us hl => match us, hl with | [_, _, _], _ => rfl
  have F_least_other := fun_mk (st := s_least_other) l32 c32 k32
  have b_least_other := F_least_other.binds (ps := ["values"]) fun _ _ _ _ _ _ us hl => match us, hl with | [_], _ => rfl
  have F_other_value := fun_mk (st := s_other_value) l33 c33 k33
  have b_other_value := F_other_value.binds (ps := ["watcher", "p", "i"]) fun _ _ _ _ _ _ us hl => match us, hl with | [_, _, _], _ => rfl
  have F_are_sought := fun_mk (st := s_are_sought) l34 c34 k34
  have b_are_sought := F_are_sought.binds (ps := ["claim", "verdicts"]) fun _ _ _ _ _ _ us hl => match us, hl with | [_, _], _ => rfl
  have F_ways_to_sought := fun_mk (st := s_ways_to_sought) l35 c35 k35
  have b_ways_to_sought := F_ways_to_sought.binds (ps := ["watchers", "situations", "claim"]) fun _ _ _ _ _ _ us hl => match us, hl with | [_, _, _], _ => rfl
  have F_ways_to_unlike := fun_mk (st := s_ways_to_unlike) l36 c36 k36
  have b_ways_to_unlike := F_ways_to_unlike.binds (ps := ["watcher", "situations"]) fun _ _ _ _ _ _ us hl => match us, hl with | [_, _], _ => rfl
  have F_all_places := fun_mk (st := s_all_places) l37 c37 k37
  have b_all_places := F_all_places.binds (ps := ["watcher"]) fun _ _ _ _ _ _ us hl => match us, hl with | [_], _ => rfl
  have F_require_claim := fun_mk (st := s_require_claim) l38 c38 k38
  have b_require_claim := F_require_claim.binds (ps := ["pair", "claim"]) fun _ _ _ _ _ _ us hl => match us, hl with | [_, _], _ => rfl
  have F_decide := fun_mk (st := s_decide) l39 c39 k39
  have b_decide := F_decide.binds (ps := ["pair", "claim"]) fun _ _ _ _ _ _ us hl => match us, hl with | [_, _], _ => rfl
  have F_require_paired := fun_mk (st := s_require_paired) l40 c40 k40
  have b_require_paired := F_require_paired.binds (ps := ["pair"]) fun _ _ _ _ _ _ us hl => match us, hl with | [_], _ => rfl
  have F_is_claim := fun_mk (st := s_is_claim) l41 c41 k41
  have b_is_claim := F_is_claim.binds (ps := ["pair", "claim"]) fun _ _ _ _ _ _ us hl => match us, hl with | [_, _], _ => rfl
  have F_is_claim_about := fun_mk (st := s_is_claim_about) l42 c42 k42
  have b_is_claim_about := F_is_claim_about.binds (ps := ["watcher", "kind", "parts"]) fun _ _ _ _ _ _ us hl => match us, hl with | [_, _, _], _ => rfl
  have F_are_places := fun_mk (st := s_are_places) l43 c43 k43
  have b_are_places := F_are_places.binds (ps := ["watcher", "state", "places"]) fun _ _ _ _ _ _ us hl => match us, hl with | [_, _, _], _ => rfl
  have F_watcher_of := fun_mk (st := s_watcher_of) l44 c44 k44
  have b_watcher_of := F_watcher_of.binds (ps := ["pair", "side"]) fun _ _ _ _ _ _ us hl => match us, hl with | [_, _], _ => rfl
  have F_compared := fun_mk (st := s_compared) l45 c45 k45
  have b_compared := F_compared.binds (ps := ["pair", "claim"]) fun _ _ _ _ _ _ us hl => match us, hl with | [_, _], _ => rfl
  have F_answer_of_stream := fun_mk (st := s_answer_of_stream) l46 c46 k46
  have b_answer_of_stream := F_answer_of_stream.binds (ps := ["claim"]) fun _ _ _ _ _ _ us hl => match us, hl with | [_], _ => rfl
  have F_answer_of_table := fun_mk (st := s_answer_of_table) l47 c47 k47
  have b_answer_of_table := F_answer_of_table.binds (ps := ["claim"]) fun _ _ _ _ _ _ us hl => match us, hl with | [_], _ => rfl
  have F_decide_compared := fun_mk (st := s_decide_compared) l48 c48 k48
  have b_decide_compared := F_decide_compared.binds (ps := ["pair", "claim"]) fun _ _ _ _ _ _ us hl => match us, hl with | [_, _], _ => rfl
  have F_needed_places := fun_mk (st := s_needed_places) l49 c49 k49
  have b_needed_places := F_needed_places.binds (ps := ["watcher"]) fun _ _ _ _ _ _ us hl => match us, hl with | [_], _ => rfl
  have F_law_pen := fun_mk (st := s_law_pen) l50 c50 k50
  have b_law_pen := F_law_pen.binds (ps := ["script"]) fun _ _ _ _ _ _ us hl => match us, hl with | [_], _ => rfl
  have F_law_fresh := fun_mk (st := s_law_fresh) l51 c51 k51
  have b_law_fresh := F_law_fresh.binds (ps := ["pen"]) fun _ _ _ _ _ _ us hl => match us, hl with | [_], _ => rfl
  have F_law_draw := fun_mk (st := s_law_draw) l52 c52 k52
  have b_law_draw := F_law_draw.binds (ps := ["pen", "many"]) fun _ _ _ _ _ _ us hl => match us, hl with | [_, _], _ => rfl
  have F_law_some_sources := fun_mk (st := s_law_some_sources) l53 c53 k53
  have b_law_some_sources := F_law_some_sources.binds (ps := ["pen", "held", "test", "many"]) fun _ _ _ _ _ _ us hl => match us, hl with | [_, _, _, _], _ => rfl
  have F_law_plan := fun_mk (st := s_law_plan) l54 c54 k54
  have b_law_plan := F_law_plan.binds (ps := ["pen", "words", "states", "held"]) fun _ _ _ _ _ _ us hl => match us, hl with | [_, _, _, _], _ => rfl
  have F_law_built := fun_mk (st := s_law_built) l55 c55 k55
  have b_law_built := F_law_built.binds (ps := ["plan"]) fun _ _ _ _ _ _ us hl => match us, hl with | [_], _ => rfl
  have F_law_moved := fun_mk (st := s_law_moved) l56 c56 k56
  have b_law_moved := F_law_moved.binds (ps := ["plan", "present", "message"]) fun _ _ _ _ _ _ us hl => match us, hl with | [_, _, _], _ => rfl
  have F_law_situation := fun_mk (st := s_law_situation) l57 c57 k57
  have b_law_situation := F_law_situation.binds (ps := ["one", "other"]) fun _ _ _ _ _ _ us hl => match us, hl with | [_, _], _ => rfl
  have F_law_started := fun_mk (st := s_law_started) l58 c58 k58
  have b_law_started := F_law_started.binds (ps := ["plans", "situation"]) fun _ _ _ _ _ _ us hl => match us, hl with | [_, _], _ => rfl
  have F_law_met := fun_mk (st := s_law_met) l59 c59 k59
  have b_law_met := F_law_met.binds (ps := ["plans", "situation", "ends"]) fun _ _ _ _ _ _ us hl => match us, hl with | [_, _, _], _ => rfl
  have F_law_unlike := fun_mk (st := s_law_unlike) l60 c60 k60
  have b_law_unlike := F_law_unlike.binds (ps := ["plans", "situation"]) fun _ _ _ _ _ _ us hl => match us, hl with | [_, _], _ => rfl
  have F_law_without := fun_mk (st := s_law_without) l61 c61 k61
  have b_law_without := F_law_without.binds (ps := ["held", "place"]) fun _ _ _ _ _ _ us hl => match us, hl with | [_, _], _ => rfl
  have F_law_few_plan := fun_mk (st := s_law_few_plan) l62 c62 k62
  have b_law_few_plan := F_law_few_plan.binds (ps := ["pen"]) fun _ _ _ _ _ _ us hl => match us, hl with | [_], _ => rfl
  have F_law_ends := fun_mk (st := s_law_ends) l63 c63 k63
  have b_law_ends := F_law_ends.binds (ps := ["plan", "state", "stream", "place"]) fun _ _ _ _ _ _ us hl => match us, hl with | [_, _, _, _], _ => rfl
  have F_law_place_right := fun_mk (st := s_law_place_right) l64 c64 k64
  have b_law_place_right := F_law_place_right.binds (ps := ["pen", "plan", "state", "place", "tells"]) fun _ _ _ _ _ _ us hl => match us, hl with | [_, _, _, _, _], _ => rfl
  have F_law := fun_mk (st := s_law) l65 c65 k65
  have T_NotAWord : L2.ErrOk OwnE.bVE "NotAWord" "word" "NotAWord.__init__" K mg eC0 ei0 := ⟨OwnE.bVE_ok, { gC := PySem.W.mg_of X G eaC0, cls := ⟨nm0, eq0, eN0, bs0, _, sn0, sub0, ab0, col0, dd0, m00, m10, m20, m30, m50, exL0, by decide +kernel⟩, sa := esa0, ga := ega0, gg := egg0, noN := enb0, iC := ea10, tC := et10, kC := ekC0, exC := eeC0, tyC := etC0, hdC := ehC0, te := OwnE.exm_own eeC0 eiC0 etC0 esC0, fn := ⟨eoc0, eod0, edc0, epm0, ean0, ecd0, ect0, esl0, _, _, _, _, _, _, defScope s_NotAWord_init, el10, ec10, rfl, by decide +kernel, by decide +kernel, rfl, rfl⟩ }, by decide, by decide, fun _ _ _ _ _ _ _ _ _ _ _ _ _ _ _ _ => by first | rfl | with_unfolding_all rfl⟩
  have T_NotAVerdict : L2.ErrOk OwnE.bVE "NotAVerdict" "verdict" "NotAVerdict.__init__" K mg eC1 ei1 := ⟨OwnE.bVE_ok, { gC := PySem.W.mg_of X G eaC1, cls := ⟨nm1, eq1, eN1, bs1, _, sn1, sub1, ab1, col1, dd1, m01, m11, m21, m31, m51, exL1, by decide +kernel⟩, sa := esa1, ga := ega1, gg := egg1, noN := enb1, iC := ea11, tC := et11, kC := ekC1, exC := eeC1, tyC := etC1, hdC := ehC1, te := OwnE.exm_own eeC1 eiC1 etC1 esC1, fn := ⟨eoc1, eod1, edc1, epm1, ean1, ecd1, ect1, esl1, _, _, _, _, _, _, defScope s_NotAVerdict_init, el11, ec11, rfl, by decide +kernel, by decide +kernel, rfl, rfl⟩ }, by decide, by decide, fun _ _ _ _ _ _ _ _ _ _ _ _ _ _ _ _ => by first | rfl | with_unfolding_all rfl⟩
  have T_InvalidTest : L2.ErrOk OwnE.bVE "InvalidTest" "test" "InvalidTest.__init__" K mg eC2 ei2 := ⟨OwnE.bVE_ok, { gC := PySem.W.mg_of X G eaC2, cls := ⟨nm2, eq2, eN2, bs2, _, sn2, sub2, ab2, col2, dd2, m02, m12, m22, m32, m52, exL2, by decide +kernel⟩, sa := esa2, ga := ega2, gg := egg2, noN := enb2, iC := ea12, tC := et12, kC := ekC2, exC := eeC2, tyC := etC2, hdC := ehC2, te := OwnE.exm_own eeC2 eiC2 etC2 esC2, fn := ⟨eoc2, eod2, edc2, epm2, ean2, ecd2, ect2, esl2, _, _, _, _, _, _, defScope s_InvalidTest_init, el12, ec12, rfl, by decide +kernel, by decide +kernel, rfl, rfl⟩ }, by decide, by decide, fun _ _ _ _ _ _ _ _ _ _ _ _ _ _ _ _ => by first | rfl | with_unfolding_all rfl⟩
  have T_InvalidSources : L2.ErrOk OwnE.bVE "InvalidSources" "sources" "InvalidSources.__init__" K mg eC3 ei3 := ⟨OwnE.bVE_ok, { gC := PySem.W.mg_of X G eaC3, cls := ⟨nm3, eq3, eN3, bs3, _, sn3, sub3, ab3, col3, dd3, m03, m13, m23, m33, m53, exL3, by decide +kernel⟩, sa := esa3, ga := ega3, gg := egg3, noN := enb3, iC := ea13, tC := et13, kC := ekC3, exC := eeC3, tyC := etC3, hdC := ehC3, te := OwnE.exm_own eeC3 eiC3 etC3 esC3, fn := ⟨eoc3, eod3, edc3, epm3, ean3, ecd3, ect3, esl3, _, _, _, _, _, _, defScope s_InvalidSources_init, el13, ec13, rfl, by decide +kernel, by decide +kernel, rfl, rfl⟩ }, by decide, by decide, fun _ _ _ _ _ _ _ _ _ _ _ _ _ _ _ _ => by first | rfl | with_unfolding_all rfl⟩
  have T_UnknownState : L2.ErrOk OwnE.bLE "UnknownState" "state" "UnknownState.__init__" K mg eC4 ei4 := ⟨OwnE.bLE_ok, { gC := PySem.W.mg_of X G eaC4, cls := ⟨nm4, eq4, eN4, bs4, _, sn4, sub4, ab4, col4, dd4, m04, m14, m24, m34, m54, exL4, by decide +kernel⟩, sa := esa4, ga := ega4, gg := egg4, noN := enb4, iC := ea14, tC := et14, kC := ekC4, exC := eeC4, tyC := etC4, hdC := ehC4, te := OwnE.exm_own eeC4 eiC4 etC4 esC4, fn := ⟨eoc4, eod4, edc4, epm4, ean4, ecd4, ect4, esl4, _, _, _, _, _, _, defScope s_UnknownState_init, el14, ec14, rfl, by decide +kernel, by decide +kernel, rfl, rfl⟩ }, by decide, by decide, fun _ _ _ _ _ _ _ _ _ _ _ _ _ _ _ _ => by first | rfl | with_unfolding_all rfl⟩
  have T_RuleExists : L2.ErrOk OwnE.bRE "RuleExists" "rule" "RuleExists.__init__" K mg eC5 ei5 := ⟨OwnE.bRE_ok, { gC := PySem.W.mg_of X G eaC5, cls := ⟨nm5, eq5, eN5, bs5, _, sn5, sub5, ab5, col5, dd5, m05, m15, m25, m35, m55, exL5, by decide +kernel⟩, sa := esa5, ga := ega5, gg := egg5, noN := enb5, iC := ea15, tC := et15, kC := ekC5, exC := eeC5, tyC := etC5, hdC := ehC5, te := OwnE.exm_own eeC5 eiC5 etC5 esC5, fn := ⟨eoc5, eod5, edc5, epm5, ean5, ecd5, ect5, esl5, _, _, _, _, _, _, defScope s_RuleExists_init, el15, ec15, rfl, by decide +kernel, by decide +kernel, rfl, rfl⟩ }, by decide, by decide, fun _ _ _ _ _ _ _ _ _ _ _ _ _ _ _ _ => by first | rfl | with_unfolding_all rfl⟩
  have T_LimitExceeded : L2.ErrOk OwnE.bOE "LimitExceeded" "limit" "LimitExceeded.__init__" K mg eC6 ei6 := ⟨OwnE.bOE_ok, { gC := PySem.W.mg_of X G eaC6, cls := ⟨nm6, eq6, eN6, bs6, _, sn6, sub6, ab6, col6, dd6, m06, m16, m26, m36, m56, exL6, by decide +kernel⟩, sa := esa6, ga := ega6, gg := egg6, noN := enb6, iC := ea16, tC := et16, kC := ekC6, exC := eeC6, tyC := etC6, hdC := ehC6, te := OwnE.exm_own eeC6 eiC6 etC6 esC6, fn := ⟨eoc6, eod6, edc6, epm6, ean6, ecd6, ect6, esl6, _, _, _, _, _, _, defScope s_LimitExceeded_init, el16, ec16, rfl, by decide +kernel, by decide +kernel, rfl, rfl⟩ }, by decide, by decide, fun _ _ _ _ _ _ _ _ _ _ _ _ _ _ _ _ => by first | rfl | with_unfolding_all rfl⟩
  have T : Tx K mg := {
    Watcher := ⟨C_Watcher, ⟨pg_Watcher, hd_Watcher, po_Watcher, sa_Watcher⟩, PySem.W.mg_of X G wC_Watcher⟩
    nf_Watcherwords := nf_Watcherwords
    nf_Watcher_verdicts := nf_Watcher_verdicts
    nf_Watcher_held := nf_Watcher_held
    nf_Watcher_rules := nf_Watcher_rules
    is_integer := ⟨f_is_integer, _, F_is_integer, b_is_integer, PySem.W.mg_of X G a0⟩
    is_between := ⟨f_is_between, _, F_is_between, b_is_between, PySem.W.mg_of X G a1⟩
    Watcher_init := ⟨f_Watcher_init, _, F_Watcher_init, b_Watcher_init, ⟨a2, i2, k2⟩⟩
    Watcher_len := ⟨f_Watcher_len, _, F_Watcher_len, b_Watcher_len, ⟨a3, i3, k3⟩⟩
    Watcher_add_state := ⟨f_Watcher_add_state, _, F_Watcher_add_state, b_Watcher_add_state, ⟨a4, i4, k4⟩⟩
    Watcher_set_verdict := ⟨f_Watcher_set_verdict, _, F_Watcher_set_verdict, b_Watcher_set_verdict, ⟨a5, i5, k5⟩⟩
    Watcher_add_rule := ⟨f_Watcher_add_rule, _, F_Watcher_add_rule, b_Watcher_add_rule, ⟨a6, i6, k6⟩⟩
    Watcher_verdicts := ⟨f_Watcher_verdicts, _, F_Watcher_verdicts, b_Watcher_verdicts, ⟨a7, i7, k7⟩⟩
    Watcher_held_counts := ⟨f_Watcher_held_counts, _, F_Watcher_held_counts, b_Watcher_held_counts, ⟨a8, i8, k8⟩⟩
    Watcher_rules := ⟨f_Watcher_rules, _, F_Watcher_rules, b_Watcher_rules, ⟨a9, i9, k9⟩⟩
    Watcher_rule_for := ⟨f_Watcher_rule_for, _, F_Watcher_rule_for, b_Watcher_rule_for, ⟨a10, i10, k10⟩⟩
    Watcher_require_state := ⟨f_Watcher_require_state, _, F_Watcher_require_state, b_Watcher_require_state, ⟨a11, i11, k11⟩⟩
    Watcher_require_word := ⟨f_Watcher_require_word, _, F_Watcher_require_word, b_Watcher_require_word, ⟨a12, i12, k12⟩⟩
    require_verdict := ⟨f_require_verdict, _, F_require_verdict, b_require_verdict, PySem.W.mg_of X G a13⟩
    is_test := ⟨f_is_test, _, F_is_test, b_is_test, PySem.W.mg_of X G a14⟩
    are_sources := ⟨f_are_sources, _, F_are_sources, b_are_sources, PySem.W.mg_of X G a15⟩
    is_source := ⟨f_is_source, _, F_is_source, b_is_source, PySem.W.mg_of X G a16⟩
    rule_order := ⟨f_rule_order, _, F_rule_order, b_rule_order, PySem.W.mg_of X G a17⟩
    part_order := ⟨f_part_order, _, F_part_order, b_part_order, PySem.W.mg_of X G a18⟩
    after_message := ⟨f_after_message, _, F_after_message, b_after_message, PySem.W.mg_of X G a19⟩
    carried := ⟨f_carried, _, F_carried, b_carried, PySem.W.mg_of X G a20⟩
    verdicts_at := ⟨f_verdicts_at, _, F_verdicts_at, b_verdicts_at, PySem.W.mg_of X G a21⟩
    steps_from := ⟨f_steps_from, _, F_steps_from, b_steps_from, PySem.W.mg_of X G a22⟩
    steps_among := ⟨f_steps_among, _, F_steps_among, b_steps_among, PySem.W.mg_of X G a23⟩
    reached_situations := ⟨f_reached_situations, _, F_reached_situations, b_reached_situations, PySem.W.mg_of X G a24⟩
    ways_to := ⟨f_ways_to, _, F_ways_to, b_ways_to, PySem.W.mg_of X G a25⟩
    continuation_along := ⟨f_continuation_along, _, F_continuation_along, b_continuation_along, PySem.W.mg_of X G a26⟩
    held_numbers := ⟨f_held_numbers, _, F_held_numbers, b_held_numbers, PySem.W.mg_of X G a27⟩
    equal_places := ⟨f_equal_places, _, F_equal_places, b_equal_places, PySem.W.mg_of X G a28⟩
    cases_between := ⟨f_cases_between, _, F_cases_between, b_cases_between, PySem.W.mg_of X G a29⟩
    situation_after := ⟨f_situation_after, _, F_situation_after, b_situation_after, PySem.W.mg_of X G a30⟩
    value_of := ⟨f_value_of, _, F_value_of, b_value_of, PySem.W.mg_of X G a31⟩
    least_other := ⟨f_least_other, _, F_least_other, b_least_other, PySem.W.mg_of X G a32⟩
    other_value := ⟨f_other_value, _, F_other_value, b_other_value, PySem.W.mg_of X G a33⟩
    are_sought := ⟨f_are_sought, _, F_are_sought, b_are_sought, PySem.W.mg_of X G a34⟩
    ways_to_sought := ⟨f_ways_to_sought, _, F_ways_to_sought, b_ways_to_sought, PySem.W.mg_of X G a35⟩
    ways_to_unlike := ⟨f_ways_to_unlike, _, F_ways_to_unlike, b_ways_to_unlike, PySem.W.mg_of X G a36⟩
    all_places := ⟨f_all_places, _, F_all_places, b_all_places, PySem.W.mg_of X G a37⟩
    require_claim := ⟨f_require_claim, _, F_require_claim, b_require_claim, PySem.W.mg_of X G a38⟩
    decide := ⟨f_decide, _, F_decide, b_decide, PySem.W.mg_of X G a39⟩
    require_paired := ⟨f_require_paired, _, F_require_paired, b_require_paired, PySem.W.mg_of X G a40⟩
    is_claim := ⟨f_is_claim, _, F_is_claim, b_is_claim, PySem.W.mg_of X G a41⟩
    is_claim_about := ⟨f_is_claim_about, _, F_is_claim_about, b_is_claim_about, PySem.W.mg_of X G a42⟩
    are_places := ⟨f_are_places, _, F_are_places, b_are_places, PySem.W.mg_of X G a43⟩
    watcher_of := ⟨f_watcher_of, _, F_watcher_of, b_watcher_of, PySem.W.mg_of X G a44⟩
    compared := ⟨f_compared, _, F_compared, b_compared, PySem.W.mg_of X G a45⟩
    answer_of_stream := ⟨f_answer_of_stream, _, F_answer_of_stream, b_answer_of_stream, PySem.W.mg_of X G a46⟩
    answer_of_table := ⟨f_answer_of_table, _, F_answer_of_table, b_answer_of_table, PySem.W.mg_of X G a47⟩
    decide_compared := ⟨f_decide_compared, _, F_decide_compared, b_decide_compared, PySem.W.mg_of X G a48⟩
    needed_places := ⟨f_needed_places, _, F_needed_places, b_needed_places, PySem.W.mg_of X G a49⟩
    law_pen := ⟨f_law_pen, _, F_law_pen, b_law_pen, PySem.W.mg_of X G a50⟩
    law_fresh := ⟨f_law_fresh, _, F_law_fresh, b_law_fresh, PySem.W.mg_of X G a51⟩
    law_draw := ⟨f_law_draw, _, F_law_draw, b_law_draw, PySem.W.mg_of X G a52⟩
    law_some_sources := ⟨f_law_some_sources, _, F_law_some_sources, b_law_some_sources, PySem.W.mg_of X G a53⟩
    law_plan := ⟨f_law_plan, _, F_law_plan, b_law_plan, PySem.W.mg_of X G a54⟩
    law_built := ⟨f_law_built, _, F_law_built, b_law_built, PySem.W.mg_of X G a55⟩
    law_moved := ⟨f_law_moved, _, F_law_moved, b_law_moved, PySem.W.mg_of X G a56⟩
    law_situation := ⟨f_law_situation, _, F_law_situation, b_law_situation, PySem.W.mg_of X G a57⟩
    law_started := ⟨f_law_started, _, F_law_started, b_law_started, PySem.W.mg_of X G a58⟩
    law_met := ⟨f_law_met, _, F_law_met, b_law_met, PySem.W.mg_of X G a59⟩
    law_unlike := ⟨f_law_unlike, _, F_law_unlike, b_law_unlike, PySem.W.mg_of X G a60⟩
    law_without := ⟨f_law_without, _, F_law_without, b_law_without, PySem.W.mg_of X G a61⟩
    law_few_plan := ⟨f_law_few_plan, _, F_law_few_plan, b_law_few_plan, PySem.W.mg_of X G a62⟩
    law_ends := ⟨f_law_ends, _, F_law_ends, b_law_ends, PySem.W.mg_of X G a63⟩
    law_place_right := ⟨f_law_place_right, _, F_law_place_right, b_law_place_right, PySem.W.mg_of X G a64⟩
    mk_Watcher := ⟨mk_Watcher, a2, i2, kc_Watcher⟩
    bt_rule_order := fun s v => .of_eq rfl
    bt_part_order := fun s v => .of_eq rfl
    tf_Watcher_len := tf_Watcher_len
    NotAWord := ⟨eC0, ei0, T_NotAWord⟩
    NotAVerdict := ⟨eC1, ei1, T_NotAVerdict⟩
    InvalidTest := ⟨eC2, ei2, T_InvalidTest⟩
    InvalidSources := ⟨eC3, ei3, T_InvalidSources⟩
    UnknownState := ⟨eC4, ei4, T_UnknownState⟩
    RuleExists := ⟨eC5, ei5, T_RuleExists⟩
    LimitExceeded := ⟨eC6, ei6, T_LimitExceeded⟩
    ck_MOST_WORDS := ck_MOST_WORDS
    g_MOST_WORDS := PySem.W.mg_of X G ka_MOST_WORDS
    ck_MOST_STATES := ck_MOST_STATES
    g_MOST_STATES := PySem.W.mg_of X G ka_MOST_STATES
    ck_MOST_HELD := ck_MOST_HELD
    g_MOST_HELD := PySem.W.mg_of X G ka_MOST_HELD
    ck_MOST_VERDICT := ck_MOST_VERDICT
    g_MOST_VERDICT := PySem.W.mg_of X G ka_MOST_VERDICT
    ck_NEW := ck_NEW
    g_NEW := PySem.W.mg_of X G ka_NEW
    ck_VALUE := ck_VALUE
    g_VALUE := PySem.W.mg_of X G ka_VALUE
    ck_BOTH := ck_BOTH
    g_BOTH := PySem.W.mg_of X G ka_BOTH
    ck_FIRST := ck_FIRST
    g_FIRST := PySem.W.mg_of X G ka_FIRST
    ck_SECOND := ck_SECOND
    g_SECOND := PySem.W.mg_of X G ka_SECOND
    ck_ALIKE := ck_ALIKE
    g_ALIKE := PySem.W.mg_of X G ka_ALIKE
    ck_TOGETHER := ck_TOGETHER
    g_TOGETHER := PySem.W.mg_of X G ka_TOGETHER
    ck_UNNEEDED := ck_UNNEEDED
    g_UNNEEDED := PySem.W.mg_of X G ka_UNNEEDED
    ck_NEVER := ck_NEVER
    g_NEVER := PySem.W.mg_of X G ka_NEVER
    ck_LEAST := ck_LEAST
    g_LEAST := PySem.W.mg_of X G ka_LEAST
    ck_SHOWN := ck_SHOWN
    g_SHOWN := PySem.W.mg_of X G ka_SHOWN
    ck_BROKEN := ck_BROKEN
    g_BROKEN := PySem.W.mg_of X G ka_BROKEN
    m_abs := PySem.W.mg_none_of X G z0
    m_enumerate := PySem.W.mg_none_of X G z1
    m_list := PySem.W.mg_none_of X G z2
    m_len := PySem.W.mg_none_of X G z3
    m_range := PySem.W.mg_none_of X G z4
    m_tuple := PySem.W.mg_none_of X G z5
    m_isinstance := PySem.W.mg_none_of X G z6
    m_bool := PySem.W.mg_none_of X G z7
    m_int := PySem.W.mg_none_of X G z8
    m_sorted := PySem.W.mg_none_of X G z9
    m_set := PySem.W.mg_none_of X G z10
    m_repr := PySem.W.mg_none_of X G z11
    m_dict := PySem.W.mg_none_of X G z12 }
  exact ⟨PySem.W.fnOf "law" "law" (defArgs s_law) (defBody s_law) (defScope s_law) .none kV65 dc65 pm65 an65 cd65 ct65, fun s v => .of_eq rfl, fun base _ _ => ok_law T F_law⟩
theorem walk {l : PySem.W.OpenLaw} {q : Program} {loose : List Str} {XP : (Str → Option Value) → Heap → Prop} {YP : World → Heap → Prop} {d : DefRec} {K : Params → PySem.W.Frag} (hn : l.most = some 63) (hdf : d.params.defaults = [])
    (hY : ∀ (w : World) (h : Heap), YP w h → (K w.params).In h)
    (F : ∀ (w : World) (mg : Str → Option Value) (fa : Addr) (h : Heap), (K w.params).In h → h.Ns mainGlobals mg → mg d.name = some (.ref fa) →
      ∃ fd : FuncData, (∀ (s : Shared) (u : Value), BindsTo s fd ⟨[u], []⟩ [("script", u)]) ∧ ∀ base : Heap, (K w.params).In base → base.Ns mainGlobals mg → FnG l.prog w (K w.params) mg base CX0 10 fa fd ["script"] (sp_law (K w.params))) :
    PySem.W.WalkO q loose XP YP l.row.toRowW d [] (fun f vs => PySem.call f vs) :=
  walk_ofG (n := 63) (k := 10) (x := "script") (sp := sp_law) hn (by decide) hdf ⟨rfl, by decide, by decide⟩ hY F fun _ _ a ns hl hb _ hS => ⟨a, ns, rfl, hS, hl, fun _ => rfl⟩
end Sb
open PySem PySem.W PyProof.Rows
set_option maxRecDepth 100000 in
set_option maxHeartbeats 0 in
theorem PySem.Challenge.cw_seenbefore_k58_whole_needed_values_and_c_holds : PySem.Challenge.rw_seenbefore_k58_whole_needed_values_and_c.Holds := by
  w_on; o_law; k_head; (case hw => w_witness2)
  k_fill
  refine Sb.walk (l := PySem.Challenge.rw_seenbefore_k58_whole_needed_values_and_c) rfl rfl (fun w h Y => PySem.W.kIn_of Y) ?F
  case F =>
    intro w mg fa h KX G hmg
    refine' Sb.all_mk KX G hmg ?a0 ?l0 ?c0 ?k0 ?a1 ?l1 ?c1 ?k1 ?a2 ?i2 ?l2 ?c2 ?k2 ?a3 ?i3 ?l3 ?c3 ?k3 ?a4 ?i4 ?l4 ?c4 ?k4 ?a5 ?i5 ?l5 ?c5 ?k5 ?a6 ?i6 ?l6 ?c6 ?k6 ?a7 ?i7 ?l7 ?c7 ?k7 ?a8 ?i8 ?l8 ?c8 ?k8 ?a9 ?i9 ?l9 ?c9 ?k9 ?a10 ?i10 ?l10 ?c10 ?k10 ?a11 ?i11 ?l11 ?c11 ?k11 ?a12 ?i12 ?l12 ?c12 ?k12 ?a13 ?l13 ?c13 ?k13 ?a14 ?l14 ?c14 ?k14 ?a15 ?l15 ?c15 ?k15 ?a16 ?l16 ?c16 ?k16 ?a17 ?l17 ?c17 ?k17 ?a18 ?l18 ?c18 ?k18 ?a19 ?l19 ?c19 ?k19 ?a20 ?l20 ?c20 ?k20 ?a21 ?l21 ?c21 ?k21 ?a22 ?l22 ?c22 ?k22 ?a23 ?l23 ?c23 ?k23 ?a24 ?l24 ?c24 ?k24 ?a25 ?l25 ?c25 ?k25 ?a26 ?l26 ?c26 ?k26 ?a27 ?l27 ?c27 ?k27 ?a28 ?l28 ?c28 ?k28 ?a29 ?l29 ?c29 ?k29 ?a30 ?l30 ?c30 ?k30 ?a31 ?l31 ?c31 ?k31 ?a32 ?l32 ?c32 ?k32 ?a33 ?l33 ?c33 ?k33 ?a34 ?l34 ?c34 ?k34 ?a35 ?l35 ?c35 ?k35 ?a36 ?l36 ?c36 ?k36 ?a37 ?l37 ?c37 ?k37 ?a38 ?l38 ?c38 ?k38 ?a39 ?l39 ?c39 ?k39 ?a40 ?l40 ?c40 ?k40 ?a41 ?l41 ?c41 ?k41 ?a42 ?l42 ?c42 ?k42 ?a43 ?l43 ?c43 ?k43 ?a44 ?l44 ?c44 ?k44 ?a45 ?l45 ?c45 ?k45 ?a46 ?l46 ?c46 ?k46 ?a47 ?l47 ?c47 ?k47 ?a48 ?l48 ?c48 ?k48 ?a49 ?l49 ?c49 ?k49 ?a50 ?l50 ?c50 ?k50 ?a51 ?l51 ?c51 ?k51 ?a52 ?l52 ?c52 ?k52 ?a53 ?l53 ?c53 ?k53 ?a54 ?l54 ?c54 ?k54 ?a55 ?l55 ?c55 ?k55 ?a56 ?l56 ?c56 ?k56 ?a57 ?l57 ?c57 ?k57 ?a58 ?l58 ?c58 ?k58 ?a59 ?l59 ?c59 ?k59 ?a60 ?l60 ?c60 ?k60 ?a61 ?l61 ?c61 ?k61 ?a62 ?l62 ?c62 ?k62 ?a63 ?l63 ?c63 ?k63 ?a64 ?l64 ?c64 ?k64 ?a65 ?l65 ?c65 ?k65 ?tf_Watcher_len ?wC_Watcher ?pg_Watcher ?hd_Watcher ?po_Watcher ?sa_Watcher ?mk_Watcher ?kc_Watcher ?nf_Watcherwords ?nf_Watcher_verdicts ?nf_Watcher_held ?nf_Watcher_rules ?eaC0 ?exL0 ?esa0 ?ega0 ?egg0 ?enb0 ?ea10 ?et10 ?el10 ?ec10 ?ekC0 ?eeC0 ?etC0 ?ehC0 ?eiC0 ?esC0 ?eaC1 ?exL1 ?esa1 ?ega1 ?egg1 ?enb1 ?ea11 ?et11 ?el11 ?ec11 ?ekC1 ?eeC1 ?etC1 ?ehC1 ?eiC1 ?esC1 ?eaC2 ?exL2 ?esa2 ?ega2 ?egg2 ?enb2 ?ea12 ?et12 ?el12 ?ec12 ?ekC2 ?eeC2 ?etC2 ?ehC2 ?eiC2 ?esC2 ?eaC3 ?exL3 ?esa3 ?ega3 ?egg3 ?enb3 ?ea13 ?et13 ?el13 ?ec13 ?ekC3 ?eeC3 ?etC3 ?ehC3 ?eiC3 ?esC3 ?eaC4 ?exL4 ?esa4 ?ega4 ?egg4 ?enb4 ?ea14 ?et14 ?el14 ?ec14 ?ekC4 ?eeC4 ?etC4 ?ehC4 ?eiC4 ?esC4 ?eaC5 ?exL5 ?esa5 ?ega5 ?egg5 ?enb5 ?ea15 ?et15 ?el15 ?ec15 ?ekC5 ?eeC5 ?etC5 ?ehC5 ?eiC5 ?esC5 ?eaC6 ?exL6 ?esa6 ?ega6 ?egg6 ?enb6 ?ea16 ?et16 ?el16 ?ec16 ?ekC6 ?eeC6 ?etC6 ?ehC6 ?eiC6 ?esC6 ?ka_MOST_WORDS ?ka_MOST_STATES ?ka_MOST_HELD ?ka_MOST_VERDICT ?ka_NEW ?ka_VALUE ?ka_BOTH ?ka_FIRST ?ka_SECOND ?ka_ALIKE ?ka_TOGETHER ?ka_UNNEEDED ?ka_NEVER ?ka_LEAST ?ka_SHOWN ?ka_BROKEN ?z0 ?z1 ?z2 ?z3 ?z4 ?z5 ?z6 ?z7 ?z8 ?z9 ?z10 ?z11 ?z12
    case wC_Watcher => k_is
    case a0 => k_is
    case l0 => k_is
    case c0 => k_is
    case k0 => k_is
    case a1 => k_is
    case l1 => k_is
    case c1 => k_is
    case k1 => k_is
    case a2 => k_is
    case i2 => k_is
    case l2 => k_is
    case c2 => k_is
    case k2 => k_is
    case a3 => k_is
    case i3 => k_is
    case l3 => k_is
    case c3 => k_is
    case k3 => k_is
    case a4 => k_is
    case i4 => k_is
    case l4 => k_is
    case c4 => k_is
    case k4 => k_is
    case a5 => k_is
    case i5 => k_is
    case l5 => k_is
    case c5 => k_is
    case k5 => k_is
    case a6 => k_is
    case i6 => k_is
    case l6 => k_is
    case c6 => k_is
    case k6 => k_is
    case a7 => k_is
    case i7 => k_is
    case l7 => k_is
    case c7 => k_is
    case k7 => k_is
    case a8 => k_is
    case i8 => k_is
    case l8 => k_is
    case c8 => k_is
    case k8 => k_is
    case a9 => k_is
    case i9 => k_is
    case l9 => k_is
    case c9 => k_is
    case k9 => k_is
    case a10 => k_is
    case i10 => k_is
    case l10 => k_is
    case c10 => k_is
    case k10 => k_is
    case a11 => k_is
    case i11 => k_is
    case l11 => k_is
    case c11 => k_is
    case k11 => k_is
    case a12 => k_is
    case i12 => k_is
    case l12 => k_is
    case c12 => k_is
    case k12 => k_is
    case a13 => k_is
    case l13 => k_is
    case c13 => k_is
    case k13 => k_is
    case a14 => k_is
    case l14 => k_is
    case c14 => k_is
    case k14 => k_is
    case a15 => k_is
    case l15 => k_is
    case c15 => k_is
    case k15 => k_is
    case a16 => k_is
    case l16 => k_is
    case c16 => k_is
    case k16 => k_is
    case a17 => k_is
    case l17 => k_is
    case c17 => k_is
    case k17 => k_is
    case a18 => k_is
    case l18 => k_is
    case c18 => k_is
    case k18 => k_is
    case a19 => k_is
    case l19 => k_is
    case c19 => k_is
    case k19 => k_is
    case a20 => k_is
    case l20 => k_is
    case c20 => k_is
    case k20 => k_is
    case a21 => k_is
    case l21 => k_is
    case c21 => k_is
    case k21 => k_is
    case a22 => k_is
    case l22 => k_is
    case c22 => k_is
    case k22 => k_is
    case a23 => k_is
    case l23 => k_is
    case c23 => k_is
    case k23 => k_is
    case a24 => k_is
    case l24 => k_is
    case c24 => k_is
    case k24 => k_is
    case a25 => k_is
    case l25 => k_is
    case c25 => k_is
    case k25 => k_is
    case a26 => k_is
    case l26 => k_is
    case c26 => k_is
    case k26 => k_is
    case a27 => k_is
    case l27 => k_is
    case c27 => k_is
    case k27 => k_is
    case a28 => k_is
    case l28 => k_is
    case c28 => k_is
    case k28 => k_is
    case a29 => k_is
    case l29 => k_is
    case c29 => k_is
    case k29 => k_is
    case a30 => k_is
    case l30 => k_is
    case c30 => k_is
    case k30 => k_is
    case a31 => k_is
    case l31 => k_is
    case c31 => k_is
    case k31 => k_is
    case a32 => k_is
    case l32 => k_is
    case c32 => k_is
    case k32 => k_is
    case a33 => k_is
    case l33 => k_is
    case c33 => k_is
    case k33 => k_is
    case a34 => k_is
    case l34 => k_is
    case c34 => k_is
    case k34 => k_is
    case a35 => k_is
    case l35 => k_is
    case c35 => k_is
    case k35 => k_is
    case a36 => k_is
    case l36 => k_is
    case c36 => k_is
    case k36 => k_is
    case a37 => k_is
    case l37 => k_is
    case c37 => k_is
    case k37 => k_is
    case a38 => k_is
    case l38 => k_is
    case c38 => k_is
    case k38 => k_is
    case a39 => k_is
    case l39 => k_is
    case c39 => k_is
    case k39 => k_is
    case a40 => k_is
    case l40 => k_is
    case c40 => k_is
    case k40 => k_is
    case a41 => k_is
    case l41 => k_is
    case c41 => k_is
    case k41 => k_is
    case a42 => k_is
    case l42 => k_is
    case c42 => k_is
    case k42 => k_is
    case a43 => k_is
    case l43 => k_is
    case c43 => k_is
    case k43 => k_is
    case a44 => k_is
    case l44 => k_is
    case c44 => k_is
    case k44 => k_is
    case a45 => k_is
    case l45 => k_is
    case c45 => k_is
    case k45 => k_is
    case a46 => k_is
    case l46 => k_is
    case c46 => k_is
    case k46 => k_is
    case a47 => k_is
    case l47 => k_is
    case c47 => k_is
    case k47 => k_is
    case a48 => k_is
    case l48 => k_is
    case c48 => k_is
    case k48 => k_is
    case a49 => k_is
    case l49 => k_is
    case c49 => k_is
    case k49 => k_is
    case a50 => k_is
    case l50 => k_is
    case c50 => k_is
    case k50 => k_is
    case a51 => k_is
    case l51 => k_is
    case c51 => k_is
    case k51 => k_is
    case a52 => k_is
    case l52 => k_is
    case c52 => k_is
    case k52 => k_is
    case a53 => k_is
    case l53 => k_is
    case c53 => k_is
    case k53 => k_is
    case a54 => k_is
    case l54 => k_is
    case c54 => k_is
    case k54 => k_is
    case a55 => k_is
    case l55 => k_is
    case c55 => k_is
    case k55 => k_is
    case a56 => k_is
    case l56 => k_is
    case c56 => k_is
    case k56 => k_is
    case a57 => k_is
    case l57 => k_is
    case c57 => k_is
    case k57 => k_is
    case a58 => k_is
    case l58 => k_is
    case c58 => k_is
    case k58 => k_is
    case a59 => k_is
    case l59 => k_is
    case c59 => k_is
    case k59 => k_is
    case a60 => k_is
    case l60 => k_is
    case c60 => k_is
    case k60 => k_is
    case a61 => k_is
    case l61 => k_is
    case c61 => k_is
    case k61 => k_is
    case a62 => k_is
    case l62 => k_is
    case c62 => k_is
    case k62 => k_is
    case a63 => k_is
    case l63 => k_is
    case c63 => k_is
    case k63 => k_is
    case a64 => k_is
    case l64 => k_is
    case c64 => k_is
    case k64 => k_is
    case a65 => k_is
    case l65 => k_is
    case c65 => k_is
    case k65 => k_is
    case tf_Watcher_len => k_is
    case pg_Watcher => k_is
    case hd_Watcher => k_is
    case po_Watcher => k_is
    case sa_Watcher => k_is
    case mk_Watcher => k_is
    case kc_Watcher => k_is
    case nf_Watcherwords => k_is
    case nf_Watcher_verdicts => k_is
    case nf_Watcher_held => k_is
    case nf_Watcher_rules => k_is
    case eaC0 => k_is
    case exL0 => k_is
    case esa0 => k_is
    case ega0 => k_is
    case egg0 => k_is
    case enb0 => k_is
    case ea10 => k_is
    case et10 => k_is
    case el10 => k_is
    case ec10 => k_is
    case ekC0 => k_is
    case eeC0 => k_is
    case etC0 => k_is
    case ehC0 => k_is
    case eiC0 => k_is
    case esC0 => first | rfl | k_is
    case eaC1 => k_is
    case exL1 => k_is
    case esa1 => k_is
    case ega1 => k_is
    case egg1 => k_is
    case enb1 => k_is
    case ea11 => k_is
    case et11 => k_is
    case el11 => k_is
    case ec11 => k_is
    case ekC1 => k_is
    case eeC1 => k_is
    case etC1 => k_is
    case ehC1 => k_is
    case eiC1 => k_is
    case esC1 => first | rfl | k_is
    case eaC2 => k_is
    case exL2 => k_is
    case esa2 => k_is
    case ega2 => k_is
    case egg2 => k_is
    case enb2 => k_is
    case ea12 => k_is
    case et12 => k_is
    case el12 => k_is
    case ec12 => k_is
    case ekC2 => k_is
    case eeC2 => k_is
    case etC2 => k_is
    case ehC2 => k_is
    case eiC2 => k_is
    case esC2 => first | rfl | k_is
    case eaC3 => k_is
    case exL3 => k_is
    case esa3 => k_is
    case ega3 => k_is
    case egg3 => k_is
    case enb3 => k_is
    case ea13 => k_is
    case et13 => k_is
    case el13 => k_is
    case ec13 => k_is
    case ekC3 => k_is
    case eeC3 => k_is
    case etC3 => k_is
    case ehC3 => k_is
    case eiC3 => k_is
    case esC3 => first | rfl | k_is
    case eaC4 => k_is
    case exL4 => k_is
    case esa4 => k_is
    case ega4 => k_is
    case egg4 => k_is
    case enb4 => k_is
    case ea14 => k_is
    case et14 => k_is
    case el14 => k_is
    case ec14 => k_is
    case ekC4 => k_is
    case eeC4 => k_is
    case etC4 => k_is
    case ehC4 => k_is
    case eiC4 => k_is
    case esC4 => first | rfl | k_is
    case eaC5 => k_is
    case exL5 => k_is
    case esa5 => k_is
    case ega5 => k_is
    case egg5 => k_is
    case enb5 => k_is
    case ea15 => k_is
    case et15 => k_is
    case el15 => k_is
    case ec15 => k_is
    case ekC5 => k_is
    case eeC5 => k_is
    case etC5 => k_is
    case ehC5 => k_is
    case eiC5 => k_is
    case esC5 => first | rfl | k_is
    case eaC6 => k_is
    case exL6 => k_is
    case esa6 => k_is
    case ega6 => k_is
    case egg6 => k_is
    case enb6 => k_is
    case ea16 => k_is
    case et16 => k_is
    case el16 => k_is
    case ec16 => k_is
    case ekC6 => k_is
    case eeC6 => k_is
    case etC6 => k_is
    case ehC6 => k_is
    case eiC6 => k_is
    case esC6 => first | rfl | k_is
    case ka_MOST_WORDS => k_is
    case ka_MOST_STATES => k_is
    case ka_MOST_HELD => k_is
    case ka_MOST_VERDICT => k_is
    case ka_NEW => k_is
    case ka_VALUE => k_is
    case ka_BOTH => k_is
    case ka_FIRST => k_is
    case ka_SECOND => k_is
    case ka_ALIKE => k_is
    case ka_TOGETHER => k_is
    case ka_UNNEEDED => k_is
    case ka_NEVER => k_is
    case ka_LEAST => k_is
    case ka_SHOWN => k_is
    case ka_BROKEN => k_is
    case z0 => k_is
    case z1 => k_is
    case z2 => k_is
    case z3 => k_is
    case z4 => k_is
    case z5 => k_is
    case z6 => k_is
    case z7 => k_is
    case z8 => k_is
    case z9 => k_is
    case z10 => k_is
    case z11 => k_is
    case z12 => k_is
