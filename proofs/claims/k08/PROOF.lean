import PyProof.Rows.All
import Wide.All
import OpenK.AllK
import Wide.FinOn
import HandS.ForMost
import HandS.ExcOwn
import HandS.EndBits
import HandS.Codes
import HandS.Wide
import HandS.TupAny
import HandS.ForExc
import HandS.IsInst
import HandS.Strs
import HandS.SetKeys
import HandS.TupMul
import HandS.TryMany
import HandS.DictComp
import HandS.Conv
import HandS.SortKw
import KE.KExcInit
import KE.SortKeyHeap
import KE.KDictSum
import PyProof.NeData
import PyProof.EqKinds
import OpenK.KMake
import HandS.TupLen
import HandS.Walk
import HandS.Iter
import KE.KDictDisplayH
import HandS.HotCalls
import HandS.ExcCtx
import KE.KDictWalk
import PySem.Challenge.RW_seenbefore_k08_sources_of_rules
set_option Elab.async false
set_option linter.all false
set_option maxRecDepth 100000
set_option maxHeartbeats 4000000

/-! Promises of defs where no repr is under way (guards = []): so the repr of made data is known to the sign. -/
namespace Sb
open PySem PySem.Spec PyProof.Rows L2
/-- as FnOk, for calls around which no repr is under way -/
structure FnG (P : Program) (w : World) (K : PySem.W.Frag) (mg : Str → Option Value) (base : Heap) (CX : CXT) (k : Nat) (f : Addr)
    (fd : FuncData) (ps : List Str) (sp : Sp) : Prop where
  len : ∀ vs H Q E, sp vs H Q E → vs.length = ps.length
  run : ∀ (A : Around) (outer : List Env) (s : Shared) (H : Hp) (args : Args) (us : List Value) (vs : List V) (Q : VK) (E : XK),
    A.guards = some [] → Room k A → Env0 P w K mg base A outer s H → BindsTo s fd args (ps.zip us) → Vals vs us → sp vs H Q E →
    codeAny (model P w) A (.call (.ref f) args) (CR CX outer P w H s Q E) s
section
variable {P : Program} {w : World} {K : PySem.W.Frag} {mg : Str → Option Value} {base : Heap} {CX : CXT} {k : Nat} {f : Addr}
theorem FnG.mono {j : Nat} {fd : FuncData} {ps : List Str} {sp : Sp} (F : FnG P w K mg base CX j f fd ps sp) (h : j ≤ k) : FnG P w K mg base CX k f fd ps sp :=
  { len := F.len, run := fun A o s H a us vs Q E g r => F.run A o s H a us vs Q E g (r.mono h) }
theorem FnG.imp {fd : FuncData} {ps : List Str} {sp sp' : Sp} (F : FnG P w K mg base CX k f fd ps sp) (h : ∀ vs H Q E, sp' vs H Q E → sp vs H Q E) :
    FnG P w K mg base CX k f fd ps sp' :=
  { len := fun vs H Q E z => F.len vs H Q E (h _ _ _ _ z), run := fun A o s H a us vs Q E g r e b v z => F.run A o s H a us vs Q E g r e b v (h _ _ _ _ z) }
theorem FnG.of {fd : FuncData} {ps : List Str} {sp : Sp} (F : FnOk P w K mg base CX k f fd ps sp) : FnG P w K mg base CX k f fd ps sp :=
  { len := F.len, run := fun A o s H a us vs Q E _ r => F.run A o s H a us vs Q E r }
/-- from a body to its def -/
theorem fnG_body {name qual : Str} {params : Arguments} {body : List Stmt} {sc : Scope} {dV kV doc pm cdv ct oc : Value} {an od : Option Addr} {osl : Array (Option Value)} {N ps : List Str} {sp : Sp}
    (lk : K.lookup f = some ⟨oc, od, .func (PySem.W.fnOf name qual params body sc dV kV doc pm an cdv ct), osl⟩) (hcd : PySem.W.codeIn K cdv qual = true) (S : FnScope N ps sc)
    (len : ∀ vs H Q E, sp vs H Q E → vs.length = ps.length)
    (walk : ∀ (A : Around) (outer : List Env) (s : Shared) (H : Hp) (vs : List V) (Q : VK) (E : XK), A.guards = some [] →
      Room k (A.deeper (envOfC qual sc s.heap.objs.size f cdv)) → sp vs H Q E →
      ∃ t, PSs (cxOf CX P w K mg base N qual sc f cdv A outer s H E) body t ∧ t { nx := fun _ H' => Q .non H', rt := Q } (start N vs) H) :
    FnG P w K mg base CX (k + 1) f (PySem.W.fnOf name qual params body sc dV kV doc pm an cdv ct) ps sp := by
  constructor
  · exact len
  intro A outer s H args us vs Q E gd room e0 bd rv want
  have inK : K.In s.heap := e0.mod.kin.keeps fun b o q => (e0.bs b o q).1
  have noLim : s.heap.NoLimit := e0.mod.nolimit.keeps fun b o q => (e0.bs b o q).1
  have kinds : ∀ y ∈ ps.zip us, sc.names.lookup y.1 = some .local ∨
      (sc.names.lookup y.1 = some .cell ∧ ((cellsFrom (s.heap.objs.size + 1) sc.names []).lookup y.1).isSome = true) := by
    rintro ⟨n, v⟩ hy
    cases S.par n (List.of_mem_zip hy).1 with
    | inl q => exact Or.inl q
    | inr q => exact Or.inr ⟨q, PySem.W.cellsFrom_some _ _ _ (Or.inl q)⟩
  apply codeAny_call_function room.depth (inK _ _ lk) rfl S.co S.gen rfl (PySem.W.codeRec_of inK hcd)
  apply bd
  apply wpAny_newFunctionEnv_cells S.kind kinds
  intro env he s1 x
  subst he
  refine ⟨noLim.keeps x.toInCall.keep, ?_⟩
  apply codeAny_func
  obtain ⟨t, ht, hq⟩ := walk A outer s H vs Q E gd (room.deeper _) want
  have I := inv_start (CX := CX) (E := E) S room.hd e0 (len _ _ _ _ want) rv x
  refine wpAny_mono (ht.run [] s1 (start N vs) H _ I hq) (fun fl s' hs => ?_) (fun _ _ hs => hs)
  match fl, hs with
  | .ret u, ⟨v, σ', H', J, r', q⟩ => exact ⟨v, H', J.os, J.bare, J.base, J.hok, r', q⟩
  | .next, ⟨σ', H', J, q⟩ => exact ⟨V.non, H', J.os, J.bare, J.base, J.hok, rfl, q⟩
  | .brk, ⟨_, _, _, q⟩ => exact q.elim
  | .cont, ⟨_, _, _, q⟩ => exact q.elim
/-- a def of the text; its walk may use that no repr is under way -/
theorem okG {x qual : Str} {st : Stmt} {fd : FuncData} {N ps : List Str} {sp : Sp} (F : Fun K x qual st f fd) (S : FnScope N ps (defScope st)) (len : ∀ vs H Q E, sp vs H Q E → vs.length = ps.length)
    (walk : ∀ (cdv : Value) (A : Around) (outer : List Env) (s : Shared) (H : Hp) (vs : List V) (Q : VK) (E : XK), A.guards = some [] →
      Room k (A.deeper (envOfC qual (defScope st) s.heap.objs.size f cdv)) → sp vs H Q E →
      ∃ t, PSs (cxOf CX0 P w K mg base N qual (defScope st) f cdv A outer s H E).nox (defBody st) t ∧ t { nx := fun _ H' => Q .non H', rt := Q } (start N vs) H) :
    FnG P w K mg base CX0 (k + 1) f fd ps sp := by
  obtain ⟨oc, od, kV, doc, pm, an, cdv, ct, osl, e, lk, hcd⟩ := F.ex
  subst e
  apply fnG_body lk hcd S len
  intro A outer s H vs Q E gd room want
  obtain ⟨t, h, q⟩ := walk cdv A outer s H vs Q E gd room want
  exact ⟨t, h.nox, q⟩
/-- the same for a def that may raise -/
theorem okGX {x qual : Str} {st : Stmt} {fd : FuncData} {N ps : List Str} {sp : Sp} (F : Fun K x qual st f fd) (S : FnScope N ps (defScope st)) (len : ∀ vs H Q E, sp vs H Q E → vs.length = ps.length)
    (walk : ∀ (cdv : Value) (A : Around) (outer : List Env) (s : Shared) (H : Hp) (vs : List V) (Q : VK) (E : XK), A.guards = some [] →
      Room k (A.deeper (envOfC qual (defScope st) s.heap.objs.size f cdv)) → sp vs H Q E →
      ∃ t, PSs (cxOf (L2.CX P w) P w K mg base N qual (defScope st) f cdv A outer s H E) (defBody st) t ∧ t { nx := fun _ H' => Q .non H', rt := Q } (start N vs) H) :
    FnG P w K mg base (L2.CX P w) (k + 1) f fd ps sp := by
  obtain ⟨oc, od, kV, doc, pm, an, cdv, ct, osl, e, lk, hcd⟩ := F.ex
  subst e
  exact fnG_body lk hcd S len fun A outer s H vs Q E gd room want => walk cdv A outer s H vs Q E gd room want
end

section
variable {X : Cx} {CX : CXT} {k : Nat} {f C : Addr} {fd : FuncData} {ps : List Str} {sp : Sp} {dvs : List V} {ds : List Value} {x m : Str} {p pos apos : Pos} {e o : Expr} {es : List Expr} {ta : TE} {t : TA}
/-- the callee runs; E hangs on the slots -/
theorem runG {pins : List (Addr × Obj)} {σ : L2.St} {H : Hp} {s : Shared} {Q : VK} {E : XK} {us : List Value} {vs : List V} (F : FnG X.prog X.w X.K X.mg X.base CX k f fd ps sp) (gd : X.A.guards = some []) (hr : Room k X.A)
    (hb : Binds X.K fd ps ds) (hd : Vals dvs ds) (hx : ∀ (e : Value) (s' : Shared), CX X.stack H s E e s' → X.xe e s') (I : Inv X pins σ H s) (r : Vals vs us) (h : sp (vs ++ dvs) H Q E) :
    wpAny (model X.prog X.w) X.A (call (.ref f) us) (EP X pins σ Q) X.xe s := by
  have rr := r.append hd
  have nl : (us ++ ds).length = ps.length := rr.length ▸ F.len _ _ _ _ h
  apply wpAny_call
  refine codeAny_mono (F.run X.A X.stack s H ⟨us, []⟩ _ _ Q E gd hr I.env0 (hb s us I.kIn nl) rr h) ?_
  intro res s' hres
  match res, hres with
  | .error er, z => exact hx er s' z
  | .ok (.ret u), z => exact I.after z
  | .ok .next, z => exact z.elim
  | .ok .brk, z => exact z.elim
  | .ok .cont, z => exact z.elim
/-- f(e, ..) -/
theorem pe_callG {E : XK} (F : FnG X.prog X.w X.K X.mg X.base CX k f fd ps sp) (gd : X.A.guards = some []) (hr : Room k X.A) (hg : Gl X x) (hm : X.mg x = some (.ref f)) (hk : PySem.W.keepIn X.K (.ref f) = true)
    (hb : Binds X.K fd ps ds) (hd : Vals dvs ds) (hx : Passes CX X E) (ha : PA X (e :: es) t) (hdb : (x == ("__debug__" : Str)) = false := by decide)
    (he : starEach (e :: es) X.env = (false, eval e X.env) :: starEach es X.env := by rfl)
    (hpl : (backTo pos (starEach es X.env)).any (·.1) = false := by rfl) : PE X (.Call (.Name x p) (e :: es) [] pos) (tCall sp dvs E t) := by
  constructor
  intro pins s σ H Q I h
  apply wpAny_Call_Name_kw
  apply ld_glob I hg hm _ hdb
  apply PySem.W.callWith_K (h₀ := X.base) I.ok.mod.kin hk _ he hpl
  refine thn (ha.run pos pins s σ H _ I h) ?_
  rintro us s1 ⟨vs, H1, I1, r, q⟩
  exact ⟨I1.kIn, runG F gd hr hb hd (fun er s' z => hx pins σ H1 s1 er s' I1 z) I1 r q⟩
/-- f(e, ..), what is raised wished for at the slots -/
theorem pe_callGS {E : L2.St → XK} (F : FnG X.prog X.w X.K X.mg X.base CX k f fd ps sp) (gd : X.A.guards = some []) (hr : Room k X.A) (hg : Gl X x) (hm : X.mg x = some (.ref f)) (hk : PySem.W.keepIn X.K (.ref f) = true)
    (hb : Binds X.K fd ps []) (hx : ∀ σ, PassesAt CX X σ (E σ)) (ha : PA X (e :: es) t) (hdb : (x == ("__debug__" : Str)) = false := by decide)
    (he : starEach (e :: es) X.env = (false, eval e X.env) :: starEach es X.env := by rfl)
    (hpl : (backTo pos (starEach es X.env)).any (·.1) = false := by rfl) : PE X (.Call (.Name x p) (e :: es) [] pos) (tCallS sp E t) := by
  constructor
  intro pins s σ H Q I h
  apply wpAny_Call_Name_kw
  apply ld_glob I hg hm _ hdb
  apply PySem.W.callWith_K (h₀ := X.base) I.ok.mod.kin hk _ he hpl
  refine thn (ha.run pos pins s σ H _ I h) ?_
  rintro us s1 ⟨vs, H1, I1, r, q⟩
  have q' : sp (vs ++ []) H1 Q (E σ) := by rw [List.append_nil]; exact q
  exact ⟨I1.kIn, runG F gd hr hb .nil (fun er s' z => hx σ pins H1 s1 er s' I1 z) I1 r q'⟩
/-- repr of data -/
theorem call_reprD (gd : X.A.guards = some []) (hu : X.A.units + 64 < cLine) : CallR X (.builtin "repr") (fun xs H Q => ∃ v d, xs = [v] ∧ Dp X.K H v d ∧ d.showable = true ∧ d.hasDict = false ∧ d.depth ≤ 60 ∧ d.shown.length ≤ sizeLine ∧ Q (.str d.shown) H) := by
  rintro pins s σ H xs us Q I r ⟨v, d, rfl, hd, hs, hnd, hdp, hz, q⟩
  obtain ⟨u, rfl, ru⟩ := vals1 r
  obtain ⟨as, rd⟩ := Dp.reads I d v u hd ru
  cases v with
  | ref a =>
    obtain rfl : u = Value.ref a := ru
    refine repr_of_reads' rd hs (PyData.noDict_hsm hnd) gd (by omega) (fun _ _ z => z) (fun h' u' tk hk => ?_) hz
    exact ⟨.str d.shown, H, I.kept (fun b o z => hk b o z), ⟨_, rfl⟩, q⟩
  | non =>
    cases hd
    obtain rfl : u = Value.none := ru
    exact PySem.P.repr_of_none ⟨.str _, H, I.tok _, ⟨_, rfl⟩, q⟩
  | bl b =>
    cases hd
    obtain rfl : u = Value.bool b := ru
    exact PySem.P.repr_of_bool ⟨.str _, H, I.tok _, ⟨_, rfl⟩, q⟩
  | int i =>
    cases hd
    obtain ⟨tk, rfl⟩ := ru
    have hi : i.natAbs.log2 < 1920 := by simpa [PyData.showable] using hs
    exact PySem.P.repr_of_int hi ⟨.str _, H, I.tok _, ⟨_, rfl⟩, q⟩
  | str z =>
    cases hd
    obtain ⟨tk, rfl⟩ := ru
    exact PySem.P.repr_of_str (hsz := by simpa only [PyData.shown] using hz) ⟨.str _, H, I.tok _, ⟨_, rfl⟩, q⟩
  | byt b => cases hd
  | flt b => cases hd
  | ty n => cases hd
end
end Sb

namespace Sb
open PySem PySem.Spec PyProof.Rows L2
section
variable {P : Program} {w : World} {K : PySem.W.Frag} {mg mb : Str → Option Value} {k : Nat} {fa a : Addr} {fd : FuncData} {x : Str} {sp : Sp} {s1 : Shared} {vs : List Value} {ns : List Int}
/-- what the row asks of the law's call -/
abbrev Done (P : Program) (w : World) (fa a : Addr) (s1 : Shared) : Prop := codeAny (model P w) callerA (.call (.ref fa) ⟨[.ref a], []⟩)
  (fun r s' => r = .ok (.ret (.bool true)) ∧ OldK s1.heap s'.heap ∧ s'.os = s1.os ∧ AllBare s'.gens) s1
/-- the law's call over an abstract heap that tracks the script at most -/
theorem overH {H : Hp} (KX : K.In s1.heap) (hns : s1.heap.Ns mainGlobals mg) (hb : s1.heap.Ns builtinsNs mb) (hbb : ∀ x : Str, x ≠ "__name__" → mb x = bootBuiltins x) (hlim : s1.heap.NoLimit) (hg : s1.gens = #[])
    (ha : s1.heap.get? a = some { cls := .type "list", data := .seq vs.toArray }) (hr : Room k callerA)
    (F : ∀ base : Heap, K.In base → base.Ns mainGlobals mg → FnG P w K mg base CX0 k fa fd [x] sp) (bd : ∀ (s : Shared) (u : Value), BindsTo s fd ⟨[u], []⟩ [(x, u)])
    (hO : Only H) (ok : HOk P w H s1.heap) (onlyA : ∀ b, H b ≠ none → b = a) (notK : H a ≠ none → K.lookup a = none)
    (want : sp [.ref a] H (fun v _ => v = .bl true) fun _ _ _ => False) : Done P w fa a s1 := by
  have free : ∀ {b : Addr} {o : Obj}, s1.heap.get? b = some o → (b = a → H b = none) → H b = none := by
    intro b o _ z
    cases q : H b with
    | none => rfl
    | some u =>
      have e : b = a := onlyA b (by simp [q])
      rw [z e] at q
      cases q
  have dict : ∀ {b : Addr} {o : Obj} {es : Array DictEntry} {ep : Nat}, s1.heap.get? b = some o → o.data = .dict es ep → H b = none := by
    intro b o es ep e d
    apply free e
    intro z
    subst z
    rw [ha] at e
    cases e
    cases (show Data.seq vs.toArray _ = Data.dict es ep from d)
  have spaces : ∀ {b : Addr} {m : Str → Option Value}, s1.heap.Ns b m → (hidT s1.heap H).Ns b m := by
    rintro b m ⟨o, es, ep, e, d, r⟩
    exact ⟨o, es, ep, hidT_get e (dict e d), d, r⟩
  have inB : K.In (hidT s1.heap H) := by
    intro b o e
    refine hidT_get (KX b o e) (free (KX b o e) fun z => ?_)
    subst z
    cases q : H b with
    | none => rfl
    | some u =>
      rw [notK (by simp [q])] at e
      cases e
  obtain ⟨mc, c1, c2⟩ := hlim
  have md : Mod K mg (hidT s1.heap H) := ⟨inB, spaces hns, ⟨mb, spaces hb, hbb⟩, ⟨mc, spaces c1, c2⟩⟩
  have e0 : Env0 P w K mg (hidT s1.heap H) callerA [] s1 H :=
    { frames := rfl, mod := md, bs := fun b o e => of_hidT e, bsz := Nat.le_of_eq (hidT_size _ _), funs := trivial, frf := (fun b z => (by cases z)), hok := ok, bare := .of_eq hg }
  have run := (F _ inB (spaces hns)).run callerA [] s1 H ⟨[.ref a], []⟩ [.ref a] [.ref a] _ _ rfl hr e0 (bd s1 (.ref a)) (.cons rfl .nil) want
  refine codeAny_mono run ?_
  intro r s' z
  match r, z with
  | .error e, z =>
    exact False.elim z
  | .ok .next, z => exact False.elim z
  | .ok .brk, z => exact False.elim z
  | .ok .cont, z => exact False.elim z
  | .ok (.ret u), ⟨v, H', os, bare, un, ok', rel, q⟩ =>
    subst q
    obtain rfl : u = Value.bool true := rel
    refine ⟨rfl, OldK.of_keep ?_, os, bare⟩
    intro b o e
    cases q : H b with
    | none => exact un.keep b o e q (fun z => by cases z) (fun z => by cases z)
    | some u =>
      cases hO b with
      | inl z =>
        rw [q] at z
        cases z
      | inr z =>
        obtain ⟨ob, xs, z⟩ := z
        have e1 := (ok b _ z).1
        have e2 := (ok' b _ (un.frzs b ob _ z)).1
        rw [e] at e1
        cases e1
        exact e2
/-- the law's call -/
theorem law_callG (KX : K.In s1.heap) (hns : s1.heap.Ns mainGlobals mg) (hb : s1.heap.Ns builtinsNs mb) (hbb : ∀ x : Str, x ≠ "__name__" → mb x = bootBuiltins x) (hlim : s1.heap.NoLimit) (hg : s1.gens = #[])
    (ha : s1.heap.get? a = some { cls := .type "list", data := .seq vs.toArray }) (hi : IntsAre vs ns) (hl : ns.length ≤ sizeLine) (hr : Room k callerA)
    (F : ∀ base : Heap, K.In base → base.Ns mainGlobals mg → FnG P w K mg base CX0 k fa fd [x] sp) (bd : ∀ (s : Shared) (u : Value), BindsTo s fd ⟨[u], []⟩ [(x, u)])
    (want : ∀ H : Hp, Only H → SqL K H a (ns.map V.int) → sp [.ref a] H (fun v _ => v = .bl true) fun _ _ _ => False) : Done P w fa a s1 := by
  have rv := vals_ints hi
  have nv := hi.length
  by_cases hk : K.lookup a = none
  · let H : Hp := fun b => if b = a then some (.frz { cls := .type "list", data := .seq vs.toArray } (.lst (ns.map V.int))) else none
    have at_a : H a = some (.frz { cls := .type "list", data := .seq vs.toArray } (.lst (ns.map V.int))) := if_pos rfl
    have off : ∀ b, b ≠ a → H b = none := fun b z => if_neg z
    have hO : Only H := by
      intro b
      by_cases e : b = a
      · subst e
        exact Or.inr ⟨_, _, at_a⟩
      · exact Or.inl (off b e)
    refine overH (H := H) KX hns hb hbb hlim hg ha hr F bd hO ?_ ?_ (fun _ => hk) (want H hO (Or.inl (Or.inr ⟨_, at_a⟩)))
    · intro b u z
      by_cases e : b = a
      · subst e
        rw [at_a] at z
        cases z
        exact ⟨ha, by rw [List.length_map]; exact hl, vs, _, rv, ha⟩
      · rw [off b e] at z
        cases z
    · intro b z
      by_cases e : b = a
      · exact e
      · exact absurd (off b e) z
  · cases q : K.lookup a with
    | none => exact absurd q hk
    | some o =>
      have e := KX a o q
      rw [ha] at e
      cases e
      have hO : Only fun _ => none := fun _ => Or.inl rfl
      refine overH (H := fun _ => none) KX hns hb hbb hlim hg ha hr F bd hO (fun b u z => by cases z) (fun b z => absurd rfl z) (fun z => absurd rfl z) (want _ hO (Or.inr ?_))
      exact ⟨_, vs.toArray, _, q, rfl, rfl, rfl, by rw [List.size_toArray, nv]; exact hl, by simpa using rv⟩
end
/-- the row's end, from the law's promise -/
theorem walk_ofG {l : PySem.W.OpenLaw} {n k : Nat} {q : Program} {loose : List Str} {XP : (Str → Option Value) → Heap → Prop} {YP : World → Heap → Prop} {d : DefRec} {K : Params → PySem.W.Frag} {sp : PySem.W.Frag → Sp} {x : Str}
    (hn : l.most = some n) (hn2 : n ≤ sizeLine) (hdf : d.params.defaults = []) (hr : Room k callerA) (hY : ∀ (w : World) (h : Heap), YP w h → (K w.params).In h)
    (F : ∀ (w : World) (mg : Str → Option Value) (fa : Addr) (h : Heap), (K w.params).In h → h.Ns mainGlobals mg → mg d.name = some (.ref fa) →
      ∃ fd : FuncData, (∀ (s : Shared) (u : Value), BindsTo s fd ⟨[u], []⟩ [(x, u)]) ∧
        ∀ base : Heap, (K w.params).In base → base.Ns mainGlobals mg → FnG l.prog w (K w.params) mg base CX0 k fa fd [x] (sp (K w.params)))
    (want : ∀ (K : PySem.W.Frag) (H : Hp) (a : Addr) (ns : List Int), ns.length ≤ n → (∀ z ∈ ns, Builtin.Int.intBits z ≤ 1048576) → Only H → SqL K H a (ns.map V.int) →
      sp K [.ref a] H (fun v _ => v = .bl true) fun _ _ _ => False) : PySem.W.WalkO q loose XP YP l.row.toRowW d [] (fun f vs => PySem.call f vs) := by
  apply Att.attach_callB hn hdf
  intro w s0 s1 mg mb fa o pm cd doc a vs ns G Y ho hd hcd hmg hobj hints hlen hbits hg
  obtain ⟨fd, bd, hF⟩ := F w mg fa _ (hY w _ Y) G.T.g hmg
  exact law_callG (hY w _ Y) G.T.g G.T.b G.T.builtins G.T.nolimit hg hobj hints (Nat.le_trans hlen hn2) hr hF bd (fun H hO hS => want _ H a ns hlen hbits hO hS)
end Sb

/-! Data that is small enough to be shown and compared. -/
namespace Sb
open PySem PySem.Spec PyProof.Rows L2
structure Nice (n m : Nat) (d : PyData) : Prop where
  lay : d.canLay0 = true
  dep : d.depth ≤ n
  sho : d.showable = true
  nod : d.hasDict = false
  len : d.shown.length ≤ m
theorem Nice.mono {n m n' m' : Nat} {d : PyData} (h : Nice n m d) (hn : n ≤ n') (hm : m ≤ m') : Nice n' m' d :=
  { h with dep := Nat.le_trans h.dep hn, len := Nat.le_trans h.len hm }
theorem Nice.shaped {n m : Nat} {d : PyData} (h : Nice n m d) (hn : n ≤ 64) : SeqAt.shaped d = true := by
  unfold SeqAt.shaped
  rw [h.lay, decide_eq_true (Nat.le_trans h.dep hn)]
  rfl
theorem log_small {i : Int} (h : i.natAbs < 10 ^ 99) : i.natAbs.log2 < 400 :=
  PySem.Flt.log2_lt_of (by decide) (Nat.lt_of_lt_of_le h (by decide +kernel))
theorem Nice.int {i : Int} (h : i.natAbs < 10 ^ 99) : Nice 0 100 (.int i) := by
  refine ⟨rfl, Nat.le_refl _, ?_, rfl, ?_⟩
  · have := log_small h
    simp only [PyData.showable, decide_eq_true_eq]
    omega
  · have e := int_text_length_le10 (k := 99) (by decide) h
    show (Str.ofString (toString i)).length ≤ 100
    rw [PySem.ofString_length]
    exact e
theorem Nice.bool (b : Bool) : Nice 0 5 (.bool b) := by
  refine ⟨rfl, Nat.le_refl _, rfl, rfl, ?_⟩
  cases b <;> decide
theorem Nice.none : Nice 0 4 .none := ⟨rfl, Nat.le_refl _, rfl, rfl, by decide⟩
theorem niceAll {n m : Nat} : ∀ {ds : List PyData}, (∀ d ∈ ds, Nice n m d) → PyData.canLayAll0 ds = true ∧ PyData.depthAll ds ≤ n ∧ PyData.showableAll ds = true ∧ PyData.hasDictAll ds = false ∧
    ((PyData.shownAll ds).map (·.length)).sum ≤ ds.length * m ∧ (PyData.shownAll ds).length = ds.length
  | [], _ => ⟨rfl, Nat.zero_le _, rfl, rfl, by simp [PyData.shownAll], rfl⟩
  | d :: ds, h => by
    have hd := h d List.mem_cons_self
    obtain ⟨a, b, c, e, f, g⟩ := niceAll (ds := ds) fun x hx => h x (List.mem_cons_of_mem _ hx)
    refine ⟨?_, ?_, ?_, ?_, ?_, ?_⟩
    · simp only [PyData.canLayAll0, hd.lay, a, Bool.and_self]
    · simp only [PyData.depthAll]
      exact Nat.max_le.mpr ⟨hd.dep, b⟩
    · simp only [PyData.showableAll, hd.sho, c, Bool.and_self]
    · simp only [PyData.hasDictAll, hd.nod, e, Bool.or_self]
    · simp only [PyData.shownAll, List.map_cons, List.sum_cons, List.length_cons]
      have := hd.len
      rw [Nat.succ_mul]
      omega
    · simp only [PyData.shownAll, List.length_cons, g]
theorem Nice.tuple {n m k : Nat} {ds : List PyData} (h : ∀ d ∈ ds, Nice n m d) (hk : ds.length ≤ k) : Nice (n + 1) (k * m + 2 * k + 3) (.tuple ds) := by
  obtain ⟨a, b, c, e, f, g⟩ := niceAll h
  refine ⟨a, by simp only [PyData.depth]; omega, c, e, ?_⟩
  have l := tupleText_len_le (PyData.shownAll ds)
  simp only [PyData.shown]
  rw [g] at l
  have l2 : ds.length * m ≤ k * m := Nat.mul_le_mul_right _ hk
  omega
theorem Nice.list {n m k : Nat} {ds : List PyData} (h : ∀ d ∈ ds, Nice n m d) (hk : ds.length ≤ k) : Nice (n + 1) (k * m + 2 * k + 3) (.list ds) := by
  obtain ⟨a, b, c, e, f, g⟩ := niceAll h
  refine ⟨a, by simp only [PyData.depth]; omega, c, e, ?_⟩
  have l := listText_len_le (PyData.shownAll ds)
  simp only [PyData.shown]
  rw [g] at l
  have l2 : ds.length * m ≤ k * m := Nat.mul_le_mul_right _ hk
  omega
theorem shaped_ints (l : List Int) : SeqAt.shaped (.list (l.map PyData.int)) = true := by
  unfold SeqAt.shaped
  have h : PyData.canLayAll0 (l.map PyData.int) = true ∧ PyData.depthAll (l.map PyData.int) = 0 := by
    induction l with
    | nil => exact ⟨rfl, rfl⟩
    | cons x r ih => exact ⟨by simp only [List.map_cons, PyData.canLayAll0, PyData.canLay0, ih.1, Bool.and_self], by simp only [List.map_cons, PyData.depthAll, PyData.depth, ih.2, Nat.max_self]⟩
  simp only [PyData.canLay0, PyData.depth, h.1, h.2, Bool.true_and, decide_eq_true_eq]
  decide
theorem dp_ints (K : PySem.W.Frag) (H : Hp) : ∀ l : List Int, DpAll K H (l.map V.int) (l.map PyData.int)
  | [] => .nil
  | x :: r => .cons (.int x) (dp_ints K H r)
theorem eqv_ints : ∀ l m : List Int, PyData.eqvAll (l.map PyData.int) (m.map PyData.int) = decide (l = m)
  | [], [] => rfl
  | [], _ :: _ => rfl
  | _ :: _, [] => rfl
  | x :: r, y :: t => by
    simp only [List.map_cons, PyData.eqvAll, PyData.eqv, eqv_ints r t, List.cons.injEq]
    by_cases h : x = y <;> simp [h]
theorem div_wide {i j : Int} (h : 0 < j) (h2 : j < 2 ^ 100) : CDivW i j := wide_div (b := 100) h (by omega) (by decide) (by decide)
end Sb

/-! Data that never changes: scalars and tuples of them, at any depth. -/
namespace Sb
open PySem PySem.Spec PyProof.Rows L2
mutual
inductive TD (H : Hp) : V → PyData → Prop
  | non : TD H .non .none
  | bl (b : Bool) : TD H (.bl b) (.bool b)
  | int (i : Int) : TD H (.int i) (.int i)
  | str (x : Str) : TD H (.str x) (.str x)
  | tup {a : Addr} {xs : List V} {ds : List PyData} : H a = some (.tup xs) → TDs H xs ds → TD H (.ref a) (.tuple ds)
inductive TDs (H : Hp) : List V → List PyData → Prop
  | nil : TDs H [] []
  | cons {v : V} {vs : List V} {d : PyData} {ds : List PyData} : TD H v d → TDs H vs ds → TDs H (v :: vs) (d :: ds)
end
/-- tuples stay -/
def Tups (H H' : Hp) : Prop := ∀ a xs, H a = some (.tup xs) → H' a = some (.tup xs)
theorem Tups.refl {H : Hp} : Tups H H := fun _ _ h => h
theorem Tups.trans {H H1 H2 : Hp} (a : Tups H H1) (b : Tups H1 H2) : Tups H H2 := fun x y h => b x y (a x y h)
theorem Tups.same {H H' : Hp} (h : Same H H') : Tups H H' := fun a xs e => h a _ e
theorem Tups.new {H : Hp} {a : Addr} {o : HO} (h : H a = none) : Tups H (upd H a o) := fun b xs e => by
  rw [upd_ne (ne_of_none e h)]
  exact e
theorem Tups.put {H : Hp} {a : Addr} {o u : HO} (h : H a = some u) (hu : ∀ xs, u ≠ .tup xs) : Tups H (upd H a o) := fun b xs e => by
  rw [upd_ne (ne_of e h (hu xs).symm)]
  exact e
theorem Tups.lst {H : Hp} {a : Addr} {o : HO} {l : List V} (h : H a = some (.lst l)) : Tups H (upd H a o) := Tups.put h (fun _ z => by cases z)
mutual
theorem TD.mono {H H' : Hp} (t : Tups H H') : ∀ {v : V} (d : PyData), TD H v d → TD H' v d
  | _, .none, h => by cases h; exact .non
  | _, .bool b, h => by cases h; exact .bl b
  | _, .int i, h => by cases h; exact .int i
  | _, .str x, h => by cases h; exact .str x
  | _, .tuple ds, h => by
    cases h with
    | tup e r => exact .tup (t _ _ e) (TDs.mono t ds r)
  | _, .list _, h => by cases h
  | _, .dict _, h => by cases h
theorem TDs.mono {H H' : Hp} (t : Tups H H') : ∀ {vs : List V} (ds : List PyData), TDs H vs ds → TDs H' vs ds
  | _, [], h => by cases h; exact .nil
  | _, d :: ds, h => by
    cases h with
    | cons a r => exact .cons (TD.mono t d a) (TDs.mono t ds r)
end
mutual
theorem TD.dp {K : PySem.W.Frag} {H : Hp} : ∀ {v : V} (d : PyData), TD H v d → Dp K H v d
  | _, .none, h => by cases h; exact .non
  | _, .bool b, h => by cases h; exact .bl b
  | _, .int i, h => by cases h; exact .int i
  | _, .str x, h => by cases h; exact .str x
  | _, .tuple ds, h => by
    cases h with
    | tup e r => exact .tup (SqT.of e) (TDs.dp ds r)
  | _, .list _, h => by cases h
  | _, .dict _, h => by cases h
theorem TDs.dp {K : PySem.W.Frag} {H : Hp} : ∀ {vs : List V} (ds : List PyData), TDs H vs ds → DpAll K H vs ds
  | _, [], h => by cases h; exact .nil
  | _, d :: ds, h => by
    cases h with
    | cons a r => exact .cons (TD.dp d a) (TDs.dp ds r)
end
theorem TDs.length {H : Hp} : ∀ {vs : List V} {ds : List PyData}, TDs H vs ds → vs.length = ds.length
  | _, _, .nil => rfl
  | _, _, .cons _ r => congrArg (· + 1) r.length
theorem TDs.get {H : Hp} : ∀ {vs : List V} {ds : List PyData} {i : Nat} {v : V}, TDs H vs ds → vs[i]? = some v → ∃ d, ds[i]? = some d ∧ TD H v d
  | _, _, _, _, .nil, e => by simp at e
  | _, _, 0, _, .cons a _, e => by
    simp at e
    subst e
    exact ⟨_, rfl, a⟩
  | _, _, i + 1, v, .cons _ r, e => by
    obtain ⟨d, h1, h2⟩ := TDs.get (i := i) (v := v) r (by simpa using e)
    exact ⟨d, by simpa using h1, h2⟩
theorem TDs.at {H : Hp} : ∀ {vs : List V} {ds : List PyData} {i : Nat} {d : PyData}, TDs H vs ds → ds[i]? = some d → ∃ v, vs[i]? = some v ∧ TD H v d
  | _, _, _, _, .nil, e => by simp at e
  | _, _, 0, _, .cons a _, e => by
    simp at e
    subst e
    exact ⟨_, rfl, a⟩
  | _, _, i + 1, v, .cons _ r, e => by
    obtain ⟨d, h1, h2⟩ := TDs.at (i := i) (d := v) r (by simpa using e)
    exact ⟨d, by simpa using h1, h2⟩
theorem TDs.app {H : Hp} : ∀ {vs us : List V} {ds es : List PyData}, TDs H vs ds → TDs H us es → TDs H (vs ++ us) (ds ++ es)
  | _, _, _, _, .nil, s => s
  | _, _, _, _, .cons a r, s => .cons a (r.app s)
theorem TDs.take {H : Hp} : ∀ {vs : List V} {ds : List PyData} (n : Nat), TDs H vs ds → TDs H (vs.take n) (ds.take n)
  | _, _, 0, _ => .nil
  | _, _, _ + 1, .nil => .nil
  | _, _, n + 1, .cons a r => .cons a (r.take n)
theorem TDs.drop {H : Hp} : ∀ {vs : List V} {ds : List PyData} (n : Nat), TDs H vs ds → TDs H (vs.drop n) (ds.drop n)
  | _, _, 0, r => r
  | _, _, _ + 1, .nil => .nil
  | _, _, n + 1, .cons _ r => r.drop n
theorem TDs.ints {H : Hp} : ∀ {vs : List V} {ns : List Int}, TDs H vs (ns.map PyData.int) → vs = ns.map V.int
  | _, [], h => by cases h; rfl
  | _, n :: ns, h => by
    cases h with
    | cons a r =>
      cases a
      rw [List.map_cons, r.ints]
theorem TDs.ofInts {H : Hp} : ∀ {ns : List Int}, TDs H (ns.map V.int) (ns.map PyData.int)
  | [] => .nil
  | n :: ns => .cons (.int n) TDs.ofInts
/-- a tuple at v -/
theorem TD.isTup {H : Hp} {v : V} {ds : List PyData} (h : TD H v (.tuple ds)) : ∃ a xs, v = .ref a ∧ H a = some (.tup xs) ∧ TDs H xs ds := by
  cases h with
  | tup e r => exact ⟨_, _, rfl, e, r⟩
theorem TD.isInt {H : Hp} {v : V} {i : Int} (h : TD H v (.int i)) : v = .int i := by cases h; rfl
/-- a pair of ints -/
theorem TD.pair {H : Hp} {v : V} {i j : Int} (h : TD H v (.tuple [.int i, .int j])) : ∃ a, v = .ref a ∧ H a = some (.tup [.int i, .int j]) := by
  obtain ⟨a, xs, rfl, e, r⟩ := h.isTup
  cases r with
  | cons h1 r =>
    cases r with
    | cons h2 r =>
      cases r
      cases h1
      cases h2
      exact ⟨a, rfl, e⟩
theorem TD.ofPair {H : Hp} {a : Addr} {i j : Int} (h : H a = some (.tup [.int i, .int j])) : TD H (.ref a) (.tuple [.int i, .int j]) := .tup h (.cons (.int i) (.cons (.int j) .nil))

/-! ### streams -/
def msgD (m : Int × Int) : PyData := .tuple [.int m.1, .int m.2]
def strmD (ms : List (Int × Int)) : PyData := .tuple (ms.map msgD)
theorem msgD_inj {a b : Int × Int} (h : PyData.eqv (msgD a) (msgD b) = true) : a = b := by
  obtain ⟨a1, a2⟩ := a
  obtain ⟨b1, b2⟩ := b
  simp only [msgD, PyData.eqv, PyData.eqvAll, Bool.and_true, Bool.and_eq_true, beq_iff_eq] at h
  rw [h.1, h.2]
theorem eqv_msgs : ∀ a b : List (Int × Int), PyData.eqvAll (a.map msgD) (b.map msgD) = decide (a = b)
  | [], [] => rfl
  | [], _ :: _ => rfl
  | _ :: _, [] => rfl
  | x :: r, y :: t => by
    have ih := eqv_msgs r t
    by_cases h : x = y
    · subst h
      have e : PyData.eqv (msgD x) (msgD x) = true := by simp [msgD, PyData.eqv, PyData.eqvAll]
      simp only [List.map_cons, PyData.eqvAll, e, ih, Bool.true_and, List.cons.injEq, true_and]
    · have e : PyData.eqv (msgD x) (msgD y) = false := by
        cases q : PyData.eqv (msgD x) (msgD y) with
        | false => rfl
        | true => exact absurd (msgD_inj q) h
      simp only [List.map_cons, PyData.eqvAll, e, Bool.false_and, List.cons.injEq, h, false_and, decide_false]
theorem eqv_strm (a b : List (Int × Int)) : PyData.eqv (strmD a) (strmD b) = decide (a = b) := by
  simp only [strmD, PyData.eqv]
  exact eqv_msgs a b
/-- a stream of ints that are not too long -/
def Short (ms : List (Int × Int)) : Prop := ∀ m ∈ ms, m.1.natAbs < 10 ^ 99 ∧ m.2.natAbs < 10 ^ 99
theorem nice_msg {m : Int × Int} (h : m.1.natAbs < 10 ^ 99 ∧ m.2.natAbs < 10 ^ 99) : Nice 1 207 (msgD m) := by
  refine Nice.tuple (n := 0) (m := 100) (k := 2) (fun d hd => ?_) (Nat.le_refl 2)
  simp only [List.mem_cons, List.not_mem_nil, or_false] at hd
  rcases hd with rfl | rfl
  · exact Nice.int h.1
  · exact Nice.int h.2
theorem nice_strm {ms : List (Int × Int)} {k : Nat} (h : Short ms) (hk : ms.length ≤ k) : Nice 2 (k * 207 + 2 * k + 3) (strmD ms) := by
  refine Nice.tuple (n := 1) (m := 207) (k := k) (fun d hd => ?_) (by rw [List.length_map]; exact hk)
  obtain ⟨m, hm, rfl⟩ := List.mem_map.mp hd
  exact nice_msg (h m hm)
theorem TDs.msg {H : Hp} {vs : List V} {ms : List (Int × Int)} {i : Nat} {v : V} (r : TDs H vs (ms.map msgD)) (h : vs[i]? = some v) : ∃ m a, ms[i]? = some m ∧ v = .ref a ∧ H a = some (.tup [.int m.1, .int m.2]) := by
  obtain ⟨d, h1, h2⟩ := r.get h
  rw [List.getElem?_map] at h1
  cases e : ms[i]? with
  | none => rw [e] at h1; cases h1
  | some m =>
    rw [e] at h1
    cases h1
    obtain ⟨a, h3, h4⟩ := TD.pair h2
    exact ⟨m, a, rfl, h3, h4⟩
theorem TDs.msgs_len {H : Hp} {vs : List V} {ms : List (Int × Int)} (r : TDs H vs (ms.map msgD)) : vs.length = ms.length := by
  rw [r.length, List.length_map]
end Sb

/-! Operators over data that never changes. -/
namespace Sb
open PySem PySem.Spec PyProof.Rows L2
theorem same_new {H : Hp} {p : Addr} {o : HO} (h : H p = none) : Same H (upd H p o) := fun b u e => by
  rw [upd_ne (ne_of_none e h)]
  exact e
section
variable {X : Cx}
theorem opImp {f : Value → Value → Sem Value} {r r' : R2} (h : OpR X f r) (i : ∀ x y H Q, r' x y H Q → r x y H Q) : OpR X f r' :=
  fun pins s σ H x y v u Q I rx ry z => h pins s σ H x y v u Q I rx ry (i x y H Q z)
/-- t + u -/
def rCatD : R2 := fun x y H Q => ∃ ds es, TD H x (.tuple ds) ∧ TD H y (.tuple es) ∧ ds.length + es.length ≤ 100000 ∧
  ∀ p H', Same H H' → TD H' (.ref p) (.tuple (ds ++ es)) → Q (.ref p) H'
theorem op_catD : OpR X (binaryOp .Add) rCatD := opImp op_catA fun x y H Q h => by
  obtain ⟨ds, es, h1, h2, hl, q⟩ := h
  obtain ⟨a, xs, rfl, ha, hx⟩ := h1.isTup
  obtain ⟨b, ys, rfl, hb, hy⟩ := h2.isTup
  have lx := hx.length
  have ly := hy.length
  refine ⟨a, b, xs, ys, rfl, rfl, SqT.of ha, SqT.of hb, ?_, ?_, ?_, ?_⟩
  · rw [lx, ly]
    exact Nat.le_trans hl (by decide)
  · intro e
    subst e
    cases hx
    exact q b H (Same.refl H) h2
  · intro _ e
    subst e
    cases hy
    exact q a H (Same.refl H) (by rw [List.append_nil]; exact h1)
  · intro _ _ p np
    exact q p _ (same_new np) (.tup upd_same (TDs.mono (Tups.new np) _ (hx.app hy)))
/-- a part of a list, by its bounds -/
def cutA {α : Type} (xs : List α) (lo hi : Option Int) : List α := (xs.drop (HT.sIx xs.length 0 lo)).take (HT.sIx xs.length xs.length hi - HT.sIx xs.length 0 lo)
theorem cutA_to {α : Type} (xs : List α) {k : Nat} (h : k ≤ xs.length) : cutA xs none (some (k : Int)) = xs.take k := by
  unfold cutA
  rw [HT.sIx_none, HT.sIx_nat, List.drop_zero, Nat.sub_zero, Nat.min_eq_left h]
theorem cutA_from {α : Type} (xs : List α) {k : Nat} (h : k ≤ xs.length) : cutA xs (some (k : Int)) none = xs.drop k := by
  unfold cutA
  rw [HT.sIx_none, HT.sIx_nat, Nat.min_eq_left h]
  exact List.take_of_length_le (by rw [List.length_drop]; exact Nat.le_refl _)
theorem TDs.cut {H : Hp} {xs : List V} {ds : List PyData} (h : TDs H xs ds) (lo hi : Option Int) : TDs H (cutV xs lo hi) (cutA ds lo hi) := by
  unfold cutV cutA
  rw [h.length]
  exact (h.drop _).take _
/-- t[lo:hi] -/
def rSlD : V → Option Int → Option Int → Hp → VK → Prop := fun x lo hi H Q => ∃ ds, TD H x (.tuple ds) ∧ ∀ p H', Same H H' → TD H' (.ref p) (.tuple (cutA ds lo hi)) → Q (.ref p) H'
theorem sl_D : SlR X rSlD := by
  intro pins s σ H x v vl vu lo hi sl Q I rx hs pl pu h
  refine sl_tupA pins s σ H x v vl vu lo hi sl Q I rx hs pl pu ?_
  obtain ⟨ds, hT, q⟩ := h
  obtain ⟨a, xs, rfl, ha, hx⟩ := hT.isTup
  refine ⟨a, xs, rfl, SqT.of ha, ?_, ?_⟩
  · rintro ⟨e1, e2⟩
    refine q a H (Same.refl H) ?_
    have e : cutA ds lo hi = ds := by
      unfold cutA
      rw [← hx.length, e1, e2, List.drop_zero, Nat.sub_zero]
      exact List.take_of_length_le (by rw [hx.length]; exact Nat.le_refl _)
    rw [e]
    exact hT
  · intro _ p np
    exact q p _ (same_new np) (.tup upd_same (TDs.mono (Tups.new np) _ (hx.cut lo hi)))
/-- x == y, x != y over data that never changes -/
def rEqT : R2 := fun x y H Q => ∃ d e, TD H x d ∧ TD H y e ∧ SeqAt.shaped d = true ∧ SeqAt.shaped e = true ∧ Q (.bl (PyData.eqv d e)) H
def rNeT : R2 := fun x y H Q => ∃ d e, TD H x d ∧ TD H y e ∧ SeqAt.shaped d = true ∧ SeqAt.shaped e = true ∧ Q (.bl (!PyData.eqv d e)) H
theorem op_eqT (hu : X.A.units + 64 < cLine) : OpR X (compareOp .Eq) rEqT := opImp (op_eqD hu) fun x y H Q ⟨d, e, h1, h2, r⟩ => ⟨d, e, h1.dp _, h2.dp _, r⟩
theorem op_neT (hu : X.A.units + 64 < cLine) : OpR X (compareOp .NotEq) rNeT := opImp (op_neD hu) fun x y H Q ⟨d, e, h1, h2, r⟩ => ⟨d, e, h1.dp _, h2.dp _, r⟩
end
theorem shaped_strm (ms : List (Int × Int)) : SeqAt.shaped (strmD ms) = true := by
  have h : PyData.canLayAll0 (ms.map msgD) = true ∧ PyData.depthAll (ms.map msgD) ≤ 1 := by
    induction ms with
    | nil => exact ⟨rfl, Nat.zero_le _⟩
    | cons x r ih => exact ⟨by simp only [List.map_cons, PyData.canLayAll0, ih.1, Bool.and_true]; rfl, by simp only [List.map_cons, PyData.depthAll]; exact Nat.max_le.mpr ⟨Nat.le_refl _, ih.2⟩⟩
  unfold SeqAt.shaped
  simp only [strmD, PyData.canLay0, PyData.depth, h.1, Bool.true_and, decide_eq_true_eq]
  have := h.2
  omega
end Sb

/-! An own error class over a built-in one, its __init__ storing its one argument under the argument's name. -/
namespace PySem
namespace OwnE
open PySem.W PySem.Calls PyProof.Rows PySem.HandSPX Builtin Builtin.ObjectAttr
/-- the base: its name, its __new__, its __init__, its mro -/
structure Base where
  B : String
  newId : String
  initId : String
  bm : List Value
structure Base.Ok (b : Base) : Prop where
  fb : ExcBaseFacts b.B b.newId b.initId b.bm
  sb : StoreFacts b.B b.bm "object.__setattr__" "object"
  ne : b.bm.isEmpty = false
section
variable {prog : Program} {w : World} {A : Around} {R : Result → Shared → Prop} {hp : Heap} {g : Array GenState} {d : Drawn} {t : Nat} {os : OsState}
theorem tail_some {b : Base} (ok : b.Ok) : ∀ l : List Value, excTail b.bm l = true → l.isEmpty = false
  | [], e => by
    have z : b.bm = [] := (beq_iff_eq.mp e).symm
    have n := ok.ne
    rw [z] at n
    exact absurd n (by decide)
  | _ :: _, _ => rfl
/-- x.name = v, x a new error -/
theorem stored {b : Base} (ok : b.Ok) {K : W.Frag} {name : Str} {tk : Tok} {v : Value} {x C : Addr} {fv : Array Value} {cd : ClassData} (inK : K.In hp)
    (at_x : hp.get? x = some { cls := .ref C, data := .fields fv }) (at_C : W.clsIn K C = some cd) (tail : excTail b.bm cd.mro = true) (own : cd.hasDict = true) (free : W.findIn K (.ref C) name = some none)
    (want : ∀ h' tk' dx, (∀ c o, c ≠ x → hp.get? c = some o → h'.get? c = some o) → hp.objs.size ≤ dx → dx ≠ x →
      h'.get? x = some { cls := .ref C, dict := some dx, data := .fields fv } → h'.Ns1 dx (fun y => if y = name then some v else none) →
      R (.ok (.ret .none)) ⟨h', g, d, tk', os⟩) :
    codeAny (model prog w) A (.call (.builtin "object.__setattr__") ⟨[.ref x, .str name tk, v], []⟩) R ⟨hp, g, d, t, os⟩ := by
  have inst : W.InstAt hp x { cls := .ref C, data := .fields fv } C none := ⟨at_x, rfl, rfl, trivial⟩
  have so := F.store_object
  have some_ := tail_some ok _ tail
  have object : cd.mro.contains (.type "object") = true := by rw [excTail_contains "object" _ tail]; exact ok.sb.hasOwner
  have apart : x ≠ hp.objs.size := Nat.ne_of_lt (Heap.lt_size at_x)
  have under : W.Looks (model prog w) hp (isInstance (.ref x) (.type "object")) true := by
    refine inst.type.andThen (W.looks_mroIn inK ?_)
    unfold W.mroIn
    rw [at_C, Option.bind_some, if_neg (by rw [some_]; decide), object]
  have data : W.Looks (model prog w) hp (classData C) cd := W.looks_clsIn inK at_C
  have order : W.Looks (model prog w) hp (mroOf (.ref C)) cd.mro := data.andThen .now
  have nobody : W.Looks (model prog w) hp (storeTaker? none) none := .now
  apply codeAny_call_builtin so.slot.plain so.entry
  apply @W.check_slot (model prog w) _ _ ⟨hp, g, d, t, os⟩ "object.__setattr__" "object" "__setattr__" (.ref x) [.str name tk, v] [] _ so.kind so.split under (so.args (.ref x) (.str name tk) v)
  rw [W.osa_eq, refuse_eq]
  apply wpAny_bind
  apply wpAny_bind
  apply inst.type.at
  apply wpAny_bind
  apply order.at
  rw [excTail_pass _ (ok.sb.passes _) _ tail]
  apply wpAny_pure
  apply wpAny_bind
  apply inst.type.at
  apply wpAny_bind
  apply (W.looks_findIn inK free).at
  apply wpAny_bind
  apply nobody.at
  show wpAny _ _ (storeInOwnDict (.ref x) (.ref C) (.str name tk) name v false) _ _ _
  obtain ⟨nm, bs, mro, ns, qn, hd, sn, sb, ab, col, del⟩ := cd
  dsimp only at own
  subst own
  unfold storeInOwnDict ownDictForStores
  repeat (first
    | with_reducible refine store_in_new ?_ ?_
    | with_reducible refine wpAny_loadPart_at at_x ?_
    | with_reducible refine data.at ?_
    | wp_step)
  · exact ⟨_, #[], _, (Heap.get?_update_ne _ _ _ _ apart.symm).trans (Heap.get?_push_at rfl rfl), rfl, (fun e he => absurd he (by simp)), (fun _ => rfl)⟩
  · intro h' tk' ns1 but
    have still : (hp.push { cls := .type "dict", data := .dict #[] }).get? x = some { cls := .ref C, data := .fields fv } := Heap.get?_push_of_some _ at_x
    refine want h' tk' hp.objs.size ?_ (Nat.le_refl _) apart.symm ?_ ns1
    · intro c o hc ho
      rw [but.2 c (Nat.ne_of_lt (Heap.lt_size ho)), Heap.get?_update_ne _ _ _ _ hc]
      exact Heap.get?_push_of_some _ ho
    · rw [but.2 x apart]
      exact Heap.get?_update_self _ still rfl
end
/-! the text of __init__ -/
def iA (f : Str) (p1 p2 : Pos) : Arguments := { posonlyargs := [], args := [{ arg := "self", annotation := none, pos := p1 }, { arg := f, annotation := none, pos := p2 }], vararg := none, kwonlyargs := [], kw_defaults := [], kwarg := none, defaults := [] }
def iB (f : Str) (q1 q2 q3 q4 : Pos) : List Stmt := [.Assign [.Attribute (.Name "self" q1) f q2] (.Name f q3) q4]
/-- what the written part says of the class x, at C, and of its __init__, at fI -/
structure ErrTxt (b : Base) (x f qual : Str) (K : Frag) (mg : Str → Option Value) (C fI : Addr) : Prop where
  gC : mg x = some (.ref C)
  cls : ∃ nm q N bs bm sn sub ab col dd k0 k1 k2 k3 k5, K.lookup C = some (excClassObj nm q C N bs bm true sn sub ab col dd k0 k1 k2 k3 k5 b.newId) ∧ excTail b.bm bm = true
  sa : findIn K (.ref C) "__setattr__" = some (some (.builtin "object.__setattr__"))
  ga : findIn K (.ref C) "__getattribute__" = some (some (.builtin "BaseException.__getattribute__"))
  gg : findIn K (.ref C) "__getattr__" = some none
  noN : findIn K (.ref C) f = some none
  iC : findIn K (.ref C) "__init__" = some (some (.ref fI))
  tC : typeIn K (.ref fI) = some (.type "function")
  kC : keepIn K (.ref C) = true
  exC : subIn K (.ref C) (.type "BaseException") = some true
  tyC : typeIn K (.ref C) = some (.type "type")
  hdC : hasDictIn K C = true
  te : exmOne K (.ref C) (.ref C) = some true
  fn : ∃ (oc : Value) (od : Option Addr) (doc pm : Value) (an : Option Addr) (cdv ct : Value) (osl : Array (Option Value)) (p1 p2 q1 q2 q3 q4 : Pos) (iS : Scope),
    K.lookup fI = some ⟨oc, od, .func (fnOf "__init__" qual (iA f p1 p2) (iB f q1 q2 q3 q4) iS .none .none doc pm an cdv ct), osl⟩ ∧ codeIn K cdv qual = true ∧
    iS.kind = .function ∧ iS.names.lookup ("self" : Str) = some .local ∧ iS.names.lookup f = some .local ∧ iS.isCoroutine = false ∧ iS.isGenerator = false
theorem one_le_line (v : Value) : [v].length ≤ sizeLine := by
  show 1 ≤ sizeLine
  decide
theorem ldE {M : Model} {s : Shared} {name : Str} {scope : Scope} {L a : Addr} {cd : Value} {m : Str → Option Value} {x : Str} {pos : Pos} {v : Value} {Q : Value → Shared → Prop} {A : Around} {E : Value → Shared → Prop} (hn : s.heap.Ns L m) (hv : m x = some v) (h : Q v s)
    (hk : scope.kind = .function) (hl : scope.names.lookup x = some .local) (hd : (x == ("__debug__" : Str)) = false) :
    wpAny M A (eval (.Name x pos) (envOfC name scope L a cd)) Q E s := wpAny_Name (wpAny_loadName_local hk hl hn hv h) hd
/-- what __init__ leaves of a fresh exception at x -/
structure Left (h h' : Heap) (x C dx t1 : Addr) (f : Str) (v : Value) : Prop where
  keep : ∀ b o, b ≠ x → h.get? b = some o → h'.get? b = some o
  obj : h'.get? x = some { cls := .ref C, dict := some dx, data := .fields #[.ref t1, .none, .none, .none, .bool false, .none] }
  dbig : h.objs.size ≤ dx
  dne : dx ≠ x
  ns : h'.Ns1 dx (fun y => if y = f then some v else none)
/-- a made error -/
structure Made1 (h h' : Heap) (e C d : Addr) (f : Str) (v : Value) : Prop where
  keep : ∀ b o, h.get? b = some o → h'.get? b = some o
  new : h.objs.size ≤ e
  obj : ∃ oe vs, h'.get? e = some oe ∧ oe.cls = .ref C ∧ oe.dict = some d ∧ oe.data = .fields vs ∧ vs[1]? = some .none
  dbig : h.objs.size ≤ d
  dne : d ≠ e
  ns : h'.Ns1 d (fun y => if y = f then some v else none)
section
variable {prog : Program} {w : World} {A : Around} {E : Value → Shared → Prop} {R : Result → Shared → Prop} {s : Shared} {b : Base} {x f qual : Str} {K : Frag} {mg : Str → Option Value} {C fI : Addr}
theorem run_init (ok : b.Ok) (T : ErrTxt b x f qual K mg C fI) (hf1 : ¬ f = ("self" : Str)) (hf2 : (f == ("__debug__" : Str)) = false)
    (bind : ∀ (oc : Value) (od : Option Addr) (doc pm : Value) (an : Option Addr) (cdv ct : Value) (p1 p2 q1 q2 q3 q4 : Pos) (iS : Scope) (u v : Value),
      bindArgs (fnOf "__init__" qual (iA f p1 p2) (iB f q1 q2 q3 q4) iS .none .none doc pm an cdv ct) ⟨[u, v], []⟩ = pure [(("self" : Str), u), (f, v)])
    {e t0 : Addr} {v : Value} (X : K.In s.heap) (hlim : s.heap.NoLimit) (he : s.heap.get? e = some (excO C t0)) (hnx : K.lookup e = none) (hroom : A.depth < recursionLimit)
    (want : ∀ h' tk dx, Left s.heap h' e C dx t0 f v → R (.ok (.ret .none)) { s with heap := h', toks := tk }) :
    codeAny (model prog w) A (.call (.ref fI) ⟨[.ref e, v], []⟩) R s := by
  obtain ⟨oc, od, doc, pm, an, cdv, ct, osl, p1, p2, q1, q2, q3, q4, iS, ho, hcd, sk, s1, s2, s3, s4⟩ := T.fn
  obtain ⟨nm, q, N, bs, bm, sn, sub, ab, col, dd, k0, k1, k2, k3, k5, hC, hbm⟩ := T.cls
  have hcl : clsIn K C = some { name := nm, bases := bs, mro := .ref C :: bm, ns := N, qualname := q, hasDict := true, slotNames := sn, subclasses := sub, abstract := ab, collection := col, hasDel := false } := by
    unfold clsIn
    rw [hC] <;> rfl
  refine Att.call_fn (binds := [(("self" : Str), .ref e), (f, v)]) X hlim ho hcd hroom (BindsTo.of_eq (bind oc od doc pm an cdv ct p1 p2 q1 q2 q3 q4 iS _ _)) ?_ (fun z IC => ?_) s3 s4 sk
  · simp [s1, s2]
  obtain ⟨hh, tk1, rfl⟩ := IC.toInCall.same
  have keep := IC.toInCall.keep
  have ns := IC.toInCall.ns
  have X1 : K.In hh := X.keeps keep
  have at_e := keep _ _ he
  have of_f : bindL (envOfC qual iS s.heap.objs.size fI cdv).kindOf [(("self" : Str), .ref e), (f, v)] (fun _ => none) f = some v := by
    have a1 : (envOfC qual iS s.heap.objs.size fI cdv).kindOf f = some .local := s2
    simp only [bindL, a1, if_true]
  have of_s : bindL (envOfC qual iS s.heap.objs.size fI cdv).kindOf [(("self" : Str), .ref e), (f, v)] (fun _ => none) ("self" : Str) = some (.ref e) := by
    have a1 : (envOfC qual iS s.heap.objs.size fI cdv).kindOf f = some .local := s2
    have a2 : (envOfC qual iS s.heap.objs.size fI cdv).kindOf ("self" : Str) = some .local := s1
    simp only [bindL, a1, a2, if_true]
    rw [if_neg (fun z => hf1 z.symm)]
  show wpAny _ _ (execs _ _) _ _ _
  refine wpAny_execs_cons (plainObj_wpAny_Assign_Attribute ?_)
  apply ldE (v := v) ns of_f _ sk s2 hf2
  apply ldE (v := .ref e) ns of_s _ sk s1 (by decide)
  refine set_plain X1 (ox := excO C t0) (od := none) ⟨at_e, rfl, rfl, trivial⟩ T.sa ?_
  refine stored ok X1 at_e hcl (show excTail b.bm (.ref C :: bm) = true from hbm) rfl T.noN ?_
  intro h3 tk3 dx keep3 dn dne at3 ns3
  show wpAny _ _ (execs _ _) _ _ _
  have z : s.heap.objs.size < hh.objs.size := ns.lt
  refine wpAny_execs_nil (want h3 tk3 dx ?_)
  exact { keep := fun c o hc q => keep3 c o hc (keep c o q), obj := at3, dbig := Nat.le_of_lt (Nat.lt_of_lt_of_le z dn), dne := dne, ns := ns3 }
theorem run_made (ok : b.Ok) (T : ErrTxt b x f qual K mg C fI) (hf1 : ¬ f = ("self" : Str)) (hf2 : (f == ("__debug__" : Str)) = false)
    (bind : ∀ (oc : Value) (od : Option Addr) (doc pm : Value) (an : Option Addr) (cdv ct : Value) (p1 p2 q1 q2 q3 q4 : Pos) (iS : Scope) (u v : Value),
      bindArgs (fnOf "__init__" qual (iA f p1 p2) (iB f q1 q2 q3 q4) iS .none .none doc pm an cdv ct) ⟨[u, v], []⟩ = pure [(("self" : Str), u), (f, v)])
    {v : Value} (X : K.In s.heap) (hlim : s.heap.NoLimit) (hroom : A.depth + 1 < recursionLimit)
    (want : ∀ h' tk e d, Made1 s.heap h' e C d f v → R (.ok (.ret (.ref e))) { s with heap := h', toks := tk }) :
    codeAny (model prog w) A (.call (.ref C) ⟨[v], []⟩) R s := by
  obtain ⟨nm, q, N, bs, bm, sn, sub, ab, col, dd, k0, k1, k2, k3, k5, hC, hbm⟩ := T.cls
  obtain ⟨hp, g, dr, tk, os⟩ := s
  have keep : ∀ c o, hp.get? c = some o → ((hp.push (kdv_tup [v])).push (excO C hp.objs.size)).get? c = some o := by
    intro c o z
    exact Heap.get?_push_of_some _ (Heap.get?_push_of_some _ z)
  have there : ((hp.push (kdv_tup [v])).push (excO C hp.objs.size)).get? (hp.objs.size + 1) = some (excO C hp.objs.size) := by heap_get
  have new : K.lookup (hp.objs.size + 1) = none := by
    cases e : K.lookup (hp.objs.size + 1) with
    | none => rfl
    | some o => exact absurd (Nat.lt_of_succ_lt (Heap.lt_size (X _ _ e))) (Nat.lt_irrefl _)
  apply call_own ok.fb (fun X => excTail_contains X bm hbm) (X _ _ hC) (looks_findIn X T.iC) (fun self => bind_fn X self T.tC) (one_le_line v)
  refine run_init (s := ⟨(hp.push (kdv_tup [v])).push (excO C hp.objs.size), g, dr, tk, os⟩) ok T hf1 hf2 bind (X.keeps keep) (hlim.keeps keep) there new hroom ?_
  rintro h' tk' dx ⟨keep2, at2, dn, dne, ns2⟩
  have z : hp.objs.size + 1 + 1 ≤ dx := by
    have q := dn
    rw [Heap.size_push, Heap.size_push] at q
    exact q
  refine ⟨rfl, want h' tk' (hp.objs.size + 1) dx ?_⟩
  refine { keep := fun c o q => keep2 c o ?_ (keep c o q), new := Nat.le_succ _, obj := ⟨_, _, at2, rfl, rfl, rfl, rfl⟩, dbig := (by show hp.objs.size ≤ dx; omega), dne := dne, ns := ns2 }
  exact Nat.ne_of_lt (Nat.lt_succ_of_lt (Heap.lt_size q))
end
end OwnE
end PySem
namespace L2
open PySem PySem.Spec PyProof.Rows
theorem relO_one {f : Str} {v : V} {v' : Value} (r : RelV v v') (y : Str) : RelO (List.lookup y [(f, v)]) (if y = f then some v' else none) := by
  by_cases h : y = f
  · subst h
    rw [if_pos rfl]
    have q : List.lookup y [(y, v)] = some v := by simp [List.lookup]
    rw [q]
    exact r
  · rw [if_neg h]
    have q1 : (y == f) = false := by simpa using h
    have q : List.lookup y [(f, v)] = none := by simp [List.lookup, q1]
    rw [q]
    trivial
section
variable {X : Cx} {b : OwnE.Base} {x f qual : Str} {C fI : Addr}
/-- what an error class's text gives, at any state -/
structure ErrOk (b : OwnE.Base) (x f qual : Str) (K : PySem.W.Frag) (mg : Str → Option Value) (C fI : Addr) : Prop where
  ok : b.Ok
  T : PySem.OwnE.ErrTxt b x f qual K mg C fI
  hf1 : ¬ f = ("self" : Str)
  hf2 : (f == ("__debug__" : Str)) = false
  bind : ∀ (oc : Value) (od : Option Addr) (doc pm : Value) (an : Option Addr) (cdv ct : Value) (p1 p2 q1 q2 q3 q4 : Pos) (iS : Scope) (u v : Value),
      bindArgs (PySem.W.fnOf "__init__" qual (OwnE.iA f p1 p2) (OwnE.iB f q1 q2 q3 q4) iS .none .none doc pm an cdv ct) ⟨[u, v], []⟩ = pure [(("self" : Str), u), (f, v)]
/-- x(e) -/
def tMkE (C : Addr) (f : Str) (ta : TA) : St → Hp → XK → Prop := fun σ H Q => ta σ H fun vs H1 => ∃ v, vs = [v] ∧ ∀ d, H1 d = none → Q (.ref C) (some d) (upd H1 d (.xd [(f, v)]))
theorem pmk_E {a : Expr} {ta : TA} {p pos : Pos} {k : Nat} (T : ErrOk b x f qual X.K X.mg C fI) (hr : Room k X.A) (ha : PA X [a] ta) (hg : Gl X x := by rfl) (hdb : (x == ("__debug__" : Str)) = false := by decide)
    (he : starEach (a :: []) X.env = (false, eval a X.env) :: starEach [] X.env := by rfl) (hpl : (backTo pos (starEach [] X.env)).any (·.1) = false := by rfl) :
    PMk X (.Call (.Name x p) [a] [] pos) (tMkE C f ta) := by
  intro pins s σ H Q I h
  apply wpAny_Call_Name_kw
  apply ld_glob I hg T.T.gC _ hdb
  apply PySem.W.callWith_K (h₀ := X.base) I.ok.mod.kin T.T.kC _ he hpl
  refine thn (ha.run pos pins s σ H _ I h) ?_
  rintro us s1 ⟨vs, H1, I1, r1, v, ev, q1⟩
  subst ev
  refine ⟨I1.kIn, ?_⟩
  match us, r1 with
  | [v'], .cons rv .nil =>
    show wpAny _ _ (call (.ref C) [v']) _ _ _
    have hlim := I1.nolimit
    obtain ⟨hp, g, dr, tk, os⟩ := s1
    apply wpAny_call
    refine PySem.OwnE.run_made T.ok T.T T.hf1 T.hf2 T.bind I1.kIn hlim (by have := hr.dp; omega) ?_
    intro h' tk' e d M
    show MkP X pins σ Q (.ref e) ⟨h', g, dr, tk', os⟩
    obtain ⟨oe, fv, hoe, hc, hd, hdat, h1⟩ := M.obj
    have hns := M.ns
    obtain ⟨G', g1, g2⟩ := restrict h' fun c => decide (c ≠ e)
    have gk : ∀ c, c ≠ e → G'.get? c = h'.get? c := fun c hc => g1 c (decide_eq_true hc)
    have ge : G'.get? e = none := g2 e (by simp)
    have old : ∀ c o, hp.get? c = some o → G'.get? c = some o := by
      intro c o q
      rw [gk c (Nat.ne_of_lt (Nat.lt_of_lt_of_le (Heap.lt_size q) M.new))]
      exact M.keep c o q
    have ob : ObjOk X.prog X.w (upd H1 d (.xd [(f, v)])) G' d (.xd [(f, v)]) := ⟨_, hns.at (fun o q => (gk d M.dne).trans q), fun y => relO_one rv y⟩
    have J : Inv X pins σ (upd H1 d (.xd [(f, v)])) ⟨G', g, dr, tk', os⟩ := I1.laid (t' := tk') old M.dbig ob
    refine ⟨e, oe, fv, ⟨G', g, dr, tk', os⟩, _, .ref C, some d, rfl, J, ?_, ge, hoe, ⟨hc, hd⟩, hdat, h1, ?_, rfl, I1.bare, raises_own T.T.exC T.T.tyC, q1 d (I1.hok.fresh M.dbig)⟩
    · intro c o q
      by_cases hc : c = e
      · have q' : G'.get? c = some o := q
        rw [hc, ge] at q'
        cases q'
      · exact (gk c hc).symm.trans q
    · rw [upd_ne (Ne.symm M.dne)]
      exact I1.hok.fresh M.new
/-- raise x(e) -/
def tRaiseE (C : Addr) (f : Str) (W : WX) (ta : TA) : TS := fun _ σ H => tMkE C f ta σ H fun cls d H' => W cls d σ H'
theorem ps_raiseE {a : Expr} {ta : TA} {W : WX} {p pos pos2 : Pos} {k : Nat} (hc : X.calm = true) (T : ErrOk b x f qual X.K X.mg C fI) (hr : Room k X.A) (tk : Takes X W) (ha : PA X [a] ta) (hg : Gl X x := by rfl) (hdb : (x == ("__debug__" : Str)) = false := by decide)
    (he : starEach (a :: []) X.env = (false, eval a X.env) :: starEach [] X.env := by rfl) (hpl : (backTo pos (starEach [] X.env)).any (·.1) = false := by rfl) :
    PS X (.Raise (some (.Call (.Name x p) [a] [] pos)) none pos2) (tRaiseE C f W ta) := ps_raise hc tk (pmk_E T hr ha hg hdb he hpl)
/-- e.f, e the error that the suite holds (at a; its class cls, its dict d) -/
def tByE (C : Addr) (f : Str) (a : Addr) (cls : Value) (d : Option Addr) (te : TE) : TE := fun σ H Q => te σ H fun y H1 => y = .ref a ∧ cls = .ref C ∧ ∃ (dd : Addr) (v : V), d = some dd ∧ H1 dd = some (.xd [(f, v)]) ∧ Q v H1
theorem pe_byE {a : Addr} {oe : Obj} {cls : Value} {d : Option Addr} {pn : List (Addr × Obj)} {e : Expr} {te : TE} {pos : Pos} (T : ErrOk b x f qual X.K X.mg C fI) (hz : Zc cls d oe) (hf : ∃ vs, oe.data = .fields vs) (he : PE (X.suite a ((a, oe) :: pn)) e te)
    (hb : attributeBase e f X.env (eval e X.env) = eval e X.env := by rfl) :
    PE (X.suite a ((a, oe) :: pn)) (.Attribute e f pos) (tByE C f a cls d te) := by
  constructor
  intro pins s σ H Q I h
  refine attr_of hb (thn (he.run pins s σ H _ I h) ?_)
  rintro u s1 ⟨y, H1, I1, ry, ey, ec, dd, v, ed, ea, q⟩
  subst ey ec ed
  obtain rfl : u = Value.ref a := ry
  have ha := (I1.pin (a, oe) (List.mem_append_left _ List.mem_cons_self)).1
  obtain ⟨vs, hd⟩ := hf
  obtain ⟨mA, hns, hr⟩ := (I1.hok dd _ ea : ObjOk X.prog X.w H1 s1.heap dd (.xd [(f, v)]))
  obtain ⟨od, ho, hl⟩ := lookIn_ns hns
  have l : List.lookup f [(f, v)] = some v := by simp [List.lookup]
  obtain ⟨u, hu, ru⟩ := RelO.some_of (v := v) (o := mA f) (by rw [← l]; exact hr f)
  have J : PySem.W.InstAt s1.heap a oe C (some od) := by
    refine ⟨ha, hz.1, ?_, ?_⟩
    · unfold PySem.W.notCls
      rw [hd] <;> rfl
    · rw [hz.2]
      exact ho
  exact HandSPX.exc_get I1.kIn J T.T.ga T.T.gg T.T.exC (PySem.W.findObj_own T.T.hdC T.T.noN rfl (by rw [hl, hu])) (handed_of ru) ⟨v, H1, I1.tok _, ru, q⟩
end
end L2
namespace PySem.OwnE
def bVE : Base := ⟨"ValueError", "ValueError.__new__", "ValueError.__init__", [Value.type "ValueError", Value.type "Exception", Value.type "BaseException", Value.type "object"]⟩
def bLE : Base := ⟨"LookupError", "LookupError.__new__", "LookupError.__init__", [Value.type "LookupError", Value.type "Exception", Value.type "BaseException", Value.type "object"]⟩
def bRE : Base := ⟨"RuntimeError", "RuntimeError.__new__", "RuntimeError.__init__", [Value.type "RuntimeError", Value.type "Exception", Value.type "BaseException", Value.type "object"]⟩
def bOE : Base := ⟨"OverflowError", "OverflowError.__new__", "OverflowError.__init__", [Value.type "OverflowError", Value.type "ArithmeticError", Value.type "Exception", Value.type "BaseException", Value.type "object"]⟩
theorem bVE_ok : bVE.Ok := ⟨F.excBase_ValueError, F.store_ValueError, rfl⟩
theorem bLE_ok : bLE.Ok := ⟨F.excBase_LookupError, F.store_LookupError, rfl⟩
theorem bRE_ok : bRE.Ok := ⟨F.excBase_RuntimeError, F.store_RuntimeError, rfl⟩
theorem bOE_ok : bOE.Ok := ⟨F.excBase_OverflowError, F.store_OverflowError, rfl⟩
/-- an error of its own class is what the class's clause names -/
theorem exm_own {K : W.Frag} {S : Addr} (h1 : W.subIn K (.ref S) (.type "BaseException") = some true) (h2 : W.isClsIn K S = true) (h3 : W.typeIn K (.ref S) = some (.type "type")) (h4 : W.subIn K (.ref S) (.ref S) = some true) : W.exmOne K (.ref S) (.ref S) = some true := by
  have e1 : (W.subIn K (.ref S) (.type "BaseException") == some true) = true := by
    rw [h1]
    rfl
  have e2 : ((W.clsIn K S).isSome && W.typeIn K (.ref S) == some (.type "type")) = true := by
    rw [show (W.clsIn K S).isSome = true from h2, h3]
    rfl
  unfold W.exmOne
  rw [if_pos e1]
  show (if ((W.clsIn K S).isSome && W.typeIn K (.ref S) == some (.type "type")) = true then W.subIn K (.ref S) (.ref S) else none) = some true
  rw [if_pos e2]
  exact h4
/-- what a clause of the class S says of an error of the class R -/
theorem exm_to {K : W.Frag} {R S : Addr} {b : Bool} (h1 : W.subIn K (.ref S) (.type "BaseException") = some true) (h2 : W.isClsIn K S = true) (h3 : W.typeIn K (.ref S) = some (.type "type")) (h4 : W.subIn K (.ref R) (.ref S) = some b) : W.exmOne K (.ref R) (.ref S) = some b := by
  have e1 : (W.subIn K (.ref S) (.type "BaseException") == some true) = true := by
    rw [h1]
    rfl
  have e2 : ((W.clsIn K S).isSome && W.typeIn K (.ref S) == some (.type "type")) = true := by
    rw [show (W.clsIn K S).isSome = true from h2, h3]
    rfl
  unfold W.exmOne
  rw [if_pos e1]
  show (if ((W.clsIn K S).isSome && W.typeIn K (.ref S) == some (.type "type")) = true then W.subIn K (.ref R) (.ref S) else none) = some b
  rw [if_pos e2]
  exact h4
end PySem.OwnE

/-! Where the text's defs, methods, classes and errors stand. -/
namespace Sb
open PySem PySem.Spec PyProof.Rows L2
structure Dn (K : PySem.W.Frag) (mg : Str → Option Value) (nm : Str) (st : Stmt) (ps : List Str) where
  f : Addr
  fd : FuncData
  F : Fun K nm nm st f fd
  b : Binds K fd ps []
  g : mg nm = some (.ref f)
structure Mn (K : PySem.W.Frag) (C : Addr) (nm qual : Str) (st : Stmt) (ps : List Str) where
  f : Addr
  fd : FuncData
  F : Fun K nm qual st f fd
  b : Binds K fd ps []
  M : Meth K C nm f
structure Cn (K : PySem.W.Frag) (mg : Str → Option Value) (nm : Str) where
  C : Addr
  cl : Cls K C
  g : mg nm = some (.ref C)
structure En (K : PySem.W.Frag) (mg : Str → Option Value) (bs : OwnE.Base) (nm fld qual : Str) where
  C : Addr
  i : Addr
  e : L2.ErrOk bs nm fld qual K mg C i
end Sb

/-! Data of any kind: scalars, tuples, lists, the empty dict; none of it lies at p. -/
namespace Sb
open PySem PySem.Spec PyProof.Rows L2
mutual
inductive LD (p : Addr) (H : Hp) : V → PyData → Prop
  | non : LD p H .non .none
  | bl (b : Bool) : LD p H (.bl b) (.bool b)
  | int (i : Int) : LD p H (.int i) (.int i)
  | str (x : Str) : LD p H (.str x) (.str x)
  | tup {a : Addr} {xs : List V} {ds : List PyData} : a ≠ p → H a = some (.tup xs) → LDs p H xs ds → LD p H (.ref a) (.tuple ds)
  | lst {a : Addr} {xs : List V} {ds : List PyData} : a ≠ p → a ≠ sysModules → H a = some (.lst xs) → LDs p H xs ds → LD p H (.ref a) (.list ds)
  | dic {a : Addr} : a ≠ p → H a = some (.dK []) → LD p H (.ref a) (.dict [])
  | dct {a : Addr} : a ≠ p → H a = some (.dT []) → LD p H (.ref a) (.dict [])
inductive LDs (p : Addr) (H : Hp) : List V → List PyData → Prop
  | nil : LDs p H [] []
  | cons {v : V} {vs : List V} {d : PyData} {ds : List PyData} : LD p H v d → LDs p H vs ds → LDs p H (v :: vs) (d :: ds)
end
/-- all but p stands -/
abbrev But (p : Addr) (H H' : Hp) : Prop := ∀ b o, H b = some o → b ≠ p → H' b = some o
theorem But.same {p : Addr} {H H' : Hp} (h : Same H H') : But p H H' := fun b o e _ => h b o e
mutual
theorem LD.mono {p : Addr} {H H' : Hp} (t : But p H H') : ∀ {v : V} (d : PyData), LD p H v d → LD p H' v d
  | _, .none, h => by cases h; exact .non
  | _, .bool b, h => by cases h; exact .bl b
  | _, .int i, h => by cases h; exact .int i
  | _, .str x, h => by cases h; exact .str x
  | _, .tuple ds, h => by
    cases h with
    | tup n e r => exact .tup n (t _ _ e n) (LDs.mono t ds r)
  | _, .list ds, h => by
    cases h with
    | lst n m e r => exact .lst n m (t _ _ e n) (LDs.mono t ds r)
  | _, .dict _, h => by
    cases h with
    | dic n e => exact .dic n (t _ _ e n)
    | dct n e => exact .dct n (t _ _ e n)
theorem LDs.mono {p : Addr} {H H' : Hp} (t : But p H H') : ∀ {vs : List V} (ds : List PyData), LDs p H vs ds → LDs p H' vs ds
  | _, [], h => by cases h; exact .nil
  | _, d :: ds, h => by
    cases h with
    | cons a r => exact .cons (LD.mono t d a) (LDs.mono t ds r)
end
theorem LDs.length {p : Addr} {H : Hp} : ∀ {vs : List V} {ds : List PyData}, LDs p H vs ds → vs.length = ds.length
  | _, _, .nil => rfl
  | _, _, .cons _ r => congrArg (· + 1) r.length
theorem LDs.get {p : Addr} {H : Hp} : ∀ {vs : List V} {ds : List PyData} {i : Nat} {v : V}, LDs p H vs ds → vs[i]? = some v → ∃ d, ds[i]? = some d ∧ LD p H v d
  | _, _, _, _, .nil, e => by simp at e
  | _, _, 0, _, .cons a _, e => by
    simp at e
    subst e
    exact ⟨_, rfl, a⟩
  | _, _, i + 1, v, .cons _ r, e => by
    obtain ⟨d, h1, h2⟩ := LDs.get (i := i) (v := v) r (by simpa using e)
    exact ⟨d, by simpa using h1, h2⟩
theorem LDs.at {p : Addr} {H : Hp} : ∀ {vs : List V} {ds : List PyData} {i : Nat} {d : PyData}, LDs p H vs ds → ds[i]? = some d → ∃ v, vs[i]? = some v ∧ LD p H v d
  | _, _, _, _, .nil, e => by simp at e
  | _, _, 0, _, .cons a _, e => by
    simp at e
    subst e
    exact ⟨_, rfl, a⟩
  | _, _, i + 1, v, .cons _ r, e => by
    obtain ⟨d, h1, h2⟩ := LDs.at (i := i) (d := v) r (by simpa using e)
    exact ⟨d, by simpa using h1, h2⟩
theorem LDs.app {p : Addr} {H : Hp} : ∀ {vs us : List V} {ds es : List PyData}, LDs p H vs ds → LDs p H us es → LDs p H (vs ++ us) (ds ++ es)
  | _, _, _, _, .nil, s => s
  | _, _, _, _, .cons a r, s => .cons a (r.app s)
theorem LDs.take {p : Addr} {H : Hp} : ∀ {vs : List V} {ds : List PyData} (n : Nat), LDs p H vs ds → LDs p H (vs.take n) (ds.take n)
  | _, _, 0, _ => .nil
  | _, _, _ + 1, .nil => .nil
  | _, _, n + 1, .cons a r => .cons a (r.take n)
theorem LDs.drop {p : Addr} {H : Hp} : ∀ {vs : List V} {ds : List PyData} (n : Nat), LDs p H vs ds → LDs p H (vs.drop n) (ds.drop n)
  | _, _, 0, r => r
  | _, _, _ + 1, .nil => .nil
  | _, _, n + 1, .cons _ r => r.drop n
mutual
theorem TD.ld {p : Addr} {H : Hp} (hp : ∀ xs, H p ≠ some (.tup xs)) : ∀ {v : V} (d : PyData), TD H v d → LD p H v d
  | _, .none, h => by cases h; exact .non
  | _, .bool b, h => by cases h; exact .bl b
  | _, .int i, h => by cases h; exact .int i
  | _, .str x, h => by cases h; exact .str x
  | _, .tuple ds, h => by
    cases h with
    | tup e r => exact .tup (fun z => hp _ (z ▸ e)) e (TDs.ld hp ds r)
  | _, .list _, h => by cases h
  | _, .dict _, h => by cases h
theorem TDs.ld {p : Addr} {H : Hp} (hp : ∀ xs, H p ≠ some (.tup xs)) : ∀ {vs : List V} (ds : List PyData), TDs H vs ds → LDs p H vs ds
  | _, [], h => by cases h; exact .nil
  | _, d :: ds, h => by
    cases h with
    | cons a r => exact .cons (TD.ld hp d a) (TDs.ld hp ds r)
end
/-! it is read off the heap -/
section
variable {X : Cx} {pins : List (Addr × Obj)} {σ : L2.St} {H : Hp} {s : Shared} {p : Addr}
mutual
theorem LD.reads (I : L2.Inv X pins σ H s) : ∀ (d : PyData) (v : V) (u : Value), LD p H v d → RelV v u → ∃ as, Reads s.heap u d as ∧ sysModules ∉ as
  | .none, _, _, h, r => by cases h; cases r; exact ⟨_, Reads.none, List.not_mem_nil⟩
  | .bool b, _, _, h, r => by cases h; cases r; exact ⟨_, Reads.bool b, List.not_mem_nil⟩
  | .int i, _, _, h, r => by cases h; obtain ⟨t, rfl⟩ := r; exact ⟨_, Reads.int i t, List.not_mem_nil⟩
  | .str x, _, _, h, r => by cases h; obtain ⟨t, rfl⟩ := r; exact ⟨_, Reads.str x t, List.not_mem_nil⟩
  | .list ds, _, _, h, r => by
    cases h with
    | lst n m e hs =>
      cases r
      obtain ⟨its, rv, ⟨o, k, ho, hc, _, hd⟩, _⟩ := I.list (SqL.of e)
      obtain ⟨as, hr, hn⟩ := LDs.reads I ds _ its hs rv
      refine ⟨_, Reads.list ho hc hd hr, fun z => ?_⟩
      rcases List.mem_cons.mp z with z | z
      · exact m z.symm
      · exact hn z
  | .tuple ds, _, _, h, r => by
    cases h with
    | tup n e hs =>
      cases r
      obtain ⟨its, rv, ⟨o, ho, hc, k, hd⟩, _⟩ := I.tuple (SqT.of e)
      obtain ⟨as, hr, hn⟩ := LDs.reads I ds _ its hs rv
      exact ⟨_, Reads.tuple ho hc hd hr, hn⟩
  | .dict _, _, _, h, r => by
    cases h with
    | @dic a n e =>
      cases r
      obtain ⟨_, low, vs, rel, o, es, ep, ho, ex, hd, _, pr, _⟩ := dk_of I.hok e
      cases rel
      have hes : es.toList = [] := List.eq_nil_of_length_eq_zero (Pairs.length pr)
      refine ⟨_, Reads.dict (kvs := []) ho ex.1 hd (by rw [hes]; exact .nil) (by rw [hes]; exact .nil), fun z => ?_⟩
      have z' : sysModules = a := by simpa using z
      rw [← z'] at low
      simp at low
    | @dct a n e =>
      cases r
      obtain ⟨_, low, xs, rel, o, es, ep, ho, ex, hd, pr, _⟩ := dt_of I.hok e
      cases rel
      have hes : es.toList = [] := pr
      refine ⟨_, Reads.dict (kvs := []) ho ex.1 hd (by rw [hes]; exact .nil) (by rw [hes]; exact .nil), fun z => ?_⟩
      have z' : sysModules = a := by simpa using z
      rw [← z'] at low
      simp at low
theorem LDs.reads (I : L2.Inv X pins σ H s) : ∀ (ds : List PyData) (vs : List V) (us : List Value), LDs p H vs ds → Vals vs us → ∃ as, ReadsAll s.heap us ds as ∧ sysModules ∉ as
  | [], _, _, h, r => by cases h; cases r; exact ⟨_, ReadsAll.nil, List.not_mem_nil⟩
  | d :: ds, _, _, h, r => by
    cases h with
    | cons h1 h2 =>
      cases r with
      | cons r1 r2 =>
        obtain ⟨as, q1, n1⟩ := LD.reads I d _ _ h1 r1
        obtain ⟨bs, q2, n2⟩ := LDs.reads I ds _ _ h2 r2
        refine ⟨_, ReadsAll.cons q1 q2, fun z => ?_⟩
        rcases List.mem_append.mp z with z | z
        · exact n1 z
        · exact n2 z
end
end
/-- its type -/
def tyN : PyData → String
  | .none => "NoneType"
  | .bool _ => "bool"
  | .int _ => "int"
  | .str _ => "str"
  | .list _ => "list"
  | .tuple _ => "tuple"
  | .dict _ => "dict"
theorem LD.ty {K : PySem.W.Frag} {p : Addr} {H : Hp} {v : V} {d : PyData} (h : LD p H v d) : TyX K H v (.type (tyN d)) := by
  cases h with
  | non => exact .base .non
  | bl b => exact .base (.bl b)
  | int i => exact .base (.int i)
  | str x => exact .base (.str x)
  | tup n e r => exact .base (.tup e)
  | lst n m e r => exact .base (.lst e)
  | dic n e => exact .base (.dK e)
  | dct n e => exact .base (.dT e)
def isIntD : PyData → Bool
  | .int _ => true
  | .bool _ => true
  | _ => false
def isBoolD : PyData → Bool
  | .bool _ => true
  | _ => false
def isTupD : PyData → Bool
  | .tuple _ => true
  | _ => false
theorem kit_int (K : PySem.W.Frag) (d : PyData) : PySem.W.kitOne K (.type (tyN d)) (.type "int") = some (isIntD d) := by
  cases d <;> first | rfl | decide +kernel | kernel_rfl
theorem kit_bool (K : PySem.W.Frag) (d : PyData) : PySem.W.kitOne K (.type (tyN d)) (.type "bool") = some (isBoolD d) := by
  cases d <;> first | rfl | decide +kernel | kernel_rfl
theorem kit_tup (K : PySem.W.Frag) (d : PyData) : PySem.W.kitOne K (.type (tyN d)) (.type "tuple") = some (isTupD d) := by
  cases d <;> first | rfl | decide +kernel | kernel_rfl
section
variable {X : Cx}
/-- isinstance(x, T) -/
def rIsL (T : String) (f : PyData → Bool) : List V → Hp → VK → Prop := fun xs H Q => ∃ p v d, xs = [v, .ty T] ∧ LD p H v d ∧ Q (.bl (f d)) H
theorem call_isL {T : String} {f : PyData → Bool} (hf : ∀ K d, PySem.W.kitOne K (.type (tyN d)) (.type T) = some (f d)) : CallR X (.builtin "isinstance") (rIsL T f) := by
  intro pins s σ H xs us Q I r h
  obtain ⟨p, v, d, rfl, hv, q⟩ := h
  exact call_isi pins s σ H _ us Q I r ⟨v, .ty T, _, _, _, rfl, .ty T, hv.ty, hf _ d, q⟩
/-- repr -/
def rReprL : List V → Hp → VK → Prop := fun xs H Q => ∃ p v d, xs = [v] ∧ LD p H v d ∧ d.showable = true ∧ d.depth ≤ 60 ∧ d.shown.length ≤ sizeLine ∧ Q (.str d.shown) H
theorem call_reprL (gd : X.A.guards = some []) (hu : X.A.units + 64 < cLine) : CallR X (.builtin "repr") rReprL := by
  intro pins s σ H xs us Q I r h
  obtain ⟨p, v, d, rfl, hv, hs, hd, hz, q⟩ := h
  by_cases hn : d.hasDict = false ∧ ∀ a, v ≠ .ref a
  · have dp : Dp X.K H v d := by
      cases hv with
      | non => exact .non
      | bl b => exact .bl b
      | int i => exact .int i
      | str x => exact .str x
      | tup n e r => exact absurd rfl (hn.2 _)
      | lst n m e r => exact absurd rfl (hn.2 _)
      | dic n e => exact absurd rfl (hn.2 _)
      | dct n e => exact absurd rfl (hn.2 _)
    exact call_reprD gd hu pins s σ H _ us Q I r ⟨v, d, rfl, dp, hs, hn.1, hd, hz, q⟩
  · obtain ⟨a, rfl⟩ : ∃ a, v = .ref a := by
      cases hv with
      | non => exact absurd ⟨rfl, fun _ z => by cases z⟩ hn
      | bl b => exact absurd ⟨rfl, fun _ z => by cases z⟩ hn
      | int i => exact absurd ⟨rfl, fun _ z => by cases z⟩ hn
      | str x => exact absurd ⟨rfl, fun _ z => by cases z⟩ hn
      | tup n e r => exact ⟨_, rfl⟩
      | lst n m e r => exact ⟨_, rfl⟩
      | dic n e => exact ⟨_, rfl⟩
      | dct n e => exact ⟨_, rfl⟩
    obtain ⟨u, rfl, ru⟩ := vals1 r
    obtain rfl : u = Value.ref a := ru
    obtain ⟨as, rd, low⟩ := LD.reads I d _ _ hv rfl
    exact repr_of_reads' rd hs (fun _ => low) gd (by omega) (fun _ _ z => z) (fun h' u' tk hk => ⟨.str d.shown, H, I.kept (fun b o z => hk b o z), ⟨_, rfl⟩, q⟩) hz
/-- list(t), where it lies -/
def rLstL : List V → Hp → VK → Prop := fun xs H Q => ∃ a ys, xs = [.ref a] ∧ H a = some (.tup ys) ∧ ∀ l, H l = none → l ≠ sysModules → Q (.ref l) (upd H l (.lst ys))
theorem call_lstL : CallR X (.type "list") rLstL := by
  intro pins s σ H xs us Q I r h
  obtain ⟨a, ys, rfl, ha, q⟩ := h
  obtain ⟨u, rfl, rx⟩ := vals1 r
  obtain rfl : u = Value.ref a := rx
  obtain ⟨its, rv, ⟨o, ho, hc, n, hd⟩, hz⟩ := I.tuple (SqT.of ha)
  have hl := rv.length
  refine call_list_seq a (.inr rfl) ho hc hd (fun h' c' kp e => ?_) (by simp only [List.size_toArray] <;> omega)
  exact ⟨.ref s.heap.objs.size, _, I.laid (t' := s.toks) kp (Nat.le_refl _) (show ObjOk X.prog X.w _ h' _ (.lst ys) from ⟨hz, its, c', rv, e⟩), rfl, q _ (I.hok.fresh (Nat.le_refl _)) (Nat.ne_of_gt I.big)⟩
/-- t != () -/
def rNe0 : R2 := fun x y H Q => ∃ a b xs, x = .ref a ∧ y = .ref b ∧ H a = some (.tup xs) ∧ H b = some (.tup []) ∧ Q (.bl (!xs.isEmpty)) H
theorem op_ne0 (hu : X.A.units + 64 < cLine) : OpR X (compareOp .NotEq) rNe0 := by
  intro pins s σ H x y v u Q I rx ry h
  obtain ⟨a, b, xs, rfl, rfl, ha, hb, q⟩ := h
  cases rx
  cases ry
  obtain ⟨its, r1, t1, _⟩ := I.tuple (SqT.of ha)
  obtain ⟨its2, r2, t2, _⟩ := I.tuple (SqT.of hb)
  cases r2
  have l1 := r1.length
  refine SeqAt.RcNeAt.tuples (e := fun _ => true) t1 t2 (by omega) (fun j _ h2 => absurd h2 (Nat.not_lt_zero _)) X.prog X.w X.xe (EP X pins σ Q) ⟨.bl _, H, I, rfl, ?_⟩
  have e : (!((List.range (min its.toArray.size ([] : List Value).toArray.size)).all (fun _ => true) && its.toArray.size == ([] : List Value).toArray.size)) = !xs.isEmpty := by
    cases xs with
    | nil => cases r1; rfl
    | cons z zs => cases r1; simp
  rw [e]
  exact q
/-- two pairs of texts, != -/
def rNeS : R2 := fun x y H Q => ∃ a b s1 s2 t1 t2, x = .ref a ∧ y = .ref b ∧ H a = some (.tup [.str s1, .str s2]) ∧ H b = some (.tup [.str t1, .str t2]) ∧ Q (.bl (!(s1 == t1 && s2 == t2))) H
theorem op_neS (hu : X.A.units + 64 < cLine) : OpR X (compareOp .NotEq) rNeS := by
  intro pins s σ H x y v u Q I rx ry h
  obtain ⟨a, b, s1, s2, t1, t2, rfl, rfl, ha, hb, q⟩ := h
  cases rx
  cases ry
  obtain ⟨its, r1, T1, _⟩ := I.tuple (SqT.of ha)
  obtain ⟨its2, r2, T2, _⟩ := I.tuple (SqT.of hb)
  obtain ⟨a1, a2, rfl, ra1, ra2⟩ := vals2 r1
  obtain ⟨b1, b2, rfl, rb1, rb2⟩ := vals2 r2
  obtain ⟨k1, rfl⟩ := ra1
  obtain ⟨k2, rfl⟩ := ra2
  obtain ⟨k3, rfl⟩ := rb1
  obtain ⟨k4, rfl⟩ := rb2
  refine SeqAt.RcNeAt.tuples (e := fun j => if j = 0 then s1 == t1 else s2 == t2) T1 T2 (by omega) (fun j h1 h2 => ?_) X.prog X.w X.xe (EP X pins σ Q) ⟨.bl _, H, I, rfl, ?_⟩
  · match j, h1, h2 with
    | 0, _, _ => exact SeqAt.EqAt.str_str _ _ _ _
    | 1, _, _ => exact SeqAt.EqAt.str_str _ _ _ _
  · have e : ((List.range (min 2 2)).all (fun j => if j = 0 then s1 == t1 else s2 == t2) && (2 == 2 : Bool)) = (s1 == t1 && s2 == t2) := by
      simp [List.range, List.range.loop]
    show Q (.bl (!((List.range (min 2 2)).all (fun j => if j = 0 then s1 == t1 else s2 == t2) && (2 == 2 : Bool)))) H
    rw [e]
    exact q
/-- t[lo:hi], t + u -/
def rSlL (p : Addr) : V → Option Int → Option Int → Hp → VK → Prop := fun x lo hi H Q => ∃ ds, LD p H x (.tuple ds) ∧ H p ≠ none ∧ ∀ a H', Same H H' → LD p H' (.ref a) (.tuple (cutA ds lo hi)) → Q (.ref a) H'
theorem LDs.cut {p : Addr} {H : Hp} {xs : List V} {ds : List PyData} (h : LDs p H xs ds) (lo hi : Option Int) : LDs p H (cutV xs lo hi) (cutA ds lo hi) := by
  unfold cutV cutA
  rw [h.length]
  exact (h.drop _).take _
theorem LD.isTup {p : Addr} {H : Hp} {v : V} {ds : List PyData} (h : LD p H v (.tuple ds)) : ∃ a xs, v = .ref a ∧ a ≠ p ∧ H a = some (.tup xs) ∧ LDs p H xs ds := by
  cases h with
  | tup n e r => exact ⟨_, _, rfl, n, e, r⟩
theorem ne_at {p q : Addr} {H : Hp} (hp : H p ≠ none) (hq : H q = none) : q ≠ p := fun e => hp (e ▸ hq)
theorem sl_L {p : Addr} : SlR X (rSlL p) := by
  intro pins s σ H x v vl vu lo hi sl Q I rx hs pl pu h
  refine sl_tupA pins s σ H x v vl vu lo hi sl Q I rx hs pl pu ?_
  obtain ⟨ds, hT, hp, q⟩ := h
  obtain ⟨a, xs, rfl, n, ha, hx⟩ := hT.isTup
  refine ⟨a, xs, rfl, SqT.of ha, ?_, ?_⟩
  · rintro ⟨e1, e2⟩
    refine q a H (Same.refl H) ?_
    have e : cutA ds lo hi = ds := by
      unfold cutA
      rw [← hx.length, e1, e2, List.drop_zero, Nat.sub_zero]
      exact List.take_of_length_le (by rw [hx.length]; exact Nat.le_refl _)
    rw [e]
    exact hT
  · intro _ t nt
    exact q t _ (same_new nt) (.tup (ne_at hp nt) upd_same (LDs.mono (But.same (same_new nt)) _ (hx.cut lo hi)))
def rCatL (p : Addr) : R2 := fun x y H Q => ∃ ds es, LD p H x (.tuple ds) ∧ LD p H y (.tuple es) ∧ H p ≠ none ∧ ds.length + es.length ≤ 100000 ∧ ∀ a H', Same H H' → LD p H' (.ref a) (.tuple (ds ++ es)) → Q (.ref a) H'
theorem op_catL {p : Addr} : OpR X (binaryOp .Add) (rCatL p) := opImp op_catA fun x y H Q h => by
  obtain ⟨ds, es, h1, h2, hp, hl, q⟩ := h
  obtain ⟨a, xs, rfl, n1, ha, hx⟩ := h1.isTup
  obtain ⟨b, ys, rfl, n2, hb, hy⟩ := h2.isTup
  have lx := hx.length
  have ly := hy.length
  refine ⟨a, b, xs, ys, rfl, rfl, SqT.of ha, SqT.of hb, ?_, ?_, ?_, ?_⟩
  · rw [lx, ly]
    exact Nat.le_trans hl (by decide)
  · intro e
    subst e
    cases hx
    exact q b H (Same.refl H) h2
  · intro _ e
    subst e
    cases hy
    exact q a H (Same.refl H) (by rw [List.append_nil]; exact h1)
  · intro _ _ t nt
    exact q t _ (same_new nt) (.tup (ne_at hp nt) upd_same (LDs.mono (But.same (same_new nt)) _ (hx.app hy)))
end
/-! small enough to be shown -/
mutual
def wt : PyData → Nat
  | .list xs => wts xs + 1
  | .tuple xs => wts xs + 1
  | .dict _ => 1
  | _ => 1
def wts : List PyData → Nat
  | [] => 0
  | x :: r => wt x + wts r
end
mutual
def Sm : PyData → Prop
  | .int i => i.natAbs < 10 ^ 99
  | .str x => (reprText x).length ≤ 100
  | .list xs => Sms xs
  | .tuple xs => Sms xs
  | .dict kvs => kvs = []
  | _ => True
def Sms : List PyData → Prop
  | [] => True
  | x :: r => Sm x ∧ Sms r
end
theorem Sms.get : ∀ {ds : List PyData} {i : Nat} {d : PyData}, Sms ds → ds[i]? = some d → Sm d
  | _ :: _, 0, _, h, e => by simp at e; exact e ▸ h.1
  | _ :: r, i + 1, _, h, e => Sms.get (ds := r) (i := i) h.2 (by simpa using e)
theorem Sms.app : ∀ {ds es : List PyData}, Sms ds → Sms es → Sms (ds ++ es)
  | [], _, _, h => h
  | _ :: _, _, h, g => ⟨h.1, Sms.app h.2 g⟩
theorem Sms.take : ∀ {ds : List PyData} (n : Nat), Sms ds → Sms (ds.take n)
  | _, 0, _ => trivial
  | [], _ + 1, _ => trivial
  | _ :: _, n + 1, h => ⟨h.1, Sms.take n h.2⟩
theorem Sms.drop : ∀ {ds : List PyData} (n : Nat), Sms ds → Sms (ds.drop n)
  | _, 0, h => h
  | [], _ + 1, _ => trivial
  | _ :: _, n + 1, h => Sms.drop n h.2
theorem wts_app : ∀ (ds es : List PyData), wts (ds ++ es) = wts ds + wts es
  | [], es => by simp [wts]
  | d :: r, es => by
    simp only [List.cons_append, wts, wts_app r es]
    omega
theorem wts_take_drop (ds : List PyData) (n : Nat) : wts (ds.take n) + wts (ds.drop n) = wts ds := by
  rw [← wts_app, List.take_append_drop]
theorem wts_get : ∀ {ds : List PyData} {i : Nat} {d : PyData}, ds[i]? = some d → wt d ≤ wts ds
  | _ :: _, 0, _, e => by
    simp at e
    subst e
    simp only [wts]
    omega
  | _ :: r, i + 1, _, e => by
    have := wts_get (ds := r) (i := i) (by simpa using e)
    simp only [wts]
    omega
theorem depthAll_app : ∀ (ds es : List PyData), PyData.depthAll (ds ++ es) = max (PyData.depthAll ds) (PyData.depthAll es)
  | [], es => by simp [PyData.depthAll]
  | d :: r, es => by
    simp only [List.cons_append, PyData.depthAll, depthAll_app r es]
    omega
theorem depth_get : ∀ {ds : List PyData} {i : Nat} {d : PyData}, ds[i]? = some d → d.depth ≤ PyData.depthAll ds
  | _ :: _, 0, _, e => by
    simp at e
    subst e
    simp only [PyData.depthAll]
    omega
  | _ :: r, i + 1, _, e => by
    have := depth_get (ds := r) (i := i) (by simpa using e)
    simp only [PyData.depthAll]
    omega
theorem depth_cut (ds : List PyData) (n : Nat) : PyData.depthAll (ds.take n) ≤ PyData.depthAll ds ∧ PyData.depthAll (ds.drop n) ≤ PyData.depthAll ds := by
  have h := depthAll_app (ds.take n) (ds.drop n)
  rw [List.take_append_drop] at h
  omega
mutual
theorem sm_shown : ∀ d : PyData, Sm d → d.showable = true ∧ d.shown.length + 2 ≤ 110 * wt d
  | .none, _ => ⟨rfl, by decide⟩
  | .bool b, _ => ⟨rfl, by cases b <;> decide⟩
  | .int i, h => by
    have n := Nice.int h
    refine ⟨n.sho, ?_⟩
    have := n.len
    show _ ≤ 110 * 1
    omega
  | .str x, h => by
    refine ⟨rfl, ?_⟩
    have h' : (reprText x).length ≤ 100 := h
    show (reprText x).length + 2 ≤ 110 * 1
    omega
  | .list xs, h => by
    obtain ⟨a, b, c⟩ := sms_shown xs h
    refine ⟨a, ?_⟩
    have l := listText_len_le (PyData.shownAll xs)
    simp only [PyData.shown, wt]
    omega
  | .tuple xs, h => by
    obtain ⟨a, b, c⟩ := sms_shown xs h
    refine ⟨a, ?_⟩
    have l := tupleText_len_le (PyData.shownAll xs)
    simp only [PyData.shown, wt]
    omega
  | .dict kvs, h => by
    have h' : kvs = [] := h
    subst h'
    exact ⟨rfl, by decide⟩
theorem sms_shown : ∀ ds : List PyData, Sms ds → PyData.showableAll ds = true ∧ ((PyData.shownAll ds).map (·.length)).sum + 2 * (PyData.shownAll ds).length ≤ 110 * wts ds ∧ (PyData.shownAll ds).length = ds.length
  | [], _ => ⟨rfl, by decide, rfl⟩
  | d :: ds, h => by
    obtain ⟨a, b⟩ := sm_shown d h.1
    obtain ⟨c, e, f⟩ := sms_shown ds h.2
    refine ⟨by simp only [PyData.showableAll, a, c, Bool.and_self], ?_, by simp only [PyData.shownAll, List.length_cons, f]⟩
    simp only [PyData.shownAll, List.map_cons, List.sum_cons, List.length_cons, wts]
    omega
end
end Sb

/-! o.m(..), C(..): calls of promises that know that no repr is under way. -/
namespace Sb
open PySem PySem.Spec PyProof.Rows L2
/-- how a method's call is read -/
abbrev MethForm (X : Cx) (o : Expr) (m : Str) (es : List Expr) (pos apos : Pos) (pl : Sem Bool) : Prop :=
  eval (.Call (.Attribute o m apos) es [] pos) X.env = (do let ov ← eval o X.env; standAt apos.atName; let (f, first) ← holding [ov] (getMethod ov m pl); callWith pos f first (backTo pos (starEach es X.env)) (backToKw pos (keywordEach [] X.env)))
section
variable {X : Cx} {CX : CXT} {k : Nat} {f C : Addr} {fd : FuncData} {ps : List Str} {sp : Sp} {dvs : List V} {ds : List Value} {x m : Str} {p pos apos : Pos} {e o : Expr} {es : List Expr} {ta : TE} {t : TA} {E : XK}
/-- o.m(e, ..) -/
theorem pe_methG {pl : Sem Bool} (ho : PE X o ta) (c : Cls X.K C) (hm : Meth X.K C m f) (F : FnG X.prog X.w X.K X.mg X.base CX k f fd ps sp) (gd : X.A.guards = some []) (hr : Room k X.A) (hb : Binds X.K fd ps ds) (hd : Vals dvs ds) (hx : Passes CX X E) (ha : PA X (e :: es) t)
    (hst : starEach (e :: es) X.env = (false, eval e X.env) :: starEach es X.env := by rfl) (hpl : (backTo pos (starEach es X.env)).any (·.1) = false := by rfl)
    (ht : MethForm X o m (e :: es) pos apos pl := by rfl) : PE X (.Call (.Attribute o m apos) (e :: es) [] pos) (tMeth C m sp dvs E ta t) := by
  constructor
  intro pins s σ H Q I h
  refine PySem.W.methodCall_KW (pl := pl) (thn (ho.run pins s σ H _ I h) ?_) ht
  rintro u s1 ⟨y, H1, I1, ry, a, dx, fs, rfl, ea, l, q⟩
  obtain rfl : u = Value.ref a := ry
  refine getmeth_ok I1 ea c hm l ?_
  refine PySem.W.callWith_K (first := [.ref a]) (h₀ := X.base) I.ok.mod.kin hm.kp (thn (ha.run pos pins s1 σ H1 _ I1 q) ?_) hst hpl
  rintro us s2 ⟨vs, H2, I2, r, q2⟩
  exact ⟨I2.kIn, runG (us := .ref a :: us) (vs := .ref a :: vs) F gd hr hb hd (fun er s' z => hx pins σ H2 s2 er s' I2 z) I2 (.cons rfl r) q2⟩
/-- o.m() -/
theorem pe_meth0G {pl : Sem Bool} (ho : PE X o ta) (c : Cls X.K C) (hm : Meth X.K C m f) (F : FnG X.prog X.w X.K X.mg X.base CX k f fd ps sp) (gd : X.A.guards = some []) (hr : Room k X.A) (hb : Binds X.K fd ps ds) (hd : Vals dvs ds) (hx : Passes CX X E)
    (ht : MethForm X o m [] pos apos pl := by rfl) : PE X (.Call (.Attribute o m apos) [] [] pos) (tMeth C m sp dvs E ta tNil) := by
  constructor
  intro pins s σ H Q I h
  refine PySem.W.methodCall_KW (pl := pl) (thn (ho.run pins s σ H _ I h) ?_) ht
  rintro u s1 ⟨y, H1, I1, ry, a, dx, fs, rfl, ea, l, q⟩
  obtain rfl : u = Value.ref a := ry
  refine getmeth_ok I1 ea c hm l ?_
  exact PySem.W.callWith_K0 (first := [.ref a]) I1.kIn hm.kp (runG (us := [.ref a]) (vs := [.ref a]) F gd hr hb hd (fun er s' z => hx pins σ H1 s1 er s' I1 z) I1 (.cons rfl .nil) q)
/-- the same, what is raised wished for at the slots -/
theorem pe_methGS {pl : Sem Bool} {E : L2.St → XK} (ho : PE X o ta) (c : Cls X.K C) (hm : Meth X.K C m f) (F : FnG X.prog X.w X.K X.mg X.base CX k f fd ps sp) (gd : X.A.guards = some []) (hr : Room k X.A) (hb : Binds X.K fd ps []) (hx : ∀ σ, PassesAt CX X σ (E σ)) (ha : PA X (e :: es) t)
    (hst : starEach (e :: es) X.env = (false, eval e X.env) :: starEach es X.env := by rfl) (hpl : (backTo pos (starEach es X.env)).any (·.1) = false := by rfl)
    (ht : MethForm X o m (e :: es) pos apos pl := by rfl) : PE X (.Call (.Attribute o m apos) (e :: es) [] pos) (fun σ H Q => tMeth C m sp [] (E σ) ta t σ H Q) := by
  constructor
  intro pins s σ H Q I h
  refine PySem.W.methodCall_KW (pl := pl) (thn (ho.run pins s σ H _ I h) ?_) ht
  rintro u s1 ⟨y, H1, I1, ry, a, dx, fs, rfl, ea, l, q⟩
  obtain rfl : u = Value.ref a := ry
  refine getmeth_ok I1 ea c hm l ?_
  refine PySem.W.callWith_K (first := [.ref a]) (h₀ := X.base) I.ok.mod.kin hm.kp (thn (ha.run pos pins s1 σ H1 _ I1 q) ?_) hst hpl
  rintro us s2 ⟨vs, H2, I2, r, q2⟩
  exact ⟨I2.kIn, runG (us := .ref a :: us) (vs := .ref a :: vs) F gd hr hb .nil (fun er s' z => hx σ pins H2 s2 er s' I2 z) I2 (.cons rfl r) q2⟩
/-- C(e, ..) -/
theorem make_runG {pins : List (Addr × Obj)} {σ : L2.St} {H : Hp} {s : Shared} {Q : VK} {us : List Value} {vs : List V} (M : Mk X.K C f) (F : FnG X.prog X.w X.K X.mg X.base CX k f fd ps sp) (gd : X.A.guards = some []) (hr : Room (k + 1) X.A) (hb : Binds X.K fd ps ds) (hd : Vals dvs ds)
    (hx : ∀ (e : Value) (s' : Shared) (H0 : Hp) (s0 : Shared), L2.Inv X pins σ H0 s0 → CX X.stack H0 s0 E e s' → X.xe e s') (I : L2.Inv X pins σ H s) (r : Vals vs us)
    (h : ∀ x dx, H x = none → H dx = none → dx ≠ x → sp (.ref x :: (vs ++ dvs)) (upd (upd H dx (.own x)) x (.ins C dx [])) (fun v H2 => v = .non ∧ Q (.ref x) H2) E) : wpAny (model X.prog X.w) X.A (call (.ref C) us) (EP X pins σ Q) X.xe s := by
  have q := h (s.heap.objs.size + 1) s.heap.objs.size (I.hok.fresh (Nat.le_succ _)) (I.hok.fresh (Nat.le_refl _)) (Nat.ne_of_lt (Nat.lt_succ_self _))
  have J := Inv.made (C := C) I
  have rr : Vals (V.ref (s.heap.objs.size + 1) :: (vs ++ dvs)) (Value.ref (s.heap.objs.size + 1) :: (us ++ ds)) := .cons rfl (r.append hd)
  have nl : (Value.ref (s.heap.objs.size + 1) :: us ++ ds).length = ps.length := rr.length ▸ F.len _ _ _ _ q
  apply wpAny_call
  refine make_map (f := f) I.kIn M.makes M.init (beq_iff_eq.mp M.fn) ?_
  refine codeAny_mono (F.run _ X.stack _ _ ⟨Value.ref (s.heap.objs.size + 1) :: us, []⟩ (Value.ref (s.heap.objs.size + 1) :: (us ++ ds)) _ _ E gd (hr.make C us []) (J.env0.make C us []) (hb _ (Value.ref (s.heap.objs.size + 1) :: us) J.kIn nl) rr q) ?_
  intro res s' z
  match res, z with
  | .error er, z => exact hx er s' _ _ J z
  | .ok (.ret u), z =>
    obtain ⟨v, H', J', rv, rfl, q'⟩ := J.after z
    exact ⟨rv, V.ref (s.heap.objs.size + 1), H', J', rfl, q'⟩
  | .ok .next, z => exact z.elim
  | .ok .brk, z => exact z.elim
  | .ok .cont, z => exact z.elim
theorem pe_makeG (M : Mk X.K C f) (F : FnG X.prog X.w X.K X.mg X.base CX k f fd ps sp) (gd : X.A.guards = some []) (hr : Room (k + 1) X.A) (hg : Gl X x) (hm : X.mg x = some (.ref C)) (hb : Binds X.K fd ps ds) (hd : Vals dvs ds) (hx : Passes CX X E) (ha : PA X (e :: es) t)
    (hdb : (x == ("__debug__" : Str)) = false := by decide) (he : starEach (e :: es) X.env = (false, eval e X.env) :: starEach es X.env := by rfl) (hpl : (backTo pos (starEach es X.env)).any (·.1) = false := by rfl) : PE X (.Call (.Name x p) (e :: es) [] pos) (tMake C sp dvs E t) := by
  constructor
  intro pins s σ H Q I h
  apply wpAny_Call_Name_kw
  apply ld_glob I hg hm _ hdb
  apply PySem.W.callWith_K (h₀ := X.base) I.ok.mod.kin M.kp _ he hpl
  refine thn (ha.run pos pins s σ H _ I h) ?_
  rintro us s1 ⟨vs, H1, I1, r, q⟩
  exact ⟨I1.kIn, make_runG M F gd hr hb hd (fun er s' H0 s0 J z => hx pins σ H0 s0 er s' J z) I1 r q⟩
/-- the same, what is raised wished for at the slots -/
def tMakeS (C : Addr) (sp : Sp) (E : L2.St → XK) (t : TA) : TE := fun σ H Q => tMake C sp [] (E σ) t σ H Q
theorem pe_makeGS {E : L2.St → XK} (M : Mk X.K C f) (F : FnG X.prog X.w X.K X.mg X.base CX k f fd ps sp) (gd : X.A.guards = some []) (hr : Room (k + 1) X.A) (hg : Gl X x) (hm : X.mg x = some (.ref C)) (hb : Binds X.K fd ps []) (hx : ∀ σ, PassesAt CX X σ (E σ)) (ha : PA X (e :: es) t)
    (hdb : (x == ("__debug__" : Str)) = false := by decide) (he : starEach (e :: es) X.env = (false, eval e X.env) :: starEach es X.env := by rfl) (hpl : (backTo pos (starEach es X.env)).any (·.1) = false := by rfl) : PE X (.Call (.Name x p) (e :: es) [] pos) (tMakeS C sp E t) := by
  constructor
  intro pins s σ H Q I h
  apply wpAny_Call_Name_kw
  apply ld_glob I hg hm _ hdb
  apply PySem.W.callWith_K (h₀ := X.base) I.ok.mod.kin M.kp _ he hpl
  refine thn (ha.run pos pins s σ H _ I h) ?_
  rintro us s1 ⟨vs, H1, I1, r, q⟩
  exact ⟨I1.kIn, make_runG M F gd hr hb .nil (fun er s' H0 s0 J z => hx σ pins H0 s0 er s' J z) I1 r q⟩
/-- len(x), x's class has its own __len__ -/
def rLenG (C : Addr) (sp : Sp) : List V → Hp → VK → Prop := fun xs H Q => ∃ (a dx : Addr) (fs : List (Str × V)), xs = [.ref a] ∧ H a = some (.ins C dx fs) ∧
  sp [.ref a] H (fun v H2 => ∃ n : Nat, v = .int n ∧ n ≤ 1000 ∧ Q (.int n) H2) fun _ _ _ => False
theorem call_lenG {sp : Sp} (at_ : PySem.W.findIn X.K (.ref C) "__len__" = some (some (.ref f))) (tf : PySem.W.typeIn X.K (.ref f) = some (.type "function")) (F : FnG X.prog X.w X.K X.mg X.base CX0 k f fd ps sp) (gd : X.A.guards = some []) (hr : Room (k + 1) X.A) (hb : Binds X.K fd ps []) :
    CallR X (.builtin "len") (rLenG C sp) := by
  intro pins s σ H xs us Q I r h
  obtain ⟨a, dx, fs, rfl, ha, want⟩ := h
  obtain ⟨u, rfl, ru⟩ := vals1 r
  obtain rfl : u = Value.ref a := ru
  obtain ⟨mA, O, _⟩ := ins_get I.hok ha
  obtain ⟨od, J, _⟩ := O.look
  refine PySem.Calls.call_function_entry kind_len plain_len entry_len (args_len1 _) ?_
  unfold Builtin.«len»
  refine wpAny_bind (m := oneArg "len" _) ?_
  apply wpAny_pure
  have nl : ([.ref a] : List Value).length = ps.length := by
    have z := F.len _ _ _ _ want
    exact z
  have run := F.run X.A.in1 X.stack s H ⟨[.ref a], []⟩ [.ref a] [.ref a] _ _ gd hr.in1 I.env0.in1 (hb s [.ref a] I.kIn (by rw [List.append_nil]; exact nl)) (.cons rfl .nil) want
  refine wpAny_bind (m := callSpecial? (.ref a) (Str.ofString "__len__")) (PySem.W.special_fn I.kIn J at_ tf (wpAny_call (codeAny_mono run ?_)))
  intro res s' z
  match res, z with
  | .error er, z => exact z.elim
  | .ok .next, z => exact z.elim
  | .ok .brk, z => exact z.elim
  | .ok .cont, z => exact z.elim
  | .ok (.ret u), z =>
    obtain ⟨v, H', J', rv, n, rfl, hn, q⟩ := I.after z
    obtain ⟨t, rfl⟩ := rv
    show wpAny _ _ (holding [Value.int (n : Int) t] (asIndex (Value.int (n : Int) t)) >>= _) _ _ s'
    refine wpAny_bind (wpAny_holding (wpAny_pure ?_))
    refine wpAny_bind (wpAny_letGo ?_)
    have e1 : ¬ ((n : Nat) : Int) < 0 := by omega
    have e2 : ¬ ((n : Nat) : Int) ≥ 2 ^ 63 := by omega
    show wpAny _ _ (if ((n : Nat) : Int) < 0 then _ else _) _ _ _
    rw [if_neg e1]
    show wpAny _ _ (if ((n : Nat) : Int) ≥ 2 ^ 63 then _ else _) _ _ _
    rw [if_neg e2]
    refine wpAny_bind (wpAny_mkInt ?_)
    apply wpAny_pure
    exact ⟨_, rfl, .int n, H', J'.tok _, ⟨_, rfl⟩, q⟩
end
end Sb

/-! try with several clauses, each with a name or without. -/
namespace Sb
open PySem PySem.Spec PyProof.Rows L2
abbrev TSx := Addr → Value → Option Addr → TS
/-- behind a named clause its name is gone -/
def gone (i : Nat) (D : Ends) : Ends := { nx := fun σ H => D.nx (σ.set i none) H, rt := D.rt, bk := fun σ H => D.bk (σ.set i none) H, ct := fun σ H => D.ct (σ.set i none) H }
/-- what a clause asks once it is the one -/
def onCl (nm : Option Nat) (ts : TSx) (D : Ends) : WX := fun cls d σ H => match nm with
  | none => ∀ a, H a = none → ts a cls d D σ H
  | some i => ∀ a, H a = none → ts a cls d (gone i D) (σ.set i (some (.ref a))) H
def wMix (K : PySem.W.Frag) (Wout : WX) (D : Ends) : List (Value × Option Nat × TSx) → WX
  | [] => Wout
  | (c, nm, ts) :: r => fun cls d σ H => ∃ b, PySem.W.exmOne K cls c = some b ∧ (b = true → onCl nm ts D cls d σ H) ∧ (b = false → wMix K Wout D r cls d σ H)
/-- a clause's suite, read in the suite's context -/
abbrev Suite (X : Cx) (b : List Stmt) (ts : TSx) : Prop := ∀ (a : Addr) (oe : Obj) (cls : Value) (d : Option Addr) (pn : List (Addr × Obj)), Zc cls d oe → (∃ vs, oe.data = .fields vs) → PSs (X.suite a ((a, oe) :: pn)) b (ts a cls d)
inductive MixOk (X : Cx) : List ExceptHandler → List (Value × Option Nat × TSx) → Prop
  | nil : MixOk X [] []
  | plain {x : Str} {c : Value} {ts : TSx} {b0 : Stmt} {b : List Stmt} {np p : Pos} {hds : List ExceptHandler} {l : List (Value × Option Nat × TSx)} (hc : Names X x c) (hsu : Suite X (b0 :: b) ts) (r : MixOk X hds l) :
      MixOk X (.ExceptHandler (some (.Name x np)) none (b0 :: b) p :: hds) ((c, none, ts) :: l)
  | named {x n : Str} {i : Nat} {c : Value} {ts : TSx} {b0 : Stmt} {b : List Stmt} {np p : Pos} {hds : List ExceptHandler} {l : List (Value × Option Nat × TSx)} (hi : X.N[i]? = some n) (hln : X.env.kindOf n = some .local) (hc : Names X x c) (hsu : Suite X (b0 :: b) ts) (r : MixOk X hds l) :
      MixOk X (.ExceptHandler (some (.Name x np)) (some n) (b0 :: b) p :: hds) ((c, some i, ts) :: l)
section
variable {X : Cx} {body : List Stmt} {h0 : ExceptHandler} {hds : List ExceptHandler} {l : List (Value × Option Nat × TSx)} {pos : Pos} {tb : WX → TS} {Wout : WX}
theorem ps_try_mix (hs : X.stack = X.env :: X.outer) (hf : X.env.frame = some X.env.locals) (hN : X.N.Nodup) (tk : L2.Takes X Wout)
    (hb : ∀ (W : WX) (pn : List (Addr × Obj)) (xe : Value → Shared → Prop), L2.Takes (X.tr pn xe) W → PassesOwn (model X.prog X.w) X.A X.env xe → PSs (X.tr pn xe) body (tb W)) (hh : MixOk X (h0 :: hds) l) :
    PS X (.Try body (h0 :: hds) [] [] pos) (fun D σ H => tb (wMix X.K Wout D l) D σ H) := by
  constructor
  intro pins s σ H D I h
  have ok := I.ok
  have hfr : X.A.frames = some (X.env :: X.outer) := hs ▸ ok.frames
  let XE : Value → Shared → Prop := fun e s1 => wpAny (model X.prog X.w) X.A (noteFrame e X.env) (fun _ s2 => wpAny (model X.prog X.w) X.A (setFlight e none) (fun _ s3 => wpAny (model X.prog X.w) X.A (handleBy e X.env (h0 :: hds)) (SP X pins D) X.xe s3) X.xe s2) X.xe s1
  have takes : L2.Takes (X.tr (X.pn ++ pins) XE) (wMix X.K Wout D l) := by
    rintro u s' ⟨a, B, sI, pins', σ', H', cls, d, rfl, J', nb, up, sky, na, os, ag, w⟩
    have J : L2.Inv X pins σ' H' sI := J'.ofTry ok
    replace sky : Sky B (X.env :: X.outer) a (Zc cls d) X.env.locals s'.heap := hs ▸ sky
    show wpAny (model X.prog X.w) X.A (noteFrame (.ref a) X.env) _ _ _
    refine Sky.land Zc.steady hfr hf sky fun h3 fl3 up3 => ?_
    have J3 : L2.Inv X pins σ' H' { s' with heap := h3 } := J.landed nb fl3.1 (up.trans up3) os ag
    obtain ⟨oe3, vs3, he3, hz3, hd3⟩ := fl3.there
    have off : a ∉ frs (X.env :: X.outer) := fun hm => by
      obtain ⟨_, o', e', hn⟩ := fl3.2.2.1.mem hm
      rw [he3] at e'
      cases e'
      exact hn _ hd3
    have nL : a ≠ X.env.locals := fun z => off (List.mem_filterMap.mpr ⟨X.env, List.mem_cons_self, z ▸ hf⟩)
    have nF : a ∉ X.fs := fun hm => by
      obtain ⟨e, he, q⟩ := List.mem_filterMap.mp hm
      exact off (List.mem_filterMap.mpr ⟨e, List.mem_cons_of_mem _ he, q⟩)
    have S3 := J3.suite he3 hd3 na nL nF
    have LT : PySem.W.Looks (model X.prog X.w) h3 (typeOf (.ref a)) cls := fun A Q E s k q => wpAny_typeOf_ref (k _ _ he3) (hz3.1 ▸ q)
    -- the clause's class is read
    have test : ∀ {x : Str} {c : Value} {np : Pos} {Q : Value → Shared → Prop} {E : Value → Shared → Prop}, Names X x c → Q c { s' with heap := h3 } → wpAny (model X.prog X.w) (X.A.mark (some (.ref a))) (eval (.Name x np) X.env) Q E { s' with heap := h3 } := by
      rintro x c np Q E ⟨hg, hdb, hm | ⟨hm, hv, hnn⟩⟩ q
      · exact ld_glob (X := X.suite a ((a, oe3) :: (X.pn ++ pins))) S3 hg hm q hdb
      · exact ld_blt (X := X.suite a ((a, oe3) :: (X.pn ++ pins))) S3 hg hm hv q hnn hdb
    have go : ∀ {hds' : List ExceptHandler} {l' : List (Value × Option Nat × TSx)}, MixOk X hds' l' → wMix X.K Wout D l' cls d σ' H' → wpAny (model X.prog X.w) X.A (handleBy (.ref a) X.env hds') (SP X pins D) X.xe { s' with heap := h3 } := by
      intro hds' l' hk
      induction hk with
      | nil =>
        intro w
        apply wpAny_handleBy_nil
        obtain ⟨k1, k2, k3, oe, vs, T, oT, ts', he, hz, hd, h1, hr⟩ := id fl3
        unfold PySem.passOn
        refine wpAny_bind (wpAny_field he hd h1 ?_)
        rw [if_neg (show ¬ ((Value.ref T == Value.none) = true) by simp)]
        have out : wpAny (model X.prog X.w) X.A (setFlight (.ref a) X.env.frame) (fun _ s4 => wpAny (model X.prog X.w) X.A (throw (.ref a) : Sem Flow) (SP X pins D) X.xe s4) X.xe { s' with heap := h3 } := by
          rw [hf]
          refine HandSPX.setFlight_upZ fl3 fun h4 hh4 up4 => wpAny_throw (tk _ _ ⟨a, B, sI, pins, σ', H', cls, d, rfl, J, nb, (up.trans up3).trans up4, .inr (.inr ?_), na, os, ag, w⟩)
          rw [hs]
          exact hh4
        first | exact wpAny_bind (wpAny_pure (wpAny_bind out)) | exact wpAny_bind out
      | @plain x c ts b0 b np p hds2 l2 hc hsu r ih =>
        rintro ⟨k, hk1, yes, no⟩
        refine wpAny_handleBy_cons (codeAny_handlers_test ?_) (fun q => by cases q)
        refine test hc ((PySem.W.exm_one (M := model X.prog X.w) J3.kIn LT hk1).here ?_)
        cases k with
        | false => exact ih (no rfl)
        | true =>
          refine codeAny_handlers_suite (HandSPX.lands_againZ fl3 fun h4 fl4 up4 => ?_)
          have J4 : L2.Inv X pins σ' H' { s' with heap := h4 } := J.landed nb fl4.1 ((up.trans up3).trans up4) os ag
          obtain ⟨oe4, vs4, he4, hz4, hd4⟩ := fl4.there
          refine wpAny_mono ((hsu a oe4 cls d (X.pn ++ pins) hz4 ⟨_, hd4⟩).run [] _ _ H' _ (J4.suite he4 hd4 na nL nF) (yes rfl a na)) ?_ (fun _ _ z => z.elim)
          intro f s6 hsp
          match f, hsp with
          | .next, ⟨σ6, H6, S6, q6⟩ => exact ⟨_, _, S6.unsuite ok, q6⟩
          | .brk, ⟨σ6, H6, S6, q6⟩ => exact ⟨_, _, S6.unsuite ok, q6⟩
          | .cont, ⟨σ6, H6, S6, q6⟩ => exact ⟨_, _, S6.unsuite ok, q6⟩
          | .ret u, ⟨v6, σ6, H6, S6, r6, q6⟩ => exact ⟨_, _, _, S6.unsuite ok, r6, q6⟩
      | @named x n i c ts b0 b np p hds2 l2 hi hln hc hsu r ih =>
        rintro ⟨k, hk1, yes, no⟩
        refine wpAny_handleBy_cons (codeAny_handlers_test ?_) (fun q => by cases q)
        refine test hc ((PySem.W.exm_one (M := model X.prog X.w) J3.kIn LT hk1).here ?_)
        cases k with
        | false => exact ih (no rfl)
        | true =>
          refine codeAny_handlers_suite_as (HandSPX.lands_againZ fl3 fun h4 fl4 up4 => ?_)
          have J4 : L2.Inv X pins σ' H' { s' with heap := h4 } := J.landed nb fl4.1 ((up.trans up3).trans up4) os ag
          obtain ⟨oe4, vs4, he4, hz4, hd4⟩ := fl4.there
          refine store_ok (X := X.suite a ((a, oe4) :: (X.pn ++ pins))) (v := .ref a) (J4.suite he4 hd4 na nL nF) hN hi (.inl hln) rfl (fun s5 S5 => ?_) (.inr hln)
          refine wpAny_mono ((hsu a oe4 cls d (X.pn ++ pins) hz4 ⟨_, hd4⟩).run [] s5 _ H' _ S5 (yes rfl a na)) ?_ (fun _ _ z => z.elim)
          intro f s6 hsp
          match f, hsp with
          | .next, ⟨σ6, H6, S6, q6⟩ => exact gone_ok (S6.unsuite ok) hN hi hln fun s7 J7 => ⟨_, _, J7, q6⟩
          | .brk, ⟨σ6, H6, S6, q6⟩ => exact gone_ok (S6.unsuite ok) hN hi hln fun s7 J7 => ⟨_, _, J7, q6⟩
          | .cont, ⟨σ6, H6, S6, q6⟩ => exact gone_ok (S6.unsuite ok) hN hi hln fun s7 J7 => ⟨_, _, J7, q6⟩
          | .ret u, ⟨v6, σ6, H6, S6, r6, q6⟩ => exact gone_ok (S6.unsuite ok) hN hi hln fun s7 J7 => ⟨_, _, _, J7, r6, q6⟩
    exact go hh w
  refine wpAny_Try_except (wpAny_mono ((hb (wMix X.K Wout D l) (X.pn ++ pins) XE takes PassesOwn.looking).run [] s σ H D (I.toTry _) h) ?_ (fun e s1 he => he))
  intro f s1 hsp
  match f, hsp with
  | .next, ⟨σ', H', J', q⟩ => exact wpAny_execs_nil ⟨σ', H', J'.ofTry ok, q⟩
  | .brk, ⟨σ', H', J', q⟩ => exact ⟨σ', H', J'.ofTry ok, q⟩
  | .cont, ⟨σ', H', J', q⟩ => exact ⟨σ', H', J'.ofTry ok, q⟩
  | .ret u, ⟨v, σ', H', J', r, q⟩ => exact ⟨v, σ', H', J'.ofTry ok, r, q⟩
end
end Sb

/-! sorted(d, key=f) over a dict whose keys are tuples; f gives rows of ints. -/
namespace Sb
open PySem PySem.Spec PyProof.Rows L2
open PySem.W (EachIs KeyPure KeepsBut dataLe AllAlike Sortable)
abbrev KRow := List Key × Addr × Value
/-- the keys in the order of their ranks -/
def srt (rank : List Key → List Int) (ks : List (List Key)) : List (List Key) := ks.mergeSort fun a b => decide (rank a ≤ rank b)
/-- key tuples, at these addresses -/
def IsKs (H : Hp) (ks : List (List Key)) (bs : List Addr) : Prop := Paired (fun k b => H b = some (.tup (k.map kV))) ks bs
/-- f is a function that gives a key tuple its rank -/
structure KeyFn (X : Cx) (f : Addr) (rank : List Key → List Int) (ok : List Key → Prop) : Prop where
  run : ∀ (s : Shared) (A : Around) (a : Addr) (its : List Value) (k : List Key), X.K.In s.heap → s.heap.Ns mainGlobals X.mg → s.heap.NoLimit → A.depth + 1 < recursionLimit → A.handled = none → ok k → Vals (k.map kV) its →
    IsTup s.heap a its.toArray → wpAny (model X.prog X.w) A (call (.ref f) [.ref a]) (KeyPure (.tuple ((rank k).map .int)) s) (fun _ _ => False) s
  some_ : ∀ k, ∃ x r, rank k = x :: r
  same : ∀ a b, (rank a).length = (rank b).length
theorem each_refs : ∀ ks : List KRow, EachIs (fun (v : Value) (x : KRow) => v = .ref x.2.1) (ks.map fun x => Value.ref x.2.1) ks
  | [] => .nil
  | _ :: r => .cons rfl (each_refs r)
theorem refs_each : ∀ {out : List Value} {ks : List KRow}, EachIs (fun (v : Value) (x : KRow) => v = .ref x.2.1) out ks → out = (ks.map fun x => x.2.1).map Value.ref
  | _, _, .nil => rfl
  | _, _, .cons h t => by
    rw [List.map_cons, List.map_cons, ← refs_each t, h]
theorem isKs_of {H : Hp} : ∀ {ks : List KRow}, (∀ x ∈ ks, H x.2.1 = some (.tup (x.1.map kV))) → IsKs H (ks.map (·.1)) (ks.map fun x => x.2.1)
  | [], _ => .nil
  | x :: r, h => .cons (h x List.mem_cons_self) (isKs_of fun y hy => h y (List.mem_cons_of_mem _ hy))
theorem kt_mem {H : Hp} {kvs : List (List Key × V)} {xs : List KRow} (r : KT H kvs xs) : kvs.map (·.1) = xs.map (·.1) ∧ ∀ x ∈ xs, H x.2.1 = some (.tup (x.1.map kV)) := by
  induction r with
  | nil => exact ⟨rfl, fun _ h => by cases h⟩
  | @cons a b l1 l2 h t ih =>
    refine ⟨by rw [List.map_cons, List.map_cons, h.1, ih.1], fun x hx => ?_⟩
    rcases List.mem_cons.mp hx with rfl | hx
    · rw [← h.1]
      exact h.2.1
    · exact ih.2 x hx
theorem alike_rows : ∀ (xs ys : List Int), PySem.W.alike (.tuple (xs.map .int)) (.tuple (ys.map .int)) = true := fun xs ys => PySem.W.alike_ints xs ys
theorem le_rows (rank : List Key → List Int) : dataLe false (fun x : KRow => PyData.tuple ((rank x.1).map .int)) = fun p q => decide (rank p.1 ≤ rank q.1) := by
  have e := PySem.W.dataLe_rows (β := KRow) (fun x => rank x.1)
  rw [← e]
  funext p q
  rfl
/-- sorted(d, key=f) -/
def rSortT (f : Addr) (rank : List Key → List Int) (ok : List Key → Prop) : List V → List V → Hp → VK → Prop := fun xs zs H Q => ∃ (d : Addr) (kvs : List (List Key × V)), xs = [.ref d] ∧ zs = [.ref f] ∧ H d = some (.dT kvs) ∧ (∀ k ∈ kvs.map (·.1), ok k) ∧
  ∀ p bs, H p = none → IsKs H (srt rank (kvs.map (·.1))) bs → Q (.ref p) (upd H p (.lst (bs.map V.ref)))
theorem call_sortT {X : Cx} {f : Addr} {rank : List Key → List Int} {ok : List Key → Prop} {k0 : Nat} (hc : X.calm = true) (hr : Room (k0 + 1) X.A) (F : KeyFn X f rank ok) : CallRK X (.builtin "sorted") ["key"] (rSortT f rank ok) := by
  intro pins s σ H xs zs us ws Q I r rz h
  obtain ⟨d, kvs, rfl, rfl, hd, hok, q⟩ := h
  obtain ⟨u, rfl, rx⟩ := vals1 r
  obtain ⟨u2, rfl, rx2⟩ := vals1 rz
  obtain rfl : u = Value.ref d := rx
  obtain rfl : u2 = Value.ref f := rx2
  obtain ⟨z, lo, ks, pr, o, es, ep, ho, hx, hdt, he, hn⟩ := (show ObjOk X.prog X.w H s.heap d (.dT kvs) from I.hok d _ hd)
  have l1 : es.size = ks.length := size_of_entries he
  obtain ⟨ek, hks⟩ := kt_mem pr
  have l2 : kvs.length = ks.length := Paired.length pr
  show wpAny _ _ (call (.builtin "sorted") [.ref d] [(Str.ofString "key", .ref f)]) _ _ _
  refine PyProof.Rows.call_function_entry_kw PyProof.Rows.kind_sorted PyProof.Rows.plain_sorted PyProof.Rows.entry_sorted (PyProof.Rows.ksk_s1 _ _) ?_
  unfold Builtin.«sorted»
  refine wpAny_bind (m := checkCount "sorted" 1 1 _) ?_
  apply wpAny_pure
  refine wpAny_bind (PySem.W.kdu_collect (A := X.A.in1) (kdl_raw lo hx hdt) (I.ok.hd hc) ho (by omega) fun h' tk acc kp it => ?_)
  have ea : acc.toList = ks.map fun x => Value.ref x.2.1 := by
    apply List.ext_getElem?
    intro j
    have la : acc.toList.length = ks.length := by
      rw [Array.length_toList, it.1, l1]
    rw [List.getElem?_map]
    by_cases hj : j < ks.length
    · have e1 : acc.toList[j]? = some acc.toList[j] := List.getElem?_eq_getElem (by omega)
      obtain ⟨en, hen, hv⟩ := it.2 j _ ((Array.getElem?_toList).symm.trans e1)
      have e2 := entry_at he j
      rw [hen, List.getElem?_eq_getElem hj] at e2
      have e3 : en = entryOfKey (tupleKind (mixKind X.prog X.w)) ks[j] := Option.some.inj e2
      rw [e1, hv, e3, List.getElem?_eq_getElem hj]
      rfl
    · rw [List.getElem?_eq_none (by omega), List.getElem?_eq_none (by omega)]
      rfl
  have la : acc.toList.length = ks.length := by rw [ea, List.length_map]
  have I1 : Inv X pins σ H { s with heap := h', toks := tk } := I.kept kp
  refine wpAny_bind (wpAny_newList ?_ (by omega))
  have hoL : (h'.push (seqObj "list" acc.toList.toArray 0)).get? h'.objs.size = some (seqObj "list" acc.toList.toArray 0) := Heap.get?_push_size _ rfl
  have up : ∀ c o, h'.get? c = some o → (h'.push (seqObj "list" acc.toList.toArray 0)).get? c = some o := fun c o e => Heap.get?_push_of_some _ e
  show wpAny _ _ _ _ _ { s with heap := h'.push (seqObj "list" acc.toList.toArray 0), toks := tk }
  refine wpAny_bind (wpAny_holding (wpAny_call_entry_kw PyProof.Rows.slot_list_sort ⟨_, hoL, rfl⟩ PyProof.Rows.entry_list_sort ?body (PyProof.Rows.ksk_l1 _ _)))
  rw [PyProof.Rows.ksk_t1]
  have each : EachIs (fun (v : Value) (x : KRow) => v = .ref x.2.1) acc.toList ks := by rw [ea]; exact each_refs ks
  have ne : ∀ {c : Addr} {o : Obj}, h'.get? c = some o → c ≠ h'.objs.size := fun e => Nat.ne_of_lt (Heap.lt_size e)
  refine PySem.W.keyH_tree (kz := ks.map fun x => PyData.tuple ((rank x.1).map .int)) (s := { s with heap := h'.push (seqObj "list" acc.toList.toArray 0), toks := tk }) hoL (by rw [List.length_map, la]) (by omega)
    (AllAlike.of fun a b => alike_rows _ _) (Sortable.tuples fun b => ?_) ?_ (PySem.W.keyH_turns (s := { s with heap := h'.push (seqObj "list" acc.toList.toArray 0), toks := tk }) each fun v x hR hxk h2 tk2 kp2 => ?_) fun h3 tk3 out c kp3 hD ko => ?_
  · obtain ⟨x, r, e⟩ := F.some_ b.1
    exact ⟨_, _, by rw [e]; rfl⟩
  · intro dd hdd
    obtain ⟨x, _, rfl⟩ := List.mem_map.mp hdd
    have dp : PyData.depth (.tuple ((rank x.1).map PyData.int)) = 1 := by
      show PyData.depthAll _ + 1 = 1
      rw [PySem.W.depth_ints]
    rw [dp]
    have := hr.un
    show X.A.units + 1 + 1 + 1 < cLine
    omega
  · rw [hR]
    obtain ⟨_, its, rv, it1⟩ := (show ObjOk X.prog X.w H h' x.2.1 (.tup (x.1.map kV)) from I1.hok _ _ (hks x hxk))
    have k2 : ∀ c o, h'.get? c = some o → h2.get? c = some o := fun c o e => kp2 c o (ne e) (up c o e)
    refine F.run { s with heap := h2, toks := tk2 } _ x.2.1 its x.1 (I1.kIn.keeps k2) ((I1.mod.glob.keeps I1.bk).keeps k2) (I1.nolimit.keeps k2) ?_ ?_ (hok _ (by rw [ek]; exact List.mem_map.mpr ⟨x, hxk, rfl⟩)) rv ?_
    · have := hr.dp
      show X.A.depth + 1 < recursionLimit
      omega
    · exact I.ok.hd hc
    · obtain ⟨ob, h1, r⟩ := it1
      exact ⟨ob, k2 _ _ h1, r⟩
  · have eo := PySem.W.keyedOut_each (fun x : KRow => PyData.tuple ((rank x.1).map .int)) ko each
    have lo2 := ko.length (by rw [List.length_map, la])
    rw [le_rows] at eo
    have er := refs_each eo
    have hmem : ∀ x ∈ ks.mergeSort (fun p q => decide (rank p.1 ≤ rank q.1)), H x.2.1 = some (.tup (x.1.map kV)) := fun x hx => hks x ((List.mergeSort_perm ks _).mem_iff.mp hx)
    have em : (ks.mergeSort (fun p q => decide (rank p.1 ≤ rank q.1))).map (·.1) = srt rank (kvs.map (·.1)) := by
      unfold srt
      rw [ek]
      exact List.map_mergeSort fun a _ b _ => rfl
    have isk := isKs_of hmem
    rw [em] at isk
    have keep3 : ∀ b o, h'.get? b = some o → h3.get? b = some o := fun b o e => kp3 b o (ne e) (up b o e)
    have rv : Vals (((ks.mergeSort (fun p q => decide (rank p.1 ≤ rank q.1))).map fun x => x.2.1).map V.ref) out := by
      rw [er]
      exact vals_refs _
    have hz : (((ks.mergeSort (fun p q => decide (rank p.1 ≤ rank q.1))).map fun x => x.2.1).map V.ref).length ≤ sizeLine := by
      rw [rv.length]
      omega
    refine ⟨_, rfl, ?_⟩
    apply wpAny_pure
    refine ⟨_, rfl, .ref h'.objs.size, _, I1.laid (t' := tk3) (o := .lst (((ks.mergeSort (fun p q => decide (rank p.1 ≤ rank q.1))).map fun x => x.2.1).map V.ref)) keep3 (Nat.le_refl _) ⟨hz, out, c, rv, hD⟩, rfl, q _ _ (I1.hok.fresh (Nat.le_refl _)) isk⟩
end Sb

/-! {k: v for x in ..} with tuples for keys. -/
namespace Sb
open PySem PySem.Spec PyProof.Rows L2
section
variable {X : Cx} {pins : List (Addr × Obj)} {σ : L2.St} {H : Hp}
/-- D[k] = v, k the tuple at b -/
theorem putT_ok {s : Shared} {E : Value → Shared → Prop} {D b : Addr} {kvs : List (List Key × V)} {k : List Key} {v : V} {r : Value} {Q : Unit → Shared → Prop} (hu : X.A.units + 1 < cLine) (I : L2.Inv X pins σ H s) (hD : H D = some (.dT kvs)) (hb : H b = some (.tup (k.map kV))) (hz : kvs.length < sizeLine)
    (rv : RelV v r) (want : ∀ s', L2.Inv X pins σ (upd H D (.dT (putK kvs k v))) s' → Q () s') : wpAny (model X.prog X.w) X.A (dictSet D (.ref b) r) Q E s := by
  obtain ⟨z, low, xs, rel, dd⟩ := dt_of I.hok hD
  have l1 : xs.length ≤ sizeLine := Paired.length rel ▸ z
  have l2 := length_putK kvs k v
  refine wpAny_dictSet_heap (hsz := l1) ?room (key_of I.hok hb) dd fun h' dd' but => want _ ?_
  case room => show X.A.units < cLine; omega
  obtain ⟨q, es, ep, g1, g2, g3, g4, _, g5⟩ := dd'
  refine d_write I (by rw [hD]; trivial) but ⟨q, g1⟩ ⟨by omega, low, _, (rel.put k hb rv).keeps fun c ys ec => ?_, q, es, ep, g1, g2, g3, g4, g5⟩
  rw [upd_ne (ne_of ec hD fun z => nomatch z)]
  exact ec
end
/-- what the turns are to show; D: the new dict -/
def DcW (J : It) (g : TG) (tt : TT) (tk tv : TE) (vs : List Nat) (σ : L2.St) (D : Addr) (Qd : Hp → Prop) (H0 : Hp) : Prop := ∃ W : Nat → Nat → Hp → Prop, (∃ m, W 0 m H0) ∧ ∀ i m H, W i m H →
  (J.stop i H ∧ Qd H) ∨ (J.go i H ∧ ∃ Nx : Hp → Prop, (∀ H', Nx H' → ∃ m', m' < m ∧ W (i + 1) m' H') ∧ ∀ x H', J.yld i H x H' → g x (wipe σ vs) H' fun σ2 H2 => wipe σ2 vs = wipe σ vs ∧ tt σ2 H2 fun b H3 =>
    if b = true then tk σ2 H3 fun y H4 => tv σ2 H4 fun z H5 => ∃ kvs k t, y = .ref t ∧ H5 t = some (.tup (k.map kV)) ∧ H5 D = some (.dT kvs) ∧ kvs.length < sizeLine ∧ Nx (upd H5 D (.dT (putK kvs k z))) else Nx H3)
def tDcT (wi : TI) (g : TG) (tt : TT) (tk tv : TE) (vs : List Nat) : TE := fun σ H Q => wi σ H fun J H1 => ∀ D, H1 D = none → DcW J g tt tk tv vs σ D (Q (.ref D)) (upd H1 D (.dT []))
section
variable {X : Cx} {kx vx tg iter : Expr} {ifs : List Expr} {scope : Scope} {own : List (Str × Nat)} {pos : Pos} {wi : TI} {g : TG} {tt : TT} {tk tv : TE}
theorem pe_dcT (hc : X.calm = true) (hN : X.N.Nodup) (hu : X.A.units + 1 < cLine) (hi : PI X tg iter wi) (ok : BlkOk X.N X.env.scope scope own) (hg : ∀ (s : Shared) (H : Hp) (C : Addr) (cl : List (Str × Addr)) (fp : List Addr), PG (X.blk s H scope (compEnvC scope cl C X.env) fp) tg g) (ht : ∀ (s : Shared) (H : Hp) (C : Addr) (cl : List (Str × Addr)) (fp : List Addr), PTs (X.blk s H scope (compEnvC scope cl C X.env) fp) ifs tt) (hk : ∀ (s : Shared) (H : Hp) (C : Addr) (cl : List (Str × Addr)) (fp : List Addr), PE (X.blk s H scope (compEnvC scope cl C X.env) fp) kx tk)
    (hv : ∀ (s : Shared) (H : Hp) (C : Addr) (cl : List (Str × Addr)) (fp : List Addr), PE (X.blk s H scope (compEnvC scope cl C X.env) fp) vx tv) (hs : ∀ x, foldedSetIterable iter X.env x = pure x := by intro _; rfl) : PE X (.DictComp kx vx [⟨tg, iter, ifs, 0⟩] scope pos) (tDcT wi g tt tk tv (own.map (·.2))) := by
  constructor
  intro pins s σ H Q I h
  rw [arm_eval_DictComp]
  have closed : ∀ y ∈ scope.names, y.2 = .free → ∃ c, X.env.cells.lookup y.1 = some c := by
    intro y hy e
    exact (ok.free y hy e).elim (fun k => I.ok.has _ (.inl k)) (fun k => I.ok.has _ (.inr k))
  refine wpAny_comprehension_free rfl hs (closure_ok closed) ok.kind (fun y hy e => by rw [ok.uniq y hy, e]) ?_
  refine thn (hi.run pins s σ H _ I h) fun xv s1 hx => thn hx ?_
  rintro itv s2 ⟨it, fp, tn, J, H2, rfl, I2, T, st2, f2, q⟩
  refine wpAny_newObj_type (newEnv_comp ?_)
  generalize eD : s2.heap.objs.size = D
  have nD : H2 D = none := I2.hok.fresh (Nat.le_of_eq eD)
  obtain ⟨W, ⟨m0, w0⟩, turn⟩ := q D nD
  -- D is laid
  generalize es3 : ({ s2 with heap := s2.heap.push { cls := .type "dict", data := .dict #[] } } : Shared) = s3
  have h3 : s3.heap = s2.heap.push { cls := .type "dict", data := .dict #[] } := by
    rw [← es3]
  generalize eH3 : upd H2 D (.dT []) = H3 at w0
  have I3 : L2.Inv X pins σ H3 s3 := by
    have lay := I2.laid (t' := s2.toks) (h' := s2.heap.push { cls := .type "dict", data := .dict #[] }) (fun b o e => Heap.get?_push_of_some _ e) (Nat.le_of_eq eD) (eD ▸ dt_empty s2.heap I2.big)
    rw [← es3, ← eH3]
    exact lay
  have small : ∀ b ∈ fp, b < s2.heap.objs.size := by
    intro b hb
    obtain ⟨o, e, _⟩ := T.obj _ _ st2 b hb
    exact Heap.lt_size e
  have f3 : ∀ b ∈ fp, FpOk X pins H3 b ∧ b < s3.heap.objs.size := by
    intro b hb
    have lt := small b hb
    constructor
    · refine ⟨?_, (f2 b hb).2⟩
      rw [← eH3, upd_ne (eD ▸ Nat.ne_of_lt lt)]
      exact (f2 b hb).1
    · rw [h3, Heap.size_push]
      exact Nat.lt_succ_of_lt lt
  have n3 : ∀ b ∈ fp, H3 b = none := fun b hb => (f3 b hb).1.1
  have st3 : tn 0 s3.heap := by
    refine T.keep _ _ _ st2 ?_
    rw [h3]
    exact fun b _ o e => Heap.get?_push_of_some _ e
  have I4 := block_start I3 ok hN f3
  show codeAny _ _ (.compStart (.DictComp kx vx [⟨tg, iter, ifs, 0⟩] scope pos) 0 (.ref it) (.ref D) (compEnvC scope (cellsFrom (s3.heap.objs.size + 1) scope.names (cloFrom X.env.cells scope.names [])) s3.heap.objs.size X.env)) (compPost (model X.prog X.w) X.A X.xe none _ (.ref D) s3.heap.objs.size) { s3 with heap := pushCells (s3.heap.push { cls := .type "dict", data := .dict #[] }) scope.names }
  have bg := hg s3 H3 s3.heap.objs.size (cellsFrom (s3.heap.objs.size + 1) scope.names (cloFrom X.env.cells scope.names [])) fp
  have bt := ht s3 H3 s3.heap.objs.size (cellsFrom (s3.heap.objs.size + 1) scope.names (cloFrom X.env.cells scope.names [])) fp
  have bk := hk s3 H3 s3.heap.objs.size (cellsFrom (s3.heap.objs.size + 1) scope.names (cloFrom X.env.cells scope.names [])) fp
  have bv := hv s3 H3 s3.heap.objs.size (cellsFrom (s3.heap.objs.size + 1) scope.names (cloFrom X.env.cells scope.names [])) fp
  generalize ece : compEnvC scope (cellsFrom (s3.heap.objs.size + 1) scope.names (cloFrom X.env.cells scope.names [])) s3.heap.objs.size X.env = ce at I4 bg bt bk bv ⊢
  have cL : ce.locals = s3.heap.objs.size := ece ▸ rfl
  generalize es4 : ({ s3 with heap := pushCells (s3.heap.push { cls := .type "dict", data := .dict #[] }) scope.names } : Shared) = s4 at I4 ⊢
  have st4 : tn 0 s4.heap := by
    refine T.keep _ _ _ st3 fun b _ o e => ?_
    rw [← es4]
    exact pushCells_keeps _ _ _ _ (Heap.get?_push_of_some _ e)
  have stat : ∀ {σ' : L2.St} {H' : Hp} {s' : Shared}, L2.Inv (X.blk s3 H3 scope ce fp) [] σ' H' s' → (∀ b ∈ fp, H' b = none) → ∀ b ∈ fp, FpOk (X.blk s3 H3 scope ce fp) [] H' b := by
    intro σ' H' s' J' hn b hb
    refine ⟨hn b hb, (J'.ok.exf b hb).1, J'.ok.exfs b hb, .inl hb, (J'.ok.exf b hb).2, fun p hp => ?_⟩
    have z : p ∈ ([] : List (Addr × Obj)) ++ [] := hp
    simp at z
  -- the loop's state
  let At : Nat → Shared → Prop := fun n s' => ∃ i H', L2.Inv (X.blk s3 H3 scope ce fp) [] (wipe σ (own.map (·.2))) H' s' ∧ tn i s'.heap ∧ (∀ b ∈ fp, H' b = none) ∧ W i n H'
  have loop : codeAny (model X.prog X.w) X.A (.compLoop (.DictComp kx vx [⟨tg, iter, ifs, 0⟩] scope pos) 0 (.ref it) (.ref D) ce) (compPost (model X.prog X.w) X.A X.xe none (EP X pins σ Q) (.ref D) s3.heap.objs.size) s4 := by
    refine compLoop_anyD At ?_ m0 ⟨0, H3, I4, st4, n3, w0⟩
    rintro n s5 ⟨i, H5, I5, st5, n5, w5⟩
    rcases turn i n H5 w5 with ⟨stop, done⟩ | ⟨go, Nx, hNx, step⟩
    · refine thnF (T.done (X.blk s3 H3 scope ce fp) rfl rfl rfl hc i [] s5 _ H5 (fun _ _ => False) I5 (stat I5 n5) st5 stop) ?_
      rintro r s6 ⟨rfl, I6⟩
      have I7 : L2.Inv X pins σ H5 s6 := by
        refine I3.call' (ch := fp) I6.os I6.base I6.hok I6.bare fun b hb => ?_
        have z := (f3 b hb).1.2
        exact ⟨z.2.2.1, z.1, z.2.2.2.1, z.2.2.2.2⟩
      have free := I6.free
      rw [show (X.blk s3 H3 scope ce fp).env.locals = s3.heap.objs.size from cL] at free
      obtain ⟨m, hn, _⟩ := I6.loc
      have hn : s6.heap.Ns ce.locals m := hn
      rw [cL] at hn
      refine ⟨m, hn, fun h'' sb => ?_⟩
      obtain ⟨g0, g1, g2, g3, g4, g5⟩ := I3.fpOk (Nat.le_refl _) free
      exact ⟨.ref D, H5, I7.turned (t' := s6.toks) (fun b o hb e => (sb.2 b hb).trans e) g0 g1 g3 g4 g5, rfl, done⟩
    · refine thnF (T.item (X.blk s3 H3 scope ce fp) rfl rfl rfl hc i [] s5 _ H5 (fun _ _ => False) I5 (stat I5 n5) st5 go) ?_
      rintro r s6 ⟨u, rfl, go6⟩
      refine thnF go6 ?_
      rintro _ s7 ⟨x, H7, I7, r7, y7, st7, n7⟩
      refine thnF (bg.run _ s7 _ H7 x u _ (I7.pinned (stat I7 n7) (T.obj _ _ st7)) r7 (step x H7 y7)) ?_
      rintro _ s8 ⟨σ8, H8, I8, hw8, q8⟩
      refine thnF (bt.run _ s8 σ8 H8 _ I8 q8) ?_
      rintro b s9 ⟨H9, I9, q9⟩
      have next : ∀ {s' : Shared} {H' : Hp}, L2.Inv (X.blk s3 H3 scope ce fp) ([] ++ pinsAt fp s7.heap) σ8 H' s' → Nx H' → ∃ m, m < n ∧ At m s' := by
        intro s' H' J' nx
        obtain ⟨m', lt, w'⟩ := hNx H' nx
        have pinned : ∀ b ∈ fp, ∀ o, s7.heap.get? b = some o → s'.heap.get? b = some o ∧ H' b = none := by
          intro b hb o e
          have z := J'.pin (b, o) (List.mem_append_right _ (List.mem_append_right _ (mem_pinsAt hb e)))
          exact ⟨z.1, z.2.1⟩
        refine ⟨m', lt, i + 1, H', (J'.unpinned (pins := [])).weak ?_ ?_, T.keep _ _ _ st7 fun b hb o e => (pinned b hb o e).1, ?_, w'⟩
        · rw [← hw8, wipe_length]
        · intro j v e
          rw [← hw8] at e
          exact (wipe_some e).1
        · intro b hb
          obtain ⟨o, e, _⟩ := T.obj _ _ st7 b hb
          exact (pinned b hb o e).2
      cases b with
      | false => exact next I9 q9
      | true =>
        refine thnF (bk.run _ s9 σ8 H9 _ I9 q9) ?_
        rintro z1 s10 ⟨yk, H10, I10, r10, q10⟩
        refine thnF (bv.run _ s10 σ8 H10 _ I10 q10) ?_
        rintro z2 s11 ⟨yv, H11, I11, r11, kvs, k, t, rfl, ht11, hD11, lt11, nx⟩
        obtain rfl : z1 = Value.ref t := r10
        exact putT_ok (X := X.blk s3 H3 scope ce fp) hu I11 hD11 ht11 lt11 r11 fun s12 I12 => next I12 nx
  exact codeAny_compStart_dict loop (T.self X.A 0 _ _ _ st4 loop)
end
theorem dcT_list {K : PySem.W.Frag} {a : Addr} {xs : List V} {g : TG} {tt : TT} {tk tv : TE} {vs : List Nat} {σ : L2.St} {H0 : Hp} {D : Addr} {Qd : Hp → Prop} (Pv : Nat → Hp → Prop) (h0 : Pv 0 H0) (hl : ∀ i H, Pv i H → SqL K H a xs)
    (hs : ∀ i x H, xs[i]? = some x → Pv i H → g x (wipe σ vs) H fun σ2 H2 => wipe σ2 vs = wipe σ vs ∧ tt σ2 H2 fun b H3 =>
      if b = true then tk σ2 H3 fun y H4 => tv σ2 H4 fun z H5 => ∃ kvs k t, y = .ref t ∧ H5 t = some (.tup (k.map kV)) ∧ H5 D = some (.dT kvs) ∧ kvs.length < sizeLine ∧ Pv (i + 1) (upd H5 D (.dT (putK kvs k z))) else Pv (i + 1) H3) (hd : ∀ H, Pv xs.length H → Qd H) :
    DcW (Itl K a) g tt tk tv vs σ D Qd H0 := by
  refine ⟨fun i m H => m + i = xs.length ∧ Pv i H, ⟨xs.length, rfl, h0⟩, fun i m H ⟨hm, p⟩ => ?_⟩
  have q := hl i H p
  cases m with
  | zero =>
    have e : i = xs.length := by omega
    subst e
    exact .inl ⟨⟨xs, q, Nat.le_refl _⟩, hd H p⟩
  | succ m =>
    have h1 : i < xs.length := by omega
    have hx := List.getElem?_eq_getElem h1
    refine .inr ⟨⟨xs, _, q, hx⟩, Pv (i + 1), fun H' p' => ⟨m, Nat.lt_succ_self m, by omega, p'⟩, ?_⟩
    rintro v H' ⟨rfl, f1⟩
    exact hs i v _ (f1 xs q) p
end Sb

/-! x == text, x of any kind but a dict. -/
namespace Sb
open PySem PySem.Spec PyProof.Rows L2
def isStrD (d : PyData) (z : Str) : Bool := match d with
  | .str y => y == z
  | _ => false
def isDctD : PyData → Bool
  | .dict _ => true
  | _ => false
def rEqS : R2 := fun x y H Q => ∃ p d z, LD p H x d ∧ isDctD d = false ∧ y = .str z ∧ Q (.bl (isStrD d z)) H
theorem op_eqS {X : Cx} (hu : X.A.units + 64 < cLine) : OpR X (compareOp .Eq) rEqS := by
  intro pins s σ H x y v u Q I rx ry h
  obtain ⟨p, d, z, hx, hd, rfl, q⟩ := h
  obtain ⟨tz, rfl⟩ := ry
  have fin : ∀ {b : Bool}, SeqAt.RcAt X.A s v (.str z tz) b → Q (.bl b) H → wpAny (model X.prog X.w) X.A (compareOp .Eq v (.str z tz)) (EP X pins σ Q) X.xe s := fun r g => r X.prog X.w X.xe _ ⟨.bl _, H, I, rfl, g⟩
  cases hx with
  | non =>
    cases rx
    exact fin (SeqAt.RcAt.none_str _ _) q
  | bl b =>
    cases rx
    exact fin (SeqAt.RcAt.bool_str _ _ _) q
  | int i =>
    obtain ⟨t, rfl⟩ := rx
    exact fin (SeqAt.RcAt.int_str _ _ _ _) q
  | str y =>
    obtain ⟨t, rfl⟩ := rx
    exact fin (SeqAt.RcAt.str_str _ _ _ _) q
  | tup n e r =>
    cases rx
    obtain ⟨its, rv, pl, _⟩ := I.tuple (SqT.of e)
    exact fin (SeqAt.RcAt.tuple_str _ _ pl (by omega)) q
  | lst n m e r =>
    cases rx
    obtain ⟨its, rv, pl, _⟩ := I.list (SqL.of e)
    exact fin (SeqAt.RcAt.list_str _ _ pl.isList (by omega)) q
  | dic n e => cases hd
  | dct n e => cases hd
/-- [e, ..], where it lies -/
def tLstB (t : TA) : TE := fun σ H Q => t σ H fun xs H1 => xs.length ≤ sizeLine ∧ ∀ p, H1 p = none → p ≠ sysModules → Q (.ref p) (upd H1 p (.lst xs))
theorem pe_lstB {X : Cx} {es : List Expr} {pos : Pos} {t : TA} (h : PA X es t) : PE X (.List es pos) (tLstB t) := by
  constructor
  intro pins s σ H Q I hq
  refine wpAny_List_spliced (thn (h.run pos pins s σ H _ I hq) ?_)
  rintro us s1 ⟨xs, H1, I1, r, z, q⟩
  refine ⟨r.length ▸ z, .ref s1.heap.objs.size, _, I1.laid (t' := s1.toks) (o := .lst xs) (fun b u e => Heap.get?_push_of_some _ e) (Nat.le_refl _) ⟨z, us, 0, r, Heap.get?_push_size _ rfl⟩, rfl, q _ (I1.hok.fresh (Nat.le_refl _)) (Nat.ne_of_gt I1.big)⟩
end Sb

/-! len(set(t)), t a tuple of ints and texts; t.index(n), t a tuple of ints. -/
namespace Sb
open PySem PySem.Spec PyProof.Rows L2
instance memKey (k : Key) (l : List Key) : Decidable (k ∈ l) := @List.instDecidableMemOfLawfulBEq Key instBEqOfDecidableEq inferInstance k l
theorem setOfK_congr {prog : Program} {w : World} {h : Heap} {a : Addr} {S S' : Key → Bool} {n n' : Nat} (hS : h.SetOf (mixKind prog w) a S n) (e : ∀ k, S k = S' k) (en : n = n') : h.SetOf (mixKind prog w) a S' n' := by
  have : S = S' := funext e
  subst this
  subst en
  exact hS
def uniqK (l : List Key) : List Key := l.foldl (fun acc k => if k ∈ acc then acc else acc ++ [k]) []
theorem uniqK_snoc (l : List Key) (x : Key) : uniqK (l ++ [x]) = if x ∈ uniqK l then uniqK l else uniqK l ++ [x] := by
  unfold uniqK
  rw [List.foldl_append]
  rfl
theorem uniqK_len : ∀ (n : Nat) (l : List Key), l.length = n → (uniqK l).length ≤ l.length ∧ (∀ k, k ∈ uniqK l ↔ k ∈ l) ∧ (l.Nodup → uniqK l = l) ∧ ((uniqK l).length = l.length → l.Nodup)
  | 0, l, h => by
    obtain rfl := List.eq_nil_of_length_eq_zero h
    exact ⟨Nat.le_refl _, fun k => Iff.rfl, fun _ => rfl, fun _ => List.nodup_nil⟩
  | n + 1, l, h => by
    have hl : l ≠ [] := by intro e; subst e; cases h
    obtain ⟨r, x, rfl⟩ : ∃ r x, l = r ++ [x] := ⟨l.dropLast, l.getLast hl, (List.dropLast_concat_getLast hl).symm⟩
    have hr : r.length = n := by rw [List.length_append] at h; simpa using h
    obtain ⟨a, b, c, d⟩ := uniqK_len n r hr
    rw [uniqK_snoc]
    by_cases hx : x ∈ uniqK r
    · rw [if_pos hx]
      have hx' := (b x).mp hx
      refine ⟨by rw [List.length_append]; exact Nat.le_trans a (Nat.le_add_right _ _), fun k => ?_, fun nd => ?_, fun e => ?_⟩
      · rw [b k, List.mem_append]
        constructor
        · exact .inl
        · rintro (z | z)
          · exact z
          · rw [List.mem_singleton] at z
            exact z ▸ hx'
      · exact absurd hx' (fun z => (List.nodup_append.mp nd).2.2 x z x List.mem_cons_self rfl)
      · rw [List.length_append, List.length_singleton] at e
        omega
    · rw [if_neg hx]
      have hx' : x ∉ r := fun z => hx ((b x).mpr z)
      refine ⟨by rw [List.length_append, List.length_append]; exact Nat.add_le_add_right a _, fun k => ?_, fun nd => ?_, fun e => ?_⟩
      · rw [List.mem_append, List.mem_append, b k]
      · rw [c (List.nodup_append.mp nd).1]
      · rw [List.length_append, List.length_append] at e
        have nd := d (Nat.add_right_cancel e)
        refine List.nodup_append.mpr ⟨nd, by simp, fun a ha b hb => ?_⟩
        rw [List.mem_singleton] at hb
        subst hb
        rintro rfl
        exact hx' ha
section
variable {prog : Program} {w : World} {A : Around} {R : Result → Shared → Prop} {I : Addr} {fp wr : List Addr} {G : Array GenState → Array GenState → Prop} {n : Nat} {P : Nat → Value → Prop} {St : Nat → Shared → Prop}
theorem loopMix (W : WalksS prog w A.in1 I fp wr G n P St) (S : Addr) (hSf : S ∉ fp) (xs : List Key) (hsz : xs.length = n) (hn1 : n ≤ 50)
    (hval : ∀ i v, P i v → ∃ k, xs[i]? = some k ∧ RelV (kV k) v) :
    ∀ (k i : Nat) (s : Shared), n - i = k → i ≤ n → St i s →
      s.heap.SetOf (mixKind prog w) S (fun k' => decide (k' ∈ uniqK (xs.take i))) (uniqK (xs.take i)).length →
      (∀ s', Moved (S :: wr) G s s' → s'.heap.SetOf (mixKind prog w) S (fun k' => decide (k' ∈ uniqK (xs.take n))) (uniqK (xs.take n)).length → R (.ok (.ret .none)) s') →
      codeAny (model prog w) A (.builtin "set.update.loop" ⟨[.ref S, .ref I], []⟩) R s := by
  have hSw : S ∉ wr := fun h => hSf (W.sub _ h)
  have hsub : ∀ b ∈ wr, b ∈ S :: wr := fun b hb => List.mem_cons_of_mem _ hb
  intro k
  induction k with
  | zero =>
    intro i s hk hi hst hS hR
    have hin : i = n := by omega
    subst hin
    refine codeAny_builtin PyProof.Rows.F.entry_set_update_loop ?_
    rw [Around.under_plainId PyProof.Rows.F.plain_set_update_loop _]
    show wpAny _ A.in1 (pyNext (.ref I) >>= _) _ _ s
    refine wpAny_bind (W.done s _ _ hst fun s' hm => ?_)
    show wpAny _ A.in1 (ret Value.none) _ _ s'
    exact wpAny_pure (hR s' (hm.mono hsub) (by
      obtain ⟨o, es, ep, t, ho, rest⟩ := hS
      exact ⟨o, es, ep, t, hm.heap S _ hSw ho, rest⟩))
  | succ k ih =>
    intro i s hk hi hst hS hR
    have hlt : i < n := by omega
    refine codeAny_builtin PyProof.Rows.F.entry_set_update_loop ?_
    rw [Around.under_plainId PyProof.Rows.F.plain_set_update_loop _]
    show wpAny _ A.in1 (pyNext (.ref I) >>= _) _ _ s
    refine wpAny_bind (W.item i s _ _ hlt hst fun v s' hP hst' hm => ?_)
    obtain ⟨x, hx, rv⟩ := hval i v hP
    have hS' : s'.heap.SetOf (mixKind prog w) S (fun k' => decide (k' ∈ uniqK (xs.take i))) (uniqK (xs.take i)).length := by
      obtain ⟨o, es, ep, tb, ho, rest⟩ := hS
      exact ⟨o, es, ep, tb, hm.heap S _ hSw ho, rest⟩
    show wpAny _ A.in1 (holding [v] (setAdd S v) >>= _) _ _ s'
    refine wpAny_bind (wpAny_holding ?_)
    unfold setAdd
    refine wpAny_holding ?_
    refine wpAny_bind ((mixKind prog w).pyHash (k := x) (kV_is rv) ?_)
    have lu : (uniqK (xs.take i)).length ≤ i := Nat.le_trans (uniqK_len _ _ rfl).1 (by rw [List.length_take]; exact Nat.min_le_left _ _)
    refine wpAny_setAddHashed_of (knd := mixKind prog w) (s := { s' with toks := s'.toks + 1 }) (kV_is rv) (key_scan rv) hS' (by unfold scanBound; omega) fun h' hsb hS2 => ?_
    have hSi : h'.SetOf (mixKind prog w) S (fun k' => decide (k' ∈ uniqK (xs.take (i + 1)))) (uniqK (xs.take (i + 1))).length := by
      have e : xs.take (i + 1) = xs.take i ++ [x] := by rw [List.take_add_one, hx]; rfl
      rw [e, uniqK_snoc]
      refine setOfK_congr hS2 (fun k' => ?_) ?_
      · by_cases h : x ∈ uniqK (xs.take i)
        · rw [if_pos h]
          by_cases e2 : k' = x
          · subst e2; simp [h]
          · simp [e2]
        · rw [if_neg h]
          simp [List.mem_append]
      · by_cases h : x ∈ uniqK (xs.take i)
        · rw [if_pos h, decide_eq_true h]; rfl
        · rw [if_neg h, decide_eq_false h, List.length_append]; rfl
    refine wpAny_pure ⟨plainId_quiet PyProof.Rows.F.plain_set_update_loop _, ih (i + 1) _ (by omega) hlt (W.frame _ s' _ _ hst' (Nat.le_succ _) fun b hb o e => ?_) hSi fun s'' hm'' hS'' => ?_⟩
    · rw [hsb.2 b (fun h : b = S => hSf (by rw [← h]; exact hb))]; exact e
    · refine hR s'' (Moved.trans W.gtrans ((hm.mono hsub).then_heap (Nat.le_succ _) fun b o hb e => ?_) hm'') hS''
      rw [hsb.2 b (fun h : b = S => hb (by rw [h]; exact List.mem_cons_self))]; exact e
end
section
variable {prog : Program} {w : World} {A : Around} {E : Value → Shared → Prop} {s : Shared}
theorem call_set_tupleM {l : Addr} {items : Array Value} {xs : List Key} {Q : Value → Shared → Prop}
    (hh : A.handled = none) (hl : s.heap.IsTuple l items) (hi : Vals (xs.map kV) items.toList) (hn1 : xs.length ≤ 50)
    (h : ∀ (h' : Heap) (tk : Nat), h'.SetOf (mixKind prog w) s.heap.objs.size (fun k' => decide (k' ∈ uniqK (xs.take items.size))) (uniqK (xs.take items.size)).length →
      (∀ b o, b < s.heap.objs.size → s.heap.get? b = some o → h'.get? b = some o) → Q (.ref s.heap.objs.size) { s with heap := h', toks := tk }) :
    wpAny (model prog w) A (call (.type "set") [.ref l]) Q E s := by
  obtain ⟨c, tl, hmro⟩ := PySem.F.called_set.mro
  have hmade := PySem.F.called_set.made
  have hsub := PySem.F.called_set.sub
  refine wpAny_call (codeAny_of_tree ?_)
  show wpAny _ _ (callAny (.type "set") _) _ _ _
  refine wpAny_pure ⟨Code.quiet_builtin _ (by decide +kernel), codeAny_builtin PySem.F.entry_type_call ?_⟩
  rw [Around.under_plain (weight_type_call_type "set" [.ref l] []) rfl]
  have h1 := PySem.F.called_set.notType
  have h2 := PySem.F.called_set.canCreate
  have hct := PySem.F.typeCall_set_1 (.ref l)
  repeat (any_goals (first | assumption | wp_step))
  refine codeAny_mono (code_set_new_1 (.ref l) (E := E) (Q₁ := fun obj s₁ => ∃ led : Bool, obj = .ref s.heap.objs.size ∧ s₁ = { s with heap := s.heap.push { cls := .type "set", dict := none, data := .set #[] 0 (.fresh 0 0 led) } }) fun led => ⟨led, rfl, rfl⟩) fun r s₁ hr => ?_
  cases r with
  | error e => exact hr
  | ok fl =>
    cases fl with
    | ret obj =>
      obtain ⟨led, rfl, rfl⟩ := hr
      have hS : (s.heap.push { cls := .type "set", dict := none, data := .set #[] 0 (.fresh 0 0 led) }).get? s.heap.objs.size = some { cls := .type "set", dict := none, data := .set #[] 0 (.fresh 0 0 led) } := Heap.get?_push_size _ rfl
      have hT : Shared.TypeIs { s with heap := s.heap.push { cls := .type "set", dict := none, data := .set #[] 0 (.fresh 0 0 led) } } (.ref s.heap.objs.size) "set" := ⟨_, hS, rfl⟩
      have hli := PySem.F.called_set.init.lookup
      have hbi := PySem.F.called_set.init.bind (.ref s.heap.objs.size)
      repeat (any_goals (first | assumption | wp_step))
      refine codeAny_mono (codeAny_call_builtin (R := wants (fun r s₂ => r = .none ∧ ∃ h' tk, s₂ = { s with heap := h', toks := tk } ∧
          h'.SetOf (mixKind prog w) s.heap.objs.size (fun k' => decide (k' ∈ uniqK (xs.take items.size))) (uniqK (xs.take items.size)).length ∧
          (∀ b o, b < s.heap.objs.size → s.heap.get? b = some o → h'.get? b = some o)) E) PySem.F.called_set.init.plain PySem.F.entry_set_init (check_set_init_1 hT ?_)) fun r₂ s₂ hr₂ => ?_
      · obtain ⟨ol, hol, hcl, nl, hdl⟩ := hl
        obtain ⟨ocls, odict, odata, oslots⟩ := ol
        simp only at hcl hdl
        subst hcl; subst hdl
        have hol' : (s.heap.push { cls := .type "set", dict := none, data := .set #[] 0 (.fresh 0 0 led) }).get? l = some { cls := .type "tuple", dict := odict, data := .seq items nl, slots := oslots } := Heap.get?_push_of_some _ hol
        have hsls := PySem.F.sub_tuple_set
        have hslf := PySem.F.sub_tuple_frozenset
        have hne : (Value.type "tuple" == Value.type "dict") = false := by decide
        have hl1 : (s.heap.push { cls := .type "set", dict := none, data := .set #[] 0 (.fresh 0 0 led) }).IsTuple l items := ⟨_, hol', rfl, nl, rfl⟩
        unfold Builtin.«set.__init__» noKeywords Builtin.Frozenset.updateFrom
        generalize hPI : pyIter = PI
        wp_walk
        subst hPI
        refine wpAny_pyIter_tuple hl1 ?_
        refine wpAny_bind (wpAny_runValue ?_)
        have hlS : l < s.heap.objs.size := Heap.lt_size hol
        have hh3 : A.in1.in1.in1.handled = none := by simp [hh]
        have hneI : l ≠ (s.heap.push { cls := .type "set", dict := none, data := .set #[] 0 (.fresh 0 0 led) }).objs.size := by
          rw [Heap.size_push]; exact Nat.ne_of_lt (Nat.lt_succ_of_lt hlS)
        have hSf : s.heap.objs.size ∉ [(s.heap.push { cls := .type "set", dict := none, data := .set #[] 0 (.fresh 0 0 led) }).objs.size, l] := by
          rw [Heap.size_push]; simp only [List.mem_cons, List.mem_singleton, List.not_mem_nil, or_false, not_or]
          exact ⟨Nat.ne_of_lt (Nat.lt_succ_self _), Nat.ne_of_gt hlS⟩
        have hsz : xs.length = items.size := by rw [← Array.length_toList, ← hi.length, List.length_map]
        have hval : ∀ (i : Nat) (v : Value), items[i]? = some v → ∃ k, xs[i]? = some k ∧ RelV (kV k) v := fun i v hv => by
          have hlt : i < items.size := (Array.getElem?_eq_some_iff.mp hv).1
          have hlx : i < xs.length := by omega
          refine ⟨xs[i], List.getElem?_eq_getElem hlx, ?_⟩
          obtain ⟨w', hw, rw'⟩ := hi.get (i := i) (x := kV xs[i]) (by rw [List.getElem?_map, List.getElem?_eq_getElem hlx]; rfl)
          rw [Array.getElem?_toList] at hw
          rw [hv] at hw
          cases hw
          exact rw'
        refine loopMix ((Walks.tuple hh3 _ l hneI items).toS) s.heap.objs.size
          hSf xs hsz (by rw [← hsz]; exact hn1) hval (items.size - 0) 0 _ (by omega) (Nat.zero_le _)
          ⟨⟨_, Heap.get?_push_size _ rfl, rfl, rfl⟩, (hl1.push _)⟩ ?hS0 ?hR
        case hS0 =>
          have hget : ((s.heap.push { cls := .type "set", dict := none, data := .set #[] 0 (.fresh 0 0 led) }).push { cls := .type "tuple_iterator", data := .fields #[.ref l, .int 0 0] }).get? s.heap.objs.size
              = some { cls := .type "set", dict := none, data := .set #[] 0 (.fresh 0 0 led) } := Heap.get?_push_of_some _ hS
          exact ⟨_, #[], 0, _, hget, ⟨rfl, rfl, rfl⟩, rfl, (fun e he => by simp at he), (fun k => by simp [uniqK]), (by decide), (by rfl), rfl⟩
        case hR =>
          intro s' hm hS'
          obtain ⟨h', g', d', tk', os'⟩ := s'
          have eg : g' = s.gens := hm.gens
          have ed : d' = s.drawn := hm.drawn
          have eo : os' = s.os := hm.os
          subst eg; subst ed; subst eo
          show wpAny _ _ _ _ _ _
          refine wpAny_pure ?_
          show wpAny _ _ (ret Value.none) _ _ _
          refine wpAny_pure ⟨rfl, h', tk', rfl, hS', fun b o hb e => ?_⟩
          have hb1 : b ≠ s.heap.objs.size := Nat.ne_of_lt hb
          have hb2 : b ≠ (s.heap.push { cls := .type "set", dict := none, data := .set #[] 0 (.fresh 0 0 led) }).objs.size := by
            rw [Heap.size_push]; exact Nat.ne_of_lt (Nat.lt_succ_of_lt hb)
          exact hm.heap b o (by simp only [List.mem_cons, List.mem_singleton, List.not_mem_nil, or_false, not_or]; exact ⟨hb1, hb2⟩) (Heap.get?_push_of_some _ (Heap.get?_push_of_some _ e))
      · cases r₂ with
        | error e => exact hr₂
        | ok fl₂ =>
          cases fl₂ with
          | ret r =>
            obtain ⟨rfl, h', tk, rfl, hS', hk'⟩ := hr₂
            repeat (any_goals (first | assumption | wp_step))
            exact h _ _ hS' hk'
          | _ => exact hr₂.elim
    | _ => exact hr.elim
end
section
variable {X : Cx}
def tLenSetM (ta : TE) : TE := fun σ H Q => ta σ H fun x H1 => ∃ (l : Addr) (xs : List Key), x = .ref l ∧ H1 l = some (.tup (xs.map kV)) ∧ xs.length ≤ 50 ∧ Q (.int (uniqK xs).length) H1
theorem pe_lenSetM {a : Expr} {ta : TE} {p p2 q pos : Pos} (hc : X.calm = true) (hg : Gl X "len") (hm : X.mg "len" = none) (hg2 : Gl X "set") (hm2 : X.mg "set" = none) (ha : PE X a ta)
    (na : starEach [a] X.env = (false, eval a X.env) :: starEach [] X.env := by rfl) : PE X (.Call (.Name "len" p) [.Call (.Name "set" p2) [a] [] q] [] pos) (tLenSetM ta) := by
  refine ⟨fun pins s σ H Q I h => ?_⟩
  refine Call_ (ld_blt I hg hm boot_len ?_)
  refine PyProof.Rows.callWith_builtin1 (PyProof.Rows.args_cons ?_ rfl) rfl rfl
  refine Call_ (ld_blt I hg2 hm2 boot_set ?_)
  refine PyProof.Rows.callWith_type1 (PyProof.Rows.args_cons (thn (ha.run pins s σ H _ I h) fun v s1 ⟨x, H1, I1, r1, q1⟩ => PyProof.Rows.args_nil ?_) na) na rfl
  obtain ⟨l, xs, rfl, hq, h1, q1⟩ := q1
  cases r1
  obtain ⟨its, r, pl, hz⟩ := I1.tuple (SqT.of hq)
  refine call_set_tupleM (I1.ok.hd hc) pl (by simpa using r) h1 fun h' tk hS hk => ?_
  refine PyProof.Rows.args_nil ?_
  have hl : its.toArray.size = xs.length := by rw [List.size_toArray, ← r.length, List.length_map]
  rw [hl, List.take_length] at hS
  obtain ⟨o, es, ep, t, ho, hex, hd, _, _, _, hf, hn⟩ := hS
  have I2 : L2.Inv X pins σ H1 { s1 with heap := h', toks := tk } := I1.kept fun b o e => hk b o (Heap.lt_size e) e
  have lu := (uniqK_len _ xs rfl).1
  refine call_len_set ho hex hd hf (by rw [hn] <;> omega) ⟨.int (uniqK xs).length, H1, I2.tok _, ⟨_, by rw [hn]⟩, q1⟩
/-- t.index(n), the first place -/
def rIdxI (K : PySem.W.Frag) : V → List V → Hp → VK → Prop := fun x xs H Q => ∃ (p : Addr) (ys : List Int) (z : Int) (j : Nat), x = .ref p ∧ xs = [.int z] ∧ SqT K H p (ys.map V.int) ∧ ys[j]? = some z ∧ (∀ m, m < j → ys[m]? ≠ some z) ∧ Q (.int (j : Nat)) H
theorem flat_ints (ys : List Int) : (ys.map V.int).all flatV = true := by
  rw [List.all_map]
  exact List.all_eq_true.mpr fun _ _ => rfl
theorem mt_tup_indexI : MtR X "tuple.index" (rIdxI X.K) := by
  intro pins s σ H x xs v us Q I rx rs h
  obtain ⟨p, ys, z, j, rfl, rfl, hq, hy, hno, q⟩ := h
  cases rx
  obtain ⟨u, rfl, t, rfl⟩ := vals1 rs
  obtain ⟨its, r, pl, hz⟩ := I.tuple hq
  obtain ⟨⟨cls, dd, dt, sl⟩, ho, hc, n, hd⟩ := pl
  simp only at hc hd
  subst hc
  subst hd
  have hl : its.toArray.size = ys.length := by rw [List.size_toArray, ← r.length, List.length_map]
  have hj : j < its.toArray.size := by rw [hl]; exact (List.getElem?_eq_some_iff.mp hy).1
  have at' : ∀ (m : Nat) (hm : m < its.toArray.size), ∃ y t', ys[m]? = some y ∧ its.toArray[m] = Value.int y t' := fun m hm => by
    have hm' : m < ys.length := by rw [← hl]; exact hm
    obtain ⟨w, hw, t', hw'⟩ := r.get (i := m) (x := .int ys[m]) (by simp [hm'])
    refine ⟨ys[m], t', List.getElem?_eq_getElem hm', ?_⟩
    have e := (List.getElem?_eq_some_iff.mp hw).2
    rw [← hw', ← e]
    simp
  refine call_meets PySem.F.slot_tuple_index ⟨_, ho, rfl⟩ PySem.F.entry_tuple_index (PySem.F.args_tuple_index_2 _ _) (TI.tuple_indexAt p its.toArray n dd sl (.int z t) (eqU (.int z)) j hj ?_ ?_)
    ⟨ho, fun w hw => mem_eqAt (x := .int z) ⟨t, rfl⟩ rfl r (flat_ints ys) w (by simpa using hw), ⟨.int (j : Nat), H, I.tok _, ⟨_, rfl⟩, q⟩⟩
  · obtain ⟨y, t', h1, h2⟩ := at' j hj
    rw [hy] at h1
    cases h1
    rw [h2]
    show (z == z) = true
    exact beq_self_eq_true z
  · intro m hm hmj
    obtain ⟨y, t', h1, h2⟩ := at' m hm
    rw [h2]
    show (y == z) = false
    have : y ≠ z := fun e => hno m hmj (by rw [h1, e])
    exact beq_eq_false_iff_ne.mpr this
end
end Sb

/-! t * k for tuples of data, the empty one too. -/
namespace Sb
open PySem PySem.Spec PyProof.Rows L2
theorem tuple_mul0 (l : Addr) (n : Nat) (dd : Option Addr) (sl : Array (Option Value)) (x : Int) (u : Tok) (hx : -(2 ^ 63) ≤ x ∧ x < 2 ^ 63) :
    Meets (Builtin.«tuple.__mul__» ⟨[.ref l, .int x u], []⟩) (fun _ R s => s.heap.get? l = some { cls := .type "tuple", dict := dd, data := .seq #[] n, slots := sl } ∧ R (.ok (.ret (Value.ref l))) s) :=
  .of_wp fun P w A R s h => by
    obtain ⟨hp, g, d, tk, os⟩ := s
    obtain ⟨hl, h⟩ := h
    have f1 := AutoSeq1.idx_int
    have c0 : (decide (x < -(2 ^ 63)) || decide (x ≥ 2 ^ 63)) = false := by
      rw [decide_eq_false (by omega), decide_eq_false (by omega)] <;> rfl
    wp_walk using wpAny_loadPart' hl
    refine wpAny_ite_false (decide_eq_false (by rw [c0]; exact Bool.false_ne_true)) ?_
    wp_walk using wpAny_loadPart' hl
    exact ⟨_, rfl, h⟩
theorem TDs.flat {H : Hp} {xs : List V} {ds : List PyData} (h : TDs H xs ds) : ∀ k, TDs H (List.replicate k xs).flatten (List.replicate k ds).flatten
  | 0 => .nil
  | k + 1 => h.app (h.flat k)
def rMulD : R2 := fun x y H Q => ∃ ds k, TD H x (.tuple ds) ∧ y = .int k ∧ 2 ≤ k ∧ k ≤ 1000 ∧ ds.length ≤ 1000 ∧ ∀ p H', Same H H' → TD H' (.ref p) (.tuple (List.replicate k.toNat ds).flatten) → Q (.ref p) H'
section
variable {X : Cx}
theorem op_mulD : OpR X (binaryOp .Mult) rMulD := by
  intro pins s σ H x y v u Q I rx ry h
  obtain ⟨ds, k, hT, rfl, h1, h2, hz, q⟩ := h
  obtain ⟨l, xs, rfl, hl, hx⟩ := hT.isTup
  have lx := hx.length
  by_cases hne : xs = []
  · subst hne
    cases hx
    cases rx
    obtain ⟨t, rfl⟩ := ry
    obtain ⟨its, r, ⟨⟨cls, dd, data, sl⟩, ho, hc, n, hd⟩, hs⟩ := I.tuple (SqT.of hl)
    cases r
    simp only at hc hd
    subst hc hd
    refine wpAny_binaryOp_repeat_ref (T := "tuple") (U := "int") (by decide) ⟨_, ho, rfl⟩ (fun s' => typeIs_int s' k t) noFill_tuple_mul PySem.F.fills_int_mul PySem.F.slot_int_rmul repeat_tuple PySem.F.slot_int_index.lookup
      (call_meets PySem.F.slot_int_rmul (typeIs_int s k t) PySem.F.entry_int_rmul (PySem.F.args_int_rmul_2 _ _) (int_rmul_tuple k t l #[] n dd sl)
        ⟨ho, rfl, ⟨_, ho, rfl⟩, call_meets PySem.F.slot_tuple_mul ⟨_, ho, rfl⟩ PySem.F.entry_tuple_mul (PySem.F.args_tuple_mul_2 _ _) (tuple_mul0 l n dd sl k t (by omega)) ⟨ho, ?_⟩⟩)
    refine ⟨.ref l, H, I, rfl, q l H (Same.refl H) ?_⟩
    have e : (List.replicate k.toNat ([] : List PyData)).flatten = [] := by simp
    rw [e]
    exact hT
  · exact op_repT pins s σ H _ _ v u Q I rx ry ⟨l, k, xs, rfl, rfl, SqT.of hl, hne, h1, h2, by omega, fun p np => q p _ (same_new np) (.tup upd_same (TDs.mono (Tups.new np) _ (hx.flat k.toNat)))⟩
end
end Sb

/-! Tuples whose object is known to have no dict: their methods may be called. -/
namespace Sb
open PySem PySem.Spec PyProof.Rows L2
section
variable {X : Cx}
/-- (e, ..), its object known -/
def tTupF (t : TA) : TE := fun σ H Q => t σ H fun xs H1 => xs.length ≤ sizeLine ∧ ∀ p ob, H1 p = none → ob.dict = none → Q (.ref p) (upd H1 p (.frz ob (.tup xs)))
theorem pe_tupF {es : List Expr} {x1} {pos : Pos} {t : TA} (h : PA X es t) : PE X (.Tuple es x1 pos) (tTupF t) := by
  refine ⟨fun pins s σ H Q I hq => ?_⟩
  refine wpAny_Tuple_spliced (thn (h.run pos pins s σ H _ I hq) fun us s1 ⟨xs, H1, I1, r, z, q⟩ => ⟨by rw [← r.length]; exact z, ?_⟩)
  have hf : H1 s1.heap.objs.size = none := I1.hok.fresh (Nat.le_refl _)
  refine ⟨.ref s1.heap.objs.size, upd H1 s1.heap.objs.size (.frz { cls := .type "tuple", data := .seq us.toArray } (.tup xs)), I1.laid (t' := s1.toks) (fun b u e => Heap.get?_push_of_some _ e) (Nat.le_refl _) ?_, rfl, q _ _ hf rfl⟩
  exact ⟨Heap.get?_push_size _ rfl, z, us, r, ⟨_, Heap.get?_push_size _ rfl, rfl, _, rfl⟩⟩
/-- tuple(xs) -/
def rTupF (K : PySem.W.Frag) : List V → Hp → VK → Prop := fun xs H Q => ∃ p ys, xs = [.ref p] ∧ SqL K H p ys ∧ ∀ l ob, H l = none → ob.dict = none → Q (.ref l) (upd H l (.frz ob (.tup ys)))
theorem call_tupleF : CallR X (.type "tuple") (rTupF X.K) := by
  intro pins s σ H xs us Q I r h
  obtain ⟨p, ys, rfl, hq, q⟩ := h
  obtain ⟨u, rfl, rx⟩ := vals1 r
  cases rx
  obtain ⟨its, r', pl, hz⟩ := I.list hq
  have hlen := r'.length
  refine call_tuple_list pl.isList (fun h' kp => ?_) (by simp only [List.size_toArray] <;> omega)
  have I1 : L2.Inv X pins σ H { s with heap := h' } := I.kept (t' := s.toks) kp
  have I2 : L2.Inv X pins σ (upd H h'.objs.size (.frz { cls := .type "tuple", data := .seq its.toArray } (.tup ys))) { s with heap := h'.push { cls := .type "tuple", data := .seq its.toArray } } :=
    I1.laid (t' := s.toks) (fun b o e => Heap.get?_push_of_some _ e) (Nat.le_refl _) (show ObjOk X.prog X.w _ _ _ (.frz _ (.tup ys)) from ⟨Heap.get?_push_size _ rfl, hz, its, r', IsTup.new _ _⟩)
  exact ⟨.ref h'.objs.size, _, I2, rfl, q _ _ (I1.hok.fresh (Nat.le_refl _)) rfl⟩
/-- t.m(e, ..) -/
def tBMT (r : V → List V → Hp → VK → Prop) (to : TE) (t : TA) : TE := fun σ H Q => to σ H fun x H1 => (∃ p ob xs, x = V.ref p ∧ H1 p = some (.frz ob (.tup xs)) ∧ ob.dict = none) ∧ t σ H1 fun xs H2 => r x xs H2 Q
variable {o e : Expr} {es : List Expr} {to : TE} {t : TA} {name : Str} {apos cpos : Pos} {id : String} {r : V → List V → Hp → VK → Prop}
theorem pe_bmT (pa : PlainAttrs "tuple") (slot : Slot "tuple" name id) (hty : typeOf (.builtin id) = pure (.type "method_descriptor")) (hm : MtR X id r) (ho : PE X o to) (ha : PA X (e :: es) t)
    (hbase : attributeBase o name X.env (eval o X.env) = eval o X.env := by rfl)
    (hfew : ((backTo cpos (starEach (e :: es) X.env)).all (fun x => !x.1) && (backToKw cpos (keywordEach [] X.env)).all (fun x => x.1.isSome)
      && decide ((e :: es).length + ([] : List Keyword).length + (if ([] : List Keyword).isEmpty then 0 else 1) < 30)) = true := by rfl)
    (hline : (apos.endLine == cpos.line) = true := by rfl) (hs : starEach (e :: es) X.env = (false, eval e X.env) :: starEach es X.env := by rfl) (hplain : (backTo cpos (starEach es X.env)).any (·.1) = false := by rfl) :
    PE X (.Call (.Attribute o name apos) (e :: es) [] cpos) (tBMT r to t) := by
  refine ⟨fun pins s σ H Q I h => ?_⟩
  refine wpAny_Call_method_late hbase hfew hline rfl (thn (ho.run pins s σ H _ I h) fun v s1 ⟨x, H1, I1, r1, ⟨p, ob, xs, ex, hp, hd⟩, q1⟩ => ?_)
  subst ex
  obtain rfl : v = Value.ref p := r1
  obtain ⟨g, z, its, rv, o', ho', hc, n, hdat⟩ := (show ObjOk X.prog X.w H1 s1.heap p (.frz ob (.tup xs)) from I1.hok p _ hp)
  have eo : o' = ob := by
    rw [g] at ho'
    exact (Option.some.inj ho').symm
  subst eo
  refine ⟨"tuple", id, pa, slot, hty, ⟨o', g, hc⟩, fun a e2 => ?_, ?_⟩
  · cases e2
    exact ⟨o', g, hd⟩
  have hA := ha.run cpos pins s1 σ H1 _ I1 q1
  rw [hs] at hA ⊢
  refine Calls.callWith_builtin (by show (false || (backTo cpos (starEach es X.env)).any (·.1)) = false; rw [hplain] <;> rfl) (Calls.evalArgs_plain ?_)
  exact thn hA fun us s2 ⟨vs, H2, I2, r2, q2⟩ => hm pins s2 σ H2 (.ref p) vs (.ref p) us Q I2 rfl r2 q2
end
/-- held values, in order, at a -/
def HT (H : Hp) (a : Addr) (ns : List Int) : Prop := ∃ ob, H a = some (.frz ob (.tup (ns.map V.int))) ∧ ob.dict = none
theorem HT.sq {K : PySem.W.Frag} {H : Hp} {a : Addr} {ns : List Int} (h : HT H a ns) : SqT K H a (ns.map V.int) := by
  obtain ⟨ob, e, _⟩ := h
  exact .inl (.inr ⟨ob, e⟩)
theorem HT.mono {H H' : Hp} {a : Addr} {ns : List Int} (h : HT H a ns) (s : Same H H') : HT H' a ns := by
  obtain ⟨ob, e, d⟩ := h
  exact ⟨ob, s _ _ e, d⟩
theorem HT.ty {H : Hp} {a : Addr} {ns : List Int} (h : HT H a ns) : ∃ p ob xs, V.ref a = V.ref p ∧ H p = some (.frz ob (.tup xs)) ∧ ob.dict = none := by
  obtain ⟨ob, e, d⟩ := h
  exact ⟨a, ob, _, rfl, e, d⟩
theorem inV_ints (v : Int) : ∀ ns : List Int, inV (.int v) (ns.map V.int) = decide (v ∈ ns)
  | [] => rfl
  | n :: r => by
    have ih := inV_ints v r
    unfold inV at ih ⊢
    rw [List.map_cons, List.any_cons, ih]
    by_cases h : n = v
    · subst h
      simp [eqV]
    · have h' : ¬ v = n := fun e => h e.symm
      simp [eqV, h, h', List.mem_cons]
end Sb

/-! len(set(xs)), xs a list of ints and texts. -/
namespace Sb
open PySem PySem.Spec PyProof.Rows L2
section
variable {prog : Program} {w : World} {A : Around} {E : Value → Shared → Prop} {s : Shared}
theorem call_set_listM {l : Addr} {items : Array Value} {xs : List Key} {Q : Value → Shared → Prop}
    (hh : A.handled = none) (hl : s.heap.IsList l items) (hi : Vals (xs.map kV) items.toList) (hn1 : xs.length ≤ 50)
    (h : ∀ (h' : Heap) (tk : Nat), h'.SetOf (mixKind prog w) s.heap.objs.size (fun k' => decide (k' ∈ uniqK (xs.take items.size))) (uniqK (xs.take items.size)).length →
      (∀ b o, b < s.heap.objs.size → s.heap.get? b = some o → h'.get? b = some o) → Q (.ref s.heap.objs.size) { s with heap := h', toks := tk }) :
    wpAny (model prog w) A (call (.type "set") [.ref l]) Q E s := by
  obtain ⟨c, tl, hmro⟩ := PySem.F.called_set.mro
  have hmade := PySem.F.called_set.made
  have hsub := PySem.F.called_set.sub
  refine wpAny_call (codeAny_of_tree ?_)
  show wpAny _ _ (callAny (.type "set") _) _ _ _
  refine wpAny_pure ⟨Code.quiet_builtin _ (by decide +kernel), codeAny_builtin PySem.F.entry_type_call ?_⟩
  rw [Around.under_plain (weight_type_call_type "set" [.ref l] []) rfl]
  have h1 := PySem.F.called_set.notType
  have h2 := PySem.F.called_set.canCreate
  have hct := PySem.F.typeCall_set_1 (.ref l)
  repeat (any_goals (first | assumption | wp_step))
  refine codeAny_mono (code_set_new_1 (.ref l) (E := E) (Q₁ := fun obj s₁ => ∃ led : Bool, obj = .ref s.heap.objs.size ∧ s₁ = { s with heap := s.heap.push { cls := .type "set", dict := none, data := .set #[] 0 (.fresh 0 0 led) } }) fun led => ⟨led, rfl, rfl⟩) fun r s₁ hr => ?_
  cases r with
  | error e => exact hr
  | ok fl =>
    cases fl with
    | ret obj =>
      obtain ⟨led, rfl, rfl⟩ := hr
      have hS : (s.heap.push { cls := .type "set", dict := none, data := .set #[] 0 (.fresh 0 0 led) }).get? s.heap.objs.size = some { cls := .type "set", dict := none, data := .set #[] 0 (.fresh 0 0 led) } := Heap.get?_push_size _ rfl
      have hT : Shared.TypeIs { s with heap := s.heap.push { cls := .type "set", dict := none, data := .set #[] 0 (.fresh 0 0 led) } } (.ref s.heap.objs.size) "set" := ⟨_, hS, rfl⟩
      have hli := PySem.F.called_set.init.lookup
      have hbi := PySem.F.called_set.init.bind (.ref s.heap.objs.size)
      repeat (any_goals (first | assumption | wp_step))
      refine codeAny_mono (codeAny_call_builtin (R := wants (fun r s₂ => r = .none ∧ ∃ h' tk, s₂ = { s with heap := h', toks := tk } ∧
          h'.SetOf (mixKind prog w) s.heap.objs.size (fun k' => decide (k' ∈ uniqK (xs.take items.size))) (uniqK (xs.take items.size)).length ∧
          (∀ b o, b < s.heap.objs.size → s.heap.get? b = some o → h'.get? b = some o)) E) PySem.F.called_set.init.plain PySem.F.entry_set_init (check_set_init_1 hT ?_)) fun r₂ s₂ hr₂ => ?_
      · obtain ⟨ol, hol, hcl, nl, hdl⟩ := hl
        obtain ⟨ocls, odict, odata, oslots⟩ := ol
        simp only at hcl hdl
        subst hcl; subst hdl
        have hol' : (s.heap.push { cls := .type "set", dict := none, data := .set #[] 0 (.fresh 0 0 led) }).get? l = some { cls := .type "list", dict := odict, data := .seq items nl, slots := oslots } := Heap.get?_push_of_some _ hol
        have hsls := PySem.F.sub_list_set
        have hslf := PySem.F.sub_list_frozenset
        have hne : (Value.type "list" == Value.type "dict") = false := by decide
        have hl1 : (s.heap.push { cls := .type "set", dict := none, data := .set #[] 0 (.fresh 0 0 led) }).IsList l items := ⟨_, hol', rfl, nl, rfl⟩
        unfold Builtin.«set.__init__» noKeywords Builtin.Frozenset.updateFrom
        generalize hPI : pyIter = PI
        wp_walk
        subst hPI
        refine wpAny_pyIter_list hl1 ?_
        refine wpAny_bind (wpAny_runValue ?_)
        have hlS : l < s.heap.objs.size := Heap.lt_size hol
        have hh3 : A.in1.in1.in1.handled = none := by simp [hh]
        have hneI : l ≠ (s.heap.push { cls := .type "set", dict := none, data := .set #[] 0 (.fresh 0 0 led) }).objs.size := by
          rw [Heap.size_push]; exact Nat.ne_of_lt (Nat.lt_succ_of_lt hlS)
        have hSf : s.heap.objs.size ∉ [(s.heap.push { cls := .type "set", dict := none, data := .set #[] 0 (.fresh 0 0 led) }).objs.size, l] := by
          rw [Heap.size_push]; simp only [List.mem_cons, List.mem_singleton, List.not_mem_nil, or_false, not_or]
          exact ⟨Nat.ne_of_lt (Nat.lt_succ_self _), Nat.ne_of_gt hlS⟩
        have hsz : xs.length = items.size := by rw [← Array.length_toList, ← hi.length, List.length_map]
        have hval : ∀ (i : Nat) (v : Value), items[i]? = some v → ∃ k, xs[i]? = some k ∧ RelV (kV k) v := fun i v hv => by
          have hlt : i < items.size := (Array.getElem?_eq_some_iff.mp hv).1
          have hlx : i < xs.length := by omega
          refine ⟨xs[i], List.getElem?_eq_getElem hlx, ?_⟩
          obtain ⟨w', hw, rw'⟩ := hi.get (i := i) (x := kV xs[i]) (by rw [List.getElem?_map, List.getElem?_eq_getElem hlx]; rfl)
          rw [Array.getElem?_toList] at hw
          rw [hv] at hw
          cases hw
          exact rw'
        refine loopMix ((Walks.list hh3 _ l hneI items).toS) s.heap.objs.size
          hSf xs hsz (by rw [← hsz]; exact hn1) hval (items.size - 0) 0 _ (by omega) (Nat.zero_le _)
          ⟨⟨_, Heap.get?_push_size _ rfl, rfl, rfl⟩, (hl1.push _)⟩ ?hS0 ?hR
        case hS0 =>
          have hget : ((s.heap.push { cls := .type "set", dict := none, data := .set #[] 0 (.fresh 0 0 led) }).push { cls := .type "list_iterator", data := .fields #[.ref l, .int 0 0] }).get? s.heap.objs.size
              = some { cls := .type "set", dict := none, data := .set #[] 0 (.fresh 0 0 led) } := Heap.get?_push_of_some _ hS
          exact ⟨_, #[], 0, _, hget, ⟨rfl, rfl, rfl⟩, rfl, (fun e he => by simp at he), (fun k => by simp [uniqK]), (by decide), (by rfl), rfl⟩
        case hR =>
          intro s' hm hS'
          obtain ⟨h', g', d', tk', os'⟩ := s'
          have eg : g' = s.gens := hm.gens
          have ed : d' = s.drawn := hm.drawn
          have eo : os' = s.os := hm.os
          subst eg; subst ed; subst eo
          show wpAny _ _ _ _ _ _
          refine wpAny_pure ?_
          show wpAny _ _ (ret Value.none) _ _ _
          refine wpAny_pure ⟨rfl, h', tk', rfl, hS', fun b o hb e => ?_⟩
          have hb1 : b ≠ s.heap.objs.size := Nat.ne_of_lt hb
          have hb2 : b ≠ (s.heap.push { cls := .type "set", dict := none, data := .set #[] 0 (.fresh 0 0 led) }).objs.size := by
            rw [Heap.size_push]; exact Nat.ne_of_lt (Nat.lt_succ_of_lt hb)
          exact hm.heap b o (by simp only [List.mem_cons, List.mem_singleton, List.not_mem_nil, or_false, not_or]; exact ⟨hb1, hb2⟩) (Heap.get?_push_of_some _ (Heap.get?_push_of_some _ e))
      · cases r₂ with
        | error e => exact hr₂
        | ok fl₂ =>
          cases fl₂ with
          | ret r =>
            obtain ⟨rfl, h', tk, rfl, hS', hk'⟩ := hr₂
            repeat (any_goals (first | assumption | wp_step))
            exact h _ _ hS' hk'
          | _ => exact hr₂.elim
    | _ => exact hr.elim
end
section
variable {X : Cx}
def tLenSetL (K : PySem.W.Frag) (ta : TE) : TE := fun σ H Q => ta σ H fun x H1 => ∃ (l : Addr) (xs : List Key), x = .ref l ∧ SqL K H1 l (xs.map kV) ∧ xs.length ≤ 50 ∧ Q (.int (uniqK xs).length) H1
theorem pe_lenSetL {a : Expr} {ta : TE} {p p2 q pos : Pos} (hc : X.calm = true) (hg : Gl X "len") (hm : X.mg "len" = none) (hg2 : Gl X "set") (hm2 : X.mg "set" = none) (ha : PE X a ta)
    (na : starEach [a] X.env = (false, eval a X.env) :: starEach [] X.env := by rfl) : PE X (.Call (.Name "len" p) [.Call (.Name "set" p2) [a] [] q] [] pos) (tLenSetL X.K ta) := by
  refine ⟨fun pins s σ H Q I h => ?_⟩
  refine Call_ (ld_blt I hg hm boot_len ?_)
  refine PyProof.Rows.callWith_builtin1 (PyProof.Rows.args_cons ?_ rfl) rfl rfl
  refine Call_ (ld_blt I hg2 hm2 boot_set ?_)
  refine PyProof.Rows.callWith_type1 (PyProof.Rows.args_cons (thn (ha.run pins s σ H _ I h) fun v s1 ⟨x, H1, I1, r1, q1⟩ => PyProof.Rows.args_nil ?_) na) na rfl
  obtain ⟨l, xs, rfl, hq, h1, q1⟩ := q1
  cases r1
  obtain ⟨its, r, pl, hz⟩ := I1.list hq
  refine call_set_listM (I1.ok.hd hc) pl.isList (by simpa using r) h1 fun h' tk hS hk => ?_
  refine PyProof.Rows.args_nil ?_
  have hl : its.toArray.size = xs.length := by rw [List.size_toArray, ← r.length, List.length_map]
  rw [hl, List.take_length] at hS
  obtain ⟨o, es, ep, t, ho, hex, hd, _, _, _, hf, hn⟩ := hS
  have I2 : L2.Inv X pins σ H1 { s1 with heap := h', toks := tk } := I1.kept fun b o e => hk b o (Heap.lt_size e) e
  have lu := (uniqK_len _ xs rfl).1
  refine call_len_set ho hex hd hf (by rw [hn] <;> omega) ⟨.int (uniqK xs).length, H1, I2.tok _, ⟨_, by rw [hn]⟩, q1⟩
end
end Sb

/-! Dicts with tuple keys: against the empty one, shown, displayed; a dict against a text. -/
namespace Sb
open PySem PySem.Spec PyProof.Rows L2
section
variable {prog : Program} {w : World} {A : Around} {E : Value → Shared → Prop} {s : Shared}
theorem samePairs_empty {nm : String} {a b : Addr} {oa ob : Obj} {es es' : Array DictEntry} {ep ep' : Nat} {Q : Bool → Shared → Prop} (ha : (a == sysModules) = false) (hb : (b == sysModules) = false)
    (hoa : s.heap.get? a = some oa) (hda : oa.data = .dict es ep) (hob : s.heap.get? b = some ob) (hdb : ob.data = .dict es' ep') (h0 : es'.size = 0) (h : Q (decide (es.size = 0)) s) :
    wpAny (model prog w) A (Builtin.Dict.samePairs nm a b) Q E s := by
  unfold Builtin.Dict.samePairs Builtin.Dict.showsAll
  rw [if_neg (show ¬ (a == sysModules) = true by rw [ha]; exact Bool.false_ne_true), if_neg (show ¬ (b == sysModules) = true by rw [hb]; exact Bool.false_ne_true)]
  refine wpAny_bind (wpAny_pure (wpAny_bind (wpAny_pure ?_)))
  refine wpAny_bind (wpAny_dictEntries hoa hda ?_)
  dsimp only
  refine wpAny_bind (wpAny_dictEntries hob hdb ?_)
  by_cases hsz : es.size = 0
  case neg =>
    rw [if_pos (by simp [h0, hsz])]
    rw [decide_eq_false hsz] at h
    exact wpAny_bind (wpAny_rule (wpAny_pure h))
  case pos =>
    rw [decide_eq_true hsz] at h
    rw [if_neg (by rw [hsz, h0]; simp)]
    refine wpAny_bind (wpAny_dictEpoch hoa hda ?_)
    refine wpAny_bind ?_
    rw [Std.Legacy.Range.forIn_eq_forIn_range']
    simp only [Std.Legacy.Range.size, Nat.sub_zero, Nat.add_sub_cancel, Nat.div_one]
    rw [hsz]
    exact wpAny_pure (wpAny_pure h)
theorem rc_dictE {neg : Bool} {a b : Addr} {oa ob : Obj} {es es' : Array DictEntry} {ep ep' : Nat} {Q : Value → Shared → Prop} (ha : (a == sysModules) = false) (hb : (b == sysModules) = false)
    (hoa : s.heap.get? a = some oa) (hca : oa.ExactDict) (hda : oa.data = .dict es ep) (hob : s.heap.get? b = some ob) (hcb : ob.ExactDict) (hdb : ob.data = .dict es' ep') (h0 : es'.size = 0) (hu : A.units < cLine) (h : Q (.bool (if neg then !decide (es.size = 0) else decide (es.size = 0))) s) :
    wpAny (model prog w) A (compareOp (if neg then .NotEq else .Eq) (.ref a) (.ref b)) Q E s := by
  have ta : s.TypeIs (.ref a) "dict" := ⟨oa, hoa, hca.1⟩
  have tb : s.TypeIs (.ref b) "dict" := ⟨ob, hob, hcb.1⟩
  cases neg with
  | false =>
    refine wpAny_richCompare_same_room (op := .Eq) ta tb PySem.F.slot_dict_eq (wpAny_call_entry PySem.F.slot_dict_eq ta PySem.F.entry_dict_eq ?_ (PySem.F.args_dict_eq_2 _ _)) hu
    show wpAny _ _ (Builtin.Dict.dictSlotArgs "__eq__" ⟨[.ref a, .ref b], []⟩ >>= _) _ _ s
    refine wpAny_bind ?_
    unfold Builtin.Dict.dictSlotArgs
    refine wpAny_bind (wpAny_notOrdered_dict ta ?_)
    show wpAny _ _ (pure (Value.ref a, Value.ref b)) _ _ s
    refine wpAny_pure ?_
    refine wpAny_bind (wpAny_isInstance (T := "dict") tb PySem.F.sub_dict_dict ?_)
    simp only [Bool.not_true, Bool.false_eq_true, if_false]
    refine wpAny_bind (wpAny_pure (wpAny_bind (wpAny_pure ?_)))
    refine wpAny_bind (samePairs_empty ha hb hoa hda hob hdb h0 ?_)
    refine wpAny_pure ⟨_, rfl, ?_, ?_⟩
    · exact fun x => nomatch x
    · simpa using h
  | true =>
    refine wpAny_richCompare_same_room (op := .NotEq) ta tb PySem.F.slot_dict_ne (wpAny_call_entry PySem.F.slot_dict_ne ta PySem.F.entry_dict_ne ?_ (PySem.F.args_dict_ne_2 _ _)) hu
    show wpAny _ _ (Builtin.Dict.dictSlotArgs "__ne__" ⟨[.ref a, .ref b], []⟩ >>= _) _ _ s
    refine wpAny_bind ?_
    unfold Builtin.Dict.dictSlotArgs
    refine wpAny_bind (wpAny_notOrdered_dict ta ?_)
    show wpAny _ _ (pure (Value.ref a, Value.ref b)) _ _ s
    refine wpAny_pure ?_
    refine wpAny_bind (wpAny_isInstance (T := "dict") tb PySem.F.sub_dict_dict ?_)
    simp only [Bool.not_true, Bool.false_eq_true, if_false]
    refine wpAny_bind (wpAny_pure (wpAny_bind (wpAny_pure ?_)))
    refine wpAny_bind (samePairs_empty ha hb hoa hda hob hdb h0 ?_)
    refine wpAny_pure ⟨_, rfl, ?_, ?_⟩
    · exact fun x => nomatch x
    · simpa using h
theorem dict_eq_str (l : Addr) (o : Obj) (b : Str) (u : Tok) {Q : Value → Shared → Prop} (ho : s.heap.get? l = some o) (hc : o.ExactDict) (hq : Q .notImplemented s) : wpAny (model prog w) A (call (.builtin "dict.__eq__") [.ref l, .str b u]) Q E s := by
  have ta : s.TypeIs (.ref l) "dict" := ⟨o, ho, hc.1⟩
  refine wpAny_call_entry PySem.F.slot_dict_eq ta PySem.F.entry_dict_eq ?_ (PySem.F.args_dict_eq_2 _ _)
  show wpAny _ _ (Builtin.Dict.dictSlotArgs "__eq__" ⟨[.ref l, .str b u], []⟩ >>= _) _ _ s
  refine wpAny_bind ?_
  unfold Builtin.Dict.dictSlotArgs
  refine wpAny_bind (wpAny_notOrdered_dict ta ?_)
  show wpAny _ _ (pure (Value.ref l, Value.str b u)) _ _ s
  refine wpAny_pure ?_
  refine wpAny_bind (wpAny_isInstance (T := "str") (typeIs_str s b u) PySem.F.sub_str_dict ?_)
  exact wpAny_bind (wpAny_rule (wpAny_pure ⟨_, rfl, hq⟩))
theorem str_eq_obj (b : Str) (u : Tok) (l : Addr) (c : Value) (es : Array DictEntry) (ep : Nat) (dd : Option Addr) (sl : Array (Option Value)) :
    Meets (Builtin.«str.__eq__» ⟨[.str b u, .ref l], []⟩) (fun _ R s => s.heap.get? l = some { cls := c, dict := dd, data := .dict es ep, slots := sl } ∧ R (.ok (.ret .notImplemented)) s) :=
  .of_wp fun prog w A R s h => by obtain ⟨hp, g, d, tk, os⟩ := s; obtain ⟨hl, h⟩ := h; wp_walk using wpAny_loadPart' hl, wpAny_load hl; exact ⟨_, rfl, h⟩
theorem rc_dict_str {l : Addr} {o : Obj} {es : Array DictEntry} {ep : Nat} (b : Str) (u : Tok) (ho : s.heap.get? l = some o) (hc : o.ExactDict) (hd : o.data = .dict es ep) (hu : A.units < cLine) {Q : Value → Shared → Prop} (h : Q (.bool false) s) : wpAny (model prog w) A (compareOp .Eq (.ref l) (.str b u)) Q E s := by
  obtain ⟨cls, dd, data, sl⟩ := o
  simp only at hd
  subst hd
  exact SeqAt.rc_eq_decline_or (k := false) ⟨_, ho, hc.1⟩ (typeIs_str s b u) (by decide) PySem.F.sub_str_dict PySem.F.slot_dict_eq PySem.F.slot_str_eq_refl
    (fun _ hq => dict_eq_str l _ b u ho hc hq)
    (fun _ hq => call_meets PySem.F.slot_str_eq_refl (typeIs_str s b u) PySem.F.entry_str_eq (PySem.F.args_str_eq_2 _ _) (str_eq_obj b u l cls es ep dd sl) ⟨ho, hq⟩)
    (fun _ hq => wpAny_of_eq (rfl : isSame (.ref l) (.str b u) = pure false) hq) (.inr hu) h
end
section
variable {X : Cx}
/-- x == {}, x != {} -/
def rDE (neg : Bool) : R2 := fun x y H Q => ∃ a b kvs, x = .ref a ∧ y = .ref b ∧ H a = some (.dT kvs) ∧ (H b = some (.dK []) ∨ H b = some (.dT [])) ∧ Q (.bl (if neg then !decide (kvs.length = 0) else decide (kvs.length = 0))) H
theorem op_dE {neg : Bool} (hu : X.A.units + 64 < cLine) : OpR X (compareOp (if neg then .NotEq else .Eq)) (rDE neg) := by
  intro pins s σ H x y v u Q I rx ry h
  obtain ⟨a, b, kvs, rfl, rfl, ha, hb, q⟩ := h
  cases rx
  cases ry
  obtain ⟨z, low, xs, rel, o, es, ep, ho, ex, hd, pr, _⟩ := dt_of I.hok ha
  have l1 : es.size = kvs.length := by
    have : es.toList.length = xs.length := by rw [pr, List.length_map]
    rw [Array.length_toList] at this
    rw [this, ← Paired.length rel]
  obtain ⟨lowb, ob, es', ep', hob, exb, hdb, l2⟩ : (b == sysModules) = false ∧ ∃ ob es' ep', s.heap.get? b = some ob ∧ ob.ExactDict ∧ ob.data = .dict es' ep' ∧ es'.size = 0 := by
    rcases hb with hb | hb
    · obtain ⟨_, low, vs, rel, o, es, ep, ho, ex, hd, _, pr, _⟩ := dk_of I.hok hb
      cases rel
      have hes : es.toList = [] := List.eq_nil_of_length_eq_zero (Pairs.length pr)
      exact ⟨low, o, es, ep, ho, ex, hd, by rw [← Array.length_toList, hes]; rfl⟩
    · obtain ⟨_, low, xs, rel, o, es, ep, ho, ex, hd, pr, _⟩ := dt_of I.hok hb
      cases rel
      have hes : es.toList = [] := pr
      exact ⟨low, o, es, ep, ho, ex, hd, by rw [← Array.length_toList, hes]; rfl⟩
  refine rc_dictE low lowb ho ex hd hob exb hdb l2 (by omega) ⟨.bl _, H, I, rfl, ?_⟩
  rw [l1]
  exact q
/-- x == text, x of any kind -/
def rEqS' : R2 := fun x y H Q => ∃ p d z, LD p H x d ∧ y = .str z ∧ Q (.bl (isStrD d z)) H
theorem op_eqS' (hu : X.A.units + 64 < cLine) : OpR X (compareOp .Eq) rEqS' := by
  intro pins s σ H x y v u Q I rx ry h
  obtain ⟨p, d, z, hx, rfl, q⟩ := h
  by_cases hd : isDctD d = false
  · exact op_eqS hu pins s σ H _ _ v u Q I rx ry ⟨p, d, z, hx, hd, rfl, q⟩
  · obtain ⟨tz, rfl⟩ := ry
    cases hx with
    | @dic a n e =>
      cases rx
      obtain ⟨_, low, vs, rel, o, es, ep, ho, ex, hdt, _⟩ := dk_of I.hok e
      exact rc_dict_str z tz ho ex hdt (by omega) ⟨.bl _, H, I, rfl, q⟩
    | @dct a n e =>
      cases rx
      obtain ⟨_, low, xs, rel, o, es, ep, ho, ex, hdt, _⟩ := dt_of I.hok e
      exact rc_dict_str z tz ho ex hdt (by omega) ⟨.bl _, H, I, rfl, q⟩
    | _ => exact absurd rfl hd
end
end Sb

/-! Dicts with tuple keys: shown; a display of one pair. -/
namespace Sb
open PySem PySem.Spec PyProof.Rows L2
def keyD : Key → PyData
  | .inl n => .int n
  | .inr s => .str s
theorem ld_keys {p : Addr} {H : Hp} : ∀ ks : List Key, LDs p H (ks.map kV) (ks.map keyD)
  | [] => .nil
  | .inl n :: r => .cons (.int n) (ld_keys r)
  | .inr s :: r => .cons (.str s) (ld_keys r)
def rowsD (R : List (List Key × PyData)) : List (PyData × PyData) := R.map fun p => (.tuple (p.1.map keyD), p.2)
section
variable {X : Cx} {pins : List (Addr × Obj)} {σ : L2.St} {H : Hp} {s : Shared}
theorem reads_rows (I : L2.Inv X pins σ H s) {p : Addr} (hp : ∀ xs, H p ≠ some (.tup xs)) : ∀ {kvs : List (List Key × V)} {R : List (List Key × PyData)} {xs : List KRow}, Paired (fun p q => p.1 = q.1 ∧ TD H p.2 q.2) kvs R → KT H kvs xs →
    (∃ as, ReadsAll s.heap (xs.map fun x => Value.ref x.2.1) ((rowsD R).map (·.1)) as ∧ sysModules ∉ as) ∧ ∃ bs, ReadsAll s.heap (xs.map fun x => x.2.2) ((rowsD R).map (·.2)) bs ∧ sysModules ∉ bs
  | _, _, _, .nil, h => by
    cases h
    exact ⟨⟨_, .nil, List.not_mem_nil⟩, ⟨_, .nil, List.not_mem_nil⟩⟩
  | _, _, _, .cons (a := u) (b := w) ab r, h => by
    cases h with
    | @cons _ x _ _ c t =>
      obtain ⟨⟨as, h1, n1⟩, ⟨bs, h2, n2⟩⟩ := reads_rows I hp r t
      have hx : H x.2.1 = some (.tup (u.1.map kV)) := c.2.1
      have nx : x.2.1 ≠ p := fun e => hp _ (e ▸ hx)
      obtain ⟨as', q1, m1⟩ := LD.reads I (.tuple (u.1.map keyD)) (.ref x.2.1) (.ref x.2.1) (.tup nx hx (ld_keys u.1)) rfl
      obtain ⟨bs', q2, m2⟩ := LD.reads I w.2 u.2 x.2.2 (TD.ld hp _ ab.2) c.2.2
      rw [ab.1] at q1
      refine ⟨⟨_, .cons q1 h1, fun z => ?_⟩, ⟨_, .cons q2 h2, fun z => ?_⟩⟩
      · rcases List.mem_append.mp z with z | z
        · exact m1 z
        · exact n1 z
      · rcases List.mem_append.mp z with z | z
        · exact m2 z
        · exact n2 z
theorem reads_dT (I : L2.Inv X pins σ H s) {a : Addr} {kvs : List (List Key × V)} {R : List (List Key × PyData)} (hd : H a = some (.dT kvs)) (hk : Paired (fun p q => p.1 = q.1 ∧ TD H p.2 q.2) kvs R) : ∃ as, Reads s.heap (.ref a) (.dict (rowsD R)) as ∧ sysModules ∉ as := by
  obtain ⟨_, low, xs, rel, o, es, ep, ho, ex, hdt, pr, _⟩ := dt_of I.hok hd
  obtain ⟨⟨as, h1, n1⟩, ⟨bs, h2, n2⟩⟩ := reads_rows I (p := a) (fun xs z => by rw [hd] at z; cases z) hk rel
  refine ⟨_, Reads.dict ho ex.1 hdt (as := as) (bs := bs) ?_ ?_, fun z => ?_⟩
  · rw [pr, List.map_map]
    exact h1
  · rw [pr, List.map_map]
    exact h2
  · have z' : sysModules = a ∨ sysModules ∈ as ∨ sysModules ∈ bs := by simpa using z
    rcases z' with z' | z' | z'
    · rw [← z'] at low
      simp at low
    · exact n1 z'
    · exact n2 z'
end
section
variable {X : Cx}
/-- repr of a dict with tuple keys -/
def rReprT : List V → Hp → VK → Prop := fun xs H Q => ∃ (a : Addr) (kvs : List (List Key × V)) (R : List (List Key × PyData)), xs = [.ref a] ∧ H a = some (.dT kvs) ∧ Paired (fun p q => p.1 = q.1 ∧ TD H p.2 q.2) kvs R ∧
  (PyData.dict (rowsD R)).showable = true ∧ (PyData.dict (rowsD R)).depth ≤ 60 ∧ (PyData.dict (rowsD R)).shown.length ≤ sizeLine ∧ Q (.str (PyData.dict (rowsD R)).shown) H
theorem call_reprT (gd : X.A.guards = some []) (hu : X.A.units + 64 < cLine) : CallR X (.builtin "repr") rReprT := by
  intro pins s σ H xs us Q I r h
  obtain ⟨a, kvs, R, rfl, ha, hk, hs, hd, hz, q⟩ := h
  obtain ⟨u, rfl, ru⟩ := vals1 r
  obtain rfl : u = Value.ref a := ru
  obtain ⟨as, rd, low⟩ := reads_dT I ha hk
  exact repr_of_reads' rd hs (fun _ => low) gd (by omega) (fun _ _ z => z) (fun h' u' tk hk => ⟨.str _, H, I.kept (fun b o z => hk b o z), ⟨_, rfl⟩, q⟩) hz
/-- {k: v}, k a tuple -/
def tDispT (tk tv : TE) : TE := fun σ H Q => ∀ p, H p = none → tk σ (upd H p (.dT [])) fun x H1 => tv σ H1 fun y H2 => ∃ k b, x = .ref b ∧ H2 b = some (.tup (k.map kV)) ∧ H2 p = some (.dT []) ∧ Q (.ref p) (upd H2 p (.dT [(k, y)]))
theorem pe_dispT {k v : Expr} {pos : Pos} {tk tv : TE} (hu : X.A.units + 1 < cLine) (hk : PE X k tk) (hv : PE X v tv) : PE X (.Dict [some k] [v] pos) (tDispT tk tv) := by
  refine ⟨fun pins s σ H Q I q => ?_⟩
  have hn := I.hok.fresh (Nat.le_refl s.heap.objs.size)
  have I1 := I.laid (a := s.heap.objs.size) (o := .dT []) (h' := s.heap.push { cls := .type "dict", data := .dict #[] }) (t' := s.toks) (fun _ _ q => Heap.get?_push_of_some _ q) (Nat.le_refl _) (dt_empty s.heap I.big)
  rw [arm_eval_Dict, zip_pairTrees [some k] [v] X.env pos rfl rfl, dictDisplay_pairs (pairTrees [some k] [v] X.env pos) (by intro z; cases z) (by rw [pairTrees_length [some k] [v] X.env pos rfl rfl]; show 1 < 17; decide)]
  refine wpAny_bind (wpAny_standAt (wpAny_bind (wpAny_subDictH (knd := tupleKind (mixKind X.prog X.w)) (Q := fun d s' => wpAny (model X.prog X.w) X.A (pure (Value.ref d)) _ _ s') (show X.A.units < cLine by omega) (by rw [pairTrees_length [some k] [v] X.env pos rfl rfl]; show 1 ≤ 15; decide) ?_)))
  refine pairTrees_cons_walk (thn (hk.run pins _ σ _ _ I1 (q _ hn)) fun u s1 ⟨x, H1, I2, rx, q1⟩ => thn (hv.run pins s1 σ H1 _ I2 q1) fun w2 s2 ⟨y, H2, I3, ry, kk, b, ex, hb, hd, q2⟩ => pairTrees_nil_walk ?_)
  subst ex
  obtain rfl : u = Value.ref b := rx
  obtain ⟨z, low, xs, rel, dd⟩ := dt_of I3.hok hd
  cases rel
  refine ⟨[(kk, b, w2)], ⟨rfl, rfl, key_of I3.hok hb, trivial⟩, dd, fun h' tk' dd' hs => wpAny_pure ⟨.ref s.heap.objs.size, _, ?_, rfl, q2⟩⟩
  obtain ⟨qo, es, ep, g1, g2, g3, g4, _, g5⟩ := dd'
  refine d_write I3 (by rw [hd]; trivial) hs ⟨qo, g1⟩ ⟨by show 1 ≤ sizeLine; decide, low, [(kk, b, w2)], .cons ⟨rfl, ?_, ry⟩ .nil, qo, es, ep, g1, g2, g3, g4, g5⟩
  rw [upd_ne (ne_of hb hd fun z => nomatch z)]
  exact hb
end
end Sb

/-! A list's display whose list is no module's table. -/
namespace Sb
open PySem PySem.Spec PyProof.Rows L2
section
variable {X : Cx}
def tLstS (t : TA) : TE := fun σ H Q => t σ H fun xs H1 => xs.length ≤ sizeLine ∧ ∀ (p : Addr), H1 p = none → p ≠ sysModules → Q (V.ref p) (upd H1 p (HO.lst xs))
theorem pe_lstS {es : List Expr} {t : TA} {pos : Pos} (h : PA X es t) : PE X (.List es pos) (tLstS t) := by
  refine ⟨fun pins s σ H Q I q => ?_⟩
  rw [arm_eval_List]
  refine wpAny_bind (wpAny_standAt (wpAny_bind (thn (h.run pos pins s σ H _ I q) fun vs s1 ⟨xs, H1, I1, r1, hz, q1⟩ => ?_)))
  have lv : vs.toArray.size = xs.length := by rw [List.size_toArray, r1.length]
  show wpAny _ _ (if vs.toArray.size > sizeLine then _ else newObjAsIs (Value.type "list") (Data.seq vs.toArray)) _ _ _
  rw [if_neg (by rw [lv]; omega)]
  unfold newObjAsIs
  refine wpAny_bind (wpAny_alloc ?_)
  refine wpAny_pure ?_
  have kp : ∀ b o, s1.heap.get? b = some o → (s1.heap.push { cls := .type "list", data := .seq vs.toArray }).get? b = some o := fun _ _ e => Heap.get?_push_of_some _ e
  exact ⟨.ref s1.heap.objs.size, _, I1.laid (t' := s1.toks) kp (Nat.le_refl _) (show ObjOk X.prog X.w _ _ _ (.lst xs) from ⟨hz, vs, _, r1, by first | rfl | exact Heap.get?_push_size _ rfl⟩), rfl, q1 _ (I1.hok.fresh (Nat.le_refl _)) (Nat.ne_of_gt I1.big)⟩
/-- l != [] -/
def rNeL0 : R2 := fun x y H Q => ∃ a b xs, x = .ref a ∧ y = .ref b ∧ H a = some (.lst xs) ∧ H b = some (.lst []) ∧ Q (.bl (!xs.isEmpty)) H
theorem op_neL0 (hu : X.A.units + 64 < cLine) : OpR X (compareOp .NotEq) rNeL0 := by
  intro pins s σ H x y v u Q I rx ry h
  obtain ⟨a, b, xs, rfl, rfl, ha, hb, q⟩ := h
  cases rx
  cases ry
  obtain ⟨its, r1, t1, _⟩ := I.list (SqL.of (K := X.K) ha)
  obtain ⟨its2, r2, t2, _⟩ := I.list (SqL.of (K := X.K) hb)
  cases r2
  cases xs with
  | nil =>
    cases r1
    refine SeqAt.RcNeAt.lists (e := fun _ => true) t1.isList t2.isList rfl (by omega) (fun j _ h2 => absurd h2 (Nat.not_lt_zero _)) X.prog X.w X.xe (EP X pins σ Q) ⟨.bl _, H, I, rfl, q⟩
  | cons z zs =>
    cases r1
    refine SeqAt.RcNeAt.lists_lengths t1.isList t2.isList (by rfl) (by omega) X.prog X.w X.xe (EP X pins σ Q) ⟨.bl _, H, I, rfl, q⟩
end
end Sb

/-! While an exception is handled: a walk over a dict's keys, over a list; sorted of an empty dict by a key; a dict comprehension over an empty list. -/
namespace Sb
open PySem PySem.Spec PyProof.Rows L2 HotX
open PySem.W
section
variable {prog : Program} {w : World} {A : Around} {E : Value → Shared → Prop} {s : Shared}
theorem keys_end_hot {it d x1 : Addr} {i ep : Nat} {es : Array DictEntry} {Q : Option Value → Shared → Prop} (hot : HotAt A x1 s.heap) (hne : it ≠ x1) (hit : s.heap.IsKeyIter it d i es.size ep)
    (hm : s.heap.DictRaw d es ep) (hge : es.size ≤ i)
    (hQ : ∀ h', (∀ b o, b ≠ it → s.heap.get? b = some o → h'.get? b = some o) → Q none { s with heap := h' }) : wpAny (model prog w) A (pyNext (.ref it)) Q E s := by
  obtain ⟨o, ho, hc, hd⟩ := id hit
  obtain ⟨od, hod, hcd, hdd⟩ := id hm
  obtain ⟨hh, o1, vs1, h1, d1, c1⟩ := hot
  unfold pyNext
  refine wpAny_bind (wpAny_attempt (wpAny_callSpecial?_slot (name := Str.ofString "__next__") hit.typeIs F.slot_dict_keyiterator_next
    (wpAny_call_entry F.slot_dict_keyiterator_next hit.typeIs F.entry_dict_keyiterator_next ?_ (F.args_dict_keyiterator_next_1 _))))
  refine wpAny_bind (wpAny_pure ?_)
  refine wpAny_bind ?_
  refine wpAny_bind ?_
  first | refine wpAny_bind (wpAny_typeNameOfWhole_keyiter hit.typeIs (wpAny_pure ?_)) | refine wpAny_bind (wpAny_typeNameOf_keyiter hit.typeIs (wpAny_pure ?_))
  refine wpAny_bind (wpAny_fieldsOf ho hd ?_)
  have hown : Builtin.Dict_items.ownsTuple "dict_keyiterator" = false := by decide
  simp only [hown, Bool.false_eq_true, if_false]
  show wpAny _ _ (if (Value.ref d == Value.none) = true then _ else _) _ _ s
  rw [if_neg (show ¬ ((Value.ref d == Value.none) = true) from Bool.false_ne_true)]
  refine wpAny_bind (wpAny_pure ?_)
  refine wpAny_bind (wpAny_dictEntries hod hdd ?_)
  rw [if_neg (by simp)]
  refine wpAny_bind (wpAny_pure ?_)
  refine wpAny_bind (wpAny_dictEpoch hod hdd ?_)
  rw [if_neg (by simp)]
  refine wpAny_pure ?_
  simp only [show ¬ ((i : Int) < 0) from by omega, if_false, Int.toNat_natCast, Array.getElem?_eq_none hge]
  refine wpAny_bind ?_
  first | refine wpAny_bind (wpAny_typeNameOfWhole_keyiter hit.typeIs (wpAny_pure ?_)) | refine wpAny_bind (wpAny_typeNameOf_keyiter hit.typeIs (wpAny_pure ?_))
  show wpAny _ _ (setField (.ref it) 0 .none >>= _) _ _ s
  refine wpAny_bind (wpAny_setField ho hd (by simp) ?_)
  have h2 : (s.heap.update it (Obj.mapFields (·.setIfInBounds 0 .none))).get? x1 = some o1 := (Heap.get?_update_other _ _ hne).trans h1
  show wpAny _ _ (newExc (.type "StopIteration") [] >>= _) _ _ _
  refine wpAny_bind ?_
  simp only [newExc, newTuple]
  refine wpAny_bind (wpAny_newObj_type ?_ (by size_fits))
  refine wpAny_bind (m := firstArgMember _ _) (wpAny_of_eq (a := Value.none) (by first | rfl | (simp only [firstArgMember]; rfl)) ?_)
  refine wpAny_newObj_type ?_ (by size_fits)
  refine raiseNew_hot ⟨hh, o1, vs1, Heap.get?_push_of_some _ (Heap.get?_push_of_some _ h2), d1, c1⟩ (Nat.ne_of_lt (Heap.lt_size (Heap.get?_push_of_some _ h2))) (Heap.get?_push_size _ rfl) rfl (by first | (simp; done) | (simp; omega) | (simp only [Array.size_append]; simp; omega)) ?_
  refine wpAny_bind (wpAny_isInstance (T := "StopIteration") (b := true) ⟨_, Heap.get?_update_self _ (Heap.get?_push_size _ rfl) rfl, rfl⟩ isSubtype_stop ?_)
  refine wpAny_pure (hQ _ fun b o nb e => ?_)
  have e2 : (s.heap.update it (Obj.mapFields (·.setIfInBounds 0 .none))).get? b = some o := (Heap.get?_update_other _ _ (Ne.symm nb)).trans e
  rw [Heap.get?_update_other _ _ (Nat.ne_of_gt (Heap.lt_size (Heap.get?_push_of_some _ e2)))]
  exact Heap.get?_push_of_some _ (Heap.get?_push_of_some _ e2)
theorem list_end_hot {it l x1 : Addr} {i : Nat} {items : Array Value} {Q : Option Value → Shared → Prop} (hot : HotAt A x1 s.heap) (hne : it ≠ x1)
    (hit : s.heap.IsListIter it l i) (hl : s.heap.IsList l items) (hx : items[i]? = none)
    (hQ : ∀ h', (∀ b o, b ≠ it → s.heap.get? b = some o → h'.get? b = some o) → Q none { s with heap := h' }) : wpAny (model prog w) A (pyNext (.ref it)) Q E s := by
  obtain ⟨o, ho, hc, hd⟩ := id hit
  obtain ⟨ol, hol, _, nl, hdl⟩ := hl
  obtain ⟨hh, o1, vs1, h1, d1, c1⟩ := hot
  unfold pyNext
  refine wpAny_bind (wpAny_attempt (wpAny_callSpecial?_slot (name := Str.ofString "__next__") hit.typeIs slot_listiter_next
    (wpAny_call_entry slot_listiter_next hit.typeIs entry_listiter_next ?_ (args_listiter_next _))))
  show wpAny _ _ (field (.ref it) 0 >>= _) _ _ s
  refine wpAny_bind (wpAny_field ho hd (x := .ref l) rfl ?_)
  show wpAny _ _ (if (Value.ref l == Value.none) = true then _ else _) _ _ s
  rw [if_neg (show ¬ ((Value.ref l == Value.none) = true) from Bool.false_ne_true)]
  show wpAny _ _ (field (.ref it) 1 >>= _) _ _ s
  refine wpAny_bind (wpAny_field ho hd (x := .int i 0) rfl ?_)
  show wpAny _ _ (seqItems? (.ref l) >>= _) _ _ s
  refine wpAny_bind (wpAny_seqItems hol hdl ?_)
  simp only [Int.toNat_natCast, hx]
  refine wpAny_bind (wpAny_rule (wpAny_bind (wpAny_setField ho hd (by simp) ?_)))
  have h2 : (s.heap.update it (Obj.mapFields (·.setIfInBounds 0 .none))).get? x1 = some o1 := (Heap.get?_update_other _ _ hne).trans h1
  show wpAny _ _ (newExc (.type "StopIteration") [] >>= _) _ _ _
  refine wpAny_bind ?_
  simp only [newExc, newTuple]
  refine wpAny_bind (wpAny_newObj_type ?_ (by size_fits))
  refine wpAny_bind (m := firstArgMember _ _) (wpAny_of_eq (a := Value.none) (by first | rfl | (simp only [firstArgMember]; rfl)) ?_)
  refine wpAny_newObj_type ?_ (by size_fits)
  refine raiseNew_hot ⟨hh, o1, vs1, Heap.get?_push_of_some _ (Heap.get?_push_of_some _ h2), d1, c1⟩ (Nat.ne_of_lt (Heap.lt_size (Heap.get?_push_of_some _ h2))) (Heap.get?_push_size _ rfl) rfl (by first | (simp; done) | (simp; omega) | (simp only [Array.size_append]; simp; omega)) ?_
  refine wpAny_bind (wpAny_isInstance (T := "StopIteration") (b := true) ⟨_, Heap.get?_update_self _ (Heap.get?_push_size _ rfl) rfl, rfl⟩ isSubtype_stop ?_)
  refine wpAny_pure (hQ _ fun b o nb e => ?_)
  have e2 : (s.heap.update it (Obj.mapFields (·.setIfInBounds 0 .none))).get? b = some o := (Heap.get?_update_other _ _ (Ne.symm nb)).trans e
  rw [Heap.get?_update_other _ _ (Nat.ne_of_gt (Heap.lt_size (Heap.get?_push_of_some _ e2)))]
  exact Heap.get?_push_of_some _ (Heap.get?_push_of_some _ e2)
/-- the handled exception's object -/
def HotO (x1 : Addr) (h : Heap) : Prop := ∃ (o : Obj) (vs : Array Value), h.get? x1 = some o ∧ o.data = .fields vs ∧ vs[2]? = some .none
theorem HotO.keep {x1 : Addr} {h h' : Heap} (x : HotO x1 h) (k : ∀ o, h.get? x1 = some o → h'.get? x1 = some o) : HotO x1 h' := by
  obtain ⟨o, vs, a, b, c⟩ := x
  exact ⟨o, vs, k o a, b, c⟩
theorem rawKeysH {x1 : Addr} {o : Obj} {es : Array DictEntry} {ep : Nat} (hh : A.handled = some (.ref x1)) (I d : Addr) (hne : d ≠ I) (hx : I ≠ x1) (hc : o.ExactDict) (hd : o.data = .dict es ep) :
    Walks prog w A I [I, d, x1] [I] es.size (fun i v => ∃ en : DictEntry, es[i]? = some en ∧ v = en.key) (fun i h => h.IsKeyIter I d i es.size ep ∧ h.get? d = some o ∧ HotO x1 h) where
  sub := fun b hb => by simp at hb; simp [hb]
  frame := fun _ _ _ st hk => ⟨st.1.at fun o e => hk I (by simp) o e, hk d (by simp) o st.2.1, st.2.2.keep fun o e => hk x1 (by simp) o e⟩
  item := fun i s Q E hi st hQ => by
    have he : es[i]? = some es[i] := Array.getElem?_eq_getElem hi
    refine next_key_item st.1 st.2.1 hd rfl he fun h' hit' sb => ?_
    exact hQ _ h' s.toks ⟨_, he, rfl⟩ ⟨hit', (sb.2 d hne).trans st.2.1, st.2.2.keep fun o e => (sb.2 x1 (Ne.symm hx)).trans e⟩ fun b ob hb e => (sb.2 b (fun z => hb (by simp [z]))).trans e
  done := fun s Q E st hQ => keys_end_hot ⟨hh, st.2.2⟩ hx st.1 ⟨o, st.2.1, hc, hd⟩ (Nat.le_refl _) fun h' he' => hQ h' s.toks fun b o hb e => he' b o (fun h => hb (by simp [h])) e
  self := fun _ _ _ _ st hQ => wpAny_pyIter_keyiter st.1 hQ
theorem extend_hot {R : Result → Shared → Prop} {d x1 : Addr} {o : Obj} {es : Array DictEntry} {ep : Nat} (lo : (d == sysModules) = false) (hx : o.ExactDict) (hd : o.data = .dict es ep) (hh : A.handled = some (.ref x1)) (hm : s.heap.get? d = some o) (hho : HotO x1 s.heap)
    (S : Addr) (hSd : S ≠ d) (hSx : S ≠ x1) (res : Value) (c₀ : Nat) (hS : s.heap.get? S = some { cls := .type "list", data := .seq #[] c₀ })
    (hR : ∀ h' tk acc' c', (∀ b o, b ≠ S → s.heap.get? b = some o → h'.get? b = some o) → h'.get? S = some { cls := .type "list", dict := none, data := .seq acc' c', slots := #[] } → ItemsOf (fun i v => ∃ en : DictEntry, es[i]? = some en ∧ v = en.key) acc' es.size → R (.ok (.ret res)) { s with heap := h', toks := tk }) (hn : es.size ≤ sizeLine) :
    wpAny (model prog w) A.in1 (Builtin.List.listExtendWith (.ref S) (.ref d) res)
      (fun fin s' => match fin with | .done f => R (.ok f) s' | .again c' => c'.quiet = true ∧ codeAny (model prog w) A c' R s') (fun e s' => R (.error e) s') s := by
  have lx : x1 < s.heap.objs.size := by
    obtain ⟨o1, _, a, _⟩ := hho
    exact Heap.lt_size a
  have hSI : S ≠ s.heap.objs.size := Nat.ne_of_lt (Heap.lt_size hS)
  have hSf : S ∉ [s.heap.objs.size, d, x1] := by simp only [List.mem_cons, List.not_mem_nil, or_false, not_or]; exact ⟨hSI, hSd, hSx⟩
  have W := rawKeysH (prog := prog) (w := w) (A := A.in1) (o := o) (es := es) (ep := ep) hh s.heap.objs.size d (Nat.ne_of_lt (Heap.lt_size hm)) (Nat.ne_of_gt lx) hx hd
  have key : ∀ (h : Heap) (c₁ tk : Nat), (h.IsKeyIter s.heap.objs.size d 0 es.size ep ∧ h.get? d = some o ∧ HotO x1 h) → (∀ b o, b ≠ S → s.heap.get? b = some o → h.get? b = some o) →
      h.get? S = some { cls := .type "list", data := .seq #[] c₁ } → codeAny (model prog w) A (.builtin "list.extend.loop" ⟨[.ref S, .ref s.heap.objs.size, res], []⟩) R { s with heap := h, toks := tk } := by
    intro h c₁ tk hst hk hS₁
    refine codeAny_extend_loopS W.toS hn S hSf res es.size 0 _ #[] c₁ rfl (Nat.zero_le _) hst hS₁ (ItemsOf.nil _) fun s' acc' c' hm hS' hacc => ?_
    rw [Moved.eq_with hm]
    refine hR s'.heap s'.toks acc' c' (fun b o hb e => hm.heap b o (fun hmem => ?_) (hk b o hb e)) hS' hacc
    rcases List.mem_cons.mp hmem with e' | hmem
    · exact hb e'
    · exact absurd (Heap.lt_size e) (by rw [List.mem_singleton.mp hmem]; exact Nat.lt_irrefl _)
  unfold Builtin.List.listExtendWith
  refine wpAny_bind (wpAny_typeOf (T := "dict") ⟨o, hm, hx.1⟩ ?_)
  have h1 : Builtin.List.listSameRef (.ref S) (.ref d) = false := by simp [Builtin.List.listSameRef, hSd]
  have n1 : (Value.type "dict" == Value.type "list") = false := by decide
  have n2 : (Value.type "dict" == Value.type "tuple") = false := by decide
  simp only [h1, n1, n2, Bool.or_false, Bool.false_eq_true, if_false]
  refine wpAny_bind (iter_keys lo hm hx hd ?_)
  generalize eI : ({ cls := .type "dict_keyiterator", data := .fields #[.ref d, .int 0 0, .int es.size 0, .int ep 0] } : Obj) = oI
  have hS₁ := Heap.get?_push_of_some oI hS
  have st : (s.heap.push oI).IsKeyIter s.heap.objs.size d 0 es.size ep ∧ (s.heap.push oI).get? d = some o ∧ HotO x1 (s.heap.push oI) := by
    refine ⟨⟨oI, ?_, ?_, ?_⟩, Heap.get?_push_of_some _ hm, hho.keep fun _ e => Heap.get?_push_of_some _ e⟩
    · rw [← eI]; exact Heap.get?_push_size _ rfl
    · rw [← eI]
    · rw [← eI]; rfl
  have hm' : (s.heap.push oI).get? d = some o := Heap.get?_push_of_some _ hm
  refine wpAny_bind (wpAny_holding (PySem.W.kdl_hint_dict (s := { s with heap := s.heap.push oI }) ⟨o, hm', hx.1⟩ ?_))
  refine wpAny_ite_split (fun _ => ?_) (fun _ => wpAny_pure ⟨plainId_quiet PySem.F.plain_extend_loop _, key _ c₀ _ st (fun b o _ e => Heap.get?_push_of_some _ e) hS₁⟩)
  refine wpAny_bind (wpAny_rule ?_)
  refine wpAny_bind ?_
  show wpAny _ _ (updateSeq S (·.push .none) >>= fun _ => updateSeq S (·.pop)) _ _ _
  refine wpAny_bind (wpAny_updateSeq hS₁ rfl ?_)
  have hS₂ := Heap.get?_update_self (Obj.mapSeq (·.push Value.none)) hS₁ rfl
  refine wpAny_updateSeq (hz := by seq_fits) hS₂ rfl ?_
  have hS₃ := Heap.get?_update_self (Obj.mapSeq (·.pop)) hS₂ rfl
  refine wpAny_pure ⟨plainId_quiet PySem.F.plain_extend_loop _, key _ _ _ ?_ (fun b o hb e => ?_) hS₃⟩
  · refine W.frame 0 _ _ st fun b hb o e => ?_
    have hbS : b ≠ S := fun h => hSf (h ▸ hb)
    exact (Heap.get?_update_other _ _ (Ne.symm hbS)).trans ((Heap.get?_update_other _ _ (Ne.symm hbS)).trans e)
  · exact (Heap.get?_update_other _ _ (Ne.symm hb)).trans ((Heap.get?_update_other _ _ (Ne.symm hb)).trans (Heap.get?_push_of_some _ e))
theorem collect_hot {R : List Value → Shared → Prop} {d x1 : Addr} {o : Obj} {es : Array DictEntry} {ep : Nat} (lo : (d == sysModules) = false) (hx : o.ExactDict) (hd : o.data = .dict es ep) (hh : A.handled = some (.ref x1)) (hm : s.heap.get? d = some o) (hho : HotO x1 s.heap) (hn : es.size ≤ sizeLine)
    (h : ∀ (h' : Heap) (tk : Nat) (acc : Array Value), (∀ b o, s.heap.get? b = some o → h'.get? b = some o) → ItemsOf (fun i v => ∃ en : DictEntry, es[i]? = some en ∧ v = en.key) acc es.size → R acc.toList { s with heap := h', toks := tk }) :
    wpAny (model prog w) A (collect (.ref d)) R E s := by
  have lx : x1 < s.heap.objs.size := by
    obtain ⟨o1, _, a, _⟩ := hho
    exact Heap.lt_size a
  unfold collect
  refine wpAny_bind (wpAny_runValue (codeAny_builtin entry_proto_collect' ?_))
  rw [Around.under_plainId PySem.F.plain_proto_collect _]
  show wpAny _ A.in1 (newList [] >>= fun l => again (.builtin "list.__iadd__" ⟨[l, .ref d], []⟩)) _ _ s
  refine wpAny_bind (wpAny_newObj_type ?_)
  refine wpAny_pure ⟨plainId_quiet PySem.F.plain_list_iadd _, codeAny_builtin entry_list_iadd' ?_⟩
  rw [Around.under_plainId PySem.F.plain_list_iadd _]
  have hS₁ : (s.heap.push { cls := .type "list", data := .seq ([] : List Value).toArray }).get? s.heap.objs.size = some { cls := .type "list", data := .seq #[] } := Heap.get?_push_size _ rfl
  show wpAny _ A.in1 (Builtin.List.listExtendWith (.ref s.heap.objs.size) (.ref d) (.ref s.heap.objs.size)) _ _ _
  have key := extend_hot (A := A) (s := { s with heap := s.heap.push { cls := .type "list", data := .seq ([] : List Value).toArray } }) (prog := prog) (w := w)
    (R := fun (q : Result) (s' : Shared) => ∃ (h' : Heap) (tk : Nat) (acc' : Array Value) (c' : Nat), q = .ok (.ret (.ref s.heap.objs.size)) ∧ s' = { s with heap := h', toks := tk } ∧
      (∀ b o, s.heap.get? b = some o → h'.get? b = some o) ∧ h'.get? s.heap.objs.size = some { cls := .type "list", dict := none, data := .seq acc' c', slots := #[] } ∧ ItemsOf (fun i v => ∃ en : DictEntry, es[i]? = some en ∧ v = en.key) acc' es.size)
    lo hx hd hh (Heap.get?_push_of_some _ hm) (hho.keep fun _ e => Heap.get?_push_of_some _ e) s.heap.objs.size (Nat.ne_of_gt (Heap.lt_size hm)) (Nat.ne_of_gt lx) (.ref s.heap.objs.size) 0 hS₁
    (fun h' tk acc' c' hk hS' hacc => ⟨h', tk, acc', c', rfl, rfl, fun b o e => hk b o (Nat.ne_of_lt (Heap.lt_size e)) (Heap.get?_push_of_some _ e), hS', hacc⟩) hn
  refine wpAny_mono key (fun fin s' x => ?_) fun e s' x => ?_
  · cases fin with
    | done f =>
      obtain ⟨h', tk, acc', c', e, rfl, hk, hS', hacc⟩ := x
      cases e
      show wpAny _ A (load s.heap.objs.size >>= _) _ _ _
      refine wpAny_bind (wpAny_load hS' ?_)
      exact wpAny_pure (h h' tk acc' hk hacc)
    | again c₁ =>
      refine ⟨x.1, codeAny_mono x.2 fun q s₂ y => ?_⟩
      obtain ⟨h', tk, acc', c', rfl, rfl, hk, hS', hacc⟩ := y
      show wpAny _ A (load s.heap.objs.size >>= _) _ _ _
      refine wpAny_bind (wpAny_load hS' ?_)
      exact wpAny_pure (h h' tk acc' hk hacc)
  · obtain ⟨_, _, _, _, e', _⟩ := x
    cases e'
end
theorem call_sortT0H {X : Cx} {f : Addr} (hc : L2H.HotC X) (hu : X.A.units + 10 < cLine) : CallRK X (.builtin "sorted") ["key"] (fun xs zs H Q => ∃ d : Addr, xs = [V.ref d] ∧ zs = [V.ref f] ∧ H d = some (.dT []) ∧ ∀ p, H p = none → Q (.ref p) (upd H p (.lst []))) := by
  intro pins s σ H xs zs us ws Q I r rz h
  obtain ⟨d, rfl, rfl, hd, q⟩ := h
  obtain ⟨u, rfl, rx⟩ := vals1 r
  obtain ⟨u2, rfl, rx2⟩ := vals1 rz
  obtain rfl : u = Value.ref d := rx
  obtain rfl : u2 = Value.ref f := rx2
  obtain ⟨x1, hh, hho⟩ := hc.at I
  obtain ⟨z, lo, ks, pr, o, es, ep, ho, hx, hdt, he, hn⟩ := (show ObjOk X.prog X.w H s.heap d (.dT []) from I.hok d _ hd)
  cases pr
  have l1 : es.size = 0 := by
    have := size_of_entries he
    simpa using this
  show wpAny _ _ (call (.builtin "sorted") [.ref d] [(Str.ofString "key", .ref f)]) _ _ _
  refine PyProof.Rows.call_function_entry_kw PyProof.Rows.kind_sorted PyProof.Rows.plain_sorted PyProof.Rows.entry_sorted (PyProof.Rows.ksk_s1 _ _) ?_
  unfold Builtin.«sorted»
  refine wpAny_bind (m := checkCount "sorted" 1 1 _) ?_
  apply wpAny_pure
  refine wpAny_bind (collect_hot (A := X.A.in1) lo hx hdt hh ho hho (by rw [l1]; exact Nat.zero_le _) fun h' tk acc kp it => ?_)
  have ea : acc.toList = [] := by
    have := it.1
    rw [l1] at this
    exact List.eq_nil_of_length_eq_zero (by rw [Array.length_toList]; exact this)
  rw [ea]
  have I1 : Inv X pins σ H { s with heap := h', toks := tk } := I.kept kp
  refine wpAny_bind (wpAny_newList ?_ (Nat.zero_le _))
  have hoL : (h'.push (seqObj "list" ([] : List Value).toArray 0)).get? h'.objs.size = some (seqObj "list" ([] : List Value).toArray 0) := Heap.get?_push_size _ rfl
  have up : ∀ c o, h'.get? c = some o → (h'.push (seqObj "list" ([] : List Value).toArray 0)).get? c = some o := fun c o e => Heap.get?_push_of_some _ e
  show wpAny _ _ _ _ _ { s with heap := h'.push (seqObj "list" ([] : List Value).toArray 0), toks := tk }
  refine wpAny_bind (wpAny_holding (wpAny_call_entry_kw PyProof.Rows.slot_list_sort ⟨_, hoL, rfl⟩ PyProof.Rows.entry_list_sort ?body (PyProof.Rows.ksk_l1 _ _)))
  rw [PyProof.Rows.ksk_t1]
  have ne : ∀ {c : Addr} {o : Obj}, h'.get? c = some o → c ≠ h'.objs.size := fun e => Nat.ne_of_lt (Heap.lt_size e)
  refine PySem.W.keyH_tree (kz := []) (s := { s with heap := h'.push (seqObj "list" ([] : List Value).toArray 0), toks := tk }) hoL rfl (Nat.zero_le _)
    (fun a ha => (by cases ha)) (.inl fun d hd => (by cases hd)) (fun d hd => by cases hd) (fun i v k hv => by simp at hv) fun h3 tk3 out c kp3 hD ko => ?_
  have lo2 := ko.length rfl
  have eo : out = [] := List.eq_nil_of_length_eq_zero lo2
  subst eo
  have keep3 : ∀ b o, h'.get? b = some o → h3.get? b = some o := fun b o e => kp3 b o (ne e) (up b o e)
  refine ⟨_, rfl, ?_⟩
  apply wpAny_pure
  exact ⟨_, rfl, .ref h'.objs.size, _, I1.laid (t' := tk3) (o := .lst []) keep3 (Nat.le_refl _) ⟨Nat.zero_le _, [], c, .nil, hD⟩, rfl, q _ (I1.hok.fresh (Nat.le_refl _))⟩
section
variable {X : Cx} {kx vx tg iter : Expr} {ifs : List Expr} {scope : Scope} {own : List (Str × Nat)} {pos : Pos} {te : TE}
theorem pe_dcT0H (hc : L2H.HotC X) (hN : X.N.Nodup) (ite : PE X iter te) (ok : BlkOk X.N X.env.scope scope own) (hs : ∀ x, foldedSetIterable iter X.env x = pure x := by intro _; rfl) :
    PE X (.DictComp kx vx [⟨tg, iter, ifs, 0⟩] scope pos) (fun σ H Q => te σ H fun x H1 => ∃ l : Addr, x = V.ref l ∧ H1 l = some (.lst []) ∧ ∀ D, H1 D = none → Q (V.ref D) (upd H1 D (.dT []))) := by
  constructor
  intro pins s σ H Q I h
  rw [arm_eval_DictComp]
  have closed : ∀ y ∈ scope.names, y.2 = .free → ∃ c, X.env.cells.lookup y.1 = some c := by
    intro y hy e
    exact (ok.free y hy e).elim (fun k => I.ok.has _ (.inl k)) (fun k => I.ok.has _ (.inr k))
  refine wpAny_comprehension_free rfl hs (closure_ok closed) ok.kind (fun y hy e => by rw [ok.uniq y hy, e]) ?_
  refine thn (ite.run pins s σ H _ I h) ?_
  rintro xv s1 ⟨v, H1, I1, r1, l, rfl, hl, q⟩
  cases r1
  obtain ⟨its, rv, pl, hz⟩ := I1.list (show SqL X.K H1 l [] from SqL.of hl)
  cases rv
  obtain ⟨x1, hh, hho⟩ := hc.at I1
  have lx : x1 < s1.heap.objs.size := by
    obtain ⟨o1, _, a, _⟩ := hho
    exact Heap.lt_size a
  refine wpAny_pyIter_list pl.isList ?_
  generalize eI : ({ cls := .type "list_iterator", data := .fields #[.ref l, .int 0 0] } : Obj) = oI
  generalize es2 : ({ s1 with heap := s1.heap.push oI } : Shared) = s2
  have h2 : s2.heap = s1.heap.push oI := by rw [← es2]
  have I2 : L2.Inv X pins σ H1 s2 := by
    rw [← es2]
    exact I1.kept (t' := s1.toks) fun b o e => Heap.get?_push_of_some _ e
  have fI : FpOk X pins H1 s1.heap.objs.size := I1.fpOk (Nat.le_refl _) (I1.hok.fresh (Nat.le_refl _))
  have it2 : s2.heap.IsListIter s1.heap.objs.size l 0 := by
    rw [h2]
    exact ⟨oI, Heap.get?_push_size _ (by rw [← eI]; rfl), by rw [← eI], by rw [← eI]; rfl⟩
  refine wpAny_newObj_type (newEnv_comp ?_)
  generalize eD : s2.heap.objs.size = D
  have nD : H1 D = none := I2.hok.fresh (Nat.le_of_eq eD)
  have dd := q D nD
  -- D is laid
  generalize es3 : ({ s2 with heap := s2.heap.push { cls := .type "dict", data := .dict #[] } } : Shared) = s3
  have h3 : s3.heap = s2.heap.push { cls := .type "dict", data := .dict #[] } := by
    rw [← es3]
  generalize eH3 : upd H1 D (.dT []) = H3 at dd
  have I3 : L2.Inv X pins σ H3 s3 := by
    have lay := I2.laid (t' := s2.toks) (h' := s2.heap.push { cls := .type "dict", data := .dict #[] }) (fun b o e => Heap.get?_push_of_some _ e) (Nat.le_of_eq eD) (eD ▸ dt_empty s2.heap I2.big)
    rw [← es3, ← eH3]
    exact lay
  generalize eit : s1.heap.objs.size = it at *
  have lit : it < s2.heap.objs.size := by
    rw [h2, Heap.size_push, eit]
    exact Nat.lt_succ_self _
  have nit : it ≠ D := by
    rw [← eD]
    exact Nat.ne_of_lt lit
  have f3 : ∀ b ∈ [it], FpOk X pins H3 b ∧ b < s3.heap.objs.size := by
    intro b hb
    have e : b = it := by simpa using hb
    subst e
    constructor
    · refine ⟨?_, fI.2⟩
      rw [← eH3, upd_ne nit]
      exact fI.1
    · rw [h3, Heap.size_push]
      exact Nat.lt_succ_of_lt lit
  have it3 : s3.heap.IsListIter it l 0 := by
    rw [h3]
    exact it2.at fun o e => Heap.get?_push_of_some _ e
  have hho3 : HotO x1 s3.heap := by
    rw [h3, h2]
    exact HotO.keep hho fun o e => Heap.get?_push_of_some _ (Heap.get?_push_of_some _ e)
  have hl3 : H3 l = some (.lst []) := by
    rw [← eH3, upd_ne (ne_of_none hl nD)]
    exact hl
  have I4 := block_start I3 ok hN f3
  show codeAny _ _ (.compStart (.DictComp kx vx [⟨tg, iter, ifs, 0⟩] scope pos) 0 (.ref it) (.ref D) (compEnvC scope (cellsFrom (s3.heap.objs.size + 1) scope.names (cloFrom X.env.cells scope.names [])) s3.heap.objs.size X.env)) (compPost (model X.prog X.w) X.A X.xe none _ (.ref D) s3.heap.objs.size) { s3 with heap := pushCells (s3.heap.push { cls := .type "dict", data := .dict #[] }) scope.names }
  generalize ece : compEnvC scope (cellsFrom (s3.heap.objs.size + 1) scope.names (cloFrom X.env.cells scope.names [])) s3.heap.objs.size X.env = ce at I4 ⊢
  have cL : ce.locals = s3.heap.objs.size := ece ▸ rfl
  generalize es4 : ({ s3 with heap := pushCells (s3.heap.push { cls := .type "dict", data := .dict #[] }) scope.names } : Shared) = s4 at I4 ⊢
  have k34 : ∀ b o, s3.heap.get? b = some o → s4.heap.get? b = some o := fun b o e => by
    rw [← es4]
    exact pushCells_keeps _ _ _ _ (Heap.get?_push_of_some _ e)
  have it4 : s4.heap.IsListIter it l 0 := it3.at fun o e => k34 _ _ e
  have hho4 : HotO x1 s4.heap := hho3.keep fun o e => k34 _ _ e
  have stat : FpOk (X.blk s3 H3 scope ce [it]) [] H3 it := by
    have n3 : H3 it = none := (f3 it List.mem_cons_self).1.1
    refine ⟨n3, (I4.ok.exf it List.mem_cons_self).1, I4.ok.exfs it List.mem_cons_self, .inl List.mem_cons_self, (I4.ok.exf it List.mem_cons_self).2, fun p hp => ?_⟩
    have z : p ∈ ([] : List (Addr × Obj)) ++ [] := hp
    simp at z
  let At : Nat → Shared → Prop := fun n s' => L2.Inv (X.blk s3 H3 scope ce [it]) [] (wipe σ (own.map (·.2))) H3 s' ∧ s'.heap.IsListIter it l 0 ∧ HotO x1 s'.heap
  have loop : codeAny (model X.prog X.w) X.A (.compLoop (.DictComp kx vx [⟨tg, iter, ifs, 0⟩] scope pos) 0 (.ref it) (.ref D) ce) (compPost (model X.prog X.w) X.A X.xe none (EP X pins σ Q) (.ref D) s3.heap.objs.size) s4 := by
    refine compLoop_anyD At ?_ 0 ⟨I4, it4, hho4⟩
    rintro n s5 ⟨I5, it5, ho5⟩
    obtain ⟨its5, rv5, pl5, _⟩ := I5.list (show SqL (X.blk s3 H3 scope ce [it]).K H3 l [] from SqL.of hl3)
    cases rv5
    obtain ⟨f0, f1, f2, f3', f4, f5⟩ := stat
    refine list_end_hot (x1 := x1) ⟨hh, ho5⟩ (Nat.ne_of_gt (by omega)) it5 pl5.isList rfl fun h' he' => ?_
    have I6 : L2.Inv (X.blk s3 H3 scope ce [it]) [] (wipe σ (own.map (·.2))) H3 { s5 with heap := h' } := I5.turned (t' := s5.toks) (fun b o hb e => he' b o hb e) f0 f1 f3' f4 f5
    have I7 : L2.Inv X pins σ H3 { s5 with heap := h' } := by
      refine I3.call' (ch := [it]) I6.os I6.base I6.hok I6.bare fun b hb => ?_
      have z := (f3 b hb).1.2
      exact ⟨z.2.2.1, z.1, z.2.2.2.1, z.2.2.2.2⟩
    have free := I6.free
    rw [show (X.blk s3 H3 scope ce [it]).env.locals = s3.heap.objs.size from cL] at free
    obtain ⟨m, hn, _⟩ := I6.loc
    have hn : ({ s5 with heap := h' } : Shared).heap.Ns ce.locals m := hn
    rw [cL] at hn
    refine ⟨m, hn, fun h'' sb => ?_⟩
    obtain ⟨g0, g1, g2, g3, g4, g5⟩ := I3.fpOk (Nat.le_refl _) free
    exact ⟨.ref D, H3, I7.turned (t' := s5.toks) (fun b o hb e => (sb.2 b hb).trans e) g0 g1 g3 g4 g5, rfl, dd⟩
  exact codeAny_compStart_dict loop (wpAny_pyIter_listiter it4 loop)
end
end Sb

/-! Own errors whose context is None: made, raised, caught. -/
namespace PySem
namespace OwnE
open PySem.W PySem.Calls PyProof.Rows PySem.HandSPX Builtin Builtin.ObjectAttr
structure Made2 (h h' : Heap) (e C d : Addr) (f : Str) (v : Value) : Prop where
  keep : ∀ b o, h.get? b = some o → h'.get? b = some o
  new : h.objs.size ≤ e
  obj : ∃ oe vs, h'.get? e = some oe ∧ oe.cls = .ref C ∧ oe.dict = some d ∧ oe.data = .fields vs ∧ vs[1]? = some .none ∧ vs[2]? = some .none
  dbig : h.objs.size ≤ d
  dne : d ≠ e
  ns : h'.Ns1 d (fun y => if y = f then some v else none)
section
variable {prog : Program} {w : World} {A : Around} {E : Value → Shared → Prop} {R : Result → Shared → Prop} {s : Shared} {b : Base} {x f qual : Str} {K : Frag} {mg : Str → Option Value} {C fI : Addr}
theorem run_made2 (ok : b.Ok) (T : ErrTxt b x f qual K mg C fI) (hf1 : ¬ f = ("self" : Str)) (hf2 : (f == ("__debug__" : Str)) = false)
    (bind : ∀ (oc : Value) (od : Option Addr) (doc pm : Value) (an : Option Addr) (cdv ct : Value) (p1 p2 q1 q2 q3 q4 : Pos) (iS : Scope) (u v : Value),
      bindArgs (fnOf "__init__" qual (iA f p1 p2) (iB f q1 q2 q3 q4) iS .none .none doc pm an cdv ct) ⟨[u, v], []⟩ = pure [(("self" : Str), u), (f, v)])
    {v : Value} (X : K.In s.heap) (hlim : s.heap.NoLimit) (hroom : A.depth + 1 < recursionLimit)
    (want : ∀ h' tk e d, Made2 s.heap h' e C d f v → R (.ok (.ret (.ref e))) { s with heap := h', toks := tk }) :
    codeAny (model prog w) A (.call (.ref C) ⟨[v], []⟩) R s := by
  obtain ⟨nm, q, N, bs, bm, sn, sub, ab, col, dd, k0, k1, k2, k3, k5, hC, hbm⟩ := T.cls
  obtain ⟨hp, g, dr, tk, os⟩ := s
  have keep : ∀ c o, hp.get? c = some o → ((hp.push (kdv_tup [v])).push (excO C hp.objs.size)).get? c = some o := by
    intro c o z
    exact Heap.get?_push_of_some _ (Heap.get?_push_of_some _ z)
  have there : ((hp.push (kdv_tup [v])).push (excO C hp.objs.size)).get? (hp.objs.size + 1) = some (excO C hp.objs.size) := by heap_get
  have new : K.lookup (hp.objs.size + 1) = none := by
    cases e : K.lookup (hp.objs.size + 1) with
    | none => rfl
    | some o => exact absurd (Nat.lt_of_succ_lt (Heap.lt_size (X _ _ e))) (Nat.lt_irrefl _)
  apply call_own ok.fb (fun X => excTail_contains X bm hbm) (X _ _ hC) (looks_findIn X T.iC) (fun self => bind_fn X self T.tC) (one_le_line v)
  refine run_init (s := ⟨(hp.push (kdv_tup [v])).push (excO C hp.objs.size), g, dr, tk, os⟩) ok T hf1 hf2 bind (X.keeps keep) (hlim.keeps keep) there new hroom ?_
  rintro h' tk' dx ⟨keep2, at2, dn, dne, ns2⟩
  have z : hp.objs.size + 1 + 1 ≤ dx := by
    have q := dn
    rw [Heap.size_push, Heap.size_push] at q
    exact q
  refine ⟨rfl, want h' tk' (hp.objs.size + 1) dx ?_⟩
  refine { keep := fun c o q => keep2 c o ?_ (keep c o q), new := Nat.le_succ _, obj := ⟨_, _, at2, rfl, rfl, rfl, rfl, rfl⟩, dbig := (by show hp.objs.size ≤ dx; omega), dne := dne, ns := ns2 }
  exact Nat.ne_of_lt (Nat.lt_succ_of_lt (Heap.lt_size q))
end
end OwnE
end PySem
namespace L2N
open PySem PySem.Spec PyProof.Rows L2
section
variable {X : Cx} {b : OwnE.Base} {x f qual : Str} {C fI : Addr}
theorem pmk_E {a : Expr} {ta : TA} {p pos : Pos} {k : Nat} (T : ErrOk b x f qual X.K X.mg C fI) (hr : Room k X.A) (ha : PA X [a] ta) (hg : Gl X x := by rfl) (hdb : (x == ("__debug__" : Str)) = false := by decide)
    (he : starEach (a :: []) X.env = (false, eval a X.env) :: starEach [] X.env := by rfl) (hpl : (backTo pos (starEach [] X.env)).any (·.1) = false := by rfl) :
    L2N.PMk X (.Call (.Name x p) [a] [] pos) (tMkE C f ta) := by
  intro pins s σ H Q I h
  apply wpAny_Call_Name_kw
  apply ld_glob I hg T.T.gC _ hdb
  apply PySem.W.callWith_K (h₀ := X.base) I.ok.mod.kin T.T.kC _ he hpl
  refine thn (ha.run pos pins s σ H _ I h) ?_
  rintro us s1 ⟨vs, H1, I1, r1, v, ev, q1⟩
  subst ev
  refine ⟨I1.kIn, ?_⟩
  match us, r1 with
  | [v'], .cons rv .nil =>
    show wpAny _ _ (call (.ref C) [v']) _ _ _
    have hlim := I1.nolimit
    obtain ⟨hp, g, dr, tk, os⟩ := s1
    apply wpAny_call
    refine PySem.OwnE.run_made2 T.ok T.T T.hf1 T.hf2 T.bind I1.kIn hlim (by have := hr.dp; omega) ?_
    intro h' tk' e d M
    show L2N.MkP X pins σ Q (.ref e) ⟨h', g, dr, tk', os⟩
    obtain ⟨oe, fv, hoe, hc, hd, hdat, h1, h2⟩ := M.obj
    have hns := M.ns
    obtain ⟨G', g1, g2⟩ := restrict h' fun c => decide (c ≠ e)
    have gk : ∀ c, c ≠ e → G'.get? c = h'.get? c := fun c hc => g1 c (decide_eq_true hc)
    have ge : G'.get? e = none := g2 e (by simp)
    have old : ∀ c o, hp.get? c = some o → G'.get? c = some o := by
      intro c o q
      rw [gk c (Nat.ne_of_lt (Nat.lt_of_lt_of_le (Heap.lt_size q) M.new))]
      exact M.keep c o q
    have ob : ObjOk X.prog X.w (upd H1 d (.xd [(f, v)])) G' d (.xd [(f, v)]) := ⟨_, hns.at (fun o q => (gk d M.dne).trans q), fun y => relO_one rv y⟩
    have J : L2.Inv X pins σ (upd H1 d (.xd [(f, v)])) ⟨G', g, dr, tk', os⟩ := I1.laid (t' := tk') old M.dbig ob
    refine ⟨e, oe, fv, ⟨G', g, dr, tk', os⟩, _, .ref C, some d, rfl, J, ?_, ge, hoe, ⟨hc, hd, fun vs ev => ?_⟩, hdat, h1, ?_, rfl, I1.bare, raises_own T.T.exC T.T.tyC, q1 d (I1.hok.fresh M.dbig)⟩
    · intro c o q
      by_cases hc : c = e
      · have q' : G'.get? c = some o := q
        rw [hc, ge] at q'
        cases q'
      · exact (gk c hc).symm.trans q
    · rw [hdat] at ev
      cases ev
      exact h2
    · rw [upd_ne (Ne.symm M.dne)]
      exact I1.hok.fresh M.new
theorem ps_raiseE {a : Expr} {ta : TA} {W : WX} {p pos pos2 : Pos} {k : Nat} (hc : X.calm = true) (T : ErrOk b x f qual X.K X.mg C fI) (hr : Room k X.A) (tk : L2N.Takes X W) (ha : PA X [a] ta) (hg : Gl X x := by rfl) (hdb : (x == ("__debug__" : Str)) = false := by decide)
    (he : starEach (a :: []) X.env = (false, eval a X.env) :: starEach [] X.env := by rfl) (hpl : (backTo pos (starEach [] X.env)).any (·.1) = false := by rfl) :
    PS X (.Raise (some (.Call (.Name x p) [a] [] pos)) none pos2) (tRaiseE C f W ta) := L2N.ps_raise hc tk (L2N.pmk_E T hr ha hg hdb he hpl)
end
end L2N
namespace Sb
open PySem PySem.Spec PyProof.Rows L2
section
variable {P : Program} {w : World} {K : PySem.W.Frag} {mg : Str → Option Value} {base : Heap} {k : Nat} {f : Addr}
theorem okGXN {x qual : Str} {st : Stmt} {fd : FuncData} {N ps : List Str} {sp : Sp} (F : Fun K x qual st f fd) (S : FnScope N ps (defScope st)) (len : ∀ vs H Q E, sp vs H Q E → vs.length = ps.length)
    (walk : ∀ (cdv : Value) (A : Around) (outer : List Env) (s : Shared) (H : Hp) (vs : List V) (Q : VK) (E : XK), A.guards = some [] →
      Room k (A.deeper (envOfC qual (defScope st) s.heap.objs.size f cdv)) → sp vs H Q E →
      ∃ t, PSs (cxOf (L2N.CX P w) P w K mg base N qual (defScope st) f cdv A outer s H E) (defBody st) t ∧ t { nx := fun _ H' => Q .non H', rt := Q } (start N vs) H) :
    FnG P w K mg base (L2N.CX P w) (k + 1) f fd ps sp := by
  obtain ⟨oc, od, kV, doc, pm, an, cdv, ct, osl, e, lk, hcd⟩ := F.ex
  subst e
  exact fnG_body lk hcd S len fun A outer s H vs Q E gd room want => walk cdv A outer s H vs Q E gd room want
theorem passAtN {X : Cx} {W : WX} {σ : L2.St} (tk : L2N.Takes X W) : PassesAt (L2N.CX X.prog X.w) X σ (fun cls d H => W cls d σ H) := fun pins H s e s' I c => tk e s' (L2N.XE.of_call I (fun _ _ _ h => h) c)
end
end Sb

namespace Sb
open PySem PySem.Spec PyProof.Rows L2
theorem ne_fr {H : Hp} {a b : Addr} {o : HO} (n : H b = none) (h : H a = some o) : a ≠ b := ne_of_none h n
theorem ne_fr' {H : Hp} {a b : Addr} {o : HO} (n : H b = none) (h : H a = some o) : b ≠ a := (ne_of_none h n).symm
theorem upd_off {H : Hp} {a b : Addr} {o u : HO} (n : b ≠ a) (h : H b = some u) : upd H a o b = some u := by rw [upd_ne n]; exact h
theorem upd_offN {H : Hp} {a b : Addr} {o : HO} (n : b ≠ a) (h : H b = none) : upd H a o b = none := by rw [upd_ne n]; exact h
theorem upd_none {H : Hp} {a b : Addr} {o : HO} (h : upd H a o b = none) : b ≠ a ∧ H b = none := by
  by_cases e : b = a
  · subst e
    rw [upd_same] at h
    cases h
  · rw [upd_ne e] at h
    exact ⟨e, h⟩
local macro_rules | `(tactic| walk_at "ne") => `(tactic| first
  | assumption
  | exact Ne.symm (by assumption)
  | exact ne_fr (by assumption) (by walk_at "hp")
  | exact ne_fr' (by assumption) (by walk_at "hp"))
local macro_rules | `(tactic| walk_at "hp") => `(tactic| first
  | assumption
  | exact upd_same
  | exact upd_off (by walk_at "ne") (by walk_at "hp"))

def top (i : Nat) : Stmt := PySem.Challenge.pw_seenbefore_k08_sources_of_rules.main.body.getD i (.Pass ⟨0, 0, 0, 0⟩)
abbrev s_is_integer : Stmt := top 10
abbrev s_is_between : Stmt := top 11
abbrev s_Watcher_init : Stmt := inClass (top 19) 0
abbrev s_Watcher_add_state : Stmt := inClass (top 19) 3
abbrev s_Watcher_add_rule : Stmt := inClass (top 19) 5
abbrev s_Watcher_rules : Stmt := inClass (top 19) 9
abbrev s_Watcher_require_state : Stmt := inClass (top 19) 12
abbrev s_Watcher_require_word : Stmt := inClass (top 19) 13
abbrev s_require_verdict : Stmt := top 20
abbrev s_is_test : Stmt := top 21
abbrev s_are_sources : Stmt := top 22
abbrev s_is_source : Stmt := top 23
abbrev s_rule_order : Stmt := top 24
abbrev s_part_order : Stmt := top 25
abbrev s_law_pen : Stmt := top 27
abbrev s_law_fresh : Stmt := top 28
abbrev s_law_draw : Stmt := top 29
abbrev s_law_fit : Stmt := top 30
abbrev s_law_accepted : Stmt := top 31
abbrev s_law : Stmt := top 32
abbrev s_NotAWord_init : Stmt := inClass (top 2) 0
abbrev s_NotAVerdict_init : Stmt := inClass (top 3) 0
abbrev s_InvalidTest_init : Stmt := inClass (top 4) 0
abbrev s_InvalidSources_init : Stmt := inClass (top 5) 0
abbrev s_UnknownState_init : Stmt := inClass (top 6) 0
abbrev s_RuleExists_init : Stmt := inClass (top 7) 0
abbrev s_LimitExceeded_init : Stmt := inClass (top 8) 0
/-- where all stands -/
structure Tx (K : PySem.W.Frag) (mg : Str → Option Value) where
  Watcher : Cn K mg "Watcher"
  nf_Watcherwords : NoAttr K Watcher.C "words"
  nf_Watcher_verdicts : NoAttr K Watcher.C "_verdicts"
  nf_Watcher_held : NoAttr K Watcher.C "_held"
  nf_Watcher_rules : NoAttr K Watcher.C "_rules"
  is_integer : Dn K mg "is_integer" s_is_integer ["value"]
  is_between : Dn K mg "is_between" s_is_between ["value", "low", "high"]
  Watcher_init : Mn K Watcher.C "__init__" "Watcher.__init__" s_Watcher_init ["self", "words"]
  Watcher_add_state : Mn K Watcher.C "add_state" "Watcher.add_state" s_Watcher_add_state ["self", "verdict", "held"]
  Watcher_add_rule : Mn K Watcher.C "add_rule" "Watcher.add_rule" s_Watcher_add_rule ["self", "state", "word", "test", "target", "sources"]
  Watcher_rules : Mn K Watcher.C "rules" "Watcher.rules" s_Watcher_rules ["self"]
  Watcher_require_state : Mn K Watcher.C "require_state" "Watcher.require_state" s_Watcher_require_state ["self", "state"]
  Watcher_require_word : Mn K Watcher.C "require_word" "Watcher.require_word" s_Watcher_require_word ["self", "word"]
  require_verdict : Dn K mg "require_verdict" s_require_verdict ["verdict"]
  is_test : Dn K mg "is_test" s_is_test ["test", "held"]
  are_sources : Dn K mg "are_sources" s_are_sources ["sources", "wanted", "held", "test"]
  is_source : Dn K mg "is_source" s_is_source ["source", "held", "test"]
  rule_order : Dn K mg "rule_order" s_rule_order ["rule"]
  part_order : Dn K mg "part_order" s_part_order ["part"]
  law_pen : Dn K mg "_law_pen" s_law_pen ["script"]
  law_fresh : Dn K mg "_law_fresh" s_law_fresh ["pen"]
  law_draw : Dn K mg "_law_draw" s_law_draw ["pen", "many"]
  law_fit : Dn K mg "_law_fit" s_law_fit ["held", "many", "test", "sources"]
  law_accepted : Dn K mg "_law_accepted" s_law_accepted ["held", "many", "test", "sources"]
  mk_Watcher : Mk K Watcher.C Watcher_init.f
  bt_rule_order : ∀ (s : Shared) (v : Value), BindsTo s rule_order.fd ⟨[v], []⟩ [("rule", v)]
  bt_part_order : ∀ (s : Shared) (v : Value), BindsTo s part_order.fd ⟨[v], []⟩ [("part", v)]
  NotAWord : En K mg OwnE.bVE "NotAWord" "word" "NotAWord.__init__"
  NotAVerdict : En K mg OwnE.bVE "NotAVerdict" "verdict" "NotAVerdict.__init__"
  InvalidTest : En K mg OwnE.bVE "InvalidTest" "test" "InvalidTest.__init__"
  InvalidSources : En K mg OwnE.bVE "InvalidSources" "sources" "InvalidSources.__init__"
  UnknownState : En K mg OwnE.bLE "UnknownState" "state" "UnknownState.__init__"
  RuleExists : En K mg OwnE.bRE "RuleExists" "rule" "RuleExists.__init__"
  LimitExceeded : En K mg OwnE.bOE "LimitExceeded" "limit" "LimitExceeded.__init__"
  ck_MOST_WORDS : Tok
  g_MOST_WORDS : mg "MOST_WORDS" = some (.int 3 ck_MOST_WORDS)
  ck_MOST_STATES : Tok
  g_MOST_STATES : mg "MOST_STATES" = some (.int 6 ck_MOST_STATES)
  ck_MOST_HELD : Tok
  g_MOST_HELD : mg "MOST_HELD" = some (.int 3 ck_MOST_HELD)
  ck_MOST_VERDICT : Tok
  g_MOST_VERDICT : mg "MOST_VERDICT" = some (.int 3 ck_MOST_VERDICT)
  ck_NEW : Tok
  g_NEW : mg "NEW" = some (.str "new" ck_NEW)
  ck_VALUE : Tok
  g_VALUE : mg "VALUE" = some (.str "value" ck_VALUE)
  m_list : mg "list" = none
  m_len : mg "len" = none
  m_range : mg "range" = none
  m_tuple : mg "tuple" = none
  m_isinstance : mg "isinstance" = none
  m_bool : mg "bool" = none
  m_int : mg "int" = none
  m_sorted : mg "sorted" = none
  m_set : mg "set" = none
  m_repr : mg "repr" = none
/-! ### the pen: cells of the script, drawn one by one -/
def cutAll (ns : List Int) (h : ns.length ≤ 63) : cutV (ns.map V.int) none (some 63) = ns.map V.int := by
  unfold cutV
  rw [show HT.sIx (ns.map V.int).length 0 none = 0 from HT.sIx_none _ _, show HT.sIx (ns.map V.int).length (ns.map V.int).length (some 63) = min 63 (ns.map V.int).length from HT.sIx_nat _ _ 63]
  rw [List.drop_zero, Nat.sub_zero, List.length_map, Nat.min_eq_right h]
  exact List.take_of_length_le (by rw [List.length_map]; exact Nat.le_refl _)
/-- but at p, what was tracked is as it was -/
def Keep (p : Addr) (H H' : Hp) : Prop := ∀ b o, H b = some o → b ≠ p → H' b = some o
theorem Keep.refl {p : Addr} {H : Hp} : Keep p H H := fun _ _ h _ => h
theorem Keep.trans {p : Addr} {H H1 H2 : Hp} (a : Keep p H H1) (b : Keep p H1 H2) : Keep p H H2 := fun c o h n => b c o (a c o h n) n
theorem Keep.new {p q : Addr} {H : Hp} {o : HO} (h : H q = none) : Keep p H (upd H q o) := fun b u e _ => by rw [upd_ne (ne_of_none e h)]; exact e
theorem Keep.at {p : Addr} {H H1 : Hp} {o : HO} (a : Keep p H H1) : Keep p H (upd H1 p o) := fun b u e n => by rw [upd_ne n]; exact a b u e n
theorem Keep.same {p : Addr} {H H1 : Hp} (h : Same H H1) : Keep p H H1 := fun b o e _ => h b o e
/-- the pen stands at p, its cells at c -/
def PenIs (H : Hp) (p c : Addr) (ns : List Int) (at_ st : Int) : Prop := H p = some (.lst [.ref c, .int at_, .int st]) ∧ H c = some (.lst (ns.map V.int))
def Pen (H : Hp) (p c : Addr) : Prop := ∃ ns at_ st, PenIs H p c ns at_ st ∧ 0 ≤ at_ ∧ 0 ≤ st ∧ ns.length ≤ 63
theorem PenIs.ne {H : Hp} {p c : Addr} {ns : List Int} {a z : Int} (h : PenIs H p c ns a z) : p ≠ c := by
  refine ne_of h.1 h.2 ?_
  intro e
  cases ns with
  | nil => cases e
  | cons x r => cases e
theorem Pen.ne {H : Hp} {p c : Addr} (h : Pen H p c) : p ≠ c := by
  obtain ⟨_, _, _, h, _⟩ := h
  exact h.ne
theorem Pen.mono {H H' : Hp} {p c : Addr} (h : Pen H p c) (e : Same H H') : Pen H' p c := by
  obtain ⟨ns, a, z, h, r⟩ := h
  exact ⟨ns, a, z, ⟨e _ _ h.1, e _ _ h.2⟩, r⟩
theorem Pen.free {H : Hp} {p c q : Addr} (h : Pen H p c) (e : H q = none) : p ≠ q ∧ c ≠ q := by
  obtain ⟨ns, a, z, h, r⟩ := h
  exact ⟨ne_of_none h.1 e, ne_of_none h.2 e⟩
theorem Pen.tups {H H' : Hp} {p c : Addr} (h : Pen H p c) (k : Keep p H H') : Tups H H' := fun a xs e => by
  obtain ⟨ns, x, z, ⟨h1, _⟩, _⟩ := h
  exact k a _ e (ne_of e h1 (fun z => by cases z))
theorem Pen.at {H : Hp} {p c : Addr} (h : Pen H p c) : ∃ l, H p = some (.lst l) := by
  obtain ⟨ns, x, z, ⟨h1, _⟩, _⟩ := h
  exact ⟨_, h1⟩
theorem Pen.put {H : Hp} {p c a : Addr} {o : HO} (h : Pen H p c) (n1 : a ≠ p) (n2 : a ≠ c) : Pen (upd H a o) p c := by
  obtain ⟨ns, x, z, ⟨h1, h2⟩, r⟩ := h
  exact ⟨ns, x, z, ⟨by rw [upd_ne n1.symm]; exact h1, by rw [upd_ne n2.symm]; exact h2⟩, r⟩
def sp_law_pen (K : PySem.W.Frag) : Sp := fun vs H Q _ => ∃ (a : Addr) (ns : List Int), vs = [.ref a] ∧ SqL K H a (ns.map V.int) ∧ ns.length ≤ 63 ∧
  ∀ p c H', Same H H' → H p = none → H c = none → Pen H' p c → Q (.ref p) H'
def sp_law_fresh : Sp := fun vs H Q _ => ∃ (p c : Addr) (ns : List Int) (a z : Int), vs = [.ref p] ∧ PenIs H p c ns a z ∧ 0 ≤ a ∧ ns.length ≤ 63 ∧
  ∀ r H', 0 ≤ r → Keep p H H' → PenIs H' p c ns (a + 1) z → Q (.int r) H'
def sp_law_draw : Sp := fun vs H Q _ => ∃ (p c : Addr) (many : Int), vs = [.ref p, .int many] ∧ Pen H p c ∧ 0 < many ∧ many < 2 ^ 100 ∧
  ∀ d H', 0 ≤ d → d < many → Keep p H H' → Pen H' p c → Q (.int d) H'
section
variable {P : Program} {w : World} {K : PySem.W.Frag} {mg : Str → Option Value} {base : Heap}
abbrev N_law_pen : List Str := ["script"]
theorem sc_law_pen : FnScope N_law_pen ["script"] (defScope s_law_pen) := ⟨rfl, rfl, rfl, by decide +kernel, rfl, by decide +kernel, by decide +kernel⟩
theorem ok_law_pen {f : Addr} {fd : FuncData} {k : Nat} (F : Fun K "_law_pen" "_law_pen" s_law_pen f fd) (m_list : mg "list" = none) : FnG P w K mg base CX0 (k + 1) f fd ["script"] (sp_law_pen K) := by
  refine okG F sc_law_pen (fun vs H Q E h => ?_) (fun cdv A outer s H vs Q E gd hr h => ?_)
  · obtain ⟨a, ns, rfl, _⟩ := h
    rfl
  · obtain ⟨a, ns, rfl, hS, hl, q⟩ := h
    refine ⟨_,
      (pss_one (ps_ret (pe_lst (pa_cons (pe_callTy call_list_of (by rfl) m_list (by decide +kernel) (pa_cons (pe_slice sl_list (pv 0) po_none (po_some pe_int)) pa_nil)) (pa_cons pe_int (pa_cons pe_int pa_nil))))))
       , ?_⟩
    refine ⟨.ref a, rfl, 63, rfl, a, ns.map V.int, rfl, hS, fun b nb => ?_⟩
    rw [cutAll ns hl]
    refine ⟨b, ns.map V.int, rfl, .inl (.inl (.inl upd_same)), fun c nc => ?_⟩
    refine ⟨(by show 3 ≤ sizeLine; decide), fun p np => ?_⟩
    have s1 : Same H (upd H b (.lst (ns.map V.int))) := fun x o e => by walk_at "hp"
    have nc0 : H c = none := s1.free nc
    have s2 : Same H (upd (upd H b (.lst (ns.map V.int))) c (.lst (ns.map V.int))) := fun x o e => (by walk_at "hp")
    have np0 : H p = none := s2.free np
    have npc : c ≠ p := ne_of_none upd_same np
    refine q p c _ (fun x o e => ?_) np0 nc0 ⟨ns, 0, 0, ⟨upd_same, ?_⟩, by decide, by decide, hl⟩
    · have := s2 x o e
      walk_at "hp"
    · walk_at "hp"
abbrev N_law_fresh : List Str := ["pen", "at", "cell", "p", "state", "found", "turn"]
theorem sc_law_fresh : FnScope N_law_fresh ["pen"] (defScope s_law_fresh) := ⟨rfl, rfl, rfl, by decide +kernel, rfl, by decide +kernel, by decide +kernel⟩
theorem ok_law_fresh {f : Addr} {fd : FuncData} {k : Nat} (F : Fun K "_law_fresh" "_law_fresh" s_law_fresh f fd) (m_len : mg "len" = none) (m_range : mg "range" = none) : FnG P w K mg base CX0 (k + 1) f fd ["pen"] sp_law_fresh := by
  refine okG F sc_law_fresh (fun vs H Q E h => ?_) (fun cdv A outer s H vs Q E gd hr h => ?_)
  · obtain ⟨p, c, ns, a, z, rfl, _⟩ := h
    rfl
  · obtain ⟨p, c, ns, a, z, rfl, hP, ha, hl, q⟩ := h
    obtain ⟨hp, hc⟩ := id hP
    have npc := hP.ne
    refine ⟨_,
      (pss_cons (ps_set (i := 1) sc_law_fresh.nd rfl (.inl rfl) (pe_ix ix_list (pv 0) pe_int (fun _ _ => rfl))) -- at = pen[1]
      (pss_cons (ps_asg (pe_op op_add (pv 1) pe_int) (pg_sub (pv 0) pe_int set_list)) -- pen[1] = at + 1
      (pss_cons (ps_set (i := 2) sc_law_fresh.nd rfl (.inl rfl) pe_int) -- cell = 0
      (C8.pss_cut (ps_if (pt_cmpR (op_neD hr.units) (pe_ix ix_list (pv 0) pe_int (fun _ _ => rfl)) (pe_lst pa_nil) (nomark _)) 
        (pss_one (ps_set (i := 2) sc_law_fresh.nd rfl (.inl rfl) (pe_ix ix_list (pe_ix ix_list (pv 0) pe_int (fun _ _ => rfl)) (pe_op op_mod (pv 1) (pe_callB call_len_seq (by rfl) m_len PySem.boot_len (pa_cons (pe_ix ix_list (pv 0) pe_int (fun _ _ => rfl)) pa_nil))) (fun _ _ => rfl)))) -- cell = pen[0][at % len(pen[0])]
         pss_nil) -- if pen[0] != []:
      (C8.pss_cut (ps_if (PW.pt (pw_and (pt_cmpR op_lt (pv 1) (pe_callB call_len_seq (by rfl) m_len PySem.boot_len (pa_cons (pe_ix ix_list (pv 0) pe_int (fun _ _ => rfl)) pa_nil)) (nomark _)) (pw_and1 (pt_cmpR op_ge (pv 2) (pe_op op_pow pe_int pe_int) (nomark _))))) 
        (pss_one (ps_ret (pe_op op_sub (pv 2) (pe_op op_pow pe_int pe_int)))) -- return cell - 10 ** 18
         pss_nil) -- if at < len(pen[0]) and cell >= 10 ** 18:
      (pss_cons (ps_set (i := 3) sc_law_fresh.nd rfl (.inl rfl) pe_int) -- p = 2305843009213693951
      (pss_cons (ps_set (i := 4) sc_law_fresh.nd rfl (.inl rfl) (pe_op op_mod (pe_op op_add (pe_op op_add (pe_op op_mul (pv 2) pe_int) (pe_op op_mul pe_int (pv 1))) pe_int) (pv 3))) -- state = (cell * 48271 + 40692 * at + 31) % p
      (pss_cons (ps_set (i := 5) sc_law_fresh.nd rfl (.inl rfl) (pv 4)) -- found = state
      (pss_cons (ps_for PassesOwn.never rfl (pi_range1 rfl m_range (pa_cons pe_int pa_nil)) (pg_name (i := 6) sc_law_fresh.nd rfl (.inl rfl)) 
        (pss_cons (ps_set (i := 4) sc_law_fresh.nd rfl (.inl rfl) (pe_op op_mod (pe_op op_add (pe_op op_add (pe_op op_mul (pv 4) (pv 4)) (pe_op op_mul (pe_op op_mul pe_int (pe_op op_add (pv 6) pe_int)) (pe_op op_add (pv 1) pe_int))) (pv 2)) (pv 3))) -- state = (state * state + 69621 * (turn + 1) * (at + 1) + cell) % p
        (pss_one (ps_set (i := 5) sc_law_fresh.nd rfl (.inl rfl) (pe_op op_add (pe_op op_mul (pv 5) (pv 3)) (pv 4)))) -- found = found * p + state
        )) -- for turn in range(6):
      (pss_one (ps_ret (pv 5))) -- return found
      ))))))))) , ?_⟩
    -- at = pen[1]; pen[1] = at + 1; cell = 0
    refine ⟨.ref p, rfl, p, _, 1, .int a, rfl, rfl, .inl (.inl hp), rfl, ?_⟩
    refine ⟨.int a, rfl, a, 1, rfl, rfl, .ref p, rfl, p, _, 1, 1, rfl, rfl, hp, rfl, ?_⟩
    generalize hH1 : upd H p (.lst ([V.ref c, V.int a, V.int z].set 1 (V.int (a + 1)))) = H1
    have hp1 : H1 p = some (.lst [.ref c, .int (a + 1), .int z]) := by rw [← hH1]; exact upd_same
    have hc1 : H1 c = some (.lst (ns.map V.int)) := by rw [← hH1, upd_ne npc.symm]; exact hc
    have kp1 : Keep p H H1 := by rw [← hH1]; exact Keep.refl.at
    clear hH1
    -- if pen[0] != []: cell = ..
    refine ⟨fun σ H' => ∃ cell : Int, σ = [some (.ref p), some (.int a), some (.int cell), none, none, none, none] ∧ Keep p H H' ∧ H' p = some (.lst [.ref c, .int (a + 1), .int z]) ∧ H' c = some (.lst (ns.map V.int)), ?_, ?_⟩
    · refine ⟨.ref p, rfl, p, _, 0, .ref c, rfl, rfl, .inl (.inl hp1), rfl, by show 0 ≤ sizeLine; decide, fun e ne => ?_⟩
      have hc2 : (upd H1 e (.lst [])) c = some (.lst (ns.map V.int)) := by walk_at "hp"
      have hp2 : (upd H1 e (.lst [])) p = some (.lst [.ref c, .int (a + 1), .int z]) := by walk_at "hp"
      have kp2 : Keep p H (upd H1 e (.lst [])) := kp1.trans (Keep.new ne)
      have he2 : (upd H1 e (.lst [])) e = some (.lst []) := upd_same
      generalize upd H1 e (.lst []) = H2 at hc2 hp2 kp2 he2 ⊢
      refine ⟨.list (ns.map PyData.int), .list [], .lst (.inl (.inl hc2)) (dp_ints _ _ ns), .lst (.inl (.inl he2)) .nil, shaped_ints ns, rfl, _, rfl, ite2 (fun hb => ?_) (fun hb => ?_)⟩
      · have hn : 0 < ns.length := by
          cases ns with
          | nil => cases hb
          | cons x r => exact Nat.succ_pos _
        obtain ⟨j, hj, ej⟩ : ∃ j : Nat, j < ns.length ∧ a % (ns.length : Int) = j := by
          refine ⟨(a % (ns.length : Int)).toNat, ?_, ?_⟩
          · have := Int.emod_lt_of_pos a (show (0 : Int) < ns.length by omega)
            have := Int.emod_nonneg a (show (ns.length : Int) ≠ 0 by omega)
            omega
          · have := Int.emod_nonneg a (show (ns.length : Int) ≠ 0 by omega)
            omega
        refine ⟨.ref p, rfl, p, _, 0, .ref c, rfl, rfl, .inl (.inl hp2), rfl, .int a, rfl, .ref p, rfl, p, _, 0, .ref c, rfl, rfl, .inl (.inl hp2), rfl, c, _, rfl, .inl (.inl (.inl hc2)), a, _, rfl, rfl, (by rw [List.length_map]; show (0 : Int) < ns.length; omega), c, _, _, .int ns[j], rfl, rfl, .inl (.inl hc2), ?_, ?_⟩
        · rw [List.length_map, ej]
          exact atI_nat (by rw [List.getElem?_map, List.getElem?_eq_getElem hj]; rfl)
        · exact ⟨ns[j], rfl, kp2, hp2, hc2⟩
      · exact ⟨0, rfl, kp2, hp2, hc2⟩
    · rintro σ H2 ⟨cell, rfl, kp2, hp2, hc2⟩
      have done : ∀ r : Int, 0 ≤ r → Q (.int r) H2 := fun r h0 => q r H2 h0 kp2 ⟨hp2, hc2⟩
      -- if at < len(pen[0]) and cell >= 10 ** 18: return cell - 10 ** 18
      refine ⟨fun σ H' => σ = [some (.ref p), some (.int a), some (.int cell), none, none, none, none] ∧ H' = H2, ?_, ?_⟩
      · refine ⟨.int a, rfl, .ref p, rfl, p, _, 0, .ref c, rfl, rfl, .inl (.inl hp2), rfl, c, _, rfl, .inl (.inl (.inl hc2)), a, _, rfl, rfl, _, rfl, ite2 (fun h1 => ?_) (fun h1 => ?_)⟩
        · refine ⟨.int cell, rfl, 10, 18, rfl, rfl, ⟨by decide, by decide, by decide⟩, cell, _, rfl, rfl, _, rfl, ite2 (fun h2 => ?_) (fun h2 => ?_)⟩
          · refine ⟨.int cell, rfl, 10, 18, rfl, rfl, ⟨by decide, by decide, by decide⟩, cell, _, rfl, rfl, done _ ?_⟩
            have := of_decide_eq_true h2
            omega
          · exact ⟨rfl, rfl⟩
        · exact ⟨rfl, rfl⟩
      · rintro σ H3 ⟨rfl, rfl⟩
        -- p = ..; state = (cell * 48271 + 40692 * at + 31) % p; found = state
        refine ⟨.int cell, rfl, cell, 48271, rfl, rfl, .inr ⟨by decide, by decide⟩, .int a, rfl, 40692, a, rfl, rfl, .inl ⟨by decide, by decide⟩, _, _, rfl, rfl, _, _, rfl, rfl, .int 2305843009213693951, rfl, _, _, rfl, rfl, (by show (0 : Int) < 2305843009213693951; decide), ?_⟩
        dsimp only
        generalize hst : (cell * 48271 + 40692 * a + 31) % 2305843009213693951 = st
        have h0 : 0 ≤ st := by rw [← hst]; exact Int.emod_nonneg _ (by decide)
        have h1 : st < 2305843009213693951 := by rw [← hst]; exact Int.emod_lt_of_pos _ (by decide)
        clear hst
        refine ⟨.int st, rfl, 6, rfl, by decide, by decide, ?_⟩
        refine for_range (n := 6) (fun _ σ H' => ∃ st fd tn, σ = [some (.ref p), some (.int a), some (.int cell), some (.int 2305843009213693951), some (.int st), some (.int fd), tn] ∧ H' = H3 ∧ 0 ≤ st ∧ st < 2305843009213693951 ∧ 0 ≤ fd) ?_ ?_ ?_
        · exact ⟨st, st, none, rfl, rfl, h0, h1, h0⟩
        · rintro i σ H4 hi ⟨st, fd, tn, rfl, rfl, h0, h1, h2⟩
          have hi' : (i : Int) < 6 := by omega
          refine ⟨.int st, rfl, .int st, rfl, st, st, rfl, rfl, .inl ⟨by omega, by omega⟩, .int (0 + (i : Int)), rfl, 0 + (i : Int), 1, rfl, rfl, 69621, _, rfl, rfl, .inl ⟨by decide, by decide⟩, .int a, rfl, a, 1, rfl, rfl, 69621 * (0 + (i : Int) + 1), a + 1, rfl, rfl, .inl ⟨by omega, by omega⟩, _, _, rfl, rfl, .int cell, rfl, _, _, rfl, rfl, .int 2305843009213693951, rfl, _, _, rfl, rfl, (by show (0 : Int) < 2305843009213693951; decide), ?_⟩
          dsimp only
          generalize hst : (st * st + 69621 * (0 + (i : Int) + 1) * (a + 1) + cell) % 2305843009213693951 = st'
          have h0' : 0 ≤ st' := by rw [← hst]; exact Int.emod_nonneg _ (by decide)
          have h1' : st' < 2305843009213693951 := by rw [← hst]; exact Int.emod_lt_of_pos _ (by decide)
          refine ⟨.int fd, rfl, .int 2305843009213693951, rfl, fd, 2305843009213693951, rfl, rfl, .inr ⟨by decide, by decide⟩, .int st', rfl, _, _, rfl, rfl, ?_⟩
          exact ⟨st', fd * 2305843009213693951 + st', _, rfl, rfl, h0', h1', by omega⟩
        · rintro σ H4 ⟨st, fd, tn, rfl, rfl, h0, h1, h2⟩
          exact ⟨.int fd, rfl, done fd h2⟩
abbrev N_law_draw : List Str := ["pen", "many", "digit"]
theorem sc_law_draw : FnScope N_law_draw ["pen", "many"] (defScope s_law_draw) := ⟨rfl, rfl, rfl, by decide +kernel, rfl, by decide +kernel, by decide +kernel⟩
theorem ok_law_draw {f f_law_fresh : Addr} {fd fd_law_fresh : FuncData} (F : Fun K "_law_draw" "_law_draw" s_law_draw f fd) (F_law_fresh : Fun K "_law_fresh" "_law_fresh" s_law_fresh f_law_fresh fd_law_fresh) (b_law_fresh : Binds K fd_law_fresh ["pen"] []) (g_law_fresh : mg "_law_fresh" = some (.ref f_law_fresh))
    (m_len : mg "len" = none) (m_range : mg "range" = none) : FnG P w K mg base CX0 2 f fd ["pen", "many"] sp_law_draw := by
  have G_law_fresh : FnG P w K mg base CX0 1 f_law_fresh fd_law_fresh ["pen"] sp_law_fresh := ok_law_fresh F_law_fresh m_len m_range
  refine okG F sc_law_draw (fun vs H Q E h => ?_) (fun cdv A outer s H vs Q E gd hr h => ?_)
  · obtain ⟨p, c, m, rfl, _⟩ := h
    rfl
  · obtain ⟨p, c, m, rfl, hP, m0, m1, q⟩ := h
    obtain ⟨ns, a, z, hI, ha, hz, hl⟩ := id hP
    refine ⟨_,
      (C8.pss_cut (ps_if (pt_cmpR op_lt (pe_ix ix_list (pv 0) pe_int (fun _ _ => rfl)) (pv 1) (nomark _)) 
        (pss_one (ps_asg (pe_callG G_law_fresh gd (hr.mono (by decide)) rfl g_law_fresh F_law_fresh.kp b_law_fresh .nil pass0 (pa_cons (pv 0) pa_nil)) (pg_sub (pv 0) pe_int set_list))) -- pen[2] = _law_fresh(pen)
         pss_nil) -- if pen[2] < many:
      (pss_cons (ps_set (i := 2) sc_law_draw.nd rfl (.inl rfl) (pe_op op_mod (pe_ix ix_list (pv 0) pe_int (fun _ _ => rfl)) (pv 1))) -- digit = pen[2] % many
      (pss_cons (ps_asg (pe_op op_fdivW (pe_ix ix_list (pv 0) pe_int (fun _ _ => rfl)) (pv 1)) (pg_sub (pv 0) pe_int set_list)) -- pen[2] = pen[2] // many
      (pss_one (ps_ret (pv 2))) -- return digit
      ))) , ?_⟩
    refine ⟨fun σ H' => σ = [some (.ref p), some (.int m), none] ∧ Keep p H H' ∧ ∃ a z : Int, PenIs H' p c ns a z ∧ 0 ≤ a ∧ 0 ≤ z, ?_, ?_⟩
    · refine ⟨.ref p, rfl, p, _, 2, .int z, rfl, rfl, .inl (.inl hI.1), rfl, .int m, rfl, z, m, rfl, rfl, _, rfl, ite2 (fun h1 => ?_) (fun h1 => ?_)⟩
      · refine ⟨.ref p, rfl, p, c, ns, a, z, rfl, hI, ha, hl, fun r H1 hr0 kp hI1 => ?_⟩
        have ne := hI1.ne
        refine ⟨.ref p, rfl, p, _, 2, 2, rfl, rfl, hI1.1, rfl, rfl, kp.at, a + 1, r, ⟨upd_same, ?_⟩, by omega, hr0⟩
        rw [upd_ne ne.symm]
        exact hI1.2
      · exact ⟨rfl, Keep.refl, a, z, hI, ha, hz⟩
    · rintro σ H1 ⟨rfl, kp, a, z, hI, ha, hz⟩
      have ne := hI.ne
      refine ⟨.ref p, rfl, p, _, 2, .int z, rfl, rfl, .inl (.inl hI.1), rfl, .int m, rfl, z, m, rfl, rfl, m0, ?_⟩
      refine ⟨.ref p, rfl, p, _, 2, .int z, rfl, rfl, .inl (.inl hI.1), rfl, .int m, rfl, z, m, rfl, rfl, div_wide m0 m1, .ref p, rfl, p, _, 2, 2, rfl, rfl, hI.1, rfl, ?_⟩
      refine ⟨.int (z % m), rfl, q _ _ (Int.emod_nonneg _ (by omega)) (Int.emod_lt_of_pos _ m0) kp.at ⟨ns, a, z / m, ⟨upd_same, ?_⟩, ha, Int.ediv_nonneg hz (by omega), hl⟩⟩
      rw [upd_ne ne.symm]
      exact hI.2
end

/-! ### integers -/
/-- an integer from lo to hi -/
def btw (d : PyData) (lo hi : Int) : Bool := match d with
  | .int n => decide (lo ≤ n) && decide (n ≤ hi)
  | _ => false
def isI (d : PyData) : Bool := isIntD d && !isBoolD d
def sp_is_integer : Sp := fun vs H Q _ => ∃ (p : Addr) (v : V) (d : PyData), vs = [v] ∧ LD p H v d ∧ Q (.bl (isI d)) H
def sp_is_between : Sp := fun vs H Q _ => ∃ (p : Addr) (v : V) (d : PyData) (lo hi : Int), vs = [v, .int lo, .int hi] ∧ LD p H v d ∧ Q (.bl (btw d lo hi)) H
section
variable {P : Program} {w : World} {K : PySem.W.Frag} {mg : Str → Option Value} {base : Heap}
abbrev N_is_integer : List Str := ["value"]
theorem sc_is_integer : FnScope N_is_integer ["value"] (defScope s_is_integer) := ⟨rfl, rfl, rfl, by decide +kernel, rfl, by decide +kernel, by decide +kernel⟩
theorem ok_is_integer {f : Addr} {fd : FuncData} {k : Nat} (F : Fun K "is_integer" "is_integer" s_is_integer f fd) (m_isinstance : mg "isinstance" = none) (m_int : mg "int" = none) (m_bool : mg "bool" = none) : FnG P w K mg base CX0 (k + 1) f fd ["value"] sp_is_integer := by
  refine okG F sc_is_integer (fun vs H Q E h => ?_) (fun cdv A outer s H vs Q E gd hr h => ?_)
  · obtain ⟨p, v, d, rfl, _⟩ := h
    rfl
  · obtain ⟨p, v, d, rfl, hv, q⟩ := h
    refine ⟨_, 
      (pss_one (ps_ret (pe_and (pe_callB (call_isL kit_int) (by rfl) m_isinstance (by decide +kernel) (pa_cons (pv 0) (pa_cons (pe_bltn (v := .ty "int") (by rfl) m_int (by decide +kernel) (show RelV (.ty "int") (.type "int") from rfl)) pa_nil))) (pe_one (pe_not (pe_callB (call_isL kit_bool) (by rfl) m_isinstance (by decide +kernel) (pa_cons (pv 0) (pa_cons (pe_bltn (v := .ty "bool") (by rfl) m_bool (by decide +kernel) (show RelV (.ty "bool") (.type "bool") from rfl)) pa_nil)))))))) -- return isinstance(value, int) and (not isinstance(value, bool))
       , ?_⟩
    refine ⟨v, rfl, p, v, d, rfl, hv, _, rfl, ?_⟩
    unfold isI at q
    cases hi : isIntD d with
    | false =>
      rw [hi] at q
      exact q
    | true =>
      rw [hi] at q
      exact ⟨v, rfl, p, v, d, rfl, hv, _, rfl, q⟩
abbrev N_is_between : List Str := ["value", "low", "high"]
theorem sc_is_between : FnScope N_is_between ["value", "low", "high"] (defScope s_is_between) := ⟨rfl, rfl, rfl, by decide +kernel, rfl, by decide +kernel, by decide +kernel⟩
theorem ok_is_between {f f_is_integer : Addr} {fd fd_is_integer : FuncData} (F : Fun K "is_between" "is_between" s_is_between f fd) (F_is_integer : Fun K "is_integer" "is_integer" s_is_integer f_is_integer fd_is_integer) (b_is_integer : Binds K fd_is_integer ["value"] [])
    (g_is_integer : mg "is_integer" = some (.ref f_is_integer)) (m_isinstance : mg "isinstance" = none) (m_int : mg "int" = none) (m_bool : mg "bool" = none) : FnG P w K mg base CX0 2 f fd ["value", "low", "high"] sp_is_between := by
  have G_is_integer : FnG P w K mg base CX0 1 f_is_integer fd_is_integer ["value"] sp_is_integer := ok_is_integer F_is_integer m_isinstance m_int m_bool
  refine okG F sc_is_between (fun vs H Q E h => ?_) (fun cdv A outer s H vs Q E gd hr h => ?_)
  · obtain ⟨p, v, d, lo, hi, rfl, _⟩ := h
    rfl
  · obtain ⟨p, v, d, lo, hi, rfl, hv, q⟩ := h
    refine ⟨_, 
      (pss_one (ps_ret (pe_and (pe_callG G_is_integer gd (hr.mono (by decide)) rfl g_is_integer F_is_integer.kp b_is_integer .nil pass0 (pa_cons (pv 0) pa_nil)) (pe_one (pe_chain op_le op_le (pv 1) (pv 0) (pv 2)))))) -- return is_integer(value) and low <= value <= high
       , ?_⟩
    refine ⟨v, rfl, p, v, d, rfl, hv, _, rfl, ?_⟩
    cases hv with
    | int n => 
      refine ⟨.int lo, rfl, .int n, rfl, lo, n, rfl, rfl, _, rfl, ite2 (fun h1 => ?_) (fun h1 => ?_)⟩
      · refine ⟨.int hi, rfl, n, hi, rfl, rfl, ?_⟩
        have q' : Q (.bl (decide (lo ≤ n) && decide (n ≤ hi))) H := q
        rw [h1] at q'
        exact q'
      · have q' : Q (.bl (decide (lo ≤ n) && decide (n ≤ hi))) H := q
        rw [Bool.eq_false_iff.mpr h1] at q'
        exact q'
    | _ => exact q
end

/-! ### rule_order: called by sorted, so at the library's level -/
section
open PySem.W PySem.Calls
variable {P : Program} {w : World} {K : PySem.W.Frag} {mg : Str → Option Value} {A : Around} {E : Value → Shared → Prop} {s : Shared}
theorem asg_all {env : Env} {elts : List Expr} {k : Nat} {pos : Pos} {v : Value} {Q : Unit → Shared → Prop} (h : wpAny (model P w) A (assign (.Tuple elts k pos) env v) Q E s) :
    wpAny (model P w) A (assignAll v ((assignEach [.Tuple elts k pos] env).map (·.2))) Q E s := h
theorem spl_cons {env : Env} {e : Expr} {es : List Expr} {pos : Pos} {Q : List Value → Shared → Prop} (hs : starEach (e :: es) env = (false, eval e env) :: starEach es env)
    (h : wpAny (model P w) A (eval e env) (fun v s1 => wpAny (model P w) A (spliced (backTo pos (starEach es env))) (fun vs s2 => Q (v :: vs) s2) E s1) E s) :
    wpAny (model P w) A (spliced (backTo pos (starEach (e :: es) env))) Q E s := by
  rw [hs]
  exact Calls.spliced_cons h
theorem spl_nil {env : Env} {pos : Pos} {Q : List Value → Shared → Prop} (h : Q [] s) : wpAny (model P w) A (spliced (backTo pos (starEach [] env))) Q E s := Calls.spliced_nil h
theorem ldL {q : Str} {sc : Scope} {L f : Addr} {cd : Value} {m : Str → Option Value} {x : Str} {pos : Pos} {v : Value} {Q : Value → Shared → Prop} (hk : sc.kind = .function) (hn : s.heap.Ns L m) (hv : m x = some v) (h : Q v s)
    (hl : (envOfC q sc L f cd).kindOf x = some .local := by rfl) (hd : (x == ("__debug__" : Str)) = false := by decide) :
    wpAny (model P w) A (eval (.Name x pos) (envOfC q sc L f cd)) Q E s := wpAny_Name (wpAny_loadName_local hk hl hn hv h) hd
theorem ldG {q : Str} {sc : Scope} {L f : Addr} {cd : Value} {x : Str} {pos : Pos} {v : Value} {Q : Value → Shared → Prop} (hk : sc.kind = .function) (G : s.heap.Ns mainGlobals mg) (hv : mg x = some v) (h : Q v s)
    (hl : (envOfC q sc L f cd).kindOf x = some .globalImplicit := by rfl) (hd : (x == ("__debug__" : Str)) = false := by decide) :
    wpAny (model P w) A (eval (.Name x pos) (envOfC q sc L f cd)) Q E s :=
  Calls.Name_function_global hk hl (Calls.loadGlobal_global (show s.heap.Ns mainGlobals mg from G) hv h) hd
/-- what a test is sorted by -/
theorem part_key {f : Addr} {fd : FuncData} {tN tV tM : Tok} {u : Value} {r : Int} (F : Fun K "part_order" "part_order" s_part_order f fd) (b : ∀ (s : Shared) (v : Value), BindsTo s fd ⟨[v], []⟩ [("part", v)])
    (gN : mg "NEW" = some (.str "new" tN)) (gV : mg "VALUE" = some (.str "value" tV)) (gM : mg "MOST_HELD" = some (.int 3 tM)) (X : K.In s.heap) (G : s.heap.Ns mainGlobals mg) (hlim : s.heap.NoLimit) (hroom : A.depth < recursionLimit)
    (hu : (∃ t, u = .int r t) ∨ ((∃ t, u = .str "new" t) ∧ r = 3)) :
    wpAny (model P w) A (call (.ref f) [u]) (fun v s' => (∃ t, v = .int r t) ∧ ∃ h tk, s' = { s with heap := h, toks := tk } ∧ ∀ c o, s.heap.get? c = some o → h.get? c = some o) (fun _ _ => False) s := by
  obtain ⟨oc, od, kV, doc, pm, an, cdv, ct, osl, e, lk, hcd⟩ := F.ex
  subst e
  apply wpAny_call
  refine Att.call_fn (binds := [("part", u)]) X hlim lk hcd hroom (b s u) (by rfl) (fun s1 IC => ?_) rfl rfl rfl
  obtain ⟨h1, tk1, rfl⟩ := IC.toInCall.same
  have k1 : ∀ c o, s.heap.get? c = some o → h1.get? c = some o := IC.toInCall.keep
  have n1 := IC.toInCall.ns
  have G1 : h1.Ns mainGlobals mg := G.keeps k1
  have x1 : ∀ c o, s.heap.get? c = some o → (h1.push { cls := .type "tuple", data := .seq [Value.str "new" tN, Value.str "value" tV].toArray }).get? c = some o := fun c o z => Heap.get?_push_of_some _ (k1 c o z)
  have y1 : ∀ c o, h1.get? c = some o → (h1.push { cls := .type "tuple", data := .seq [Value.str "new" tN, Value.str "value" tV].toArray }).get? c = some o := fun c o z => Heap.get?_push_of_some _ z
  have G2 := G1.keeps y1
  have n2 := n1.keeps y1
  have tu : (h1.push { cls := .type "tuple", data := .seq [Value.str "new" tN, Value.str "value" tV].toArray }).IsTuple h1.objs.size [Value.str "new" tN, Value.str "value" tV].toArray := ⟨_, Heap.get?_push_size _ rfl, rfl, _, rfl⟩
  have vs2 : Vals [V.str "new", V.str "value"] [Value.str "new" tN, Value.str "value" tV] := .cons ⟨tN, rfl⟩ (.cons ⟨tV, rfl⟩ .nil)
  have mm : ∀ {x : V} {v : Value} {A : Around} {s : Shared}, RelV x v → flatV x = true → ∀ y, y ∈ [Value.str "new" tN, Value.str "value" tV].toArray → SeqAt.EqAt A s y v (eqU x y) := fun rx fx y hy => mem_eqAt rx fx vs2 rfl y (by simpa using hy)
  show wpAny _ _ (execs (_ :: []) _) _ _ _
  refine wpAny_execs_cons (wpAny_Return_some (wpAny_IfExp (wpAny_isTrue_Compare1 ?_ rfl)))
  refine ldL rfl n1 (v := u) (by rfl) ?_
  refine wpAny_Tuple_spliced ?_
  refine spl_cons (by rfl) (ldG (s := { s with heap := h1, toks := tk1 }) (mg := mg) rfl G1 gN ?_)
  refine spl_cons (by rfl) (ldG (s := { s with heap := h1, toks := tk1 }) (mg := mg) rfl G1 gV ?_)
  refine spl_nil ⟨by show 2 ≤ sizeLine; decide, ?_⟩
  rcases hu with ⟨t, rfl⟩ | ⟨⟨t, rfl⟩, rfl⟩
  · have e0 : ([Value.str "new" tN, Value.str "value" tV].toArray).any (eqU (.int r)) = false := by
      rw [show ([Value.str "new" tN, Value.str "value" tV].toArray).any (eqU (.int r)) = [Value.str "new" tN, Value.str "value" tV].any (eqU (.int r)) by simp, any_eqU vs2 rfl]
      rfl
    refine SeqAt.in_tupleAt (eqU (.int r)) tu (mm (x := .int r) ⟨t, rfl⟩ rfl) ?_
    rw [e0]
    refine wpAny_truthy_bool ?_
    refine ldL (s := { s with heap := _, toks := tk1 }) rfl n2 (v := .int r t) (by rfl) ?_
    exact ⟨⟨_, rfl⟩, _, _, rfl, x1⟩
  · have e0 : ([Value.str "new" tN, Value.str "value" tV].toArray).any (eqU (.str "new")) = true := by
      rw [show ([Value.str "new" tN, Value.str "value" tV].toArray).any (eqU (.str "new")) = [Value.str "new" tN, Value.str "value" tV].any (eqU (.str "new")) by simp, any_eqU vs2 rfl]
      rfl
    refine SeqAt.in_tupleAt (eqU (.str "new")) tu (mm (x := .str "new") ⟨t, rfl⟩ rfl) ?_
    rw [e0]
    refine wpAny_truthy_bool ?_
    refine ldG (s := { s with heap := _, toks := tk1 }) (mg := mg) rfl G2 gM ?_
    exact ⟨⟨_, rfl⟩, _, _, rfl, x1⟩
/-- part_order and what it reads -/
def PartOk (K : PySem.W.Frag) (mg : Str → Option Value) : Prop := ∃ (fp : Addr) (fdp : FuncData) (tN tV tM : Tok), Fun K "part_order" "part_order" s_part_order fp fdp ∧ (∀ (s : Shared) (v : Value), BindsTo s fdp ⟨[v], []⟩ [("part", v)]) ∧
  mg "part_order" = some (.ref fp) ∧ mg "NEW" = some (.str "new" tN) ∧ mg "VALUE" = some (.str "value" tV) ∧ mg "MOST_HELD" = some (.int 3 tM)
theorem order_key {f a : Addr} {fd : FuncData} {t0 t1 : Tok} {i j : Int} {u : Value} {r : Int} (F : Fun K "rule_order" "rule_order" s_rule_order f fd) (b : ∀ (s : Shared) (v : Value), BindsTo s fd ⟨[v], []⟩ [("rule", v)])
    (pk : PartOk K mg) (X : K.In s.heap) (G : s.heap.Ns mainGlobals mg) (hlim : s.heap.NoLimit) (hroom : A.depth + 1 < recursionLimit) (hh : A.handled = none)
    (ht : IsTup s.heap a #[.int i t0, .int j t1, u]) (hu : (∃ t, u = .int r t) ∨ ((∃ t, u = .str "new" t) ∧ r = 3)) :
    wpAny (model P w) A (call (.ref f) [.ref a]) (KeyPure (.tuple [.int i, .int j, .int r]) s) (fun _ _ => False) s := by
  obtain ⟨fp, fdp, tN, tV, tM, Fp, bp, gp, gN, gV, gM⟩ := pk
  obtain ⟨oc, od, kV, doc, pm, an, cdv, ct, osl, e, lk, hcd⟩ := F.ex
  subst e
  apply wpAny_call
  refine Att.call_fn (binds := [("rule", .ref a)]) X hlim lk hcd (by omega) (b s (.ref a)) (by rfl) (fun s1 IC => ?_) rfl rfl rfl
  obtain ⟨h1, tk1, rfl⟩ := IC.toInCall.same
  have k1 : ∀ c o, s.heap.get? c = some o → h1.get? c = some o := IC.toInCall.keep
  have n1 := IC.toInCall.ns
  have L0 : s.heap.get? s.heap.objs.size = none := Heap.get?_none_of_le (Nat.le_refl _)
  have kL : ∀ {h' : Heap} c o, (∀ c o, c ≠ s.heap.objs.size → h1.get? c = some o → h'.get? c = some o) → s.heap.get? c = some o → h'.get? c = some o := fun {h'} c o k z => k c o (fun q => by rw [q, L0] at z; cases z) (k1 c o z)
  have ht1 : IsTup h1 a #[.int i t0, .int j t1, u] := by
    obtain ⟨o, ho, r⟩ := ht
    exact ⟨o, k1 _ _ ho, r⟩
  show wpAny _ _ (execs _ _) _ _ _
  refine wpAny_execs_cons (wpAny_Assign_stores ?_ rfl rfl)
  refine ldL rfl n1 (by rfl) ?_
  refine asg_all ?_
  refine assign_Tuple_tuple hh ht1 (by rfl) (by rfl) fun h2 x2 => ?_
  have e2 : ∀ c o, h1.get? c = some o → h2.get? c = some o := fun c o z => x2 c o (Nat.ne_of_lt (Heap.lt_size z)) z
  have n2 := n1.keeps e2
  show wpAny _ _ (assignInOrder (_ :: _ :: _ :: []) [Value.int i t0, Value.int j t1, u]) _ _ _
  refine assignInOrder_cons (wpAny_assign_Name (wpAny_storeName_local (by rfl) n2 (fun h3 n3 s3 => ?_)))
  refine assignInOrder_cons (wpAny_assign_Name (wpAny_storeName_local (by rfl) n3 (fun h4 n4 s4 => ?_)))
  refine assignInOrder_cons (wpAny_assign_Name (wpAny_storeName_local (by rfl) n4 (fun h5 n5 s5 => ?_)))
  refine assignInOrder_nil ?_
  have k5 : ∀ c o, s.heap.get? c = some o → h5.get? c = some o := fun c o z => by
    have ne : c ≠ s.heap.objs.size := Nat.ne_of_lt (Heap.lt_size z)
    exact (s5.2 c ne).trans ((s4.2 c ne).trans ((s3.2 c ne).trans (e2 c o (k1 c o z))))
  have vu : ∀ h' : Heap, (∀ c o, h5.get? c = some o → h'.get? c = some o) → ∀ (x y z : Value) (tk : Nat), (∃ t, x = .int i t) → (∃ t, y = .int j t) → (∃ t, z = .int r t) → [x, y, z].length ≤ sizeLine ∧
      KeyPure (.tuple [.int i, .int j, .int r]) s (.ref h'.objs.size) { s with heap := h'.push { cls := .type "tuple", data := .seq [x, y, z].toArray }, toks := tk } := by
    rintro h' kp x y z tk ⟨tx, rfl⟩ ⟨ty, rfl⟩ ⟨tz, rfl⟩
    refine ⟨by show 3 ≤ sizeLine; decide, _, tk, rfl, fun c o q => Heap.get?_push_of_some _ (kp c o (k5 c o q)), ?_⟩
    exact Reads.tuple (Heap.get?_push_size _ rfl) rfl rfl (.cons (.int i tx) (.cons (.int j ty) (.cons (.int r tz) .nil)))
  have G5 : h5.Ns mainGlobals mg := G.keeps k5
  show wpAny _ _ (execs (_ :: []) _) _ _ _
  refine wpAny_execs_cons (wpAny_Return_some (wpAny_Tuple_spliced ?_))
  refine spl_cons (by rfl) (ldL rfl n5 (v := .int i t0) (by rfl) ?_)
  refine spl_cons (by rfl) (ldL rfl n5 (v := .int j t1) (by rfl) ?_)
  refine spl_cons (by rfl) ?_
  apply wpAny_Call_Name_kw
  refine ldG (s := { s with heap := h5, toks := _ }) (mg := mg) rfl G5 gp ?_
  refine PySem.W.callWith_K (h₀ := s.heap) X Fp.kp ?_ rfl rfl
  refine spl_cons (by rfl) (ldL rfl n5 (v := u) (by rfl) ?_)
  refine spl_nil ⟨X.keeps k5, ?_⟩
  refine wpAny_mono (part_key (s := { s with heap := h5, toks := _ }) Fp bp gN gV gM (X.keeps k5) G5 (hlim.keeps k5) hroom hu) ?_ (fun _ _ z => z.elim)
  rintro v s6 ⟨⟨t, rfl⟩, h6, tk6, rfl, k6⟩
  refine spl_nil ?_
  exact vu h6 k6 _ _ _ _ ⟨_, rfl⟩ ⟨_, rfl⟩ ⟨_, rfl⟩
end

/-! ### watchers -/
def wf (n : Int) (lv lh d : Addr) : List (Str × V) := [("words", .int n), ("_verdicts", .ref lv), ("_held", .ref lh), ("_rules", .ref d)]
/-- a rule's name: state, word, test -/
def RK (k : List Key) : Prop := ∃ (i j : Int) (t : Key), k = [Sum.inl i, Sum.inl j, t] ∧ ((∃ r, t = Sum.inl r) ∨ t = Sum.inr ("new" : Str))
abbrev Rows := List (List Key × PyData)
abbrev KvD (H : Hp) : List (List Key × V) → Rows → Prop := Paired fun p q => p.1 = q.1 ∧ TD H p.2 q.2
theorem KvD.mono {H H' : Hp} {kvs : List (List Key × V)} {R : Rows} (t : Tups H H') (h : KvD H kvs R) : KvD H' kvs R := Paired.mapP h fun _ _ z => ⟨z.1, TD.mono t _ z.2⟩
theorem KvD.keys {H : Hp} {kvs : List (List Key × V)} {R : Rows} (h : KvD H kvs R) : kvs.map (·.1) = R.map (·.1) := by
  induction h with
  | nil => rfl
  | cons a _ ih => rw [List.map_cons, List.map_cons, a.1, ih]
structure WAt (C : Addr) (H : Hp) (x lv lh d : Addr) (n : Int) (vs hs : List Int) (R : Rows) : Prop where
  ins : ∃ dx, H x = some (.ins C dx (wf n lv lh d))
  ver : H lv = some (.lst (vs.map V.int))
  hel : H lh = some (.lst (hs.map V.int))
  rul : ∃ kvs, H d = some (.dT kvs) ∧ KvD H kvs R
  ne : lv ≠ lh
  rk : ∀ k ∈ R.map (·.1), RK k
  nd : (R.map (·.1)).Nodup
  len : vs.length = hs.length ∧ vs.length ≤ 6 ∧ R.length ≤ 1000
theorem WAt.mono {C : Addr} {H H' : Hp} {x lv lh d : Addr} {n : Int} {vs hs : List Int} {R : Rows} (h : WAt C H x lv lh d n vs hs R) (s : Same H H') : WAt C H' x lv lh d n vs hs R := by
  obtain ⟨⟨dx, a⟩, b, c, ⟨kvs, e, f⟩, g, i, j, l⟩ := h
  exact ⟨⟨dx, s _ _ a⟩, s _ _ b, s _ _ c, ⟨kvs, s _ _ e, f.mono (Tups.same s)⟩, g, i, j, l⟩
theorem btw_int {d : PyData} {lo hi : Int} (h : btw d lo hi = true) : ∃ n, d = .int n ∧ lo ≤ n ∧ n ≤ hi := by
  cases d with
  | int n =>
    have h' : (decide (lo ≤ n) && decide (n ≤ hi)) = true := h
    simp only [Bool.and_eq_true, decide_eq_true_eq] at h'
    exact ⟨n, rfl, h'.1, h'.2⟩
  | _ => cases h
abbrev w1 (n : Int) : List (Str × V) := [("words", .int n)]
abbrev w2 (n : Int) (lv : Addr) : List (Str × V) := [("words", .int n), ("_verdicts", .ref lv)]
abbrev w3 (n : Int) (lv lh : Addr) : List (Str × V) := [("words", .int n), ("_verdicts", .ref lv), ("_held", .ref lh)]
theorem wf2 (n : Int) (lv : Addr) : putF "_verdicts" (.ref lv) (w1 n) = (w2 n lv) := by
  unfold putF
  rw [if_neg (by decide)]
  rfl
theorem wf3 (n : Int) (lv lh : Addr) : putF "_held" (.ref lh) (w2 n lv) = (w3 n lv lh) := by
  unfold putF
  rw [if_neg (by decide)]
  unfold putF
  rw [if_neg (by decide)]
  rfl
theorem wf4 (n : Int) (lv lh d : Addr) : putF "_rules" (.ref d) (w3 n lv lh) = wf n lv lh d := by
  unfold putF
  rw [if_neg (by decide)]
  unfold putF
  rw [if_neg (by decide)]
  unfold putF
  rw [if_neg (by decide)]
  rfl
def sp_W_init (C CL : Addr) : Sp := fun vs H Q E => ∃ (p x dx : Addr) (v : V) (d : PyData), vs = [.ref x, v] ∧ H x = some (.ins C dx []) ∧ LD p H v d ∧
  (∀ n, d = .int n → 1 ≤ n → n ≤ 3 → ∀ H' lv lh dd, But x H H' → H lv = none → H lh = none → H dd = none → WAt C H' x lv lh dd n [0] [0] [] → Q .non H') ∧
  (btw d 1 3 = false → ∀ e, H e = none → E (.ref CL) (some e) (upd H e (.xd [(("limit" : Str), .int 3)])))
/-- the fields' names are no names of the class -/
structure WCls (K : PySem.W.Frag) (C : Addr) : Prop where
  cl : Cls K C
  n1 : NoAttr K C "words"
  n2 : NoAttr K C "_verdicts"
  n3 : NoAttr K C "_held"
  n4 : NoAttr K C "_rules"
section
variable {P : Program} {w : World} {K : PySem.W.Frag} {mg : Str → Option Value} {base : Heap}
abbrev N_Watcher_init : List Str := ["self", "words"]
theorem sc_Watcher_init : FnScope N_Watcher_init ["self", "words"] (defScope s_Watcher_init) := ⟨rfl, rfl, rfl, by decide +kernel, rfl, by decide +kernel, by decide +kernel⟩
theorem ok_Watcher_init {f f_is_between C CL iL : Addr} {fd fd_is_between : FuncData} {t3 : Tok} (F : Fun K "__init__" "Watcher.__init__" s_Watcher_init f fd) (F_is_between : Fun K "is_between" "is_between" s_is_between f_is_between fd_is_between) (b_is_between : Binds K fd_is_between ["value", "low", "high"] [])
    (g_is_between : mg "is_between" = some (.ref f_is_between)) (G_is_between : FnG P w K mg base CX0 2 f_is_between fd_is_between ["value", "low", "high"] sp_is_between) (T_LimitExceeded : L2.ErrOk OwnE.bOE "LimitExceeded" "limit" "LimitExceeded.__init__" K mg CL iL) (g_MOST_WORDS : mg "MOST_WORDS" = some (.int 3 t3)) (W : WCls K C) :
    FnG P w K mg base (L2.CX P w) 3 f fd ["self", "words"] (sp_W_init C CL) := by
  refine okGX F sc_Watcher_init (fun vs H Q E h => ?_) (fun cdv A outer s H vs Q E gd hr h => ?_)
  · obtain ⟨p, x, dx, v, d, rfl, _⟩ := h
    rfl
  · obtain ⟨p, x, dx, v, d, rfl, hx, hv, q1, q2⟩ := h
    have hr1 : Room 1 _ := hr.mono (by decide)
    refine ⟨_, 
      (pss_cons (ps_if (pt_not (pt_val (pe_callG G_is_between gd (hr.mono (by decide)) rfl g_is_between F_is_between.kp b_is_between .nil pass0 (pa_cons (pv 1) (pa_cons pe_int (pa_cons (pe_glob (v := .int 3) rfl g_MOST_WORDS ⟨_, rfl⟩) pa_nil)))))) 
        (pss_one (L2.ps_raiseE (W := fun cls d _ H => E cls d H) rfl T_LimitExceeded hr1 (takes_of rfl rfl rfl rfl) (by exact (pa_cons (pe_glob (v := .int 3) rfl g_MOST_WORDS ⟨_, rfl⟩) pa_nil)))) -- raise LimitExceeded(MOST_WORDS)
         pss_nil) -- if not is_between(words, 1, MOST_WORDS):
      (pss_cons (ps_fld (pv 0) (pv 1) rfl) -- self.words = words
      (pss_cons (ps_fld (pv 0) (pe_lst (pa_cons pe_int pa_nil)) rfl) -- self._verdicts = [0]
      (pss_cons (ps_fld (pv 0) (pe_lst (pa_cons pe_int pa_nil)) rfl) -- self._held = [0]
      (pss_one (ps_fld (pv 0) pe_dnewT rfl)) -- self._rules = {}
      )))) , ?_⟩
    refine ⟨v, rfl, p, v, d, 1, 3, rfl, hv, _, rfl, ?_⟩
    cases hb : btw d 1 3 with
    | false => exact ⟨.int 3, rfl, fun e he => q2 hb e he⟩
    | true =>
      obtain ⟨n, rfl, n0, n1⟩ := btw_int hb
      cases hv
      -- self.words = words
      refine ⟨.int n, rfl, .ref x, rfl, x, C, dx, [], rfl, hx, W.cl, W.n1, (by show 0 < 1000; decide), ?_⟩
      rw [show putF "words" (.int n) [] = (w1 n) from rfl]
      have b1 : But x H (upd H x (.ins C dx (w1 n))) := fun b o e ne => by rw [upd_ne ne]; exact e
      have hx1 : upd H x (.ins C dx (w1 n)) x = some (.ins C dx (w1 n)) := upd_same
      have nn : ∀ a, upd H x (.ins C dx (w1 n)) a = none → H a = none ∧ a ≠ x := fun a e => ⟨(upd_none e).2, (upd_none e).1⟩
      generalize upd H x (.ins C dx (w1 n)) = H1 at b1 hx1 nn
      -- self._verdicts = [0]
      refine ⟨by show 1 ≤ sizeLine; decide, fun lv nv => ?_⟩
      have xv : x ≠ lv := ne_of_none hx1 nv
      have hx2 : upd H1 lv (.lst [.int 0]) x = some (.ins C dx (w1 n)) := by rw [upd_ne xv]; exact hx1
      refine ⟨.ref x, rfl, x, C, dx, _, rfl, hx2, W.cl, W.n2, (by show 1 < 1000; decide), ?_⟩
      rw [wf2]
      have hv3 : upd (upd H1 lv (.lst [.int 0])) x (.ins C dx (w2 n lv)) lv = some (.lst [.int 0]) := by rw [upd_ne xv.symm]; exact upd_same
      have hx3 : upd (upd H1 lv (.lst [.int 0])) x (.ins C dx (w2 n lv)) x = some (.ins C dx (w2 n lv)) := upd_same
      have b3 : But x H (upd (upd H1 lv (.lst [.int 0])) x (.ins C dx (w2 n lv))) := fun b o e ne => by
        rw [upd_ne ne, upd_ne (ne_of_none (b1 b o e ne) nv)]
        exact b1 b o e ne
      have nv0 := (nn lv nv).1
      have nn3 : ∀ a, upd (upd H1 lv (.lst [.int 0])) x (.ins C dx (w2 n lv)) a = none → H a = none := fun a e => (nn a (upd_none (upd_none e).2).2).1
      generalize upd (upd H1 lv (.lst [.int 0])) x (.ins C dx (w2 n lv)) = H3 at hv3 hx3 b3 nn3
      -- self._held = [0]
      refine ⟨by show 1 ≤ sizeLine; decide, fun lh nh => ?_⟩
      have xh : x ≠ lh := ne_of_none hx3 nh
      have vh : lv ≠ lh := ne_of_none hv3 nh
      have hx4 : upd H3 lh (.lst [.int 0]) x = some (.ins C dx (w2 n lv)) := by rw [upd_ne xh]; exact hx3
      refine ⟨.ref x, rfl, x, C, dx, _, rfl, hx4, W.cl, W.n3, (by show 2 < 1000; decide), ?_⟩
      rw [wf3]
      have xv3 : x ≠ lv := ne_of hx3 hv3 (fun z => nomatch z)
      have hv5 : upd (upd H3 lh (.lst [.int 0])) x (.ins C dx (w3 n lv lh)) lv = some (.lst [.int 0]) := by rw [upd_ne xv3.symm, upd_ne vh]; exact hv3
      have hh5 : upd (upd H3 lh (.lst [.int 0])) x (.ins C dx (w3 n lv lh)) lh = some (.lst [.int 0]) := by rw [upd_ne xh.symm]; exact upd_same
      have hx5 : upd (upd H3 lh (.lst [.int 0])) x (.ins C dx (w3 n lv lh)) x = some (.ins C dx (w3 n lv lh)) := upd_same
      have b5 : But x H (upd (upd H3 lh (.lst [.int 0])) x (.ins C dx (w3 n lv lh))) := fun b o e ne => by
        rw [upd_ne ne, upd_ne (ne_of_none (b3 b o e ne) nh)]
        exact b3 b o e ne
      have nh0 := nn3 lh nh
      have nn5 : ∀ a, upd (upd H3 lh (.lst [.int 0])) x (.ins C dx (w3 n lv lh)) a = none → H a = none := fun a e => nn3 a (upd_none (upd_none e).2).2
      generalize upd (upd H3 lh (.lst [.int 0])) x (.ins C dx (w3 n lv lh)) = H5 at hv5 hh5 hx5 b5 nn5
      -- self._rules = {}
      intro dd ndd
      have xd : x ≠ dd := ne_of_none hx5 ndd
      have hx6 : upd H5 dd (.dT []) x = some (.ins C dx (w3 n lv lh)) := by rw [upd_ne xd]; exact hx5
      refine ⟨.ref x, rfl, x, C, dx, _, rfl, hx6, W.cl, W.n4, (by show 3 < 1000; decide), ?_⟩
      rw [wf4]
      have xv5 : x ≠ lv := ne_of hx5 hv5 (fun z => nomatch z)
      have xh5 : x ≠ lh := ne_of hx5 hh5 (fun z => nomatch z)
      refine q1 n rfl n0 n1 _ lv lh dd (fun b o e ne => ?_) nv0 nh0 (nn5 dd ndd) { ins := ⟨dx, upd_same⟩, ver := ?_, hel := ?_, rul := ⟨[], ?_, .nil⟩, ne := vh, rk := (fun _ z => by cases z), nd := List.nodup_nil, len := ⟨rfl, by decide, by decide⟩ }
      · rw [upd_ne ne, upd_ne (ne_of_none (b5 b o e ne) ndd)]
        exact b5 b o e ne
      · rw [upd_ne xv5.symm, upd_ne (ne_of_none hv5 ndd)]
        exact hv5
      · rw [upd_ne xh5.symm, upd_ne (ne_of_none hh5 ndd)]
        exact hh5
      · rw [upd_ne xd.symm]
        exact upd_same
end

/-! ### plans -/
def kD : Key → PyData
  | .inl n => .int n
  | .inr s => .str s
theorem TDs.keys {H : Hp} : ∀ {ks : List Key}, TDs H (ks.map kV) (ks.map kD)
  | [] => .nil
  | .inl n :: r => .cons (.int n) TDs.keys
  | .inr s :: r => .cons (.str s) TDs.keys
abbrev PRule := List Key × (Int × List Key)
def ruleD (r : Int × List Key) : PyData := .tuple [.int r.1, .tuple (r.2.map kD)]
def rowsOf (R : List PRule) : Rows := R.map fun p => (p.1, ruleD p.2)
theorem rowsOf_keys (R : List PRule) : (rowsOf R).map (·.1) = R.map (·.1) := by
  unfold rowsOf
  rw [List.map_map]
  rfl
theorem rowsOf_snoc (R : List PRule) (r : PRule) : rowsOf (R ++ [r]) = rowsOf R ++ [(r.1, ruleD r.2)] := by
  unfold rowsOf
  rw [List.map_append]
  rfl
def heldAt (ks : List (Int × Int)) (i : Int) : Int := ((ks[i.toNat]?).getD (0, 0)).2
def TestOk (h : Int) (t : Key) : Prop := (∃ n : Int, t = Sum.inl n ∧ 0 ≤ n ∧ n < h) ∨ t = Sum.inr ("new" : Str)
def SrcAt (h : Int) (t : Key) (k : Key) : Prop := (∃ n : Int, k = Sum.inl n ∧ 0 ≤ n ∧ n < h) ∨ (k = Sum.inr ("value" : Str) ∧ t = Sum.inr ("new" : Str))
structure SrcOk (h : Int) (t : Key) (m : Int) (ks : List Key) : Prop where
  len : (ks.length : Int) = m
  nd : ks.Nodup
  all : ∀ k ∈ ks, SrcAt h t k
def RuleOk (w : Int) (kinds : List (Int × Int)) (r : PRule) : Prop := ∃ (i j : Int) (t : Key), r.1 = [Sum.inl i, Sum.inl j, t] ∧ 0 ≤ i ∧ i < kinds.length ∧ 0 ≤ j ∧ j < w ∧ TestOk (heldAt kinds i) t ∧ 0 ≤ r.2.1 ∧ r.2.1 < kinds.length ∧ SrcOk (heldAt kinds i) t (heldAt kinds r.2.1) r.2.2
structure KindsOk (kinds : List (Int × Int)) : Prop where
  len : 1 ≤ kinds.length ∧ kinds.length ≤ 6
  zero : heldAt kinds 0 = 0
  all : ∀ k ∈ kinds, 0 ≤ k.1 ∧ k.1 ≤ 3 ∧ 0 ≤ k.2 ∧ k.2 ≤ 3
structure Plan where
  words : Int
  kinds : List (Int × Int)
  rules : List PRule
structure PlanOk (P : Plan) : Prop where
  w : 1 ≤ P.words ∧ P.words ≤ 3
  k : KindsOk P.kinds
  r : ∀ r ∈ P.rules, RuleOk P.words P.kinds r
  nd : (P.rules.map (·.1)).Nodup
  len : P.rules.length ≤ 100
structure PlanAt (H : Hp) (l kl rl : Addr) (P : Plan) : Prop where
  at_ : H l = some (.lst [.int P.words, .ref kl, .ref rl])
  kin : ∃ vs, H kl = some (.lst vs) ∧ TDs H vs (P.kinds.map msgD)
  rul : ∃ kvs, H rl = some (.dT kvs) ∧ KvD H kvs (rowsOf P.rules)
theorem PlanAt.mono {H H' : Hp} {l kl rl : Addr} {P : Plan} (h : PlanAt H l kl rl P) (s : Same H H') : PlanAt H' l kl rl P := by
  obtain ⟨a, ⟨vs, b, c⟩, ⟨kvs, d, e⟩⟩ := h
  exact ⟨s _ _ a, ⟨vs, s _ _ b, c.mono (Tups.same s)⟩, ⟨kvs, s _ _ d, e.mono (Tups.same s)⟩⟩
theorem Keep.put {p a : Addr} {H H1 : Hp} {o : HO} (k : Keep p H H1) (n : H a = none) : Keep p H (upd H1 a o) := fun b u e nb => by
  rw [upd_ne (ne_of_none e n)]
  exact k b u e nb
theorem Keep.free {p a : Addr} {H H1 : Hp} (k : Keep p H H1) (hp : H1 p ≠ none) (n : H1 a = none) : H a = none := by
  cases e : H a with
  | none => rfl
  | some o =>
    by_cases q : a = p
    · subst q
      exact absurd n hp
    · rw [k a o e q] at n
      cases n
theorem Pen.some' {H : Hp} {p c : Addr} (h : Pen H p c) : H p ≠ none := by
  obtain ⟨l, e⟩ := h.at
  rw [e]
  exact fun z => nomatch z
/-- the plan stands, but for what the pen does -/
theorem PlanAt.but {H H' : Hp} {p c l kl rl : Addr} {P : Plan} (h : PlanAt H l kl rl P) (hP : Pen H p c) (b : Keep p H H') (n1 : l ≠ p) (n2 : kl ≠ p) : PlanAt H' l kl rl P := by
  obtain ⟨u, hp⟩ := hP.at
  obtain ⟨a, ⟨vs, e, f⟩, ⟨kvs, g, i⟩⟩ := h
  exact ⟨b _ _ a n1, ⟨vs, b _ _ e n2, f.mono (hP.tups b)⟩, ⟨kvs, b _ _ g (ne_of g hp (fun z => nomatch z)), i.mono (hP.tups b)⟩⟩
theorem ixN_at {n j : Nat} (hj : j < n) : ixN n (j : Int) = some j := by
  unfold ixN
  rw [if_pos (by omega), if_pos (by omega)]
  simp
theorem seqIx {n k : Nat} (h : k < n) : seqIndex? (k : Int) n = some k := (ixN_seq (ixN_at h)).1
theorem erase_perm {α : Type} : ∀ (l : List α) (k : Nat) (h : k < l.length), (l[k] :: l.eraseIdx k).Perm l
  | x :: r, 0, _ => List.Perm.refl _
  | x :: r, k + 1, h => (List.Perm.swap x (r[k]'(Nat.lt_of_succ_lt_succ h)) _).trans (List.Perm.cons x (erase_perm r k (Nat.lt_of_succ_lt_succ h)))
theorem erase_map {α β : Type} (f : α → β) : ∀ (l : List α) (k : Nat), (l.map f).eraseIdx k = (l.eraseIdx k).map f
  | [], k => by cases k <;> rfl
  | x :: r, 0 => rfl
  | x :: r, k + 1 => by simp only [List.map_cons, List.eraseIdx_cons_succ, erase_map f r k]
def sp_law_some_sources : Sp := fun vs H Q _ => ∃ (p c : Addr) (h m : Int) (t : Key), vs = [.ref p, .int h, kV t, .int m] ∧ Pen H p c ∧ 0 ≤ h ∧ h ≤ 3 ∧ 0 ≤ m ∧ m ≤ 3 ∧ TestOk h t ∧
  ∀ v H', Keep p H H' → Pen H' p c → (v = .non ∨ ∃ a ks, v = .ref a ∧ H' a = some (.tup (ks.map kV)) ∧ SrcOk h t m ks) → Q v H'
def pick (rs fs : List Key) (h : Int) (t : Key) : Prop := (rs ++ fs).Nodup ∧ ∀ k ∈ rs ++ fs, SrcAt h t k
theorem pick_step {rs fs : List Key} {h : Int} {t : Key} (hp : pick rs fs h t) {k : Nat} (hk : k < rs.length) : pick (rs.eraseIdx k) (fs ++ [rs[k]]) h t := by
  have e : (rs.eraseIdx k ++ (fs ++ [rs[k]])).Perm (rs ++ fs) := by
    have e1 : (rs.eraseIdx k ++ (fs ++ [rs[k]])).Perm ((fs ++ [rs[k]]) ++ rs.eraseIdx k) := List.perm_append_comm
    have e2 : ((fs ++ [rs[k]]) ++ rs.eraseIdx k) = fs ++ (rs[k] :: rs.eraseIdx k) := by rw [List.append_assoc]; rfl
    have e3 : (rs[k] :: rs.eraseIdx k).Perm rs := erase_perm rs k hk
    rw [e2] at e1
    exact e1.trans ((List.Perm.append_left fs e3).trans List.perm_append_comm)
  exact ⟨e.nodup_iff.mpr hp.1, fun x hx => hp.2 x (e.mem_iff.mp hx)⟩
theorem rgV_keys {h : Int} : rgV 0 h = ((List.range h.toNat).map fun i : Nat => (Sum.inl (i : Int) : Key)).map kV := by
  unfold rgV
  rw [List.map_map]
  simp only [Int.sub_zero]
  refine List.map_congr_left fun i _ => ?_
  show V.int (0 + (i : Int)) = V.int i
  rw [Int.zero_add]
theorem pick_rg {h : Int} {t : Key} (h0 : 0 ≤ h) : pick ((List.range h.toNat).map fun i : Nat => (Sum.inl (i : Int) : Key)) [] h t := by
  refine ⟨?_, fun k hk => ?_⟩
  · rw [List.append_nil]
    refine List.Pairwise.map _ (fun a b hab e => ?_) List.nodup_range
    have := Sum.inl.inj e
    omega
  · rw [List.append_nil] at hk
    obtain ⟨i, hi, rfl⟩ := List.mem_map.mp hk
    have := List.mem_range.mp hi
    exact .inl ⟨i, rfl, by omega, by omega⟩
theorem map_set_erase {rs : List Key} (k : Nat) : (rs.map kV).eraseIdx k = (rs.eraseIdx k).map kV := erase_map _ _ _
section
variable {P : Program} {w : World} {K : PySem.W.Frag} {mg : Str → Option Value} {base : Heap}
theorem G_law_draw (T : Tx K mg) : FnG P w K mg base CX0 2 T.law_draw.f T.law_draw.fd ["pen", "many"] sp_law_draw := ok_law_draw T.law_draw.F T.law_fresh.F T.law_fresh.b T.law_fresh.g T.m_len T.m_range
theorem G_law_pen (T : Tx K mg) : FnG P w K mg base CX0 1 T.law_pen.f T.law_pen.fd ["script"] (sp_law_pen K) := ok_law_pen T.law_pen.F T.m_list
end

/-! ### rules in order -/
def lookR (R : Rows) (k : List Key) : PyData := ((R.find? fun p => decide (p.1 = k)).map (·.2)).getD .none
def rankK : List Key → List Int
  | [Sum.inl i, Sum.inl j, Sum.inl r] => [i, j, r]
  | [Sum.inl i, Sum.inl j, Sum.inr _] => [i, j, 3]
  | _ => [0, 0, 0]
theorem rankK_cons (k : List Key) : ∃ x r, rankK k = x :: r := by
  unfold rankK
  split <;> exact ⟨_, _, rfl⟩
theorem rankK_len (k : List Key) : (rankK k).length = 3 := by
  unfold rankK
  split <;> rfl
def sortR (R : Rows) : Rows := (srt rankK (R.map (·.1))).map fun k => (k, lookR R k)
theorem KvD.val {H : Hp} {kvs : List (List Key × V)} {R : Rows} {k : List Key} (h : KvD H kvs R) (hk : k ∈ R.map (·.1)) : ∃ v, valV kvs k = some v ∧ TD H v (lookR R k) := by
  induction h with
  | nil => cases hk
  | @cons a b l1 l2 ab _ ih =>
    unfold valV lookR
    by_cases e : a.1 = k
    · have e2 : b.1 = k := ab.1 ▸ e
      refine ⟨a.2, ?_, ?_⟩
      · rw [List.find?_cons_of_pos (by simpa using e)]
        rfl
      · rw [List.find?_cons_of_pos (by simpa using e2)]
        exact ab.2
    · have e2 : ¬ b.1 = k := ab.1 ▸ e
      rw [List.find?_cons_of_neg (by simpa using e), List.find?_cons_of_neg (by simpa using e2)]
      refine ih ?_
      rcases List.mem_cons.mp hk with z | z
      · exact absurd z.symm e2
      · exact z
theorem kvd_of {H : Hp} {kvs : List (List Key × V)} {R : Rows} (h : KvD H kvs R) : ∀ {ks : List (List Key)}, (∀ k ∈ ks, k ∈ R.map (·.1)) → KvD H (ks.map fun k => (k, (valV kvs k).getD .non)) (ks.map fun k => (k, lookR R k))
  | [], _ => .nil
  | k :: r, hk => by
    obtain ⟨v, e, t⟩ := h.val (hk k List.mem_cons_self)
    refine .cons ⟨rfl, ?_⟩ (kvd_of h fun x hx => hk x (List.mem_cons_of_mem _ hx))
    show TD H ((valV kvs k).getD .non) _
    rw [e]
    exact t
theorem srt_mem {rank : List Key → List Int} {ks : List (List Key)} {k : List Key} : k ∈ srt rank ks ↔ k ∈ ks := (List.mergeSort_perm ks _).mem_iff
theorem srt_nodup {rank : List Key → List Int} {ks : List (List Key)} (h : ks.Nodup) : (srt rank ks).Nodup := (List.mergeSort_perm ks _).nodup_iff.mpr h
theorem srt_len {rank : List Key → List Int} {ks : List (List Key)} : (srt rank ks).length = ks.length := (List.mergeSort_perm ks _).length_eq
theorem isKs_at {H : Hp} {ks : List (List Key)} {bs : List Addr} (h : IsKs H ks bs) : ∀ {i : Nat} {b : Addr}, bs[i]? = some b → ∃ k, ks[i]? = some k ∧ H b = some (.tup (k.map kV)) := by
  induction h with
  | nil => intro i b e; simp at e
  | cons a _ ih =>
    intro i b e
    cases i with
    | zero =>
      simp at e
      subst e
      exact ⟨_, rfl, a⟩
    | succ i =>
      obtain ⟨k, h1, h2⟩ := ih (i := i) (b := b) (by simpa using e)
      exact ⟨k, by simpa using h1, h2⟩
theorem valV_map_none {f : List Key → V} {ks : List (List Key)} {k : List Key} (h : k ∉ ks) : valV (ks.map fun k => (k, f k)) k = none := by
  unfold valV
  rw [List.find?_eq_none.mpr]
  · rfl
  · intro x hx
    obtain ⟨y, hy, rfl⟩ := List.mem_map.mp hx
    simp only [decide_eq_true_eq]
    rintro rfl
    exact h hy
/-- a watcher is asked -/
def sp_W_len (C : Addr) : Sp := fun us H Q _ => ∃ (x lv lh d : Addr) (n : Int) (vs hs : List Int) (R : Rows), us = [.ref x] ∧ WAt C H x lv lh d n vs hs R ∧ Q (.int vs.length) H
def sp_W_ver (C : Addr) : Sp := fun us H Q _ => ∃ (x lv lh d : Addr) (n : Int) (vs hs : List Int) (R : Rows), us = [.ref x] ∧ WAt C H x lv lh d n vs hs R ∧ ∀ t, H t = none → Q (.ref t) (upd H t (.tup (vs.map V.int)))
def sp_W_hel (C : Addr) : Sp := fun us H Q _ => ∃ (x lv lh d : Addr) (n : Int) (vs hs : List Int) (R : Rows), us = [.ref x] ∧ WAt C H x lv lh d n vs hs R ∧ ∀ t, H t = none → Q (.ref t) (upd H t (.tup (hs.map V.int)))
def sp_W_rules (C : Addr) : Sp := fun us H Q _ => ∃ (x lv lh d : Addr) (n : Int) (vs hs : List Int) (R : Rows), us = [.ref x] ∧ WAt C H x lv lh d n vs hs R ∧
  ∀ t H' kvs, Same H H' → H t = none → H' t = some (.dT kvs) → KvD H' kvs (sortR R) → Q (.ref t) H'

theorem kf_of {X : Cx} {f : Addr} {fd : FuncData} (F : Fun X.K "rule_order" "rule_order" s_rule_order f fd) (b : ∀ (s : Shared) (v : Value), BindsTo s fd ⟨[v], []⟩ [("rule", v)]) (pk : PartOk X.K X.mg) : KeyFn X f rankK RK := by
  refine ⟨fun s A a its k kin ns nl dp hd hk hv it => ?_, rankK_cons, fun a b => by rw [rankK_len, rankK_len]⟩
  obtain ⟨i, j, t, rfl, ht⟩ := hk
  obtain ⟨u0, us, rfl, r0, hv⟩ : ∃ u0 us, its = u0 :: us ∧ RelV (.int i) u0 ∧ Vals [.int j, kV t] us := by
    cases hv with
    | cons r rr => exact ⟨_, _, rfl, r, rr⟩
  obtain ⟨u1, u2, rfl, r1, r2⟩ := vals2 hv
  obtain ⟨t0, rfl⟩ := r0
  obtain ⟨t1, rfl⟩ := r1
  rcases ht with ⟨r, rfl⟩ | rfl
  · obtain ⟨t2, rfl⟩ := r2
    exact order_key F b pk kin ns nl dp hd it (.inl ⟨t2, rfl⟩)
  · obtain ⟨t2, rfl⟩ := r2
    exact order_key F b pk kin ns nl dp hd it (.inr ⟨⟨t2, rfl⟩, rfl⟩)

section
variable {P : Program} {w : World} {K : PySem.W.Frag} {mg : Str → Option Value} {base : Heap}
abbrev N_Watcher_rules : List Str := ["self", "rule"]
theorem sc_Watcher_rules : FnScope N_Watcher_rules ["self"] (defScope s_Watcher_rules) := ⟨rfl, rfl, rfl, by decide +kernel, rfl, by decide +kernel, by decide +kernel⟩
theorem ok_Watcher_rules {f C f_rule_order : Addr} {fd fd_rule_order : FuncData} (F : Fun K "rules" "Watcher.rules" s_Watcher_rules f fd) (F_rule_order : Fun K "rule_order" "rule_order" s_rule_order f_rule_order fd_rule_order) (b_rule_order : ∀ (s : Shared) (v : Value), BindsTo s fd_rule_order ⟨[v], []⟩ [("rule", v)])
    (g_rule_order : mg "rule_order" = some (.ref f_rule_order)) (pk : PartOk K mg) (W : WCls K C) (m_sorted : mg "sorted" = none) : FnG P w K mg base CX0 2 f fd ["self"] (sp_W_rules C) := by
  refine okG F sc_Watcher_rules (fun vs H Q E h => ?_) (fun cdv A outer s H vs Q E gd hr h => ?_)
  · obtain ⟨x, lv, lh, d, n, vs, hs, R, rfl, _⟩ := h
    rfl
  · obtain ⟨x, lv, lh, d, n, vs, hs, R, rfl, hW, q⟩ := h
    have KF : KeyFn (cxOf CX0 P w K mg base N_Watcher_rules "Watcher.rules" (defScope s_Watcher_rules) f cdv A outer s H E).nox f_rule_order rankK RK := kf_of F_rule_order b_rule_order pk
    refine ⟨_, 
      (pss_one (ps_ret (pe_dcT (own := [("rule", 1)]) (g := gName 1) rfl sc_Watcher_rules.nd (hu_of hr) (pi_list (pe_callBK (call_sortT rfl hr KF) (by rfl) m_sorted PyProof.Rows.boot_sorted (pa_cons (pe_fld (pv 0) rfl) pa_nil) (pk_cons (pe_glob (v := .ref f_rule_order) rfl g_rule_order rfl) pk_nil))) (blkOk_by (N := N_Watcher_rules) (sc := defScope s_Watcher_rules) (by decide +kernel)) (fun _ _ _ _ _ => (pg_name (i := 1) sc_Watcher_rules.nd rfl (.inl rfl))) (fun _ _ _ _ _ => pts_nil) (fun _ _ _ _ _ => (pv 1)) (fun _ _ _ _ _ => (show PE _ _ (tDGet (tFld K (tVar 0) "_rules") (tVar 1)) from (pe_dget (hu_of hr) (pe_fld (pv 0) rfl) (pv 1) (fun _ _ => rfl))))))) -- return {rule: self._rules[rule] for rule in sorted(self._rules, key=rule_order)}
       , ?_⟩
    obtain ⟨dx, hx⟩ := hW.ins
    obtain ⟨kvs, hd, hkv⟩ := hW.rul
    have ek := hkv.keys
    refine ⟨.ref x, rfl, x, C, dx, _, .ref d, rfl, hx, W.cl, W.n4, rfl, d, kvs, rfl, rfl, hd, by rw [ek]; exact hW.rk, fun p bs np isk => ?_⟩
    rw [ek] at isk
    refine ⟨p, rfl, ⟨_, SqL.of upd_same⟩, fun D nD => ?_⟩
    have sp_ : Same H (upd H p (.lst (bs.map V.ref))) := same_new np
    have hp0 : upd H p (.lst (bs.map V.ref)) p = some (.lst (bs.map V.ref)) := upd_same
    have nDH := sp_.free nD
    generalize upd H p (.lst (bs.map V.ref)) = H0 at sp_ hp0 nD
    have nds := srt_nodup (rank := rankK) hW.nd
    have lk : (srt rankK (R.map (·.1))).length ≤ 1000 := by rw [srt_len, List.length_map]; exact hW.len.2.2
    refine dcT_list (K := K) (a := p) (xs := bs.map V.ref) (fun i H' => Same H0 H' ∧ H' D = some (.dT (((srt rankK (R.map (·.1))).take i).map fun k => (k, (valV kvs k).getD .non)))) ?_ ?_ ?_ ?_
    · exact ⟨same_new nD, upd_same⟩
    · rintro i H' ⟨sm, hD⟩
      exact SqL.of (sm _ _ hp0)
    · rintro i y H' hi ⟨sm, hD⟩
      rw [List.getElem?_map] at hi
      obtain ⟨b, hb, rfl⟩ := Option.map_eq_some_iff.mp hi
      obtain ⟨k, ek2, hbk⟩ := isKs_at isk hb
      have hkR : k ∈ R.map (·.1) := srt_mem.mp (List.mem_of_getElem? ek2)
      obtain ⟨v, ev, tv⟩ := hkv.val hkR
      have hb' := sm _ _ (sp_ _ _ hbk)
      refine ⟨rfl, .ref b, rfl, .ref x, rfl, x, C, dx, _, .ref d, rfl, sm _ _ (sp_ _ _ hx), W.cl, W.n4, rfl, .ref b, rfl, d, v, rfl, ?_, ?_⟩
      · have g := DGet.t (k := k) (sm _ _ (sp_ _ _ hd)) hb'
        rw [ev] at g
        exact g
      · have kn : k ∉ (srt rankK (R.map (·.1))).take i := by
          intro z
          obtain ⟨j, hj, e⟩ := List.getElem_of_mem z
          rw [List.length_take] at hj
          rw [List.getElem_take] at e
          have hii := (List.getElem?_eq_some_iff.mp ek2).1
          have e2 := (List.getElem?_eq_some_iff.mp ek2).2
          exact absurd (e.trans e2.symm) (List.pairwise_iff_getElem.mp nds j i (by omega) hii (by omega))
        refine ⟨_, k, b, rfl, hb', hD, by rw [List.length_map, List.length_take]; exact small1000 (by omega), fun c o e => ?_, ?_⟩
        · have : c ≠ D := ne_of_none e nD
          rw [upd_ne this]
          exact sm _ _ e
        · rw [upd_same, putK_new _ (valV_map_none kn), List.take_add_one, ek2, List.map_append]
          show some (HO.dT (_ ++ [(k, v)])) = some (HO.dT (_ ++ [(k, (valV kvs k).getD .non)]))
          rw [ev]
          rfl
    · rintro H' ⟨sm, hD⟩
      have lb : (bs.map V.ref).length = (srt rankK (R.map (·.1))).length := by rw [List.length_map]; exact (Paired.length isk).symm
      rw [lb, List.take_length] at hD
      refine q D H' _ (fun b o e => sm _ _ (sp_ _ _ e)) nDH hD ?_
      exact kvd_of (KvD.mono (Tups.same fun b o e => sm _ _ (sp_ _ _ e)) hkv) fun k hk => srt_mem.mp hk
end

/-! ### the parts of rules; states are added -/
theorem passNo {X : Cx} : Passes (L2.CX X.prog X.w) X fun _ _ _ => False := L2.passes_call (W := fun _ _ _ _ => False) L2.takes_none5 (fun _ _ _ _ h => h)
def sp_require_verdict (C : Addr) : Sp := fun us H Q E => ∃ (p : Addr) (v : V) (d : PyData), us = [v] ∧ LD p H v d ∧ (btw d 0 3 = true → Q .non H) ∧ (btw d 0 3 = false → ∀ e, H e = none → E (.ref C) (some e) (upd H e (.xd [(("verdict" : Str), v)])))
def sp_require_state (C CU : Addr) : Sp := fun us H Q E => ∃ (x lv lh d : Addr) (n : Int) (vs hs : List Int) (R : Rows) (p : Addr) (v : V) (dd : PyData), us = [.ref x, v] ∧ WAt C H x lv lh d n vs hs R ∧ LD p H v dd ∧
  (btw dd 0 ((vs.length : Int) - 1) = true → Q .non H) ∧ (btw dd 0 ((vs.length : Int) - 1) = false → ∀ e, H e = none → E (.ref CU) (some e) (upd H e (.xd [(("state" : Str), v)])))
def isTest (d : PyData) (h : Int) : Bool := isStrD d "new" || btw d 0 (h - 1)
def sp_is_test : Sp := fun us H Q _ => ∃ (p : Addr) (v : V) (d : PyData) (h : Int), us = [v, .int h] ∧ LD p H v d ∧ isDctD d = false ∧ Q (.bl (isTest d h)) H
def sp_no_sources : Sp := fun us H Q _ => ∃ (a : Addr) (wn h : Int) (t : V), us = [.ref a, .int wn, .int h, t] ∧ H a = some (.tup []) ∧ Q (.bl (decide (wn = 0))) H
def sp_add_state (C CV CL : Addr) : Sp := fun us H Q E => ∃ (x lv lh d : Addr) (n : Int) (vs hs : List Int) (R : Rows) (p : Addr) (v1 v2 : V) (d1 d2 : PyData), us = [.ref x, v1, v2] ∧ WAt C H x lv lh d n vs hs R ∧ LD p H v1 d1 ∧ LD p H v2 d2 ∧
  (btw d1 0 3 = false → ∀ e, H e = none → E (.ref CV) (some e) (upd H e (.xd [(("verdict" : Str), v1)]))) ∧
  (btw d1 0 3 = true → btw d2 0 3 = false → ∀ e, H e = none → E (.ref CL) (some e) (upd H e (.xd [(("limit" : Str), .int 3)]))) ∧
  (btw d1 0 3 = true → btw d2 0 3 = true → vs.length = 6 → ∀ e, H e = none → E (.ref CL) (some e) (upd H e (.xd [(("limit" : Str), .int 6)]))) ∧
  (∀ a b, d1 = .int a → d2 = .int b → btw d1 0 3 = true → btw d2 0 3 = true → vs.length < 6 → ∀ H', (∀ c o, H c = some o → c ≠ lv → c ≠ lh → H' c = some o) → WAt C H' x lv lh d n (vs ++ [a]) (hs ++ [b]) R → Q (.int vs.length) H')

section
variable {P : Program} {w : World} {K : PySem.W.Frag} {mg : Str → Option Value} {base : Heap}
abbrev N_require_verdict : List Str := ["verdict"]
theorem sc_require_verdict : FnScope N_require_verdict ["verdict"] (defScope s_require_verdict) := ⟨rfl, rfl, rfl, by decide +kernel, rfl, by decide +kernel, by decide +kernel⟩
theorem ok_require_verdict {f f_is_between C iC : Addr} {fd fd_is_between : FuncData} {t3 : Tok} (F : Fun K "require_verdict" "require_verdict" s_require_verdict f fd) (F_is_between : Fun K "is_between" "is_between" s_is_between f_is_between fd_is_between) (b_is_between : Binds K fd_is_between ["value", "low", "high"] [])
    (g_is_between : mg "is_between" = some (.ref f_is_between)) (G_is_between : FnG P w K mg base CX0 2 f_is_between fd_is_between ["value", "low", "high"] sp_is_between) (T_NotAVerdict : L2.ErrOk OwnE.bVE "NotAVerdict" "verdict" "NotAVerdict.__init__" K mg C iC) (g_MOST_VERDICT : mg "MOST_VERDICT" = some (.int 3 t3)) :
    FnG P w K mg base (L2.CX P w) 3 f fd ["verdict"] (sp_require_verdict C) := by
  refine okGX F sc_require_verdict (fun vs H Q E h => ?_) (fun cdv A outer s H vs Q E gd hr h => ?_)
  · obtain ⟨p, v, d, rfl, _⟩ := h
    rfl
  · obtain ⟨p, v, d, rfl, hv, q1, q2⟩ := h
    have hr1 : Room 1 _ := hr.mono (by decide)
    refine ⟨_, 
      (pss_one (ps_if (pt_not (pt_val (pe_callG G_is_between gd (hr.mono (by decide)) rfl g_is_between F_is_between.kp b_is_between .nil pass0 (pa_cons (pv 0) (pa_cons pe_int (pa_cons (pe_glob (v := .int 3) rfl g_MOST_VERDICT ⟨_, rfl⟩) pa_nil)))))) 
        (pss_one (L2.ps_raiseE (W := fun cls d _ H => E cls d H) rfl T_NotAVerdict hr1 (takes_of rfl rfl rfl rfl) (by exact (pa_cons (pv 0) pa_nil)))) -- raise NotAVerdict(verdict)
         pss_nil)) -- if not is_between(verdict, 0, MOST_VERDICT):
       , ?_⟩
    refine ⟨v, rfl, p, v, d, 0, 3, rfl, hv, _, rfl, ?_⟩
    cases hb : btw d 0 3 with
    | false => exact ⟨v, rfl, v, rfl, fun e he => q2 hb e he⟩
    | true => exact q1 hb
end

section
variable {P : Program} {w : World} {K : PySem.W.Frag} {mg : Str → Option Value} {base : Heap}
abbrev N_Watcher_require_state : List Str := ["self", "state"]
theorem sc_Watcher_require_state : FnScope N_Watcher_require_state ["self", "state"] (defScope s_Watcher_require_state) := ⟨rfl, rfl, rfl, by decide +kernel, rfl, by decide +kernel, by decide +kernel⟩
theorem ok_require_state {f f_is_between C CU iU : Addr} {fd fd_is_between : FuncData} (F : Fun K "require_state" "Watcher.require_state" s_Watcher_require_state f fd) (F_is_between : Fun K "is_between" "is_between" s_is_between f_is_between fd_is_between) (b_is_between : Binds K fd_is_between ["value", "low", "high"] [])
    (g_is_between : mg "is_between" = some (.ref f_is_between)) (G_is_between : FnG P w K mg base CX0 2 f_is_between fd_is_between ["value", "low", "high"] sp_is_between) (T_UnknownState : L2.ErrOk OwnE.bLE "UnknownState" "state" "UnknownState.__init__" K mg CU iU) (W : WCls K C) (m_len : mg "len" = none) :
    FnG P w K mg base (L2.CX P w) 3 f fd ["self", "state"] (sp_require_state C CU) := by
  refine okGX F sc_Watcher_require_state (fun vs H Q E h => ?_) (fun cdv A outer s H vs Q E gd hr h => ?_)
  · obtain ⟨x, lv, lh, d, n, vs, hs, R, p, v, dd, rfl, _⟩ := h
    rfl
  · obtain ⟨x, lv, lh, d, n, vs, hs, R, p, v, dd, rfl, hW, hv, q1, q2⟩ := h
    have hr1 : Room 1 _ := hr.mono (by decide)
    refine ⟨_, 
      (pss_one (ps_if (pt_not (pt_val (pe_callG G_is_between gd (hr.mono (by decide)) rfl g_is_between F_is_between.kp b_is_between .nil pass0 (pa_cons (pv 1) (pa_cons pe_int (pa_cons (pe_op op_sub (pe_callB call_len_seq (by rfl) m_len PySem.boot_len (pa_cons (pe_fld (pv 0) rfl) pa_nil)) pe_int) pa_nil)))))) 
        (pss_one (L2.ps_raiseE (W := fun cls d _ H => E cls d H) rfl T_UnknownState hr1 (takes_of rfl rfl rfl rfl) (by exact (pa_cons (pv 1) pa_nil)))) -- raise UnknownState(state)
         pss_nil)) -- if not is_between(state, 0, len(self._verdicts) - 1):
       , ?_⟩
    obtain ⟨dx, hx⟩ := hW.ins
    refine ⟨v, rfl, .ref x, rfl, x, C, dx, _, .ref lv, rfl, hx, W.cl, W.n2, rfl, lv, _, rfl, .inl (SqL.of hW.ver), _, 1, rfl, rfl, p, v, dd, 0, _, rfl, hv, _, rfl, ?_⟩
    rw [List.length_map]
    cases hb : btw dd 0 ((vs.length : Int) - 1) with
    | false => exact ⟨v, rfl, v, rfl, fun e he => q2 hb e he⟩
    | true => exact q1 hb
end

section
variable {P : Program} {w : World} {K : PySem.W.Frag} {mg : Str → Option Value} {base : Heap}
abbrev N_is_test : List Str := ["test", "held"]
theorem sc_is_test : FnScope N_is_test ["test", "held"] (defScope s_is_test) := ⟨rfl, rfl, rfl, by decide +kernel, rfl, by decide +kernel, by decide +kernel⟩
theorem ok_is_test {f f_is_between : Addr} {fd fd_is_between : FuncData} {tN : Tok} (F : Fun K "is_test" "is_test" s_is_test f fd) (F_is_between : Fun K "is_between" "is_between" s_is_between f_is_between fd_is_between) (b_is_between : Binds K fd_is_between ["value", "low", "high"] [])
    (g_is_between : mg "is_between" = some (.ref f_is_between)) (G_is_between : FnG P w K mg base CX0 2 f_is_between fd_is_between ["value", "low", "high"] sp_is_between) (g_NEW : mg "NEW" = some (.str "new" tN)) : FnG P w K mg base CX0 3 f fd ["test", "held"] sp_is_test := by
  refine okG F sc_is_test (fun vs H Q E h => ?_) (fun cdv A outer s H vs Q E gd hr h => ?_)
  · obtain ⟨p, v, d, h', rfl, _⟩ := h
    rfl
  · obtain ⟨p, v, d, h', rfl, hv, nd, q⟩ := h
    refine ⟨_, 
      (pss_one (ps_ret (pe_or (pe_cmpR (op_eqS hr.units) (pv 0) (pe_glob (v := .str "new") rfl g_NEW ⟨_, rfl⟩) (nomark _)) (pe_one (pe_callG G_is_between gd (hr.mono (by decide)) rfl g_is_between F_is_between.kp b_is_between .nil pass0 (pa_cons (pv 0) (pa_cons pe_int (pa_cons (pe_op op_sub (pv 1) pe_int) pa_nil)))))))) -- return test == NEW or is_between(test, 0, held - 1)
       , ?_⟩
    refine ⟨v, rfl, p, d, "new", hv, nd, rfl, _, rfl, ?_⟩
    unfold isTest at q
    cases hb : isStrD d "new" with
    | true =>
      rw [hb] at q
      exact q
    | false =>
      rw [hb] at q
      exact ⟨v, rfl, .int h', rfl, h', 1, rfl, rfl, p, v, d, 0, h' - 1, rfl, hv, q⟩
end

section
variable {P : Program} {w : World} {K : PySem.W.Frag} {mg : Str → Option Value} {base : Heap}
abbrev N_Watcher_add_state : List Str := ["self", "verdict", "held"]
theorem sc_Watcher_add_state : FnScope N_Watcher_add_state ["self", "verdict", "held"] (defScope s_Watcher_add_state) := ⟨rfl, rfl, rfl, by decide +kernel, rfl, by decide +kernel, by decide +kernel⟩
theorem ok_Watcher_add_state {f f_is_between f_require_verdict C CV CL iL : Addr} {fd fd_is_between fd_require_verdict : FuncData} {t3 t6 : Tok} (F : Fun K "add_state" "Watcher.add_state" s_Watcher_add_state f fd) (F_is_between : Fun K "is_between" "is_between" s_is_between f_is_between fd_is_between) (b_is_between : Binds K fd_is_between ["value", "low", "high"] [])
    (g_is_between : mg "is_between" = some (.ref f_is_between)) (G_is_between : FnG P w K mg base CX0 2 f_is_between fd_is_between ["value", "low", "high"] sp_is_between) (F_require_verdict : Fun K "require_verdict" "require_verdict" s_require_verdict f_require_verdict fd_require_verdict) (b_require_verdict : Binds K fd_require_verdict ["verdict"] [])
    (g_require_verdict : mg "require_verdict" = some (.ref f_require_verdict)) (G_require_verdict : FnG P w K mg base (L2.CX P w) 3 f_require_verdict fd_require_verdict ["verdict"] (sp_require_verdict CV)) (T_LimitExceeded : L2.ErrOk OwnE.bOE "LimitExceeded" "limit" "LimitExceeded.__init__" K mg CL iL)
    (g_MOST_HELD : mg "MOST_HELD" = some (.int 3 t3)) (g_MOST_STATES : mg "MOST_STATES" = some (.int 6 t6)) (W : WCls K C) (m_len : mg "len" = none) : FnG P w K mg base (L2.CX P w) 4 f fd ["self", "verdict", "held"] (sp_add_state C CV CL) := by
  refine okGX F sc_Watcher_add_state (fun vs H Q E h => ?_) (fun cdv A outer s H vs Q E gd hr h => ?_)
  · obtain ⟨x, lv, lh, d, n, vs, hs, R, p, v1, v2, d1, d2, rfl, _⟩ := h
    rfl
  · obtain ⟨x, lv, lh, d, n, vs, hs, R, p, v1, v2, d1, d2, rfl, hW, h1, h2, q1, q2, q3, q4⟩ := h
    have hr1 : Room 1 _ := hr.mono (by decide)
    refine ⟨_, 
      (pss_cons (ps_expr (pe_callG G_require_verdict gd (hr.mono (by decide)) rfl g_require_verdict F_require_verdict.kp b_require_verdict .nil (L2.passes_call (W := fun cls d _ H => E cls d H) (takes_of rfl rfl rfl rfl) (fun _ _ _ _ h => h)) (pa_cons (pv 1) pa_nil))) -- require_verdict(verdict)
      (pss_cons (ps_if (pt_not (pt_val (pe_callG G_is_between gd (hr.mono (by decide)) rfl g_is_between F_is_between.kp b_is_between .nil pass0 (pa_cons (pv 2) (pa_cons pe_int (pa_cons (pe_glob (v := .int 3) rfl g_MOST_HELD ⟨_, rfl⟩) pa_nil)))))) 
        (pss_one (L2.ps_raiseE (W := fun cls d _ H => E cls d H) rfl T_LimitExceeded hr1 (takes_of rfl rfl rfl rfl) (by exact (pa_cons (pe_glob (v := .int 3) rfl g_MOST_HELD ⟨_, rfl⟩) pa_nil)))) -- raise LimitExceeded(MOST_HELD)
         pss_nil) -- if not is_between(held, 0, MOST_HELD):
      (pss_cons (ps_if (pt_cmpR op_eq (pe_callB call_len_seq (by rfl) m_len PySem.boot_len (pa_cons (pe_fld (pv 0) rfl) pa_nil)) (pe_glob (v := .int 6) rfl g_MOST_STATES ⟨_, rfl⟩) (nomark _)) 
        (pss_one (L2.ps_raiseE (W := fun cls d _ H => E cls d H) rfl T_LimitExceeded hr1 (takes_of rfl rfl rfl rfl) (by exact (pa_cons (pe_glob (v := .int 6) rfl g_MOST_STATES ⟨_, rfl⟩) pa_nil)))) -- raise LimitExceeded(MOST_STATES)
         pss_nil) -- if len(self._verdicts) == MOST_STATES:
      (pss_cons (ps_expr (pe_bm PySem.F.plainAttrs_list PySem.F.slot_list_append PySem.F.type_list_append mt_append (pe_fld (pv 0) rfl) (pa_cons (pv 1) pa_nil))) -- self._verdicts.append(verdict)
      (pss_cons (ps_expr (pe_bm PySem.F.plainAttrs_list PySem.F.slot_list_append PySem.F.type_list_append mt_append (pe_fld (pv 0) rfl) (pa_cons (pv 2) pa_nil))) -- self._held.append(held)
      (pss_one (ps_ret (pe_op op_sub (pe_callB call_len_seq (by rfl) m_len PySem.boot_len (pa_cons (pe_fld (pv 0) rfl) pa_nil)) pe_int))) -- return len(self._verdicts) - 1
      ))))) , ?_⟩
    obtain ⟨dx, hx⟩ := hW.ins
    have hv := hW.ver
    have hh := hW.hel
    have ne := hW.ne
    have ll := hW.len
    refine ⟨v1, rfl, p, v1, d1, rfl, h1, fun o1 => ?_, q1⟩
    refine ⟨v2, rfl, p, v2, d2, 0, 3, rfl, h2, _, rfl, ?_⟩
    cases hb : btw d2 0 3 with
    | false => exact ⟨.int 3, rfl, fun e he => q2 o1 hb e he⟩
    | true =>
      refine ⟨.ref x, rfl, x, C, dx, _, .ref lv, rfl, hx, W.cl, W.n2, rfl, lv, _, rfl, .inl (SqL.of hv), rfl, _, rfl, ?_⟩
      rw [List.length_map]
      by_cases h6 : vs.length = 6
      · rw [h6]
        exact ⟨.int 6, rfl, fun e he => q3 o1 hb h6 e he⟩
      · have h6' : ¬ (V.int ((vs.length : Nat) : Int)) = V.int 6 := fun z => h6 (by have := V.int.inj z; omega)
        rw [decide_eq_false h6']
        obtain ⟨a, rfl, _⟩ := btw_int o1
        obtain ⟨b, rfl, _⟩ := btw_int hb
        cases h1
        cases h2
        have xv : x ≠ lv := ne_of hx hv (fun z => nomatch z)
        have xh : x ≠ lh := ne_of hx hh (fun z => nomatch z)
        refine ⟨.ref x, rfl, x, C, dx, _, .ref lv, rfl, hx, W.cl, W.n2, rfl, .inl ⟨rfl, _, SqL.of hv⟩, .int a, rfl, lv, _, .int a, rfl, rfl, hv, by rw [List.length_map]; exact small1000 (by omega), ?_⟩
        have hx1 : upd H lv (.lst (vs.map V.int ++ [V.int a])) x = some (.ins C dx (wf n lv lh d)) := by rw [upd_ne xv]; exact hx
        have hh1 : upd H lv (.lst (vs.map V.int ++ [V.int a])) lh = some (.lst (hs.map V.int)) := by rw [upd_ne ne.symm]; exact hh
        refine ⟨.ref x, rfl, x, C, dx, _, .ref lh, rfl, hx1, W.cl, W.n3, rfl, .inl ⟨rfl, _, SqL.of hh1⟩, .int b, rfl, lh, _, .int b, rfl, rfl, hh1, by rw [List.length_map]; exact small1000 (by omega), ?_⟩
        have hx2 : upd (upd H lv (.lst (vs.map V.int ++ [V.int a]))) lh (.lst (hs.map V.int ++ [V.int b])) x = some (.ins C dx (wf n lv lh d)) := by rw [upd_ne xh]; exact hx1
        have hv2 : upd (upd H lv (.lst (vs.map V.int ++ [V.int a]))) lh (.lst (hs.map V.int ++ [V.int b])) lv = some (.lst (vs.map V.int ++ [V.int a])) := by rw [upd_ne ne]; exact upd_same
        refine ⟨.ref x, rfl, x, C, dx, _, .ref lv, rfl, hx2, W.cl, W.n2, rfl, lv, _, rfl, .inl (SqL.of hv2), _, 1, rfl, rfl, ?_⟩
        have el : (((vs.map V.int ++ [V.int a]).length : Nat) : Int) - 1 = (vs.length : Int) := by
          rw [List.length_append, List.length_map]
          show ((vs.length + 1 : Nat) : Int) - 1 = _
          omega
        dsimp only
        rw [el]
        obtain ⟨kvs, hd, hkv⟩ := hW.rul
        have dv : d ≠ lv := ne_of hd hv (fun z => nomatch z)
        have dh : d ≠ lh := ne_of hd hh (fun z => nomatch z)
        have tp : Tups H (upd (upd H lv (.lst (vs.map V.int ++ [V.int a]))) lh (.lst (hs.map V.int ++ [V.int b]))) := (Tups.lst hv).trans (Tups.lst hh1)
        refine q4 a b rfl rfl o1 hb (by omega) _ (fun c o e n1 n2 => ?_) { ins := ⟨dx, hx2⟩, ver := ?_, hel := ?_, rul := ⟨kvs, ?_, hkv.mono tp⟩, ne := ne, rk := hW.rk, nd := hW.nd, len := ⟨by rw [List.length_append, List.length_append, ll.1]; rfl, by rw [List.length_append]; show vs.length + 1 ≤ 6; omega, ll.2.2⟩ }
        · rw [upd_ne n2, upd_ne n1]
          exact e
        · rw [hv2, List.map_append]
          rfl
        · rw [upd_same, List.map_append]
          rfl
        · rw [upd_ne dh, upd_ne dv]
          exact hd
end

/-! ### sources, words, rules -/
theorem Tx.W {K : PySem.W.Frag} {mg : Str → Option Value} (T : Tx K mg) : WCls K T.Watcher.C := ⟨T.Watcher.cl, T.nf_Watcherwords, T.nf_Watcher_verdicts, T.nf_Watcher_held, T.nf_Watcher_rules⟩
theorem ldK {p : Addr} {H : Hp} : ∀ t : Key, LD p H (kV t) (kD t)
  | .inl n => .int n
  | .inr s => .str s
theorem kD_nd : ∀ t : Key, isDctD (kD t) = false
  | .inl _ => rfl
  | .inr _ => rfl
def isSrc (d : PyData) (h : Int) (t : Key) : Bool := if isStrD d "value" = true then isStrD (kD t) "new" else btw d 0 (h - 1)
/-- the data are sources of a rule -/
structure AreSrc (d : PyData) (wn h : Int) (t : Key) (ks : List Key) : Prop where
  d : d = .tuple (ks.map kD)
  len : (ks.length : Int) = wn
  all : ∀ k ∈ ks, isSrc (kD k) h t = true
  nd : ks.Nodup
def SmallT : PyData → Prop
  | .tuple ds => ds.length ≤ 50
  | _ => True
theorem isSrc_key {p : Addr} {H : Hp} {v : V} {d : PyData} {h : Int} {t : Key} (hv : LD p H v d) (hs : isSrc d h t = true) : ∃ k : Key, d = kD k ∧ v = kV k := by
  unfold isSrc at hs
  cases hv with
  | int i => exact ⟨.inl i, rfl, rfl⟩
  | str x => exact ⟨.inr x, rfl, rfl⟩
  | _ => cases hs
theorem srcs_of {p : Addr} {H : Hp} {h : Int} {t : Key} : ∀ {xs : List V} {ds : List PyData}, LDs p H xs ds → (∀ e ∈ ds, isSrc e h t = true) → ∃ ks : List Key, ds = ks.map kD ∧ xs = ks.map kV
  | _, _, .nil, _ => ⟨[], rfl, rfl⟩
  | _, _, .cons a r, hs => by
    obtain ⟨k, rfl, rfl⟩ := isSrc_key a (hs _ List.mem_cons_self)
    obtain ⟨ks, rfl, rfl⟩ := srcs_of r fun e he => hs e (List.mem_cons_of_mem _ he)
    exact ⟨k :: ks, rfl, rfl⟩
theorem kD_inj {a b : Key} (h : kD a = kD b) : a = b := by
  cases a <;> cases b <;> simp_all [kD]
theorem map_kD_inj : ∀ {a b : List Key}, a.map kD = b.map kD → a = b
  | [], [], _ => rfl
  | [], _ :: _, h => by cases h
  | _ :: _, [], h => by cases h
  | x :: a, y :: b, h => by
    simp only [List.map_cons, List.cons.injEq] at h
    rw [kD_inj h.1, map_kD_inj h.2]
def sp_is_source : Sp := fun us H Q _ => ∃ (p : Addr) (v : V) (d : PyData) (h : Int) (t : Key), us = [v, .int h, kV t] ∧ LD p H v d ∧ Q (.bl (isSrc d h t)) H
def sp_are_sources : Sp := fun us H Q _ => ∃ (p : Addr) (v : V) (d : PyData) (wn h : Int) (t : Key), us = [v, .int wn, .int h, kV t] ∧ LD p H v d ∧ SmallT d ∧ ((∃ ks, AreSrc d wn h t ks) → Q (.bl true) H) ∧ ((¬ ∃ ks, AreSrc d wn h t ks) → Q (.bl false) H)
def sp_require_word (C CW : Addr) : Sp := fun us H Q E => ∃ (x lv lh d : Addr) (n : Int) (vs hs : List Int) (R : Rows) (p : Addr) (v : V) (dd : PyData), us = [.ref x, v] ∧ WAt C H x lv lh d n vs hs R ∧ LD p H v dd ∧
  (btw dd 0 (n - 1) = true → Q .non H) ∧ (btw dd 0 (n - 1) = false → ∀ e, H e = none → E (.ref CW) (some e) (upd H e (.xd [(("word" : Str), v)])))
def sp_set_verdict (C CU CV : Addr) : Sp := fun us H Q E => ∃ (x lv lh d : Addr) (n : Int) (vs hs : List Int) (R : Rows) (p : Addr) (v1 v2 : V) (d1 d2 : PyData), us = [.ref x, v1, v2] ∧ WAt C H x lv lh d n vs hs R ∧ LD p H v1 d1 ∧ LD p H v2 d2 ∧
  (btw d1 0 ((vs.length : Int) - 1) = false → ∀ e, H e = none → E (.ref CU) (some e) (upd H e (.xd [(("state" : Str), v1)]))) ∧
  (btw d1 0 ((vs.length : Int) - 1) = true → btw d2 0 3 = false → ∀ e, H e = none → E (.ref CV) (some e) (upd H e (.xd [(("verdict" : Str), v2)]))) ∧
  (∀ s v : Int, d1 = .int s → d2 = .int v → 0 ≤ s → s < vs.length → 0 ≤ v → v ≤ 3 → ∀ H', (∀ c o, H c = some o → c ≠ lv → H' c = some o) → WAt C H' x lv lh d n (vs.set s.toNat v) hs R → Q .non H')
def sp_rule_for (C : Addr) : Sp := fun us H Q _ => ∃ (x lv lh d : Addr) (n : Int) (vs hs : List Int) (R : Rows) (s w : Int) (t : Key), us = [.ref x, .int s, .int w, kV t] ∧ WAt C H x lv lh d n vs hs R ∧
  ([Sum.inl s, Sum.inl w, t] ∉ R.map (·.1) → ∀ H', Same H H' → Q .non H') ∧ ([Sum.inl s, Sum.inl w, t] ∈ R.map (·.1) → ∀ v H', Same H H' → TD H' v (lookR R [Sum.inl s, Sum.inl w, t]) → Q v H')
def hAt (hs : List Int) (i : Int) : Int := (hs[i.toNat]?).getD 0
structure ErrA where
  (U W T S R : Addr)
def sp_add_rule (C : Addr) (X : ErrA) : Sp := fun us H Q E => ∃ (x lv lh d : Addr) (n : Int) (vs hs : List Int) (R : Rows) (p : Addr) (v1 v2 v3 v4 v5 : V) (d1 d2 d3 d4 d5 : PyData), us = [.ref x, v1, v2, v3, v4, v5] ∧
  WAt C H x lv lh d n vs hs R ∧ LD p H v1 d1 ∧ LD p H v2 d2 ∧ LD p H v3 d3 ∧ LD p H v4 d4 ∧ LD p H v5 d5 ∧ isDctD d3 = false ∧ SmallT d5 ∧ R.length < 1000 ∧
  (btw d1 0 ((vs.length : Int) - 1) = false → ∀ e, H e = none → E (.ref X.U) (some e) (upd H e (.xd [(("state" : Str), v1)]))) ∧
  (btw d1 0 ((vs.length : Int) - 1) = true → btw d4 0 ((vs.length : Int) - 1) = false → ∀ e, H e = none → E (.ref X.U) (some e) (upd H e (.xd [(("state" : Str), v4)]))) ∧
  (btw d1 0 ((vs.length : Int) - 1) = true → btw d4 0 ((vs.length : Int) - 1) = true → btw d2 0 (n - 1) = false → ∀ e, H e = none → E (.ref X.W) (some e) (upd H e (.xd [(("word" : Str), v2)]))) ∧
  ∀ s tg w : Int, d1 = .int s → d4 = .int tg → d2 = .int w → 0 ≤ s → s < vs.length → 0 ≤ tg → tg < vs.length → 0 ≤ w → w < n →
    (isTest d3 (hAt hs s) = false → ∀ e, H e = none → E (.ref X.T) (some e) (upd H e (.xd [(("test" : Str), v3)]))) ∧
    ∀ t : Key, v3 = kV t → d3 = kD t → isTest (kD t) (hAt hs s) = true →
      ((¬ ∃ ks, AreSrc d5 (hAt hs tg) (hAt hs s) t ks) → ∀ e, H e = none → E (.ref X.S) (some e) (upd H e (.xd [(("sources" : Str), v5)]))) ∧
      ∀ ks, AreSrc d5 (hAt hs tg) (hAt hs s) t ks →
        ([Sum.inl s, Sum.inl w, t] ∈ R.map (·.1) → ∀ T, H T = none → ∀ e, upd H T (.tup [.int s, .int w, v3]) e = none → E (.ref X.R) (some e) (upd (upd H T (.tup [.int s, .int w, v3])) e (.xd [(("rule" : Str), .ref T)]))) ∧
        ([Sum.inl s, Sum.inl w, t] ∉ R.map (·.1) → ∀ H', (∀ c o, H c = some o → c ≠ d → H' c = some o) → WAt C H' x lv lh d n vs hs (R ++ [([Sum.inl s, Sum.inl w, t], ruleD (tg, ks))]) → Q .non H')
theorem test_key' {p : Addr} {H : Hp} {v : V} {d : PyData} {h : Int} (hv : LD p H v d) (ht : isTest d h = true) : ∃ t : Key, v = kV t ∧ d = kD t ∧ ((∃ r, t = Sum.inl r) ∨ t = Sum.inr ("new" : Str)) := by
  cases hv with
  | int i => exact ⟨Sum.inl i, rfl, rfl, .inl ⟨i, rfl⟩⟩
  | str x =>
    have e : (x == ("new" : Str)) = true := by
      have z : ((x == ("new" : Str)) || false) = true := ht
      rwa [Bool.or_false] at z
    exact ⟨Sum.inr x, rfl, rfl, .inr (by rw [beq_iff_eq.mp e])⟩
  | _ => cases ht
theorem hs_at {hs : List Int} {i : Int} (h0 : 0 ≤ i) (h1 : i < hs.length) : atI (hs.map V.int) i = some (.int (hAt hs i)) := by
  obtain ⟨j, rfl⟩ : ∃ j : Nat, i = j := ⟨i.toNat, by omega⟩
  have hj : j < hs.length := by omega
  refine atI_nat ?_
  unfold hAt
  rw [Int.toNat_natCast, List.getElem?_map, List.getElem?_eq_getElem hj]
  rfl
theorem btw_true {n lo hi : Int} (h0 : lo ≤ n) (h1 : n ≤ hi) : btw (.int n) lo hi = true := by
  show (decide (lo ≤ n) && decide (n ≤ hi)) = true
  rw [decide_eq_true h0, decide_eq_true h1]
  rfl
section
variable {P : Program} {w : World} {K : PySem.W.Frag} {mg : Str → Option Value} {base : Heap}
theorem G_is_between (T : Tx K mg) : FnG P w K mg base CX0 2 T.is_between.f T.is_between.fd ["value", "low", "high"] sp_is_between := ok_is_between T.is_between.F T.is_integer.F T.is_integer.b T.is_integer.g T.m_isinstance T.m_int T.m_bool
theorem G_require_verdict (T : Tx K mg) : FnG P w K mg base (L2.CX P w) 3 T.require_verdict.f T.require_verdict.fd ["verdict"] (sp_require_verdict T.NotAVerdict.C) := ok_require_verdict T.require_verdict.F T.is_between.F T.is_between.b T.is_between.g (G_is_between T) T.NotAVerdict.e T.g_MOST_VERDICT
theorem G_Watcher_require_state (T : Tx K mg) : FnG P w K mg base (L2.CX P w) 3 T.Watcher_require_state.f T.Watcher_require_state.fd ["self", "state"] (sp_require_state T.Watcher.C T.UnknownState.C) := ok_require_state T.Watcher_require_state.F T.is_between.F T.is_between.b T.is_between.g (G_is_between T) T.UnknownState.e T.W T.m_len
theorem G_is_test (T : Tx K mg) : FnG P w K mg base CX0 3 T.is_test.f T.is_test.fd ["test", "held"] sp_is_test := ok_is_test T.is_test.F T.is_between.F T.is_between.b T.is_between.g (G_is_between T) T.g_NEW
theorem G_Watcher_add_state (T : Tx K mg) : FnG P w K mg base (L2.CX P w) 4 T.Watcher_add_state.f T.Watcher_add_state.fd ["self", "verdict", "held"] (sp_add_state T.Watcher.C T.NotAVerdict.C T.LimitExceeded.C) :=
  ok_Watcher_add_state T.Watcher_add_state.F T.is_between.F T.is_between.b T.is_between.g (G_is_between T) T.require_verdict.F T.require_verdict.b T.require_verdict.g (G_require_verdict T) T.LimitExceeded.e T.g_MOST_HELD T.g_MOST_STATES T.W T.m_len
theorem G_Watcher_init (T : Tx K mg) : FnG P w K mg base (L2.CX P w) 3 T.Watcher_init.f T.Watcher_init.fd ["self", "words"] (sp_W_init T.Watcher.C T.LimitExceeded.C) := ok_Watcher_init T.Watcher_init.F T.is_between.F T.is_between.b T.is_between.g (G_is_between T) T.LimitExceeded.e T.g_MOST_WORDS T.W
end

section
variable {P : Program} {w : World} {K : PySem.W.Frag} {mg : Str → Option Value} {base : Heap}
abbrev N_is_source : List Str := ["source", "held", "test"]
theorem sc_is_source : FnScope N_is_source ["source", "held", "test"] (defScope s_is_source) := ⟨rfl, rfl, rfl, by decide +kernel, rfl, by decide +kernel, by decide +kernel⟩
theorem G_is_source (T : Tx K mg) : FnG P w K mg base CX0 3 T.is_source.f T.is_source.fd ["source", "held", "test"] sp_is_source := by
  refine okG T.is_source.F sc_is_source (fun vs H Q E h => ?_) (fun cdv A outer s H vs Q E gd hr h => ?_)
  · obtain ⟨p, v, d, h', t, rfl, _⟩ := h
    rfl
  · obtain ⟨p, v, d, h', t, rfl, hv, q⟩ := h
    refine ⟨_, 
      (pss_cons (ps_if (pt_cmpR (op_eqS' hr.units) (pv 0) (pe_glob (v := .str "value") rfl T.g_VALUE ⟨_, rfl⟩) (nomark _)) 
        (pss_one (ps_ret (pe_cmpR (op_eqS hr.units) (pv 2) (pe_glob (v := .str "new") rfl T.g_NEW ⟨_, rfl⟩) (nomark _)))) -- return test == NEW
         pss_nil) -- if source == VALUE:
      (pss_one (ps_ret (pe_callG (G_is_between T) gd (hr.mono (by decide)) rfl T.is_between.g T.is_between.F.kp T.is_between.b .nil pass0 (pa_cons (pv 0) (pa_cons pe_int (pa_cons (pe_op op_sub (pv 1) pe_int) pa_nil)))))) -- return is_between(source, 0, held - 1)
      ) , ?_⟩
    refine ⟨v, rfl, p, d, "value", hv, rfl, _, rfl, ?_⟩
    unfold isSrc at q
    cases hb : isStrD d "value" with
    | true =>
      rw [hb, if_pos rfl] at q
      exact iteT ⟨kV t, rfl, p, kD t, "new", ldK t, kD_nd t, rfl, q⟩
    | false =>
      rw [hb, if_neg Bool.false_ne_true] at q
      exact iteF ⟨v, rfl, .int h', rfl, h', 1, rfl, rfl, p, v, d, 0, h' - 1, rfl, hv, q⟩
end

section
variable {P : Program} {w : World} {K : PySem.W.Frag} {mg : Str → Option Value} {base : Heap}
abbrev N_are_sources : List Str := ["sources", "wanted", "held", "test", "source"]
theorem sc_are_sources : FnScope N_are_sources ["sources", "wanted", "held", "test"] (defScope s_are_sources) := ⟨rfl, rfl, rfl, by decide +kernel, rfl, by decide +kernel, by decide +kernel⟩
theorem G_are_sources (T : Tx K mg) : FnG P w K mg base CX0 4 T.are_sources.f T.are_sources.fd ["sources", "wanted", "held", "test"] sp_are_sources := by
  refine okG T.are_sources.F sc_are_sources (fun vs H Q E h => ?_) (fun cdv A outer s H vs Q E gd hr h => ?_)
  · obtain ⟨p, v, d, wn, h', t, rfl, _⟩ := h
    rfl
  · obtain ⟨p, v, d, wn, h', t, rfl, hv, sm, q1, q2⟩ := h
    refine ⟨_, 
      (pss_cons (ps_if (PW.pt (pw_or (pt_not (pt_val (pe_callB (call_isL kit_tup) (by rfl) T.m_isinstance (by decide +kernel) (pa_cons (pv 0) (pa_cons (pe_bltn (v := .ty "tuple") (by rfl) T.m_tuple (by decide +kernel) (show RelV (.ty "tuple") (.type "tuple") from rfl)) pa_nil))))) (pw_or1 (pt_cmpR op_ne (pe_callB call_len_seq (by rfl) T.m_len PySem.boot_len (pa_cons (pv 0) pa_nil)) (pv 1) (nomark _))))) 
        (pss_one (ps_ret pe_bl)) -- return False
         pss_nil) -- if not isinstance(sources, tuple) or len(sources) != wanted:
      (pss_cons (ps_for PassesOwn.never rfl (pi_tup (pv 0)) (pg_name (i := 4) sc_are_sources.nd rfl (.inl rfl)) 
        (pss_one (ps_if (pt_not (pt_val (pe_callG (G_is_source T) gd (hr.mono (by decide)) rfl T.is_source.g T.is_source.F.kp T.is_source.b .nil pass0 (pa_cons (pv 4) (pa_cons (pv 2) (pa_cons (pv 3) pa_nil)))))) 
          (pss_one (ps_ret pe_bl)) -- return False
           pss_nil)) -- if not is_source(source, held, test):
        ) -- for source in sources:
      (pss_one (ps_ret (pe_cmpR op_eq (pe_lenSetM rfl (by rfl) T.m_len (by rfl) T.m_set (pv 0)) (pe_callB call_len_seq (by rfl) T.m_len PySem.boot_len (pa_cons (pv 0) pa_nil)) (nomark _)))) -- return len(set(sources)) == len(sources)
      )) , ?_⟩
    refine ⟨v, rfl, p, v, d, rfl, hv, _, rfl, ?_⟩
    cases hb : isTupD d with
    | false =>
      refine q2 ?_
      rintro ⟨ks, e⟩
      rw [e.d] at hb
      cases hb
    | true =>
      cases hv with
      | @tup a xs ds na ha hs =>
        have lx := hs.length
        refine ⟨.ref a, rfl, a, xs, rfl, .inr (SqT.of ha), .int wn, rfl, rfl, _, rfl, ?_⟩
        by_cases hw : (xs.length : Int) = wn
        · subst hw
          refine iteNS rfl ?_
          refine ⟨.ref a, rfl, a, rfl, ⟨_, SqT.of ha⟩, ?_⟩
          refine for_tup (K := K) (a := a) (xs := xs) (fun i σ H' => ∃ y, σ = [some (.ref a), some (.int (xs.length : Int)), some (.int h'), some (kV t), y] ∧ H' = H ∧ ∀ e ∈ ds.take i, isSrc e h' t = true) ?_ ?_ ?_ ?_
          · exact ⟨none, rfl, rfl, fun e he => by cases he⟩
          · rintro i σ H' hi ⟨y, rfl, rfl, _⟩
            exact SqT.of ha
          · rintro i x σ H' hi ⟨y, rfl, rfl, all⟩
            obtain ⟨e, he, hx⟩ := hs.get hi
            refine ⟨x, rfl, .int h', rfl, kV t, rfl, p, x, e, h', t, rfl, hx, _, rfl, ?_⟩
            cases hb2 : isSrc e h' t with
            | false =>
              refine iteT (q2 ?_)
              rintro ⟨ks, z⟩
              have z1 := PyData.tuple.inj z.d
              rw [z1, List.getElem?_map] at he
              obtain ⟨k, hk, rfl⟩ := Option.map_eq_some_iff.mp he
              rw [z.all k (List.mem_of_getElem? hk)] at hb2
              cases hb2
            | true =>
              refine iteF ⟨_, rfl, rfl, fun e' he' => ?_⟩
              rw [List.take_add_one, he] at he'
              rcases List.mem_append.mp he' with z | z
              · exact all e' z
              · have : e' = e := by simpa using z
                rw [this]
                exact hb2
          · rintro σ H' ⟨y, rfl, rfl, all⟩
            rw [lx, List.take_length] at all
            obtain ⟨ks, rfl, rfl⟩ := srcs_of hs all
            have sl : _ ≤ 50 := sm
            rw [List.length_map] at sl
            refine ⟨.ref a, rfl, a, ks, rfl, ha, sl, .ref a, rfl, a, _, rfl, .inr (SqT.of ha), rfl, ?_⟩
            rw [List.length_map]
            obtain ⟨u1, u2, u3, u4⟩ := uniqK_len _ ks rfl
            by_cases hn : ks.Nodup
            · rw [u3 hn, decide_eq_true rfl]
              refine q1 ⟨ks, rfl, by rw [List.length_map], fun k hk => all _ (List.mem_map.mpr ⟨k, hk, rfl⟩), hn⟩
            · have ne : ¬ (V.int ((uniqK ks).length : Nat) = V.int (ks.length : Nat)) := fun z => hn (u4 (by have := V.int.inj z; omega))
              rw [decide_eq_false ne]
              refine q2 ?_
              rintro ⟨ks', z⟩
              have := map_kD_inj (PyData.tuple.inj z.d)
              exact hn (this ▸ z.nd)
        · have ne : (V.int ((xs.length : Nat) : Int)) ≠ V.int wn := fun z => hw (V.int.inj z)
          rw [decide_eq_false ne]
          refine iteT (q2 ?_)
          rintro ⟨ks, z⟩
          have z1 := PyData.tuple.inj z.d
          have z2 := z.len
          rw [z1, List.length_map] at lx
          exact hw (by omega)
      | _ => cases hb
end

section
variable {P : Program} {w : World} {K : PySem.W.Frag} {mg : Str → Option Value} {base : Heap}
abbrev N_Watcher_require_word : List Str := ["self", "word"]
theorem sc_Watcher_require_word : FnScope N_Watcher_require_word ["self", "word"] (defScope s_Watcher_require_word) := ⟨rfl, rfl, rfl, by decide +kernel, rfl, by decide +kernel, by decide +kernel⟩
theorem G_Watcher_require_word (T : Tx K mg) : FnG P w K mg base (L2.CX P w) 3 T.Watcher_require_word.f T.Watcher_require_word.fd ["self", "word"] (sp_require_word T.Watcher.C T.NotAWord.C) := by
  refine okGX T.Watcher_require_word.F sc_Watcher_require_word (fun vs H Q E h => ?_) (fun cdv A outer s H vs Q E gd hr h => ?_)
  · obtain ⟨x, lv, lh, d, n, vs, hs, R, p, v, dd, rfl, _⟩ := h
    rfl
  · obtain ⟨x, lv, lh, d, n, vs, hs, R, p, v, dd, rfl, hW, hv, q1, q2⟩ := h
    refine ⟨_, 
      (pss_one (ps_if (pt_not (pt_val (pe_callG (G_is_between T) gd (hr.mono (by decide)) rfl T.is_between.g T.is_between.F.kp T.is_between.b .nil pass0 (pa_cons (pv 1) (pa_cons pe_int (pa_cons (pe_op op_sub (pe_fld (pv 0) rfl) pe_int) pa_nil)))))) 
        (pss_one (L2.ps_raiseE (W := fun cls d _ H => E cls d H) rfl T.NotAWord.e (show Room 1 _ from hr.mono (by decide)) (takes_of rfl rfl rfl rfl) (by exact (pa_cons (pv 1) pa_nil)))) -- raise NotAWord(word)
         pss_nil)) -- if not is_between(word, 0, self.words - 1):
       , ?_⟩
    obtain ⟨dx, hx⟩ := hW.ins
    refine ⟨v, rfl, .ref x, rfl, x, T.Watcher.C, dx, _, .int n, rfl, hx, T.Watcher.cl, T.W.n1, rfl, n, 1, rfl, rfl, p, v, dd, 0, _, rfl, hv, _, rfl, ?_⟩
    cases hb : btw dd 0 (n - 1) with
    | false => exact ⟨v, rfl, v, rfl, fun e he => q2 hb e he⟩
    | true => exact q1 hb
end

/-! ### a rule whose sources alone may be wrong -/
def sp_add_ruleN (C CS : Addr) : Sp := fun us H Q E => ∃ (x lv lh d : Addr) (n : Int) (vs hs : List Int) (R : Rows) (p : Addr) (s w tg : Int) (t : Key) (v5 : V) (d5 : PyData), us = [.ref x, .int s, .int w, kV t, .int tg, v5] ∧
  WAt C H x lv lh d n vs hs R ∧ LD p H v5 d5 ∧ SmallT d5 ∧ R.length < 1000 ∧ 0 ≤ s ∧ s < vs.length ∧ 0 ≤ tg ∧ tg < vs.length ∧ 0 ≤ w ∧ w < n ∧ isTest (kD t) (hAt hs s) = true ∧
  [Sum.inl s, Sum.inl w, t] ∉ R.map (·.1) ∧
  ((¬ ∃ ks, AreSrc d5 (hAt hs tg) (hAt hs s) t ks) → ∀ e, H e = none → E (.ref CS) (some e) (upd H e (.xd [(("sources" : Str), v5)]))) ∧
  ∀ ks, AreSrc d5 (hAt hs tg) (hAt hs s) t ks → ∀ H', (∀ c o, H c = some o → c ≠ d → H' c = some o) → WAt C H' x lv lh d n vs hs (R ++ [([Sum.inl s, Sum.inl w, t], ruleD (tg, ks))]) → Q .non H'
theorem btw_int' {i a b : Int} (h0 : a ≤ i) (h1 : i ≤ b) : btw (.int i) a b = true := btw_true h0 h1
section
variable {P : Program} {w : World} {K : PySem.W.Frag} {mg : Str → Option Value} {base : Heap}
abbrev N_Watcher_add_rule : List Str := ["self", "state", "word", "test", "target", "sources", "rule"]
theorem sc_Watcher_add_rule : FnScope N_Watcher_add_rule ["self", "state", "word", "test", "target", "sources"] (defScope s_Watcher_add_rule) := ⟨rfl, rfl, rfl, by decide +kernel, rfl, by decide +kernel, by decide +kernel⟩
theorem G_Watcher_add_ruleN (T : Tx K mg) : FnG P w K mg base (L2N.CX P w) 5 T.Watcher_add_rule.f T.Watcher_add_rule.fd ["self", "state", "word", "test", "target", "sources"] (sp_add_ruleN T.Watcher.C T.InvalidSources.C) := by
  refine okGXN T.Watcher_add_rule.F sc_Watcher_add_rule (fun vs H Q E h => ?_) (fun cdv A outer s H vs Q E gd hr h => ?_)
  · obtain ⟨x, lv, lh, d, n, vs, hs, R, p, s', wd, tg, t, v5, d5, rfl, _⟩ := h
    rfl
  · obtain ⟨x, lv, lh, d, n, vs, hs, R, p, s', wd, tg, t, v5, d5, rfl, hW, h5, sm5, lR, s0, s1, g0, g1, w0, w1, hb, hk, q7, q8⟩ := h
    refine ⟨_, 
      (pss_cons (ps_expr (pe_methG (pv 0) T.Watcher.cl T.Watcher_require_state.M (G_Watcher_require_state T) gd (hr.mono (by decide)) T.Watcher_require_state.b .nil passNo (pa_cons (pv 1) pa_nil))) -- self.require_state(state)
      (pss_cons (ps_expr (pe_methG (pv 0) T.Watcher.cl T.Watcher_require_state.M (G_Watcher_require_state T) gd (hr.mono (by decide)) T.Watcher_require_state.b .nil passNo (pa_cons (pv 4) pa_nil))) -- self.require_state(target)
      (pss_cons (ps_expr (pe_methG (pv 0) T.Watcher.cl T.Watcher_require_word.M (G_Watcher_require_word T) gd (hr.mono (by decide)) T.Watcher_require_word.b .nil passNo (pa_cons (pv 2) pa_nil))) -- self.require_word(word)
      (pss_cons (ps_if (pt_not (pt_val (pe_callG (G_is_test T) gd (hr.mono (by decide)) rfl T.is_test.g T.is_test.F.kp T.is_test.b .nil pass0 (pa_cons (pv 3) (pa_cons (pe_ix ix_list (pe_fld (pv 0) rfl) (pv 1) (fun _ _ => rfl)) pa_nil))))) 
        (pss_one (L2N.ps_raiseE (W := fun cls d _ H => E cls d H) rfl T.InvalidTest.e (show Room 1 _ from hr.mono (by decide)) (L2N.takes_of rfl rfl rfl rfl) (by exact (pa_cons (pv 3) pa_nil)))) -- raise InvalidTest(test)
         pss_nil) -- if not is_test(test, self._held[state]):
      (pss_cons (ps_if (pt_not (pt_val (pe_callG (G_are_sources T) gd (hr.mono (by decide)) rfl T.are_sources.g T.are_sources.F.kp T.are_sources.b .nil pass0 (pa_cons (pv 5) (pa_cons (pe_ix ix_list (pe_fld (pv 0) rfl) (pv 4) (fun _ _ => rfl)) (pa_cons (pe_ix ix_list (pe_fld (pv 0) rfl) (pv 1) (fun _ _ => rfl)) (pa_cons (pv 3) pa_nil))))))) 
        (pss_one (L2N.ps_raiseE (W := fun cls d _ H => E cls d H) rfl T.InvalidSources.e (show Room 1 _ from hr.mono (by decide)) (L2N.takes_of rfl rfl rfl rfl) (by exact (pa_cons (pv 5) pa_nil)))) -- raise InvalidSources(sources)
         pss_nil) -- if not are_sources(sources, self._held[target], self._held[state], test):
      (pss_cons (ps_set (i := 6) sc_Watcher_add_rule.nd rfl (.inl rfl) (pe_tup (pa_cons (pv 1) (pa_cons (pv 2) (pa_cons (pv 3) pa_nil))))) -- rule = (state, word, test)
      (pss_cons (ps_if (pt_cmp (pc_din (hu_of hr) (pv 6) (pe_fld (pv 0) rfl))) 
        (pss_one (L2N.ps_raiseE (W := fun cls d _ H => E cls d H) rfl T.RuleExists.e (show Room 1 _ from hr.mono (by decide)) (L2N.takes_of rfl rfl rfl rfl) (by exact (pa_cons (pv 6) pa_nil)))) -- raise RuleExists(rule)
         pss_nil) -- if rule in self._rules:
      (pss_one (ps_dput (hu_of hr) (pe_fld (pv 0) rfl) (pv 6) (pe_tup (pa_cons (pv 4) (pa_cons (pv 5) pa_nil))) rfl)) -- self._rules[rule] = (target, sources)
      ))))))) , ?_⟩
    obtain ⟨dx, hx⟩ := hW.ins
    have hh := hW.hel
    have cl := T.Watcher.cl
    refine ⟨.ref x, rfl, x, dx, _, rfl, hx, rfl, .int s', rfl, x, lv, lh, d, n, vs, hs, R, p, .int s', .int s', rfl, hW, .int s', fun o1 => ?_, fun o1 => absurd o1 (by rw [btw_true s0 (by omega)]; exact Bool.noConfusion)⟩
    refine ⟨.ref x, rfl, x, dx, _, rfl, hx, rfl, .int tg, rfl, x, lv, lh, d, n, vs, hs, R, p, .int tg, .int tg, rfl, hW, .int tg, fun o4 => ?_, fun o1 => absurd o1 (by rw [btw_true g0 (by omega)]; exact Bool.noConfusion)⟩
    refine ⟨.ref x, rfl, x, dx, _, rfl, hx, rfl, .int wd, rfl, x, lv, lh, d, n, vs, hs, R, p, .int wd, .int wd, rfl, hW, .int wd, fun o2 => ?_, fun o1 => absurd o1 (by rw [btw_true w0 (by omega)]; exact Bool.noConfusion)⟩
    have ls := hW.len.1
    have tk : (∃ r, t = Sum.inl r) ∨ t = Sum.inr ("new" : Str) := by
      obtain ⟨t', e1, e2, tk⟩ := test_key' (ldK (p := 0) (H := H) t) hb
      rw [kD_inj e2]
      exact tk
    refine ⟨kV t, rfl, .ref x, rfl, x, T.Watcher.C, dx, _, .ref lh, rfl, hx, cl, T.W.n3, rfl, .int s', rfl, lh, _, s', .int (hAt hs s'), rfl, rfl, SqL.of hh, hs_at s0 (by omega), p, kV t, kD t, hAt hs s', rfl, ldK t, kD_nd t, _, rfl, ?_⟩
    rw [hb]
    refine iteF ?_
    refine ⟨v5, rfl, .ref x, rfl, x, T.Watcher.C, dx, _, .ref lh, rfl, hx, cl, T.W.n3, rfl, .int tg, rfl, lh, _, tg, .int (hAt hs tg), rfl, rfl, SqL.of hh, hs_at g0 (by omega), .ref x, rfl, x, T.Watcher.C, dx, _, .ref lh, rfl, hx, cl, T.W.n3, rfl, .int s', rfl, lh, _, s', .int (hAt hs s'), rfl, rfl, SqL.of hh, hs_at s0 (by omega), kV t, rfl, p, v5, d5, hAt hs tg, hAt hs s', t, rfl, h5, sm5, fun ok => ?_, fun bad => ?_⟩
    · refine ⟨_, rfl, iteF ?_⟩
      obtain ⟨ks, ok⟩ := ok
      obtain ⟨kvs, hd, hkv⟩ := hW.rul
      have ek := hkv.keys
      refine ⟨.int s', rfl, .int wd, rfl, kV t, rfl, by show 3 ≤ sizeLine; decide, fun TT nT => ?_⟩
      have sT : Same H (upd H TT (.tup [.int s', .int wd, kV t])) := same_new nT
      have hT : upd H TT (.tup [.int s', .int wd, kV t]) TT = some (.tup (([Sum.inl s', Sum.inl wd, t] : List Key).map kV)) := upd_same
      have g := DGet.t (k := [Sum.inl s', Sum.inl wd, t]) (sT _ _ hd) hT
      refine ⟨.ref TT, rfl, .ref x, rfl, x, T.Watcher.C, dx, _, .ref d, rfl, sT _ _ hx, cl, T.W.n4, rfl, d, _, rfl, g, _, rfl, ?_⟩
      have en : valV kvs [Sum.inl s', Sum.inl wd, t] = none := by
        unfold valV
        rw [List.find?_eq_none.mpr]
        · rfl
        · intro y hy
          simp only [decide_eq_true_eq]
          intro e
          exact hk (e ▸ ek ▸ List.mem_map.mpr ⟨y, hy, rfl⟩)
      rw [en]
      refine iteF ?_
      refine ⟨.int tg, rfl, v5, rfl, by show 2 ≤ sizeLine; decide, fun U nU => ?_⟩
      have sU : Same (upd H TT (.tup [.int s', .int wd, kV t])) (upd (upd H TT (.tup [.int s', .int wd, kV t])) U (.tup [.int tg, v5])) := same_new nU
      have hU : upd (upd H TT (.tup [.int s', .int wd, kV t])) U (.tup [.int tg, v5]) U = some (.tup [.int tg, v5]) := upd_same
      have hT2 := sU _ _ hT
      have s2 := sT.trans sU
      generalize upd (upd H TT (.tup [.int s', .int wd, kV t])) U (.tup [.int tg, v5]) = H2 at s2 hU hT2
      have hd2 := s2 _ _ hd
      have lk : kvs.length < 1000 := by
        have := Paired.length hkv
        omega
      refine ⟨.ref x, rfl, x, T.Watcher.C, dx, _, .ref d, rfl, s2 _ _ hx, cl, T.W.n4, rfl, .ref TT, rfl, d, _, rfl, DPut.t (k := [Sum.inl s', Sum.inl wd, t]) hd2 hT2 (small1000 (Nat.le_of_lt lk)), ?_⟩
      have tp : Tups H2 (upd H2 d (.dT (putK kvs [Sum.inl s', Sum.inl wd, t] (.ref U)))) := Tups.put hd2 (fun _ z => by cases z)
      have hW2 := hW.mono s2
      have vd : lv ≠ d := ne_of hW2.ver hd2 (fun z => nomatch z)
      have hd' : lh ≠ d := ne_of hW2.hel hd2 (fun z => nomatch z)
      have xd : x ≠ d := ne_of (s2 _ _ hx) hd2 (fun z => nomatch z)
      refine q8 ks ok _ (fun c o e nc => ?_) { ins := ⟨dx, ?_⟩, ver := ?_, hel := ?_, rul := ⟨_, upd_same, ?_⟩, ne := hW.ne, rk := ?_, nd := ?_, len := ⟨hW.len.1, hW.len.2.1, by rw [List.length_append]; show R.length + 1 ≤ 1000; omega⟩ }
      · rw [upd_ne nc]
        exact s2 _ _ e
      · rw [upd_ne xd]
        exact s2 _ _ hx
      · rw [upd_ne vd]
        exact hW2.ver
      · rw [upd_ne hd']
        exact hW2.hel
      · have en2 := putK_new (V.ref U) en
        rw [en2] at tp ⊢
        refine Paired.snoc (KvD.mono tp (KvD.mono (Tups.same s2) hkv)) ⟨rfl, ?_⟩
        have h5' := h5
        rw [ok.d] at h5'
        obtain ⟨a5, xs5, rfl, _, ha5, hs5⟩ := h5'.isTup
        obtain ⟨ks', e1, e2⟩ := srcs_of hs5 (h := hAt hs s') (t := t) (fun e he => by obtain ⟨k, hk, rfl⟩ := List.mem_map.mp he; exact ok.all k hk)
        rw [← map_kD_inj e1] at e2
        subst e2
        exact .tup (tp _ _ hU) (.cons (.int tg) (.cons (.tup (tp _ _ (s2 _ _ ha5)) TDs.keys) .nil))
      · intro k hk2
        rw [List.map_append] at hk2
        rcases List.mem_append.mp hk2 with z | z
        · exact hW.rk k z
        · simp at z
          subst z
          exact ⟨s', wd, t, rfl, tk⟩
      · rw [List.map_append]
        refine List.nodup_append.mpr ⟨hW.nd, by simp, ?_⟩
        intro a ha b hb2
        simp at hb2
        subst hb2
        rintro rfl
        exact hk ha
    · exact ⟨_, rfl, iteT ⟨v5, rfl, v5, rfl, fun e he => q7 bad e he⟩⟩
end

/-! ### rules, where an error is handled and there is none -/
theorem pe_meth0H {X : Cx} {CX : CXT} {k : Nat} {f C : Addr} {fd : FuncData} {ps : List Str} {sp : Sp} {E : L2.St → XK} {m : Str} {pos apos : Pos} {o : Expr} {ta : TE} {pl : Sem Bool} (ho : PE X o ta) (c : Cls X.K C) (hm : Meth X.K C m f) (F : L2H.FnH X.prog X.w X.K X.mg X.base CX k f fd ps sp) (hr : L2H.RoomH k X.A) (hc : L2H.HotC X) (hb : Binds X.K fd ps []) (hx : ∀ σ, PassesAt CX X σ (E σ))
    (ht : MethForm X o m [] pos apos pl := by rfl) : PE X (.Call (.Attribute o m apos) [] [] pos) (L2H.tMethH C m sp E ta tNil) := by
  refine ⟨fun pins s σ H Q I h => ?_⟩
  refine PySem.W.methodCall_KW (pl := pl) (thn (ho.run pins s σ H _ I h) fun u s1 ⟨x, H1, I1, rx, a, dx, fs, ex, ea, l, q⟩ => ?_) ht
  subst ex
  obtain rfl : u = Value.ref a := rx
  refine getmeth_ok I1 ea c hm l ?_
  exact PySem.W.callWith_K0 (first := [.ref a]) I1.kIn hm.kp (L2H.run_fnH (us := [.ref a]) (vs := [.ref a]) F hr hc hb (hx σ) I1 (.cons rfl .nil) q)
def sp_rules0 (C : Addr) : Sp := fun us H Q _ => ∃ (x lv lh d : Addr) (n : Int) (vs hs : List Int), us = [.ref x] ∧ WAt C H x lv lh d n vs hs [] ∧ ∀ D H', Same H H' → H' D = some (.dT []) → Q (.ref D) H'
section
variable {P : Program} {w : World} {K : PySem.W.Frag} {mg : Str → Option Value} {base : Heap}
theorem G_Watcher_rulesH (T : Tx K mg) : L2H.FnH P w K mg base CX0 2 T.Watcher_rules.f T.Watcher_rules.fd ["self"] (sp_rules0 T.Watcher.C) := by
  obtain ⟨oc, od, kV, doc, pm, an, cdv, ct, osl, e, lk, hcd⟩ := T.Watcher_rules.F.ex
  rw [e] at lk ⊢
  refine L2H.fn_ofH lk hcd sc_Watcher_rules (fun vs H Q E h => ?_) (fun A outer s H vs Q E p hot hr h => ?_)
  · obtain ⟨x, lv, lh, d, n, vs, hs, rfl, _⟩ := h
    rfl
  · obtain ⟨x, lv, lh, d, n, vs, hs, rfl, hW, q⟩ := h
    refine ⟨_, (pss_one (ps_ret (pe_dcT0H (own := [("rule", 1)]) ⟨p, hot, List.mem_cons_self⟩ sc_Watcher_rules.nd
      (pe_callBK (call_sortT0H (f := T.rule_order.f) ⟨p, hot, List.mem_cons_self⟩ ((fun (u : Nat) (h : u + 16 * 1 + 200 < cLine) => (by omega : u + 10 < cLine)) _ hr.un)) (by rfl) T.m_sorted PyProof.Rows.boot_sorted (pa_cons (pe_fld (pv 0) rfl) pa_nil) (pk_cons (pe_glob (v := .ref T.rule_order.f) rfl T.rule_order.g rfl) pk_nil))
      (blkOk_by (N := N_Watcher_rules) (sc := defScope s_Watcher_rules) (by decide +kernel))))), ?_⟩
    obtain ⟨dx, hx⟩ := hW.ins
    obtain ⟨kvs, hd, hkv⟩ := hW.rul
    have ek : kvs = [] := by cases hkv; rfl
    subst ek
    refine ⟨.ref x, rfl, x, T.Watcher.C, dx, _, .ref d, rfl, hx, T.Watcher.cl, T.W.n4, rfl, d, rfl, rfl, hd, fun l nl => ?_⟩
    exact ⟨l, rfl, upd_same, fun D nD => q D _ ((same_new nl).trans (same_new nD)) upd_same⟩
end

/-! ### sources that fit -/
def goodK (h : Int) (t : Key) : List Key := ((List.range h.toNat).map fun i : Nat => (Sum.inl (i : Int) : Key)) ++ (if t = Sum.inr ("new" : Str) then [Sum.inr ("value" : Str)] else [])
theorem mem_goodK {h : Int} {t k : Key} : k ∈ goodK h t ↔ isSrc (kD k) h t = true := by
  unfold goodK isSrc
  rw [List.mem_append]
  constructor
  · rintro (z | z)
    · obtain ⟨i, hi, rfl⟩ := List.mem_map.mp z
      have := List.mem_range.mp hi
      rw [if_neg (by show ¬ (isStrD (.int _) "value" = true); intro e; cases e)]
      exact btw_true (by omega) (by omega)
    · by_cases ht : t = Sum.inr ("new" : Str)
      · rw [if_pos ht] at z
        have : k = Sum.inr ("value" : Str) := by simpa using z
        subst this ht
        rfl
      · rw [if_neg ht] at z
        cases z
  · intro z
    cases k with
    | inl n =>
      rw [if_neg (by show ¬ (isStrD (.int _) "value" = true); intro e; cases e)] at z
      obtain ⟨m, e, h0, h1⟩ := btw_int z
      have e' : n = m := by injection e
      subst e'
      refine .inl (List.mem_map.mpr ⟨n.toNat, List.mem_range.mpr (by omega), by rw [Int.toNat_of_nonneg h0]⟩)
    | inr s =>
      by_cases hs : isStrD (kD (.inr s)) "value" = true
      · rw [if_pos hs] at z
        have es : s = ("value" : Str) := beq_iff_eq.mp hs
        subst es
        cases t with
        | inl n => cases z
        | inr y =>
          have ey : y = ("new" : Str) := beq_iff_eq.mp z
          subst ey
          exact .inr (by rw [if_pos rfl]; exact List.mem_cons_self)
      · rw [if_neg hs] at z
        cases z
theorem good_four {h : Int} {t k : Key} (h3 : h ≤ 3) (z : k ∈ goodK h t) : k = Sum.inl 0 ∨ k = Sum.inl 1 ∨ k = Sum.inl 2 ∨ k = Sum.inr ("value" : Str) := by
  unfold goodK at z
  rcases List.mem_append.mp z with z | z
  · obtain ⟨i, hi, rfl⟩ := List.mem_map.mp z
    have := List.mem_range.mp hi
    have : i = 0 ∨ i = 1 ∨ i = 2 := by omega
    rcases this with rfl | rfl | rfl
    · exact .inl rfl
    · exact .inr (.inl rfl)
    · exact .inr (.inr (.inl rfl))
  · by_cases ht : t = Sum.inr ("new" : Str)
    · rw [if_pos ht] at z
      exact .inr (.inr (.inr (by simpa using z)))
    · rw [if_neg ht] at z
      cases z
def someD : List PyData := [.int 0, .int 1, .int 2, .int 3, .str "value", .str "new", .bool true, .none, .int (-1), .bool false, .list [.int 0], .dict []]
/-- what a part of the sources may be -/
def EltOk (d : PyData) : Prop := d ∈ someD ∨ ∃ es, d = .tuple es
def firstS (s : Str) : Option Nat := s.cps[0]?
theorem tup_first (ts : List Str) : firstS (tupleText ts) = some 40 := by
  unfold firstS tupleText
  show ((Str.ofString "(").cps ++ _ ++ _)[0]? = some 40
  rw [Array.append_assoc, Array.getElem?_append_left (by decide +kernel)]
  decide +kernel
theorem some_inj {d : PyData} (hd : d ∈ someD) {k : Key} (hk : k = Sum.inl 0 ∨ k = Sum.inl 1 ∨ k = Sum.inl 2 ∨ k = Sum.inr ("value" : Str)) (e : d.shown = (kD k).shown) : d = kD k := by
  simp only [someD, List.mem_cons, List.not_mem_nil, or_false] at hd
  rcases hd with rfl | rfl | rfl | rfl | rfl | rfl | rfl | rfl | rfl | rfl | rfl | rfl <;> rcases hk with rfl | rfl | rfl | rfl <;> first | rfl | exact absurd e (by decide +kernel)
theorem elt_inj {d : PyData} {h : Int} {t k : Key} (h3 : h ≤ 3) (hd : EltOk d) (hk : k ∈ goodK h t) (e : d.shown = (kD k).shown) : d = kD k := by
  have k4 := good_four h3 hk
  rcases hd with hd | ⟨es, rfl⟩
  · exact some_inj hd k4 e
  · have e1 := congrArg firstS e
    have e2 : firstS (PyData.tuple es).shown = some 40 := tup_first _
    rw [e2] at e1
    rcases k4 with rfl | rfl | rfl | rfl <;> exact absurd e1 (by decide +kernel)
theorem key_inj {h : Int} {t k k' : Key} (h3 : h ≤ 3) (hk : k ∈ goodK h t) (hk' : k' ∈ goodK h t) (e : (kD k).shown = (kD k').shown) : k = k' := by
  rcases good_four h3 hk with rfl | rfl | rfl | rfl <;> rcases good_four h3 hk' with rfl | rfl | rfl | rfl <;> first | rfl | exact absurd e (by decide +kernel)
theorem keys_of {h : Int} {t : Key} : ∀ {ds : List PyData}, (∀ d ∈ ds, ∃ k ∈ goodK h t, d = kD k) → ∃ ks : List Key, ds = ks.map kD ∧ ∀ k ∈ ks, k ∈ goodK h t
  | [], _ => ⟨[], rfl, fun _ z => by cases z⟩
  | d :: r, a => by
    obtain ⟨k, hk, rfl⟩ := a d List.mem_cons_self
    obtain ⟨ks, rfl, h2⟩ := keys_of fun d hd => a d (List.mem_cons_of_mem _ hd)
    refine ⟨k :: ks, rfl, fun z hz => ?_⟩
    rcases List.mem_cons.mp hz with rfl | hz
    · exact hk
    · exact h2 z hz
theorem nodup_shown {h : Int} {t : Key} (h3 : h ≤ 3) {ks : List Key} (hk : ∀ k ∈ ks, k ∈ goodK h t) : (ks.map fun k => (Sum.inr (kD k).shown : Key)).Nodup ↔ ks.Nodup := by
  constructor
  · intro z
    exact (List.pairwise_map.mp z).imp fun ne e => ne (by rw [e])
  · intro z
    refine List.pairwise_map.mpr (List.Pairwise.imp_of_mem (fun {a b} ha hb ne e => ne ?_) z)
    exact key_inj h3 (hk a ha) (hk b hb) (Sum.inr.inj e)
/-- data that can be shown -/
structure ShowOk (d : PyData) : Prop where
  sho : d.showable = true
  dep : d.depth ≤ 60
  len : d.shown.length ≤ sizeLine
def SrcsOk : PyData → Prop
  | .tuple ds => ds.length ≤ 50 ∧ ∀ d ∈ ds, EltOk d ∧ ShowOk d
  | _ => True
def sp_law_fit : Sp := fun us H Q _ => ∃ (p : Addr) (v : V) (d : PyData) (h m : Int) (t : Key), us = [.int h, .int m, kV t, v] ∧ LD p H v d ∧ H p ≠ none ∧ SrcsOk d ∧ 0 ≤ h ∧ h ≤ 3 ∧ 0 ≤ m ∧ m ≤ 3 ∧
  ∀ b H', Same H H' → (b = true ↔ ∃ ks, AreSrc d m h t ks) → Q (.bl b) H'
theorem inV_strs {x : Str} {xs : List Str} : inV (.str x) (xs.map V.str) = true ↔ x ∈ xs := by
  unfold inV
  rw [List.any_eq_true]
  constructor
  · rintro ⟨y, hy, e⟩
    obtain ⟨z, hz, rfl⟩ := List.mem_map.mp hy
    have : z = x := by simpa [eqV] using e
    exact this ▸ hz
  · intro hx
    exact ⟨.str x, List.mem_map.mpr ⟨x, hx, rfl⟩, by simp [eqV]⟩
theorem iteC {c A B : Prop} [Decidable c] (h : c) (a : A) : if decide c = true then A else B := by
  rw [if_pos (decide_eq_true h)]
  exact a
theorem iteCn {c A B : Prop} [Decidable c] (h : ¬ c) (a : B) : if decide c = true then A else B := by
  rw [if_neg (fun z => h (of_decide_eq_true z))]
  exact a
theorem goodK_v (h : Int) (t : Key) : (goodK h t).map kV = rgV 0 h ++ (if t = Sum.inr ("new" : Str) then [V.str "value"] else []) := by
  unfold goodK
  rw [List.map_append, ← rgV_keys]
  congr 1
  split <;> rfl
theorem goodK_len {h : Int} {t : Key} (h3 : h ≤ 3) : (goodK h t).length ≤ 4 := by
  unfold goodK
  rw [List.length_append, List.length_map, List.length_range]
  split
  · show _ + 1 ≤ 4
    omega
  · show _ + 0 ≤ 4
    omega
theorem good_show {h : Int} {t k : Key} (h3 : h ≤ 3) (hk : k ∈ goodK h t) : ShowOk (kD k) := by
  rcases good_four h3 hk with rfl | rfl | rfl | rfl <;> exact ⟨by decide +kernel, by decide +kernel, by decide +kernel⟩
theorem kV_new {t : Key} : kV t = V.str "new" ↔ t = Sum.inr ("new" : Str) := by
  cases t with
  | inl n => exact ⟨fun e => (by cases e), fun e => (by cases e)⟩
  | inr s => exact ⟨fun e => by rw [show s = ("new" : Str) from V.str.inj e], fun e => by rw [e]; rfl⟩
/-- who fits -/
theorem fit_iff {h m : Int} {t : Key} {ds : List PyData} (h3 : h ≤ 3) (he : ∀ d ∈ ds, EltOk d) (hl : (ds.length : Int) = m) :
    (∃ ks, AreSrc (.tuple ds) m h t ks) ↔ (∀ d ∈ ds, ∃ k ∈ goodK h t, d.shown = (kD k).shown) ∧ (ds.map fun d => (Sum.inr d.shown : Key)).Nodup := by
  constructor
  · rintro ⟨ks, a⟩
    have e : ds = ks.map kD := PyData.tuple.inj a.d
    subst e
    have ag : ∀ k ∈ ks, k ∈ goodK h t := fun k hk => mem_goodK.mpr (a.all k hk)
    refine ⟨fun d hd => ?_, ?_⟩
    · obtain ⟨k, hk, rfl⟩ := List.mem_map.mp hd
      exact ⟨k, ag k hk, rfl⟩
    · rw [List.map_map]
      exact (nodup_shown h3 ag).mpr a.nd
  · rintro ⟨a, b⟩
    obtain ⟨ks, rfl, ag⟩ := keys_of (h := h) (t := t) (ds := ds) fun d hd => by
      obtain ⟨k, hk, e⟩ := a d hd
      exact ⟨k, hk, elt_inj h3 (he d hd) hk e⟩
    rw [List.map_map] at b
    rw [List.length_map] at hl
    exact ⟨ks, rfl, hl, fun k hk => mem_goodK.mp (ag k hk), (nodup_shown h3 ag).mp b⟩
section
variable {P : Program} {w : World} {K : PySem.W.Frag} {mg : Str → Option Value} {base : Heap}
theorem G_Watcher_rules (T : Tx K mg) : FnG P w K mg base CX0 2 T.Watcher_rules.f T.Watcher_rules.fd ["self"] (sp_W_rules T.Watcher.C) := ok_Watcher_rules T.Watcher_rules.F T.rule_order.F T.bt_rule_order T.rule_order.g ⟨_, _, _, _, _, T.part_order.F, T.bt_part_order, T.part_order.g, T.g_NEW, T.g_VALUE, T.g_MOST_HELD⟩ T.W T.m_sorted
abbrev N_law_fit : List Str := ["held", "many", "test", "sources", "good", "names", "source", "one"]
theorem sc_law_fit : FnScope N_law_fit ["held", "many", "test", "sources"] (defScope s_law_fit) := ⟨rfl, rfl, rfl, by decide +kernel, rfl, by decide +kernel, by decide +kernel⟩
theorem G_law_fit (T : Tx K mg) : FnG P w K mg base CX0 1 T.law_fit.f T.law_fit.fd ["held", "many", "test", "sources"] sp_law_fit := by
  refine okG T.law_fit.F sc_law_fit (fun vs H Q E h => ?_) (fun cdv A outer s H vs Q E gd hr h => ?_)
  · obtain ⟨p, v, d, h', m, t, rfl, _⟩ := h
    rfl
  · obtain ⟨p, v, d, h', m, t, rfl, hv, hp, ok, h0, h3, m0, m3, q⟩ := h
    refine ⟨_, 
      (pss_cons (ps_if (PW.pt (pw_or (pt_not (pt_val (pe_callB (call_isL kit_tup) (by rfl) T.m_isinstance (by decide +kernel) (pa_cons (pv 3) (pa_cons (pe_bltn (v := .ty "tuple") (by rfl) T.m_tuple (by decide +kernel) (show RelV (.ty "tuple") (.type "tuple") from rfl)) pa_nil))))) (pw_or1 (pt_cmpR op_ne (pe_callB call_len_seq (by rfl) T.m_len PySem.boot_len (pa_cons (pv 3) pa_nil)) (pv 1) (nomark _))))) 
        (pss_one (ps_ret pe_bl)) -- return False
         pss_nil) -- if not isinstance(sources, tuple) or len(sources) != many:
      (C8.pss_cut (ps_set (i := 4) sc_law_fit.nd rfl (.inr rfl) (pe_op op_cat (pe_listRg rfl (by rfl) T.m_list (prg_1 (by rfl) T.m_range (pv 0))) (pe_ifExp (pt_cmpR op_eq (pv 2) pe_str (nomark _)) (pe_lst (pa_cons pe_str pa_nil)) (pe_lst pa_nil)))) -- good = list(range(held)) + (['value'] if test == 'new' else [])
      (pss_cons (ps_setLc (i := 5) (own := [("source", 6)]) (g := gName 6) rfl sc_law_fit.nd rfl rfl (by rfl) (pi_tup (pv 3)) (blkOk_by (N := N_law_fit) (sc := defScope s_law_fit) (by decide +kernel)) (fun _ _ _ _ _ => (pg_name (i := 6) sc_law_fit.nd rfl (.inl rfl))) (fun _ _ _ _ _ => pts_nil) (fun _ _ _ _ _ => (pe_callB (call_reprL gd hr.units) (by rfl) T.m_repr (by decide +kernel) (pa_cons (pv 6) pa_nil)))) -- names = [repr(source) for source in sources]
      (pss_cons (ps_if (pt_cmpR (op_neL0 hr.units) (pe_lc (own := [("one", 7)]) (g := gName 7) rfl sc_law_fit.nd (pi_list (pv 5)) (blkOk_by (N := N_law_fit) (sc := defScope s_law_fit) (by decide +kernel)) (fun _ _ _ _ _ => (pg_name (i := 7) sc_law_fit.nd rfl (.inl rfl))) (fun _ _ _ _ _ => (pts_one (pt_cmpR (r := rIn K true) op_notIn_seq (pv 7) (pe_lc (wi := iList K (tVar 4)) (own := [("source", 6)]) (g := gName 6) rfl sc_law_fit.nd (pi_list (pv 4)) (blkOk_by (N := N_law_fit) (sc := { kind := .function, names := [((".0" : Str), .local), (("one" : Str), .local), (("good" : Str), .cell)], isGenerator := false, isCoroutine := false }) (by decide +kernel)) (fun _ _ _ _ _ => (pg_name (i := 6) sc_law_fit.nd rfl (.inl rfl))) (fun _ _ _ _ _ => pts_nil) (fun _ _ _ _ _ => (pe_callB (call_reprL gd hr.units) (by rfl) T.m_repr (by decide +kernel) (pa_cons (pv 6) pa_nil)))) rfl))) (fun _ _ _ _ _ => (pv 7))) (pe_lst pa_nil) (nomark _)) 
        (pss_one (ps_ret pe_bl)) -- return False
         pss_nil) -- if [one for one in names if one not in [repr(source) for source in good]] != []:
      (pss_one (ps_ret (pe_cmpR op_eq (pe_callB call_len_seq (by rfl) T.m_len PySem.boot_len (pa_cons (pv 5) pa_nil)) (pe_lenSetL rfl (by rfl) T.m_len (by rfl) T.m_set (pv 5)) (nomark _)))) -- return len(names) == len(set(names))
      )))) , ?_⟩
    refine ⟨v, rfl, p, v, d, rfl, hv, _, rfl, ?_⟩
    cases hb : isTupD d with
    | false =>
      refine q false H (Same.refl H) ⟨fun z => Bool.noConfusion z, ?_⟩
      rintro ⟨ks, e⟩
      rw [e.d] at hb
      cases hb
    | true =>
      cases hv with
      | @tup a xs ds na ha hs =>
        have lx := hs.length
        refine ⟨.ref a, rfl, a, xs, rfl, .inr (SqT.of ha), .int m, rfl, rfl, _, rfl, ?_⟩
        by_cases hw : (xs.length : Int) = m
        · subst hw
          have fi := fit_iff (h := h') (t := t) h3 (fun d hd => (ok.2 d hd).1) (m := (xs.length : Int)) (by rw [lx])
          have okl : ds.length ≤ 50 := ok.1
          refine iteNS rfl ?_
          refine ⟨fun σ H' => ∃ g, σ = [some (.int h'), some (.int (xs.length : Int)), some (kV t), some (.ref a), some (.ref g), none, none, none] ∧ Same H H' ∧ H' g = some (.lst ((goodK h' t).map kV)), ?_, ?_⟩
          · refine ⟨.int h', rfl, h', rfl, RgOk.of_le (by decide) (by omega) (by decide) h0, fun l nl => ?_⟩
            have s1 : Same H (upd H l (.lst (rgV 0 h'))) := same_new nl
            have hl : upd H l (.lst (rgV 0 h')) l = some (.lst (rgV 0 h')) := upd_same
            generalize upd H l (.lst (rgV 0 h')) = H1 at *
            refine ⟨kV t, rfl, by cases t <;> rfl, _, rfl, ?_⟩
            have gl : (rgV 0 h').length ≤ 3 := by rw [rgV_length]; omega
            by_cases ht : t = Sum.inr ("new" : Str)
            · refine iteC (kV_new.mpr ht) ⟨by show 1 ≤ sizeLine; decide, fun f nf => ?_⟩
              have s2 : Same H1 (upd H1 f (.lst [.str "value"])) := same_new nf
              refine ⟨l, f, _, _, rfl, rfl, s2 _ _ hl, upd_same, Nat.le_of_lt (small1000 (by show (rgV 0 h').length + 1 ≤ 1000; omega)), fun g ng => ⟨g, rfl, (s1.trans s2).trans (same_new ng), ?_⟩⟩
              rw [upd_same, goodK_v, if_pos ht]
            · refine iteCn (fun e => ht (kV_new.mp e)) ⟨Nat.zero_le _, fun f nf => ?_⟩
              have s2 : Same H1 (upd H1 f (.lst [])) := same_new nf
              refine ⟨l, f, _, _, rfl, rfl, s2 _ _ hl, upd_same, Nat.le_of_lt (small1000 (by show (rgV 0 h').length + 0 ≤ 1000; omega)), fun g ng => ⟨g, rfl, (s1.trans s2).trans (same_new ng), ?_⟩⟩
              rw [upd_same, goodK_v, if_neg ht]
          · rintro σ H1 ⟨g, rfl, s1, hg⟩
            refine ⟨.ref a, rfl, a, rfl, ⟨_, SqT.of (s1 _ _ ha)⟩, fun D nD => ?_⟩
            refine lc_tup (K := K) (a := a) (xs := xs) (fun i H' => Same H1 H' ∧ H' D = some (.lst (((ds.map PyData.shown).take i).map V.str))) ?_ ?_ ?_ ?_
            · exact ⟨same_new nD, upd_same⟩
            · rintro i H' hi ⟨sm, hD⟩
              exact SqT.of (sm _ _ (s1 _ _ ha))
            · rintro i x H' hi ⟨sm, hD⟩
              obtain ⟨e, he, hx⟩ := hs.get hi
              have es := (ok.2 e (List.mem_of_getElem? he)).2
              refine ⟨rfl, x, rfl, p, x, e, rfl, LD.mono (But.same (s1.trans sm)) _ hx, es.sho, es.dep, es.len, _, hD, ?_, fun b o z => ?_, ?_⟩
              · rw [List.length_map, List.length_take, List.length_map]
                exact small1000 (by omega)
              · rw [upd_ne (ne_of_none z nD)]
                exact sm _ _ z
              · rw [upd_same, List.take_add_one, List.getElem?_map, he]
                simp only [List.map_append]
                rfl
            · rintro H2 ⟨s2, hD⟩
              rw [List.take_of_length_le (by rw [List.length_map, lx]; exact Nat.le_refl _)] at hD
              refine ⟨.ref D, rfl, D, rfl, ⟨_, SqL.of hD⟩, fun F nF => ?_⟩
              have gd4 := goodK_len (h := h') (t := t) h3
              refine lc_list (K := K) (a := D) (xs := (ds.map PyData.shown).map V.str) (fun i H' => Same H2 H' ∧ ∃ zs : List Str, H' F = some (.lst (zs.map V.str)) ∧ zs.length ≤ i ∧ (zs = [] ↔ ∀ d ∈ ds.take i, ∃ k ∈ goodK h' t, d.shown = (kD k).shown)) ?_ ?_ ?_ ?_
              · exact ⟨same_new nF, [], upd_same, Nat.le_refl _, fun _ d hd => by simp at hd, fun _ => rfl⟩
              · rintro i H' hi ⟨sm, _⟩
                exact SqL.of (sm _ _ hD)
              · rintro i x H' hi ⟨sm, zs, hF, lz, ez⟩
                rw [List.map_map, List.getElem?_map] at hi
                obtain ⟨d, ed, rfl⟩ := Option.map_eq_some_iff.mp hi
                have i50 : i < 50 := by
                  have := (List.getElem?_eq_some_iff.mp ed).1
                  omega
                refine ⟨rfl, .str d.shown, rfl, .ref g, rfl, g, rfl, ⟨_, SqL.of (sm _ _ (s2 _ _ hg))⟩, fun G nG => ?_⟩
                refine lc_list (K := K) (a := g) (xs := (goodK h' t).map kV) (fun j H'' => Same H' H'' ∧ H'' G = some (.lst ((((goodK h' t).map fun k => (kD k).shown).take j).map V.str))) ?_ ?_ ?_ ?_
                · exact ⟨same_new nG, upd_same⟩
                · rintro j H'' hj ⟨sn, _⟩
                  exact SqL.of (sn _ _ (sm _ _ (s2 _ _ hg)))
                · rintro j y H'' hj ⟨sn, hG⟩
                  rw [List.getElem?_map] at hj
                  obtain ⟨k, ek, rfl⟩ := Option.map_eq_some_iff.mp hj
                  have es := good_show h3 (List.mem_of_getElem? ek)
                  refine ⟨rfl, kV k, rfl, p, kV k, kD k, rfl, ldK k, es.sho, es.dep, es.len, _, hG, ?_, fun b o z => ?_, ?_⟩
                  · rw [List.length_map, List.length_take, List.length_map]
                    exact small1000 (by omega)
                  · rw [upd_ne (ne_of_none z nG)]
                    exact sn _ _ z
                  · rw [upd_same, List.take_add_one, List.getElem?_map, ek]
                    simp only [List.map_append]
                    rfl
                · rintro H3 ⟨s3, hG⟩
                  rw [List.take_of_length_le (by rw [List.length_map, List.length_map]; exact Nat.le_refl _)] at hG
                  have hF3 := s3 _ _ hF
                  refine ⟨G, _, rfl, .inl (SqL.of hG), rfl, ?_, _, rfl, ?_⟩
                  · rw [List.all_eq_true]
                    rintro v hv
                    obtain ⟨s, _, rfl⟩ := List.mem_map.mp hv
                    rfl
                  by_cases hx : d.shown ∈ (goodK h' t).map fun k => (kD k).shown
                  · rw [inV_strs.mpr hx]
                    refine iteF ⟨sm.trans s3, zs, hF3, Nat.le_succ_of_le lz, ?_⟩
                    rw [ez, List.take_add_one, ed]
                    constructor
                    · intro a1 d' hd'
                      rcases List.mem_append.mp hd' with z | z
                      · exact a1 d' z
                      · have : d' = d := by simpa using z
                        subst this
                        obtain ⟨k, hk, e⟩ := List.mem_map.mp hx
                        exact ⟨k, hk, e.symm⟩
                    · intro a1 d' hd'
                      exact a1 d' (List.mem_append_left _ hd')
                  · have hn : inV (.str d.shown) (((goodK h' t).map fun k => (kD k).shown).map V.str) = false := by
                      cases hc : inV (.str d.shown) (((goodK h' t).map fun k => (kD k).shown).map V.str) with
                      | false => rfl
                      | true => exact absurd (inV_strs.mp hc) hx
                    rw [hn]
                    refine iteT ⟨.str d.shown, rfl, _, hF3, by rw [List.length_map]; exact small1000 (by omega), fun b o z => ?_, zs ++ [d.shown], ?_, ?_, ?_⟩
                    · rw [upd_ne (ne_of_none z nF)]
                      exact s3 _ _ (sm _ _ z)
                    · rw [upd_same, List.map_append]
                      rfl
                    · rw [List.length_append]
                      exact Nat.succ_le_succ lz
                    · refine ⟨fun e => absurd e (by simp), fun a1 => absurd ?_ hx⟩
                      obtain ⟨k, hk, e⟩ := a1 d (by rw [List.take_add_one, ed]; exact List.mem_append_right _ List.mem_cons_self)
                      exact List.mem_map.mpr ⟨k, hk, e.symm⟩
              · rintro H3 ⟨s3, zs, hF, lz, ez⟩
                rw [List.take_of_length_le (by rw [List.length_map, List.length_map]; exact Nat.le_refl _)] at ez
                refine ⟨Nat.zero_le _, fun b nb => ?_⟩
                have s4 : Same H3 (upd H3 b (.lst [])) := same_new nb
                have hb4 : upd H3 b (.lst []) b = some (.lst []) := upd_same
                generalize upd H3 b (.lst []) = H4 at s4 hb4
                have s04 : Same H H4 := ((s1.trans s2).trans s3).trans s4
                refine ⟨F, b, _, rfl, rfl, s4 _ _ hF, hb4, _, rfl, ?_⟩
                cases zs with
                | cons z r =>
                  refine q false H4 s04 ⟨fun e => Bool.noConfusion e, fun e => ?_⟩
                  have := ez.mpr (fi.mp e).1
                  cases this
                | nil =>
                  have al := ez.mp rfl
                  have hD4 : H4 D = some (.lst ((ds.map fun d => (Sum.inr d.shown : Key)).map kV)) := by
                    rw [s4 _ _ (s3 _ _ hD), List.map_map, List.map_map]
                    rfl
                  refine ⟨.ref D, rfl, D, _, rfl, .inl (SqL.of hD4), .ref D, rfl, D, ds.map fun d => (Sum.inr d.shown : Key), rfl, SqL.of hD4, by rw [List.length_map]; exact okl, rfl, ?_⟩
                  refine q _ H4 s04 ?_
                  rw [fi, decide_eq_true_iff]
                  obtain ⟨u1, u2, u3, u4⟩ := uniqK_len _ (ds.map fun d => (Sum.inr d.shown : Key)) rfl
                  rw [List.length_map]
                  constructor
                  · intro e
                    refine ⟨al, u4 ?_⟩
                    have := V.int.inj e
                    omega
                  · rintro ⟨_, nd⟩
                    rw [u3 nd]
        · have ne : (V.int ((xs.length : Nat) : Int)) ≠ V.int m := fun z => hw (V.int.inj z)
          rw [decide_eq_false ne]
          refine iteT (q false H (Same.refl H) ⟨fun z => Bool.noConfusion z, ?_⟩)
          rintro ⟨ks, z⟩
          have z1 := PyData.tuple.inj z.d
          have z2 := z.len
          rw [z1, List.length_map] at lx
          exact absurd (by omega) hw
      | _ => cases hb
end

/-! ### a tool with one rule -/
structure Fr (H H' : Hp) (x lv lh d : Addr) : Prop where
  sm : Same H H'
  x : H x = none
  v : H lv = none
  h : H lh = none
  d : H d = none
theorem kV_inj {a b : Key} (e : kV a = kV b) : a = b := by
  cases a with
  | inl n =>
    cases b with
    | inl m => rw [V.int.inj e]
    | inr s => exact V.noConfusion e
  | inr s =>
    cases b with
    | inl m => exact V.noConfusion e
    | inr s' => rw [V.str.inj e]
theorem isTest_ok {h : Int} {t : Key} (a : TestOk h t) : isTest (kD t) h = true := by
  rcases a with ⟨n, rfl, n0, n1⟩ | rfl
  · show (false || btw (.int n) 0 (h - 1)) = true
    rw [btw_true n0 (by omega)]
    rfl
  · rfl
theorem small_ok {d : PyData} (h : SrcsOk d) : SmallT d := by
  cases d <;> first | trivial | exact h.1
def sp_law_accepted : Sp := fun us H Q _ => ∃ (p : Addr) (v : V) (d : PyData) (h m : Int) (t : Key), us = [.int h, .int m, kV t, v] ∧ LD p H v d ∧ SrcsOk d ∧ ShowOk d ∧ TestOk h t ∧ 0 ≤ h ∧ h ≤ 3 ∧ 0 ≤ m ∧ m ≤ 3 ∧
  ∀ b H', Same H H' → (b = true ↔ ∃ ks, AreSrc d m h t ks) → Q (.bl b) H'
theorem takesN0 {X : Cx} : L2N.Takes X (fun _ _ _ _ => False) := fun u s' ⟨_, _, _, _, _, _, _, _, _, _, _, _, _, _, _, _, w⟩ => w.elim
theorem passAt0 {X : Cx} {σ : L2.St} {E : XK} : PassesAt CX0 X σ E := fun _ _ _ _ _ _ c => c.elim
/-! what a rule's dict shows -/
def fourK : List Key := [.inl 0, .inl 1, .inl 2, .inr ("value" : Str)]
def testsK : List Key := [.inl 0, .inl 1, .inl 2, .inr ("new" : Str)]
def listsK : Nat → List (List Key)
  | 0 => [[]]
  | n + 1 => [] :: fourK.flatMap fun k => (listsK n).map fun r => k :: r
theorem mem_listsK : ∀ (n : Nat) (ks : List Key), (∀ k ∈ ks, k ∈ fourK) → ks.length ≤ n → ks ∈ listsK n
  | 0, [], _, _ => List.mem_cons_self
  | 0, _ :: _, _, h => absurd h (by simp)
  | n + 1, [], _, _ => List.mem_cons_self
  | n + 1, k :: r, a, h => List.mem_cons_of_mem _ (List.mem_flatMap.mpr ⟨k, a k List.mem_cons_self, List.mem_map.mpr ⟨r, mem_listsK n r (fun z hz => a z (List.mem_cons_of_mem _ hz)) (by simpa using h), rfl⟩⟩)
def oneR (t : Key) (ks : List Key) : List (List Key × PyData) := [([Sum.inl 1, Sum.inl 0, t], ruleD (2, ks))]
theorem oneR_ok : (testsK.all fun t => (listsK 3).all fun ks => (PyData.dict (rowsD (oneR t ks))).showable && decide ((PyData.dict (rowsD (oneR t ks))).depth ≤ 60) && decide ((PyData.dict (rowsD (oneR t ks))).shown.length ≤ 1000)) = true := by decide +kernel
theorem oneR_show {h m : Int} {t : Key} {d : PyData} {ks : List Key} (ht : TestOk h t) (h3 : h ≤ 3) (m3 : m ≤ 3) (a : AreSrc d m h t ks) :
    (PyData.dict (rowsD (oneR t ks))).showable = true ∧ (PyData.dict (rowsD (oneR t ks))).depth ≤ 60 ∧ (PyData.dict (rowsD (oneR t ks))).shown.length ≤ sizeLine := by
  have mt : t ∈ testsK := by
    rcases ht with ⟨n, rfl, n0, n1⟩ | rfl
    · have : n = 0 ∨ n = 1 ∨ n = 2 := by omega
      rcases this with rfl | rfl | rfl <;> simp [testsK]
    · simp [testsK]
  have mk : ks ∈ listsK 3 := by
    refine mem_listsK 3 ks (fun k hk => ?_) ?_
    · rcases good_four h3 (mem_goodK.mpr (a.all k hk)) with rfl | rfl | rfl | rfl <;> simp [fourK]
    · have := a.len
      omega
  have z := List.all_eq_true.mp (List.all_eq_true.mp oneR_ok t mt) ks mk
  simp only [Bool.and_eq_true, decide_eq_true_eq] at z
  exact ⟨z.1.1, z.1.2, Nat.le_trans z.2 (by decide)⟩

section
variable {P : Program} {w : World} {K : PySem.W.Frag} {mg : Str → Option Value} {base : Heap}
abbrev N_law_accepted : List Str := ["held", "many", "test", "sources", "tool", "found", "e"]
theorem sc_law_accepted : FnScope N_law_accepted ["held", "many", "test", "sources"] (defScope s_law_accepted) := ⟨rfl, rfl, rfl, by decide +kernel, rfl, by decide +kernel, by decide +kernel⟩
theorem G_law_accepted (T : Tx K mg) : FnG P w K mg base CX0 6 T.law_accepted.f T.law_accepted.fd ["held", "many", "test", "sources"] sp_law_accepted := by
  refine okG T.law_accepted.F sc_law_accepted (fun vs H Q E h => ?_) (fun cdv A outer s H vs Q E gd hr h => ?_)
  · obtain ⟨p, v, d, h', m, t, rfl, _⟩ := h
    rfl
  · obtain ⟨p, v, d, h', m, t, rfl, hv, ok, sh, ht, h0, h3, m0, m3, q⟩ := h
    refine ⟨_, 
      (C8.pss_cut (ps_set (i := 4) sc_law_accepted.nd rfl (.inl rfl) (pe_makeG T.mk_Watcher (G_Watcher_init T) gd (hr.mono (by decide)) rfl T.Watcher.g T.Watcher_init.b .nil passNo (pa_cons pe_int pa_nil))) -- tool = Watcher(1)
      (C8.pss_cut (ps_expr (pe_methG (pv 4) T.Watcher.cl T.Watcher_add_state.M (G_Watcher_add_state T) gd (hr.mono (by decide)) T.Watcher_add_state.b .nil passNo (pa_cons pe_int (pa_cons (pv 0) pa_nil)))) -- tool.add_state(0, held)
      (C8.pss_cut (ps_expr (pe_methG (pv 4) T.Watcher.cl T.Watcher_add_state.M (G_Watcher_add_state T) gd (hr.mono (by decide)) T.Watcher_add_state.b .nil passNo (pa_cons pe_int (pa_cons (pv 1) pa_nil)))) -- tool.add_state(1, many)
      (pss_cons (ps_set (i := 5) sc_law_accepted.nd rfl (.inl rfl) pe_bl) -- found = True
      (C8.pss_cut (L2N.ps_try_as (i := 6) (Wout := fun _ _ _ _ => False) rfl rfl sc_law_accepted.nd rfl rfl ⟨rfl, by decide, Or.inl T.InvalidSources.e.T.gC⟩ takesN0
        (fun W pn xe tk _ => pss_one (ps_expr (by exact (pe_methGS (pv 4) T.Watcher.cl T.Watcher_add_rule.M (G_Watcher_add_ruleN T) gd (hr.mono (by decide)) T.Watcher_add_rule.b (fun σ => passAtN tk) (pa_cons pe_int (pa_cons pe_int (pa_cons (pv 2) (pa_cons pe_int (pa_cons (pv 3) pa_nil)))))))))
        (fun a oe cls d pn hz hf => (pss_cons (ps_set (i := 5) sc_law_accepted.nd rfl (.inl rfl) pe_bl)
          (pss_one (ps_if (PW.pt (pw_or (pt_cmpR op_ne (pe_callB (call_reprL gd hr.units) (by rfl) T.m_repr (by decide +kernel) (pa_cons (L2.pe_byE T.InvalidSources.e hz.zc hf (pv 6)) pa_nil)) (pe_callB (call_reprL gd hr.units) (by rfl) T.m_repr (by decide +kernel) (pa_cons (pv 3) pa_nil)) (nomark _)) (pw_or1 (pt_cmpR (op_dE (neg := true) hr.units) (pe_meth0H (E := fun _ _ _ _ => False) (pv 4) T.Watcher.cl T.Watcher_rules.M (G_Watcher_rulesH (P := P) (w := w) (base := base) T) ⟨(hr.mono (show 2 ≤ 5 by decide)).dp, (hr.mono (show 2 ≤ 5 by decide)).un⟩ ⟨(a, oe), ⟨rfl, hf.choose, hf.choose_spec, hz.2.2 _ hf.choose_spec⟩, List.mem_cons_self⟩ T.Watcher_rules.b (fun _ => passAt0)) pe_dnewK (nomark _))))) 
            (pss_one (ps_ret pe_non)) pss_nil)))))
      (pss_cons (ps_if (PW.pt (pw_and (pt_val (pv 5)) (pw_and1 (pt_cmpR op_ne (pe_callB (call_reprT gd hr.units) (by rfl) T.m_repr (by decide +kernel) (pa_cons (pe_meth0G (pv 4) T.Watcher.cl T.Watcher_rules.M (G_Watcher_rules T) gd (hr.mono (by decide)) T.Watcher_rules.b .nil pass0) pa_nil)) (pe_callB (call_reprT gd hr.units) (by rfl) T.m_repr (by decide +kernel) (pa_cons (pe_dispT (Nat.lt_of_le_of_lt (Nat.add_le_add_left (by decide) _) hr.units) (pe_tup (pa_cons pe_int (pa_cons pe_int (pa_cons (pv 2) pa_nil)))) (pe_tup (pa_cons pe_int (pa_cons (pv 3) pa_nil)))) pa_nil)) (nomark _))))) 
        (pss_one (ps_ret pe_non)) -- return None
         pss_nil) -- if found and repr(tool.rules()) != repr({(1, 0, test): (2, sources)}):
      (pss_one (ps_ret (pv 5))) -- return found
      )))))) , ?_⟩
    refine ⟨fun σ H' => ∃ x lv lh dd, σ = [some (.int h'), some (.int m), some (kV t), some v, some (.ref x), none, none] ∧ Fr H H' x lv lh dd ∧ WAt T.Watcher.C H' x lv lh dd 1 [0] [0] [], ?_, ?_⟩
    · refine fun x dx nx ndx ne => ?_
      have sX : Same H (upd (upd H dx (.own x)) x (.ins T.Watcher.C dx [])) := (same_new ndx).trans (same_new (by rw [upd_ne ne.symm]; exact nx))
      refine ⟨x, x, dx, .int 1, .int 1, rfl, upd_same, .int _, fun n en n0 n1 H' lv lh dd b' f1 f2 f3 hW => ⟨rfl, ?_⟩, fun bad e he => absurd bad (by decide)⟩
      cases en
      exact ⟨x, lv, lh, dd, rfl, ⟨fun c o e => b' c o (sX c o e) (ne_of_none e nx), nx, sX.free f1, sX.free f2, sX.free f3⟩, hW⟩
    rintro σ H1 ⟨x, lv, lh, dd, rfl, F, hW⟩
    refine ⟨fun σ H' => σ = [some (.int h'), some (.int m), some (kV t), some v, some (.ref x), none, none] ∧ Fr H H' x lv lh dd ∧ WAt T.Watcher.C H' x lv lh dd 1 [0, 0] [0, h'] [], ?_, ?_⟩
    · obtain ⟨dx, hx⟩ := hW.ins
      refine ⟨.ref x, rfl, x, dx, _, rfl, hx, rfl, .int h', rfl, x, lv, lh, dd, 1, _, _, [], x, .int 0, .int h', .int 0, .int h', rfl, hW, .int _, .int _, fun bad => absurd bad (by decide), fun _ bad => ?_, fun _ _ six => absurd six (by decide), fun a b ea eb _ _ _ H'' k1 hW' => ?_⟩
      · rw [btw_true h0 h3] at bad
        cases bad
      · cases ea
        cases eb
        exact ⟨rfl, ⟨fun c o e => k1 c o (F.sm c o e) (ne_of_none e F.v) (ne_of_none e F.h), F.x, F.v, F.h, F.d⟩, hW'⟩
    rintro σ H2 ⟨rfl, F, hW⟩
    refine ⟨fun σ H' => σ = [some (.int h'), some (.int m), some (kV t), some v, some (.ref x), none, none] ∧ Fr H H' x lv lh dd ∧ WAt T.Watcher.C H' x lv lh dd 1 [0, 0, 1] [0, h', m] [], ?_, ?_⟩
    · obtain ⟨dx, hx⟩ := hW.ins
      refine ⟨.ref x, rfl, x, dx, _, rfl, hx, rfl, .int m, rfl, x, lv, lh, dd, 1, _, _, [], x, .int 1, .int m, .int 1, .int m, rfl, hW, .int _, .int _, fun bad => absurd bad (by decide), fun _ bad => ?_, fun _ _ six => absurd six (by decide), fun a b ea eb _ _ _ H'' k1 hW' => ?_⟩
      · rw [btw_true m0 m3] at bad
        cases bad
      · cases ea
        cases eb
        exact ⟨rfl, ⟨fun c o e => k1 c o (F.sm c o e) (ne_of_none e F.v) (ne_of_none e F.h), F.x, F.v, F.h, F.d⟩, hW'⟩
    rintro σ H3 ⟨rfl, F, hW⟩
    have hv3 : LD p H3 v d := LD.mono (fun c o e _ => F.sm c o e) d hv
    refine ⟨fun σ H' => ∃ b, σ = [some (.int h'), some (.int m), some (kV t), some v, some (.ref x), some (.bl b), none] ∧ Same H H' ∧ (b = true → ∃ ks, AreSrc d m h' t ks ∧ WAt T.Watcher.C H' x lv lh dd 1 [0, 0, 1] [0, h', m] [([Sum.inl 1, Sum.inl 0, t], ruleD (2, ks))]) ∧ (b = false → ¬ ∃ ks, AreSrc d m h' t ks), ?_, ?_⟩
    · obtain ⟨dx, hx⟩ := hW.ins
      refine ⟨.ref x, rfl, x, dx, _, rfl, hx, rfl, kV t, rfl, v, rfl, x, lv, lh, dd, 1, [0, 0, 1], [0, h', m], [], p, 1, 0, 2, t, v, d, rfl, hW, hv3, small_ok ok, by decide, by decide, by decide, by decide, by decide, by decide, by decide, isTest_ok ht, fun z => (by cases z), fun bad e he => ?_, fun ks a H' k1 hW' => ?_⟩
      · have s5 : Same H3 (upd H3 e (.xd [(("sources" : Str), v)])) := same_new he
        have hv5 : LD p (upd H3 e (.xd [(("sources" : Str), v)])) v d := LD.mono (fun c o e _ => s5 c o e) d hv3
        refine ⟨true, T.InvalidSources.e.T.te, fun _ a na => ?_, fun z => Bool.noConfusion z⟩
        have nb : ¬ ∃ ks, AreSrc d m h' t ks := bad
        refine ⟨.ref a, rfl, rfl, rfl, e, v, rfl, upd_same, p, v, d, rfl, hv5, sh.sho, sh.dep, sh.len, v, rfl, p, v, d, rfl, hv5, sh.sho, sh.dep, sh.len, rfl, false, by rw [decide_eq_true rfl]; rfl, ?_⟩
        refine iteF ?_
        refine ⟨.ref x, rfl, x, dx, _, rfl, s5 _ _ hx, rfl, x, lv, lh, dd, 1, _, _, rfl, hW.mono s5, fun D H' sm hD => ?_⟩
        refine fun f nf => ?_
        refine ⟨D, f, [], rfl, rfl, same_new nf _ _ hD, .inl upd_same, false, rfl, ?_⟩
        refine iteF ?_
        refine ⟨false, rfl, ((F.sm.trans s5).trans sm).trans (same_new nf), fun z => Bool.noConfusion z, fun _ => nb⟩
      · refine ⟨true, rfl, fun c o e => k1 c o (F.sm c o e) (ne_of_none e F.d), fun _ => ⟨ks, a, hW'⟩, fun z => Bool.noConfusion z⟩
    rintro σ H4 ⟨b, rfl, s4, q1, q2⟩
    cases b with
    | false => exact ⟨.bl false, rfl, false, rfl, iteF (iteF ⟨.bl false, rfl, q false _ s4 ⟨fun z => Bool.noConfusion z, fun z => absurd z (q2 rfl)⟩⟩)⟩
    | true =>
      obtain ⟨ks, a, hW4⟩ := q1 rfl
      obtain ⟨z1, z2, z3⟩ := oneR_show ht h3 m3 a
      obtain ⟨dx, hx⟩ := hW4.ins
      refine ⟨.bl true, rfl, true, rfl, iteT ?_⟩
      refine ⟨.ref x, rfl, x, dx, _, rfl, hx, rfl, x, lv, lh, dd, 1, _, _, _, rfl, hW4, fun f H5 kvs s5 nf hf hkv => ?_⟩
      have es : sortR [([Sum.inl 1, Sum.inl 0, t], ruleD (2, ks))] = oneR t ks := by
        simp [sortR, srt, lookR, oneR]
      rw [es] at hkv
      refine ⟨f, kvs, oneR t ks, rfl, hf, hkv, z1, z2, z3, ?_⟩
      refine fun g ng => ?_
      have sg : Same H5 (upd H5 g (.dT [])) := same_new ng
      have hg : upd H5 g (.dT []) g = some (.dT []) := upd_same
      generalize upd H5 g (.dT []) = H6 at sg hg
      refine ⟨kV t, rfl, by show 3 ≤ sizeLine; decide, fun TT nT => ?_⟩
      have sT : Same H6 (upd H6 TT (.tup [.int 1, .int 0, kV t])) := same_new nT
      have hT : upd H6 TT (.tup [.int 1, .int 0, kV t]) TT = some (.tup (([Sum.inl 1, Sum.inl 0, t] : List Key).map kV)) := upd_same
      generalize upd H6 TT (.tup [.int 1, .int 0, kV t]) = H7 at sT hT
      refine ⟨v, rfl, by show 2 ≤ sizeLine; decide, fun U nU => ?_⟩
      have sU : Same H7 (upd H7 U (.tup [.int 2, v])) := same_new nU
      have hU : upd H7 U (.tup [.int 2, v]) U = some (.tup [.int 2, v]) := upd_same
      generalize upd H7 U (.tup [.int 2, v]) = H8 at sU hU
      have hg8 := sU _ _ (sT _ _ hg)
      refine ⟨[Sum.inl 1, Sum.inl 0, t], TT, rfl, sU _ _ hT, hg8, ?_⟩
      have tp : Tups H8 (upd H8 g (.dT [([Sum.inl 1, Sum.inl 0, t], .ref U)])) := Tups.put hg8 (fun _ z => by cases z)
      have s8 : Same H H8 := (((s4.trans s5).trans sg).trans sT).trans sU
      have hv8 : LD p H8 v d := LD.mono (fun c o e _ => s8 c o e) d hv
      rw [a.d] at hv8
      obtain ⟨a5, xs5, ev, _, ha5, hs5⟩ := hv8.isTup
      obtain ⟨ks', e1, e2⟩ := srcs_of hs5 (h := h') (t := t) (fun e he => by obtain ⟨k, hk, rfl⟩ := List.mem_map.mp he; exact a.all k hk)
      rw [← map_kD_inj e1] at e2
      subst e2
      refine ⟨g, _, oneR t ks, rfl, upd_same, .cons ⟨rfl, ?_⟩ .nil, z1, z2, z3, rfl, false, by rw [decide_eq_true rfl]; rfl, iteF ?_⟩
      · rw [ev] at hU
        exact .tup (tp _ _ hU) (.cons (.int 2) (.cons (.tup (tp _ _ ha5) TDs.keys) .nil))
      · refine ⟨.bl true, rfl, q true _ (fun c o e => ?_) ⟨fun _ => ⟨ks, a⟩, fun _ => rfl⟩⟩
        rw [upd_ne (ne_of_none (s5 _ _ (s4 _ _ e)) ng)]
        exact s8 _ _ e
end

/-! ### the law -/
def rCatLx : R2 := fun x y H Q => ∃ p, rCatL p x y H Q
theorem op_catLx {X : Cx} : OpR X (binaryOp .Add) rCatLx := fun pins s σ H x y v u Q I rx ry h => by
  obtain ⟨p, h⟩ := h
  exact op_catL (p := p) pins s σ H x y v u Q I rx ry h
def rSlLx : V → Option Int → Option Int → Hp → VK → Prop := fun x lo hi H Q => ∃ p, rSlL p x lo hi H Q
theorem sl_Lx {X : Cx} : SlR X rSlLx := fun pins s σ H x v vl vu lo hi sl Q I rx hs pl pu h => by
  obtain ⟨p, h⟩ := h
  exact sl_L (p := p) pins s σ H x v vl vu lo hi sl Q I rx hs pl pu h
def someV (l d : Addr) : List V := [.int 0, .int 1, .int 2, .int 3, .str "value", .str "new", .bl true, .non, .int (-1), .bl false, .ref l, .ref d]
theorem some_ld {p l d : Addr} {H : Hp} (n2 : l ≠ p) (n3 : d ≠ p) (ns : l ≠ sysModules) (h2 : H l = some (.lst [.int 0])) (h3 : H d = some (.dK [])) : LDs p H (someV l d) someD :=
  .cons (.int _) (.cons (.int _) (.cons (.int _) (.cons (.int _) (.cons (.str _) (.cons (.str _) (.cons (.bl _) (.cons .non (.cons (.int _) (.cons (.bl _) (.cons (.lst n2 ns h2 (.cons (.int _) .nil)) (.cons (.dic n3 h3) .nil)))))))))))
def testsV (h : Int) : List V := rgV 0 h ++ [.str "new"]
structure Scn (H : Hp) (p c L S : Addr) (h : Int) : Prop where
  pen : Pen H p c
  nL : L ≠ p
  nS : S ≠ p
  L : H L = some (.lst (testsV h))
  S : ∃ xs, H S = some (.lst xs) ∧ LDs p H xs someD
theorem Scn.keep {H H' : Hp} {p c L S : Addr} {h : Int} (z : Scn H p c L S h) (k : Keep p H H') (g : Pen H' p c) : Scn H' p c L S h := by
  obtain ⟨xs, hx, hl⟩ := z.S
  exact ⟨g, z.nL, z.nS, k _ _ z.L z.nL, xs, k _ _ hx z.nS, LDs.mono k _ hl⟩
theorem show_of {d : PyData} (s : Sm d) (w : wt d ≤ 100) (dep : d.depth ≤ 60) : ShowOk d := by
  obtain ⟨a, b⟩ := sm_shown d s
  exact ⟨a, dep, Nat.le_trans (show d.shown.length ≤ 11000 by omega) (by decide)⟩
theorem some_sm {d : PyData} (h : d ∈ someD) : Sm d ∧ wt d ≤ 3 ∧ d.depth ≤ 2 := by
  simp only [someD, List.mem_cons, List.not_mem_nil, or_false] at h
  rcases h with rfl | rfl | rfl | rfl | rfl | rfl | rfl | rfl | rfl | rfl | rfl | rfl <;> refine ⟨?_, by decide, by decide⟩ <;> first | trivial | exact ⟨(by show _ < 10 ^ 99; decide), trivial⟩ | (show _ < 10 ^ 99; decide) | (show _ ≤ 100; decide +kernel) | (show _ = _; rfl)
theorem some_sms : ∀ {ds : List PyData}, (∀ e ∈ ds, e ∈ someD) → Sms ds ∧ wts ds ≤ 3 * ds.length ∧ PyData.depthAll ds ≤ 2
  | [], _ => ⟨trivial, Nat.le_refl _, Nat.zero_le _⟩
  | d :: r, h => by
    obtain ⟨a1, a2, a3⟩ := some_sm (h d List.mem_cons_self)
    obtain ⟨b1, b2, b3⟩ := some_sms (ds := r) fun e he => h e (List.mem_cons_of_mem _ he)
    refine ⟨⟨a1, b1⟩, ?_, ?_⟩
    · simp only [wts, List.length_cons]
      omega
    · simp only [PyData.depthAll]
      omega
theorem some_show {ds : List PyData} (h : ∀ e ∈ ds, e ∈ someD) (l : ds.length ≤ 4) : SrcsOk (.tuple ds) ∧ ShowOk (.tuple ds) := by
  obtain ⟨b1, b2, b3⟩ := some_sms h
  refine ⟨⟨Nat.le_trans l (by decide), fun e he => ⟨.inl (h e he), ?_⟩⟩, show_of b1 ?_ ?_⟩
  · obtain ⟨a1, a2, a3⟩ := some_sm (h e he)
    exact show_of a1 (Nat.le_trans a2 (by decide)) (Nat.le_trans a3 (by decide))
  · simp only [wt]
    omega
  · simp only [PyData.depth]
    omega
def oddD (ds : List PyData) : List PyData := [.list ds, .none, .str "value", .tuple (ds ++ [.int 0]), .tuple (cutA ds (some 1) none), .tuple [.tuple ds]]
theorem odd_show {ds : List PyData} (h : ∀ e ∈ ds, e ∈ someD) (l : ds.length ≤ 3) : ∀ d ∈ oddD ds, SrcsOk d ∧ ShowOk d := by
  intro d hd
  obtain ⟨b1, b2, b3⟩ := some_sms h
  obtain ⟨c1, c2⟩ := some_show h (Nat.le_succ_of_le l)
  simp only [oddD, List.mem_cons, List.not_mem_nil, or_false] at hd
  rcases hd with rfl | rfl | rfl | rfl | rfl | rfl
  · refine ⟨trivial, show_of b1 ?_ ?_⟩
    · simp only [wt]
      omega
    · simp only [PyData.depth]
      omega
  · exact ⟨trivial, by decide +kernel, by decide +kernel, by decide +kernel⟩
  · exact ⟨trivial, by decide +kernel, by decide +kernel, by decide +kernel⟩
  · refine some_show (fun e he => ?_) (by rw [List.length_append]; show _ + 1 ≤ 4; omega)
    rcases List.mem_append.mp he with he | he
    · exact h e he
    · rw [List.mem_singleton.mp he]
      exact List.mem_cons_self
  · refine some_show (fun e he => h e (List.mem_of_mem_drop (List.mem_of_mem_take he))) ?_
    unfold cutA
    rw [List.length_take, List.length_drop]
    omega
  · refine ⟨⟨by show 1 ≤ 50; decide, fun e he => ?_⟩, show_of ⟨b1, trivial⟩ ?_ ?_⟩
    · rw [List.mem_singleton.mp he]
      exact ⟨.inr ⟨ds, rfl⟩, c2⟩
    · simp only [wt, wts]
      omega
    · simp only [PyData.depth, PyData.depthAll]
      omega
theorem tests_len {h : Int} : (testsV h).length = (rgV 0 h).length + 1 := by
  unfold testsV
  rw [List.length_append]
  rfl
theorem tests_pos {h : Int} : (0 : Int) < ((testsV h).length : Int) := by
  rw [tests_len]
  omega
theorem tests_big {h : Int} (h3 : h ≤ 3) : ((testsV h).length : Int) < 2 ^ 100 := by
  rw [tests_len, rgV_length]
  omega
theorem tests_at {h d : Int} (h0 : 0 ≤ h) (d0 : 0 ≤ d) (d1 : d < ((testsV h).length : Int)) : ∃ t, atI (testsV h) d = some (kV t) ∧ TestOk h t := by
  obtain ⟨j, rfl⟩ : ∃ j : Nat, d = j := ⟨d.toNat, by omega⟩
  rw [tests_len, rgV_length] at d1
  by_cases hj : j < h.toNat
  · refine ⟨.inl j, atI_nat ?_, .inl ⟨j, rfl, by omega, by omega⟩⟩
    unfold testsV
    rw [rgV_keys, List.getElem?_append_left (by simpa using hj), List.getElem?_map, List.getElem?_map, List.getElem?_range hj]
    rfl
  · refine ⟨.inr ("new" : Str), atI_nat ?_, .inr rfl⟩
    have e : j = (rgV 0 h).length := by rw [rgV_length]; omega
    unfold testsV
    rw [e, List.getElem?_append_right (Nat.le_refl _), Nat.sub_self]
    rfl
section
variable {P : Program} {w : World} {K : PySem.W.Frag} {mg : Str → Option Value} {base : Heap}
def sp_law (K : PySem.W.Frag) : Sp := fun vs H Q _ => ∃ (a : Addr) (ns : List Int), vs = [.ref a] ∧ SqL K H a (ns.map V.int) ∧ ns.length ≤ 63 ∧ ∀ H', Q (.bl true) H'
abbrev N_law : List Str := ["script", "pen", "held", "many", "tests", "some", "turn", "test", "sources", "lap"]
theorem sc_law : FnScope N_law ["script"] (defScope s_law) := ⟨rfl, rfl, rfl, by decide +kernel, rfl, by decide +kernel, by decide +kernel⟩
theorem ok_law (T : Tx K mg) {f : Addr} {fd : FuncData} (F : Fun K "law" "law" s_law f fd) : FnG P w K mg base CX0 7 f fd ["script"] (sp_law K) := by
  refine okG F sc_law (fun vs H Q E h => ?_) (fun cdv A outer s H vs Q E gd hr h => ?_)
  · obtain ⟨a, ns, rfl, _⟩ := h
    rfl
  · obtain ⟨a, ns, rfl, hS, hl, q⟩ := h
    refine ⟨_, 
      (pss_cons (ps_set (i := 1) sc_law.nd rfl (.inr rfl) (pe_callG (G_law_pen T) gd (hr.mono (by decide)) rfl T.law_pen.g T.law_pen.F.kp T.law_pen.b .nil pass0 (pa_cons (pv 0) pa_nil))) -- pen = _law_pen(script)
      (pss_cons (ps_par (i := 2) (j := 3) rfl sc_law.nd rfl rfl (by decide) rfl rfl (pa_cons (pe_callG (G_law_draw T) gd (hr.mono (by decide)) rfl T.law_draw.g T.law_draw.F.kp T.law_draw.b .nil pass0 (pa_cons (pv 1) (pa_cons pe_int pa_nil))) (pa_cons (pe_callG (G_law_draw T) gd (hr.mono (by decide)) rfl T.law_draw.g T.law_draw.F.kp T.law_draw.b .nil pass0 (pa_cons (pv 1) (pa_cons pe_int pa_nil))) pa_nil)) rfl) -- held, many = (_law_draw(pen, 4), _law_draw(pen, 4))
      (pss_cons (ps_set (i := 4) sc_law.nd rfl (.inl rfl) (pe_op op_cat (pe_listRg rfl (by rfl) T.m_list (prg_1 (by rfl) T.m_range (pv 2))) (pe_lst (pa_cons pe_str pa_nil)))) -- tests = list(range(held)) + ['new']
      (C8.pss_cut (ps_set (i := 5) sc_law.nd rfl (.inr rfl) (pe_lst (pa_cons pe_int (pa_cons pe_int (pa_cons pe_int (pa_cons pe_int (pa_cons pe_str (pa_cons pe_str (pa_cons pe_bl (pa_cons pe_non (pa_cons (pe_un un_neg pe_int) (pa_cons pe_bl (pa_cons (pe_lstS (pa_cons pe_int pa_nil)) (pa_cons pe_dnewK pa_nil)))))))))))))) -- some = [0, 1, 2, 3, 'value', 'new', True, None, -1, False, [0], {}]
      (C8.pss_cut (ps_for PassesOwn.never rfl (pi_range1 rfl T.m_range (pa_cons pe_int pa_nil)) (pg_name (i := 6) sc_law.nd rfl (.inl rfl)) 
        (C8.pss_cut (ps_set (i := 7) sc_law.nd rfl (.inl rfl) (pe_ix ix_list (pv 4) (pe_callG (G_law_draw T) gd (hr.mono (by decide)) rfl T.law_draw.g T.law_draw.F.kp T.law_draw.b .nil pass0 (pa_cons (pv 1) (pa_cons (pe_callB call_len_seq (by rfl) T.m_len PySem.boot_len (pa_cons (pv 4) pa_nil)) pa_nil))) (fun _ _ => rfl))) -- test = tests[_law_draw(pen, len(tests))]
        (C8.pss_cut (ps_set (i := 8) sc_law.nd rfl (.inl rfl) (pe_callTy call_tuple_of (by rfl) T.m_tuple (by decide +kernel) (pa_cons (pe_lc (own := [("lap", 9)]) (g := gName 9) rfl sc_law.nd (pi_range1 rfl T.m_range (pa_cons (pv 3) pa_nil)) (blkOk_by (N := N_law) (sc := defScope s_law) (by decide +kernel)) (fun _ _ _ _ _ => (pg_name (i := 9) sc_law.nd rfl (.inl rfl))) (fun _ _ _ _ _ => pts_nil) (fun _ _ _ _ _ => (pe_ix (r := rIxL K) ix_list (pv 5) (pe_callG (G_law_draw T) gd (hr.mono (by decide)) rfl T.law_draw.g T.law_draw.F.kp T.law_draw.b .nil pass0 (pa_cons (pv 1) (pa_cons (pe_ix (r := rIxL K) ix_list (pe_lst (pa_cons pe_int (pa_cons pe_int (pa_cons pe_int pa_nil)))) (pe_callG (G_law_draw T) gd (hr.mono (by decide)) rfl T.law_draw.g T.law_draw.F.kp T.law_draw.b .nil pass0 (pa_cons (pv 1) (pa_cons pe_int pa_nil))) (fun _ _ => rfl)) pa_nil))) (fun _ _ => rfl)))) pa_nil))) -- sources = tuple([some[_law_draw(pen, [3, 5, 12][_law_draw(pen, 3)])] for lap in range(many)])
        (C8.pss_cut (ps_if (pt_cmpR op_eq (pe_callG (G_law_draw T) gd (hr.mono (by decide)) rfl T.law_draw.g T.law_draw.F.kp T.law_draw.b .nil pass0 (pa_cons (pv 1) (pa_cons pe_int pa_nil))) pe_int (nomark _)) 
          (pss_one (ps_set (i := 8) sc_law.nd rfl (.inl rfl) (pe_ix ix_list (pe_lst (pa_cons (pe_callTy call_lstL (by rfl) T.m_list (by decide +kernel) (pa_cons (pv 8) pa_nil)) (pa_cons pe_non (pa_cons pe_str (pa_cons (pe_op op_catLx (pv 8) (pe_tup (pa_cons pe_int pa_nil))) (pa_cons (pe_slice sl_Lx (pv 8) (po_some pe_int) po_none) (pa_cons (pe_tup (pa_cons (pv 8) pa_nil)) pa_nil))))))) (pe_callG (G_law_draw T) gd (hr.mono (by decide)) rfl T.law_draw.g T.law_draw.F.kp T.law_draw.b .nil pass0 (pa_cons (pv 1) (pa_cons pe_int pa_nil))) (fun _ _ => rfl)))) -- sources = [list(sources), None, 'value', sources + (0,), sources[1:], (sources,)][_law_draw(pen, 6)]
           pss_nil) -- if _law_draw(pen, 8) == 0:
        (pss_one (ps_if (pt_cmpR op_ne (pe_callB (call_reprD gd hr.units) (by rfl) T.m_repr (by decide +kernel) (pa_cons (pe_callG (G_law_accepted T) gd (hr.mono (by decide)) rfl T.law_accepted.g T.law_accepted.F.kp T.law_accepted.b .nil pass0 (pa_cons (pv 2) (pa_cons (pv 3) (pa_cons (pv 7) (pa_cons (pv 8) pa_nil))))) pa_nil)) (pe_callB (call_reprD gd hr.units) (by rfl) T.m_repr (by decide +kernel) (pa_cons (pe_callG (G_law_fit T) gd (hr.mono (by decide)) rfl T.law_fit.g T.law_fit.F.kp T.law_fit.b .nil pass0 (pa_cons (pv 2) (pa_cons (pv 3) (pa_cons (pv 7) (pa_cons (pv 8) pa_nil))))) pa_nil)) (nomark _)) 
          (pss_one (ps_ret pe_bl)) -- return False
           pss_nil)) -- if repr(_law_accepted(held, many, test, sources)) != repr(_law_fit(held, many, test, sources)):
        )))) -- for turn in range(25):
      (pss_one (ps_ret pe_bl)) -- return True
      ))))) , ?_⟩
    refine ⟨.ref a, rfl, a, ns, rfl, hS, hl, fun p c H1 s1 np nc hP => ?_⟩
    refine ⟨.ref p, rfl, p, c, 4, rfl, hP, by decide, by decide, fun h H2 h0 h1 k2 hP2 => ?_⟩
    refine ⟨.ref p, rfl, p, c, 4, rfl, hP2, by decide, by decide, fun m H3 m0 m1 k3 hP3 => ?_⟩
    refine ⟨.int h, .int m, rfl, ?_⟩
    refine ⟨.int h, rfl, h, rfl, RgOk.of_le (by decide) (by omega) (by decide) h0, fun l nl => ?_⟩
    refine ⟨by show 1 ≤ sizeLine; decide, fun f nf => ?_⟩
    have gl : (rgV 0 h).length ≤ 3 := by rw [rgV_length]; omega
    have hl4 : upd (upd H3 l (.lst (rgV 0 h))) f (.lst [.str "new"]) l = some (.lst (rgV 0 h)) := same_new nf _ _ upd_same
    refine ⟨l, f, _, _, rfl, rfl, hl4, upd_same, Nat.le_of_lt (small1000 (by show (rgV 0 h).length + 1 ≤ 1000; omega)), fun L nL => ?_⟩
    have s4 : Same H3 (upd (upd (upd H3 l (.lst (rgV 0 h))) f (.lst [.str "new"])) L (.lst (rgV 0 h ++ [.str "new"]))) := (same_new nl).trans ((same_new nf).trans (same_new nL))
    have P4 := hP3.mono s4
    have hL4 : upd (upd (upd H3 l (.lst (rgV 0 h))) f (.lst [.str "new"])) L (.lst (rgV 0 h ++ [.str "new"])) L = some (.lst (testsV h)) := upd_same
    have nLp : L ≠ p := ne_at (hP3.mono ((same_new nl).trans (same_new nf))).some' nL
    generalize upd (upd (upd H3 l (.lst (rgV 0 h))) f (.lst [.str "new"])) L (.lst (rgV 0 h ++ [.str "new"])) = H4 at s4 P4 hL4
    refine ⟨fun σ H' => ∃ S, σ = [some (.ref a), some (.ref p), some (.int h), some (.int m), some (.ref L), some (.ref S), none, none, none, none] ∧ Scn H' p c L S h, ?_, ?_⟩
    · refine ⟨1, rfl, ?_⟩
      refine ⟨by show 1 ≤ sizeLine; decide, fun l0 n0 ns0 => fun d0 nd0 => ?_⟩
      refine ⟨by show 12 ≤ sizeLine; decide, fun S nS => ?_⟩
      have k0 := same_new (o := .lst [.int 0]) n0
      have k1 := same_new (o := .dK []) nd0
      have k2 := same_new (o := .lst (someV l0 d0)) nS
      have k5 := k0.trans (k1.trans k2)
      refine ⟨S, rfl, P4.mono k5, nLp, ne_at (P4.mono (k0.trans k1)).some' nS, k5 _ _ hL4, _, upd_same, ?_⟩
      exact some_ld (ne_at P4.some' n0) (ne_at (P4.mono k0).some' nd0) ns0 ((k1.trans k2) _ _ upd_same) (k2 _ _ upd_same)
    rintro σ H5 ⟨S, rfl, C5⟩
    refine ⟨fun σ H' => True, ?_, fun σ H' _ => q _⟩
    refine ⟨25, rfl, by decide, by decide, ?_⟩
    refine for_range (n := 25) (fun i σ H' => ∃ y6 y7 y8 y9, σ = [some (.ref a), some (.ref p), some (.int h), some (.int m), some (.ref L), some (.ref S), y6, y7, y8, y9] ∧ Scn H' p c L S h) ⟨none, none, none, none, rfl, C5⟩ ?_ (fun _ _ _ => trivial)
    rintro i σ H6 hi ⟨y6, y7, y8, y9, rfl, C6⟩
    generalize 0 + (i : Int) = tn
    refine ⟨fun σ H' => ∃ t, σ = [some (.ref a), some (.ref p), some (.int h), some (.int m), some (.ref L), some (.ref S), some (.int tn), some (kV t), y8, y9] ∧ TestOk h t ∧ Scn H' p c L S h, ?_, ?_⟩
    · refine ⟨.ref L, rfl, .ref p, rfl, .ref L, rfl, L, _, rfl, .inl (SqL.of C6.L), p, c, _, rfl, C6.pen, tests_pos, tests_big (by omega), fun d H7 d0 d1 k7 P7 => ?_⟩
      obtain ⟨t, et, ot⟩ := tests_at h0 d0 d1
      exact ⟨L, _, d, kV t, rfl, rfl, SqL.of (k7 _ _ C6.L C6.nL), et, t, rfl, ot, C6.keep k7 P7⟩
    clear C6 C5 H6 H5
    rintro σ H6 ⟨t, rfl, ot, C6⟩
    refine ⟨fun σ H' => ∃ b ds, σ = [some (.ref a), some (.ref p), some (.int h), some (.int m), some (.ref L), some (.ref S), some (.int tn), some (kV t), some (.ref b), y9] ∧ LD p H' (.ref b) (.tuple ds) ∧ (ds.length : Int) = m ∧ (∀ e ∈ ds, e ∈ someD) ∧ Scn H' p c L S h, ?_, ?_⟩
    · refine ⟨.int m, rfl, m, rfl, by omega, by omega, fun D nD => ?_⟩
      have Dp := (C6.pen.free nD).1.symm
      have Dc := (C6.pen.free nD).2.symm
      obtain ⟨ys, hS6, hys⟩ := C6.S
      have lys : ys.length = 12 := hys.length
      refine lc_range (lo := 0) (n := m.toNat) (fun i H' => ∃ xs ds, H' D = some (.lst xs) ∧ LDs p H6 xs ds ∧ xs.length = i ∧ (∀ e ∈ ds, e ∈ someD) ∧ Keep p H6 H' ∧ Pen H' p c) ?_ ?_ ?_
      · exact ⟨[], [], upd_same, .nil, rfl, fun _ z => (by cases z), fun b o e _ => same_new nD _ _ e, C6.pen.mono (same_new nD)⟩
      · rintro i H' hi ⟨xs, ds, hD, hx, lx, mx, kk, PP⟩
        refine ⟨rfl, ?_⟩
        refine ⟨.ref S, rfl, .ref p, rfl, by show 3 ≤ sizeLine; decide, fun l nl => ?_⟩
        have hl6 : upd H' l (.lst [.int 3, .int 5, .int 12]) l = some (.lst [.int 3, .int 5, .int 12]) := upd_same
        have nlp := ne_at PP.some' nl
        have sl := same_new (o := .lst [.int 3, .int 5, .int 12]) nl
        have PL := PP.mono sl
        generalize upd H' l (.lst [.int 3, .int 5, .int 12]) = Hl at hl6 sl PL
        refine ⟨.ref p, rfl, p, c, 3, rfl, PL, by decide, by decide, fun e H2 e0 e1 k2 P2 => ?_⟩
        obtain ⟨N, eN, n0, n1⟩ : ∃ N : Int, atI [V.int 3, V.int 5, V.int 12] e = some (.int N) ∧ 3 ≤ N ∧ N ≤ 12 := by
          have : e = 0 ∨ e = 1 ∨ e = 2 := by omega
          rcases this with rfl | rfl | rfl
          · exact ⟨3, rfl, by decide, by decide⟩
          · exact ⟨5, rfl, by decide, by decide⟩
          · exact ⟨12, rfl, by decide, by decide⟩
        refine ⟨l, _, e, .int N, rfl, rfl, SqL.of (k2 _ _ hl6 nlp), eN, ?_⟩
        refine ⟨p, c, N, rfl, P2, by omega, by omega, fun z H3 z0 z1 k3 P3 => ?_⟩
        obtain ⟨j, rfl⟩ : ∃ j : Nat, z = j := ⟨z.toNat, by omega⟩
        have jl : j < ys.length := by omega
        have hj : ys[j]? = some ys[j] := List.getElem?_eq_getElem jl
        obtain ⟨dj, edj, ldj⟩ := hys.get hj
        have kA : Keep p H6 H3 := fun b o eb nb => k3 _ _ (k2 _ _ (sl _ _ (kk _ _ eb nb)) nb) nb
        refine ⟨S, ys, j, ys[j], rfl, rfl, SqL.of (kA _ _ hS6 C6.nS), atI_nat hj, ?_⟩
        have hD3 : H3 D = some (.lst xs) := k3 _ _ (k2 _ _ (sl _ _ hD) Dp) Dp
        refine ⟨xs, hD3, small1000 (by omega), xs ++ [ys[j]], ds ++ [dj], upd_same, hx.app (.cons ldj .nil), by rw [List.length_append, lx]; rfl, fun e he => ?_, fun b o eb nb => ?_, P3.put Dp Dc⟩
        · rcases List.mem_append.mp he with he | he
          · exact mx e he
          · rw [List.mem_singleton.mp he]
            exact List.mem_of_getElem? edj
        · rw [upd_ne (ne_of_none eb nD)]
          exact kA _ _ eb nb
      · rintro H' ⟨xs, ds, hD, hx, lx, mx, kk, PP⟩
        refine ⟨D, xs, rfl, .inl ⟨SqL.of hD, fun l nl => ?_⟩⟩
        have kl : Keep p H6 (upd H' l (.tup xs)) := fun b o eb nb => same_new nl _ _ (kk _ _ eb nb)
        refine ⟨l, ds, rfl, .tup (ne_at PP.some' nl) upd_same (LDs.mono kl _ hx), ?_, mx, C6.keep kl (PP.mono (same_new nl))⟩
        have := hx.length
        omega
    clear C6 H6
    rintro σ H6 ⟨b, ds, rfl, hb, lb, mb, C6⟩
    refine ⟨fun σ H' => ∃ v d, σ = [some (.ref a), some (.ref p), some (.int h), some (.int m), some (.ref L), some (.ref S), some (.int tn), some (kV t), some v, y9] ∧ LD p H' v d ∧ SrcsOk d ∧ ShowOk d ∧ Scn H' p c L S h, ?_, ?_⟩
    · refine ⟨.ref p, rfl, p, c, 8, rfl, C6.pen, by decide, by decide, fun e H7 e0 e1 k7 P7 => ?_⟩
      have C7 := C6.keep k7 P7
      have l3 : ds.length ≤ 3 := by omega
      replace hb := LD.mono k7 _ hb
      refine ⟨rfl, _, rfl, ?_⟩
      by_cases he : e = 0
      · subst he
        refine iteC rfl ?_
        obtain ⟨b', xs, eb, nbp, hbt, hxs⟩ := hb.isTup
        cases eb
        have hp7 := C7.pen.some'
        refine ⟨.ref b, rfl, b, xs, rfl, hbt, fun l1 n1 ns1 => ?_⟩
        have k1 := same_new (o := .lst xs) n1
        have d1 : LD p (upd H7 l1 (.lst xs)) (.ref l1) (.list ds) := .lst (ne_at hp7 n1) ns1 upd_same (LDs.mono (But.same k1) _ hxs)
        have C8 := C7.keep (fun b o e _ => k1 _ _ e) (C7.pen.mono k1)
        replace hb := LD.mono (But.same k1) _ hb
        generalize upd H7 l1 (.lst xs) = Ha at k1 d1 C8 hb
        refine ⟨.ref b, rfl, by show 1 ≤ sizeLine; decide, fun t1 nt1 => ?_⟩
        have k2 := same_new (o := .tup [.int 0]) nt1
        have dz : LD p (upd Ha t1 (.tup [.int 0])) (.ref t1) (.tuple [.int 0]) := .tup (ne_at C8.pen.some' nt1) upd_same (.cons (.int _) .nil)
        replace C8 := C8.keep (fun b o e _ => k2 _ _ e) (C8.pen.mono k2)
        replace hb := LD.mono (But.same k2) _ hb
        replace d1 := LD.mono (But.same k2) _ d1
        generalize upd Ha t1 (.tup [.int 0]) = Hb at k2 dz C8 hb d1
        refine ⟨p, ds, [.int 0], hb, dz, C8.pen.some', by show ds.length + 1 ≤ 100000; omega, fun t2 Hc k3 d2 => ?_⟩
        replace C8 := C8.keep (fun b o e _ => k3 _ _ e) (C8.pen.mono k3)
        replace hb := LD.mono (But.same k3) _ hb
        replace d1 := LD.mono (But.same k3) _ d1
        refine ⟨.ref b, rfl, 1, rfl, ?_⟩
        refine ⟨p, ds, hb, C8.pen.some', fun t3 Hd k4 d3 => ?_⟩
        replace C8 := C8.keep (fun b o e _ => k4 _ _ e) (C8.pen.mono k4)
        replace hb := LD.mono (But.same k4) _ hb
        replace d1 := LD.mono (But.same k4) _ d1
        replace d2 := LD.mono (But.same k4) _ d2
        refine ⟨.ref b, rfl, by show 1 ≤ sizeLine; decide, fun t4 nt4 => ?_⟩
        have k5 := same_new (o := .tup [.ref b]) nt4
        have d4 : LD p (upd Hd t4 (.tup [.ref b])) (.ref t4) (.tuple [.tuple ds]) := .tup (ne_at C8.pen.some' nt4) upd_same (.cons (LD.mono (But.same k5) _ hb) .nil)
        replace C8 := C8.keep (fun b o e _ => k5 _ _ e) (C8.pen.mono k5)
        replace d1 := LD.mono (But.same k5) _ d1
        replace d2 := LD.mono (But.same k5) _ d2
        replace d3 := LD.mono (But.same k5) _ d3
        generalize upd Hd t4 (.tup [.ref b]) = He at k5 d4 C8 d1 d2 d3
        refine ⟨by show 6 ≤ sizeLine; decide, fun ll nll => ?_⟩
        have k6 := same_new (o := .lst [.ref l1, .non, .str "value", .ref t2, .ref t3, .ref t4]) nll
        have hll : upd He ll (.lst [.ref l1, .non, .str "value", .ref t2, .ref t3, .ref t4]) ll = some (.lst [.ref l1, .non, .str "value", .ref t2, .ref t3, .ref t4]) := upd_same
        have nlp := ne_at C8.pen.some' nll
        replace C8 := C8.keep (fun b o e _ => k6 _ _ e) (C8.pen.mono k6)
        have all : LDs p He [.ref l1, .non, .str "value", .ref t2, .ref t3, .ref t4] (oddD ds) := .cons d1 (.cons .non (.cons (.str _) (.cons d2 (.cons d3 (.cons d4 .nil)))))
        replace all := LDs.mono (But.same k6) _ all
        generalize upd He ll (.lst [.ref l1, .non, .str "value", .ref t2, .ref t3, .ref t4]) = Hf at k6 hll C8 all
        refine ⟨.ref p, rfl, p, c, 6, rfl, C8.pen, by decide, by decide, fun z Hg z0 z1 k8 P8 => ?_⟩
        obtain ⟨j, rfl⟩ : ∃ j : Nat, z = j := ⟨z.toNat, by omega⟩
        have jl : j < [V.ref l1, .non, .str "value", .ref t2, .ref t3, .ref t4].length := by show j < 6; omega
        have hj : [V.ref l1, .non, .str "value", .ref t2, .ref t3, .ref t4][j]? = some [V.ref l1, .non, .str "value", .ref t2, .ref t3, .ref t4][j] := List.getElem?_eq_getElem jl
        obtain ⟨dj, edj, ldj⟩ := all.get hj
        obtain ⟨o1, o2⟩ := odd_show mb l3 dj (List.mem_of_getElem? edj)
        exact ⟨ll, _, j, _, rfl, rfl, SqL.of (k8 _ _ hll nlp), atI_nat hj, _, dj, rfl, LD.mono k8 _ ldj, o1, o2, C8.keep k8 P8⟩
      · refine iteCn (fun z => he (by injection z)) ?_
        obtain ⟨c1, c2⟩ := some_show mb (Nat.le_succ_of_le l3)
        exact ⟨_, _, rfl, hb, c1, c2, C7⟩
    clear C6 H6 hb lb mb b ds
    rintro σ H6 ⟨v, d, rfl, hv, ok, sh, C6⟩
    refine ⟨.int h, rfl, .int m, rfl, kV t, rfl, v, rfl, p, v, d, h, m, t, rfl, hv, ok, sh, ot, h0, by omega, m0, by omega, fun b1 H7 s7 hb1 => ?_⟩
    refine ⟨.bl b1, .bool b1, rfl, .bl _, rfl, rfl, by show 0 ≤ 60; decide, by cases b1 <;> decide +kernel, ?_⟩
    refine ⟨.int h, rfl, .int m, rfl, kV t, rfl, v, rfl, p, v, d, h, m, t, rfl, LD.mono (But.same s7) _ hv, (C6.pen.mono s7).some', ok, h0, by omega, m0, by omega, fun b2 H8 s8 hb2 => ?_⟩
    refine ⟨.bl b2, .bool b2, rfl, .bl _, rfl, rfl, by show 0 ≤ 60; decide, by cases b2 <;> decide +kernel, ?_⟩
    have eb : b1 = b2 := Bool.eq_iff_iff.mpr (hb1.trans hb2.symm)
    subst eb
    refine ⟨rfl, false, by rw [decide_eq_true rfl]; rfl, iteF ?_⟩
    exact ⟨_, _, _, _, rfl, C6.keep (fun b o e _ => s8 _ _ (s7 _ _ e)) ((C6.pen.mono s7).mono s8)⟩
end

theorem all_mk {l : PySem.W.OpenLaw} {w : World} {K : PySem.W.Frag} {h : Heap} {mg : Str → Option Value} {fa f_is_integer f_is_between f_Watcher_init f_Watcher_add_state f_Watcher_add_rule f_Watcher_rules f_Watcher_require_state f_Watcher_require_word f_require_verdict f_is_test f_are_sources f_is_source f_rule_order f_part_order f_law_pen f_law_fresh f_law_draw f_law_fit f_law_accepted f_law : Addr} (X : K.In h) (G : h.Ns mainGlobals mg) (hfa : mg "law" = some (.ref fa))
    {od0 an0 od1 an1 od2 an2 od3 an3 od4 an4 od5 an5 od6 an6 od7 an7 od8 an8 od9 an9 od10 an10 od11 an11 od12 an12 od13 an13 od14 an14 od15 an15 od16 an16 od17 an17 od18 an18 od19 an19 : Option Addr} {sl0 sl1 sl2 sl3 sl4 sl5 sl6 sl7 sl8 sl9 sl10 sl11 sl12 sl13 sl14 sl15 sl16 sl17 sl18 sl19 : Array (Option Value)} {oc0 kV0 dc0 pm0 cd0 ct0 oc1 kV1 dc1 pm1 cd1 ct1 oc2 kV2 dc2 pm2 cd2 ct2 oc3 kV3 dc3 pm3 cd3 ct3 oc4 kV4 dc4 pm4 cd4 ct4 oc5 kV5 dc5 pm5 cd5 ct5 oc6 kV6 dc6 pm6 cd6 ct6 oc7 kV7 dc7 pm7 cd7 ct7 oc8 kV8 dc8 pm8 cd8 ct8 oc9 kV9 dc9 pm9 cd9 ct9 oc10 kV10 dc10 pm10 cd10 ct10 oc11 kV11 dc11 pm11 cd11 ct11 oc12 kV12 dc12 pm12 cd12 ct12 oc13 kV13 dc13 pm13 cd13 ct13 oc14 kV14 dc14 pm14 cd14 ct14 oc15 kV15 dc15 pm15 cd15 ct15 oc16 kV16 dc16 pm16 cd16 ct16 oc17 kV17 dc17 pm17 cd17 ct17 oc18 kV18 dc18 pm18 cd18 ct18 oc19 kV19 dc19 pm19 cd19 ct19 : Value}
    {ck_MOST_WORDS ck_MOST_STATES ck_MOST_HELD ck_MOST_VERDICT ck_NEW ck_VALUE : Tok}
    {C_Watcher : Addr}
    (a0 : PySem.W.nsIn K mainGlobals "is_integer" = some (some (.ref f_is_integer)))
    (l0 : K.lookup f_is_integer = some ⟨oc0, od0, .func (PySem.W.fnOf "is_integer" "is_integer" (defArgs s_is_integer) (defBody s_is_integer) (defScope s_is_integer) .none kV0 dc0 pm0 an0 cd0 ct0), sl0⟩) (c0 : PySem.W.codeIn K cd0 "is_integer" = true) (k0 : PySem.W.keepIn K (.ref f_is_integer) = true)
    (a1 : PySem.W.nsIn K mainGlobals "is_between" = some (some (.ref f_is_between)))
    (l1 : K.lookup f_is_between = some ⟨oc1, od1, .func (PySem.W.fnOf "is_between" "is_between" (defArgs s_is_between) (defBody s_is_between) (defScope s_is_between) .none kV1 dc1 pm1 an1 cd1 ct1), sl1⟩) (c1 : PySem.W.codeIn K cd1 "is_between" = true) (k1 : PySem.W.keepIn K (.ref f_is_between) = true)
    (a2 : PySem.W.findIn K (.ref C_Watcher) "__init__" = some (some (.ref f_Watcher_init))) (i2 : PySem.W.isFn K (.ref f_Watcher_init) = true)
    (l2 : K.lookup f_Watcher_init = some ⟨oc2, od2, .func (PySem.W.fnOf "__init__" "Watcher.__init__" (defArgs s_Watcher_init) (defBody s_Watcher_init) (defScope s_Watcher_init) .none kV2 dc2 pm2 an2 cd2 ct2), sl2⟩) (c2 : PySem.W.codeIn K cd2 "Watcher.__init__" = true) (k2 : PySem.W.keepIn K (.ref f_Watcher_init) = true)
    (a3 : PySem.W.findIn K (.ref C_Watcher) "add_state" = some (some (.ref f_Watcher_add_state))) (i3 : PySem.W.isFn K (.ref f_Watcher_add_state) = true)
    (l3 : K.lookup f_Watcher_add_state = some ⟨oc3, od3, .func (PySem.W.fnOf "add_state" "Watcher.add_state" (defArgs s_Watcher_add_state) (defBody s_Watcher_add_state) (defScope s_Watcher_add_state) .none kV3 dc3 pm3 an3 cd3 ct3), sl3⟩) (c3 : PySem.W.codeIn K cd3 "Watcher.add_state" = true) (k3 : PySem.W.keepIn K (.ref f_Watcher_add_state) = true)
    (a4 : PySem.W.findIn K (.ref C_Watcher) "add_rule" = some (some (.ref f_Watcher_add_rule))) (i4 : PySem.W.isFn K (.ref f_Watcher_add_rule) = true)
    (l4 : K.lookup f_Watcher_add_rule = some ⟨oc4, od4, .func (PySem.W.fnOf "add_rule" "Watcher.add_rule" (defArgs s_Watcher_add_rule) (defBody s_Watcher_add_rule) (defScope s_Watcher_add_rule) .none kV4 dc4 pm4 an4 cd4 ct4), sl4⟩) (c4 : PySem.W.codeIn K cd4 "Watcher.add_rule" = true) (k4 : PySem.W.keepIn K (.ref f_Watcher_add_rule) = true)
    (a5 : PySem.W.findIn K (.ref C_Watcher) "rules" = some (some (.ref f_Watcher_rules))) (i5 : PySem.W.isFn K (.ref f_Watcher_rules) = true)
    (l5 : K.lookup f_Watcher_rules = some ⟨oc5, od5, .func (PySem.W.fnOf "rules" "Watcher.rules" (defArgs s_Watcher_rules) (defBody s_Watcher_rules) (defScope s_Watcher_rules) .none kV5 dc5 pm5 an5 cd5 ct5), sl5⟩) (c5 : PySem.W.codeIn K cd5 "Watcher.rules" = true) (k5 : PySem.W.keepIn K (.ref f_Watcher_rules) = true)
    (a6 : PySem.W.findIn K (.ref C_Watcher) "require_state" = some (some (.ref f_Watcher_require_state))) (i6 : PySem.W.isFn K (.ref f_Watcher_require_state) = true)
    (l6 : K.lookup f_Watcher_require_state = some ⟨oc6, od6, .func (PySem.W.fnOf "require_state" "Watcher.require_state" (defArgs s_Watcher_require_state) (defBody s_Watcher_require_state) (defScope s_Watcher_require_state) .none kV6 dc6 pm6 an6 cd6 ct6), sl6⟩) (c6 : PySem.W.codeIn K cd6 "Watcher.require_state" = true) (k6 : PySem.W.keepIn K (.ref f_Watcher_require_state) = true)
    (a7 : PySem.W.findIn K (.ref C_Watcher) "require_word" = some (some (.ref f_Watcher_require_word))) (i7 : PySem.W.isFn K (.ref f_Watcher_require_word) = true)
    (l7 : K.lookup f_Watcher_require_word = some ⟨oc7, od7, .func (PySem.W.fnOf "require_word" "Watcher.require_word" (defArgs s_Watcher_require_word) (defBody s_Watcher_require_word) (defScope s_Watcher_require_word) .none kV7 dc7 pm7 an7 cd7 ct7), sl7⟩) (c7 : PySem.W.codeIn K cd7 "Watcher.require_word" = true) (k7 : PySem.W.keepIn K (.ref f_Watcher_require_word) = true)
    (a8 : PySem.W.nsIn K mainGlobals "require_verdict" = some (some (.ref f_require_verdict)))
    (l8 : K.lookup f_require_verdict = some ⟨oc8, od8, .func (PySem.W.fnOf "require_verdict" "require_verdict" (defArgs s_require_verdict) (defBody s_require_verdict) (defScope s_require_verdict) .none kV8 dc8 pm8 an8 cd8 ct8), sl8⟩) (c8 : PySem.W.codeIn K cd8 "require_verdict" = true) (k8 : PySem.W.keepIn K (.ref f_require_verdict) = true)
    (a9 : PySem.W.nsIn K mainGlobals "is_test" = some (some (.ref f_is_test)))
    (l9 : K.lookup f_is_test = some ⟨oc9, od9, .func (PySem.W.fnOf "is_test" "is_test" (defArgs s_is_test) (defBody s_is_test) (defScope s_is_test) .none kV9 dc9 pm9 an9 cd9 ct9), sl9⟩) (c9 : PySem.W.codeIn K cd9 "is_test" = true) (k9 : PySem.W.keepIn K (.ref f_is_test) = true)
    (a10 : PySem.W.nsIn K mainGlobals "are_sources" = some (some (.ref f_are_sources)))
    (l10 : K.lookup f_are_sources = some ⟨oc10, od10, .func (PySem.W.fnOf "are_sources" "are_sources" (defArgs s_are_sources) (defBody s_are_sources) (defScope s_are_sources) .none kV10 dc10 pm10 an10 cd10 ct10), sl10⟩) (c10 : PySem.W.codeIn K cd10 "are_sources" = true) (k10 : PySem.W.keepIn K (.ref f_are_sources) = true)
    (a11 : PySem.W.nsIn K mainGlobals "is_source" = some (some (.ref f_is_source)))
    (l11 : K.lookup f_is_source = some ⟨oc11, od11, .func (PySem.W.fnOf "is_source" "is_source" (defArgs s_is_source) (defBody s_is_source) (defScope s_is_source) .none kV11 dc11 pm11 an11 cd11 ct11), sl11⟩) (c11 : PySem.W.codeIn K cd11 "is_source" = true) (k11 : PySem.W.keepIn K (.ref f_is_source) = true)
    (a12 : PySem.W.nsIn K mainGlobals "rule_order" = some (some (.ref f_rule_order)))
    (l12 : K.lookup f_rule_order = some ⟨oc12, od12, .func (PySem.W.fnOf "rule_order" "rule_order" (defArgs s_rule_order) (defBody s_rule_order) (defScope s_rule_order) .none kV12 dc12 pm12 an12 cd12 ct12), sl12⟩) (c12 : PySem.W.codeIn K cd12 "rule_order" = true) (k12 : PySem.W.keepIn K (.ref f_rule_order) = true)
    (a13 : PySem.W.nsIn K mainGlobals "part_order" = some (some (.ref f_part_order)))
    (l13 : K.lookup f_part_order = some ⟨oc13, od13, .func (PySem.W.fnOf "part_order" "part_order" (defArgs s_part_order) (defBody s_part_order) (defScope s_part_order) .none kV13 dc13 pm13 an13 cd13 ct13), sl13⟩) (c13 : PySem.W.codeIn K cd13 "part_order" = true) (k13 : PySem.W.keepIn K (.ref f_part_order) = true)
    (a14 : PySem.W.nsIn K mainGlobals "_law_pen" = some (some (.ref f_law_pen)))
    (l14 : K.lookup f_law_pen = some ⟨oc14, od14, .func (PySem.W.fnOf "_law_pen" "_law_pen" (defArgs s_law_pen) (defBody s_law_pen) (defScope s_law_pen) .none kV14 dc14 pm14 an14 cd14 ct14), sl14⟩) (c14 : PySem.W.codeIn K cd14 "_law_pen" = true) (k14 : PySem.W.keepIn K (.ref f_law_pen) = true)
    (a15 : PySem.W.nsIn K mainGlobals "_law_fresh" = some (some (.ref f_law_fresh)))
    (l15 : K.lookup f_law_fresh = some ⟨oc15, od15, .func (PySem.W.fnOf "_law_fresh" "_law_fresh" (defArgs s_law_fresh) (defBody s_law_fresh) (defScope s_law_fresh) .none kV15 dc15 pm15 an15 cd15 ct15), sl15⟩) (c15 : PySem.W.codeIn K cd15 "_law_fresh" = true) (k15 : PySem.W.keepIn K (.ref f_law_fresh) = true)
    (a16 : PySem.W.nsIn K mainGlobals "_law_draw" = some (some (.ref f_law_draw)))
    (l16 : K.lookup f_law_draw = some ⟨oc16, od16, .func (PySem.W.fnOf "_law_draw" "_law_draw" (defArgs s_law_draw) (defBody s_law_draw) (defScope s_law_draw) .none kV16 dc16 pm16 an16 cd16 ct16), sl16⟩) (c16 : PySem.W.codeIn K cd16 "_law_draw" = true) (k16 : PySem.W.keepIn K (.ref f_law_draw) = true)
    (a17 : PySem.W.nsIn K mainGlobals "_law_fit" = some (some (.ref f_law_fit)))
    (l17 : K.lookup f_law_fit = some ⟨oc17, od17, .func (PySem.W.fnOf "_law_fit" "_law_fit" (defArgs s_law_fit) (defBody s_law_fit) (defScope s_law_fit) .none kV17 dc17 pm17 an17 cd17 ct17), sl17⟩) (c17 : PySem.W.codeIn K cd17 "_law_fit" = true) (k17 : PySem.W.keepIn K (.ref f_law_fit) = true)
    (a18 : PySem.W.nsIn K mainGlobals "_law_accepted" = some (some (.ref f_law_accepted)))
    (l18 : K.lookup f_law_accepted = some ⟨oc18, od18, .func (PySem.W.fnOf "_law_accepted" "_law_accepted" (defArgs s_law_accepted) (defBody s_law_accepted) (defScope s_law_accepted) .none kV18 dc18 pm18 an18 cd18 ct18), sl18⟩) (c18 : PySem.W.codeIn K cd18 "_law_accepted" = true) (k18 : PySem.W.keepIn K (.ref f_law_accepted) = true)
    (a19 : PySem.W.nsIn K mainGlobals "law" = some (some (.ref f_law)))
    (l19 : K.lookup f_law = some ⟨oc19, od19, .func (PySem.W.fnOf "law" "law" (defArgs s_law) (defBody s_law) (defScope s_law) .none kV19 dc19 pm19 an19 cd19 ct19), sl19⟩) (c19 : PySem.W.codeIn K cd19 "law" = true) (k19 : PySem.W.keepIn K (.ref f_law) = true)
    (wC_Watcher : PySem.W.nsIn K mainGlobals "Watcher" = some (some (.ref C_Watcher))) (pg_Watcher : PySem.W.plainGet K C_Watcher Str.empty = true) (hd_Watcher : PySem.W.hasDictIn K C_Watcher = true) (po_Watcher : PySem.W.plainOver K C_Watcher = true) (sa_Watcher : PySem.W.findIn K (.ref C_Watcher) "__setattr__" = some (some (.builtin "object.__setattr__"))) (mk_Watcher : PySem.W.makesIn K C_Watcher = true) (kc_Watcher : PySem.W.keepIn K (.ref C_Watcher) = true)
    (nf_Watcherwords : PySem.W.findIn K (.ref C_Watcher) "words" = some none)
    (nf_Watcher_verdicts : PySem.W.findIn K (.ref C_Watcher) "_verdicts" = some none)
    (nf_Watcher_held : PySem.W.findIn K (.ref C_Watcher) "_held" = some none)
    (nf_Watcher_rules : PySem.W.findIn K (.ref C_Watcher) "_rules" = some none)
    {eC0 ei0 : Addr} {nm0 eq0 : Str} {eN0 : Addr} {bs0 : List Value} {sn0 : List Str} {sub0 : List Value} {ab0 : Bool} {col0 : Option Bool} {dd0 : Option Addr} {m00 m10 m20 m30 m50 : Option Value} {eod0 ean0 : Option Addr} {esl0 : Array (Option Value)} {eoc0 edc0 epm0 ecd0 ect0 : Value}
    (eaC0 : PySem.W.nsIn K mainGlobals "NotAWord" = some (some (.ref eC0))) (exL0 : K.lookup eC0 = some (excClassObj nm0 eq0 eC0 eN0 bs0 [.type "ValueError", .type "Exception", .type "BaseException", .type "object"] true sn0 sub0 ab0 col0 dd0 m00 m10 m20 m30 m50 "ValueError.__new__"))
    (esa0 : PySem.W.findIn K (.ref eC0) "__setattr__" = some (some (.builtin "object.__setattr__"))) (ega0 : PySem.W.findIn K (.ref eC0) "__getattribute__" = some (some (.builtin "BaseException.__getattribute__"))) (egg0 : PySem.W.findIn K (.ref eC0) "__getattr__" = some none) (enb0 : PySem.W.findIn K (.ref eC0) "word" = some none)
    (ea10 : PySem.W.findIn K (.ref eC0) "__init__" = some (some (.ref ei0))) (et10 : PySem.W.typeIn K (.ref ei0) = some (.type "function"))
    (el10 : K.lookup ei0 = some ⟨eoc0, eod0, .func (PySem.W.fnOf "__init__" "NotAWord.__init__" (defArgs s_NotAWord_init) (defBody s_NotAWord_init) (defScope s_NotAWord_init) .none .none edc0 epm0 ean0 ecd0 ect0), esl0⟩) (ec10 : PySem.W.codeIn K ecd0 "NotAWord.__init__" = true)
    (ekC0 : PySem.W.keepIn K (.ref eC0) = true) (eeC0 : PySem.W.subIn K (.ref eC0) (.type "BaseException") = some true) (etC0 : PySem.W.typeIn K (.ref eC0) = some (.type "type")) (ehC0 : PySem.W.hasDictIn K eC0 = true) (eiC0 : PySem.W.isClsIn K eC0 = true) (esC0 : PySem.W.subIn K (.ref eC0) (.ref eC0) = some true)
    {eC1 ei1 : Addr} {nm1 eq1 : Str} {eN1 : Addr} {bs1 : List Value} {sn1 : List Str} {sub1 : List Value} {ab1 : Bool} {col1 : Option Bool} {dd1 : Option Addr} {m01 m11 m21 m31 m51 : Option Value} {eod1 ean1 : Option Addr} {esl1 : Array (Option Value)} {eoc1 edc1 epm1 ecd1 ect1 : Value}
    (eaC1 : PySem.W.nsIn K mainGlobals "NotAVerdict" = some (some (.ref eC1))) (exL1 : K.lookup eC1 = some (excClassObj nm1 eq1 eC1 eN1 bs1 [.type "ValueError", .type "Exception", .type "BaseException", .type "object"] true sn1 sub1 ab1 col1 dd1 m01 m11 m21 m31 m51 "ValueError.__new__"))
    (esa1 : PySem.W.findIn K (.ref eC1) "__setattr__" = some (some (.builtin "object.__setattr__"))) (ega1 : PySem.W.findIn K (.ref eC1) "__getattribute__" = some (some (.builtin "BaseException.__getattribute__"))) (egg1 : PySem.W.findIn K (.ref eC1) "__getattr__" = some none) (enb1 : PySem.W.findIn K (.ref eC1) "verdict" = some none)
    (ea11 : PySem.W.findIn K (.ref eC1) "__init__" = some (some (.ref ei1))) (et11 : PySem.W.typeIn K (.ref ei1) = some (.type "function"))
    (el11 : K.lookup ei1 = some ⟨eoc1, eod1, .func (PySem.W.fnOf "__init__" "NotAVerdict.__init__" (defArgs s_NotAVerdict_init) (defBody s_NotAVerdict_init) (defScope s_NotAVerdict_init) .none .none edc1 epm1 ean1 ecd1 ect1), esl1⟩) (ec11 : PySem.W.codeIn K ecd1 "NotAVerdict.__init__" = true)
    (ekC1 : PySem.W.keepIn K (.ref eC1) = true) (eeC1 : PySem.W.subIn K (.ref eC1) (.type "BaseException") = some true) (etC1 : PySem.W.typeIn K (.ref eC1) = some (.type "type")) (ehC1 : PySem.W.hasDictIn K eC1 = true) (eiC1 : PySem.W.isClsIn K eC1 = true) (esC1 : PySem.W.subIn K (.ref eC1) (.ref eC1) = some true)
    {eC2 ei2 : Addr} {nm2 eq2 : Str} {eN2 : Addr} {bs2 : List Value} {sn2 : List Str} {sub2 : List Value} {ab2 : Bool} {col2 : Option Bool} {dd2 : Option Addr} {m02 m12 m22 m32 m52 : Option Value} {eod2 ean2 : Option Addr} {esl2 : Array (Option Value)} {eoc2 edc2 epm2 ecd2 ect2 : Value}
    (eaC2 : PySem.W.nsIn K mainGlobals "InvalidTest" = some (some (.ref eC2))) (exL2 : K.lookup eC2 = some (excClassObj nm2 eq2 eC2 eN2 bs2 [.type "ValueError", .type "Exception", .type "BaseException", .type "object"] true sn2 sub2 ab2 col2 dd2 m02 m12 m22 m32 m52 "ValueError.__new__"))
    (esa2 : PySem.W.findIn K (.ref eC2) "__setattr__" = some (some (.builtin "object.__setattr__"))) (ega2 : PySem.W.findIn K (.ref eC2) "__getattribute__" = some (some (.builtin "BaseException.__getattribute__"))) (egg2 : PySem.W.findIn K (.ref eC2) "__getattr__" = some none) (enb2 : PySem.W.findIn K (.ref eC2) "test" = some none)
    (ea12 : PySem.W.findIn K (.ref eC2) "__init__" = some (some (.ref ei2))) (et12 : PySem.W.typeIn K (.ref ei2) = some (.type "function"))
    (el12 : K.lookup ei2 = some ⟨eoc2, eod2, .func (PySem.W.fnOf "__init__" "InvalidTest.__init__" (defArgs s_InvalidTest_init) (defBody s_InvalidTest_init) (defScope s_InvalidTest_init) .none .none edc2 epm2 ean2 ecd2 ect2), esl2⟩) (ec12 : PySem.W.codeIn K ecd2 "InvalidTest.__init__" = true)
    (ekC2 : PySem.W.keepIn K (.ref eC2) = true) (eeC2 : PySem.W.subIn K (.ref eC2) (.type "BaseException") = some true) (etC2 : PySem.W.typeIn K (.ref eC2) = some (.type "type")) (ehC2 : PySem.W.hasDictIn K eC2 = true) (eiC2 : PySem.W.isClsIn K eC2 = true) (esC2 : PySem.W.subIn K (.ref eC2) (.ref eC2) = some true)
    {eC3 ei3 : Addr} {nm3 eq3 : Str} {eN3 : Addr} {bs3 : List Value} {sn3 : List Str} {sub3 : List Value} {ab3 : Bool} {col3 : Option Bool} {dd3 : Option Addr} {m03 m13 m23 m33 m53 : Option Value} {eod3 ean3 : Option Addr} {esl3 : Array (Option Value)} {eoc3 edc3 epm3 ecd3 ect3 : Value}
    (eaC3 : PySem.W.nsIn K mainGlobals "InvalidSources" = some (some (.ref eC3))) (exL3 : K.lookup eC3 = some (excClassObj nm3 eq3 eC3 eN3 bs3 [.type "ValueError", .type "Exception", .type "BaseException", .type "object"] true sn3 sub3 ab3 col3 dd3 m03 m13 m23 m33 m53 "ValueError.__new__"))
    (esa3 : PySem.W.findIn K (.ref eC3) "__setattr__" = some (some (.builtin "object.__setattr__"))) (ega3 : PySem.W.findIn K (.ref eC3) "__getattribute__" = some (some (.builtin "BaseException.__getattribute__"))) (egg3 : PySem.W.findIn K (.ref eC3) "__getattr__" = some none) (enb3 : PySem.W.findIn K (.ref eC3) "sources" = some none)
    (ea13 : PySem.W.findIn K (.ref eC3) "__init__" = some (some (.ref ei3))) (et13 : PySem.W.typeIn K (.ref ei3) = some (.type "function"))
    (el13 : K.lookup ei3 = some ⟨eoc3, eod3, .func (PySem.W.fnOf "__init__" "InvalidSources.__init__" (defArgs s_InvalidSources_init) (defBody s_InvalidSources_init) (defScope s_InvalidSources_init) .none .none edc3 epm3 ean3 ecd3 ect3), esl3⟩) (ec13 : PySem.W.codeIn K ecd3 "InvalidSources.__init__" = true)
    (ekC3 : PySem.W.keepIn K (.ref eC3) = true) (eeC3 : PySem.W.subIn K (.ref eC3) (.type "BaseException") = some true) (etC3 : PySem.W.typeIn K (.ref eC3) = some (.type "type")) (ehC3 : PySem.W.hasDictIn K eC3 = true) (eiC3 : PySem.W.isClsIn K eC3 = true) (esC3 : PySem.W.subIn K (.ref eC3) (.ref eC3) = some true)
    {eC4 ei4 : Addr} {nm4 eq4 : Str} {eN4 : Addr} {bs4 : List Value} {sn4 : List Str} {sub4 : List Value} {ab4 : Bool} {col4 : Option Bool} {dd4 : Option Addr} {m04 m14 m24 m34 m54 : Option Value} {eod4 ean4 : Option Addr} {esl4 : Array (Option Value)} {eoc4 edc4 epm4 ecd4 ect4 : Value}
    (eaC4 : PySem.W.nsIn K mainGlobals "UnknownState" = some (some (.ref eC4))) (exL4 : K.lookup eC4 = some (excClassObj nm4 eq4 eC4 eN4 bs4 [.type "LookupError", .type "Exception", .type "BaseException", .type "object"] true sn4 sub4 ab4 col4 dd4 m04 m14 m24 m34 m54 "LookupError.__new__"))
    (esa4 : PySem.W.findIn K (.ref eC4) "__setattr__" = some (some (.builtin "object.__setattr__"))) (ega4 : PySem.W.findIn K (.ref eC4) "__getattribute__" = some (some (.builtin "BaseException.__getattribute__"))) (egg4 : PySem.W.findIn K (.ref eC4) "__getattr__" = some none) (enb4 : PySem.W.findIn K (.ref eC4) "state" = some none)
    (ea14 : PySem.W.findIn K (.ref eC4) "__init__" = some (some (.ref ei4))) (et14 : PySem.W.typeIn K (.ref ei4) = some (.type "function"))
    (el14 : K.lookup ei4 = some ⟨eoc4, eod4, .func (PySem.W.fnOf "__init__" "UnknownState.__init__" (defArgs s_UnknownState_init) (defBody s_UnknownState_init) (defScope s_UnknownState_init) .none .none edc4 epm4 ean4 ecd4 ect4), esl4⟩) (ec14 : PySem.W.codeIn K ecd4 "UnknownState.__init__" = true)
    (ekC4 : PySem.W.keepIn K (.ref eC4) = true) (eeC4 : PySem.W.subIn K (.ref eC4) (.type "BaseException") = some true) (etC4 : PySem.W.typeIn K (.ref eC4) = some (.type "type")) (ehC4 : PySem.W.hasDictIn K eC4 = true) (eiC4 : PySem.W.isClsIn K eC4 = true) (esC4 : PySem.W.subIn K (.ref eC4) (.ref eC4) = some true)
    {eC5 ei5 : Addr} {nm5 eq5 : Str} {eN5 : Addr} {bs5 : List Value} {sn5 : List Str} {sub5 : List Value} {ab5 : Bool} {col5 : Option Bool} {dd5 : Option Addr} {m05 m15 m25 m35 m55 : Option Value} {eod5 ean5 : Option Addr} {esl5 : Array (Option Value)} {eoc5 edc5 epm5 ecd5 ect5 : Value}
    (eaC5 : PySem.W.nsIn K mainGlobals "RuleExists" = some (some (.ref eC5))) (exL5 : K.lookup eC5 = some (excClassObj nm5 eq5 eC5 eN5 bs5 [.type "RuntimeError", .type "Exception", .type "BaseException", .type "object"] true sn5 sub5 ab5 col5 dd5 m05 m15 m25 m35 m55 "RuntimeError.__new__"))
    (esa5 : PySem.W.findIn K (.ref eC5) "__setattr__" = some (some (.builtin "object.__setattr__"))) (ega5 : PySem.W.findIn K (.ref eC5) "__getattribute__" = some (some (.builtin "BaseException.__getattribute__"))) (egg5 : PySem.W.findIn K (.ref eC5) "__getattr__" = some none) (enb5 : PySem.W.findIn K (.ref eC5) "rule" = some none)
    (ea15 : PySem.W.findIn K (.ref eC5) "__init__" = some (some (.ref ei5))) (et15 : PySem.W.typeIn K (.ref ei5) = some (.type "function"))
    (el15 : K.lookup ei5 = some ⟨eoc5, eod5, .func (PySem.W.fnOf "__init__" "RuleExists.__init__" (defArgs s_RuleExists_init) (defBody s_RuleExists_init) (defScope s_RuleExists_init) .none .none edc5 epm5 ean5 ecd5 ect5), esl5⟩) (ec15 : PySem.W.codeIn K ecd5 "RuleExists.__init__" = true)
    (ekC5 : PySem.W.keepIn K (.ref eC5) = true) (eeC5 : PySem.W.subIn K (.ref eC5) (.type "BaseException") = some true) (etC5 : PySem.W.typeIn K (.ref eC5) = some (.type "type")) (ehC5 : PySem.W.hasDictIn K eC5 = true) (eiC5 : PySem.W.isClsIn K eC5 = true) (esC5 : PySem.W.subIn K (.ref eC5) (.ref eC5) = some true)
    {eC6 ei6 : Addr} {nm6 eq6 : Str} {eN6 : Addr} {bs6 : List Value} {sn6 : List Str} {sub6 : List Value} {ab6 : Bool} {col6 : Option Bool} {dd6 : Option Addr} {m06 m16 m26 m36 m56 : Option Value} {eod6 ean6 : Option Addr} {esl6 : Array (Option Value)} {eoc6 edc6 epm6 ecd6 ect6 : Value}
    (eaC6 : PySem.W.nsIn K mainGlobals "LimitExceeded" = some (some (.ref eC6))) (exL6 : K.lookup eC6 = some (excClassObj nm6 eq6 eC6 eN6 bs6 [.type "OverflowError", .type "ArithmeticError", .type "Exception", .type "BaseException", .type "object"] true sn6 sub6 ab6 col6 dd6 m06 m16 m26 m36 m56 "OverflowError.__new__"))
    (esa6 : PySem.W.findIn K (.ref eC6) "__setattr__" = some (some (.builtin "object.__setattr__"))) (ega6 : PySem.W.findIn K (.ref eC6) "__getattribute__" = some (some (.builtin "BaseException.__getattribute__"))) (egg6 : PySem.W.findIn K (.ref eC6) "__getattr__" = some none) (enb6 : PySem.W.findIn K (.ref eC6) "limit" = some none)
    (ea16 : PySem.W.findIn K (.ref eC6) "__init__" = some (some (.ref ei6))) (et16 : PySem.W.typeIn K (.ref ei6) = some (.type "function"))
    (el16 : K.lookup ei6 = some ⟨eoc6, eod6, .func (PySem.W.fnOf "__init__" "LimitExceeded.__init__" (defArgs s_LimitExceeded_init) (defBody s_LimitExceeded_init) (defScope s_LimitExceeded_init) .none .none edc6 epm6 ean6 ecd6 ect6), esl6⟩) (ec16 : PySem.W.codeIn K ecd6 "LimitExceeded.__init__" = true)
    (ekC6 : PySem.W.keepIn K (.ref eC6) = true) (eeC6 : PySem.W.subIn K (.ref eC6) (.type "BaseException") = some true) (etC6 : PySem.W.typeIn K (.ref eC6) = some (.type "type")) (ehC6 : PySem.W.hasDictIn K eC6 = true) (eiC6 : PySem.W.isClsIn K eC6 = true) (esC6 : PySem.W.subIn K (.ref eC6) (.ref eC6) = some true)
    (ka_MOST_WORDS : PySem.W.nsIn K mainGlobals "MOST_WORDS" = some (some (.int 3 ck_MOST_WORDS)))
    (ka_MOST_STATES : PySem.W.nsIn K mainGlobals "MOST_STATES" = some (some (.int 6 ck_MOST_STATES)))
    (ka_MOST_HELD : PySem.W.nsIn K mainGlobals "MOST_HELD" = some (some (.int 3 ck_MOST_HELD)))
    (ka_MOST_VERDICT : PySem.W.nsIn K mainGlobals "MOST_VERDICT" = some (some (.int 3 ck_MOST_VERDICT)))
    (ka_NEW : PySem.W.nsIn K mainGlobals "NEW" = some (some (.str "new" ck_NEW)))
    (ka_VALUE : PySem.W.nsIn K mainGlobals "VALUE" = some (some (.str "value" ck_VALUE)))
    (z0 : PySem.W.nsIn K mainGlobals "list" = some none)
    (z1 : PySem.W.nsIn K mainGlobals "len" = some none)
    (z2 : PySem.W.nsIn K mainGlobals "range" = some none)
    (z3 : PySem.W.nsIn K mainGlobals "tuple" = some none)
    (z4 : PySem.W.nsIn K mainGlobals "isinstance" = some none)
    (z5 : PySem.W.nsIn K mainGlobals "bool" = some none)
    (z6 : PySem.W.nsIn K mainGlobals "int" = some none)
    (z7 : PySem.W.nsIn K mainGlobals "sorted" = some none)
    (z8 : PySem.W.nsIn K mainGlobals "set" = some none)
    (z9 : PySem.W.nsIn K mainGlobals "repr" = some none)
    : ∃ fd : FuncData, (∀ (s : Shared) (v : Value), BindsTo s fd ⟨[v], []⟩ [("script", v)]) ∧ ∀ base : Heap, K.In base → base.Ns mainGlobals mg → FnG l.prog w K mg base CX0 7 fa fd ["script"] (sp_law K) := by
  have e := hfa.symm.trans (PySem.W.mg_of X G a19)
  cases e
  have F_is_integer := fun_mk (st := s_is_integer) l0 c0 k0
  have b_is_integer := F_is_integer.binds (ps := ["value"]) fun _ _ _ _ _ _ us hl => match us, hl with | [_], _ => rfl
  have F_is_between := fun_mk (st := s_is_between) l1 c1 k1
  have b_is_between := F_is_between.binds (ps := ["value", "low", "high"]) fun _ _ _ _ _ _ us hl => match us, hl with | [_, _, _], _ => rfl
  have F_Watcher_init := fun_mk (st := s_Watcher_init) l2 c2 k2
  have b_Watcher_init := F_Watcher_init.binds (ps := ["self", "words"]) fun _ _ _ _ _ _ us hl => match us, hl with | [_, _], _ => rfl
  have F_Watcher_add_state := fun_mk (st := s_Watcher_add_state) l3 c3 k3
  have b_Watcher_add_state := F_Watcher_add_state.binds (ps := ["self", "verdict", "held"]) fun _ _ _ _ _ _ us hl => match us, hl with | [_, _, _], _ => rfl
  have F_Watcher_add_rule := fun_mk (st := s_Watcher_add_rule) l4 c4 k4
  have b_Watcher_add_rule := F_Watcher_add_rule.binds (ps := ["self", "state", "word", "test", "target", "sources"]) fun _ _ _ _ _ _ us hl => match us, hl with | [_, _, _, _, _, _], _ => rfl
  have F_Watcher_rules := fun_mk (st := s_Watcher_rules) l5 c5 k5
  have b_Watcher_rules := F_Watcher_rules.binds (ps := ["self"]) fun _ _ _ _ _ _ us hl => match us, hl with | [_], _ => rfl
  have F_Watcher_require_state := fun_mk (st := s_Watcher_require_state) l6 c6 k6
  have b_Watcher_require_state := F_Watcher_require_state.binds (ps := ["self", "state"]) fun _ _ _ _ _ _ us hl => match us, hl with | [_, _], _ => rfl
  have F_Watcher_require_word := fun_mk (st := s_Watcher_require_word) l7 c7 k7
  have b_Watcher_require_word := F_Watcher_require_word.binds (ps := ["self", "word"]) fun _ _ _ _ _ _ us hl => match us, hl with | [_, _], _ => rfl
  have F_require_verdict := fun_mk (st := s_require_verdict) l8 c8 k8
  have b_require_verdict := F_require_verdict.binds (ps := ["verdict"]) fun _ _ _ _ _ _ us hl => match us, hl with | [_], _ => rfl
  have F_is_test := fun_mk (st := s_is_test) l9 c9 k9
  have b_is_test := F_is_test.binds (ps := ["test", "held"]) fun _ _ _ _ _ _ us hl => match us, hl with | [_, _], _ => rfl
  have F_are_sources := fun_mk (st := s_are_sources) l10 c10 k10
  have b_are_sources := F_are_sources.binds (ps := ["sources", "wanted", "held", "test"]) fun _ _ _ _ _ _ us hl => match us, hl with | [_, _, _, _], _ => rfl
  have F_is_source := fun_mk (st := s_is_source) l11 c11 k11
  have b_is_source := F_is_source.binds (ps := ["source", "held", "test"]) fun _ _ _ _ _ _ us hl => match us, hl with | [_, _, _], _ => rfl
  have F_rule_order := fun_mk (st := s_rule_order) l12 c12 k12
  have b_rule_order := F_rule_order.binds (ps := ["rule"]) fun _ _ _ _ _ _ us hl => match us, hl with | [_], _ => rfl
  have F_part_order := fun_mk (st := s_part_order) l13 c13 k13
  have b_part_order := F_part_order.binds (ps := ["part"]) fun _ _ _ _ _ _ us hl => match us, hl with | [_], _ => rfl
  have F_law_pen := fun_mk (st := s_law_pen) l14 c14 k14
  have b_law_pen := F_law_pen.binds (ps := ["script"]) fun _ _ _ _ _ _ us hl => match us, hl with | [_], _ => rfl
  have F_law_fresh := fun_mk (st := s_law_fresh) l15 c15 k15
  have b_law_fresh := F_law_fresh.binds (ps := ["pen"]) fun _ _ _ _ _ _ us hl => match us, hl with | [_], _ => rfl
  have F_law_draw := fun_mk (st := s_law_draw) l16 c16 k16
  have b_law_draw := F_law_draw.binds (ps := ["pen", "many"]) fun _ _ _ _ _ _ us hl => match us, hl with | [_, _], _ => rfl
  have F_law_fit := fun_mk (st := s_law_fit) l17 c17 k17
  have b_law_fit := F_law_fit.binds (ps := ["held", "many", "test", "sources"]) fun _ _ _ _ _ _ us hl => match us, hl with | [_, _, _, _], _ => rfl
  have F_law_accepted := fun_mk (st := s_law_accepted) l18 c18 k18
  have b_law_accepted := F_law_accepted.binds (ps := ["held", "many", "test", "sources"]) fun _ _ _ _ _ _ us hl => match us, hl with | [_, _, _, _], _ => rfl
  have F_law := fun_mk (st := s_law) l19 c19 k19
  have T_NotAWord : L2.ErrOk OwnE.bVE "NotAWord" "word" "NotAWord.__init__" K mg eC0 ei0 := ⟨OwnE.bVE_ok, { gC := PySem.W.mg_of X G eaC0, cls := ⟨nm0, eq0, eN0, bs0, _, sn0, sub0, ab0, col0, dd0, m00, m10, m20, m30, m50, exL0, by decide +kernel⟩, sa := esa0, ga := ega0, gg := egg0, noN := enb0, iC := ea10, tC := et10, kC := ekC0, exC := eeC0, tyC := etC0, hdC := ehC0, te := OwnE.exm_own eeC0 eiC0 etC0 esC0, fn := ⟨eoc0, eod0, edc0, epm0, ean0, ecd0, ect0, esl0, _, _, _, _, _, _, defScope s_NotAWord_init, el10, ec10, rfl, by decide +kernel, by decide +kernel, rfl, rfl⟩ }, by decide, by decide, fun _ _ _ _ _ _ _ _ _ _ _ _ _ _ _ _ => by first | rfl | with_unfolding_all rfl⟩
  have T_NotAVerdict : L2.ErrOk OwnE.bVE "NotAVerdict" "verdict" "NotAVerdict.__init__" K mg eC1 ei1 := ⟨OwnE.bVE_ok, { gC := PySem.W.mg_of X G eaC1, cls := ⟨nm1, eq1, eN1, bs1, _, sn1, sub1, ab1, col1, dd1, m01, m11, m21, m31, m51, exL1, by decide +kernel⟩, sa := esa1, ga := ega1, gg := egg1, noN := enb1, iC := ea11, tC := et11, kC := ekC1, exC := eeC1, tyC := etC1, hdC := ehC1, te := OwnE.exm_own eeC1 eiC1 etC1 esC1, fn := ⟨eoc1, eod1, edc1, epm1, ean1, ecd1, ect1, esl1, _, _, _, _, _, _, defScope s_NotAVerdict_init, el11, ec11, rfl, by decide +kernel, by decide +kernel, rfl, rfl⟩ }, by decide, by decide, fun _ _ _ _ _ _ _ _ _ _ _ _ _ _ _ _ => by first | rfl | with_unfolding_all rfl⟩
  have T_InvalidTest : L2.ErrOk OwnE.bVE "InvalidTest" "test" "InvalidTest.__init__" K mg eC2 ei2 := ⟨OwnE.bVE_ok, { gC := PySem.W.mg_of X G eaC2, cls := ⟨nm2, eq2, eN2, bs2, _, sn2, sub2, ab2, col2, dd2, m02, m12, m22, m32, m52, exL2, by decide +kernel⟩, sa := esa2, ga := ega2, gg := egg2, noN := enb2, iC := ea12, tC := et12, kC := ekC2, exC := eeC2, tyC := etC2, hdC := ehC2, te := OwnE.exm_own eeC2 eiC2 etC2 esC2, fn := ⟨eoc2, eod2, edc2, epm2, ean2, ecd2, ect2, esl2, _, _, _, _, _, _, defScope s_InvalidTest_init, el12, ec12, rfl, by decide +kernel, by decide +kernel, rfl, rfl⟩ }, by decide, by decide, fun _ _ _ _ _ _ _ _ _ _ _ _ _ _ _ _ => by first | rfl | with_unfolding_all rfl⟩
  have T_InvalidSources : L2.ErrOk OwnE.bVE "InvalidSources" "sources" "InvalidSources.__init__" K mg eC3 ei3 := ⟨OwnE.bVE_ok, { gC := PySem.W.mg_of X G eaC3, cls := ⟨nm3, eq3, eN3, bs3, _, sn3, sub3, ab3, col3, dd3, m03, m13, m23, m33, m53, exL3, by decide +kernel⟩, sa := esa3, ga := ega3, gg := egg3, noN := enb3, iC := ea13, tC := et13, kC := ekC3, exC := eeC3, tyC := etC3, hdC := ehC3, te := OwnE.exm_own eeC3 eiC3 etC3 esC3, fn := ⟨eoc3, eod3, edc3, epm3, ean3, ecd3, ect3, esl3, _, _, _, _, _, _, defScope s_InvalidSources_init, el13, ec13, rfl, by decide +kernel, by decide +kernel, rfl, rfl⟩ }, by decide, by decide, fun _ _ _ _ _ _ _ _ _ _ _ _ _ _ _ _ => by first | rfl | with_unfolding_all rfl⟩
  have T_UnknownState : L2.ErrOk OwnE.bLE "UnknownState" "state" "UnknownState.__init__" K mg eC4 ei4 := ⟨OwnE.bLE_ok, { gC := PySem.W.mg_of X G eaC4, cls := ⟨nm4, eq4, eN4, bs4, _, sn4, sub4, ab4, col4, dd4, m04, m14, m24, m34, m54, exL4, by decide +kernel⟩, sa := esa4, ga := ega4, gg := egg4, noN := enb4, iC := ea14, tC := et14, kC := ekC4, exC := eeC4, tyC := etC4, hdC := ehC4, te := OwnE.exm_own eeC4 eiC4 etC4 esC4, fn := ⟨eoc4, eod4, edc4, epm4, ean4, ecd4, ect4, esl4, _, _, _, _, _, _, defScope s_UnknownState_init, el14, ec14, rfl, by decide +kernel, by decide +kernel, rfl, rfl⟩ }, by decide, by decide, fun _ _ _ _ _ _ _ _ _ _ _ _ _ _ _ _ => by first | rfl | with_unfolding_all rfl⟩
  have T_RuleExists : L2.ErrOk OwnE.bRE "RuleExists" "rule" "RuleExists.__init__" K mg eC5 ei5 := ⟨OwnE.bRE_ok, { gC := PySem.W.mg_of X G eaC5, cls := ⟨nm5, eq5, eN5, bs5, _, sn5, sub5, ab5, col5, dd5, m05, m15, m25, m35, m55, exL5, by decide +kernel⟩, sa := esa5, ga := ega5, gg := egg5, noN := enb5, iC := ea15, tC := et15, kC := ekC5, exC := eeC5, tyC := etC5, hdC := ehC5, te := OwnE.exm_own eeC5 eiC5 etC5 esC5, fn := ⟨eoc5, eod5, edc5, epm5, ean5, ecd5, ect5, esl5, _, _, _, _, _, _, defScope s_RuleExists_init, el15, ec15, rfl, by decide +kernel, by decide +kernel, rfl, rfl⟩ }, by decide, by decide, fun _ _ _ _ _ _ _ _ _ _ _ _ _ _ _ _ => by first | rfl | with_unfolding_all rfl⟩
  have T_LimitExceeded : L2.ErrOk OwnE.bOE "LimitExceeded" "limit" "LimitExceeded.__init__" K mg eC6 ei6 := ⟨OwnE.bOE_ok, { gC := PySem.W.mg_of X G eaC6, cls := ⟨nm6, eq6, eN6, bs6, _, sn6, sub6, ab6, col6, dd6, m06, m16, m26, m36, m56, exL6, by decide +kernel⟩, sa := esa6, ga := ega6, gg := egg6, noN := enb6, iC := ea16, tC := et16, kC := ekC6, exC := eeC6, tyC := etC6, hdC := ehC6, te := OwnE.exm_own eeC6 eiC6 etC6 esC6, fn := ⟨eoc6, eod6, edc6, epm6, ean6, ecd6, ect6, esl6, _, _, _, _, _, _, defScope s_LimitExceeded_init, el16, ec16, rfl, by decide +kernel, by decide +kernel, rfl, rfl⟩ }, by decide, by decide, fun _ _ _ _ _ _ _ _ _ _ _ _ _ _ _ _ => by first | rfl | with_unfolding_all rfl⟩
  have T : Tx K mg := {
    Watcher := ⟨C_Watcher, ⟨pg_Watcher, hd_Watcher, po_Watcher, sa_Watcher⟩, PySem.W.mg_of X G wC_Watcher⟩
    nf_Watcherwords := nf_Watcherwords
    nf_Watcher_verdicts := nf_Watcher_verdicts
    nf_Watcher_held := nf_Watcher_held
    nf_Watcher_rules := nf_Watcher_rules
    is_integer := ⟨f_is_integer, _, F_is_integer, b_is_integer, PySem.W.mg_of X G a0⟩
    is_between := ⟨f_is_between, _, F_is_between, b_is_between, PySem.W.mg_of X G a1⟩
    Watcher_init := ⟨f_Watcher_init, _, F_Watcher_init, b_Watcher_init, ⟨a2, i2, k2⟩⟩
    Watcher_add_state := ⟨f_Watcher_add_state, _, F_Watcher_add_state, b_Watcher_add_state, ⟨a3, i3, k3⟩⟩
    Watcher_add_rule := ⟨f_Watcher_add_rule, _, F_Watcher_add_rule, b_Watcher_add_rule, ⟨a4, i4, k4⟩⟩
    Watcher_rules := ⟨f_Watcher_rules, _, F_Watcher_rules, b_Watcher_rules, ⟨a5, i5, k5⟩⟩
    Watcher_require_state := ⟨f_Watcher_require_state, _, F_Watcher_require_state, b_Watcher_require_state, ⟨a6, i6, k6⟩⟩
    Watcher_require_word := ⟨f_Watcher_require_word, _, F_Watcher_require_word, b_Watcher_require_word, ⟨a7, i7, k7⟩⟩
    require_verdict := ⟨f_require_verdict, _, F_require_verdict, b_require_verdict, PySem.W.mg_of X G a8⟩
    is_test := ⟨f_is_test, _, F_is_test, b_is_test, PySem.W.mg_of X G a9⟩
    are_sources := ⟨f_are_sources, _, F_are_sources, b_are_sources, PySem.W.mg_of X G a10⟩
    is_source := ⟨f_is_source, _, F_is_source, b_is_source, PySem.W.mg_of X G a11⟩
    rule_order := ⟨f_rule_order, _, F_rule_order, b_rule_order, PySem.W.mg_of X G a12⟩
    part_order := ⟨f_part_order, _, F_part_order, b_part_order, PySem.W.mg_of X G a13⟩
    law_pen := ⟨f_law_pen, _, F_law_pen, b_law_pen, PySem.W.mg_of X G a14⟩
    law_fresh := ⟨f_law_fresh, _, F_law_fresh, b_law_fresh, PySem.W.mg_of X G a15⟩
    law_draw := ⟨f_law_draw, _, F_law_draw, b_law_draw, PySem.W.mg_of X G a16⟩
    law_fit := ⟨f_law_fit, _, F_law_fit, b_law_fit, PySem.W.mg_of X G a17⟩
    law_accepted := ⟨f_law_accepted, _, F_law_accepted, b_law_accepted, PySem.W.mg_of X G a18⟩
    mk_Watcher := ⟨mk_Watcher, a2, i2, kc_Watcher⟩
    bt_rule_order := fun s v => .of_eq rfl
    bt_part_order := fun s v => .of_eq rfl
    NotAWord := ⟨eC0, ei0, T_NotAWord⟩
    NotAVerdict := ⟨eC1, ei1, T_NotAVerdict⟩
    InvalidTest := ⟨eC2, ei2, T_InvalidTest⟩
    InvalidSources := ⟨eC3, ei3, T_InvalidSources⟩
    UnknownState := ⟨eC4, ei4, T_UnknownState⟩
    RuleExists := ⟨eC5, ei5, T_RuleExists⟩
    LimitExceeded := ⟨eC6, ei6, T_LimitExceeded⟩
    ck_MOST_WORDS := ck_MOST_WORDS
    g_MOST_WORDS := PySem.W.mg_of X G ka_MOST_WORDS
    ck_MOST_STATES := ck_MOST_STATES
    g_MOST_STATES := PySem.W.mg_of X G ka_MOST_STATES
    ck_MOST_HELD := ck_MOST_HELD
    g_MOST_HELD := PySem.W.mg_of X G ka_MOST_HELD
    ck_MOST_VERDICT := ck_MOST_VERDICT
    g_MOST_VERDICT := PySem.W.mg_of X G ka_MOST_VERDICT
    ck_NEW := ck_NEW
    g_NEW := PySem.W.mg_of X G ka_NEW
    ck_VALUE := ck_VALUE
    g_VALUE := PySem.W.mg_of X G ka_VALUE
    m_list := PySem.W.mg_none_of X G z0
    m_len := PySem.W.mg_none_of X G z1
    m_range := PySem.W.mg_none_of X G z2
    m_tuple := PySem.W.mg_none_of X G z3
    m_isinstance := PySem.W.mg_none_of X G z4
    m_bool := PySem.W.mg_none_of X G z5
    m_int := PySem.W.mg_none_of X G z6
    m_sorted := PySem.W.mg_none_of X G z7
    m_set := PySem.W.mg_none_of X G z8
    m_repr := PySem.W.mg_none_of X G z9 }
  exact ⟨PySem.W.fnOf "law" "law" (defArgs s_law) (defBody s_law) (defScope s_law) .none kV19 dc19 pm19 an19 cd19 ct19, fun s v => .of_eq rfl, fun base _ _ => ok_law T F_law⟩
theorem walk {l : PySem.W.OpenLaw} {q : Program} {loose : List Str} {XP : (Str → Option Value) → Heap → Prop} {YP : World → Heap → Prop} {d : DefRec} {K : Params → PySem.W.Frag} (hn : l.most = some 63) (hdf : d.params.defaults = [])
    (hY : ∀ (w : World) (h : Heap), YP w h → (K w.params).In h)
    (F : ∀ (w : World) (mg : Str → Option Value) (fa : Addr) (h : Heap), (K w.params).In h → h.Ns mainGlobals mg → mg d.name = some (.ref fa) →
      ∃ fd : FuncData, (∀ (s : Shared) (u : Value), BindsTo s fd ⟨[u], []⟩ [("script", u)]) ∧ ∀ base : Heap, (K w.params).In base → base.Ns mainGlobals mg → FnG l.prog w (K w.params) mg base CX0 7 fa fd ["script"] (sp_law (K w.params))) :
    PySem.W.WalkO q loose XP YP l.row.toRowW d [] (fun f vs => PySem.call f vs) :=
  walk_ofG (n := 63) (k := 7) (x := "script") (sp := sp_law) hn (by decide) hdf ⟨rfl, by decide, by decide⟩ hY F fun _ _ a ns hl hb _ hS => ⟨a, ns, rfl, hS, hl, fun _ => rfl⟩
end Sb
open PySem PySem.W PyProof.Rows
set_option maxRecDepth 100000 in
set_option maxHeartbeats 0 in
theorem PySem.Challenge.cw_seenbefore_k08_sources_of_rules_holds : PySem.Challenge.rw_seenbefore_k08_sources_of_rules.Holds := by
  w_on; o_law; k_head; (case hw => w_witness2)
  k_fill
  refine Sb.walk (l := PySem.Challenge.rw_seenbefore_k08_sources_of_rules) rfl rfl (fun w h Y => PySem.W.kIn_of Y) ?F
  case F =>
    intro w mg fa h KX G hmg
    refine' Sb.all_mk KX G hmg ?a0 ?l0 ?c0 ?k0 ?a1 ?l1 ?c1 ?k1 ?a2 ?i2 ?l2 ?c2 ?k2 ?a3 ?i3 ?l3 ?c3 ?k3 ?a4 ?i4 ?l4 ?c4 ?k4 ?a5 ?i5 ?l5 ?c5 ?k5 ?a6 ?i6 ?l6 ?c6 ?k6 ?a7 ?i7 ?l7 ?c7 ?k7 ?a8 ?l8 ?c8 ?k8 ?a9 ?l9 ?c9 ?k9 ?a10 ?l10 ?c10 ?k10 ?a11 ?l11 ?c11 ?k11 ?a12 ?l12 ?c12 ?k12 ?a13 ?l13 ?c13 ?k13 ?a14 ?l14 ?c14 ?k14 ?a15 ?l15 ?c15 ?k15 ?a16 ?l16 ?c16 ?k16 ?a17 ?l17 ?c17 ?k17 ?a18 ?l18 ?c18 ?k18 ?a19 ?l19 ?c19 ?k19 ?wC_Watcher ?pg_Watcher ?hd_Watcher ?po_Watcher ?sa_Watcher ?mk_Watcher ?kc_Watcher ?nf_Watcherwords ?nf_Watcher_verdicts ?nf_Watcher_held ?nf_Watcher_rules ?eaC0 ?exL0 ?esa0 ?ega0 ?egg0 ?enb0 ?ea10 ?et10 ?el10 ?ec10 ?ekC0 ?eeC0 ?etC0 ?ehC0 ?eiC0 ?esC0 ?eaC1 ?exL1 ?esa1 ?ega1 ?egg1 ?enb1 ?ea11 ?et11 ?el11 ?ec11 ?ekC1 ?eeC1 ?etC1 ?ehC1 ?eiC1 ?esC1 ?eaC2 ?exL2 ?esa2 ?ega2 ?egg2 ?enb2 ?ea12 ?et12 ?el12 ?ec12 ?ekC2 ?eeC2 ?etC2 ?ehC2 ?eiC2 ?esC2 ?eaC3 ?exL3 ?esa3 ?ega3 ?egg3 ?enb3 ?ea13 ?et13 ?el13 ?ec13 ?ekC3 ?eeC3 ?etC3 ?ehC3 ?eiC3 ?esC3 ?eaC4 ?exL4 ?esa4 ?ega4 ?egg4 ?enb4 ?ea14 ?et14 ?el14 ?ec14 ?ekC4 ?eeC4 ?etC4 ?ehC4 ?eiC4 ?esC4 ?eaC5 ?exL5 ?esa5 ?ega5 ?egg5 ?enb5 ?ea15 ?et15 ?el15 ?ec15 ?ekC5 ?eeC5 ?etC5 ?ehC5 ?eiC5 ?esC5 ?eaC6 ?exL6 ?esa6 ?ega6 ?egg6 ?enb6 ?ea16 ?et16 ?el16 ?ec16 ?ekC6 ?eeC6 ?etC6 ?ehC6 ?eiC6 ?esC6 ?ka_MOST_WORDS ?ka_MOST_STATES ?ka_MOST_HELD ?ka_MOST_VERDICT ?ka_NEW ?ka_VALUE ?z0 ?z1 ?z2 ?z3 ?z4 ?z5 ?z6 ?z7 ?z8 ?z9
    case wC_Watcher => k_is
    case a0 => k_is
    case l0 => k_is
    case c0 => k_is
    case k0 => k_is
    case a1 => k_is
    case l1 => k_is
    case c1 => k_is
    case k1 => k_is
    case a2 => k_is
    case i2 => k_is
    case l2 => k_is
    case c2 => k_is
    case k2 => k_is
    case a3 => k_is
    case i3 => k_is
    case l3 => k_is
    case c3 => k_is
    case k3 => k_is
    case a4 => k_is
    case i4 => k_is
    case l4 => k_is
    case c4 => k_is
    case k4 => k_is
    case a5 => k_is
    case i5 => k_is
    case l5 => k_is
    case c5 => k_is
    case k5 => k_is
    case a6 => k_is
    case i6 => k_is
    case l6 => k_is
    case c6 => k_is
    case k6 => k_is
    case a7 => k_is
    case i7 => k_is
    case l7 => k_is
    case c7 => k_is
    case k7 => k_is
    case a8 => k_is
    case l8 => k_is
    case c8 => k_is
    case k8 => k_is
    case a9 => k_is
    case l9 => k_is
    case c9 => k_is
    case k9 => k_is
    case a10 => k_is
    case l10 => k_is
    case c10 => k_is
    case k10 => k_is
    case a11 => k_is
    case l11 => k_is
    case c11 => k_is
    case k11 => k_is
    case a12 => k_is
    case l12 => k_is
    case c12 => k_is
    case k12 => k_is
    case a13 => k_is
    case l13 => k_is
    case c13 => k_is
    case k13 => k_is
    case a14 => k_is
    case l14 => k_is
    case c14 => k_is
    case k14 => k_is
    case a15 => k_is
    case l15 => k_is
    case c15 => k_is
    case k15 => k_is
    case a16 => k_is
    case l16 => k_is
    case c16 => k_is
    case k16 => k_is
    case a17 => k_is
    case l17 => k_is
    case c17 => k_is
    case k17 => k_is
    case a18 => k_is
    case l18 => k_is
    case c18 => k_is
    case k18 => k_is
    case a19 => k_is
    case l19 => k_is
    case c19 => k_is
    case k19 => k_is
    case pg_Watcher => k_is
    case hd_Watcher => k_is
    case po_Watcher => k_is
    case sa_Watcher => k_is
    case mk_Watcher => k_is
    case kc_Watcher => k_is
    case nf_Watcherwords => k_is
    case nf_Watcher_verdicts => k_is
    case nf_Watcher_held => k_is
    case nf_Watcher_rules => k_is
    case eaC0 => k_is
    case exL0 => k_is
    case esa0 => k_is
    case ega0 => k_is
    case egg0 => k_is
    case enb0 => k_is
    case ea10 => k_is
    case et10 => k_is
    case el10 => k_is
    case ec10 => k_is
    case ekC0 => k_is
    case eeC0 => k_is
    case etC0 => k_is
    case ehC0 => k_is
    case eiC0 => k_is
    case esC0 => first | rfl | k_is
    case eaC1 => k_is
    case exL1 => k_is
    case esa1 => k_is
    case ega1 => k_is
    case egg1 => k_is
    case enb1 => k_is
    case ea11 => k_is
    case et11 => k_is
    case el11 => k_is
    case ec11 => k_is
    case ekC1 => k_is
    case eeC1 => k_is
    case etC1 => k_is
    case ehC1 => k_is
    case eiC1 => k_is
    case esC1 => first | rfl | k_is
    case eaC2 => k_is
    case exL2 => k_is
    case esa2 => k_is
    case ega2 => k_is
    case egg2 => k_is
    case enb2 => k_is
    case ea12 => k_is
    case et12 => k_is
    case el12 => k_is
    case ec12 => k_is
    case ekC2 => k_is
    case eeC2 => k_is
    case etC2 => k_is
    case ehC2 => k_is
    case eiC2 => k_is
    case esC2 => first | rfl | k_is
    case eaC3 => k_is
    case exL3 => k_is
    case esa3 => k_is
    case ega3 => k_is
    case egg3 => k_is
    case enb3 => k_is
    case ea13 => k_is
    case et13 => k_is
    case el13 => k_is
    case ec13 => k_is
    case ekC3 => k_is
    case eeC3 => k_is
    case etC3 => k_is
    case ehC3 => k_is
    case eiC3 => k_is
    case esC3 => first | rfl | k_is
    case eaC4 => k_is
    case exL4 => k_is
    case esa4 => k_is
    case ega4 => k_is
    case egg4 => k_is
    case enb4 => k_is
    case ea14 => k_is
    case et14 => k_is
    case el14 => k_is
    case ec14 => k_is
    case ekC4 => k_is
    case eeC4 => k_is
    case etC4 => k_is
    case ehC4 => k_is
    case eiC4 => k_is
    case esC4 => first | rfl | k_is
    case eaC5 => k_is
    case exL5 => k_is
    case esa5 => k_is
    case ega5 => k_is
    case egg5 => k_is
    case enb5 => k_is
    case ea15 => k_is
    case et15 => k_is
    case el15 => k_is
    case ec15 => k_is
    case ekC5 => k_is
    case eeC5 => k_is
    case etC5 => k_is
    case ehC5 => k_is
    case eiC5 => k_is
    case esC5 => first | rfl | k_is
    case eaC6 => k_is
    case exL6 => k_is
    case esa6 => k_is
    case ega6 => k_is
    case egg6 => k_is
    case enb6 => k_is
    case ea16 => k_is
    case et16 => k_is
    case el16 => k_is
    case ec16 => k_is
    case ekC6 => k_is
    case eeC6 => k_is
    case etC6 => k_is
    case ehC6 => k_is
    case eiC6 => k_is
    case esC6 => first | rfl | k_is
    case ka_MOST_WORDS => k_is
    case ka_MOST_STATES => k_is
    case ka_MOST_HELD => k_is
    case ka_MOST_VERDICT => k_is
    case ka_NEW => k_is
    case ka_VALUE => k_is
    case z0 => k_is
    case z1 => k_is
    case z2 => k_is
    case z3 => k_is
    case z4 => k_is
    case z5 => k_is
    case z6 => k_is
    case z7 => k_is
    case z8 => k_is
    case z9 => k_is
