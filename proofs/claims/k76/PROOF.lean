import PyProof.Rows.All
import Wide.All
import OpenK.AllK
import Wide.FinOn
import HandS.ForMost
import HandS.ExcOwn
import HandS.EndBits
import HandS.Codes
import HandS.Wide
import HandS.TupAny
import HandS.ForExc
import HandS.IsInst
import HandS.Strs
import HandS.SetKeys
import HandS.TupMul
import HandS.TryMany
import HandS.DictComp
import HandS.Conv
import HandS.SortKw
import KE.KExcInit
import KE.SortKeyHeap
import KE.KDictSum
import PyProof.NeData
import PyProof.EqKinds
import OpenK.KMake
import HandS.TupLen
import HandS.Walk
import HandS.Iter
import KE.KDictDisplayH
import HandS.DictTup
import HandS.ListItems
import KE.KDictItemsList
import HandS.SortInts
import HandS.More
import HandS.ExcIs
import KE.KExcIs
import HandS.DictEq
import KE.KEqNest
import KE.DataEq
import HandS.Flow
import KE.SortData
import PyProof.Rows.SortWalk
import KE.KNestM
import HandS.Zip
import KE.GoesMore
import KE.GoesEnum
import HandS.Style
import HandS.StrMore
import KE.IntTextLaws
import HandS.WrittenGet
import HandS.FStr
import PyProof.StrBlock2
import HandS.Star
import HandS.RaiseMore
import HandS.TryOnly
import KE.KUnpackStar
import KE.KTryMore
import KE.KDictPairs
import KE.KDictCopyH
import HandS.TupLe
import PySem.Challenge.RW_seenbefore_k76_texts_that_are_no_watcher
set_option Elab.async false
set_option linter.all false
set_option maxRecDepth 100000
set_option maxHeartbeats 4000000

/-! Promises of defs where no repr is under way (guards = []): so the repr of made data is known to the sign. -/
namespace Sb
open PySem PySem.Spec PyProof.Rows L2
/-- as FnOk, for calls around which no repr is under way -/
structure FnG (P : Program) (w : World) (K : PySem.W.Frag) (mg : Str → Option Value) (base : Heap) (CX : CXT) (k : Nat) (f : Addr)
    (fd : FuncData) (ps : List Str) (sp : Sp) : Prop where
  len : ∀ vs H Q E, sp vs H Q E → vs.length = ps.length
  run : ∀ (A : Around) (outer : List Env) (s : Shared) (H : Hp) (args : Args) (us : List Value) (vs : List V) (Q : VK) (E : XK),
    A.guards = some [] → Room k A → Env0 P w K mg base A outer s H → BindsTo s fd args (ps.zip us) → Vals vs us → sp vs H Q E →
    codeAny (model P w) A (.call (.ref f) args) (CR CX outer P w H s Q E) s
section
variable {P : Program} {w : World} {K : PySem.W.Frag} {mg : Str → Option Value} {base : Heap} {CX : CXT} {k : Nat} {f : Addr}
theorem FnG.mono {j : Nat} {fd : FuncData} {ps : List Str} {sp : Sp} (F : FnG P w K mg base CX j f fd ps sp) (h : j ≤ k) : FnG P w K mg base CX k f fd ps sp :=
  { len := F.len, run := fun A o s H a us vs Q E g r => F.run A o s H a us vs Q E g (r.mono h) }
theorem FnG.imp {fd : FuncData} {ps : List Str} {sp sp' : Sp} (F : FnG P w K mg base CX k f fd ps sp) (h : ∀ vs H Q E, sp' vs H Q E → sp vs H Q E) :
    FnG P w K mg base CX k f fd ps sp' :=
  { len := fun vs H Q E z => F.len vs H Q E (h _ _ _ _ z), run := fun A o s H a us vs Q E g r e b v z => F.run A o s H a us vs Q E g r e b v (h _ _ _ _ z) }
theorem FnG.of {fd : FuncData} {ps : List Str} {sp : Sp} (F : FnOk P w K mg base CX k f fd ps sp) : FnG P w K mg base CX k f fd ps sp :=
  { len := F.len, run := fun A o s H a us vs Q E _ r => F.run A o s H a us vs Q E r }
/-- from a body to its def -/
theorem fnG_body {name qual : Str} {params : Arguments} {body : List Stmt} {sc : Scope} {dV kV doc pm cdv ct oc : Value} {an od : Option Addr} {osl : Array (Option Value)} {N ps : List Str} {sp : Sp}
    (lk : K.lookup f = some ⟨oc, od, .func (PySem.W.fnOf name qual params body sc dV kV doc pm an cdv ct), osl⟩) (hcd : PySem.W.codeIn K cdv qual = true) (S : FnScope N ps sc)
    (len : ∀ vs H Q E, sp vs H Q E → vs.length = ps.length)
    (walk : ∀ (A : Around) (outer : List Env) (s : Shared) (H : Hp) (vs : List V) (Q : VK) (E : XK), A.guards = some [] →
      Room k (A.deeper (envOfC qual sc s.heap.objs.size f cdv)) → sp vs H Q E →
      ∃ t, PSs (cxOf CX P w K mg base N qual sc f cdv A outer s H E) body t ∧ t { nx := fun _ H' => Q .non H', rt := Q } (start N vs) H) :
    FnG P w K mg base CX (k + 1) f (PySem.W.fnOf name qual params body sc dV kV doc pm an cdv ct) ps sp := by
  constructor
  · exact len
  intro A outer s H args us vs Q E gd room e0 bd rv want
  have inK : K.In s.heap := e0.mod.kin.keeps fun b o q => (e0.bs b o q).1
  have noLim : s.heap.NoLimit := e0.mod.nolimit.keeps fun b o q => (e0.bs b o q).1
  have kinds : ∀ y ∈ ps.zip us, sc.names.lookup y.1 = some .local ∨
      (sc.names.lookup y.1 = some .cell ∧ ((cellsFrom (s.heap.objs.size + 1) sc.names []).lookup y.1).isSome = true) := by
    rintro ⟨n, v⟩ hy
    cases S.par n (List.of_mem_zip hy).1 with
    | inl q => exact Or.inl q
    | inr q => exact Or.inr ⟨q, PySem.W.cellsFrom_some _ _ _ (Or.inl q)⟩
  apply codeAny_call_function room.depth (inK _ _ lk) rfl S.co S.gen rfl (PySem.W.codeRec_of inK hcd)
  apply bd
  apply wpAny_newFunctionEnv_cells S.kind kinds
  intro env he s1 x
  subst he
  refine ⟨noLim.keeps x.toInCall.keep, ?_⟩
  apply codeAny_func
  obtain ⟨t, ht, hq⟩ := walk A outer s H vs Q E gd (room.deeper _) want
  have I := inv_start (CX := CX) (E := E) S room.hd e0 (len _ _ _ _ want) rv x
  refine wpAny_mono (ht.run [] s1 (start N vs) H _ I hq) (fun fl s' hs => ?_) (fun _ _ hs => hs)
  match fl, hs with
  | .ret u, ⟨v, σ', H', J, r', q⟩ => exact ⟨v, H', J.os, J.bare, J.base, J.hok, r', q⟩
  | .next, ⟨σ', H', J, q⟩ => exact ⟨V.non, H', J.os, J.bare, J.base, J.hok, rfl, q⟩
  | .brk, ⟨_, _, _, q⟩ => exact q.elim
  | .cont, ⟨_, _, _, q⟩ => exact q.elim
/-- a def of the text; its walk may use that no repr is under way -/
theorem okG {x qual : Str} {st : Stmt} {fd : FuncData} {N ps : List Str} {sp : Sp} (F : Fun K x qual st f fd) (S : FnScope N ps (defScope st)) (len : ∀ vs H Q E, sp vs H Q E → vs.length = ps.length)
    (walk : ∀ (cdv : Value) (A : Around) (outer : List Env) (s : Shared) (H : Hp) (vs : List V) (Q : VK) (E : XK), A.guards = some [] →
      Room k (A.deeper (envOfC qual (defScope st) s.heap.objs.size f cdv)) → sp vs H Q E →
      ∃ t, PSs (cxOf CX0 P w K mg base N qual (defScope st) f cdv A outer s H E).nox (defBody st) t ∧ t { nx := fun _ H' => Q .non H', rt := Q } (start N vs) H) :
    FnG P w K mg base CX0 (k + 1) f fd ps sp := by
  obtain ⟨oc, od, kV, doc, pm, an, cdv, ct, osl, e, lk, hcd⟩ := F.ex
  subst e
  apply fnG_body lk hcd S len
  intro A outer s H vs Q E gd room want
  obtain ⟨t, h, q⟩ := walk cdv A outer s H vs Q E gd room want
  exact ⟨t, h.nox, q⟩
/-- the same for a def that may raise -/
theorem okGX {x qual : Str} {st : Stmt} {fd : FuncData} {N ps : List Str} {sp : Sp} (F : Fun K x qual st f fd) (S : FnScope N ps (defScope st)) (len : ∀ vs H Q E, sp vs H Q E → vs.length = ps.length)
    (walk : ∀ (cdv : Value) (A : Around) (outer : List Env) (s : Shared) (H : Hp) (vs : List V) (Q : VK) (E : XK), A.guards = some [] →
      Room k (A.deeper (envOfC qual (defScope st) s.heap.objs.size f cdv)) → sp vs H Q E →
      ∃ t, PSs (cxOf (L2.CX P w) P w K mg base N qual (defScope st) f cdv A outer s H E) (defBody st) t ∧ t { nx := fun _ H' => Q .non H', rt := Q } (start N vs) H) :
    FnG P w K mg base (L2.CX P w) (k + 1) f fd ps sp := by
  obtain ⟨oc, od, kV, doc, pm, an, cdv, ct, osl, e, lk, hcd⟩ := F.ex
  subst e
  exact fnG_body lk hcd S len fun A outer s H vs Q E gd room want => walk cdv A outer s H vs Q E gd room want
end

section
variable {X : Cx} {CX : CXT} {k : Nat} {f C : Addr} {fd : FuncData} {ps : List Str} {sp : Sp} {dvs : List V} {ds : List Value} {x m : Str} {p pos apos : Pos} {e o : Expr} {es : List Expr} {ta : TE} {t : TA}
/-- the callee runs; E hangs on the slots -/
theorem runG {pins : List (Addr × Obj)} {σ : L2.St} {H : Hp} {s : Shared} {Q : VK} {E : XK} {us : List Value} {vs : List V} (F : FnG X.prog X.w X.K X.mg X.base CX k f fd ps sp) (gd : X.A.guards = some []) (hr : Room k X.A)
    (hb : Binds X.K fd ps ds) (hd : Vals dvs ds) (hx : ∀ (e : Value) (s' : Shared), CX X.stack H s E e s' → X.xe e s') (I : Inv X pins σ H s) (r : Vals vs us) (h : sp (vs ++ dvs) H Q E) :
    wpAny (model X.prog X.w) X.A (call (.ref f) us) (EP X pins σ Q) X.xe s := by
  have rr := r.append hd
  have nl : (us ++ ds).length = ps.length := rr.length ▸ F.len _ _ _ _ h
  apply wpAny_call
  refine codeAny_mono (F.run X.A X.stack s H ⟨us, []⟩ _ _ Q E gd hr I.env0 (hb s us I.kIn nl) rr h) ?_
  intro res s' hres
  match res, hres with
  | .error er, z => exact hx er s' z
  | .ok (.ret u), z => exact I.after z
  | .ok .next, z => exact z.elim
  | .ok .brk, z => exact z.elim
  | .ok .cont, z => exact z.elim
/-- f(e, ..) -/
theorem pe_callG {E : XK} (F : FnG X.prog X.w X.K X.mg X.base CX k f fd ps sp) (gd : X.A.guards = some []) (hr : Room k X.A) (hg : Gl X x) (hm : X.mg x = some (.ref f)) (hk : PySem.W.keepIn X.K (.ref f) = true)
    (hb : Binds X.K fd ps ds) (hd : Vals dvs ds) (hx : Passes CX X E) (ha : PA X (e :: es) t) (hdb : (x == ("__debug__" : Str)) = false := by decide)
    (he : starEach (e :: es) X.env = (false, eval e X.env) :: starEach es X.env := by rfl)
    (hpl : (backTo pos (starEach es X.env)).any (·.1) = false := by rfl) : PE X (.Call (.Name x p) (e :: es) [] pos) (tCall sp dvs E t) := by
  constructor
  intro pins s σ H Q I h
  apply wpAny_Call_Name_kw
  apply ld_glob I hg hm _ hdb
  apply PySem.W.callWith_K (h₀ := X.base) I.ok.mod.kin hk _ he hpl
  refine thn (ha.run pos pins s σ H _ I h) ?_
  rintro us s1 ⟨vs, H1, I1, r, q⟩
  exact ⟨I1.kIn, runG F gd hr hb hd (fun er s' z => hx pins σ H1 s1 er s' I1 z) I1 r q⟩
/-- f(e, ..), what is raised wished for at the slots -/
theorem pe_callGS {E : L2.St → XK} (F : FnG X.prog X.w X.K X.mg X.base CX k f fd ps sp) (gd : X.A.guards = some []) (hr : Room k X.A) (hg : Gl X x) (hm : X.mg x = some (.ref f)) (hk : PySem.W.keepIn X.K (.ref f) = true)
    (hb : Binds X.K fd ps []) (hx : ∀ σ, PassesAt CX X σ (E σ)) (ha : PA X (e :: es) t) (hdb : (x == ("__debug__" : Str)) = false := by decide)
    (he : starEach (e :: es) X.env = (false, eval e X.env) :: starEach es X.env := by rfl)
    (hpl : (backTo pos (starEach es X.env)).any (·.1) = false := by rfl) : PE X (.Call (.Name x p) (e :: es) [] pos) (tCallS sp E t) := by
  constructor
  intro pins s σ H Q I h
  apply wpAny_Call_Name_kw
  apply ld_glob I hg hm _ hdb
  apply PySem.W.callWith_K (h₀ := X.base) I.ok.mod.kin hk _ he hpl
  refine thn (ha.run pos pins s σ H _ I h) ?_
  rintro us s1 ⟨vs, H1, I1, r, q⟩
  have q' : sp (vs ++ []) H1 Q (E σ) := by rw [List.append_nil]; exact q
  exact ⟨I1.kIn, runG F gd hr hb .nil (fun er s' z => hx σ pins H1 s1 er s' I1 z) I1 r q'⟩
/-- repr of data -/
theorem call_reprD (gd : X.A.guards = some []) (hu : X.A.units + 64 < cLine) : CallR X (.builtin "repr") (fun xs H Q => ∃ v d, xs = [v] ∧ Dp X.K H v d ∧ d.showable = true ∧ d.hasDict = false ∧ d.depth ≤ 60 ∧ d.shown.length ≤ sizeLine ∧ Q (.str d.shown) H) := by
  rintro pins s σ H xs us Q I r ⟨v, d, rfl, hd, hs, hnd, hdp, hz, q⟩
  obtain ⟨u, rfl, ru⟩ := vals1 r
  obtain ⟨as, rd⟩ := Dp.reads I d v u hd ru
  cases v with
  | ref a =>
    obtain rfl : u = Value.ref a := ru
    refine repr_of_reads' rd hs (PyData.noDict_hsm hnd) gd (by omega) (fun _ _ z => z) (fun h' u' tk hk => ?_) hz
    exact ⟨.str d.shown, H, I.kept (fun b o z => hk b o z), ⟨_, rfl⟩, q⟩
  | non =>
    cases hd
    obtain rfl : u = Value.none := ru
    exact PySem.P.repr_of_none ⟨.str _, H, I.tok _, ⟨_, rfl⟩, q⟩
  | bl b =>
    cases hd
    obtain rfl : u = Value.bool b := ru
    exact PySem.P.repr_of_bool ⟨.str _, H, I.tok _, ⟨_, rfl⟩, q⟩
  | int i =>
    cases hd
    obtain ⟨tk, rfl⟩ := ru
    have hi : i.natAbs.log2 < 1920 := by simpa [PyData.showable] using hs
    exact PySem.P.repr_of_int hi ⟨.str _, H, I.tok _, ⟨_, rfl⟩, q⟩
  | str z =>
    cases hd
    obtain ⟨tk, rfl⟩ := ru
    exact PySem.P.repr_of_str (hsz := by simpa only [PyData.shown] using hz) ⟨.str _, H, I.tok _, ⟨_, rfl⟩, q⟩
  | byt b => cases hd
  | flt b => cases hd
  | ty n => cases hd
end
end Sb

namespace Sb
open PySem PySem.Spec PyProof.Rows L2
section
variable {P : Program} {w : World} {K : PySem.W.Frag} {mg mb : Str → Option Value} {k : Nat} {fa a : Addr} {fd : FuncData} {x : Str} {sp : Sp} {s1 : Shared} {vs : List Value} {ns : List Int}
/-- what the row asks of the law's call -/
abbrev Done (P : Program) (w : World) (fa a : Addr) (s1 : Shared) : Prop := codeAny (model P w) callerA (.call (.ref fa) ⟨[.ref a], []⟩)
  (fun r s' => r = .ok (.ret (.bool true)) ∧ OldK s1.heap s'.heap ∧ s'.os = s1.os ∧ AllBare s'.gens) s1
/-- the law's call over an abstract heap that tracks the script at most -/
theorem overH {H : Hp} (KX : K.In s1.heap) (hns : s1.heap.Ns mainGlobals mg) (hb : s1.heap.Ns builtinsNs mb) (hbb : ∀ x : Str, x ≠ "__name__" → mb x = bootBuiltins x) (hlim : s1.heap.NoLimit) (hg : s1.gens = #[])
    (ha : s1.heap.get? a = some { cls := .type "list", data := .seq vs.toArray }) (hr : Room k callerA)
    (F : ∀ base : Heap, K.In base → base.Ns mainGlobals mg → FnG P w K mg base CX0 k fa fd [x] sp) (bd : ∀ (s : Shared) (u : Value), BindsTo s fd ⟨[u], []⟩ [(x, u)])
    (hO : Only H) (ok : HOk P w H s1.heap) (onlyA : ∀ b, H b ≠ none → b = a) (notK : H a ≠ none → K.lookup a = none)
    (want : sp [.ref a] H (fun v _ => v = .bl true) fun _ _ _ => False) : Done P w fa a s1 := by
  have free : ∀ {b : Addr} {o : Obj}, s1.heap.get? b = some o → (b = a → H b = none) → H b = none := by
    intro b o _ z
    cases q : H b with
    | none => rfl
    | some u =>
      have e : b = a := onlyA b (by simp [q])
      rw [z e] at q
      cases q
  have dict : ∀ {b : Addr} {o : Obj} {es : Array DictEntry} {ep : Nat}, s1.heap.get? b = some o → o.data = .dict es ep → H b = none := by
    intro b o es ep e d
    apply free e
    intro z
    subst z
    rw [ha] at e
    cases e
    cases (show Data.seq vs.toArray _ = Data.dict es ep from d)
  have spaces : ∀ {b : Addr} {m : Str → Option Value}, s1.heap.Ns b m → (hidT s1.heap H).Ns b m := by
    rintro b m ⟨o, es, ep, e, d, r⟩
    exact ⟨o, es, ep, hidT_get e (dict e d), d, r⟩
  have inB : K.In (hidT s1.heap H) := by
    intro b o e
    refine hidT_get (KX b o e) (free (KX b o e) fun z => ?_)
    subst z
    cases q : H b with
    | none => rfl
    | some u =>
      rw [notK (by simp [q])] at e
      cases e
  obtain ⟨mc, c1, c2⟩ := hlim
  have md : Mod K mg (hidT s1.heap H) := ⟨inB, spaces hns, ⟨mb, spaces hb, hbb⟩, ⟨mc, spaces c1, c2⟩⟩
  have e0 : Env0 P w K mg (hidT s1.heap H) callerA [] s1 H :=
    { frames := rfl, mod := md, bs := fun b o e => of_hidT e, bsz := Nat.le_of_eq (hidT_size _ _), funs := trivial, frf := (fun b z => (by cases z)), hok := ok, bare := .of_eq hg }
  have run := (F _ inB (spaces hns)).run callerA [] s1 H ⟨[.ref a], []⟩ [.ref a] [.ref a] _ _ rfl hr e0 (bd s1 (.ref a)) (.cons rfl .nil) want
  refine codeAny_mono run ?_
  intro r s' z
  match r, z with
  | .error e, z =>
    exact False.elim z
  | .ok .next, z => exact False.elim z
  | .ok .brk, z => exact False.elim z
  | .ok .cont, z => exact False.elim z
  | .ok (.ret u), ⟨v, H', os, bare, un, ok', rel, q⟩ =>
    subst q
    obtain rfl : u = Value.bool true := rel
    refine ⟨rfl, OldK.of_keep ?_, os, bare⟩
    intro b o e
    cases q : H b with
    | none => exact un.keep b o e q (fun z => by cases z) (fun z => by cases z)
    | some u =>
      cases hO b with
      | inl z =>
        rw [q] at z
        cases z
      | inr z =>
        obtain ⟨ob, xs, z⟩ := z
        have e1 := (ok b _ z).1
        have e2 := (ok' b _ (un.frzs b ob _ z)).1
        rw [e] at e1
        cases e1
        exact e2
/-- the law's call -/
theorem law_callG (KX : K.In s1.heap) (hns : s1.heap.Ns mainGlobals mg) (hb : s1.heap.Ns builtinsNs mb) (hbb : ∀ x : Str, x ≠ "__name__" → mb x = bootBuiltins x) (hlim : s1.heap.NoLimit) (hg : s1.gens = #[])
    (ha : s1.heap.get? a = some { cls := .type "list", data := .seq vs.toArray }) (hi : IntsAre vs ns) (hl : ns.length ≤ sizeLine) (hr : Room k callerA)
    (F : ∀ base : Heap, K.In base → base.Ns mainGlobals mg → FnG P w K mg base CX0 k fa fd [x] sp) (bd : ∀ (s : Shared) (u : Value), BindsTo s fd ⟨[u], []⟩ [(x, u)])
    (want : ∀ H : Hp, Only H → SqL K H a (ns.map V.int) → sp [.ref a] H (fun v _ => v = .bl true) fun _ _ _ => False) : Done P w fa a s1 := by
  have rv := vals_ints hi
  have nv := hi.length
  by_cases hk : K.lookup a = none
  · let H : Hp := fun b => if b = a then some (.frz { cls := .type "list", data := .seq vs.toArray } (.lst (ns.map V.int))) else none
    have at_a : H a = some (.frz { cls := .type "list", data := .seq vs.toArray } (.lst (ns.map V.int))) := if_pos rfl
    have off : ∀ b, b ≠ a → H b = none := fun b z => if_neg z
    have hO : Only H := by
      intro b
      by_cases e : b = a
      · subst e
        exact Or.inr ⟨_, _, at_a⟩
      · exact Or.inl (off b e)
    refine overH (H := H) KX hns hb hbb hlim hg ha hr F bd hO ?_ ?_ (fun _ => hk) (want H hO (Or.inl (Or.inr ⟨_, at_a⟩)))
    · intro b u z
      by_cases e : b = a
      · subst e
        rw [at_a] at z
        cases z
        exact ⟨ha, by rw [List.length_map]; exact hl, vs, _, rv, ha⟩
      · rw [off b e] at z
        cases z
    · intro b z
      by_cases e : b = a
      · exact e
      · exact absurd (off b e) z
  · cases q : K.lookup a with
    | none => exact absurd q hk
    | some o =>
      have e := KX a o q
      rw [ha] at e
      cases e
      have hO : Only fun _ => none := fun _ => Or.inl rfl
      refine overH (H := fun _ => none) KX hns hb hbb hlim hg ha hr F bd hO (fun b u z => by cases z) (fun b z => absurd rfl z) (fun z => absurd rfl z) (want _ hO (Or.inr ?_))
      exact ⟨_, vs.toArray, _, q, rfl, rfl, rfl, by rw [List.size_toArray, nv]; exact hl, by simpa using rv⟩
end
/-- the row's end, from the law's promise -/
theorem walk_ofG {l : PySem.W.OpenLaw} {n k : Nat} {q : Program} {loose : List Str} {XP : (Str → Option Value) → Heap → Prop} {YP : World → Heap → Prop} {d : DefRec} {K : Params → PySem.W.Frag} {sp : PySem.W.Frag → Sp} {x : Str}
    (hn : l.most = some n) (hn2 : n ≤ sizeLine) (hdf : d.params.defaults = []) (hr : Room k callerA) (hY : ∀ (w : World) (h : Heap), YP w h → (K w.params).In h)
    (F : ∀ (w : World) (mg : Str → Option Value) (fa : Addr) (h : Heap), (K w.params).In h → h.Ns mainGlobals mg → mg d.name = some (.ref fa) →
      ∃ fd : FuncData, (∀ (s : Shared) (u : Value), BindsTo s fd ⟨[u], []⟩ [(x, u)]) ∧
        ∀ base : Heap, (K w.params).In base → base.Ns mainGlobals mg → FnG l.prog w (K w.params) mg base CX0 k fa fd [x] (sp (K w.params)))
    (want : ∀ (K : PySem.W.Frag) (H : Hp) (a : Addr) (ns : List Int), ns.length ≤ n → (∀ z ∈ ns, Builtin.Int.intBits z ≤ 1048576) → Only H → SqL K H a (ns.map V.int) →
      sp K [.ref a] H (fun v _ => v = .bl true) fun _ _ _ => False) : PySem.W.WalkO q loose XP YP l.row.toRowW d [] (fun f vs => PySem.call f vs) := by
  apply Att.attach_callB hn hdf
  intro w s0 s1 mg mb fa o pm cd doc a vs ns G Y ho hd hcd hmg hobj hints hlen hbits hg
  obtain ⟨fd, bd, hF⟩ := F w mg fa _ (hY w _ Y) G.T.g hmg
  exact law_callG (hY w _ Y) G.T.g G.T.b G.T.builtins G.T.nolimit hg hobj hints (Nat.le_trans hlen hn2) hr hF bd (fun H hO hS => want _ H a ns hlen hbits hO hS)
end Sb

/-! Data that is small enough to be shown and compared. -/
namespace Sb
open PySem PySem.Spec PyProof.Rows L2
structure Nice (n m : Nat) (d : PyData) : Prop where
  lay : d.canLay0 = true
  dep : d.depth ≤ n
  sho : d.showable = true
  nod : d.hasDict = false
  len : d.shown.length ≤ m
theorem Nice.mono {n m n' m' : Nat} {d : PyData} (h : Nice n m d) (hn : n ≤ n') (hm : m ≤ m') : Nice n' m' d :=
  { h with dep := Nat.le_trans h.dep hn, len := Nat.le_trans h.len hm }
theorem Nice.shaped {n m : Nat} {d : PyData} (h : Nice n m d) (hn : n ≤ 64) : SeqAt.shaped d = true := by
  unfold SeqAt.shaped
  rw [h.lay, decide_eq_true (Nat.le_trans h.dep hn)]
  rfl
theorem log_small {i : Int} (h : i.natAbs < 10 ^ 99) : i.natAbs.log2 < 400 :=
  PySem.Flt.log2_lt_of (by decide) (Nat.lt_of_lt_of_le h (by decide +kernel))
theorem Nice.int {i : Int} (h : i.natAbs < 10 ^ 99) : Nice 0 100 (.int i) := by
  refine ⟨rfl, Nat.le_refl _, ?_, rfl, ?_⟩
  · have := log_small h
    simp only [PyData.showable, decide_eq_true_eq]
    omega
  · have e := int_text_length_le10 (k := 99) (by decide) h
    show (Str.ofString (toString i)).length ≤ 100
    rw [PySem.ofString_length]
    exact e
theorem Nice.bool (b : Bool) : Nice 0 5 (.bool b) := by
  refine ⟨rfl, Nat.le_refl _, rfl, rfl, ?_⟩
  cases b <;> decide
theorem Nice.none : Nice 0 4 .none := ⟨rfl, Nat.le_refl _, rfl, rfl, by decide⟩
theorem niceAll {n m : Nat} : ∀ {ds : List PyData}, (∀ d ∈ ds, Nice n m d) → PyData.canLayAll0 ds = true ∧ PyData.depthAll ds ≤ n ∧ PyData.showableAll ds = true ∧ PyData.hasDictAll ds = false ∧
    ((PyData.shownAll ds).map (·.length)).sum ≤ ds.length * m ∧ (PyData.shownAll ds).length = ds.length
  | [], _ => ⟨rfl, Nat.zero_le _, rfl, rfl, by simp [PyData.shownAll], rfl⟩
  | d :: ds, h => by
    have hd := h d List.mem_cons_self
    obtain ⟨a, b, c, e, f, g⟩ := niceAll (ds := ds) fun x hx => h x (List.mem_cons_of_mem _ hx)
    refine ⟨?_, ?_, ?_, ?_, ?_, ?_⟩
    · simp only [PyData.canLayAll0, hd.lay, a, Bool.and_self]
    · simp only [PyData.depthAll]
      exact Nat.max_le.mpr ⟨hd.dep, b⟩
    · simp only [PyData.showableAll, hd.sho, c, Bool.and_self]
    · simp only [PyData.hasDictAll, hd.nod, e, Bool.or_self]
    · simp only [PyData.shownAll, List.map_cons, List.sum_cons, List.length_cons]
      have := hd.len
      rw [Nat.succ_mul]
      omega
    · simp only [PyData.shownAll, List.length_cons, g]
theorem Nice.tuple {n m k : Nat} {ds : List PyData} (h : ∀ d ∈ ds, Nice n m d) (hk : ds.length ≤ k) : Nice (n + 1) (k * m + 2 * k + 3) (.tuple ds) := by
  obtain ⟨a, b, c, e, f, g⟩ := niceAll h
  refine ⟨a, by simp only [PyData.depth]; omega, c, e, ?_⟩
  have l := tupleText_len_le (PyData.shownAll ds)
  simp only [PyData.shown]
  rw [g] at l
  have l2 : ds.length * m ≤ k * m := Nat.mul_le_mul_right _ hk
  omega
theorem Nice.list {n m k : Nat} {ds : List PyData} (h : ∀ d ∈ ds, Nice n m d) (hk : ds.length ≤ k) : Nice (n + 1) (k * m + 2 * k + 3) (.list ds) := by
  obtain ⟨a, b, c, e, f, g⟩ := niceAll h
  refine ⟨a, by simp only [PyData.depth]; omega, c, e, ?_⟩
  have l := listText_len_le (PyData.shownAll ds)
  simp only [PyData.shown]
  rw [g] at l
  have l2 : ds.length * m ≤ k * m := Nat.mul_le_mul_right _ hk
  omega
theorem shaped_ints (l : List Int) : SeqAt.shaped (.list (l.map PyData.int)) = true := by
  unfold SeqAt.shaped
  have h : PyData.canLayAll0 (l.map PyData.int) = true ∧ PyData.depthAll (l.map PyData.int) = 0 := by
    induction l with
    | nil => exact ⟨rfl, rfl⟩
    | cons x r ih => exact ⟨by simp only [List.map_cons, PyData.canLayAll0, PyData.canLay0, ih.1, Bool.and_self], by simp only [List.map_cons, PyData.depthAll, PyData.depth, ih.2, Nat.max_self]⟩
  simp only [PyData.canLay0, PyData.depth, h.1, h.2, Bool.true_and, decide_eq_true_eq]
  decide
theorem dp_ints (K : PySem.W.Frag) (H : Hp) : ∀ l : List Int, DpAll K H (l.map V.int) (l.map PyData.int)
  | [] => .nil
  | x :: r => .cons (.int x) (dp_ints K H r)
theorem eqv_ints : ∀ l m : List Int, PyData.eqvAll (l.map PyData.int) (m.map PyData.int) = decide (l = m)
  | [], [] => rfl
  | [], _ :: _ => rfl
  | _ :: _, [] => rfl
  | x :: r, y :: t => by
    simp only [List.map_cons, PyData.eqvAll, PyData.eqv, eqv_ints r t, List.cons.injEq]
    by_cases h : x = y <;> simp [h]
theorem div_wide {i j : Int} (h : 0 < j) (h2 : j < 2 ^ 100) : CDivW i j := wide_div (b := 100) h (by omega) (by decide) (by decide)
end Sb

/-! Data that never changes: scalars and tuples of them, at any depth. -/
namespace Sb
open PySem PySem.Spec PyProof.Rows L2
mutual
inductive TD (H : Hp) : V → PyData → Prop
  | non : TD H .non .none
  | bl (b : Bool) : TD H (.bl b) (.bool b)
  | int (i : Int) : TD H (.int i) (.int i)
  | str (x : Str) : TD H (.str x) (.str x)
  | tup {a : Addr} {xs : List V} {ds : List PyData} : H a = some (.tup xs) → TDs H xs ds → TD H (.ref a) (.tuple ds)
inductive TDs (H : Hp) : List V → List PyData → Prop
  | nil : TDs H [] []
  | cons {v : V} {vs : List V} {d : PyData} {ds : List PyData} : TD H v d → TDs H vs ds → TDs H (v :: vs) (d :: ds)
end
/-- tuples stay -/
def Tups (H H' : Hp) : Prop := ∀ a xs, H a = some (.tup xs) → H' a = some (.tup xs)
theorem Tups.refl {H : Hp} : Tups H H := fun _ _ h => h
theorem Tups.trans {H H1 H2 : Hp} (a : Tups H H1) (b : Tups H1 H2) : Tups H H2 := fun x y h => b x y (a x y h)
theorem Tups.same {H H' : Hp} (h : Same H H') : Tups H H' := fun a xs e => h a _ e
theorem Tups.new {H : Hp} {a : Addr} {o : HO} (h : H a = none) : Tups H (upd H a o) := fun b xs e => by
  rw [upd_ne (ne_of_none e h)]
  exact e
theorem Tups.put {H : Hp} {a : Addr} {o u : HO} (h : H a = some u) (hu : ∀ xs, u ≠ .tup xs) : Tups H (upd H a o) := fun b xs e => by
  rw [upd_ne (ne_of e h (hu xs).symm)]
  exact e
theorem Tups.lst {H : Hp} {a : Addr} {o : HO} {l : List V} (h : H a = some (.lst l)) : Tups H (upd H a o) := Tups.put h (fun _ z => by cases z)
mutual
theorem TD.mono {H H' : Hp} (t : Tups H H') : ∀ {v : V} (d : PyData), TD H v d → TD H' v d
  | _, .none, h => by cases h; exact .non
  | _, .bool b, h => by cases h; exact .bl b
  | _, .int i, h => by cases h; exact .int i
  | _, .str x, h => by cases h; exact .str x
  | _, .tuple ds, h => by
    cases h with
    | tup e r => exact .tup (t _ _ e) (TDs.mono t ds r)
  | _, .list _, h => by cases h
  | _, .dict _, h => by cases h
theorem TDs.mono {H H' : Hp} (t : Tups H H') : ∀ {vs : List V} (ds : List PyData), TDs H vs ds → TDs H' vs ds
  | _, [], h => by cases h; exact .nil
  | _, d :: ds, h => by
    cases h with
    | cons a r => exact .cons (TD.mono t d a) (TDs.mono t ds r)
end
mutual
theorem TD.dp {K : PySem.W.Frag} {H : Hp} : ∀ {v : V} (d : PyData), TD H v d → Dp K H v d
  | _, .none, h => by cases h; exact .non
  | _, .bool b, h => by cases h; exact .bl b
  | _, .int i, h => by cases h; exact .int i
  | _, .str x, h => by cases h; exact .str x
  | _, .tuple ds, h => by
    cases h with
    | tup e r => exact .tup (SqT.of e) (TDs.dp ds r)
  | _, .list _, h => by cases h
  | _, .dict _, h => by cases h
theorem TDs.dp {K : PySem.W.Frag} {H : Hp} : ∀ {vs : List V} (ds : List PyData), TDs H vs ds → DpAll K H vs ds
  | _, [], h => by cases h; exact .nil
  | _, d :: ds, h => by
    cases h with
    | cons a r => exact .cons (TD.dp d a) (TDs.dp ds r)
end
theorem TDs.length {H : Hp} : ∀ {vs : List V} {ds : List PyData}, TDs H vs ds → vs.length = ds.length
  | _, _, .nil => rfl
  | _, _, .cons _ r => congrArg (· + 1) r.length
theorem TDs.get {H : Hp} : ∀ {vs : List V} {ds : List PyData} {i : Nat} {v : V}, TDs H vs ds → vs[i]? = some v → ∃ d, ds[i]? = some d ∧ TD H v d
  | _, _, _, _, .nil, e => by simp at e
  | _, _, 0, _, .cons a _, e => by
    simp at e
    subst e
    exact ⟨_, rfl, a⟩
  | _, _, i + 1, v, .cons _ r, e => by
    obtain ⟨d, h1, h2⟩ := TDs.get (i := i) (v := v) r (by simpa using e)
    exact ⟨d, by simpa using h1, h2⟩
theorem TDs.at {H : Hp} : ∀ {vs : List V} {ds : List PyData} {i : Nat} {d : PyData}, TDs H vs ds → ds[i]? = some d → ∃ v, vs[i]? = some v ∧ TD H v d
  | _, _, _, _, .nil, e => by simp at e
  | _, _, 0, _, .cons a _, e => by
    simp at e
    subst e
    exact ⟨_, rfl, a⟩
  | _, _, i + 1, v, .cons _ r, e => by
    obtain ⟨d, h1, h2⟩ := TDs.at (i := i) (d := v) r (by simpa using e)
    exact ⟨d, by simpa using h1, h2⟩
theorem TDs.app {H : Hp} : ∀ {vs us : List V} {ds es : List PyData}, TDs H vs ds → TDs H us es → TDs H (vs ++ us) (ds ++ es)
  | _, _, _, _, .nil, s => s
  | _, _, _, _, .cons a r, s => .cons a (r.app s)
theorem TDs.take {H : Hp} : ∀ {vs : List V} {ds : List PyData} (n : Nat), TDs H vs ds → TDs H (vs.take n) (ds.take n)
  | _, _, 0, _ => .nil
  | _, _, _ + 1, .nil => .nil
  | _, _, n + 1, .cons a r => .cons a (r.take n)
theorem TDs.drop {H : Hp} : ∀ {vs : List V} {ds : List PyData} (n : Nat), TDs H vs ds → TDs H (vs.drop n) (ds.drop n)
  | _, _, 0, r => r
  | _, _, _ + 1, .nil => .nil
  | _, _, n + 1, .cons _ r => r.drop n
theorem TDs.ints {H : Hp} : ∀ {vs : List V} {ns : List Int}, TDs H vs (ns.map PyData.int) → vs = ns.map V.int
  | _, [], h => by cases h; rfl
  | _, n :: ns, h => by
    cases h with
    | cons a r =>
      cases a
      rw [List.map_cons, r.ints]
theorem TDs.ofInts {H : Hp} : ∀ {ns : List Int}, TDs H (ns.map V.int) (ns.map PyData.int)
  | [] => .nil
  | n :: ns => .cons (.int n) TDs.ofInts
/-- a tuple at v -/
theorem TD.isTup {H : Hp} {v : V} {ds : List PyData} (h : TD H v (.tuple ds)) : ∃ a xs, v = .ref a ∧ H a = some (.tup xs) ∧ TDs H xs ds := by
  cases h with
  | tup e r => exact ⟨_, _, rfl, e, r⟩
theorem TD.isInt {H : Hp} {v : V} {i : Int} (h : TD H v (.int i)) : v = .int i := by cases h; rfl
/-- a pair of ints -/
theorem TD.pair {H : Hp} {v : V} {i j : Int} (h : TD H v (.tuple [.int i, .int j])) : ∃ a, v = .ref a ∧ H a = some (.tup [.int i, .int j]) := by
  obtain ⟨a, xs, rfl, e, r⟩ := h.isTup
  cases r with
  | cons h1 r =>
    cases r with
    | cons h2 r =>
      cases r
      cases h1
      cases h2
      exact ⟨a, rfl, e⟩
theorem TD.ofPair {H : Hp} {a : Addr} {i j : Int} (h : H a = some (.tup [.int i, .int j])) : TD H (.ref a) (.tuple [.int i, .int j]) := .tup h (.cons (.int i) (.cons (.int j) .nil))

/-! ### streams -/
def msgD (m : Int × Int) : PyData := .tuple [.int m.1, .int m.2]
def strmD (ms : List (Int × Int)) : PyData := .tuple (ms.map msgD)
theorem msgD_inj {a b : Int × Int} (h : PyData.eqv (msgD a) (msgD b) = true) : a = b := by
  obtain ⟨a1, a2⟩ := a
  obtain ⟨b1, b2⟩ := b
  simp only [msgD, PyData.eqv, PyData.eqvAll, Bool.and_true, Bool.and_eq_true, beq_iff_eq] at h
  rw [h.1, h.2]
theorem eqv_msgs : ∀ a b : List (Int × Int), PyData.eqvAll (a.map msgD) (b.map msgD) = decide (a = b)
  | [], [] => rfl
  | [], _ :: _ => rfl
  | _ :: _, [] => rfl
  | x :: r, y :: t => by
    have ih := eqv_msgs r t
    by_cases h : x = y
    · subst h
      have e : PyData.eqv (msgD x) (msgD x) = true := by simp [msgD, PyData.eqv, PyData.eqvAll]
      simp only [List.map_cons, PyData.eqvAll, e, ih, Bool.true_and, List.cons.injEq, true_and]
    · have e : PyData.eqv (msgD x) (msgD y) = false := by
        cases q : PyData.eqv (msgD x) (msgD y) with
        | false => rfl
        | true => exact absurd (msgD_inj q) h
      simp only [List.map_cons, PyData.eqvAll, e, Bool.false_and, List.cons.injEq, h, false_and, decide_false]
theorem eqv_strm (a b : List (Int × Int)) : PyData.eqv (strmD a) (strmD b) = decide (a = b) := by
  simp only [strmD, PyData.eqv]
  exact eqv_msgs a b
/-- a stream of ints that are not too long -/
def Short (ms : List (Int × Int)) : Prop := ∀ m ∈ ms, m.1.natAbs < 10 ^ 99 ∧ m.2.natAbs < 10 ^ 99
theorem nice_msg {m : Int × Int} (h : m.1.natAbs < 10 ^ 99 ∧ m.2.natAbs < 10 ^ 99) : Nice 1 207 (msgD m) := by
  refine Nice.tuple (n := 0) (m := 100) (k := 2) (fun d hd => ?_) (Nat.le_refl 2)
  simp only [List.mem_cons, List.not_mem_nil, or_false] at hd
  rcases hd with rfl | rfl
  · exact Nice.int h.1
  · exact Nice.int h.2
theorem nice_strm {ms : List (Int × Int)} {k : Nat} (h : Short ms) (hk : ms.length ≤ k) : Nice 2 (k * 207 + 2 * k + 3) (strmD ms) := by
  refine Nice.tuple (n := 1) (m := 207) (k := k) (fun d hd => ?_) (by rw [List.length_map]; exact hk)
  obtain ⟨m, hm, rfl⟩ := List.mem_map.mp hd
  exact nice_msg (h m hm)
theorem TDs.msg {H : Hp} {vs : List V} {ms : List (Int × Int)} {i : Nat} {v : V} (r : TDs H vs (ms.map msgD)) (h : vs[i]? = some v) : ∃ m a, ms[i]? = some m ∧ v = .ref a ∧ H a = some (.tup [.int m.1, .int m.2]) := by
  obtain ⟨d, h1, h2⟩ := r.get h
  rw [List.getElem?_map] at h1
  cases e : ms[i]? with
  | none => rw [e] at h1; cases h1
  | some m =>
    rw [e] at h1
    cases h1
    obtain ⟨a, h3, h4⟩ := TD.pair h2
    exact ⟨m, a, rfl, h3, h4⟩
theorem TDs.msgs_len {H : Hp} {vs : List V} {ms : List (Int × Int)} (r : TDs H vs (ms.map msgD)) : vs.length = ms.length := by
  rw [r.length, List.length_map]
end Sb

/-! Operators over data that never changes. -/
namespace Sb
open PySem PySem.Spec PyProof.Rows L2
theorem same_new {H : Hp} {p : Addr} {o : HO} (h : H p = none) : Same H (upd H p o) := fun b u e => by
  rw [upd_ne (ne_of_none e h)]
  exact e
section
variable {X : Cx}
theorem opImp {f : Value → Value → Sem Value} {r r' : R2} (h : OpR X f r) (i : ∀ x y H Q, r' x y H Q → r x y H Q) : OpR X f r' :=
  fun pins s σ H x y v u Q I rx ry z => h pins s σ H x y v u Q I rx ry (i x y H Q z)
/-- t + u -/
def rCatD : R2 := fun x y H Q => ∃ ds es, TD H x (.tuple ds) ∧ TD H y (.tuple es) ∧ ds.length + es.length ≤ 100000 ∧
  ∀ p H', Same H H' → TD H' (.ref p) (.tuple (ds ++ es)) → Q (.ref p) H'
theorem op_catD : OpR X (binaryOp .Add) rCatD := opImp op_catA fun x y H Q h => by
  obtain ⟨ds, es, h1, h2, hl, q⟩ := h
  obtain ⟨a, xs, rfl, ha, hx⟩ := h1.isTup
  obtain ⟨b, ys, rfl, hb, hy⟩ := h2.isTup
  have lx := hx.length
  have ly := hy.length
  refine ⟨a, b, xs, ys, rfl, rfl, SqT.of ha, SqT.of hb, ?_, ?_, ?_, ?_⟩
  · rw [lx, ly]
    exact Nat.le_trans hl (by decide)
  · intro e
    subst e
    cases hx
    exact q b H (Same.refl H) h2
  · intro _ e
    subst e
    cases hy
    exact q a H (Same.refl H) (by rw [List.append_nil]; exact h1)
  · intro _ _ p np
    exact q p _ (same_new np) (.tup upd_same (TDs.mono (Tups.new np) _ (hx.app hy)))
/-- a part of a list, by its bounds -/
def cutA {α : Type} (xs : List α) (lo hi : Option Int) : List α := (xs.drop (HT.sIx xs.length 0 lo)).take (HT.sIx xs.length xs.length hi - HT.sIx xs.length 0 lo)
theorem cutA_to {α : Type} (xs : List α) {k : Nat} (h : k ≤ xs.length) : cutA xs none (some (k : Int)) = xs.take k := by
  unfold cutA
  rw [HT.sIx_none, HT.sIx_nat, List.drop_zero, Nat.sub_zero, Nat.min_eq_left h]
theorem cutA_from {α : Type} (xs : List α) {k : Nat} (h : k ≤ xs.length) : cutA xs (some (k : Int)) none = xs.drop k := by
  unfold cutA
  rw [HT.sIx_none, HT.sIx_nat, Nat.min_eq_left h]
  exact List.take_of_length_le (by rw [List.length_drop]; exact Nat.le_refl _)
theorem TDs.cut {H : Hp} {xs : List V} {ds : List PyData} (h : TDs H xs ds) (lo hi : Option Int) : TDs H (cutV xs lo hi) (cutA ds lo hi) := by
  unfold cutV cutA
  rw [h.length]
  exact (h.drop _).take _
/-- t[lo:hi] -/
def rSlD : V → Option Int → Option Int → Hp → VK → Prop := fun x lo hi H Q => ∃ ds, TD H x (.tuple ds) ∧ ∀ p H', Same H H' → TD H' (.ref p) (.tuple (cutA ds lo hi)) → Q (.ref p) H'
theorem sl_D : SlR X rSlD := by
  intro pins s σ H x v vl vu lo hi sl Q I rx hs pl pu h
  refine sl_tupA pins s σ H x v vl vu lo hi sl Q I rx hs pl pu ?_
  obtain ⟨ds, hT, q⟩ := h
  obtain ⟨a, xs, rfl, ha, hx⟩ := hT.isTup
  refine ⟨a, xs, rfl, SqT.of ha, ?_, ?_⟩
  · rintro ⟨e1, e2⟩
    refine q a H (Same.refl H) ?_
    have e : cutA ds lo hi = ds := by
      unfold cutA
      rw [← hx.length, e1, e2, List.drop_zero, Nat.sub_zero]
      exact List.take_of_length_le (by rw [hx.length]; exact Nat.le_refl _)
    rw [e]
    exact hT
  · intro _ p np
    exact q p _ (same_new np) (.tup upd_same (TDs.mono (Tups.new np) _ (hx.cut lo hi)))
/-- x == y, x != y over data that never changes -/
def rEqT : R2 := fun x y H Q => ∃ d e, TD H x d ∧ TD H y e ∧ SeqAt.shaped d = true ∧ SeqAt.shaped e = true ∧ Q (.bl (PyData.eqv d e)) H
def rNeT : R2 := fun x y H Q => ∃ d e, TD H x d ∧ TD H y e ∧ SeqAt.shaped d = true ∧ SeqAt.shaped e = true ∧ Q (.bl (!PyData.eqv d e)) H
theorem op_eqT (hu : X.A.units + 64 < cLine) : OpR X (compareOp .Eq) rEqT := opImp (op_eqD hu) fun x y H Q ⟨d, e, h1, h2, r⟩ => ⟨d, e, h1.dp _, h2.dp _, r⟩
theorem op_neT (hu : X.A.units + 64 < cLine) : OpR X (compareOp .NotEq) rNeT := opImp (op_neD hu) fun x y H Q ⟨d, e, h1, h2, r⟩ => ⟨d, e, h1.dp _, h2.dp _, r⟩
end
theorem shaped_strm (ms : List (Int × Int)) : SeqAt.shaped (strmD ms) = true := by
  have h : PyData.canLayAll0 (ms.map msgD) = true ∧ PyData.depthAll (ms.map msgD) ≤ 1 := by
    induction ms with
    | nil => exact ⟨rfl, Nat.zero_le _⟩
    | cons x r ih => exact ⟨by simp only [List.map_cons, PyData.canLayAll0, ih.1, Bool.and_true]; rfl, by simp only [List.map_cons, PyData.depthAll]; exact Nat.max_le.mpr ⟨Nat.le_refl _, ih.2⟩⟩
  unfold SeqAt.shaped
  simp only [strmD, PyData.canLay0, PyData.depth, h.1, Bool.true_and, decide_eq_true_eq]
  have := h.2
  omega
end Sb

/-! An own error class over a built-in one, its __init__ storing its one argument under the argument's name. -/
namespace PySem
namespace OwnE
open PySem.W PySem.Calls PyProof.Rows PySem.HandSPX Builtin Builtin.ObjectAttr
/-- the base: its name, its __new__, its __init__, its mro -/
structure Base where
  B : String
  newId : String
  initId : String
  bm : List Value
structure Base.Ok (b : Base) : Prop where
  fb : ExcBaseFacts b.B b.newId b.initId b.bm
  sb : StoreFacts b.B b.bm "object.__setattr__" "object"
  ne : b.bm.isEmpty = false
section
variable {prog : Program} {w : World} {A : Around} {R : Result → Shared → Prop} {hp : Heap} {g : Array GenState} {d : Drawn} {t : Nat} {os : OsState}
theorem tail_some {b : Base} (ok : b.Ok) : ∀ l : List Value, excTail b.bm l = true → l.isEmpty = false
  | [], e => by
    have z : b.bm = [] := (beq_iff_eq.mp e).symm
    have n := ok.ne
    rw [z] at n
    exact absurd n (by decide)
  | _ :: _, _ => rfl
/-- x.name = v, x a new error -/
theorem stored {b : Base} (ok : b.Ok) {K : W.Frag} {name : Str} {tk : Tok} {v : Value} {x C : Addr} {fv : Array Value} {cd : ClassData} (inK : K.In hp)
    (at_x : hp.get? x = some { cls := .ref C, data := .fields fv }) (at_C : W.clsIn K C = some cd) (tail : excTail b.bm cd.mro = true) (own : cd.hasDict = true) (free : W.findIn K (.ref C) name = some none)
    (want : ∀ h' tk' dx, (∀ c o, c ≠ x → hp.get? c = some o → h'.get? c = some o) → hp.objs.size ≤ dx → dx ≠ x →
      h'.get? x = some { cls := .ref C, dict := some dx, data := .fields fv } → h'.Ns1 dx (fun y => if y = name then some v else none) →
      R (.ok (.ret .none)) ⟨h', g, d, tk', os⟩) :
    codeAny (model prog w) A (.call (.builtin "object.__setattr__") ⟨[.ref x, .str name tk, v], []⟩) R ⟨hp, g, d, t, os⟩ := by
  have inst : W.InstAt hp x { cls := .ref C, data := .fields fv } C none := ⟨at_x, rfl, rfl, trivial⟩
  have so := F.store_object
  have some_ := tail_some ok _ tail
  have object : cd.mro.contains (.type "object") = true := by rw [excTail_contains "object" _ tail]; exact ok.sb.hasOwner
  have apart : x ≠ hp.objs.size := Nat.ne_of_lt (Heap.lt_size at_x)
  have under : W.Looks (model prog w) hp (isInstance (.ref x) (.type "object")) true := by
    refine inst.type.andThen (W.looks_mroIn inK ?_)
    unfold W.mroIn
    rw [at_C, Option.bind_some, if_neg (by rw [some_]; decide), object]
  have data : W.Looks (model prog w) hp (classData C) cd := W.looks_clsIn inK at_C
  have order : W.Looks (model prog w) hp (mroOf (.ref C)) cd.mro := data.andThen .now
  have nobody : W.Looks (model prog w) hp (storeTaker? none) none := .now
  apply codeAny_call_builtin so.slot.plain so.entry
  apply @W.check_slot (model prog w) _ _ ⟨hp, g, d, t, os⟩ "object.__setattr__" "object" "__setattr__" (.ref x) [.str name tk, v] [] _ so.kind so.split under (so.args (.ref x) (.str name tk) v)
  rw [W.osa_eq, refuse_eq]
  apply wpAny_bind
  apply wpAny_bind
  apply inst.type.at
  apply wpAny_bind
  apply order.at
  rw [excTail_pass _ (ok.sb.passes _) _ tail]
  apply wpAny_pure
  apply wpAny_bind
  apply inst.type.at
  apply wpAny_bind
  apply (W.looks_findIn inK free).at
  apply wpAny_bind
  apply nobody.at
  show wpAny _ _ (storeInOwnDict (.ref x) (.ref C) (.str name tk) name v false) _ _ _
  obtain ⟨nm, bs, mro, ns, qn, hd, sn, sb, ab, col, del⟩ := cd
  dsimp only at own
  subst own
  unfold storeInOwnDict ownDictForStores
  repeat (first
    | with_reducible refine store_in_new ?_ ?_
    | with_reducible refine wpAny_loadPart_at at_x ?_
    | with_reducible refine data.at ?_
    | wp_step)
  · exact ⟨_, #[], _, (Heap.get?_update_ne _ _ _ _ apart.symm).trans (Heap.get?_push_at rfl rfl), rfl, (fun e he => absurd he (by simp)), (fun _ => rfl)⟩
  · intro h' tk' ns1 but
    have still : (hp.push { cls := .type "dict", data := .dict #[] }).get? x = some { cls := .ref C, data := .fields fv } := Heap.get?_push_of_some _ at_x
    refine want h' tk' hp.objs.size ?_ (Nat.le_refl _) apart.symm ?_ ns1
    · intro c o hc ho
      rw [but.2 c (Nat.ne_of_lt (Heap.lt_size ho)), Heap.get?_update_ne _ _ _ _ hc]
      exact Heap.get?_push_of_some _ ho
    · rw [but.2 x apart]
      exact Heap.get?_update_self _ still rfl
end
/-! the text of __init__ -/
def iA (f : Str) (p1 p2 : Pos) : Arguments := { posonlyargs := [], args := [{ arg := "self", annotation := none, pos := p1 }, { arg := f, annotation := none, pos := p2 }], vararg := none, kwonlyargs := [], kw_defaults := [], kwarg := none, defaults := [] }
def iB (f : Str) (q1 q2 q3 q4 : Pos) : List Stmt := [.Assign [.Attribute (.Name "self" q1) f q2] (.Name f q3) q4]
/-- what the written part says of the class x, at C, and of its __init__, at fI -/
structure ErrTxt (b : Base) (x f qual : Str) (K : Frag) (mg : Str → Option Value) (C fI : Addr) : Prop where
  gC : mg x = some (.ref C)
  cls : ∃ nm q N bs bm sn sub ab col dd k0 k1 k2 k3 k5, K.lookup C = some (excClassObj nm q C N bs bm true sn sub ab col dd k0 k1 k2 k3 k5 b.newId) ∧ excTail b.bm bm = true
  sa : findIn K (.ref C) "__setattr__" = some (some (.builtin "object.__setattr__"))
  ga : findIn K (.ref C) "__getattribute__" = some (some (.builtin "BaseException.__getattribute__"))
  gg : findIn K (.ref C) "__getattr__" = some none
  noN : findIn K (.ref C) f = some none
  iC : findIn K (.ref C) "__init__" = some (some (.ref fI))
  tC : typeIn K (.ref fI) = some (.type "function")
  kC : keepIn K (.ref C) = true
  exC : subIn K (.ref C) (.type "BaseException") = some true
  tyC : typeIn K (.ref C) = some (.type "type")
  hdC : hasDictIn K C = true
  te : exmOne K (.ref C) (.ref C) = some true
  fn : ∃ (oc : Value) (od : Option Addr) (doc pm : Value) (an : Option Addr) (cdv ct : Value) (osl : Array (Option Value)) (p1 p2 q1 q2 q3 q4 : Pos) (iS : Scope),
    K.lookup fI = some ⟨oc, od, .func (fnOf "__init__" qual (iA f p1 p2) (iB f q1 q2 q3 q4) iS .none .none doc pm an cdv ct), osl⟩ ∧ codeIn K cdv qual = true ∧
    iS.kind = .function ∧ iS.names.lookup ("self" : Str) = some .local ∧ iS.names.lookup f = some .local ∧ iS.isCoroutine = false ∧ iS.isGenerator = false
theorem one_le_line (v : Value) : [v].length ≤ sizeLine := by
  show 1 ≤ sizeLine
  decide
theorem ldE {M : Model} {s : Shared} {name : Str} {scope : Scope} {L a : Addr} {cd : Value} {m : Str → Option Value} {x : Str} {pos : Pos} {v : Value} {Q : Value → Shared → Prop} {A : Around} {E : Value → Shared → Prop} (hn : s.heap.Ns L m) (hv : m x = some v) (h : Q v s)
    (hk : scope.kind = .function) (hl : scope.names.lookup x = some .local) (hd : (x == ("__debug__" : Str)) = false) :
    wpAny M A (eval (.Name x pos) (envOfC name scope L a cd)) Q E s := wpAny_Name (wpAny_loadName_local hk hl hn hv h) hd
/-- what __init__ leaves of a fresh exception at x -/
structure Left (h h' : Heap) (x C dx t1 : Addr) (f : Str) (v : Value) : Prop where
  keep : ∀ b o, b ≠ x → h.get? b = some o → h'.get? b = some o
  obj : h'.get? x = some { cls := .ref C, dict := some dx, data := .fields #[.ref t1, .none, .none, .none, .bool false, .none] }
  dbig : h.objs.size ≤ dx
  dne : dx ≠ x
  ns : h'.Ns1 dx (fun y => if y = f then some v else none)
/-- a made error -/
structure Made1 (h h' : Heap) (e C d : Addr) (f : Str) (v : Value) : Prop where
  keep : ∀ b o, h.get? b = some o → h'.get? b = some o
  new : h.objs.size ≤ e
  obj : ∃ oe vs, h'.get? e = some oe ∧ oe.cls = .ref C ∧ oe.dict = some d ∧ oe.data = .fields vs ∧ vs[1]? = some .none
  dbig : h.objs.size ≤ d
  dne : d ≠ e
  ns : h'.Ns1 d (fun y => if y = f then some v else none)
section
variable {prog : Program} {w : World} {A : Around} {E : Value → Shared → Prop} {R : Result → Shared → Prop} {s : Shared} {b : Base} {x f qual : Str} {K : Frag} {mg : Str → Option Value} {C fI : Addr}
theorem run_init (ok : b.Ok) (T : ErrTxt b x f qual K mg C fI) (hf1 : ¬ f = ("self" : Str)) (hf2 : (f == ("__debug__" : Str)) = false)
    (bind : ∀ (oc : Value) (od : Option Addr) (doc pm : Value) (an : Option Addr) (cdv ct : Value) (p1 p2 q1 q2 q3 q4 : Pos) (iS : Scope) (u v : Value),
      bindArgs (fnOf "__init__" qual (iA f p1 p2) (iB f q1 q2 q3 q4) iS .none .none doc pm an cdv ct) ⟨[u, v], []⟩ = pure [(("self" : Str), u), (f, v)])
    {e t0 : Addr} {v : Value} (X : K.In s.heap) (hlim : s.heap.NoLimit) (he : s.heap.get? e = some (excO C t0)) (hnx : K.lookup e = none) (hroom : A.depth < recursionLimit)
    (want : ∀ h' tk dx, Left s.heap h' e C dx t0 f v → R (.ok (.ret .none)) { s with heap := h', toks := tk }) :
    codeAny (model prog w) A (.call (.ref fI) ⟨[.ref e, v], []⟩) R s := by
  obtain ⟨oc, od, doc, pm, an, cdv, ct, osl, p1, p2, q1, q2, q3, q4, iS, ho, hcd, sk, s1, s2, s3, s4⟩ := T.fn
  obtain ⟨nm, q, N, bs, bm, sn, sub, ab, col, dd, k0, k1, k2, k3, k5, hC, hbm⟩ := T.cls
  have hcl : clsIn K C = some { name := nm, bases := bs, mro := .ref C :: bm, ns := N, qualname := q, hasDict := true, slotNames := sn, subclasses := sub, abstract := ab, collection := col, hasDel := false } := by
    unfold clsIn
    rw [hC] <;> rfl
  refine Att.call_fn (binds := [(("self" : Str), .ref e), (f, v)]) X hlim ho hcd hroom (BindsTo.of_eq (bind oc od doc pm an cdv ct p1 p2 q1 q2 q3 q4 iS _ _)) ?_ (fun z IC => ?_) s3 s4 sk
  · simp [s1, s2]
  obtain ⟨hh, tk1, rfl⟩ := IC.toInCall.same
  have keep := IC.toInCall.keep
  have ns := IC.toInCall.ns
  have X1 : K.In hh := X.keeps keep
  have at_e := keep _ _ he
  have of_f : bindL (envOfC qual iS s.heap.objs.size fI cdv).kindOf [(("self" : Str), .ref e), (f, v)] (fun _ => none) f = some v := by
    have a1 : (envOfC qual iS s.heap.objs.size fI cdv).kindOf f = some .local := s2
    simp only [bindL, a1, if_true]
  have of_s : bindL (envOfC qual iS s.heap.objs.size fI cdv).kindOf [(("self" : Str), .ref e), (f, v)] (fun _ => none) ("self" : Str) = some (.ref e) := by
    have a1 : (envOfC qual iS s.heap.objs.size fI cdv).kindOf f = some .local := s2
    have a2 : (envOfC qual iS s.heap.objs.size fI cdv).kindOf ("self" : Str) = some .local := s1
    simp only [bindL, a1, a2, if_true]
    rw [if_neg (fun z => hf1 z.symm)]
  show wpAny _ _ (execs _ _) _ _ _
  refine wpAny_execs_cons (plainObj_wpAny_Assign_Attribute ?_)
  apply ldE (v := v) ns of_f _ sk s2 hf2
  apply ldE (v := .ref e) ns of_s _ sk s1 (by decide)
  refine set_plain X1 (ox := excO C t0) (od := none) ⟨at_e, rfl, rfl, trivial⟩ T.sa ?_
  refine stored ok X1 at_e hcl (show excTail b.bm (.ref C :: bm) = true from hbm) rfl T.noN ?_
  intro h3 tk3 dx keep3 dn dne at3 ns3
  show wpAny _ _ (execs _ _) _ _ _
  have z : s.heap.objs.size < hh.objs.size := ns.lt
  refine wpAny_execs_nil (want h3 tk3 dx ?_)
  exact { keep := fun c o hc q => keep3 c o hc (keep c o q), obj := at3, dbig := Nat.le_of_lt (Nat.lt_of_lt_of_le z dn), dne := dne, ns := ns3 }
theorem run_made (ok : b.Ok) (T : ErrTxt b x f qual K mg C fI) (hf1 : ¬ f = ("self" : Str)) (hf2 : (f == ("__debug__" : Str)) = false)
    (bind : ∀ (oc : Value) (od : Option Addr) (doc pm : Value) (an : Option Addr) (cdv ct : Value) (p1 p2 q1 q2 q3 q4 : Pos) (iS : Scope) (u v : Value),
      bindArgs (fnOf "__init__" qual (iA f p1 p2) (iB f q1 q2 q3 q4) iS .none .none doc pm an cdv ct) ⟨[u, v], []⟩ = pure [(("self" : Str), u), (f, v)])
    {v : Value} (X : K.In s.heap) (hlim : s.heap.NoLimit) (hroom : A.depth + 1 < recursionLimit)
    (want : ∀ h' tk e d, Made1 s.heap h' e C d f v → R (.ok (.ret (.ref e))) { s with heap := h', toks := tk }) :
    codeAny (model prog w) A (.call (.ref C) ⟨[v], []⟩) R s := by
  obtain ⟨nm, q, N, bs, bm, sn, sub, ab, col, dd, k0, k1, k2, k3, k5, hC, hbm⟩ := T.cls
  obtain ⟨hp, g, dr, tk, os⟩ := s
  have keep : ∀ c o, hp.get? c = some o → ((hp.push (kdv_tup [v])).push (excO C hp.objs.size)).get? c = some o := by
    intro c o z
    exact Heap.get?_push_of_some _ (Heap.get?_push_of_some _ z)
  have there : ((hp.push (kdv_tup [v])).push (excO C hp.objs.size)).get? (hp.objs.size + 1) = some (excO C hp.objs.size) := by heap_get
  have new : K.lookup (hp.objs.size + 1) = none := by
    cases e : K.lookup (hp.objs.size + 1) with
    | none => rfl
    | some o => exact absurd (Nat.lt_of_succ_lt (Heap.lt_size (X _ _ e))) (Nat.lt_irrefl _)
  apply call_own ok.fb (fun X => excTail_contains X bm hbm) (X _ _ hC) (looks_findIn X T.iC) (fun self => bind_fn X self T.tC) (one_le_line v)
  refine run_init (s := ⟨(hp.push (kdv_tup [v])).push (excO C hp.objs.size), g, dr, tk, os⟩) ok T hf1 hf2 bind (X.keeps keep) (hlim.keeps keep) there new hroom ?_
  rintro h' tk' dx ⟨keep2, at2, dn, dne, ns2⟩
  have z : hp.objs.size + 1 + 1 ≤ dx := by
    have q := dn
    rw [Heap.size_push, Heap.size_push] at q
    exact q
  refine ⟨rfl, want h' tk' (hp.objs.size + 1) dx ?_⟩
  refine { keep := fun c o q => keep2 c o ?_ (keep c o q), new := Nat.le_succ _, obj := ⟨_, _, at2, rfl, rfl, rfl, rfl⟩, dbig := (by show hp.objs.size ≤ dx; omega), dne := dne, ns := ns2 }
  exact Nat.ne_of_lt (Nat.lt_succ_of_lt (Heap.lt_size q))
end
end OwnE
end PySem
namespace L2
open PySem PySem.Spec PyProof.Rows
theorem relO_one {f : Str} {v : V} {v' : Value} (r : RelV v v') (y : Str) : RelO (List.lookup y [(f, v)]) (if y = f then some v' else none) := by
  by_cases h : y = f
  · subst h
    rw [if_pos rfl]
    have q : List.lookup y [(y, v)] = some v := by simp [List.lookup]
    rw [q]
    exact r
  · rw [if_neg h]
    have q1 : (y == f) = false := by simpa using h
    have q : List.lookup y [(f, v)] = none := by simp [List.lookup, q1]
    rw [q]
    trivial
section
variable {X : Cx} {b : OwnE.Base} {x f qual : Str} {C fI : Addr}
/-- what an error class's text gives, at any state -/
structure ErrOk (b : OwnE.Base) (x f qual : Str) (K : PySem.W.Frag) (mg : Str → Option Value) (C fI : Addr) : Prop where
  ok : b.Ok
  T : PySem.OwnE.ErrTxt b x f qual K mg C fI
  hf1 : ¬ f = ("self" : Str)
  hf2 : (f == ("__debug__" : Str)) = false
  bind : ∀ (oc : Value) (od : Option Addr) (doc pm : Value) (an : Option Addr) (cdv ct : Value) (p1 p2 q1 q2 q3 q4 : Pos) (iS : Scope) (u v : Value),
      bindArgs (PySem.W.fnOf "__init__" qual (OwnE.iA f p1 p2) (OwnE.iB f q1 q2 q3 q4) iS .none .none doc pm an cdv ct) ⟨[u, v], []⟩ = pure [(("self" : Str), u), (f, v)]
/-- x(e) -/
def tMkE (C : Addr) (f : Str) (ta : TA) : St → Hp → XK → Prop := fun σ H Q => ta σ H fun vs H1 => ∃ v, vs = [v] ∧ ∀ d, H1 d = none → Q (.ref C) (some d) (upd H1 d (.xd [(f, v)]))
theorem pmk_E {a : Expr} {ta : TA} {p pos : Pos} {k : Nat} (T : ErrOk b x f qual X.K X.mg C fI) (hr : Room k X.A) (ha : PA X [a] ta) (hg : Gl X x := by rfl) (hdb : (x == ("__debug__" : Str)) = false := by decide)
    (he : starEach (a :: []) X.env = (false, eval a X.env) :: starEach [] X.env := by rfl) (hpl : (backTo pos (starEach [] X.env)).any (·.1) = false := by rfl) :
    PMk X (.Call (.Name x p) [a] [] pos) (tMkE C f ta) := by
  intro pins s σ H Q I h
  apply wpAny_Call_Name_kw
  apply ld_glob I hg T.T.gC _ hdb
  apply PySem.W.callWith_K (h₀ := X.base) I.ok.mod.kin T.T.kC _ he hpl
  refine thn (ha.run pos pins s σ H _ I h) ?_
  rintro us s1 ⟨vs, H1, I1, r1, v, ev, q1⟩
  subst ev
  refine ⟨I1.kIn, ?_⟩
  match us, r1 with
  | [v'], .cons rv .nil =>
    show wpAny _ _ (call (.ref C) [v']) _ _ _
    have hlim := I1.nolimit
    obtain ⟨hp, g, dr, tk, os⟩ := s1
    apply wpAny_call
    refine PySem.OwnE.run_made T.ok T.T T.hf1 T.hf2 T.bind I1.kIn hlim (by have := hr.dp; omega) ?_
    intro h' tk' e d M
    show MkP X pins σ Q (.ref e) ⟨h', g, dr, tk', os⟩
    obtain ⟨oe, fv, hoe, hc, hd, hdat, h1⟩ := M.obj
    have hns := M.ns
    obtain ⟨G', g1, g2⟩ := restrict h' fun c => decide (c ≠ e)
    have gk : ∀ c, c ≠ e → G'.get? c = h'.get? c := fun c hc => g1 c (decide_eq_true hc)
    have ge : G'.get? e = none := g2 e (by simp)
    have old : ∀ c o, hp.get? c = some o → G'.get? c = some o := by
      intro c o q
      rw [gk c (Nat.ne_of_lt (Nat.lt_of_lt_of_le (Heap.lt_size q) M.new))]
      exact M.keep c o q
    have ob : ObjOk X.prog X.w (upd H1 d (.xd [(f, v)])) G' d (.xd [(f, v)]) := ⟨_, hns.at (fun o q => (gk d M.dne).trans q), fun y => relO_one rv y⟩
    have J : Inv X pins σ (upd H1 d (.xd [(f, v)])) ⟨G', g, dr, tk', os⟩ := I1.laid (t' := tk') old M.dbig ob
    refine ⟨e, oe, fv, ⟨G', g, dr, tk', os⟩, _, .ref C, some d, rfl, J, ?_, ge, hoe, ⟨hc, hd⟩, hdat, h1, ?_, rfl, I1.bare, raises_own T.T.exC T.T.tyC, q1 d (I1.hok.fresh M.dbig)⟩
    · intro c o q
      by_cases hc : c = e
      · have q' : G'.get? c = some o := q
        rw [hc, ge] at q'
        cases q'
      · exact (gk c hc).symm.trans q
    · rw [upd_ne (Ne.symm M.dne)]
      exact I1.hok.fresh M.new
/-- raise x(e) -/
def tRaiseE (C : Addr) (f : Str) (W : WX) (ta : TA) : TS := fun _ σ H => tMkE C f ta σ H fun cls d H' => W cls d σ H'
theorem ps_raiseE {a : Expr} {ta : TA} {W : WX} {p pos pos2 : Pos} {k : Nat} (hc : X.calm = true) (T : ErrOk b x f qual X.K X.mg C fI) (hr : Room k X.A) (tk : Takes X W) (ha : PA X [a] ta) (hg : Gl X x := by rfl) (hdb : (x == ("__debug__" : Str)) = false := by decide)
    (he : starEach (a :: []) X.env = (false, eval a X.env) :: starEach [] X.env := by rfl) (hpl : (backTo pos (starEach [] X.env)).any (·.1) = false := by rfl) :
    PS X (.Raise (some (.Call (.Name x p) [a] [] pos)) none pos2) (tRaiseE C f W ta) := ps_raise hc tk (pmk_E T hr ha hg hdb he hpl)
/-- e.f, e the error that the suite holds (at a; its class cls, its dict d) -/
def tByE (C : Addr) (f : Str) (a : Addr) (cls : Value) (d : Option Addr) (te : TE) : TE := fun σ H Q => te σ H fun y H1 => y = .ref a ∧ cls = .ref C ∧ ∃ (dd : Addr) (v : V), d = some dd ∧ H1 dd = some (.xd [(f, v)]) ∧ Q v H1
theorem pe_byE {a : Addr} {oe : Obj} {cls : Value} {d : Option Addr} {pn : List (Addr × Obj)} {e : Expr} {te : TE} {pos : Pos} (T : ErrOk b x f qual X.K X.mg C fI) (hz : Zc cls d oe) (hf : ∃ vs, oe.data = .fields vs) (he : PE (X.suite a ((a, oe) :: pn)) e te)
    (hb : attributeBase e f X.env (eval e X.env) = eval e X.env := by rfl) :
    PE (X.suite a ((a, oe) :: pn)) (.Attribute e f pos) (tByE C f a cls d te) := by
  constructor
  intro pins s σ H Q I h
  refine attr_of hb (thn (he.run pins s σ H _ I h) ?_)
  rintro u s1 ⟨y, H1, I1, ry, ey, ec, dd, v, ed, ea, q⟩
  subst ey ec ed
  obtain rfl : u = Value.ref a := ry
  have ha := (I1.pin (a, oe) (List.mem_append_left _ List.mem_cons_self)).1
  obtain ⟨vs, hd⟩ := hf
  obtain ⟨mA, hns, hr⟩ := (I1.hok dd _ ea : ObjOk X.prog X.w H1 s1.heap dd (.xd [(f, v)]))
  obtain ⟨od, ho, hl⟩ := lookIn_ns hns
  have l : List.lookup f [(f, v)] = some v := by simp [List.lookup]
  obtain ⟨u, hu, ru⟩ := RelO.some_of (v := v) (o := mA f) (by rw [← l]; exact hr f)
  have J : PySem.W.InstAt s1.heap a oe C (some od) := by
    refine ⟨ha, hz.1, ?_, ?_⟩
    · unfold PySem.W.notCls
      rw [hd] <;> rfl
    · rw [hz.2]
      exact ho
  exact HandSPX.exc_get I1.kIn J T.T.ga T.T.gg T.T.exC (PySem.W.findObj_own T.T.hdC T.T.noN rfl (by rw [hl, hu])) (handed_of ru) ⟨v, H1, I1.tok _, ru, q⟩
end
end L2
namespace PySem.OwnE
def bVE : Base := ⟨"ValueError", "ValueError.__new__", "ValueError.__init__", [Value.type "ValueError", Value.type "Exception", Value.type "BaseException", Value.type "object"]⟩
def bLE : Base := ⟨"LookupError", "LookupError.__new__", "LookupError.__init__", [Value.type "LookupError", Value.type "Exception", Value.type "BaseException", Value.type "object"]⟩
def bRE : Base := ⟨"RuntimeError", "RuntimeError.__new__", "RuntimeError.__init__", [Value.type "RuntimeError", Value.type "Exception", Value.type "BaseException", Value.type "object"]⟩
def bOE : Base := ⟨"OverflowError", "OverflowError.__new__", "OverflowError.__init__", [Value.type "OverflowError", Value.type "ArithmeticError", Value.type "Exception", Value.type "BaseException", Value.type "object"]⟩
theorem bVE_ok : bVE.Ok := ⟨F.excBase_ValueError, F.store_ValueError, rfl⟩
theorem bLE_ok : bLE.Ok := ⟨F.excBase_LookupError, F.store_LookupError, rfl⟩
theorem bRE_ok : bRE.Ok := ⟨F.excBase_RuntimeError, F.store_RuntimeError, rfl⟩
theorem bOE_ok : bOE.Ok := ⟨F.excBase_OverflowError, F.store_OverflowError, rfl⟩
/-- an error of its own class is what the class's clause names -/
theorem exm_own {K : W.Frag} {S : Addr} (h1 : W.subIn K (.ref S) (.type "BaseException") = some true) (h2 : W.isClsIn K S = true) (h3 : W.typeIn K (.ref S) = some (.type "type")) (h4 : W.subIn K (.ref S) (.ref S) = some true) : W.exmOne K (.ref S) (.ref S) = some true := by
  have e1 : (W.subIn K (.ref S) (.type "BaseException") == some true) = true := by
    rw [h1]
    rfl
  have e2 : ((W.clsIn K S).isSome && W.typeIn K (.ref S) == some (.type "type")) = true := by
    rw [show (W.clsIn K S).isSome = true from h2, h3]
    rfl
  unfold W.exmOne
  rw [if_pos e1]
  show (if ((W.clsIn K S).isSome && W.typeIn K (.ref S) == some (.type "type")) = true then W.subIn K (.ref S) (.ref S) else none) = some true
  rw [if_pos e2]
  exact h4
/-- what a clause of the class S says of an error of the class R -/
theorem exm_to {K : W.Frag} {R S : Addr} {b : Bool} (h1 : W.subIn K (.ref S) (.type "BaseException") = some true) (h2 : W.isClsIn K S = true) (h3 : W.typeIn K (.ref S) = some (.type "type")) (h4 : W.subIn K (.ref R) (.ref S) = some b) : W.exmOne K (.ref R) (.ref S) = some b := by
  have e1 : (W.subIn K (.ref S) (.type "BaseException") == some true) = true := by
    rw [h1]
    rfl
  have e2 : ((W.clsIn K S).isSome && W.typeIn K (.ref S) == some (.type "type")) = true := by
    rw [show (W.clsIn K S).isSome = true from h2, h3]
    rfl
  unfold W.exmOne
  rw [if_pos e1]
  show (if ((W.clsIn K S).isSome && W.typeIn K (.ref S) == some (.type "type")) = true then W.subIn K (.ref R) (.ref S) else none) = some b
  rw [if_pos e2]
  exact h4
end PySem.OwnE

/-! Where the text's defs, methods, classes and errors stand. -/
namespace Sb
open PySem PySem.Spec PyProof.Rows L2
structure Dn (K : PySem.W.Frag) (mg : Str → Option Value) (nm : Str) (st : Stmt) (ps : List Str) where
  f : Addr
  fd : FuncData
  F : Fun K nm nm st f fd
  b : Binds K fd ps []
  g : mg nm = some (.ref f)
structure Mn (K : PySem.W.Frag) (C : Addr) (nm qual : Str) (st : Stmt) (ps : List Str) where
  f : Addr
  fd : FuncData
  F : Fun K nm qual st f fd
  b : Binds K fd ps []
  M : Meth K C nm f
structure Cn (K : PySem.W.Frag) (mg : Str → Option Value) (nm : Str) where
  C : Addr
  cl : Cls K C
  g : mg nm = some (.ref C)
structure En (K : PySem.W.Frag) (mg : Str → Option Value) (bs : OwnE.Base) (nm fld qual : Str) where
  C : Addr
  i : Addr
  e : L2.ErrOk bs nm fld qual K mg C i
end Sb

/-! Data of any kind: scalars, tuples, lists, the empty dict; none of it lies at p. -/
namespace Sb
open PySem PySem.Spec PyProof.Rows L2
mutual
inductive LD (p : Addr) (H : Hp) : V → PyData → Prop
  | non : LD p H .non .none
  | bl (b : Bool) : LD p H (.bl b) (.bool b)
  | int (i : Int) : LD p H (.int i) (.int i)
  | str (x : Str) : LD p H (.str x) (.str x)
  | tup {a : Addr} {xs : List V} {ds : List PyData} : a ≠ p → H a = some (.tup xs) → LDs p H xs ds → LD p H (.ref a) (.tuple ds)
  | lst {a : Addr} {xs : List V} {ds : List PyData} : a ≠ p → a ≠ sysModules → H a = some (.lst xs) → LDs p H xs ds → LD p H (.ref a) (.list ds)
  | dic {a : Addr} : a ≠ p → H a = some (.dK []) → LD p H (.ref a) (.dict [])
  | dct {a : Addr} : a ≠ p → H a = some (.dT []) → LD p H (.ref a) (.dict [])
inductive LDs (p : Addr) (H : Hp) : List V → List PyData → Prop
  | nil : LDs p H [] []
  | cons {v : V} {vs : List V} {d : PyData} {ds : List PyData} : LD p H v d → LDs p H vs ds → LDs p H (v :: vs) (d :: ds)
end
/-- all but p stands -/
abbrev But (p : Addr) (H H' : Hp) : Prop := ∀ b o, H b = some o → b ≠ p → H' b = some o
theorem But.same {p : Addr} {H H' : Hp} (h : Same H H') : But p H H' := fun b o e _ => h b o e
mutual
theorem LD.mono {p : Addr} {H H' : Hp} (t : But p H H') : ∀ {v : V} (d : PyData), LD p H v d → LD p H' v d
  | _, .none, h => by cases h; exact .non
  | _, .bool b, h => by cases h; exact .bl b
  | _, .int i, h => by cases h; exact .int i
  | _, .str x, h => by cases h; exact .str x
  | _, .tuple ds, h => by
    cases h with
    | tup n e r => exact .tup n (t _ _ e n) (LDs.mono t ds r)
  | _, .list ds, h => by
    cases h with
    | lst n m e r => exact .lst n m (t _ _ e n) (LDs.mono t ds r)
  | _, .dict _, h => by
    cases h with
    | dic n e => exact .dic n (t _ _ e n)
    | dct n e => exact .dct n (t _ _ e n)
theorem LDs.mono {p : Addr} {H H' : Hp} (t : But p H H') : ∀ {vs : List V} (ds : List PyData), LDs p H vs ds → LDs p H' vs ds
  | _, [], h => by cases h; exact .nil
  | _, d :: ds, h => by
    cases h with
    | cons a r => exact .cons (LD.mono t d a) (LDs.mono t ds r)
end
theorem LDs.length {p : Addr} {H : Hp} : ∀ {vs : List V} {ds : List PyData}, LDs p H vs ds → vs.length = ds.length
  | _, _, .nil => rfl
  | _, _, .cons _ r => congrArg (· + 1) r.length
theorem LDs.get {p : Addr} {H : Hp} : ∀ {vs : List V} {ds : List PyData} {i : Nat} {v : V}, LDs p H vs ds → vs[i]? = some v → ∃ d, ds[i]? = some d ∧ LD p H v d
  | _, _, _, _, .nil, e => by simp at e
  | _, _, 0, _, .cons a _, e => by
    simp at e
    subst e
    exact ⟨_, rfl, a⟩
  | _, _, i + 1, v, .cons _ r, e => by
    obtain ⟨d, h1, h2⟩ := LDs.get (i := i) (v := v) r (by simpa using e)
    exact ⟨d, by simpa using h1, h2⟩
theorem LDs.at {p : Addr} {H : Hp} : ∀ {vs : List V} {ds : List PyData} {i : Nat} {d : PyData}, LDs p H vs ds → ds[i]? = some d → ∃ v, vs[i]? = some v ∧ LD p H v d
  | _, _, _, _, .nil, e => by simp at e
  | _, _, 0, _, .cons a _, e => by
    simp at e
    subst e
    exact ⟨_, rfl, a⟩
  | _, _, i + 1, v, .cons _ r, e => by
    obtain ⟨d, h1, h2⟩ := LDs.at (i := i) (d := v) r (by simpa using e)
    exact ⟨d, by simpa using h1, h2⟩
theorem LDs.app {p : Addr} {H : Hp} : ∀ {vs us : List V} {ds es : List PyData}, LDs p H vs ds → LDs p H us es → LDs p H (vs ++ us) (ds ++ es)
  | _, _, _, _, .nil, s => s
  | _, _, _, _, .cons a r, s => .cons a (r.app s)
theorem LDs.take {p : Addr} {H : Hp} : ∀ {vs : List V} {ds : List PyData} (n : Nat), LDs p H vs ds → LDs p H (vs.take n) (ds.take n)
  | _, _, 0, _ => .nil
  | _, _, _ + 1, .nil => .nil
  | _, _, n + 1, .cons a r => .cons a (r.take n)
theorem LDs.drop {p : Addr} {H : Hp} : ∀ {vs : List V} {ds : List PyData} (n : Nat), LDs p H vs ds → LDs p H (vs.drop n) (ds.drop n)
  | _, _, 0, r => r
  | _, _, _ + 1, .nil => .nil
  | _, _, n + 1, .cons _ r => r.drop n
mutual
theorem TD.ld {p : Addr} {H : Hp} (hp : ∀ xs, H p ≠ some (.tup xs)) : ∀ {v : V} (d : PyData), TD H v d → LD p H v d
  | _, .none, h => by cases h; exact .non
  | _, .bool b, h => by cases h; exact .bl b
  | _, .int i, h => by cases h; exact .int i
  | _, .str x, h => by cases h; exact .str x
  | _, .tuple ds, h => by
    cases h with
    | tup e r => exact .tup (fun z => hp _ (z ▸ e)) e (TDs.ld hp ds r)
  | _, .list _, h => by cases h
  | _, .dict _, h => by cases h
theorem TDs.ld {p : Addr} {H : Hp} (hp : ∀ xs, H p ≠ some (.tup xs)) : ∀ {vs : List V} (ds : List PyData), TDs H vs ds → LDs p H vs ds
  | _, [], h => by cases h; exact .nil
  | _, d :: ds, h => by
    cases h with
    | cons a r => exact .cons (TD.ld hp d a) (TDs.ld hp ds r)
end
/-! it is read off the heap -/
section
variable {X : Cx} {pins : List (Addr × Obj)} {σ : L2.St} {H : Hp} {s : Shared} {p : Addr}
mutual
theorem LD.reads (I : L2.Inv X pins σ H s) : ∀ (d : PyData) (v : V) (u : Value), LD p H v d → RelV v u → ∃ as, Reads s.heap u d as ∧ sysModules ∉ as
  | .none, _, _, h, r => by cases h; cases r; exact ⟨_, Reads.none, List.not_mem_nil⟩
  | .bool b, _, _, h, r => by cases h; cases r; exact ⟨_, Reads.bool b, List.not_mem_nil⟩
  | .int i, _, _, h, r => by cases h; obtain ⟨t, rfl⟩ := r; exact ⟨_, Reads.int i t, List.not_mem_nil⟩
  | .str x, _, _, h, r => by cases h; obtain ⟨t, rfl⟩ := r; exact ⟨_, Reads.str x t, List.not_mem_nil⟩
  | .list ds, _, _, h, r => by
    cases h with
    | lst n m e hs =>
      cases r
      obtain ⟨its, rv, ⟨o, k, ho, hc, _, hd⟩, _⟩ := I.list (SqL.of e)
      obtain ⟨as, hr, hn⟩ := LDs.reads I ds _ its hs rv
      refine ⟨_, Reads.list ho hc hd hr, fun z => ?_⟩
      rcases List.mem_cons.mp z with z | z
      · exact m z.symm
      · exact hn z
  | .tuple ds, _, _, h, r => by
    cases h with
    | tup n e hs =>
      cases r
      obtain ⟨its, rv, ⟨o, ho, hc, k, hd⟩, _⟩ := I.tuple (SqT.of e)
      obtain ⟨as, hr, hn⟩ := LDs.reads I ds _ its hs rv
      exact ⟨_, Reads.tuple ho hc hd hr, hn⟩
  | .dict _, _, _, h, r => by
    cases h with
    | @dic a n e =>
      cases r
      obtain ⟨_, low, vs, rel, o, es, ep, ho, ex, hd, _, pr, _⟩ := dk_of I.hok e
      cases rel
      have hes : es.toList = [] := List.eq_nil_of_length_eq_zero (Pairs.length pr)
      refine ⟨_, Reads.dict (kvs := []) ho ex.1 hd (by rw [hes]; exact .nil) (by rw [hes]; exact .nil), fun z => ?_⟩
      have z' : sysModules = a := by simpa using z
      rw [← z'] at low
      simp at low
    | @dct a n e =>
      cases r
      obtain ⟨_, low, xs, rel, o, es, ep, ho, ex, hd, pr, _⟩ := dt_of I.hok e
      cases rel
      have hes : es.toList = [] := pr
      refine ⟨_, Reads.dict (kvs := []) ho ex.1 hd (by rw [hes]; exact .nil) (by rw [hes]; exact .nil), fun z => ?_⟩
      have z' : sysModules = a := by simpa using z
      rw [← z'] at low
      simp at low
theorem LDs.reads (I : L2.Inv X pins σ H s) : ∀ (ds : List PyData) (vs : List V) (us : List Value), LDs p H vs ds → Vals vs us → ∃ as, ReadsAll s.heap us ds as ∧ sysModules ∉ as
  | [], _, _, h, r => by cases h; cases r; exact ⟨_, ReadsAll.nil, List.not_mem_nil⟩
  | d :: ds, _, _, h, r => by
    cases h with
    | cons h1 h2 =>
      cases r with
      | cons r1 r2 =>
        obtain ⟨as, q1, n1⟩ := LD.reads I d _ _ h1 r1
        obtain ⟨bs, q2, n2⟩ := LDs.reads I ds _ _ h2 r2
        refine ⟨_, ReadsAll.cons q1 q2, fun z => ?_⟩
        rcases List.mem_append.mp z with z | z
        · exact n1 z
        · exact n2 z
end
end
/-- its type -/
def tyN : PyData → String
  | .none => "NoneType"
  | .bool _ => "bool"
  | .int _ => "int"
  | .str _ => "str"
  | .list _ => "list"
  | .tuple _ => "tuple"
  | .dict _ => "dict"
theorem LD.ty {K : PySem.W.Frag} {p : Addr} {H : Hp} {v : V} {d : PyData} (h : LD p H v d) : TyX K H v (.type (tyN d)) := by
  cases h with
  | non => exact .base .non
  | bl b => exact .base (.bl b)
  | int i => exact .base (.int i)
  | str x => exact .base (.str x)
  | tup n e r => exact .base (.tup e)
  | lst n m e r => exact .base (.lst e)
  | dic n e => exact .base (.dK e)
  | dct n e => exact .base (.dT e)
def isIntD : PyData → Bool
  | .int _ => true
  | .bool _ => true
  | _ => false
def isBoolD : PyData → Bool
  | .bool _ => true
  | _ => false
def isTupD : PyData → Bool
  | .tuple _ => true
  | _ => false
theorem kit_int (K : PySem.W.Frag) (d : PyData) : PySem.W.kitOne K (.type (tyN d)) (.type "int") = some (isIntD d) := by
  cases d <;> first | rfl | decide +kernel | kernel_rfl
theorem kit_bool (K : PySem.W.Frag) (d : PyData) : PySem.W.kitOne K (.type (tyN d)) (.type "bool") = some (isBoolD d) := by
  cases d <;> first | rfl | decide +kernel | kernel_rfl
theorem kit_tup (K : PySem.W.Frag) (d : PyData) : PySem.W.kitOne K (.type (tyN d)) (.type "tuple") = some (isTupD d) := by
  cases d <;> first | rfl | decide +kernel | kernel_rfl
section
variable {X : Cx}
/-- isinstance(x, T) -/
def rIsL (T : String) (f : PyData → Bool) : List V → Hp → VK → Prop := fun xs H Q => ∃ p v d, xs = [v, .ty T] ∧ LD p H v d ∧ Q (.bl (f d)) H
theorem call_isL {T : String} {f : PyData → Bool} (hf : ∀ K d, PySem.W.kitOne K (.type (tyN d)) (.type T) = some (f d)) : CallR X (.builtin "isinstance") (rIsL T f) := by
  intro pins s σ H xs us Q I r h
  obtain ⟨p, v, d, rfl, hv, q⟩ := h
  exact call_isi pins s σ H _ us Q I r ⟨v, .ty T, _, _, _, rfl, .ty T, hv.ty, hf _ d, q⟩
/-- repr -/
def rReprL : List V → Hp → VK → Prop := fun xs H Q => ∃ p v d, xs = [v] ∧ LD p H v d ∧ d.showable = true ∧ d.depth ≤ 60 ∧ d.shown.length ≤ sizeLine ∧ Q (.str d.shown) H
theorem call_reprL (gd : X.A.guards = some []) (hu : X.A.units + 64 < cLine) : CallR X (.builtin "repr") rReprL := by
  intro pins s σ H xs us Q I r h
  obtain ⟨p, v, d, rfl, hv, hs, hd, hz, q⟩ := h
  by_cases hn : d.hasDict = false ∧ ∀ a, v ≠ .ref a
  · have dp : Dp X.K H v d := by
      cases hv with
      | non => exact .non
      | bl b => exact .bl b
      | int i => exact .int i
      | str x => exact .str x
      | tup n e r => exact absurd rfl (hn.2 _)
      | lst n m e r => exact absurd rfl (hn.2 _)
      | dic n e => exact absurd rfl (hn.2 _)
      | dct n e => exact absurd rfl (hn.2 _)
    exact call_reprD gd hu pins s σ H _ us Q I r ⟨v, d, rfl, dp, hs, hn.1, hd, hz, q⟩
  · obtain ⟨a, rfl⟩ : ∃ a, v = .ref a := by
      cases hv with
      | non => exact absurd ⟨rfl, fun _ z => by cases z⟩ hn
      | bl b => exact absurd ⟨rfl, fun _ z => by cases z⟩ hn
      | int i => exact absurd ⟨rfl, fun _ z => by cases z⟩ hn
      | str x => exact absurd ⟨rfl, fun _ z => by cases z⟩ hn
      | tup n e r => exact ⟨_, rfl⟩
      | lst n m e r => exact ⟨_, rfl⟩
      | dic n e => exact ⟨_, rfl⟩
      | dct n e => exact ⟨_, rfl⟩
    obtain ⟨u, rfl, ru⟩ := vals1 r
    obtain rfl : u = Value.ref a := ru
    obtain ⟨as, rd, low⟩ := LD.reads I d _ _ hv rfl
    exact repr_of_reads' rd hs (fun _ => low) gd (by omega) (fun _ _ z => z) (fun h' u' tk hk => ⟨.str d.shown, H, I.kept (fun b o z => hk b o z), ⟨_, rfl⟩, q⟩) hz
/-- list(t), where it lies -/
def rLstL : List V → Hp → VK → Prop := fun xs H Q => ∃ a ys, xs = [.ref a] ∧ H a = some (.tup ys) ∧ ∀ l, H l = none → l ≠ sysModules → Q (.ref l) (upd H l (.lst ys))
theorem call_lstL : CallR X (.type "list") rLstL := by
  intro pins s σ H xs us Q I r h
  obtain ⟨a, ys, rfl, ha, q⟩ := h
  obtain ⟨u, rfl, rx⟩ := vals1 r
  obtain rfl : u = Value.ref a := rx
  obtain ⟨its, rv, ⟨o, ho, hc, n, hd⟩, hz⟩ := I.tuple (SqT.of ha)
  have hl := rv.length
  refine call_list_seq a (.inr rfl) ho hc hd (fun h' c' kp e => ?_) (by simp only [List.size_toArray] <;> omega)
  exact ⟨.ref s.heap.objs.size, _, I.laid (t' := s.toks) kp (Nat.le_refl _) (show ObjOk X.prog X.w _ h' _ (.lst ys) from ⟨hz, its, c', rv, e⟩), rfl, q _ (I.hok.fresh (Nat.le_refl _)) (Nat.ne_of_gt I.big)⟩
/-- t != () -/
def rNe0 : R2 := fun x y H Q => ∃ a b xs, x = .ref a ∧ y = .ref b ∧ H a = some (.tup xs) ∧ H b = some (.tup []) ∧ Q (.bl (!xs.isEmpty)) H
theorem op_ne0 (hu : X.A.units + 64 < cLine) : OpR X (compareOp .NotEq) rNe0 := by
  intro pins s σ H x y v u Q I rx ry h
  obtain ⟨a, b, xs, rfl, rfl, ha, hb, q⟩ := h
  cases rx
  cases ry
  obtain ⟨its, r1, t1, _⟩ := I.tuple (SqT.of ha)
  obtain ⟨its2, r2, t2, _⟩ := I.tuple (SqT.of hb)
  cases r2
  have l1 := r1.length
  refine SeqAt.RcNeAt.tuples (e := fun _ => true) t1 t2 (by omega) (fun j _ h2 => absurd h2 (Nat.not_lt_zero _)) X.prog X.w X.xe (EP X pins σ Q) ⟨.bl _, H, I, rfl, ?_⟩
  have e : (!((List.range (min its.toArray.size ([] : List Value).toArray.size)).all (fun _ => true) && its.toArray.size == ([] : List Value).toArray.size)) = !xs.isEmpty := by
    cases xs with
    | nil => cases r1; rfl
    | cons z zs => cases r1; simp
  rw [e]
  exact q
/-- two pairs of texts, != -/
def rNeS : R2 := fun x y H Q => ∃ a b s1 s2 t1 t2, x = .ref a ∧ y = .ref b ∧ H a = some (.tup [.str s1, .str s2]) ∧ H b = some (.tup [.str t1, .str t2]) ∧ Q (.bl (!(s1 == t1 && s2 == t2))) H
theorem op_neS (hu : X.A.units + 64 < cLine) : OpR X (compareOp .NotEq) rNeS := by
  intro pins s σ H x y v u Q I rx ry h
  obtain ⟨a, b, s1, s2, t1, t2, rfl, rfl, ha, hb, q⟩ := h
  cases rx
  cases ry
  obtain ⟨its, r1, T1, _⟩ := I.tuple (SqT.of ha)
  obtain ⟨its2, r2, T2, _⟩ := I.tuple (SqT.of hb)
  obtain ⟨a1, a2, rfl, ra1, ra2⟩ := vals2 r1
  obtain ⟨b1, b2, rfl, rb1, rb2⟩ := vals2 r2
  obtain ⟨k1, rfl⟩ := ra1
  obtain ⟨k2, rfl⟩ := ra2
  obtain ⟨k3, rfl⟩ := rb1
  obtain ⟨k4, rfl⟩ := rb2
  refine SeqAt.RcNeAt.tuples (e := fun j => if j = 0 then s1 == t1 else s2 == t2) T1 T2 (by omega) (fun j h1 h2 => ?_) X.prog X.w X.xe (EP X pins σ Q) ⟨.bl _, H, I, rfl, ?_⟩
  · match j, h1, h2 with
    | 0, _, _ => exact SeqAt.EqAt.str_str _ _ _ _
    | 1, _, _ => exact SeqAt.EqAt.str_str _ _ _ _
  · have e : ((List.range (min 2 2)).all (fun j => if j = 0 then s1 == t1 else s2 == t2) && (2 == 2 : Bool)) = (s1 == t1 && s2 == t2) := by
      simp [List.range, List.range.loop]
    show Q (.bl (!((List.range (min 2 2)).all (fun j => if j = 0 then s1 == t1 else s2 == t2) && (2 == 2 : Bool)))) H
    rw [e]
    exact q
/-- t[lo:hi], t + u -/
def rSlL (p : Addr) : V → Option Int → Option Int → Hp → VK → Prop := fun x lo hi H Q => ∃ ds, LD p H x (.tuple ds) ∧ H p ≠ none ∧ ∀ a H', Same H H' → LD p H' (.ref a) (.tuple (cutA ds lo hi)) → Q (.ref a) H'
theorem LDs.cut {p : Addr} {H : Hp} {xs : List V} {ds : List PyData} (h : LDs p H xs ds) (lo hi : Option Int) : LDs p H (cutV xs lo hi) (cutA ds lo hi) := by
  unfold cutV cutA
  rw [h.length]
  exact (h.drop _).take _
theorem LD.isTup {p : Addr} {H : Hp} {v : V} {ds : List PyData} (h : LD p H v (.tuple ds)) : ∃ a xs, v = .ref a ∧ a ≠ p ∧ H a = some (.tup xs) ∧ LDs p H xs ds := by
  cases h with
  | tup n e r => exact ⟨_, _, rfl, n, e, r⟩
theorem ne_at {p q : Addr} {H : Hp} (hp : H p ≠ none) (hq : H q = none) : q ≠ p := fun e => hp (e ▸ hq)
theorem sl_L {p : Addr} : SlR X (rSlL p) := by
  intro pins s σ H x v vl vu lo hi sl Q I rx hs pl pu h
  refine sl_tupA pins s σ H x v vl vu lo hi sl Q I rx hs pl pu ?_
  obtain ⟨ds, hT, hp, q⟩ := h
  obtain ⟨a, xs, rfl, n, ha, hx⟩ := hT.isTup
  refine ⟨a, xs, rfl, SqT.of ha, ?_, ?_⟩
  · rintro ⟨e1, e2⟩
    refine q a H (Same.refl H) ?_
    have e : cutA ds lo hi = ds := by
      unfold cutA
      rw [← hx.length, e1, e2, List.drop_zero, Nat.sub_zero]
      exact List.take_of_length_le (by rw [hx.length]; exact Nat.le_refl _)
    rw [e]
    exact hT
  · intro _ t nt
    exact q t _ (same_new nt) (.tup (ne_at hp nt) upd_same (LDs.mono (But.same (same_new nt)) _ (hx.cut lo hi)))
def rCatL (p : Addr) : R2 := fun x y H Q => ∃ ds es, LD p H x (.tuple ds) ∧ LD p H y (.tuple es) ∧ H p ≠ none ∧ ds.length + es.length ≤ 100000 ∧ ∀ a H', Same H H' → LD p H' (.ref a) (.tuple (ds ++ es)) → Q (.ref a) H'
theorem op_catL {p : Addr} : OpR X (binaryOp .Add) (rCatL p) := opImp op_catA fun x y H Q h => by
  obtain ⟨ds, es, h1, h2, hp, hl, q⟩ := h
  obtain ⟨a, xs, rfl, n1, ha, hx⟩ := h1.isTup
  obtain ⟨b, ys, rfl, n2, hb, hy⟩ := h2.isTup
  have lx := hx.length
  have ly := hy.length
  refine ⟨a, b, xs, ys, rfl, rfl, SqT.of ha, SqT.of hb, ?_, ?_, ?_, ?_⟩
  · rw [lx, ly]
    exact Nat.le_trans hl (by decide)
  · intro e
    subst e
    cases hx
    exact q b H (Same.refl H) h2
  · intro _ e
    subst e
    cases hy
    exact q a H (Same.refl H) (by rw [List.append_nil]; exact h1)
  · intro _ _ t nt
    exact q t _ (same_new nt) (.tup (ne_at hp nt) upd_same (LDs.mono (But.same (same_new nt)) _ (hx.app hy)))
end
/-! small enough to be shown -/
mutual
def wt : PyData → Nat
  | .list xs => wts xs + 1
  | .tuple xs => wts xs + 1
  | .dict _ => 1
  | _ => 1
def wts : List PyData → Nat
  | [] => 0
  | x :: r => wt x + wts r
end
mutual
def Sm : PyData → Prop
  | .int i => i.natAbs < 10 ^ 99
  | .str x => (reprText x).length ≤ 100
  | .list xs => Sms xs
  | .tuple xs => Sms xs
  | .dict kvs => kvs = []
  | _ => True
def Sms : List PyData → Prop
  | [] => True
  | x :: r => Sm x ∧ Sms r
end
theorem Sms.get : ∀ {ds : List PyData} {i : Nat} {d : PyData}, Sms ds → ds[i]? = some d → Sm d
  | _ :: _, 0, _, h, e => by simp at e; exact e ▸ h.1
  | _ :: r, i + 1, _, h, e => Sms.get (ds := r) (i := i) h.2 (by simpa using e)
theorem Sms.app : ∀ {ds es : List PyData}, Sms ds → Sms es → Sms (ds ++ es)
  | [], _, _, h => h
  | _ :: _, _, h, g => ⟨h.1, Sms.app h.2 g⟩
theorem Sms.take : ∀ {ds : List PyData} (n : Nat), Sms ds → Sms (ds.take n)
  | _, 0, _ => trivial
  | [], _ + 1, _ => trivial
  | _ :: _, n + 1, h => ⟨h.1, Sms.take n h.2⟩
theorem Sms.drop : ∀ {ds : List PyData} (n : Nat), Sms ds → Sms (ds.drop n)
  | _, 0, h => h
  | [], _ + 1, _ => trivial
  | _ :: _, n + 1, h => Sms.drop n h.2
theorem wts_app : ∀ (ds es : List PyData), wts (ds ++ es) = wts ds + wts es
  | [], es => by simp [wts]
  | d :: r, es => by
    simp only [List.cons_append, wts, wts_app r es]
    omega
theorem wts_take_drop (ds : List PyData) (n : Nat) : wts (ds.take n) + wts (ds.drop n) = wts ds := by
  rw [← wts_app, List.take_append_drop]
theorem wts_get : ∀ {ds : List PyData} {i : Nat} {d : PyData}, ds[i]? = some d → wt d ≤ wts ds
  | _ :: _, 0, _, e => by
    simp at e
    subst e
    simp only [wts]
    omega
  | _ :: r, i + 1, _, e => by
    have := wts_get (ds := r) (i := i) (by simpa using e)
    simp only [wts]
    omega
theorem depthAll_app : ∀ (ds es : List PyData), PyData.depthAll (ds ++ es) = max (PyData.depthAll ds) (PyData.depthAll es)
  | [], es => by simp [PyData.depthAll]
  | d :: r, es => by
    simp only [List.cons_append, PyData.depthAll, depthAll_app r es]
    omega
theorem depth_get : ∀ {ds : List PyData} {i : Nat} {d : PyData}, ds[i]? = some d → d.depth ≤ PyData.depthAll ds
  | _ :: _, 0, _, e => by
    simp at e
    subst e
    simp only [PyData.depthAll]
    omega
  | _ :: r, i + 1, _, e => by
    have := depth_get (ds := r) (i := i) (by simpa using e)
    simp only [PyData.depthAll]
    omega
theorem depth_cut (ds : List PyData) (n : Nat) : PyData.depthAll (ds.take n) ≤ PyData.depthAll ds ∧ PyData.depthAll (ds.drop n) ≤ PyData.depthAll ds := by
  have h := depthAll_app (ds.take n) (ds.drop n)
  rw [List.take_append_drop] at h
  omega
mutual
theorem sm_shown : ∀ d : PyData, Sm d → d.showable = true ∧ d.shown.length + 2 ≤ 110 * wt d
  | .none, _ => ⟨rfl, by decide⟩
  | .bool b, _ => ⟨rfl, by cases b <;> decide⟩
  | .int i, h => by
    have n := Nice.int h
    refine ⟨n.sho, ?_⟩
    have := n.len
    show _ ≤ 110 * 1
    omega
  | .str x, h => by
    refine ⟨rfl, ?_⟩
    have h' : (reprText x).length ≤ 100 := h
    show (reprText x).length + 2 ≤ 110 * 1
    omega
  | .list xs, h => by
    obtain ⟨a, b, c⟩ := sms_shown xs h
    refine ⟨a, ?_⟩
    have l := listText_len_le (PyData.shownAll xs)
    simp only [PyData.shown, wt]
    omega
  | .tuple xs, h => by
    obtain ⟨a, b, c⟩ := sms_shown xs h
    refine ⟨a, ?_⟩
    have l := tupleText_len_le (PyData.shownAll xs)
    simp only [PyData.shown, wt]
    omega
  | .dict kvs, h => by
    have h' : kvs = [] := h
    subst h'
    exact ⟨rfl, by decide⟩
theorem sms_shown : ∀ ds : List PyData, Sms ds → PyData.showableAll ds = true ∧ ((PyData.shownAll ds).map (·.length)).sum + 2 * (PyData.shownAll ds).length ≤ 110 * wts ds ∧ (PyData.shownAll ds).length = ds.length
  | [], _ => ⟨rfl, by decide, rfl⟩
  | d :: ds, h => by
    obtain ⟨a, b⟩ := sm_shown d h.1
    obtain ⟨c, e, f⟩ := sms_shown ds h.2
    refine ⟨by simp only [PyData.showableAll, a, c, Bool.and_self], ?_, by simp only [PyData.shownAll, List.length_cons, f]⟩
    simp only [PyData.shownAll, List.map_cons, List.sum_cons, List.length_cons, wts]
    omega
end
end Sb

/-! o.m(..), C(..): calls of promises that know that no repr is under way. -/
namespace Sb
open PySem PySem.Spec PyProof.Rows L2
/-- how a method's call is read -/
abbrev MethForm (X : Cx) (o : Expr) (m : Str) (es : List Expr) (pos apos : Pos) (pl : Sem Bool) : Prop :=
  eval (.Call (.Attribute o m apos) es [] pos) X.env = (do let ov ← eval o X.env; standAt apos.atName; let (f, first) ← holding [ov] (getMethod ov m pl); callWith pos f first (backTo pos (starEach es X.env)) (backToKw pos (keywordEach [] X.env)))
section
variable {X : Cx} {CX : CXT} {k : Nat} {f C : Addr} {fd : FuncData} {ps : List Str} {sp : Sp} {dvs : List V} {ds : List Value} {x m : Str} {p pos apos : Pos} {e o : Expr} {es : List Expr} {ta : TE} {t : TA} {E : XK}
/-- o.m(e, ..) -/
theorem pe_methG {pl : Sem Bool} (ho : PE X o ta) (c : Cls X.K C) (hm : Meth X.K C m f) (F : FnG X.prog X.w X.K X.mg X.base CX k f fd ps sp) (gd : X.A.guards = some []) (hr : Room k X.A) (hb : Binds X.K fd ps ds) (hd : Vals dvs ds) (hx : Passes CX X E) (ha : PA X (e :: es) t)
    (hst : starEach (e :: es) X.env = (false, eval e X.env) :: starEach es X.env := by rfl) (hpl : (backTo pos (starEach es X.env)).any (·.1) = false := by rfl)
    (ht : MethForm X o m (e :: es) pos apos pl := by rfl) : PE X (.Call (.Attribute o m apos) (e :: es) [] pos) (tMeth C m sp dvs E ta t) := by
  constructor
  intro pins s σ H Q I h
  refine PySem.W.methodCall_KW (pl := pl) (thn (ho.run pins s σ H _ I h) ?_) ht
  rintro u s1 ⟨y, H1, I1, ry, a, dx, fs, rfl, ea, l, q⟩
  obtain rfl : u = Value.ref a := ry
  refine getmeth_ok I1 ea c hm l ?_
  refine PySem.W.callWith_K (first := [.ref a]) (h₀ := X.base) I.ok.mod.kin hm.kp (thn (ha.run pos pins s1 σ H1 _ I1 q) ?_) hst hpl
  rintro us s2 ⟨vs, H2, I2, r, q2⟩
  exact ⟨I2.kIn, runG (us := .ref a :: us) (vs := .ref a :: vs) F gd hr hb hd (fun er s' z => hx pins σ H2 s2 er s' I2 z) I2 (.cons rfl r) q2⟩
/-- o.m() -/
theorem pe_meth0G {pl : Sem Bool} (ho : PE X o ta) (c : Cls X.K C) (hm : Meth X.K C m f) (F : FnG X.prog X.w X.K X.mg X.base CX k f fd ps sp) (gd : X.A.guards = some []) (hr : Room k X.A) (hb : Binds X.K fd ps ds) (hd : Vals dvs ds) (hx : Passes CX X E)
    (ht : MethForm X o m [] pos apos pl := by rfl) : PE X (.Call (.Attribute o m apos) [] [] pos) (tMeth C m sp dvs E ta tNil) := by
  constructor
  intro pins s σ H Q I h
  refine PySem.W.methodCall_KW (pl := pl) (thn (ho.run pins s σ H _ I h) ?_) ht
  rintro u s1 ⟨y, H1, I1, ry, a, dx, fs, rfl, ea, l, q⟩
  obtain rfl : u = Value.ref a := ry
  refine getmeth_ok I1 ea c hm l ?_
  exact PySem.W.callWith_K0 (first := [.ref a]) I1.kIn hm.kp (runG (us := [.ref a]) (vs := [.ref a]) F gd hr hb hd (fun er s' z => hx pins σ H1 s1 er s' I1 z) I1 (.cons rfl .nil) q)
/-- the same, what is raised wished for at the slots -/
theorem pe_methGS {pl : Sem Bool} {E : L2.St → XK} (ho : PE X o ta) (c : Cls X.K C) (hm : Meth X.K C m f) (F : FnG X.prog X.w X.K X.mg X.base CX k f fd ps sp) (gd : X.A.guards = some []) (hr : Room k X.A) (hb : Binds X.K fd ps []) (hx : ∀ σ, PassesAt CX X σ (E σ)) (ha : PA X (e :: es) t)
    (hst : starEach (e :: es) X.env = (false, eval e X.env) :: starEach es X.env := by rfl) (hpl : (backTo pos (starEach es X.env)).any (·.1) = false := by rfl)
    (ht : MethForm X o m (e :: es) pos apos pl := by rfl) : PE X (.Call (.Attribute o m apos) (e :: es) [] pos) (fun σ H Q => tMeth C m sp [] (E σ) ta t σ H Q) := by
  constructor
  intro pins s σ H Q I h
  refine PySem.W.methodCall_KW (pl := pl) (thn (ho.run pins s σ H _ I h) ?_) ht
  rintro u s1 ⟨y, H1, I1, ry, a, dx, fs, rfl, ea, l, q⟩
  obtain rfl : u = Value.ref a := ry
  refine getmeth_ok I1 ea c hm l ?_
  refine PySem.W.callWith_K (first := [.ref a]) (h₀ := X.base) I.ok.mod.kin hm.kp (thn (ha.run pos pins s1 σ H1 _ I1 q) ?_) hst hpl
  rintro us s2 ⟨vs, H2, I2, r, q2⟩
  exact ⟨I2.kIn, runG (us := .ref a :: us) (vs := .ref a :: vs) F gd hr hb .nil (fun er s' z => hx σ pins H2 s2 er s' I2 z) I2 (.cons rfl r) q2⟩
/-- C(e, ..) -/
theorem make_runG {pins : List (Addr × Obj)} {σ : L2.St} {H : Hp} {s : Shared} {Q : VK} {us : List Value} {vs : List V} (M : Mk X.K C f) (F : FnG X.prog X.w X.K X.mg X.base CX k f fd ps sp) (gd : X.A.guards = some []) (hr : Room (k + 1) X.A) (hb : Binds X.K fd ps ds) (hd : Vals dvs ds)
    (hx : ∀ (e : Value) (s' : Shared) (H0 : Hp) (s0 : Shared), L2.Inv X pins σ H0 s0 → CX X.stack H0 s0 E e s' → X.xe e s') (I : L2.Inv X pins σ H s) (r : Vals vs us)
    (h : ∀ x dx, H x = none → H dx = none → dx ≠ x → sp (.ref x :: (vs ++ dvs)) (upd (upd H dx (.own x)) x (.ins C dx [])) (fun v H2 => v = .non ∧ Q (.ref x) H2) E) : wpAny (model X.prog X.w) X.A (call (.ref C) us) (EP X pins σ Q) X.xe s := by
  have q := h (s.heap.objs.size + 1) s.heap.objs.size (I.hok.fresh (Nat.le_succ _)) (I.hok.fresh (Nat.le_refl _)) (Nat.ne_of_lt (Nat.lt_succ_self _))
  have J := Inv.made (C := C) I
  have rr : Vals (V.ref (s.heap.objs.size + 1) :: (vs ++ dvs)) (Value.ref (s.heap.objs.size + 1) :: (us ++ ds)) := .cons rfl (r.append hd)
  have nl : (Value.ref (s.heap.objs.size + 1) :: us ++ ds).length = ps.length := rr.length ▸ F.len _ _ _ _ q
  apply wpAny_call
  refine make_map (f := f) I.kIn M.makes M.init (beq_iff_eq.mp M.fn) ?_
  refine codeAny_mono (F.run _ X.stack _ _ ⟨Value.ref (s.heap.objs.size + 1) :: us, []⟩ (Value.ref (s.heap.objs.size + 1) :: (us ++ ds)) _ _ E gd (hr.make C us []) (J.env0.make C us []) (hb _ (Value.ref (s.heap.objs.size + 1) :: us) J.kIn nl) rr q) ?_
  intro res s' z
  match res, z with
  | .error er, z => exact hx er s' _ _ J z
  | .ok (.ret u), z =>
    obtain ⟨v, H', J', rv, rfl, q'⟩ := J.after z
    exact ⟨rv, V.ref (s.heap.objs.size + 1), H', J', rfl, q'⟩
  | .ok .next, z => exact z.elim
  | .ok .brk, z => exact z.elim
  | .ok .cont, z => exact z.elim
theorem pe_makeG (M : Mk X.K C f) (F : FnG X.prog X.w X.K X.mg X.base CX k f fd ps sp) (gd : X.A.guards = some []) (hr : Room (k + 1) X.A) (hg : Gl X x) (hm : X.mg x = some (.ref C)) (hb : Binds X.K fd ps ds) (hd : Vals dvs ds) (hx : Passes CX X E) (ha : PA X (e :: es) t)
    (hdb : (x == ("__debug__" : Str)) = false := by decide) (he : starEach (e :: es) X.env = (false, eval e X.env) :: starEach es X.env := by rfl) (hpl : (backTo pos (starEach es X.env)).any (·.1) = false := by rfl) : PE X (.Call (.Name x p) (e :: es) [] pos) (tMake C sp dvs E t) := by
  constructor
  intro pins s σ H Q I h
  apply wpAny_Call_Name_kw
  apply ld_glob I hg hm _ hdb
  apply PySem.W.callWith_K (h₀ := X.base) I.ok.mod.kin M.kp _ he hpl
  refine thn (ha.run pos pins s σ H _ I h) ?_
  rintro us s1 ⟨vs, H1, I1, r, q⟩
  exact ⟨I1.kIn, make_runG M F gd hr hb hd (fun er s' H0 s0 J z => hx pins σ H0 s0 er s' J z) I1 r q⟩
/-- the same, what is raised wished for at the slots -/
def tMakeS (C : Addr) (sp : Sp) (E : L2.St → XK) (t : TA) : TE := fun σ H Q => tMake C sp [] (E σ) t σ H Q
theorem pe_makeGS {E : L2.St → XK} (M : Mk X.K C f) (F : FnG X.prog X.w X.K X.mg X.base CX k f fd ps sp) (gd : X.A.guards = some []) (hr : Room (k + 1) X.A) (hg : Gl X x) (hm : X.mg x = some (.ref C)) (hb : Binds X.K fd ps []) (hx : ∀ σ, PassesAt CX X σ (E σ)) (ha : PA X (e :: es) t)
    (hdb : (x == ("__debug__" : Str)) = false := by decide) (he : starEach (e :: es) X.env = (false, eval e X.env) :: starEach es X.env := by rfl) (hpl : (backTo pos (starEach es X.env)).any (·.1) = false := by rfl) : PE X (.Call (.Name x p) (e :: es) [] pos) (tMakeS C sp E t) := by
  constructor
  intro pins s σ H Q I h
  apply wpAny_Call_Name_kw
  apply ld_glob I hg hm _ hdb
  apply PySem.W.callWith_K (h₀ := X.base) I.ok.mod.kin M.kp _ he hpl
  refine thn (ha.run pos pins s σ H _ I h) ?_
  rintro us s1 ⟨vs, H1, I1, r, q⟩
  exact ⟨I1.kIn, make_runG M F gd hr hb .nil (fun er s' H0 s0 J z => hx σ pins H0 s0 er s' J z) I1 r q⟩
/-- len(x), x's class has its own __len__ -/
def rLenG (C : Addr) (sp : Sp) : List V → Hp → VK → Prop := fun xs H Q => ∃ (a dx : Addr) (fs : List (Str × V)), xs = [.ref a] ∧ H a = some (.ins C dx fs) ∧
  sp [.ref a] H (fun v H2 => ∃ n : Nat, v = .int n ∧ n ≤ 1000 ∧ Q (.int n) H2) fun _ _ _ => False
theorem call_lenG {sp : Sp} (at_ : PySem.W.findIn X.K (.ref C) "__len__" = some (some (.ref f))) (tf : PySem.W.typeIn X.K (.ref f) = some (.type "function")) (F : FnG X.prog X.w X.K X.mg X.base CX0 k f fd ps sp) (gd : X.A.guards = some []) (hr : Room (k + 1) X.A) (hb : Binds X.K fd ps []) :
    CallR X (.builtin "len") (rLenG C sp) := by
  intro pins s σ H xs us Q I r h
  obtain ⟨a, dx, fs, rfl, ha, want⟩ := h
  obtain ⟨u, rfl, ru⟩ := vals1 r
  obtain rfl : u = Value.ref a := ru
  obtain ⟨mA, O, _⟩ := ins_get I.hok ha
  obtain ⟨od, J, _⟩ := O.look
  refine PySem.Calls.call_function_entry kind_len plain_len entry_len (args_len1 _) ?_
  unfold Builtin.«len»
  refine wpAny_bind (m := oneArg "len" _) ?_
  apply wpAny_pure
  have nl : ([.ref a] : List Value).length = ps.length := by
    have z := F.len _ _ _ _ want
    exact z
  have run := F.run X.A.in1 X.stack s H ⟨[.ref a], []⟩ [.ref a] [.ref a] _ _ gd hr.in1 I.env0.in1 (hb s [.ref a] I.kIn (by rw [List.append_nil]; exact nl)) (.cons rfl .nil) want
  refine wpAny_bind (m := callSpecial? (.ref a) (Str.ofString "__len__")) (PySem.W.special_fn I.kIn J at_ tf (wpAny_call (codeAny_mono run ?_)))
  intro res s' z
  match res, z with
  | .error er, z => exact z.elim
  | .ok .next, z => exact z.elim
  | .ok .brk, z => exact z.elim
  | .ok .cont, z => exact z.elim
  | .ok (.ret u), z =>
    obtain ⟨v, H', J', rv, n, rfl, hn, q⟩ := I.after z
    obtain ⟨t, rfl⟩ := rv
    show wpAny _ _ (holding [Value.int (n : Int) t] (asIndex (Value.int (n : Int) t)) >>= _) _ _ s'
    refine wpAny_bind (wpAny_holding (wpAny_pure ?_))
    refine wpAny_bind (wpAny_letGo ?_)
    have e1 : ¬ ((n : Nat) : Int) < 0 := by omega
    have e2 : ¬ ((n : Nat) : Int) ≥ 2 ^ 63 := by omega
    show wpAny _ _ (if ((n : Nat) : Int) < 0 then _ else _) _ _ _
    rw [if_neg e1]
    show wpAny _ _ (if ((n : Nat) : Int) ≥ 2 ^ 63 then _ else _) _ _ _
    rw [if_neg e2]
    refine wpAny_bind (wpAny_mkInt ?_)
    apply wpAny_pure
    exact ⟨_, rfl, .int n, H', J'.tok _, ⟨_, rfl⟩, q⟩
end
end Sb

/-! try with several clauses, each with a name or without. -/
namespace Sb
open PySem PySem.Spec PyProof.Rows L2
abbrev TSx := Addr → Value → Option Addr → TS
/-- behind a named clause its name is gone -/
def gone (i : Nat) (D : Ends) : Ends := { nx := fun σ H => D.nx (σ.set i none) H, rt := D.rt, bk := fun σ H => D.bk (σ.set i none) H, ct := fun σ H => D.ct (σ.set i none) H }
/-- what a clause asks once it is the one -/
def onCl (nm : Option Nat) (ts : TSx) (D : Ends) : WX := fun cls d σ H => match nm with
  | none => ∀ a, H a = none → ts a cls d D σ H
  | some i => ∀ a, H a = none → ts a cls d (gone i D) (σ.set i (some (.ref a))) H
def wMix (K : PySem.W.Frag) (Wout : WX) (D : Ends) : List (Value × Option Nat × TSx) → WX
  | [] => Wout
  | (c, nm, ts) :: r => fun cls d σ H => ∃ b, PySem.W.exmOne K cls c = some b ∧ (b = true → onCl nm ts D cls d σ H) ∧ (b = false → wMix K Wout D r cls d σ H)
/-- a clause's suite, read in the suite's context -/
abbrev Suite (X : Cx) (b : List Stmt) (ts : TSx) : Prop := ∀ (a : Addr) (oe : Obj) (cls : Value) (d : Option Addr) (pn : List (Addr × Obj)), Zc cls d oe → (∃ vs, oe.data = .fields vs) → PSs (X.suite a ((a, oe) :: pn)) b (ts a cls d)
inductive MixOk (X : Cx) : List ExceptHandler → List (Value × Option Nat × TSx) → Prop
  | nil : MixOk X [] []
  | plain {x : Str} {c : Value} {ts : TSx} {b0 : Stmt} {b : List Stmt} {np p : Pos} {hds : List ExceptHandler} {l : List (Value × Option Nat × TSx)} (hc : Names X x c) (hsu : Suite X (b0 :: b) ts) (r : MixOk X hds l) :
      MixOk X (.ExceptHandler (some (.Name x np)) none (b0 :: b) p :: hds) ((c, none, ts) :: l)
  | named {x n : Str} {i : Nat} {c : Value} {ts : TSx} {b0 : Stmt} {b : List Stmt} {np p : Pos} {hds : List ExceptHandler} {l : List (Value × Option Nat × TSx)} (hi : X.N[i]? = some n) (hln : X.env.kindOf n = some .local) (hc : Names X x c) (hsu : Suite X (b0 :: b) ts) (r : MixOk X hds l) :
      MixOk X (.ExceptHandler (some (.Name x np)) (some n) (b0 :: b) p :: hds) ((c, some i, ts) :: l)
section
variable {X : Cx} {body : List Stmt} {h0 : ExceptHandler} {hds : List ExceptHandler} {l : List (Value × Option Nat × TSx)} {pos : Pos} {tb : WX → TS} {Wout : WX}
theorem ps_try_mix (hs : X.stack = X.env :: X.outer) (hf : X.env.frame = some X.env.locals) (hN : X.N.Nodup) (tk : L2.Takes X Wout)
    (hb : ∀ (W : WX) (pn : List (Addr × Obj)) (xe : Value → Shared → Prop), L2.Takes (X.tr pn xe) W → PassesOwn (model X.prog X.w) X.A X.env xe → PSs (X.tr pn xe) body (tb W)) (hh : MixOk X (h0 :: hds) l) :
    PS X (.Try body (h0 :: hds) [] [] pos) (fun D σ H => tb (wMix X.K Wout D l) D σ H) := by
  constructor
  intro pins s σ H D I h
  have ok := I.ok
  have hfr : X.A.frames = some (X.env :: X.outer) := hs ▸ ok.frames
  let XE : Value → Shared → Prop := fun e s1 => wpAny (model X.prog X.w) X.A (noteFrame e X.env) (fun _ s2 => wpAny (model X.prog X.w) X.A (setFlight e none) (fun _ s3 => wpAny (model X.prog X.w) X.A (handleBy e X.env (h0 :: hds)) (SP X pins D) X.xe s3) X.xe s2) X.xe s1
  have takes : L2.Takes (X.tr (X.pn ++ pins) XE) (wMix X.K Wout D l) := by
    rintro u s' ⟨a, B, sI, pins', σ', H', cls, d, rfl, J', nb, up, sky, na, os, ag, w⟩
    have J : L2.Inv X pins σ' H' sI := J'.ofTry ok
    replace sky : Sky B (X.env :: X.outer) a (Zc cls d) X.env.locals s'.heap := hs ▸ sky
    show wpAny (model X.prog X.w) X.A (noteFrame (.ref a) X.env) _ _ _
    refine Sky.land Zc.steady hfr hf sky fun h3 fl3 up3 => ?_
    have J3 : L2.Inv X pins σ' H' { s' with heap := h3 } := J.landed nb fl3.1 (up.trans up3) os ag
    obtain ⟨oe3, vs3, he3, hz3, hd3⟩ := fl3.there
    have off : a ∉ frs (X.env :: X.outer) := fun hm => by
      obtain ⟨_, o', e', hn⟩ := fl3.2.2.1.mem hm
      rw [he3] at e'
      cases e'
      exact hn _ hd3
    have nL : a ≠ X.env.locals := fun z => off (List.mem_filterMap.mpr ⟨X.env, List.mem_cons_self, z ▸ hf⟩)
    have nF : a ∉ X.fs := fun hm => by
      obtain ⟨e, he, q⟩ := List.mem_filterMap.mp hm
      exact off (List.mem_filterMap.mpr ⟨e, List.mem_cons_of_mem _ he, q⟩)
    have S3 := J3.suite he3 hd3 na nL nF
    have LT : PySem.W.Looks (model X.prog X.w) h3 (typeOf (.ref a)) cls := fun A Q E s k q => wpAny_typeOf_ref (k _ _ he3) (hz3.1 ▸ q)
    -- the clause's class is read
    have test : ∀ {x : Str} {c : Value} {np : Pos} {Q : Value → Shared → Prop} {E : Value → Shared → Prop}, Names X x c → Q c { s' with heap := h3 } → wpAny (model X.prog X.w) (X.A.mark (some (.ref a))) (eval (.Name x np) X.env) Q E { s' with heap := h3 } := by
      rintro x c np Q E ⟨hg, hdb, hm | ⟨hm, hv, hnn⟩⟩ q
      · exact ld_glob (X := X.suite a ((a, oe3) :: (X.pn ++ pins))) S3 hg hm q hdb
      · exact ld_blt (X := X.suite a ((a, oe3) :: (X.pn ++ pins))) S3 hg hm hv q hnn hdb
    have go : ∀ {hds' : List ExceptHandler} {l' : List (Value × Option Nat × TSx)}, MixOk X hds' l' → wMix X.K Wout D l' cls d σ' H' → wpAny (model X.prog X.w) X.A (handleBy (.ref a) X.env hds') (SP X pins D) X.xe { s' with heap := h3 } := by
      intro hds' l' hk
      induction hk with
      | nil =>
        intro w
        apply wpAny_handleBy_nil
        obtain ⟨k1, k2, k3, oe, vs, T, oT, ts', he, hz, hd, h1, hr⟩ := id fl3
        unfold PySem.passOn
        refine wpAny_bind (wpAny_field he hd h1 ?_)
        rw [if_neg (show ¬ ((Value.ref T == Value.none) = true) by simp)]
        have out : wpAny (model X.prog X.w) X.A (setFlight (.ref a) X.env.frame) (fun _ s4 => wpAny (model X.prog X.w) X.A (throw (.ref a) : Sem Flow) (SP X pins D) X.xe s4) X.xe { s' with heap := h3 } := by
          rw [hf]
          refine HandSPX.setFlight_upZ fl3 fun h4 hh4 up4 => wpAny_throw (tk _ _ ⟨a, B, sI, pins, σ', H', cls, d, rfl, J, nb, (up.trans up3).trans up4, .inr (.inr ?_), na, os, ag, w⟩)
          rw [hs]
          exact hh4
        first | exact wpAny_bind (wpAny_pure (wpAny_bind out)) | exact wpAny_bind out
      | @plain x c ts b0 b np p hds2 l2 hc hsu r ih =>
        rintro ⟨k, hk1, yes, no⟩
        refine wpAny_handleBy_cons (codeAny_handlers_test ?_) (fun q => by cases q)
        refine test hc ((PySem.W.exm_one (M := model X.prog X.w) J3.kIn LT hk1).here ?_)
        cases k with
        | false => exact ih (no rfl)
        | true =>
          refine codeAny_handlers_suite (HandSPX.lands_againZ fl3 fun h4 fl4 up4 => ?_)
          have J4 : L2.Inv X pins σ' H' { s' with heap := h4 } := J.landed nb fl4.1 ((up.trans up3).trans up4) os ag
          obtain ⟨oe4, vs4, he4, hz4, hd4⟩ := fl4.there
          refine wpAny_mono ((hsu a oe4 cls d (X.pn ++ pins) hz4 ⟨_, hd4⟩).run [] _ _ H' _ (J4.suite he4 hd4 na nL nF) (yes rfl a na)) ?_ (fun _ _ z => z.elim)
          intro f s6 hsp
          match f, hsp with
          | .next, ⟨σ6, H6, S6, q6⟩ => exact ⟨_, _, S6.unsuite ok, q6⟩
          | .brk, ⟨σ6, H6, S6, q6⟩ => exact ⟨_, _, S6.unsuite ok, q6⟩
          | .cont, ⟨σ6, H6, S6, q6⟩ => exact ⟨_, _, S6.unsuite ok, q6⟩
          | .ret u, ⟨v6, σ6, H6, S6, r6, q6⟩ => exact ⟨_, _, _, S6.unsuite ok, r6, q6⟩
      | @named x n i c ts b0 b np p hds2 l2 hi hln hc hsu r ih =>
        rintro ⟨k, hk1, yes, no⟩
        refine wpAny_handleBy_cons (codeAny_handlers_test ?_) (fun q => by cases q)
        refine test hc ((PySem.W.exm_one (M := model X.prog X.w) J3.kIn LT hk1).here ?_)
        cases k with
        | false => exact ih (no rfl)
        | true =>
          refine codeAny_handlers_suite_as (HandSPX.lands_againZ fl3 fun h4 fl4 up4 => ?_)
          have J4 : L2.Inv X pins σ' H' { s' with heap := h4 } := J.landed nb fl4.1 ((up.trans up3).trans up4) os ag
          obtain ⟨oe4, vs4, he4, hz4, hd4⟩ := fl4.there
          refine store_ok (X := X.suite a ((a, oe4) :: (X.pn ++ pins))) (v := .ref a) (J4.suite he4 hd4 na nL nF) hN hi (.inl hln) rfl (fun s5 S5 => ?_) (.inr hln)
          refine wpAny_mono ((hsu a oe4 cls d (X.pn ++ pins) hz4 ⟨_, hd4⟩).run [] s5 _ H' _ S5 (yes rfl a na)) ?_ (fun _ _ z => z.elim)
          intro f s6 hsp
          match f, hsp with
          | .next, ⟨σ6, H6, S6, q6⟩ => exact gone_ok (S6.unsuite ok) hN hi hln fun s7 J7 => ⟨_, _, J7, q6⟩
          | .brk, ⟨σ6, H6, S6, q6⟩ => exact gone_ok (S6.unsuite ok) hN hi hln fun s7 J7 => ⟨_, _, J7, q6⟩
          | .cont, ⟨σ6, H6, S6, q6⟩ => exact gone_ok (S6.unsuite ok) hN hi hln fun s7 J7 => ⟨_, _, J7, q6⟩
          | .ret u, ⟨v6, σ6, H6, S6, r6, q6⟩ => exact gone_ok (S6.unsuite ok) hN hi hln fun s7 J7 => ⟨_, _, _, J7, r6, q6⟩
    exact go hh w
  refine wpAny_Try_except (wpAny_mono ((hb (wMix X.K Wout D l) (X.pn ++ pins) XE takes PassesOwn.looking).run [] s σ H D (I.toTry _) h) ?_ (fun e s1 he => he))
  intro f s1 hsp
  match f, hsp with
  | .next, ⟨σ', H', J', q⟩ => exact wpAny_execs_nil ⟨σ', H', J'.ofTry ok, q⟩
  | .brk, ⟨σ', H', J', q⟩ => exact ⟨σ', H', J'.ofTry ok, q⟩
  | .cont, ⟨σ', H', J', q⟩ => exact ⟨σ', H', J'.ofTry ok, q⟩
  | .ret u, ⟨v, σ', H', J', r, q⟩ => exact ⟨v, σ', H', J'.ofTry ok, r, q⟩
end
end Sb

/-! sorted(d, key=f) over a dict whose keys are tuples; f gives rows of ints. -/
namespace Sb
open PySem PySem.Spec PyProof.Rows L2
open PySem.W (EachIs KeyPure KeepsBut dataLe AllAlike Sortable)
abbrev KRow := List Key × Addr × Value
/-- the keys in the order of their ranks -/
def srt (rank : List Key → List Int) (ks : List (List Key)) : List (List Key) := ks.mergeSort fun a b => decide (rank a ≤ rank b)
/-- key tuples, at these addresses -/
def IsKs (H : Hp) (ks : List (List Key)) (bs : List Addr) : Prop := Paired (fun k b => H b = some (.tup (k.map kV))) ks bs
/-- f is a function that gives a key tuple its rank -/
structure KeyFn (X : Cx) (f : Addr) (rank : List Key → List Int) (ok : List Key → Prop) : Prop where
  run : ∀ (s : Shared) (A : Around) (a : Addr) (its : List Value) (k : List Key), X.K.In s.heap → s.heap.Ns mainGlobals X.mg → s.heap.NoLimit → A.depth + 1 < recursionLimit → A.handled = none → ok k → Vals (k.map kV) its →
    IsTup s.heap a its.toArray → wpAny (model X.prog X.w) A (call (.ref f) [.ref a]) (KeyPure (.tuple ((rank k).map .int)) s) (fun _ _ => False) s
  some_ : ∀ k, ∃ x r, rank k = x :: r
  same : ∀ a b, (rank a).length = (rank b).length
theorem each_refs : ∀ ks : List KRow, EachIs (fun (v : Value) (x : KRow) => v = .ref x.2.1) (ks.map fun x => Value.ref x.2.1) ks
  | [] => .nil
  | _ :: r => .cons rfl (each_refs r)
theorem refs_each : ∀ {out : List Value} {ks : List KRow}, EachIs (fun (v : Value) (x : KRow) => v = .ref x.2.1) out ks → out = (ks.map fun x => x.2.1).map Value.ref
  | _, _, .nil => rfl
  | _, _, .cons h t => by
    rw [List.map_cons, List.map_cons, ← refs_each t, h]
theorem isKs_of {H : Hp} : ∀ {ks : List KRow}, (∀ x ∈ ks, H x.2.1 = some (.tup (x.1.map kV))) → IsKs H (ks.map (·.1)) (ks.map fun x => x.2.1)
  | [], _ => .nil
  | x :: r, h => .cons (h x List.mem_cons_self) (isKs_of fun y hy => h y (List.mem_cons_of_mem _ hy))
theorem kt_mem {H : Hp} {kvs : List (List Key × V)} {xs : List KRow} (r : KT H kvs xs) : kvs.map (·.1) = xs.map (·.1) ∧ ∀ x ∈ xs, H x.2.1 = some (.tup (x.1.map kV)) := by
  induction r with
  | nil => exact ⟨rfl, fun _ h => by cases h⟩
  | @cons a b l1 l2 h t ih =>
    refine ⟨by rw [List.map_cons, List.map_cons, h.1, ih.1], fun x hx => ?_⟩
    rcases List.mem_cons.mp hx with rfl | hx
    · rw [← h.1]
      exact h.2.1
    · exact ih.2 x hx
theorem alike_rows : ∀ (xs ys : List Int), PySem.W.alike (.tuple (xs.map .int)) (.tuple (ys.map .int)) = true := fun xs ys => PySem.W.alike_ints xs ys
theorem le_rows (rank : List Key → List Int) : dataLe false (fun x : KRow => PyData.tuple ((rank x.1).map .int)) = fun p q => decide (rank p.1 ≤ rank q.1) := by
  have e := PySem.W.dataLe_rows (β := KRow) (fun x => rank x.1)
  rw [← e]
  funext p q
  rfl
/-- sorted(d, key=f) -/
def rSortT (f : Addr) (rank : List Key → List Int) (ok : List Key → Prop) : List V → List V → Hp → VK → Prop := fun xs zs H Q => ∃ (d : Addr) (kvs : List (List Key × V)), xs = [.ref d] ∧ zs = [.ref f] ∧ H d = some (.dT kvs) ∧ (∀ k ∈ kvs.map (·.1), ok k) ∧
  ∀ p bs, H p = none → IsKs H (srt rank (kvs.map (·.1))) bs → Q (.ref p) (upd H p (.lst (bs.map V.ref)))
theorem call_sortT {X : Cx} {f : Addr} {rank : List Key → List Int} {ok : List Key → Prop} {k0 : Nat} (hc : X.calm = true) (hr : Room (k0 + 1) X.A) (F : KeyFn X f rank ok) : CallRK X (.builtin "sorted") ["key"] (rSortT f rank ok) := by
  intro pins s σ H xs zs us ws Q I r rz h
  obtain ⟨d, kvs, rfl, rfl, hd, hok, q⟩ := h
  obtain ⟨u, rfl, rx⟩ := vals1 r
  obtain ⟨u2, rfl, rx2⟩ := vals1 rz
  obtain rfl : u = Value.ref d := rx
  obtain rfl : u2 = Value.ref f := rx2
  obtain ⟨z, lo, ks, pr, o, es, ep, ho, hx, hdt, he, hn⟩ := (show ObjOk X.prog X.w H s.heap d (.dT kvs) from I.hok d _ hd)
  have l1 : es.size = ks.length := size_of_entries he
  obtain ⟨ek, hks⟩ := kt_mem pr
  have l2 : kvs.length = ks.length := Paired.length pr
  show wpAny _ _ (call (.builtin "sorted") [.ref d] [(Str.ofString "key", .ref f)]) _ _ _
  refine PyProof.Rows.call_function_entry_kw PyProof.Rows.kind_sorted PyProof.Rows.plain_sorted PyProof.Rows.entry_sorted (PyProof.Rows.ksk_s1 _ _) ?_
  unfold Builtin.«sorted»
  refine wpAny_bind (m := checkCount "sorted" 1 1 _) ?_
  apply wpAny_pure
  refine wpAny_bind (PySem.W.kdu_collect (A := X.A.in1) (kdl_raw lo hx hdt) (I.ok.hd hc) ho (by omega) fun h' tk acc kp it => ?_)
  have ea : acc.toList = ks.map fun x => Value.ref x.2.1 := by
    apply List.ext_getElem?
    intro j
    have la : acc.toList.length = ks.length := by
      rw [Array.length_toList, it.1, l1]
    rw [List.getElem?_map]
    by_cases hj : j < ks.length
    · have e1 : acc.toList[j]? = some acc.toList[j] := List.getElem?_eq_getElem (by omega)
      obtain ⟨en, hen, hv⟩ := it.2 j _ ((Array.getElem?_toList).symm.trans e1)
      have e2 := entry_at he j
      rw [hen, List.getElem?_eq_getElem hj] at e2
      have e3 : en = entryOfKey (tupleKind (mixKind X.prog X.w)) ks[j] := Option.some.inj e2
      rw [e1, hv, e3, List.getElem?_eq_getElem hj]
      rfl
    · rw [List.getElem?_eq_none (by omega), List.getElem?_eq_none (by omega)]
      rfl
  have la : acc.toList.length = ks.length := by rw [ea, List.length_map]
  have I1 : Inv X pins σ H { s with heap := h', toks := tk } := I.kept kp
  refine wpAny_bind (wpAny_newList ?_ (by omega))
  have hoL : (h'.push (seqObj "list" acc.toList.toArray 0)).get? h'.objs.size = some (seqObj "list" acc.toList.toArray 0) := Heap.get?_push_size _ rfl
  have up : ∀ c o, h'.get? c = some o → (h'.push (seqObj "list" acc.toList.toArray 0)).get? c = some o := fun c o e => Heap.get?_push_of_some _ e
  show wpAny _ _ _ _ _ { s with heap := h'.push (seqObj "list" acc.toList.toArray 0), toks := tk }
  refine wpAny_bind (wpAny_holding (wpAny_call_entry_kw PyProof.Rows.slot_list_sort ⟨_, hoL, rfl⟩ PyProof.Rows.entry_list_sort ?body (PyProof.Rows.ksk_l1 _ _)))
  rw [PyProof.Rows.ksk_t1]
  have each : EachIs (fun (v : Value) (x : KRow) => v = .ref x.2.1) acc.toList ks := by rw [ea]; exact each_refs ks
  have ne : ∀ {c : Addr} {o : Obj}, h'.get? c = some o → c ≠ h'.objs.size := fun e => Nat.ne_of_lt (Heap.lt_size e)
  refine PySem.W.keyH_tree (kz := ks.map fun x => PyData.tuple ((rank x.1).map .int)) (s := { s with heap := h'.push (seqObj "list" acc.toList.toArray 0), toks := tk }) hoL (by rw [List.length_map, la]) (by omega)
    (AllAlike.of fun a b => alike_rows _ _) (Sortable.tuples fun b => ?_) ?_ (PySem.W.keyH_turns (s := { s with heap := h'.push (seqObj "list" acc.toList.toArray 0), toks := tk }) each fun v x hR hxk h2 tk2 kp2 => ?_) fun h3 tk3 out c kp3 hD ko => ?_
  · obtain ⟨x, r, e⟩ := F.some_ b.1
    exact ⟨_, _, by rw [e]; rfl⟩
  · intro dd hdd
    obtain ⟨x, _, rfl⟩ := List.mem_map.mp hdd
    have dp : PyData.depth (.tuple ((rank x.1).map PyData.int)) = 1 := by
      show PyData.depthAll _ + 1 = 1
      rw [PySem.W.depth_ints]
    rw [dp]
    have := hr.un
    show X.A.units + 1 + 1 + 1 < cLine
    omega
  · rw [hR]
    obtain ⟨_, its, rv, it1⟩ := (show ObjOk X.prog X.w H h' x.2.1 (.tup (x.1.map kV)) from I1.hok _ _ (hks x hxk))
    have k2 : ∀ c o, h'.get? c = some o → h2.get? c = some o := fun c o e => kp2 c o (ne e) (up c o e)
    refine F.run { s with heap := h2, toks := tk2 } _ x.2.1 its x.1 (I1.kIn.keeps k2) ((I1.mod.glob.keeps I1.bk).keeps k2) (I1.nolimit.keeps k2) ?_ ?_ (hok _ (by rw [ek]; exact List.mem_map.mpr ⟨x, hxk, rfl⟩)) rv ?_
    · have := hr.dp
      show X.A.depth + 1 < recursionLimit
      omega
    · exact I.ok.hd hc
    · obtain ⟨ob, h1, r⟩ := it1
      exact ⟨ob, k2 _ _ h1, r⟩
  · have eo := PySem.W.keyedOut_each (fun x : KRow => PyData.tuple ((rank x.1).map .int)) ko each
    have lo2 := ko.length (by rw [List.length_map, la])
    rw [le_rows] at eo
    have er := refs_each eo
    have hmem : ∀ x ∈ ks.mergeSort (fun p q => decide (rank p.1 ≤ rank q.1)), H x.2.1 = some (.tup (x.1.map kV)) := fun x hx => hks x ((List.mergeSort_perm ks _).mem_iff.mp hx)
    have em : (ks.mergeSort (fun p q => decide (rank p.1 ≤ rank q.1))).map (·.1) = srt rank (kvs.map (·.1)) := by
      unfold srt
      rw [ek]
      exact List.map_mergeSort fun a _ b _ => rfl
    have isk := isKs_of hmem
    rw [em] at isk
    have keep3 : ∀ b o, h'.get? b = some o → h3.get? b = some o := fun b o e => kp3 b o (ne e) (up b o e)
    have rv : Vals (((ks.mergeSort (fun p q => decide (rank p.1 ≤ rank q.1))).map fun x => x.2.1).map V.ref) out := by
      rw [er]
      exact vals_refs _
    have hz : (((ks.mergeSort (fun p q => decide (rank p.1 ≤ rank q.1))).map fun x => x.2.1).map V.ref).length ≤ sizeLine := by
      rw [rv.length]
      omega
    refine ⟨_, rfl, ?_⟩
    apply wpAny_pure
    refine ⟨_, rfl, .ref h'.objs.size, _, I1.laid (t' := tk3) (o := .lst (((ks.mergeSort (fun p q => decide (rank p.1 ≤ rank q.1))).map fun x => x.2.1).map V.ref)) keep3 (Nat.le_refl _) ⟨hz, out, c, rv, hD⟩, rfl, q _ _ (I1.hok.fresh (Nat.le_refl _)) isk⟩
end Sb

/-! {k: v for x in ..} with tuples for keys. -/
namespace Sb
open PySem PySem.Spec PyProof.Rows L2
section
variable {X : Cx} {pins : List (Addr × Obj)} {σ : L2.St} {H : Hp}
/-- D[k] = v, k the tuple at b -/
theorem putT_ok {s : Shared} {E : Value → Shared → Prop} {D b : Addr} {kvs : List (List Key × V)} {k : List Key} {v : V} {r : Value} {Q : Unit → Shared → Prop} (hu : X.A.units + 1 < cLine) (I : L2.Inv X pins σ H s) (hD : H D = some (.dT kvs)) (hb : H b = some (.tup (k.map kV))) (hz : kvs.length < sizeLine)
    (rv : RelV v r) (want : ∀ s', L2.Inv X pins σ (upd H D (.dT (putK kvs k v))) s' → Q () s') : wpAny (model X.prog X.w) X.A (dictSet D (.ref b) r) Q E s := by
  obtain ⟨z, low, xs, rel, dd⟩ := dt_of I.hok hD
  have l1 : xs.length ≤ sizeLine := Paired.length rel ▸ z
  have l2 := length_putK kvs k v
  refine wpAny_dictSet_heap (hsz := l1) ?room (key_of I.hok hb) dd fun h' dd' but => want _ ?_
  case room => show X.A.units < cLine; omega
  obtain ⟨q, es, ep, g1, g2, g3, g4, _, g5⟩ := dd'
  refine d_write I (by rw [hD]; trivial) but ⟨q, g1⟩ ⟨by omega, low, _, (rel.put k hb rv).keeps fun c ys ec => ?_, q, es, ep, g1, g2, g3, g4, g5⟩
  rw [upd_ne (ne_of ec hD fun z => nomatch z)]
  exact ec
end
/-- what the turns are to show; D: the new dict -/
def DcW (J : It) (g : TG) (tt : TT) (tk tv : TE) (vs : List Nat) (σ : L2.St) (D : Addr) (Qd : Hp → Prop) (H0 : Hp) : Prop := ∃ W : Nat → Nat → Hp → Prop, (∃ m, W 0 m H0) ∧ ∀ i m H, W i m H →
  (J.stop i H ∧ Qd H) ∨ (J.go i H ∧ ∃ Nx : Hp → Prop, (∀ H', Nx H' → ∃ m', m' < m ∧ W (i + 1) m' H') ∧ ∀ x H', J.yld i H x H' → g x (wipe σ vs) H' fun σ2 H2 => wipe σ2 vs = wipe σ vs ∧ tt σ2 H2 fun b H3 =>
    if b = true then tk σ2 H3 fun y H4 => tv σ2 H4 fun z H5 => ∃ kvs k t, y = .ref t ∧ H5 t = some (.tup (k.map kV)) ∧ H5 D = some (.dT kvs) ∧ kvs.length < sizeLine ∧ Nx (upd H5 D (.dT (putK kvs k z))) else Nx H3)
def tDcT (wi : TI) (g : TG) (tt : TT) (tk tv : TE) (vs : List Nat) : TE := fun σ H Q => wi σ H fun J H1 => ∀ D, H1 D = none → DcW J g tt tk tv vs σ D (Q (.ref D)) (upd H1 D (.dT []))
section
variable {X : Cx} {kx vx tg iter : Expr} {ifs : List Expr} {scope : Scope} {own : List (Str × Nat)} {pos : Pos} {wi : TI} {g : TG} {tt : TT} {tk tv : TE}
theorem pe_dcT (hc : X.calm = true) (hN : X.N.Nodup) (hu : X.A.units + 1 < cLine) (hi : PI X tg iter wi) (ok : BlkOk X.N X.env.scope scope own) (hg : ∀ (s : Shared) (H : Hp) (C : Addr) (cl : List (Str × Addr)) (fp : List Addr), PG (X.blk s H scope (compEnvC scope cl C X.env) fp) tg g) (ht : ∀ (s : Shared) (H : Hp) (C : Addr) (cl : List (Str × Addr)) (fp : List Addr), PTs (X.blk s H scope (compEnvC scope cl C X.env) fp) ifs tt) (hk : ∀ (s : Shared) (H : Hp) (C : Addr) (cl : List (Str × Addr)) (fp : List Addr), PE (X.blk s H scope (compEnvC scope cl C X.env) fp) kx tk)
    (hv : ∀ (s : Shared) (H : Hp) (C : Addr) (cl : List (Str × Addr)) (fp : List Addr), PE (X.blk s H scope (compEnvC scope cl C X.env) fp) vx tv) (hs : ∀ x, foldedSetIterable iter X.env x = pure x := by intro _; rfl) : PE X (.DictComp kx vx [⟨tg, iter, ifs, 0⟩] scope pos) (tDcT wi g tt tk tv (own.map (·.2))) := by
  constructor
  intro pins s σ H Q I h
  rw [arm_eval_DictComp]
  have closed : ∀ y ∈ scope.names, y.2 = .free → ∃ c, X.env.cells.lookup y.1 = some c := by
    intro y hy e
    exact (ok.free y hy e).elim (fun k => I.ok.has _ (.inl k)) (fun k => I.ok.has _ (.inr k))
  refine wpAny_comprehension_free rfl hs (closure_ok closed) ok.kind (fun y hy e => by rw [ok.uniq y hy, e]) ?_
  refine thn (hi.run pins s σ H _ I h) fun xv s1 hx => thn hx ?_
  rintro itv s2 ⟨it, fp, tn, J, H2, rfl, I2, T, st2, f2, q⟩
  refine wpAny_newObj_type (newEnv_comp ?_)
  generalize eD : s2.heap.objs.size = D
  have nD : H2 D = none := I2.hok.fresh (Nat.le_of_eq eD)
  obtain ⟨W, ⟨m0, w0⟩, turn⟩ := q D nD
  -- D is laid
  generalize es3 : ({ s2 with heap := s2.heap.push { cls := .type "dict", data := .dict #[] } } : Shared) = s3
  have h3 : s3.heap = s2.heap.push { cls := .type "dict", data := .dict #[] } := by
    rw [← es3]
  generalize eH3 : upd H2 D (.dT []) = H3 at w0
  have I3 : L2.Inv X pins σ H3 s3 := by
    have lay := I2.laid (t' := s2.toks) (h' := s2.heap.push { cls := .type "dict", data := .dict #[] }) (fun b o e => Heap.get?_push_of_some _ e) (Nat.le_of_eq eD) (eD ▸ dt_empty s2.heap I2.big)
    rw [← es3, ← eH3]
    exact lay
  have small : ∀ b ∈ fp, b < s2.heap.objs.size := by
    intro b hb
    obtain ⟨o, e, _⟩ := T.obj _ _ st2 b hb
    exact Heap.lt_size e
  have f3 : ∀ b ∈ fp, FpOk X pins H3 b ∧ b < s3.heap.objs.size := by
    intro b hb
    have lt := small b hb
    constructor
    · refine ⟨?_, (f2 b hb).2⟩
      rw [← eH3, upd_ne (eD ▸ Nat.ne_of_lt lt)]
      exact (f2 b hb).1
    · rw [h3, Heap.size_push]
      exact Nat.lt_succ_of_lt lt
  have n3 : ∀ b ∈ fp, H3 b = none := fun b hb => (f3 b hb).1.1
  have st3 : tn 0 s3.heap := by
    refine T.keep _ _ _ st2 ?_
    rw [h3]
    exact fun b _ o e => Heap.get?_push_of_some _ e
  have I4 := block_start I3 ok hN f3
  show codeAny _ _ (.compStart (.DictComp kx vx [⟨tg, iter, ifs, 0⟩] scope pos) 0 (.ref it) (.ref D) (compEnvC scope (cellsFrom (s3.heap.objs.size + 1) scope.names (cloFrom X.env.cells scope.names [])) s3.heap.objs.size X.env)) (compPost (model X.prog X.w) X.A X.xe none _ (.ref D) s3.heap.objs.size) { s3 with heap := pushCells (s3.heap.push { cls := .type "dict", data := .dict #[] }) scope.names }
  have bg := hg s3 H3 s3.heap.objs.size (cellsFrom (s3.heap.objs.size + 1) scope.names (cloFrom X.env.cells scope.names [])) fp
  have bt := ht s3 H3 s3.heap.objs.size (cellsFrom (s3.heap.objs.size + 1) scope.names (cloFrom X.env.cells scope.names [])) fp
  have bk := hk s3 H3 s3.heap.objs.size (cellsFrom (s3.heap.objs.size + 1) scope.names (cloFrom X.env.cells scope.names [])) fp
  have bv := hv s3 H3 s3.heap.objs.size (cellsFrom (s3.heap.objs.size + 1) scope.names (cloFrom X.env.cells scope.names [])) fp
  generalize ece : compEnvC scope (cellsFrom (s3.heap.objs.size + 1) scope.names (cloFrom X.env.cells scope.names [])) s3.heap.objs.size X.env = ce at I4 bg bt bk bv ⊢
  have cL : ce.locals = s3.heap.objs.size := ece ▸ rfl
  generalize es4 : ({ s3 with heap := pushCells (s3.heap.push { cls := .type "dict", data := .dict #[] }) scope.names } : Shared) = s4 at I4 ⊢
  have st4 : tn 0 s4.heap := by
    refine T.keep _ _ _ st3 fun b _ o e => ?_
    rw [← es4]
    exact pushCells_keeps _ _ _ _ (Heap.get?_push_of_some _ e)
  have stat : ∀ {σ' : L2.St} {H' : Hp} {s' : Shared}, L2.Inv (X.blk s3 H3 scope ce fp) [] σ' H' s' → (∀ b ∈ fp, H' b = none) → ∀ b ∈ fp, FpOk (X.blk s3 H3 scope ce fp) [] H' b := by
    intro σ' H' s' J' hn b hb
    refine ⟨hn b hb, (J'.ok.exf b hb).1, J'.ok.exfs b hb, .inl hb, (J'.ok.exf b hb).2, fun p hp => ?_⟩
    have z : p ∈ ([] : List (Addr × Obj)) ++ [] := hp
    simp at z
  -- the loop's state
  let At : Nat → Shared → Prop := fun n s' => ∃ i H', L2.Inv (X.blk s3 H3 scope ce fp) [] (wipe σ (own.map (·.2))) H' s' ∧ tn i s'.heap ∧ (∀ b ∈ fp, H' b = none) ∧ W i n H'
  have loop : codeAny (model X.prog X.w) X.A (.compLoop (.DictComp kx vx [⟨tg, iter, ifs, 0⟩] scope pos) 0 (.ref it) (.ref D) ce) (compPost (model X.prog X.w) X.A X.xe none (EP X pins σ Q) (.ref D) s3.heap.objs.size) s4 := by
    refine compLoop_anyD At ?_ m0 ⟨0, H3, I4, st4, n3, w0⟩
    rintro n s5 ⟨i, H5, I5, st5, n5, w5⟩
    rcases turn i n H5 w5 with ⟨stop, done⟩ | ⟨go, Nx, hNx, step⟩
    · refine thnF (T.done (X.blk s3 H3 scope ce fp) rfl rfl rfl hc i [] s5 _ H5 (fun _ _ => False) I5 (stat I5 n5) st5 stop) ?_
      rintro r s6 ⟨rfl, I6⟩
      have I7 : L2.Inv X pins σ H5 s6 := by
        refine I3.call' (ch := fp) I6.os I6.base I6.hok I6.bare fun b hb => ?_
        have z := (f3 b hb).1.2
        exact ⟨z.2.2.1, z.1, z.2.2.2.1, z.2.2.2.2⟩
      have free := I6.free
      rw [show (X.blk s3 H3 scope ce fp).env.locals = s3.heap.objs.size from cL] at free
      obtain ⟨m, hn, _⟩ := I6.loc
      have hn : s6.heap.Ns ce.locals m := hn
      rw [cL] at hn
      refine ⟨m, hn, fun h'' sb => ?_⟩
      obtain ⟨g0, g1, g2, g3, g4, g5⟩ := I3.fpOk (Nat.le_refl _) free
      exact ⟨.ref D, H5, I7.turned (t' := s6.toks) (fun b o hb e => (sb.2 b hb).trans e) g0 g1 g3 g4 g5, rfl, done⟩
    · refine thnF (T.item (X.blk s3 H3 scope ce fp) rfl rfl rfl hc i [] s5 _ H5 (fun _ _ => False) I5 (stat I5 n5) st5 go) ?_
      rintro r s6 ⟨u, rfl, go6⟩
      refine thnF go6 ?_
      rintro _ s7 ⟨x, H7, I7, r7, y7, st7, n7⟩
      refine thnF (bg.run _ s7 _ H7 x u _ (I7.pinned (stat I7 n7) (T.obj _ _ st7)) r7 (step x H7 y7)) ?_
      rintro _ s8 ⟨σ8, H8, I8, hw8, q8⟩
      refine thnF (bt.run _ s8 σ8 H8 _ I8 q8) ?_
      rintro b s9 ⟨H9, I9, q9⟩
      have next : ∀ {s' : Shared} {H' : Hp}, L2.Inv (X.blk s3 H3 scope ce fp) ([] ++ pinsAt fp s7.heap) σ8 H' s' → Nx H' → ∃ m, m < n ∧ At m s' := by
        intro s' H' J' nx
        obtain ⟨m', lt, w'⟩ := hNx H' nx
        have pinned : ∀ b ∈ fp, ∀ o, s7.heap.get? b = some o → s'.heap.get? b = some o ∧ H' b = none := by
          intro b hb o e
          have z := J'.pin (b, o) (List.mem_append_right _ (List.mem_append_right _ (mem_pinsAt hb e)))
          exact ⟨z.1, z.2.1⟩
        refine ⟨m', lt, i + 1, H', (J'.unpinned (pins := [])).weak ?_ ?_, T.keep _ _ _ st7 fun b hb o e => (pinned b hb o e).1, ?_, w'⟩
        · rw [← hw8, wipe_length]
        · intro j v e
          rw [← hw8] at e
          exact (wipe_some e).1
        · intro b hb
          obtain ⟨o, e, _⟩ := T.obj _ _ st7 b hb
          exact (pinned b hb o e).2
      cases b with
      | false => exact next I9 q9
      | true =>
        refine thnF (bk.run _ s9 σ8 H9 _ I9 q9) ?_
        rintro z1 s10 ⟨yk, H10, I10, r10, q10⟩
        refine thnF (bv.run _ s10 σ8 H10 _ I10 q10) ?_
        rintro z2 s11 ⟨yv, H11, I11, r11, kvs, k, t, rfl, ht11, hD11, lt11, nx⟩
        obtain rfl : z1 = Value.ref t := r10
        exact putT_ok (X := X.blk s3 H3 scope ce fp) hu I11 hD11 ht11 lt11 r11 fun s12 I12 => next I12 nx
  exact codeAny_compStart_dict loop (T.self X.A 0 _ _ _ st4 loop)
end
theorem dcT_list {K : PySem.W.Frag} {a : Addr} {xs : List V} {g : TG} {tt : TT} {tk tv : TE} {vs : List Nat} {σ : L2.St} {H0 : Hp} {D : Addr} {Qd : Hp → Prop} (Pv : Nat → Hp → Prop) (h0 : Pv 0 H0) (hl : ∀ i H, Pv i H → SqL K H a xs)
    (hs : ∀ i x H, xs[i]? = some x → Pv i H → g x (wipe σ vs) H fun σ2 H2 => wipe σ2 vs = wipe σ vs ∧ tt σ2 H2 fun b H3 =>
      if b = true then tk σ2 H3 fun y H4 => tv σ2 H4 fun z H5 => ∃ kvs k t, y = .ref t ∧ H5 t = some (.tup (k.map kV)) ∧ H5 D = some (.dT kvs) ∧ kvs.length < sizeLine ∧ Pv (i + 1) (upd H5 D (.dT (putK kvs k z))) else Pv (i + 1) H3) (hd : ∀ H, Pv xs.length H → Qd H) :
    DcW (Itl K a) g tt tk tv vs σ D Qd H0 := by
  refine ⟨fun i m H => m + i = xs.length ∧ Pv i H, ⟨xs.length, rfl, h0⟩, fun i m H ⟨hm, p⟩ => ?_⟩
  have q := hl i H p
  cases m with
  | zero =>
    have e : i = xs.length := by omega
    subst e
    exact .inl ⟨⟨xs, q, Nat.le_refl _⟩, hd H p⟩
  | succ m =>
    have h1 : i < xs.length := by omega
    have hx := List.getElem?_eq_getElem h1
    refine .inr ⟨⟨xs, _, q, hx⟩, Pv (i + 1), fun H' p' => ⟨m, Nat.lt_succ_self m, by omega, p'⟩, ?_⟩
    rintro v H' ⟨rfl, f1⟩
    exact hs i v _ (f1 xs q) p
end Sb

/-! x == text, x of any kind but a dict. -/
namespace Sb
open PySem PySem.Spec PyProof.Rows L2
def isStrD (d : PyData) (z : Str) : Bool := match d with
  | .str y => y == z
  | _ => false
def isDctD : PyData → Bool
  | .dict _ => true
  | _ => false
def rEqS : R2 := fun x y H Q => ∃ p d z, LD p H x d ∧ isDctD d = false ∧ y = .str z ∧ Q (.bl (isStrD d z)) H
theorem op_eqS {X : Cx} (hu : X.A.units + 64 < cLine) : OpR X (compareOp .Eq) rEqS := by
  intro pins s σ H x y v u Q I rx ry h
  obtain ⟨p, d, z, hx, hd, rfl, q⟩ := h
  obtain ⟨tz, rfl⟩ := ry
  have fin : ∀ {b : Bool}, SeqAt.RcAt X.A s v (.str z tz) b → Q (.bl b) H → wpAny (model X.prog X.w) X.A (compareOp .Eq v (.str z tz)) (EP X pins σ Q) X.xe s := fun r g => r X.prog X.w X.xe _ ⟨.bl _, H, I, rfl, g⟩
  cases hx with
  | non =>
    cases rx
    exact fin (SeqAt.RcAt.none_str _ _) q
  | bl b =>
    cases rx
    exact fin (SeqAt.RcAt.bool_str _ _ _) q
  | int i =>
    obtain ⟨t, rfl⟩ := rx
    exact fin (SeqAt.RcAt.int_str _ _ _ _) q
  | str y =>
    obtain ⟨t, rfl⟩ := rx
    exact fin (SeqAt.RcAt.str_str _ _ _ _) q
  | tup n e r =>
    cases rx
    obtain ⟨its, rv, pl, _⟩ := I.tuple (SqT.of e)
    exact fin (SeqAt.RcAt.tuple_str _ _ pl (by omega)) q
  | lst n m e r =>
    cases rx
    obtain ⟨its, rv, pl, _⟩ := I.list (SqL.of e)
    exact fin (SeqAt.RcAt.list_str _ _ pl.isList (by omega)) q
  | dic n e => cases hd
  | dct n e => cases hd
/-- [e, ..], where it lies -/
def tLstB (t : TA) : TE := fun σ H Q => t σ H fun xs H1 => xs.length ≤ sizeLine ∧ ∀ p, H1 p = none → p ≠ sysModules → Q (.ref p) (upd H1 p (.lst xs))
theorem pe_lstB {X : Cx} {es : List Expr} {pos : Pos} {t : TA} (h : PA X es t) : PE X (.List es pos) (tLstB t) := by
  constructor
  intro pins s σ H Q I hq
  refine wpAny_List_spliced (thn (h.run pos pins s σ H _ I hq) ?_)
  rintro us s1 ⟨xs, H1, I1, r, z, q⟩
  refine ⟨r.length ▸ z, .ref s1.heap.objs.size, _, I1.laid (t' := s1.toks) (o := .lst xs) (fun b u e => Heap.get?_push_of_some _ e) (Nat.le_refl _) ⟨z, us, 0, r, Heap.get?_push_size _ rfl⟩, rfl, q _ (I1.hok.fresh (Nat.le_refl _)) (Nat.ne_of_gt I1.big)⟩
end Sb

/-! len(set(t)), t a tuple of ints and texts; t.index(n), t a tuple of ints. -/
namespace Sb
open PySem PySem.Spec PyProof.Rows L2
instance memKey (k : Key) (l : List Key) : Decidable (k ∈ l) := @List.instDecidableMemOfLawfulBEq Key instBEqOfDecidableEq inferInstance k l
theorem setOfK_congr {prog : Program} {w : World} {h : Heap} {a : Addr} {S S' : Key → Bool} {n n' : Nat} (hS : h.SetOf (mixKind prog w) a S n) (e : ∀ k, S k = S' k) (en : n = n') : h.SetOf (mixKind prog w) a S' n' := by
  have : S = S' := funext e
  subst this
  subst en
  exact hS
def uniqK (l : List Key) : List Key := l.foldl (fun acc k => if k ∈ acc then acc else acc ++ [k]) []
theorem uniqK_snoc (l : List Key) (x : Key) : uniqK (l ++ [x]) = if x ∈ uniqK l then uniqK l else uniqK l ++ [x] := by
  unfold uniqK
  rw [List.foldl_append]
  rfl
theorem uniqK_len : ∀ (n : Nat) (l : List Key), l.length = n → (uniqK l).length ≤ l.length ∧ (∀ k, k ∈ uniqK l ↔ k ∈ l) ∧ (l.Nodup → uniqK l = l) ∧ ((uniqK l).length = l.length → l.Nodup)
  | 0, l, h => by
    obtain rfl := List.eq_nil_of_length_eq_zero h
    exact ⟨Nat.le_refl _, fun k => Iff.rfl, fun _ => rfl, fun _ => List.nodup_nil⟩
  | n + 1, l, h => by
    have hl : l ≠ [] := by intro e; subst e; cases h
    obtain ⟨r, x, rfl⟩ : ∃ r x, l = r ++ [x] := ⟨l.dropLast, l.getLast hl, (List.dropLast_concat_getLast hl).symm⟩
    have hr : r.length = n := by rw [List.length_append] at h; simpa using h
    obtain ⟨a, b, c, d⟩ := uniqK_len n r hr
    rw [uniqK_snoc]
    by_cases hx : x ∈ uniqK r
    · rw [if_pos hx]
      have hx' := (b x).mp hx
      refine ⟨by rw [List.length_append]; exact Nat.le_trans a (Nat.le_add_right _ _), fun k => ?_, fun nd => ?_, fun e => ?_⟩
      · rw [b k, List.mem_append]
        constructor
        · exact .inl
        · rintro (z | z)
          · exact z
          · rw [List.mem_singleton] at z
            exact z ▸ hx'
      · exact absurd hx' (fun z => (List.nodup_append.mp nd).2.2 x z x List.mem_cons_self rfl)
      · rw [List.length_append, List.length_singleton] at e
        omega
    · rw [if_neg hx]
      have hx' : x ∉ r := fun z => hx ((b x).mpr z)
      refine ⟨by rw [List.length_append, List.length_append]; exact Nat.add_le_add_right a _, fun k => ?_, fun nd => ?_, fun e => ?_⟩
      · rw [List.mem_append, List.mem_append, b k]
      · rw [c (List.nodup_append.mp nd).1]
      · rw [List.length_append, List.length_append] at e
        have nd := d (Nat.add_right_cancel e)
        refine List.nodup_append.mpr ⟨nd, by simp, fun a ha b hb => ?_⟩
        rw [List.mem_singleton] at hb
        subst hb
        rintro rfl
        exact hx' ha
section
variable {prog : Program} {w : World} {A : Around} {R : Result → Shared → Prop} {I : Addr} {fp wr : List Addr} {G : Array GenState → Array GenState → Prop} {n : Nat} {P : Nat → Value → Prop} {St : Nat → Shared → Prop}
theorem loopMix (W : WalksS prog w A.in1 I fp wr G n P St) (S : Addr) (hSf : S ∉ fp) (xs : List Key) (hsz : xs.length = n) (hn1 : n ≤ 50)
    (hval : ∀ i v, P i v → ∃ k, xs[i]? = some k ∧ RelV (kV k) v) :
    ∀ (k i : Nat) (s : Shared), n - i = k → i ≤ n → St i s →
      s.heap.SetOf (mixKind prog w) S (fun k' => decide (k' ∈ uniqK (xs.take i))) (uniqK (xs.take i)).length →
      (∀ s', Moved (S :: wr) G s s' → s'.heap.SetOf (mixKind prog w) S (fun k' => decide (k' ∈ uniqK (xs.take n))) (uniqK (xs.take n)).length → R (.ok (.ret .none)) s') →
      codeAny (model prog w) A (.builtin "set.update.loop" ⟨[.ref S, .ref I], []⟩) R s := by
  have hSw : S ∉ wr := fun h => hSf (W.sub _ h)
  have hsub : ∀ b ∈ wr, b ∈ S :: wr := fun b hb => List.mem_cons_of_mem _ hb
  intro k
  induction k with
  | zero =>
    intro i s hk hi hst hS hR
    have hin : i = n := by omega
    subst hin
    refine codeAny_builtin PyProof.Rows.F.entry_set_update_loop ?_
    rw [Around.under_plainId PyProof.Rows.F.plain_set_update_loop _]
    show wpAny _ A.in1 (pyNext (.ref I) >>= _) _ _ s
    refine wpAny_bind (W.done s _ _ hst fun s' hm => ?_)
    show wpAny _ A.in1 (ret Value.none) _ _ s'
    exact wpAny_pure (hR s' (hm.mono hsub) (by
      obtain ⟨o, es, ep, t, ho, rest⟩ := hS
      exact ⟨o, es, ep, t, hm.heap S _ hSw ho, rest⟩))
  | succ k ih =>
    intro i s hk hi hst hS hR
    have hlt : i < n := by omega
    refine codeAny_builtin PyProof.Rows.F.entry_set_update_loop ?_
    rw [Around.under_plainId PyProof.Rows.F.plain_set_update_loop _]
    show wpAny _ A.in1 (pyNext (.ref I) >>= _) _ _ s
    refine wpAny_bind (W.item i s _ _ hlt hst fun v s' hP hst' hm => ?_)
    obtain ⟨x, hx, rv⟩ := hval i v hP
    have hS' : s'.heap.SetOf (mixKind prog w) S (fun k' => decide (k' ∈ uniqK (xs.take i))) (uniqK (xs.take i)).length := by
      obtain ⟨o, es, ep, tb, ho, rest⟩ := hS
      exact ⟨o, es, ep, tb, hm.heap S _ hSw ho, rest⟩
    show wpAny _ A.in1 (holding [v] (setAdd S v) >>= _) _ _ s'
    refine wpAny_bind (wpAny_holding ?_)
    unfold setAdd
    refine wpAny_holding ?_
    refine wpAny_bind ((mixKind prog w).pyHash (k := x) (kV_is rv) ?_)
    have lu : (uniqK (xs.take i)).length ≤ i := Nat.le_trans (uniqK_len _ _ rfl).1 (by rw [List.length_take]; exact Nat.min_le_left _ _)
    refine wpAny_setAddHashed_of (knd := mixKind prog w) (s := { s' with toks := s'.toks + 1 }) (kV_is rv) (key_scan rv) hS' (by unfold scanBound; omega) fun h' hsb hS2 => ?_
    have hSi : h'.SetOf (mixKind prog w) S (fun k' => decide (k' ∈ uniqK (xs.take (i + 1)))) (uniqK (xs.take (i + 1))).length := by
      have e : xs.take (i + 1) = xs.take i ++ [x] := by rw [List.take_add_one, hx]; rfl
      rw [e, uniqK_snoc]
      refine setOfK_congr hS2 (fun k' => ?_) ?_
      · by_cases h : x ∈ uniqK (xs.take i)
        · rw [if_pos h]
          by_cases e2 : k' = x
          · subst e2; simp [h]
          · simp [e2]
        · rw [if_neg h]
          simp [List.mem_append]
      · by_cases h : x ∈ uniqK (xs.take i)
        · rw [if_pos h, decide_eq_true h]; rfl
        · rw [if_neg h, decide_eq_false h, List.length_append]; rfl
    refine wpAny_pure ⟨plainId_quiet PyProof.Rows.F.plain_set_update_loop _, ih (i + 1) _ (by omega) hlt (W.frame _ s' _ _ hst' (Nat.le_succ _) fun b hb o e => ?_) hSi fun s'' hm'' hS'' => ?_⟩
    · rw [hsb.2 b (fun h : b = S => hSf (by rw [← h]; exact hb))]; exact e
    · refine hR s'' (Moved.trans W.gtrans ((hm.mono hsub).then_heap (Nat.le_succ _) fun b o hb e => ?_) hm'') hS''
      rw [hsb.2 b (fun h : b = S => hb (by rw [h]; exact List.mem_cons_self))]; exact e
end
section
variable {prog : Program} {w : World} {A : Around} {E : Value → Shared → Prop} {s : Shared}
theorem call_set_tupleM {l : Addr} {items : Array Value} {xs : List Key} {Q : Value → Shared → Prop}
    (hh : A.handled = none) (hl : s.heap.IsTuple l items) (hi : Vals (xs.map kV) items.toList) (hn1 : xs.length ≤ 50)
    (h : ∀ (h' : Heap) (tk : Nat), h'.SetOf (mixKind prog w) s.heap.objs.size (fun k' => decide (k' ∈ uniqK (xs.take items.size))) (uniqK (xs.take items.size)).length →
      (∀ b o, b < s.heap.objs.size → s.heap.get? b = some o → h'.get? b = some o) → Q (.ref s.heap.objs.size) { s with heap := h', toks := tk }) :
    wpAny (model prog w) A (call (.type "set") [.ref l]) Q E s := by
  obtain ⟨c, tl, hmro⟩ := PySem.F.called_set.mro
  have hmade := PySem.F.called_set.made
  have hsub := PySem.F.called_set.sub
  refine wpAny_call (codeAny_of_tree ?_)
  show wpAny _ _ (callAny (.type "set") _) _ _ _
  refine wpAny_pure ⟨Code.quiet_builtin _ (by decide +kernel), codeAny_builtin PySem.F.entry_type_call ?_⟩
  rw [Around.under_plain (weight_type_call_type "set" [.ref l] []) rfl]
  have h1 := PySem.F.called_set.notType
  have h2 := PySem.F.called_set.canCreate
  have hct := PySem.F.typeCall_set_1 (.ref l)
  repeat (any_goals (first | assumption | wp_step))
  refine codeAny_mono (code_set_new_1 (.ref l) (E := E) (Q₁ := fun obj s₁ => ∃ led : Bool, obj = .ref s.heap.objs.size ∧ s₁ = { s with heap := s.heap.push { cls := .type "set", dict := none, data := .set #[] 0 (.fresh 0 0 led) } }) fun led => ⟨led, rfl, rfl⟩) fun r s₁ hr => ?_
  cases r with
  | error e => exact hr
  | ok fl =>
    cases fl with
    | ret obj =>
      obtain ⟨led, rfl, rfl⟩ := hr
      have hS : (s.heap.push { cls := .type "set", dict := none, data := .set #[] 0 (.fresh 0 0 led) }).get? s.heap.objs.size = some { cls := .type "set", dict := none, data := .set #[] 0 (.fresh 0 0 led) } := Heap.get?_push_size _ rfl
      have hT : Shared.TypeIs { s with heap := s.heap.push { cls := .type "set", dict := none, data := .set #[] 0 (.fresh 0 0 led) } } (.ref s.heap.objs.size) "set" := ⟨_, hS, rfl⟩
      have hli := PySem.F.called_set.init.lookup
      have hbi := PySem.F.called_set.init.bind (.ref s.heap.objs.size)
      repeat (any_goals (first | assumption | wp_step))
      refine codeAny_mono (codeAny_call_builtin (R := wants (fun r s₂ => r = .none ∧ ∃ h' tk, s₂ = { s with heap := h', toks := tk } ∧
          h'.SetOf (mixKind prog w) s.heap.objs.size (fun k' => decide (k' ∈ uniqK (xs.take items.size))) (uniqK (xs.take items.size)).length ∧
          (∀ b o, b < s.heap.objs.size → s.heap.get? b = some o → h'.get? b = some o)) E) PySem.F.called_set.init.plain PySem.F.entry_set_init (check_set_init_1 hT ?_)) fun r₂ s₂ hr₂ => ?_
      · obtain ⟨ol, hol, hcl, nl, hdl⟩ := hl
        obtain ⟨ocls, odict, odata, oslots⟩ := ol
        simp only at hcl hdl
        subst hcl; subst hdl
        have hol' : (s.heap.push { cls := .type "set", dict := none, data := .set #[] 0 (.fresh 0 0 led) }).get? l = some { cls := .type "tuple", dict := odict, data := .seq items nl, slots := oslots } := Heap.get?_push_of_some _ hol
        have hsls := PySem.F.sub_tuple_set
        have hslf := PySem.F.sub_tuple_frozenset
        have hne : (Value.type "tuple" == Value.type "dict") = false := by decide
        have hl1 : (s.heap.push { cls := .type "set", dict := none, data := .set #[] 0 (.fresh 0 0 led) }).IsTuple l items := ⟨_, hol', rfl, nl, rfl⟩
        unfold Builtin.«set.__init__» noKeywords Builtin.Frozenset.updateFrom
        generalize hPI : pyIter = PI
        wp_walk
        subst hPI
        refine wpAny_pyIter_tuple hl1 ?_
        refine wpAny_bind (wpAny_runValue ?_)
        have hlS : l < s.heap.objs.size := Heap.lt_size hol
        have hh3 : A.in1.in1.in1.handled = none := by simp [hh]
        have hneI : l ≠ (s.heap.push { cls := .type "set", dict := none, data := .set #[] 0 (.fresh 0 0 led) }).objs.size := by
          rw [Heap.size_push]; exact Nat.ne_of_lt (Nat.lt_succ_of_lt hlS)
        have hSf : s.heap.objs.size ∉ [(s.heap.push { cls := .type "set", dict := none, data := .set #[] 0 (.fresh 0 0 led) }).objs.size, l] := by
          rw [Heap.size_push]; simp only [List.mem_cons, List.mem_singleton, List.not_mem_nil, or_false, not_or]
          exact ⟨Nat.ne_of_lt (Nat.lt_succ_self _), Nat.ne_of_gt hlS⟩
        have hsz : xs.length = items.size := by rw [← Array.length_toList, ← hi.length, List.length_map]
        have hval : ∀ (i : Nat) (v : Value), items[i]? = some v → ∃ k, xs[i]? = some k ∧ RelV (kV k) v := fun i v hv => by
          have hlt : i < items.size := (Array.getElem?_eq_some_iff.mp hv).1
          have hlx : i < xs.length := by omega
          refine ⟨xs[i], List.getElem?_eq_getElem hlx, ?_⟩
          obtain ⟨w', hw, rw'⟩ := hi.get (i := i) (x := kV xs[i]) (by rw [List.getElem?_map, List.getElem?_eq_getElem hlx]; rfl)
          rw [Array.getElem?_toList] at hw
          rw [hv] at hw
          cases hw
          exact rw'
        refine loopMix ((Walks.tuple hh3 _ l hneI items).toS) s.heap.objs.size
          hSf xs hsz (by rw [← hsz]; exact hn1) hval (items.size - 0) 0 _ (by omega) (Nat.zero_le _)
          ⟨⟨_, Heap.get?_push_size _ rfl, rfl, rfl⟩, (hl1.push _)⟩ ?hS0 ?hR
        case hS0 =>
          have hget : ((s.heap.push { cls := .type "set", dict := none, data := .set #[] 0 (.fresh 0 0 led) }).push { cls := .type "tuple_iterator", data := .fields #[.ref l, .int 0 0] }).get? s.heap.objs.size
              = some { cls := .type "set", dict := none, data := .set #[] 0 (.fresh 0 0 led) } := Heap.get?_push_of_some _ hS
          exact ⟨_, #[], 0, _, hget, ⟨rfl, rfl, rfl⟩, rfl, (fun e he => by simp at he), (fun k => by simp [uniqK]), (by decide), (by rfl), rfl⟩
        case hR =>
          intro s' hm hS'
          obtain ⟨h', g', d', tk', os'⟩ := s'
          have eg : g' = s.gens := hm.gens
          have ed : d' = s.drawn := hm.drawn
          have eo : os' = s.os := hm.os
          subst eg; subst ed; subst eo
          show wpAny _ _ _ _ _ _
          refine wpAny_pure ?_
          show wpAny _ _ (ret Value.none) _ _ _
          refine wpAny_pure ⟨rfl, h', tk', rfl, hS', fun b o hb e => ?_⟩
          have hb1 : b ≠ s.heap.objs.size := Nat.ne_of_lt hb
          have hb2 : b ≠ (s.heap.push { cls := .type "set", dict := none, data := .set #[] 0 (.fresh 0 0 led) }).objs.size := by
            rw [Heap.size_push]; exact Nat.ne_of_lt (Nat.lt_succ_of_lt hb)
          exact hm.heap b o (by simp only [List.mem_cons, List.mem_singleton, List.not_mem_nil, or_false, not_or]; exact ⟨hb1, hb2⟩) (Heap.get?_push_of_some _ (Heap.get?_push_of_some _ e))
      · cases r₂ with
        | error e => exact hr₂
        | ok fl₂ =>
          cases fl₂ with
          | ret r =>
            obtain ⟨rfl, h', tk, rfl, hS', hk'⟩ := hr₂
            repeat (any_goals (first | assumption | wp_step))
            exact h _ _ hS' hk'
          | _ => exact hr₂.elim
    | _ => exact hr.elim
end
section
variable {X : Cx}
def tLenSetM (ta : TE) : TE := fun σ H Q => ta σ H fun x H1 => ∃ (l : Addr) (xs : List Key), x = .ref l ∧ H1 l = some (.tup (xs.map kV)) ∧ xs.length ≤ 50 ∧ Q (.int (uniqK xs).length) H1
theorem pe_lenSetM {a : Expr} {ta : TE} {p p2 q pos : Pos} (hc : X.calm = true) (hg : Gl X "len") (hm : X.mg "len" = none) (hg2 : Gl X "set") (hm2 : X.mg "set" = none) (ha : PE X a ta)
    (na : starEach [a] X.env = (false, eval a X.env) :: starEach [] X.env := by rfl) : PE X (.Call (.Name "len" p) [.Call (.Name "set" p2) [a] [] q] [] pos) (tLenSetM ta) := by
  refine ⟨fun pins s σ H Q I h => ?_⟩
  refine Call_ (ld_blt I hg hm boot_len ?_)
  refine PyProof.Rows.callWith_builtin1 (PyProof.Rows.args_cons ?_ rfl) rfl rfl
  refine Call_ (ld_blt I hg2 hm2 boot_set ?_)
  refine PyProof.Rows.callWith_type1 (PyProof.Rows.args_cons (thn (ha.run pins s σ H _ I h) fun v s1 ⟨x, H1, I1, r1, q1⟩ => PyProof.Rows.args_nil ?_) na) na rfl
  obtain ⟨l, xs, rfl, hq, h1, q1⟩ := q1
  cases r1
  obtain ⟨its, r, pl, hz⟩ := I1.tuple (SqT.of hq)
  refine call_set_tupleM (I1.ok.hd hc) pl (by simpa using r) h1 fun h' tk hS hk => ?_
  refine PyProof.Rows.args_nil ?_
  have hl : its.toArray.size = xs.length := by rw [List.size_toArray, ← r.length, List.length_map]
  rw [hl, List.take_length] at hS
  obtain ⟨o, es, ep, t, ho, hex, hd, _, _, _, hf, hn⟩ := hS
  have I2 : L2.Inv X pins σ H1 { s1 with heap := h', toks := tk } := I1.kept fun b o e => hk b o (Heap.lt_size e) e
  have lu := (uniqK_len _ xs rfl).1
  refine call_len_set ho hex hd hf (by rw [hn] <;> omega) ⟨.int (uniqK xs).length, H1, I2.tok _, ⟨_, by rw [hn]⟩, q1⟩
/-- t.index(n), the first place -/
def rIdxI (K : PySem.W.Frag) : V → List V → Hp → VK → Prop := fun x xs H Q => ∃ (p : Addr) (ys : List Int) (z : Int) (j : Nat), x = .ref p ∧ xs = [.int z] ∧ SqT K H p (ys.map V.int) ∧ ys[j]? = some z ∧ (∀ m, m < j → ys[m]? ≠ some z) ∧ Q (.int (j : Nat)) H
theorem flat_ints (ys : List Int) : (ys.map V.int).all flatV = true := by
  rw [List.all_map]
  exact List.all_eq_true.mpr fun _ _ => rfl
theorem mt_tup_indexI : MtR X "tuple.index" (rIdxI X.K) := by
  intro pins s σ H x xs v us Q I rx rs h
  obtain ⟨p, ys, z, j, rfl, rfl, hq, hy, hno, q⟩ := h
  cases rx
  obtain ⟨u, rfl, t, rfl⟩ := vals1 rs
  obtain ⟨its, r, pl, hz⟩ := I.tuple hq
  obtain ⟨⟨cls, dd, dt, sl⟩, ho, hc, n, hd⟩ := pl
  simp only at hc hd
  subst hc
  subst hd
  have hl : its.toArray.size = ys.length := by rw [List.size_toArray, ← r.length, List.length_map]
  have hj : j < its.toArray.size := by rw [hl]; exact (List.getElem?_eq_some_iff.mp hy).1
  have at' : ∀ (m : Nat) (hm : m < its.toArray.size), ∃ y t', ys[m]? = some y ∧ its.toArray[m] = Value.int y t' := fun m hm => by
    have hm' : m < ys.length := by rw [← hl]; exact hm
    obtain ⟨w, hw, t', hw'⟩ := r.get (i := m) (x := .int ys[m]) (by simp [hm'])
    refine ⟨ys[m], t', List.getElem?_eq_getElem hm', ?_⟩
    have e := (List.getElem?_eq_some_iff.mp hw).2
    rw [← hw', ← e]
    simp
  refine call_meets PySem.F.slot_tuple_index ⟨_, ho, rfl⟩ PySem.F.entry_tuple_index (PySem.F.args_tuple_index_2 _ _) (TI.tuple_indexAt p its.toArray n dd sl (.int z t) (eqU (.int z)) j hj ?_ ?_)
    ⟨ho, fun w hw => mem_eqAt (x := .int z) ⟨t, rfl⟩ rfl r (flat_ints ys) w (by simpa using hw), ⟨.int (j : Nat), H, I.tok _, ⟨_, rfl⟩, q⟩⟩
  · obtain ⟨y, t', h1, h2⟩ := at' j hj
    rw [hy] at h1
    cases h1
    rw [h2]
    show (z == z) = true
    exact beq_self_eq_true z
  · intro m hm hmj
    obtain ⟨y, t', h1, h2⟩ := at' m hm
    rw [h2]
    show (y == z) = false
    have : y ≠ z := fun e => hno m hmj (by rw [h1, e])
    exact beq_eq_false_iff_ne.mpr this
end
end Sb

/-! t * k for tuples of data, the empty one too. -/
namespace Sb
open PySem PySem.Spec PyProof.Rows L2
theorem tuple_mul0 (l : Addr) (n : Nat) (dd : Option Addr) (sl : Array (Option Value)) (x : Int) (u : Tok) (hx : -(2 ^ 63) ≤ x ∧ x < 2 ^ 63) :
    Meets (Builtin.«tuple.__mul__» ⟨[.ref l, .int x u], []⟩) (fun _ R s => s.heap.get? l = some { cls := .type "tuple", dict := dd, data := .seq #[] n, slots := sl } ∧ R (.ok (.ret (Value.ref l))) s) :=
  .of_wp fun P w A R s h => by
    obtain ⟨hp, g, d, tk, os⟩ := s
    obtain ⟨hl, h⟩ := h
    have f1 := AutoSeq1.idx_int
    have c0 : (decide (x < -(2 ^ 63)) || decide (x ≥ 2 ^ 63)) = false := by
      rw [decide_eq_false (by omega), decide_eq_false (by omega)] <;> rfl
    wp_walk using wpAny_loadPart' hl
    refine wpAny_ite_false (decide_eq_false (by rw [c0]; exact Bool.false_ne_true)) ?_
    wp_walk using wpAny_loadPart' hl
    exact ⟨_, rfl, h⟩
theorem TDs.flat {H : Hp} {xs : List V} {ds : List PyData} (h : TDs H xs ds) : ∀ k, TDs H (List.replicate k xs).flatten (List.replicate k ds).flatten
  | 0 => .nil
  | k + 1 => h.app (h.flat k)
def rMulD : R2 := fun x y H Q => ∃ ds k, TD H x (.tuple ds) ∧ y = .int k ∧ 2 ≤ k ∧ k ≤ 1000 ∧ ds.length ≤ 1000 ∧ ∀ p H', Same H H' → TD H' (.ref p) (.tuple (List.replicate k.toNat ds).flatten) → Q (.ref p) H'
section
variable {X : Cx}
theorem op_mulD : OpR X (binaryOp .Mult) rMulD := by
  intro pins s σ H x y v u Q I rx ry h
  obtain ⟨ds, k, hT, rfl, h1, h2, hz, q⟩ := h
  obtain ⟨l, xs, rfl, hl, hx⟩ := hT.isTup
  have lx := hx.length
  by_cases hne : xs = []
  · subst hne
    cases hx
    cases rx
    obtain ⟨t, rfl⟩ := ry
    obtain ⟨its, r, ⟨⟨cls, dd, data, sl⟩, ho, hc, n, hd⟩, hs⟩ := I.tuple (SqT.of hl)
    cases r
    simp only at hc hd
    subst hc hd
    refine wpAny_binaryOp_repeat_ref (T := "tuple") (U := "int") (by decide) ⟨_, ho, rfl⟩ (fun s' => typeIs_int s' k t) noFill_tuple_mul PySem.F.fills_int_mul PySem.F.slot_int_rmul repeat_tuple PySem.F.slot_int_index.lookup
      (call_meets PySem.F.slot_int_rmul (typeIs_int s k t) PySem.F.entry_int_rmul (PySem.F.args_int_rmul_2 _ _) (int_rmul_tuple k t l #[] n dd sl)
        ⟨ho, rfl, ⟨_, ho, rfl⟩, call_meets PySem.F.slot_tuple_mul ⟨_, ho, rfl⟩ PySem.F.entry_tuple_mul (PySem.F.args_tuple_mul_2 _ _) (tuple_mul0 l n dd sl k t (by omega)) ⟨ho, ?_⟩⟩)
    refine ⟨.ref l, H, I, rfl, q l H (Same.refl H) ?_⟩
    have e : (List.replicate k.toNat ([] : List PyData)).flatten = [] := by simp
    rw [e]
    exact hT
  · exact op_repT pins s σ H _ _ v u Q I rx ry ⟨l, k, xs, rfl, rfl, SqT.of hl, hne, h1, h2, by omega, fun p np => q p _ (same_new np) (.tup upd_same (TDs.mono (Tups.new np) _ (hx.flat k.toNat)))⟩
end
end Sb

/-! t * 0 and t * 1, t a tuple that is not empty. -/
namespace Sb
open PySem PySem.Spec PyProof.Rows L2
theorem tuple_mul1 (l : Addr) (items : Array Value) (n : Nat) (sl : Array (Option Value)) (dd : Option Addr) (x : Int) (u : Tok) (hx : x = 1) :
    Meets (Builtin.«tuple.__mul__» ⟨[.ref l, .int x u], []⟩) (fun _ R s => s.heap.get? l = some { cls := .type "tuple", dict := dd, data := .seq items n, slots := sl } ∧ R (.ok (.ret (Value.ref l))) s) :=
  .of_wp fun P w A R s h => by
    obtain ⟨hp, g, d, tk, os⟩ := s
    obtain ⟨hl, h⟩ := h
    have f1 := AutoSeq1.idx_int
    have c1 : (items.isEmpty || x == 1) = true := by rw [show (x == 1) = true by rw [hx]; rfl, Bool.or_true]
    have c0 : (decide (x < -(2 ^ 63)) || decide (x ≥ 2 ^ 63)) = false := by subst hx; decide
    wp_walk using wpAny_loadPart' hl
    exact ⟨_, rfl, h⟩
theorem tuple_mulZ (l : Addr) (items : Array Value) (n : Nat) (sl : Array (Option Value)) (dd : Option Addr) (x : Int) (u : Tok) (hx : x = 0) (he : items.isEmpty = false) :
    Meets (Builtin.«tuple.__mul__» ⟨[.ref l, .int x u], []⟩) (fun _ R s => s.heap.get? l = some { cls := .type "tuple", dict := dd, data := .seq items n, slots := sl } ∧ R (.ok (.ret (Value.ref s.heap.objs.size))) { s with heap := s.heap.push { cls := Value.type "tuple", data := Data.seq #[] }, toks := s.toks }) :=
  .of_wp fun P w A R s h => by
    obtain ⟨hp, g, d, tk, os⟩ := s
    obtain ⟨hl, h⟩ := h
    have f1 := AutoSeq1.idx_int
    have c1 : (items.isEmpty || x == 1) = false := by rw [he, hx]; rfl
    have c2 : (decide (x ≤ 0) || items.isEmpty) = true := by rw [hx]; rfl
    have c0 : (decide (x < -(2 ^ 63)) || decide (x ≥ 2 ^ 63)) = false := by subst hx; decide
    wp_walk using wpAny_loadPart' hl
    exact ⟨_, rfl, h⟩
def rMul01 (K : PySem.W.Frag) : R2 := fun x y H Q => ∃ l xs k, x = .ref l ∧ y = .int k ∧ SqT K H l xs ∧ xs ≠ [] ∧ (k = 0 ∨ k = 1) ∧ (k = 1 → Q (.ref l) H) ∧ (k = 0 → ∀ p, H p = none → Q (.ref p) (upd H p (.tup [])))
section
variable {X : Cx}
theorem op_mul01 : OpR X (binaryOp .Mult) (rMul01 X.K) := by
  intro pins s σ H x y v u Q I rx ry h
  obtain ⟨l, xs, k, rfl, rfl, hT, hne, hk, q1, q0⟩ := h
  cases rx
  obtain ⟨t, rfl⟩ := ry
  obtain ⟨its, r, ⟨⟨cls, dd, data, sl⟩, ho, hc, n, hd⟩, hs⟩ := I.tuple hT
  simp only at hc hd
  subst hc hd
  have hi : its.toArray.isEmpty = false := by
    cases its with
    | nil => exact absurd (List.eq_nil_of_length_eq_zero r.length) hne
    | cons a b => rfl
  rcases hk with rfl | rfl
  · refine wpAny_binaryOp_repeat_ref (T := "tuple") (U := "int") (by decide) ⟨_, ho, rfl⟩ (fun s' => typeIs_int s' 0 t) noFill_tuple_mul PySem.F.fills_int_mul PySem.F.slot_int_rmul repeat_tuple PySem.F.slot_int_index.lookup
      (call_meets PySem.F.slot_int_rmul (typeIs_int s 0 t) PySem.F.entry_int_rmul (PySem.F.args_int_rmul_2 _ _) (int_rmul_tuple 0 t l its.toArray n dd sl)
        ⟨ho, rfl, ⟨_, ho, rfl⟩, call_meets PySem.F.slot_tuple_mul ⟨_, ho, rfl⟩ PySem.F.entry_tuple_mul (PySem.F.args_tuple_mul_2 _ _) (tuple_mulZ l its.toArray n sl dd 0 t rfl hi) ⟨ho, ?_⟩⟩)
    exact ⟨.ref s.heap.objs.size, _, I.laid (t' := s.toks) (o := .tup []) (fun b o e => Heap.get?_push_of_some _ e) (Nat.le_refl _) ⟨by show 0 ≤ sizeLine; decide, [], .nil, _, Heap.get?_push_size _ rfl, rfl, _, rfl⟩, rfl, q0 rfl _ (I.hok.fresh (Nat.le_refl _))⟩
  · refine wpAny_binaryOp_repeat_ref (T := "tuple") (U := "int") (by decide) ⟨_, ho, rfl⟩ (fun s' => typeIs_int s' 1 t) noFill_tuple_mul PySem.F.fills_int_mul PySem.F.slot_int_rmul repeat_tuple PySem.F.slot_int_index.lookup
      (call_meets PySem.F.slot_int_rmul (typeIs_int s 1 t) PySem.F.entry_int_rmul (PySem.F.args_int_rmul_2 _ _) (int_rmul_tuple 1 t l its.toArray n dd sl)
        ⟨ho, rfl, ⟨_, ho, rfl⟩, call_meets PySem.F.slot_tuple_mul ⟨_, ho, rfl⟩ PySem.F.entry_tuple_mul (PySem.F.args_tuple_mul_2 _ _) (tuple_mul1 l its.toArray n sl dd 1 t rfl) ⟨ho, ?_⟩⟩)
    exact ⟨.ref l, H, I, rfl, q1 rfl⟩
end
end Sb

/-! Tuples whose object is known to have no dict: their methods may be called. -/
namespace Sb
open PySem PySem.Spec PyProof.Rows L2
section
variable {X : Cx}
/-- (e, ..), its object known -/
def tTupF (t : TA) : TE := fun σ H Q => t σ H fun xs H1 => xs.length ≤ sizeLine ∧ ∀ p ob, H1 p = none → ob.dict = none → Q (.ref p) (upd H1 p (.frz ob (.tup xs)))
theorem pe_tupF {es : List Expr} {x1} {pos : Pos} {t : TA} (h : PA X es t) : PE X (.Tuple es x1 pos) (tTupF t) := by
  refine ⟨fun pins s σ H Q I hq => ?_⟩
  refine wpAny_Tuple_spliced (thn (h.run pos pins s σ H _ I hq) fun us s1 ⟨xs, H1, I1, r, z, q⟩ => ⟨by rw [← r.length]; exact z, ?_⟩)
  have hf : H1 s1.heap.objs.size = none := I1.hok.fresh (Nat.le_refl _)
  refine ⟨.ref s1.heap.objs.size, upd H1 s1.heap.objs.size (.frz { cls := .type "tuple", data := .seq us.toArray } (.tup xs)), I1.laid (t' := s1.toks) (fun b u e => Heap.get?_push_of_some _ e) (Nat.le_refl _) ?_, rfl, q _ _ hf rfl⟩
  exact ⟨Heap.get?_push_size _ rfl, z, us, r, ⟨_, Heap.get?_push_size _ rfl, rfl, _, rfl⟩⟩
/-- tuple(xs) -/
def rTupF (K : PySem.W.Frag) : List V → Hp → VK → Prop := fun xs H Q => ∃ p ys, xs = [.ref p] ∧ SqL K H p ys ∧ ∀ l ob, H l = none → ob.dict = none → Q (.ref l) (upd H l (.frz ob (.tup ys)))
theorem call_tupleF : CallR X (.type "tuple") (rTupF X.K) := by
  intro pins s σ H xs us Q I r h
  obtain ⟨p, ys, rfl, hq, q⟩ := h
  obtain ⟨u, rfl, rx⟩ := vals1 r
  cases rx
  obtain ⟨its, r', pl, hz⟩ := I.list hq
  have hlen := r'.length
  refine call_tuple_list pl.isList (fun h' kp => ?_) (by simp only [List.size_toArray] <;> omega)
  have I1 : L2.Inv X pins σ H { s with heap := h' } := I.kept (t' := s.toks) kp
  have I2 : L2.Inv X pins σ (upd H h'.objs.size (.frz { cls := .type "tuple", data := .seq its.toArray } (.tup ys))) { s with heap := h'.push { cls := .type "tuple", data := .seq its.toArray } } :=
    I1.laid (t' := s.toks) (fun b o e => Heap.get?_push_of_some _ e) (Nat.le_refl _) (show ObjOk X.prog X.w _ _ _ (.frz _ (.tup ys)) from ⟨Heap.get?_push_size _ rfl, hz, its, r', IsTup.new _ _⟩)
  exact ⟨.ref h'.objs.size, _, I2, rfl, q _ _ (I1.hok.fresh (Nat.le_refl _)) rfl⟩
/-- t.m(e, ..) -/
def tBMT (r : V → List V → Hp → VK → Prop) (to : TE) (t : TA) : TE := fun σ H Q => to σ H fun x H1 => (∃ p ob xs, x = V.ref p ∧ H1 p = some (.frz ob (.tup xs)) ∧ ob.dict = none) ∧ t σ H1 fun xs H2 => r x xs H2 Q
variable {o e : Expr} {es : List Expr} {to : TE} {t : TA} {name : Str} {apos cpos : Pos} {id : String} {r : V → List V → Hp → VK → Prop}
theorem pe_bmT (pa : PlainAttrs "tuple") (slot : Slot "tuple" name id) (hty : typeOf (.builtin id) = pure (.type "method_descriptor")) (hm : MtR X id r) (ho : PE X o to) (ha : PA X (e :: es) t)
    (hbase : attributeBase o name X.env (eval o X.env) = eval o X.env := by rfl)
    (hfew : ((backTo cpos (starEach (e :: es) X.env)).all (fun x => !x.1) && (backToKw cpos (keywordEach [] X.env)).all (fun x => x.1.isSome)
      && decide ((e :: es).length + ([] : List Keyword).length + (if ([] : List Keyword).isEmpty then 0 else 1) < 30)) = true := by rfl)
    (hline : (apos.endLine == cpos.line) = true := by rfl) (hs : starEach (e :: es) X.env = (false, eval e X.env) :: starEach es X.env := by rfl) (hplain : (backTo cpos (starEach es X.env)).any (·.1) = false := by rfl) :
    PE X (.Call (.Attribute o name apos) (e :: es) [] cpos) (tBMT r to t) := by
  refine ⟨fun pins s σ H Q I h => ?_⟩
  refine wpAny_Call_method_late hbase hfew hline rfl (thn (ho.run pins s σ H _ I h) fun v s1 ⟨x, H1, I1, r1, ⟨p, ob, xs, ex, hp, hd⟩, q1⟩ => ?_)
  subst ex
  obtain rfl : v = Value.ref p := r1
  obtain ⟨g, z, its, rv, o', ho', hc, n, hdat⟩ := (show ObjOk X.prog X.w H1 s1.heap p (.frz ob (.tup xs)) from I1.hok p _ hp)
  have eo : o' = ob := by
    rw [g] at ho'
    exact (Option.some.inj ho').symm
  subst eo
  refine ⟨"tuple", id, pa, slot, hty, ⟨o', g, hc⟩, fun a e2 => ?_, ?_⟩
  · cases e2
    exact ⟨o', g, hd⟩
  have hA := ha.run cpos pins s1 σ H1 _ I1 q1
  rw [hs] at hA ⊢
  refine Calls.callWith_builtin (by show (false || (backTo cpos (starEach es X.env)).any (·.1)) = false; rw [hplain] <;> rfl) (Calls.evalArgs_plain ?_)
  exact thn hA fun us s2 ⟨vs, H2, I2, r2, q2⟩ => hm pins s2 σ H2 (.ref p) vs (.ref p) us Q I2 rfl r2 q2
end
/-- held values, in order, at a -/
def HT (H : Hp) (a : Addr) (ns : List Int) : Prop := ∃ ob, H a = some (.frz ob (.tup (ns.map V.int))) ∧ ob.dict = none
theorem HT.sq {K : PySem.W.Frag} {H : Hp} {a : Addr} {ns : List Int} (h : HT H a ns) : SqT K H a (ns.map V.int) := by
  obtain ⟨ob, e, _⟩ := h
  exact .inl (.inr ⟨ob, e⟩)
theorem HT.mono {H H' : Hp} {a : Addr} {ns : List Int} (h : HT H a ns) (s : Same H H') : HT H' a ns := by
  obtain ⟨ob, e, d⟩ := h
  exact ⟨ob, s _ _ e, d⟩
theorem HT.ty {H : Hp} {a : Addr} {ns : List Int} (h : HT H a ns) : ∃ p ob xs, V.ref a = V.ref p ∧ H p = some (.frz ob (.tup xs)) ∧ ob.dict = none := by
  obtain ⟨ob, e, d⟩ := h
  exact ⟨a, ob, _, rfl, e, d⟩
theorem inV_ints (v : Int) : ∀ ns : List Int, inV (.int v) (ns.map V.int) = decide (v ∈ ns)
  | [] => rfl
  | n :: r => by
    have ih := inV_ints v r
    unfold inV at ih ⊢
    rw [List.map_cons, List.any_cons, ih]
    by_cases h : n = v
    · subst h
      simp [eqV]
    · have h' : ¬ v = n := fun e => h e.symm
      simp [eqV, h, h', List.mem_cons]
end Sb

/-! Numbered streams: the mathematics. -/
namespace Sb
open PySem PySem.Spec PyProof.Rows L2
def grow (names : List Int) (v : Int) : List Int := if v ∈ names then names else names ++ [v]
def numGo : List Int → List (Int × Int) → List (Int × Int)
  | _, [] => []
  | names, m :: r => (m.1, ((grow names m.2).idxOf m.2 : Nat)) :: numGo (grow names m.2) r
def numb (ms : List (Int × Int)) : List (Int × Int) := numGo [] ms
def seen (names : List Int) (ms : List (Int × Int)) : List Int := ms.foldl (fun n m => grow n m.2) names
theorem numGo_len : ∀ (ms : List (Int × Int)) (names : List Int), (numGo names ms).length = ms.length
  | [], _ => rfl
  | m :: r, names => by simp only [numGo, List.length_cons, numGo_len r]
theorem numb_len (ms : List (Int × Int)) : (numb ms).length = ms.length := numGo_len ms []
theorem numGo_snoc : ∀ (ms : List (Int × Int)) (names : List Int) (m : Int × Int), numGo names (ms ++ [m]) = numGo names ms ++ [(m.1, (((grow (seen names ms) m.2).idxOf m.2 : Nat) : Int))]
  | [], _, _ => rfl
  | x :: r, names, m => by
    simp only [List.cons_append, numGo, numGo_snoc r (grow names x.2) m]
    rfl
theorem numGo_take : ∀ (ms : List (Int × Int)) (names : List Int) (n : Nat), numGo names (ms.take n) = (numGo names ms).take n
  | [], _, n => by simp [numGo]
  | x :: r, names, 0 => by simp [numGo]
  | x :: r, names, n + 1 => by simp only [List.take_succ_cons, numGo, numGo_take r]
theorem numb_take (ms : List (Int × Int)) (n : Nat) : numb (ms.take n) = (numb ms).take n := numGo_take ms [] n
theorem seen_snoc (ms : List (Int × Int)) (names : List Int) (m : Int × Int) : seen names (ms ++ [m]) = grow (seen names ms) m.2 := by
  unfold seen
  rw [List.foldl_append]
  rfl
theorem grow_len (names : List Int) (v : Int) : (grow names v).length ≤ names.length + 1 := by
  unfold grow
  split
  · omega
  · simp
theorem seen_len : ∀ (ms : List (Int × Int)) (names : List Int), (seen names ms).length ≤ names.length + ms.length
  | [], names => Nat.le_refl _
  | m :: r, names => by
    have h := seen_len r (grow names m.2)
    have g := grow_len names m.2
    show (seen (grow names m.2) r).length ≤ _
    rw [List.length_cons]
    omega
theorem mem_grow (names : List Int) (v : Int) : v ∈ grow names v := by
  unfold grow
  split
  · assumption
  · simp
theorem idx_append {names : List Int} {v : Int} (h : v ∈ names) (t : List Int) : (names ++ t).idxOf v = names.idxOf v := by
  induction names with
  | nil => cases h
  | cons x r ih =>
    simp only [List.cons_append, List.idxOf_cons]
    by_cases e : x == v
    · simp [e]
    · rcases List.mem_cons.mp h with rfl | h
      · simp at e
      · simp [e, ih h]
theorem idx_new {names : List Int} {v : Int} (h : v ∉ names) : (names ++ [v]).idxOf v = names.length := by
  induction names with
  | nil => simp
  | cons x r ih =>
    have hx : ¬ x = v := fun e => h (by rw [e]; exact List.mem_cons_self)
    have hr : v ∉ r := fun e => h (List.mem_cons_of_mem _ e)
    simp only [List.cons_append, List.idxOf_cons, List.length_cons]
    rw [ih hr]
    have e1 : (x == v) = false := by simpa using hx
    rw [e1]
    rfl
theorem idx_lt {names : List Int} {v : Int} (h : v ∈ names) : names.idxOf v < names.length := List.idxOf_lt_length_iff.mpr h
/-! renaming -/
theorem idx_map {f : Int → Int} (hf : ∀ x y, f x = f y → x = y) (v : Int) : ∀ names : List Int, (names.map f).idxOf (f v) = names.idxOf v
  | [] => by simp
  | x :: r => by
    simp only [List.map_cons, List.idxOf_cons, idx_map hf v r]
    by_cases e : x = v
    · subst e; simp
    · have : ¬ f x = f v := fun z => e (hf _ _ z)
      have e1 : (x == v) = false := by simpa using e
      have e2 : (f x == f v) = false := by simpa using this
      rw [e1, e2]
theorem mem_map_inj {f : Int → Int} (hf : ∀ x y, f x = f y → x = y) {v : Int} {names : List Int} : f v ∈ names.map f ↔ v ∈ names := by
  constructor
  · intro h
    obtain ⟨u, hu, e⟩ := List.mem_map.mp h
    rw [← hf _ _ e]
    exact hu
  · intro h
    exact List.mem_map.mpr ⟨v, h, rfl⟩
theorem grow_map {f : Int → Int} (hf : ∀ x y, f x = f y → x = y) (names : List Int) (v : Int) : grow (names.map f) (f v) = (grow names v).map f := by
  unfold grow
  by_cases h : v ∈ names
  · rw [if_pos h, if_pos ((mem_map_inj hf).mpr h)]
  · rw [if_neg h, if_neg (fun z => h ((mem_map_inj hf).mp z)), List.map_append]
    rfl
theorem numGo_map {f : Int → Int} (hf : ∀ x y, f x = f y → x = y) : ∀ (ms : List (Int × Int)) (names : List Int), numGo (names.map f) (ms.map fun m => (m.1, f m.2)) = numGo names ms
  | [], _ => rfl
  | m :: r, names => by
    simp only [List.map_cons, numGo, grow_map hf, idx_map hf, numGo_map hf r]
theorem numb_map {f : Int → Int} (hf : ∀ x y, f x = f y → x = y) (ms : List (Int × Int)) : numb (ms.map fun m => (m.1, f m.2)) = numb ms := numGo_map hf ms []
/-! numbered twice -/
def iot (k : Nat) : List Int := (List.range k).map (fun i : Nat => (i : Int))
theorem iot_succ (k : Nat) : iot (k + 1) = iot k ++ [(k : Int)] := by
  unfold iot
  rw [List.range_succ, List.map_append]
  rfl
theorem mem_iot {j k : Nat} : (j : Int) ∈ iot k ↔ j < k := by
  unfold iot
  rw [List.mem_map]
  constructor
  · rintro ⟨a, ha, e⟩
    have := List.mem_range.mp ha
    omega
  · intro h
    exact ⟨j, List.mem_range.mpr h, rfl⟩
theorem idx_iot : ∀ {k j : Nat}, j < k → (iot k).idxOf (j : Int) = j
  | 0, _, h => absurd h (Nat.not_lt_zero _)
  | k + 1, j, h => by
    rw [iot_succ]
    by_cases e : j < k
    · rw [idx_append (mem_iot.mpr e), idx_iot e]
    · have : j = k := by omega
      subst this
      rw [idx_new (fun z => Nat.lt_irrefl _ (mem_iot.mp z))]
      simp [iot]
theorem iot_len (k : Nat) : (iot k).length = k := by simp [iot]
theorem numGo_idem : ∀ (ms : List (Int × Int)) (names : List Int), numGo (iot names.length) (numGo names ms) = numGo names ms
  | [], _ => rfl
  | m :: r, names => by
    by_cases h : m.2 ∈ names
    · have e : grow names m.2 = names := if_pos h
      have hl := idx_lt h
      have g : grow (iot names.length) (names.idxOf m.2 : Nat) = iot names.length := if_pos (mem_iot.mpr hl)
      simp only [numGo, e, g, idx_iot hl, numGo_idem r names]
    · have e : grow names m.2 = names ++ [m.2] := if_neg h
      have g : grow (iot names.length) ((names.length : Nat) : Int) = iot (names.length + 1) := by
        rw [iot_succ]
        exact if_neg (fun z => Nat.lt_irrefl _ (mem_iot.mp z))
      have ih := numGo_idem r (names ++ [m.2])
      rw [List.length_append] at ih
      simp only [numGo, e, idx_new h, g, idx_iot (Nat.lt_succ_self _)]
      exact congrArg _ ih
theorem numb_idem (ms : List (Int × Int)) : numb (numb ms) = numb ms := by
  have h := numGo_idem ms []
  exact h
theorem numGo_mem : ∀ (ms : List (Int × Int)) (names : List Int) (m : Int × Int), m ∈ numGo names ms → 0 ≤ m.2 ∧ m.2 < names.length + ms.length ∧ ∃ x ∈ ms, x.1 = m.1
  | [], _, _, h => by cases h
  | x :: r, names, m, h => by
    rcases List.mem_cons.mp h with rfl | h
    · refine ⟨by omega, ?_, x, List.mem_cons_self, rfl⟩
      have := idx_lt (mem_grow names x.2)
      have := grow_len names x.2
      rw [List.length_cons]
      show ((List.idxOf x.2 (grow names x.2) : Nat) : Int) < _
      omega
    · obtain ⟨a, b, y, hy, e⟩ := numGo_mem r (grow names x.2) m h
      have := grow_len names x.2
      refine ⟨a, ?_, y, List.mem_cons_of_mem _ hy, e⟩
      rw [List.length_cons]
      omega
theorem numb_short {ms : List (Int × Int)} (h : Short ms) (hl : ms.length ≤ 100000) : Short (numb ms) := by
  intro m hm
  obtain ⟨a, b, x, hx, e⟩ := numGo_mem ms [] m hm
  refine ⟨?_, ?_⟩
  · rw [← e]
    exact (h x hx).1
  · have : m.2 < 100000 + 1 := by simp at b; omega
    omega
/-! the dict of numbers -/
def DN (kvs : List (Key × V)) (names : List Int) : Prop := kvs.length = names.length ∧ ∀ v : Int, valV kvs (Sum.inl v : Key) = if v ∈ names then some (.int (names.idxOf v : Nat)) else none
theorem DN.nil : DN [] [] := ⟨rfl, fun v => by rw [if_neg (by simp)]; rfl⟩
theorem DN.in {kvs : List (Key × V)} {names : List Int} (h : DN kvs names) {v : Int} (hv : v ∈ names) : valV kvs (Sum.inl v : Key) = some (.int (names.idxOf v : Nat)) := by rw [h.2, if_pos hv]
theorem DN.out {kvs : List (Key × V)} {names : List Int} (h : DN kvs names) {v : Int} (hv : v ∉ names) : valV kvs (Sum.inl v : Key) = none := by rw [h.2, if_neg hv]
theorem DN.put {kvs : List (Key × V)} {names : List Int} (h : DN kvs names) {v : Int} (hv : v ∉ names) : DN (putK kvs (Sum.inl v : Key) (.int (kvs.length : Nat))) (names ++ [v]) := by
  refine ⟨?_, fun u => ?_⟩
  · rw [putK_new _ (h.out hv), List.length_append, List.length_append, h.1]
    rfl
  · rw [valV_put]
    by_cases e : u = v
    · subst e
      rw [if_pos rfl, if_pos (by simp), idx_new hv, h.1]
    · rw [if_neg (fun z => e (Sum.inl.inj z)), h.2]
      by_cases hu : u ∈ names
      · rw [if_pos hu, if_pos (List.mem_append_left _ hu), idx_append hu]
      · rw [if_neg hu, if_neg]
        intro z
        rcases List.mem_append.mp z with z | z
        · exact hu z
        · simp at z
          exact e z
end Sb

/-! len(set(xs)), xs a list of ints and texts. -/
namespace Sb
open PySem PySem.Spec PyProof.Rows L2
section
variable {prog : Program} {w : World} {A : Around} {E : Value → Shared → Prop} {s : Shared}
theorem call_set_listM {l : Addr} {items : Array Value} {xs : List Key} {Q : Value → Shared → Prop}
    (hh : A.handled = none) (hl : s.heap.IsList l items) (hi : Vals (xs.map kV) items.toList) (hn1 : xs.length ≤ 50)
    (h : ∀ (h' : Heap) (tk : Nat), h'.SetOf (mixKind prog w) s.heap.objs.size (fun k' => decide (k' ∈ uniqK (xs.take items.size))) (uniqK (xs.take items.size)).length →
      (∀ b o, b < s.heap.objs.size → s.heap.get? b = some o → h'.get? b = some o) → Q (.ref s.heap.objs.size) { s with heap := h', toks := tk }) :
    wpAny (model prog w) A (call (.type "set") [.ref l]) Q E s := by
  obtain ⟨c, tl, hmro⟩ := PySem.F.called_set.mro
  have hmade := PySem.F.called_set.made
  have hsub := PySem.F.called_set.sub
  refine wpAny_call (codeAny_of_tree ?_)
  show wpAny _ _ (callAny (.type "set") _) _ _ _
  refine wpAny_pure ⟨Code.quiet_builtin _ (by decide +kernel), codeAny_builtin PySem.F.entry_type_call ?_⟩
  rw [Around.under_plain (weight_type_call_type "set" [.ref l] []) rfl]
  have h1 := PySem.F.called_set.notType
  have h2 := PySem.F.called_set.canCreate
  have hct := PySem.F.typeCall_set_1 (.ref l)
  repeat (any_goals (first | assumption | wp_step))
  refine codeAny_mono (code_set_new_1 (.ref l) (E := E) (Q₁ := fun obj s₁ => ∃ led : Bool, obj = .ref s.heap.objs.size ∧ s₁ = { s with heap := s.heap.push { cls := .type "set", dict := none, data := .set #[] 0 (.fresh 0 0 led) } }) fun led => ⟨led, rfl, rfl⟩) fun r s₁ hr => ?_
  cases r with
  | error e => exact hr
  | ok fl =>
    cases fl with
    | ret obj =>
      obtain ⟨led, rfl, rfl⟩ := hr
      have hS : (s.heap.push { cls := .type "set", dict := none, data := .set #[] 0 (.fresh 0 0 led) }).get? s.heap.objs.size = some { cls := .type "set", dict := none, data := .set #[] 0 (.fresh 0 0 led) } := Heap.get?_push_size _ rfl
      have hT : Shared.TypeIs { s with heap := s.heap.push { cls := .type "set", dict := none, data := .set #[] 0 (.fresh 0 0 led) } } (.ref s.heap.objs.size) "set" := ⟨_, hS, rfl⟩
      have hli := PySem.F.called_set.init.lookup
      have hbi := PySem.F.called_set.init.bind (.ref s.heap.objs.size)
      repeat (any_goals (first | assumption | wp_step))
      refine codeAny_mono (codeAny_call_builtin (R := wants (fun r s₂ => r = .none ∧ ∃ h' tk, s₂ = { s with heap := h', toks := tk } ∧
          h'.SetOf (mixKind prog w) s.heap.objs.size (fun k' => decide (k' ∈ uniqK (xs.take items.size))) (uniqK (xs.take items.size)).length ∧
          (∀ b o, b < s.heap.objs.size → s.heap.get? b = some o → h'.get? b = some o)) E) PySem.F.called_set.init.plain PySem.F.entry_set_init (check_set_init_1 hT ?_)) fun r₂ s₂ hr₂ => ?_
      · obtain ⟨ol, hol, hcl, nl, hdl⟩ := hl
        obtain ⟨ocls, odict, odata, oslots⟩ := ol
        simp only at hcl hdl
        subst hcl; subst hdl
        have hol' : (s.heap.push { cls := .type "set", dict := none, data := .set #[] 0 (.fresh 0 0 led) }).get? l = some { cls := .type "list", dict := odict, data := .seq items nl, slots := oslots } := Heap.get?_push_of_some _ hol
        have hsls := PySem.F.sub_list_set
        have hslf := PySem.F.sub_list_frozenset
        have hne : (Value.type "list" == Value.type "dict") = false := by decide
        have hl1 : (s.heap.push { cls := .type "set", dict := none, data := .set #[] 0 (.fresh 0 0 led) }).IsList l items := ⟨_, hol', rfl, nl, rfl⟩
        unfold Builtin.«set.__init__» noKeywords Builtin.Frozenset.updateFrom
        generalize hPI : pyIter = PI
        wp_walk
        subst hPI
        refine wpAny_pyIter_list hl1 ?_
        refine wpAny_bind (wpAny_runValue ?_)
        have hlS : l < s.heap.objs.size := Heap.lt_size hol
        have hh3 : A.in1.in1.in1.handled = none := by simp [hh]
        have hneI : l ≠ (s.heap.push { cls := .type "set", dict := none, data := .set #[] 0 (.fresh 0 0 led) }).objs.size := by
          rw [Heap.size_push]; exact Nat.ne_of_lt (Nat.lt_succ_of_lt hlS)
        have hSf : s.heap.objs.size ∉ [(s.heap.push { cls := .type "set", dict := none, data := .set #[] 0 (.fresh 0 0 led) }).objs.size, l] := by
          rw [Heap.size_push]; simp only [List.mem_cons, List.mem_singleton, List.not_mem_nil, or_false, not_or]
          exact ⟨Nat.ne_of_lt (Nat.lt_succ_self _), Nat.ne_of_gt hlS⟩
        have hsz : xs.length = items.size := by rw [← Array.length_toList, ← hi.length, List.length_map]
        have hval : ∀ (i : Nat) (v : Value), items[i]? = some v → ∃ k, xs[i]? = some k ∧ RelV (kV k) v := fun i v hv => by
          have hlt : i < items.size := (Array.getElem?_eq_some_iff.mp hv).1
          have hlx : i < xs.length := by omega
          refine ⟨xs[i], List.getElem?_eq_getElem hlx, ?_⟩
          obtain ⟨w', hw, rw'⟩ := hi.get (i := i) (x := kV xs[i]) (by rw [List.getElem?_map, List.getElem?_eq_getElem hlx]; rfl)
          rw [Array.getElem?_toList] at hw
          rw [hv] at hw
          cases hw
          exact rw'
        refine loopMix ((Walks.list hh3 _ l hneI items).toS) s.heap.objs.size
          hSf xs hsz (by rw [← hsz]; exact hn1) hval (items.size - 0) 0 _ (by omega) (Nat.zero_le _)
          ⟨⟨_, Heap.get?_push_size _ rfl, rfl, rfl⟩, (hl1.push _)⟩ ?hS0 ?hR
        case hS0 =>
          have hget : ((s.heap.push { cls := .type "set", dict := none, data := .set #[] 0 (.fresh 0 0 led) }).push { cls := .type "list_iterator", data := .fields #[.ref l, .int 0 0] }).get? s.heap.objs.size
              = some { cls := .type "set", dict := none, data := .set #[] 0 (.fresh 0 0 led) } := Heap.get?_push_of_some _ hS
          exact ⟨_, #[], 0, _, hget, ⟨rfl, rfl, rfl⟩, rfl, (fun e he => by simp at he), (fun k => by simp [uniqK]), (by decide), (by rfl), rfl⟩
        case hR =>
          intro s' hm hS'
          obtain ⟨h', g', d', tk', os'⟩ := s'
          have eg : g' = s.gens := hm.gens
          have ed : d' = s.drawn := hm.drawn
          have eo : os' = s.os := hm.os
          subst eg; subst ed; subst eo
          show wpAny _ _ _ _ _ _
          refine wpAny_pure ?_
          show wpAny _ _ (ret Value.none) _ _ _
          refine wpAny_pure ⟨rfl, h', tk', rfl, hS', fun b o hb e => ?_⟩
          have hb1 : b ≠ s.heap.objs.size := Nat.ne_of_lt hb
          have hb2 : b ≠ (s.heap.push { cls := .type "set", dict := none, data := .set #[] 0 (.fresh 0 0 led) }).objs.size := by
            rw [Heap.size_push]; exact Nat.ne_of_lt (Nat.lt_succ_of_lt hb)
          exact hm.heap b o (by simp only [List.mem_cons, List.mem_singleton, List.not_mem_nil, or_false, not_or]; exact ⟨hb1, hb2⟩) (Heap.get?_push_of_some _ (Heap.get?_push_of_some _ e))
      · cases r₂ with
        | error e => exact hr₂
        | ok fl₂ =>
          cases fl₂ with
          | ret r =>
            obtain ⟨rfl, h', tk, rfl, hS', hk'⟩ := hr₂
            repeat (any_goals (first | assumption | wp_step))
            exact h _ _ hS' hk'
          | _ => exact hr₂.elim
    | _ => exact hr.elim
end
section
variable {X : Cx}
def tLenSetL (K : PySem.W.Frag) (ta : TE) : TE := fun σ H Q => ta σ H fun x H1 => ∃ (l : Addr) (xs : List Key), x = .ref l ∧ SqL K H1 l (xs.map kV) ∧ xs.length ≤ 50 ∧ Q (.int (uniqK xs).length) H1
theorem pe_lenSetL {a : Expr} {ta : TE} {p p2 q pos : Pos} (hc : X.calm = true) (hg : Gl X "len") (hm : X.mg "len" = none) (hg2 : Gl X "set") (hm2 : X.mg "set" = none) (ha : PE X a ta)
    (na : starEach [a] X.env = (false, eval a X.env) :: starEach [] X.env := by rfl) : PE X (.Call (.Name "len" p) [.Call (.Name "set" p2) [a] [] q] [] pos) (tLenSetL X.K ta) := by
  refine ⟨fun pins s σ H Q I h => ?_⟩
  refine Call_ (ld_blt I hg hm boot_len ?_)
  refine PyProof.Rows.callWith_builtin1 (PyProof.Rows.args_cons ?_ rfl) rfl rfl
  refine Call_ (ld_blt I hg2 hm2 boot_set ?_)
  refine PyProof.Rows.callWith_type1 (PyProof.Rows.args_cons (thn (ha.run pins s σ H _ I h) fun v s1 ⟨x, H1, I1, r1, q1⟩ => PyProof.Rows.args_nil ?_) na) na rfl
  obtain ⟨l, xs, rfl, hq, h1, q1⟩ := q1
  cases r1
  obtain ⟨its, r, pl, hz⟩ := I1.list hq
  refine call_set_listM (I1.ok.hd hc) pl.isList (by simpa using r) h1 fun h' tk hS hk => ?_
  refine PyProof.Rows.args_nil ?_
  have hl : its.toArray.size = xs.length := by rw [List.size_toArray, ← r.length, List.length_map]
  rw [hl, List.take_length] at hS
  obtain ⟨o, es, ep, t, ho, hex, hd, _, _, _, hf, hn⟩ := hS
  have I2 : L2.Inv X pins σ H1 { s1 with heap := h', toks := tk } := I1.kept fun b o e => hk b o (Heap.lt_size e) e
  have lu := (uniqK_len _ xs rfl).1
  refine call_len_set ho hex hd hf (by rw [hn] <;> omega) ⟨.int (uniqK xs).length, H1, I2.tok _, ⟨_, by rw [hn]⟩, q1⟩
end
end Sb

/-! Dicts with tuple keys: against the empty one, shown, displayed; a dict against a text. -/
namespace Sb
open PySem PySem.Spec PyProof.Rows L2
section
variable {prog : Program} {w : World} {A : Around} {E : Value → Shared → Prop} {s : Shared}
theorem samePairs_empty {nm : String} {a b : Addr} {oa ob : Obj} {es es' : Array DictEntry} {ep ep' : Nat} {Q : Bool → Shared → Prop} (ha : (a == sysModules) = false) (hb : (b == sysModules) = false)
    (hoa : s.heap.get? a = some oa) (hda : oa.data = .dict es ep) (hob : s.heap.get? b = some ob) (hdb : ob.data = .dict es' ep') (h0 : es'.size = 0) (h : Q (decide (es.size = 0)) s) :
    wpAny (model prog w) A (Builtin.Dict.samePairs nm a b) Q E s := by
  unfold Builtin.Dict.samePairs Builtin.Dict.showsAll
  rw [if_neg (show ¬ (a == sysModules) = true by rw [ha]; exact Bool.false_ne_true), if_neg (show ¬ (b == sysModules) = true by rw [hb]; exact Bool.false_ne_true)]
  refine wpAny_bind (wpAny_pure (wpAny_bind (wpAny_pure ?_)))
  refine wpAny_bind (wpAny_dictEntries hoa hda ?_)
  dsimp only
  refine wpAny_bind (wpAny_dictEntries hob hdb ?_)
  by_cases hsz : es.size = 0
  case neg =>
    rw [if_pos (by simp [h0, hsz])]
    rw [decide_eq_false hsz] at h
    exact wpAny_bind (wpAny_rule (wpAny_pure h))
  case pos =>
    rw [decide_eq_true hsz] at h
    rw [if_neg (by rw [hsz, h0]; simp)]
    refine wpAny_bind (wpAny_dictEpoch hoa hda ?_)
    refine wpAny_bind ?_
    rw [Std.Legacy.Range.forIn_eq_forIn_range']
    simp only [Std.Legacy.Range.size, Nat.sub_zero, Nat.add_sub_cancel, Nat.div_one]
    rw [hsz]
    exact wpAny_pure (wpAny_pure h)
theorem rc_dictE {neg : Bool} {a b : Addr} {oa ob : Obj} {es es' : Array DictEntry} {ep ep' : Nat} {Q : Value → Shared → Prop} (ha : (a == sysModules) = false) (hb : (b == sysModules) = false)
    (hoa : s.heap.get? a = some oa) (hca : oa.ExactDict) (hda : oa.data = .dict es ep) (hob : s.heap.get? b = some ob) (hcb : ob.ExactDict) (hdb : ob.data = .dict es' ep') (h0 : es'.size = 0) (hu : A.units < cLine) (h : Q (.bool (if neg then !decide (es.size = 0) else decide (es.size = 0))) s) :
    wpAny (model prog w) A (compareOp (if neg then .NotEq else .Eq) (.ref a) (.ref b)) Q E s := by
  have ta : s.TypeIs (.ref a) "dict" := ⟨oa, hoa, hca.1⟩
  have tb : s.TypeIs (.ref b) "dict" := ⟨ob, hob, hcb.1⟩
  cases neg with
  | false =>
    refine wpAny_richCompare_same_room (op := .Eq) ta tb PySem.F.slot_dict_eq (wpAny_call_entry PySem.F.slot_dict_eq ta PySem.F.entry_dict_eq ?_ (PySem.F.args_dict_eq_2 _ _)) hu
    show wpAny _ _ (Builtin.Dict.dictSlotArgs "__eq__" ⟨[.ref a, .ref b], []⟩ >>= _) _ _ s
    refine wpAny_bind ?_
    unfold Builtin.Dict.dictSlotArgs
    refine wpAny_bind (wpAny_notOrdered_dict ta ?_)
    show wpAny _ _ (pure (Value.ref a, Value.ref b)) _ _ s
    refine wpAny_pure ?_
    refine wpAny_bind (wpAny_isInstance (T := "dict") tb PySem.F.sub_dict_dict ?_)
    simp only [Bool.not_true, Bool.false_eq_true, if_false]
    refine wpAny_bind (wpAny_pure (wpAny_bind (wpAny_pure ?_)))
    refine wpAny_bind (samePairs_empty ha hb hoa hda hob hdb h0 ?_)
    refine wpAny_pure ⟨_, rfl, ?_, ?_⟩
    · exact fun x => nomatch x
    · simpa using h
  | true =>
    refine wpAny_richCompare_same_room (op := .NotEq) ta tb PySem.F.slot_dict_ne (wpAny_call_entry PySem.F.slot_dict_ne ta PySem.F.entry_dict_ne ?_ (PySem.F.args_dict_ne_2 _ _)) hu
    show wpAny _ _ (Builtin.Dict.dictSlotArgs "__ne__" ⟨[.ref a, .ref b], []⟩ >>= _) _ _ s
    refine wpAny_bind ?_
    unfold Builtin.Dict.dictSlotArgs
    refine wpAny_bind (wpAny_notOrdered_dict ta ?_)
    show wpAny _ _ (pure (Value.ref a, Value.ref b)) _ _ s
    refine wpAny_pure ?_
    refine wpAny_bind (wpAny_isInstance (T := "dict") tb PySem.F.sub_dict_dict ?_)
    simp only [Bool.not_true, Bool.false_eq_true, if_false]
    refine wpAny_bind (wpAny_pure (wpAny_bind (wpAny_pure ?_)))
    refine wpAny_bind (samePairs_empty ha hb hoa hda hob hdb h0 ?_)
    refine wpAny_pure ⟨_, rfl, ?_, ?_⟩
    · exact fun x => nomatch x
    · simpa using h
theorem dict_eq_str (l : Addr) (o : Obj) (b : Str) (u : Tok) {Q : Value → Shared → Prop} (ho : s.heap.get? l = some o) (hc : o.ExactDict) (hq : Q .notImplemented s) : wpAny (model prog w) A (call (.builtin "dict.__eq__") [.ref l, .str b u]) Q E s := by
  have ta : s.TypeIs (.ref l) "dict" := ⟨o, ho, hc.1⟩
  refine wpAny_call_entry PySem.F.slot_dict_eq ta PySem.F.entry_dict_eq ?_ (PySem.F.args_dict_eq_2 _ _)
  show wpAny _ _ (Builtin.Dict.dictSlotArgs "__eq__" ⟨[.ref l, .str b u], []⟩ >>= _) _ _ s
  refine wpAny_bind ?_
  unfold Builtin.Dict.dictSlotArgs
  refine wpAny_bind (wpAny_notOrdered_dict ta ?_)
  show wpAny _ _ (pure (Value.ref l, Value.str b u)) _ _ s
  refine wpAny_pure ?_
  refine wpAny_bind (wpAny_isInstance (T := "str") (typeIs_str s b u) PySem.F.sub_str_dict ?_)
  exact wpAny_bind (wpAny_rule (wpAny_pure ⟨_, rfl, hq⟩))
theorem str_eq_obj (b : Str) (u : Tok) (l : Addr) (c : Value) (es : Array DictEntry) (ep : Nat) (dd : Option Addr) (sl : Array (Option Value)) :
    Meets (Builtin.«str.__eq__» ⟨[.str b u, .ref l], []⟩) (fun _ R s => s.heap.get? l = some { cls := c, dict := dd, data := .dict es ep, slots := sl } ∧ R (.ok (.ret .notImplemented)) s) :=
  .of_wp fun prog w A R s h => by obtain ⟨hp, g, d, tk, os⟩ := s; obtain ⟨hl, h⟩ := h; wp_walk using wpAny_loadPart' hl, wpAny_load hl; exact ⟨_, rfl, h⟩
theorem rc_dict_str {l : Addr} {o : Obj} {es : Array DictEntry} {ep : Nat} (b : Str) (u : Tok) (ho : s.heap.get? l = some o) (hc : o.ExactDict) (hd : o.data = .dict es ep) (hu : A.units < cLine) {Q : Value → Shared → Prop} (h : Q (.bool false) s) : wpAny (model prog w) A (compareOp .Eq (.ref l) (.str b u)) Q E s := by
  obtain ⟨cls, dd, data, sl⟩ := o
  simp only at hd
  subst hd
  exact SeqAt.rc_eq_decline_or (k := false) ⟨_, ho, hc.1⟩ (typeIs_str s b u) (by decide) PySem.F.sub_str_dict PySem.F.slot_dict_eq PySem.F.slot_str_eq_refl
    (fun _ hq => dict_eq_str l _ b u ho hc hq)
    (fun _ hq => call_meets PySem.F.slot_str_eq_refl (typeIs_str s b u) PySem.F.entry_str_eq (PySem.F.args_str_eq_2 _ _) (str_eq_obj b u l cls es ep dd sl) ⟨ho, hq⟩)
    (fun _ hq => wpAny_of_eq (rfl : isSame (.ref l) (.str b u) = pure false) hq) (.inr hu) h
end
section
variable {X : Cx}
/-- x == {}, x != {} -/
def rDE (neg : Bool) : R2 := fun x y H Q => ∃ a b kvs, x = .ref a ∧ y = .ref b ∧ H a = some (.dT kvs) ∧ (H b = some (.dK []) ∨ H b = some (.dT [])) ∧ Q (.bl (if neg then !decide (kvs.length = 0) else decide (kvs.length = 0))) H
theorem op_dE {neg : Bool} (hu : X.A.units + 64 < cLine) : OpR X (compareOp (if neg then .NotEq else .Eq)) (rDE neg) := by
  intro pins s σ H x y v u Q I rx ry h
  obtain ⟨a, b, kvs, rfl, rfl, ha, hb, q⟩ := h
  cases rx
  cases ry
  obtain ⟨z, low, xs, rel, o, es, ep, ho, ex, hd, pr, _⟩ := dt_of I.hok ha
  have l1 : es.size = kvs.length := by
    have : es.toList.length = xs.length := by rw [pr, List.length_map]
    rw [Array.length_toList] at this
    rw [this, ← Paired.length rel]
  obtain ⟨lowb, ob, es', ep', hob, exb, hdb, l2⟩ : (b == sysModules) = false ∧ ∃ ob es' ep', s.heap.get? b = some ob ∧ ob.ExactDict ∧ ob.data = .dict es' ep' ∧ es'.size = 0 := by
    rcases hb with hb | hb
    · obtain ⟨_, low, vs, rel, o, es, ep, ho, ex, hd, _, pr, _⟩ := dk_of I.hok hb
      cases rel
      have hes : es.toList = [] := List.eq_nil_of_length_eq_zero (Pairs.length pr)
      exact ⟨low, o, es, ep, ho, ex, hd, by rw [← Array.length_toList, hes]; rfl⟩
    · obtain ⟨_, low, xs, rel, o, es, ep, ho, ex, hd, pr, _⟩ := dt_of I.hok hb
      cases rel
      have hes : es.toList = [] := pr
      exact ⟨low, o, es, ep, ho, ex, hd, by rw [← Array.length_toList, hes]; rfl⟩
  refine rc_dictE low lowb ho ex hd hob exb hdb l2 (by omega) ⟨.bl _, H, I, rfl, ?_⟩
  rw [l1]
  exact q
/-- x == text, x of any kind -/
def rEqS' : R2 := fun x y H Q => ∃ p d z, LD p H x d ∧ y = .str z ∧ Q (.bl (isStrD d z)) H
theorem op_eqS' (hu : X.A.units + 64 < cLine) : OpR X (compareOp .Eq) rEqS' := by
  intro pins s σ H x y v u Q I rx ry h
  obtain ⟨p, d, z, hx, rfl, q⟩ := h
  by_cases hd : isDctD d = false
  · exact op_eqS hu pins s σ H _ _ v u Q I rx ry ⟨p, d, z, hx, hd, rfl, q⟩
  · obtain ⟨tz, rfl⟩ := ry
    cases hx with
    | @dic a n e =>
      cases rx
      obtain ⟨_, low, vs, rel, o, es, ep, ho, ex, hdt, _⟩ := dk_of I.hok e
      exact rc_dict_str z tz ho ex hdt (by omega) ⟨.bl _, H, I, rfl, q⟩
    | @dct a n e =>
      cases rx
      obtain ⟨_, low, xs, rel, o, es, ep, ho, ex, hdt, _⟩ := dt_of I.hok e
      exact rc_dict_str z tz ho ex hdt (by omega) ⟨.bl _, H, I, rfl, q⟩
    | _ => exact absurd rfl hd
end
end Sb

/-! Dicts with tuple keys: shown; a display of one pair. -/
namespace Sb
open PySem PySem.Spec PyProof.Rows L2
def keyD : Key → PyData
  | .inl n => .int n
  | .inr s => .str s
theorem ld_keys {p : Addr} {H : Hp} : ∀ ks : List Key, LDs p H (ks.map kV) (ks.map keyD)
  | [] => .nil
  | .inl n :: r => .cons (.int n) (ld_keys r)
  | .inr s :: r => .cons (.str s) (ld_keys r)
def rowsD (R : List (List Key × PyData)) : List (PyData × PyData) := R.map fun p => (.tuple (p.1.map keyD), p.2)
section
variable {X : Cx} {pins : List (Addr × Obj)} {σ : L2.St} {H : Hp} {s : Shared}
theorem reads_rows (I : L2.Inv X pins σ H s) {p : Addr} (hp : ∀ xs, H p ≠ some (.tup xs)) : ∀ {kvs : List (List Key × V)} {R : List (List Key × PyData)} {xs : List KRow}, Paired (fun p q => p.1 = q.1 ∧ TD H p.2 q.2) kvs R → KT H kvs xs →
    (∃ as, ReadsAll s.heap (xs.map fun x => Value.ref x.2.1) ((rowsD R).map (·.1)) as ∧ sysModules ∉ as) ∧ ∃ bs, ReadsAll s.heap (xs.map fun x => x.2.2) ((rowsD R).map (·.2)) bs ∧ sysModules ∉ bs
  | _, _, _, .nil, h => by
    cases h
    exact ⟨⟨_, .nil, List.not_mem_nil⟩, ⟨_, .nil, List.not_mem_nil⟩⟩
  | _, _, _, .cons (a := u) (b := w) ab r, h => by
    cases h with
    | @cons _ x _ _ c t =>
      obtain ⟨⟨as, h1, n1⟩, ⟨bs, h2, n2⟩⟩ := reads_rows I hp r t
      have hx : H x.2.1 = some (.tup (u.1.map kV)) := c.2.1
      have nx : x.2.1 ≠ p := fun e => hp _ (e ▸ hx)
      obtain ⟨as', q1, m1⟩ := LD.reads I (.tuple (u.1.map keyD)) (.ref x.2.1) (.ref x.2.1) (.tup nx hx (ld_keys u.1)) rfl
      obtain ⟨bs', q2, m2⟩ := LD.reads I w.2 u.2 x.2.2 (TD.ld hp _ ab.2) c.2.2
      rw [ab.1] at q1
      refine ⟨⟨_, .cons q1 h1, fun z => ?_⟩, ⟨_, .cons q2 h2, fun z => ?_⟩⟩
      · rcases List.mem_append.mp z with z | z
        · exact m1 z
        · exact n1 z
      · rcases List.mem_append.mp z with z | z
        · exact m2 z
        · exact n2 z
theorem reads_dT (I : L2.Inv X pins σ H s) {a : Addr} {kvs : List (List Key × V)} {R : List (List Key × PyData)} (hd : H a = some (.dT kvs)) (hk : Paired (fun p q => p.1 = q.1 ∧ TD H p.2 q.2) kvs R) : ∃ as, Reads s.heap (.ref a) (.dict (rowsD R)) as ∧ sysModules ∉ as := by
  obtain ⟨_, low, xs, rel, o, es, ep, ho, ex, hdt, pr, _⟩ := dt_of I.hok hd
  obtain ⟨⟨as, h1, n1⟩, ⟨bs, h2, n2⟩⟩ := reads_rows I (p := a) (fun xs z => by rw [hd] at z; cases z) hk rel
  refine ⟨_, Reads.dict ho ex.1 hdt (as := as) (bs := bs) ?_ ?_, fun z => ?_⟩
  · rw [pr, List.map_map]
    exact h1
  · rw [pr, List.map_map]
    exact h2
  · have z' : sysModules = a ∨ sysModules ∈ as ∨ sysModules ∈ bs := by simpa using z
    rcases z' with z' | z' | z'
    · rw [← z'] at low
      simp at low
    · exact n1 z'
    · exact n2 z'
end
section
variable {X : Cx}
/-- repr of a dict with tuple keys -/
def rReprT : List V → Hp → VK → Prop := fun xs H Q => ∃ (a : Addr) (kvs : List (List Key × V)) (R : List (List Key × PyData)), xs = [.ref a] ∧ H a = some (.dT kvs) ∧ Paired (fun p q => p.1 = q.1 ∧ TD H p.2 q.2) kvs R ∧
  (PyData.dict (rowsD R)).showable = true ∧ (PyData.dict (rowsD R)).depth ≤ 60 ∧ (PyData.dict (rowsD R)).shown.length ≤ sizeLine ∧ Q (.str (PyData.dict (rowsD R)).shown) H
theorem call_reprT (gd : X.A.guards = some []) (hu : X.A.units + 64 < cLine) : CallR X (.builtin "repr") rReprT := by
  intro pins s σ H xs us Q I r h
  obtain ⟨a, kvs, R, rfl, ha, hk, hs, hd, hz, q⟩ := h
  obtain ⟨u, rfl, ru⟩ := vals1 r
  obtain rfl : u = Value.ref a := ru
  obtain ⟨as, rd, low⟩ := reads_dT I ha hk
  exact repr_of_reads' rd hs (fun _ => low) gd (by omega) (fun _ _ z => z) (fun h' u' tk hk => ⟨.str _, H, I.kept (fun b o z => hk b o z), ⟨_, rfl⟩, q⟩) hz
/-- {k: v}, k a tuple -/
def tDispT (tk tv : TE) : TE := fun σ H Q => ∀ p, H p = none → tk σ (upd H p (.dT [])) fun x H1 => tv σ H1 fun y H2 => ∃ k b, x = .ref b ∧ H2 b = some (.tup (k.map kV)) ∧ H2 p = some (.dT []) ∧ Q (.ref p) (upd H2 p (.dT [(k, y)]))
theorem pe_dispT {k v : Expr} {pos : Pos} {tk tv : TE} (hu : X.A.units + 1 < cLine) (hk : PE X k tk) (hv : PE X v tv) : PE X (.Dict [some k] [v] pos) (tDispT tk tv) := by
  refine ⟨fun pins s σ H Q I q => ?_⟩
  have hn := I.hok.fresh (Nat.le_refl s.heap.objs.size)
  have I1 := I.laid (a := s.heap.objs.size) (o := .dT []) (h' := s.heap.push { cls := .type "dict", data := .dict #[] }) (t' := s.toks) (fun _ _ q => Heap.get?_push_of_some _ q) (Nat.le_refl _) (dt_empty s.heap I.big)
  rw [arm_eval_Dict, zip_pairTrees [some k] [v] X.env pos rfl rfl, dictDisplay_pairs (pairTrees [some k] [v] X.env pos) (by intro z; cases z) (by rw [pairTrees_length [some k] [v] X.env pos rfl rfl]; show 1 < 17; decide)]
  refine wpAny_bind (wpAny_standAt (wpAny_bind (wpAny_subDictH (knd := tupleKind (mixKind X.prog X.w)) (Q := fun d s' => wpAny (model X.prog X.w) X.A (pure (Value.ref d)) _ _ s') (show X.A.units < cLine by omega) (by rw [pairTrees_length [some k] [v] X.env pos rfl rfl]; show 1 ≤ 15; decide) ?_)))
  refine pairTrees_cons_walk (thn (hk.run pins _ σ _ _ I1 (q _ hn)) fun u s1 ⟨x, H1, I2, rx, q1⟩ => thn (hv.run pins s1 σ H1 _ I2 q1) fun w2 s2 ⟨y, H2, I3, ry, kk, b, ex, hb, hd, q2⟩ => pairTrees_nil_walk ?_)
  subst ex
  obtain rfl : u = Value.ref b := rx
  obtain ⟨z, low, xs, rel, dd⟩ := dt_of I3.hok hd
  cases rel
  refine ⟨[(kk, b, w2)], ⟨rfl, rfl, key_of I3.hok hb, trivial⟩, dd, fun h' tk' dd' hs => wpAny_pure ⟨.ref s.heap.objs.size, _, ?_, rfl, q2⟩⟩
  obtain ⟨qo, es, ep, g1, g2, g3, g4, _, g5⟩ := dd'
  refine d_write I3 (by rw [hd]; trivial) hs ⟨qo, g1⟩ ⟨by show 1 ≤ sizeLine; decide, low, [(kk, b, w2)], .cons ⟨rfl, ?_, ry⟩ .nil, qo, es, ep, g1, g2, g3, g4, g5⟩
  rw [upd_ne (ne_of hb hd fun z => nomatch z)]
  exact hb
end
end Sb

/-! A list's display whose list is no module's table. -/
namespace Sb
open PySem PySem.Spec PyProof.Rows L2
section
variable {X : Cx}
def tLstS (t : TA) : TE := fun σ H Q => t σ H fun xs H1 => xs.length ≤ sizeLine ∧ ∀ (p : Addr), H1 p = none → p ≠ sysModules → Q (V.ref p) (upd H1 p (HO.lst xs))
theorem pe_lstS {es : List Expr} {t : TA} {pos : Pos} (h : PA X es t) : PE X (.List es pos) (tLstS t) := by
  refine ⟨fun pins s σ H Q I q => ?_⟩
  rw [arm_eval_List]
  refine wpAny_bind (wpAny_standAt (wpAny_bind (thn (h.run pos pins s σ H _ I q) fun vs s1 ⟨xs, H1, I1, r1, hz, q1⟩ => ?_)))
  have lv : vs.toArray.size = xs.length := by rw [List.size_toArray, r1.length]
  show wpAny _ _ (if vs.toArray.size > sizeLine then _ else newObjAsIs (Value.type "list") (Data.seq vs.toArray)) _ _ _
  rw [if_neg (by rw [lv]; omega)]
  unfold newObjAsIs
  refine wpAny_bind (wpAny_alloc ?_)
  refine wpAny_pure ?_
  have kp : ∀ b o, s1.heap.get? b = some o → (s1.heap.push { cls := .type "list", data := .seq vs.toArray }).get? b = some o := fun _ _ e => Heap.get?_push_of_some _ e
  exact ⟨.ref s1.heap.objs.size, _, I1.laid (t' := s1.toks) kp (Nat.le_refl _) (show ObjOk X.prog X.w _ _ _ (.lst xs) from ⟨hz, vs, _, r1, by first | rfl | exact Heap.get?_push_size _ rfl⟩), rfl, q1 _ (I1.hok.fresh (Nat.le_refl _)) (Nat.ne_of_gt I1.big)⟩
/-- l != [] -/
def rNeL0 : R2 := fun x y H Q => ∃ a b xs, x = .ref a ∧ y = .ref b ∧ H a = some (.lst xs) ∧ H b = some (.lst []) ∧ Q (.bl (!xs.isEmpty)) H
theorem op_neL0 (hu : X.A.units + 64 < cLine) : OpR X (compareOp .NotEq) rNeL0 := by
  intro pins s σ H x y v u Q I rx ry h
  obtain ⟨a, b, xs, rfl, rfl, ha, hb, q⟩ := h
  cases rx
  cases ry
  obtain ⟨its, r1, t1, _⟩ := I.list (SqL.of (K := X.K) ha)
  obtain ⟨its2, r2, t2, _⟩ := I.list (SqL.of (K := X.K) hb)
  cases r2
  cases xs with
  | nil =>
    cases r1
    refine SeqAt.RcNeAt.lists (e := fun _ => true) t1.isList t2.isList rfl (by omega) (fun j _ h2 => absurd h2 (Nat.not_lt_zero _)) X.prog X.w X.xe (EP X pins σ Q) ⟨.bl _, H, I, rfl, q⟩
  | cons z zs =>
    cases r1
    refine SeqAt.RcNeAt.lists_lengths t1.isList t2.isList (by rfl) (by omega) X.prog X.w X.xe (EP X pins σ Q) ⟨.bl _, H, I, rfl, q⟩
end
end Sb

/-! Dicts with tuple keys: del, pop, clear. -/
namespace Sb
open PySem PySem.Spec PyProof.Rows L2
theorem meetsDelT {K : Type} [DecidableEq K] {prog : Program} {w : World} {knd : HeapKind prog w K} {d b : Addr} {k : K} :
    MeetsIn prog w (Builtin.«dict.__delitem__» ⟨[.ref d, .ref b], []⟩) fun A R s => ∃ xs p, knd.room A.in1 ∧ knd.is s.heap k b ∧ Heap.DictOfH knd s.heap d xs ∧ xs.length ≤ sizeLine ∧ atKey xs k = some p ∧
      ∀ (h' : Heap) (tk : Nat), Heap.DictOfH knd h' d (DT.dropH xs k) → Heap.SameBut d s.heap h' → R (.ok (.ret .none)) { s with heap := h', toks := tk } :=
  MeetsIn.of_wp fun A R s ⟨xs, p, hu, hk, hm, hz, hp, q⟩ => by
    show wpAny _ _ (Builtin.Dict.dictSlotArgs "__delitem__" ⟨[.ref d, .ref b], []⟩ >>= _) _ _ s
    refine wpAny_bind ?_
    unfold Builtin.Dict.dictSlotArgs
    refine wpAny_bind (wpAny_notOrdered_dict (Heap.DictOfH.typeIs hm) ?_)
    show wpAny _ _ (pure (Value.ref d, Value.ref b)) _ _ s
    refine wpAny_pure ?_
    refine wpAny_bind (wpAny_pure ?_)
    refine wpAny_bind (DT.takeH hu hk hm hz (fun z => by rw [hp] at z; cases z) fun p' e hp' ev h' dd sb => ?_)
    refine wpAny_bind (wpAny_letGo ?_)
    exact wpAny_pure ⟨_, rfl, q _ _ dd sb⟩
theorem meetsPop1 {K : Type} [DecidableEq K] {prog : Program} {w : World} {knd : HeapKind prog w K} {d b : Addr} {k : K} :
    MeetsIn prog w (Builtin.«dict.pop» ⟨[.ref d, .ref b], []⟩) fun A R s => ∃ xs p, (d == sysModules) = false ∧ knd.room A.in1 ∧ knd.is s.heap k b ∧ Heap.DictOfH knd s.heap d xs ∧ xs.length ≤ sizeLine ∧ atKey xs k = some p ∧
      ∀ (h' : Heap) (tk : Nat), Heap.DictOfH knd h' d (DT.dropH xs k) → Heap.SameBut d s.heap h' → R (.ok (.ret p.2)) { s with heap := h', toks := tk } :=
  MeetsIn.of_wp fun A R s ⟨xs, p, hd, hu, hk, hm, hz, hp, q⟩ => by
    show wpAny _ _ (Builtin.Dict.keyAndDefault "pop" ⟨[.ref d, .ref b], []⟩ >>= _) _ _ s
    refine wpAny_bind ?_
    unfold Builtin.Dict.keyAndDefault
    refine wpAny_bind (wpAny_notOrdered_dict (Heap.DictOfH.typeIs hm) ?_)
    show wpAny _ _ (pure (d, Value.ref b, none)) _ _ s
    refine wpAny_pure ?_
    have hm2 := hm
    obtain ⟨o, es, ep, ho, hc, hdat, he, _, hn⟩ := hm2
    have hes := size_of_entries he
    have hx : xs ≠ [] := fun z => by
      rw [z] at hp
      cases hp
    have hne : es.isEmpty = false := by
      have : 0 < xs.length := List.length_pos_iff.mpr hx
      rw [Array.isEmpty_eq_false_iff]
      intro z
      rw [z] at hes
      simp at hes
      omega
    show wpAny _ _ (dictEntries d >>= _) _ _ s
    refine wpAny_bind (wpAny_dictEntries ho hdat (wpAny_bind (wpAny_pure ?_)))
    simp only [hne, Bool.false_eq_true, if_false]
    refine wpAny_bind (DT.takeH hu hk hm hz (fun z => by rw [hp] at z; cases z) fun p' e hp' ev h' dd sb => ?_)
    have ep' : p = p' := Option.some.inj (hp.symm.trans hp')
    subst ep'
    simp only [Option.isNone_some, Bool.false_eq_true, if_false]
    refine wpAny_bind (wpAny_letGo ?_)
    exact wpAny_pure ⟨_, rfl, by rw [ev]; exact q _ _ dd sb⟩
theorem meetsClearT {K : Type} [DecidableEq K] {prog : Program} {w : World} {knd : HeapKind prog w K} {d : Addr} :
    MeetsIn prog w (Builtin.«dict.clear» ⟨[.ref d], []⟩) fun A R s => ∃ xs, Heap.DictOfH knd s.heap d xs ∧
      ∀ (h' : Heap), Heap.DictOfH knd h' d [] → Heap.SameBut d s.heap h' → R (.ok (.ret .none)) { s with heap := h' } :=
  MeetsIn.of_wp fun A R s ⟨xs, hm, q⟩ => by
    show wpAny _ _ (Builtin.Dict.noArgs "clear" ⟨[.ref d], []⟩ >>= _) _ _ s
    refine wpAny_bind ?_
    unfold Builtin.Dict.noArgs
    refine wpAny_bind (wpAny_notOrdered_dict (Heap.DictOfH.typeIs hm) ?_)
    show wpAny _ _ (pure d) _ _ s
    refine wpAny_pure ?_
    obtain ⟨o, es, ep, ho, hc, hdat, he, hk, hn⟩ := hm
    refine wpAny_bind (wpAny_dictEntries ho hdat ?_)
    unfold bearsInstanceDictMark
    refine wpAny_bind (wpAny_bind (wpAny_load ho (wpAny_pure ?_)))
    refine wpAny_bind (wpAny_updateDictKeysTo ho hdat ?_ (Nat.zero_le _))
    have fin : R (.ok (.ret .none)) { s with heap := s.heap.update d (Obj.mapDictKeys fun _ => #[]) } := by
      obtain ⟨cls, dd, data, sl⟩ := o
      have e : data = .dict es ep := hdat
      subst e
      refine q _ ⟨Obj.mapDictKeys (fun _ => #[]) ⟨cls, dd, .dict es ep, sl⟩, #[], ep + 1, Heap.get?_update_self _ ho rfl, hc, rfl, rfl, (fun x z => by cases z), List.nodup_nil⟩ ⟨?_, fun b nb => Heap.get?_update_other _ _ (fun e => nb e.symm)⟩
      exact Heap.size_update _ _ _
    dsimp only
    split
    · exact wpAny_bind (wpAny_letGo (wpAny_pure ⟨_, rfl, fin⟩))
    · exact wpAny_pure ⟨_, rfl, fin⟩
section
variable {X : Cx}
/-- del d[k], k a tuple -/
def sDDelT (td ty : TE) : TS := fun D σ H => td σ H fun x H1 => ty σ H1 fun y H2 => ∃ a kvs k b, x = .ref a ∧ H2 a = some (.dT kvs) ∧ y = .ref b ∧ H2 b = some (.tup (k.map kV)) ∧ (valV kvs k).isSome = true ∧ D.nx σ (upd H2 a (.dT (dropK kvs k)))
theorem dt_drop {pins : List (Addr × Obj)} {σ : L2.St} {H : Hp} {s : Shared} {a : Addr} {kvs : List (List Key × V)} {k : List Key} {xs : List KRow} {h' : Heap} {tk : Nat} (I : L2.Inv X pins σ H s) (e : H a = some (.dT kvs)) (rel : KT H kvs xs) (dd : Heap.DictOfH (tupleKind (mixKind X.prog X.w)) h' a (DT.dropH xs k)) (hs : Heap.SameBut a s.heap h') :
    L2.Inv X pins σ (upd H a (.dT (dropK kvs k))) { s with heap := h', toks := tk } := by
  obtain ⟨z, hd, _, _, _⟩ := dt_of I.hok e
  have hq := dd
  obtain ⟨o, es, ep, h1, h2, h3, h4, h5, h6⟩ := hq
  refine d_write I (by rw [e]; trivial) hs ⟨o, h1⟩ ⟨Nat.le_trans (dropK_le kvs k) z, hd, DT.dropH xs k, KT.keeps (DX.KT_drop k rel) fun c ys ec => ?_, o, es, ep, h1, h2, h3, h4, h6⟩
  rw [upd_ne (ne_of ec e fun z => nomatch z)]
  exact ec
theorem at_of {H : Hp} {kvs : List (List Key × V)} {k : List Key} {xs : List KRow} (rel : KT H kvs xs) (h : (valV kvs k).isSome = true) : ∃ p v, atKey xs k = some p ∧ valV kvs k = some v ∧ L2.RelV v p.2 := by
  have r := KT.val rel k
  cases ev : valV kvs k with
  | none => rw [ev] at h; cases h
  | some v =>
    rw [ev] at r
    cases hp : atKey xs k with
    | none => rw [hp] at r; exact r.elim
    | some p =>
      rw [hp] at r
      exact ⟨p, v, rfl, rfl, r⟩
theorem ps_ddelT {o i : Expr} {pos tpos : Pos} {td ty : TE} (hu : X.A.units + 1 < cLine) (ho : PE X o td) (hi : PE X i ty) : PS X (.Delete [.Subscript o i tpos] pos) (sDDelT td ty) := by
  refine ⟨fun pins s σ H D I h => ?_⟩
  refine wpAny_Delete (wpAny_deleteEach_cons (wpAny_delete_Subscript (thn (ho.run pins s σ H _ I h) fun u s1 ⟨x, H1, I1, rx, q1⟩ => thn (hi.run pins s1 σ H1 _ I1 q1) fun iv s2 ⟨y, H2, I2, ry, a, kvs, k, b, ex, e, ey, eb, l, q2⟩ => ?_)))
  subst ex ey
  obtain rfl : u = Value.ref a := rx
  obtain rfl : iv = Value.ref b := ry
  obtain ⟨z, hd, xs, rel, dd⟩ := dt_of I2.hok e
  obtain ⟨p, v, hp, ev, rv⟩ := at_of rel l
  refine wpAny_delItem_slot (Heap.DictOfH.typeIs dd) (by decide) PySem.F.slot_dict_delitem (call_meetsIn PySem.F.slot_dict_delitem (Heap.DictOfH.typeIs dd) PySem.F.entry_dict_delitem (PySem.F.args_dict_delitem_2 _ _) meetsDelT ⟨xs, p, tupleKind_room_in1 hu, key_of I2.hok eb, dd, by rw [← Paired.length rel]; exact z, hp, fun h' tk dd' hs => ?_⟩)
  exact wpAny_deleteEach_nil ⟨σ, _, dt_drop I2 e rel dd' hs, q2⟩
/-- d.pop(k), k a tuple that is there -/
def rPop1 : V → List V → Hp → VK → Prop := fun x xs H Q => ∃ (a : Addr) (kvs : List (List Key × V)) (k : List Key) (b : Addr) (v : V), x = .ref a ∧ xs = [.ref b] ∧ H a = some (.dT kvs) ∧ H b = some (.tup (k.map kV)) ∧ valV kvs k = some v ∧ Q v (upd H a (.dT (dropK kvs k)))
theorem mt_pop1T (hu : X.A.units + 1 < cLine) : MtR X "dict.pop" rPop1 := by
  intro pins s σ H x xs v us Q I rx rxs h
  obtain ⟨a, kvs, k, b, v0, rfl, rfl, ha, hb, ev, q⟩ := h
  obtain ⟨u, rfl, ru⟩ := vals1 rxs
  obtain rfl : u = Value.ref b := ru
  obtain rfl : v = Value.ref a := rx
  obtain ⟨z, hd, xs', rel, dd⟩ := dt_of I.hok ha
  obtain ⟨p, v1, hp, ev1, rv⟩ := at_of rel (by rw [ev]; rfl)
  rw [ev] at ev1
  obtain rfl : v0 = v1 := Option.some.inj ev1
  refine call_meetsIn PySem.F.slot_dict_pop (Heap.DictOfH.typeIs dd) PySem.F.entry_dict_pop (PySem.F.args_dict_pop_2 _ _) meetsPop1 ⟨xs', p, hd, tupleKind_room_in1 hu, key_of I.hok hb, dd, by rw [← Paired.length rel]; exact z, hp, fun h' tk dd' hs => ?_⟩
  exact ⟨v0, _, dt_drop I ha rel dd' hs, rv, q⟩
/-- d.clear() -/
def rClearT : V → List V → Hp → VK → Prop := fun x xs H Q => ∃ (a : Addr) (kvs : List (List Key × V)), x = .ref a ∧ xs = [] ∧ H a = some (.dT kvs) ∧ Q .non (upd H a (.dT []))
theorem mtd_clearT : MtR X "dict.clear" rClearT := by
  intro pins s σ H x xs v us Q I rx rxs h
  obtain ⟨a, kvs, rfl, rfl, ha, q⟩ := h
  cases rxs
  obtain rfl : v = Value.ref a := rx
  obtain ⟨z, hd, xs', rel, dd⟩ := dt_of I.hok ha
  refine call_meetsIn PySem.F.slot_dict_clear (Heap.DictOfH.typeIs dd) PySem.F.entry_dict_clear (PySem.F.args_dict_clear_1 _) meetsClearT ⟨xs', dd, fun h' dd' hs => ?_⟩
  obtain ⟨o, es, ep, h1, h2, h3, h4, _, h6⟩ := dd'
  exact ⟨.non, _, d_write (ob := .dT []) I (by rw [ha]; trivial) hs ⟨o, h1⟩ ⟨Nat.zero_le _, hd, [], .nil, o, es, ep, h1, h2, h3, h4, h6⟩, rfl, q⟩
end
end Sb

/-! sorted(keys, key=f), the keys tuples in a list. -/
namespace Sb
open PySem PySem.Spec PyProof.Rows L2
open PySem.W (EachIs KeyPure KeepsBut dataLe AllAlike Sortable)
theorem vals_refs' : ∀ {bs : List Addr} {its : List Value}, Vals (bs.map V.ref) its → its = bs.map Value.ref
  | [], _, h => by cases h; rfl
  | b :: r, _, h => by
    cases h with
    | cons a t =>
      rw [vals_refs' t]
      have : _ = Value.ref b := a
      rw [this]
      rfl
theorem ks_rows {H : Hp} : ∀ {kk : List (List Key)} {bs : List Addr}, IsKs H kk bs → ∃ ks : List KRow, ks.map (·.1) = kk ∧ (ks.map fun x => x.2.1) = bs ∧ ∀ x ∈ ks, H x.2.1 = some (.tup (x.1.map kV))
  | _, _, .nil => ⟨[], rfl, rfl, fun _ z => by cases z⟩
  | _, _, .cons (a := k) (b := b) h r => by
    obtain ⟨ks, e1, e2, e3⟩ := ks_rows r
    refine ⟨(k, b, Value.none) :: ks, by rw [List.map_cons, e1], by rw [List.map_cons, e2], fun x hx => ?_⟩
    rcases List.mem_cons.mp hx with rfl | hx
    · exact h
    · exact e3 x hx
def rSortTL (f : Addr) (rank : List Key → List Int) (ok : List Key → Prop) : List V → List V → Hp → VK → Prop := fun xs zs H Q => ∃ (l : Addr) (kk : List (List Key)) (bs : List Addr), xs = [.ref l] ∧ zs = [.ref f] ∧ H l = some (.lst (bs.map V.ref)) ∧ IsKs H kk bs ∧ (∀ k ∈ kk, ok k) ∧
  ∀ p cs, H p = none → IsKs H (srt rank kk) cs → Q (.ref p) (upd H p (.lst (cs.map V.ref)))
theorem call_sortTL {X : Cx} {f : Addr} {rank : List Key → List Int} {ok : List Key → Prop} {k0 : Nat} (hc : X.calm = true) (hr : Room (k0 + 1) X.A) (F : KeyFn X f rank ok) : CallRK X (.builtin "sorted") ["key"] (rSortTL f rank ok) := by
  intro pins s σ H xs zs us ws Q I r rz h
  obtain ⟨d, kk, bs, rfl, rfl, hd, hik, hok, q⟩ := h
  obtain ⟨u, rfl, rx⟩ := vals1 r
  obtain ⟨u2, rfl, rx2⟩ := vals1 rz
  obtain rfl : u = Value.ref d := rx
  obtain rfl : u2 = Value.ref f := rx2
  obtain ⟨ks, ek, eb, hks⟩ := ks_rows hik
  obtain ⟨its, rv0, pl, hz⟩ := I.list (SqL.of (K := X.K) hd)
  have lk : ks.length = bs.length := by rw [← eb, List.length_map]
  have hz0 : bs.length ≤ sizeLine := by
    rw [List.length_map] at hz
    exact hz
  have hz1 : ks.length ≤ sizeLine := lk ▸ hz0
  show wpAny _ _ (call (.builtin "sorted") [.ref d] [(Str.ofString "key", .ref f)]) _ _ _
  refine PyProof.Rows.call_function_entry_kw PyProof.Rows.kind_sorted PyProof.Rows.plain_sorted PyProof.Rows.entry_sorted (PyProof.Rows.ksk_s1 _ _) ?_
  unfold Builtin.«sorted»
  refine wpAny_bind (m := checkCount "sorted" 1 1 _) ?_
  apply wpAny_pure
  have ea : its.toArray.toList = ks.map fun x => Value.ref x.2.1 := by
    have : its = bs.map Value.ref := vals_refs' rv0
    rw [this, ← eb, List.map_map]
    rfl
  obtain ⟨o, ho, hcl, n, hdt⟩ := pl.isList
  refine wpAny_bind (wpAny_collect_seq (A := X.A.in1) d (.inl rfl) ho hcl hdt (fun h' kp => ?_) (by rw [← Array.length_toList, ea, List.length_map, lk]; exact hz0))
  generalize its.toArray = acc at ea ⊢
  generalize s.toks = tk
  have la : acc.toList.length = ks.length := by rw [ea, List.length_map]
  have I1 : Inv X pins σ H { s with heap := h', toks := tk } := I.kept kp
  refine wpAny_bind (wpAny_newList ?_ (by omega))
  have hoL : (h'.push (seqObj "list" acc.toList.toArray 0)).get? h'.objs.size = some (seqObj "list" acc.toList.toArray 0) := Heap.get?_push_size _ rfl
  have up : ∀ c o, h'.get? c = some o → (h'.push (seqObj "list" acc.toList.toArray 0)).get? c = some o := fun c o e => Heap.get?_push_of_some _ e
  show wpAny _ _ _ _ _ { s with heap := h'.push (seqObj "list" acc.toList.toArray 0), toks := tk }
  refine wpAny_bind (wpAny_holding (wpAny_call_entry_kw PyProof.Rows.slot_list_sort ⟨_, hoL, rfl⟩ PyProof.Rows.entry_list_sort ?body (PyProof.Rows.ksk_l1 _ _)))
  rw [PyProof.Rows.ksk_t1]
  have each : EachIs (fun (v : Value) (x : KRow) => v = .ref x.2.1) acc.toList ks := by rw [ea]; exact each_refs ks
  have ne : ∀ {c : Addr} {o : Obj}, h'.get? c = some o → c ≠ h'.objs.size := fun e => Nat.ne_of_lt (Heap.lt_size e)
  refine PySem.W.keyH_tree (kz := ks.map fun x => PyData.tuple ((rank x.1).map .int)) (s := { s with heap := h'.push (seqObj "list" acc.toList.toArray 0), toks := tk }) hoL (by rw [List.length_map, la]) (by omega)
    (AllAlike.of fun a b => alike_rows _ _) (Sortable.tuples fun b => ?_) ?_ (PySem.W.keyH_turns (s := { s with heap := h'.push (seqObj "list" acc.toList.toArray 0), toks := tk }) each fun v x hR hxk h2 tk2 kp2 => ?_) fun h3 tk3 out c kp3 hD ko => ?_
  · obtain ⟨x, r, e⟩ := F.some_ b.1
    exact ⟨_, _, by rw [e]; rfl⟩
  · intro dd hdd
    obtain ⟨x, _, rfl⟩ := List.mem_map.mp hdd
    have dp : PyData.depth (.tuple ((rank x.1).map PyData.int)) = 1 := by
      show PyData.depthAll _ + 1 = 1
      rw [PySem.W.depth_ints]
    rw [dp]
    have := hr.un
    show X.A.units + 1 + 1 + 1 < cLine
    omega
  · rw [hR]
    obtain ⟨_, its, rv, it1⟩ := (show ObjOk X.prog X.w H h' x.2.1 (.tup (x.1.map kV)) from I1.hok _ _ (hks x hxk))
    have k2 : ∀ c o, h'.get? c = some o → h2.get? c = some o := fun c o e => kp2 c o (ne e) (up c o e)
    refine F.run { s with heap := h2, toks := tk2 } _ x.2.1 its x.1 (I1.kIn.keeps k2) ((I1.mod.glob.keeps I1.bk).keeps k2) (I1.nolimit.keeps k2) ?_ ?_ (hok _ (by rw [← ek]; exact List.mem_map.mpr ⟨x, hxk, rfl⟩)) rv ?_
    · have := hr.dp
      show X.A.depth + 1 < recursionLimit
      omega
    · exact I.ok.hd hc
    · obtain ⟨ob, h1, r⟩ := it1
      exact ⟨ob, k2 _ _ h1, r⟩
  · have eo := PySem.W.keyedOut_each (fun x : KRow => PyData.tuple ((rank x.1).map .int)) ko each
    have lo2 := ko.length (by rw [List.length_map, la])
    rw [le_rows] at eo
    have er := refs_each eo
    have hmem : ∀ x ∈ ks.mergeSort (fun p q => decide (rank p.1 ≤ rank q.1)), H x.2.1 = some (.tup (x.1.map kV)) := fun x hx => hks x ((List.mergeSort_perm ks _).mem_iff.mp hx)
    have em : (ks.mergeSort (fun p q => decide (rank p.1 ≤ rank q.1))).map (·.1) = srt rank kk := by
      unfold srt
      rw [← ek]
      exact List.map_mergeSort fun a _ b _ => rfl
    have isk := isKs_of hmem
    rw [em] at isk
    have keep3 : ∀ b o, h'.get? b = some o → h3.get? b = some o := fun b o e => kp3 b o (ne e) (up b o e)
    have rv : Vals (((ks.mergeSort (fun p q => decide (rank p.1 ≤ rank q.1))).map fun x => x.2.1).map V.ref) out := by
      rw [er]
      exact vals_refs _
    have hz : (((ks.mergeSort (fun p q => decide (rank p.1 ≤ rank q.1))).map fun x => x.2.1).map V.ref).length ≤ sizeLine := by
      rw [rv.length]
      omega
    refine ⟨_, rfl, ?_⟩
    apply wpAny_pure
    refine ⟨_, rfl, .ref h'.objs.size, _, I1.laid (t' := tk3) (o := .lst (((ks.mergeSort (fun p q => decide (rank p.1 ≤ rank q.1))).map fun x => x.2.1).map V.ref)) keep3 (Nat.le_refl _) ⟨hz, out, c, rv, hD⟩, rfl, q _ _ (I1.hok.fresh (Nat.le_refl _)) isk⟩
end Sb

/-! list(d.items()), the keys tuples. -/
namespace Sb
open PySem PySem.Spec PyProof.Rows L2
theorem tds_get {H : Hp} : ∀ {as : List Addr} {R : List PyData}, as.length = R.length → (∀ (j : Nat) (a : Addr) (d : PyData), as[j]? = some a → R[j]? = some d → TD H (.ref a) d) → TDs H (as.map V.ref) R
  | [], [], _, _ => .nil
  | [], _ :: _, h, _ => by cases h
  | _ :: _, [], h, _ => by cases h
  | a :: as, d :: R, h, g => .cons (g 0 a d rfl rfl) (tds_get (Nat.succ.inj h) fun j a d h1 h2 => g (j + 1) a d h1 h2)
theorem tds_keys {H : Hp} : ∀ ks : List Key, TDs H (ks.map kV) (ks.map keyD)
  | [] => .nil
  | .inl n :: r => .cons (.int n) (tds_keys r)
  | .inr s :: r => .cons (.str s) (tds_keys r)
def itemD (r : List Key × PyData) : PyData := .tuple [.tuple (r.1.map keyD), r.2]
section
variable {X : Cx}
def rListItT : List V → Hp → VK → Prop := fun xs H Q => ∃ (p a : Addr) (kvs : List (List Key × V)) (R : List (List Key × PyData)), xs = [.ref p] ∧ H p = some (DX.itemsO p a) ∧ H a = some (.dT kvs) ∧ Paired (fun p q => p.1 = q.1 ∧ TD H p.2 q.2) kvs R ∧
  ∀ (l : Addr) (as : List Addr) H', Same H H' → H l = none → H' l = some (.lst (as.map V.ref)) → TDs H' (as.map V.ref) (R.map itemD) → Q (.ref l) H'
theorem call_listItT (hc : X.calm = true) : CallR X (.type "list") rListItT := by
  intro pins s σ H xs us Q I r h
  obtain ⟨p, a, kvs, R, rfl, hp, ha, hkv, q⟩ := h
  obtain ⟨u, rfl, ru⟩ := vals1 r
  obtain rfl : u = Value.ref p := ru
  have view : s.heap.IsItemsView p a := (show ObjOk X.prog X.w H s.heap p (DX.itemsO p a) from I.hok p _ hp).1
  obtain ⟨z, hd, xs', rel, o, es, ep, ho, hx, hdat, hes, his, hn⟩ := dt_of I.hok ha
  have l1 : kvs.length = xs'.length := Paired.length rel
  have l2 : es.size = xs'.length := size_of_entries hes
  have l3 : kvs.length = R.length := Paired.length hkv
  refine PySem.W.dil_call (I.ok.hd hc) view ⟨o, ho, hx, hdat⟩ (by rw [l2, ← l1]; exact z) fun h' tk acc c as hk hl las G eacc => ?_
  have lak : as.length = kvs.length := by omega
  have nd : as.Nodup := G.rise.imp fun h => Nat.ne_of_lt h
  have hz : (as.map V.ref).length ≤ sizeLine := by rw [List.length_map, lak]; exact z
  have I1 : L2.Inv X pins σ (upd H s.heap.objs.size (.lst (as.map V.ref))) { s with heap := h', toks := tk } := I.laid (t' := tk) hk (Nat.le_refl _) (show ObjOk X.prog X.w _ h' _ (.lst (as.map V.ref)) from ⟨hz, as.map Value.ref, c, vals_refs _, by
    rw [hl]
    have : acc = (as.map Value.ref).toArray := by
      apply Array.ext'
      rw [eacc]
    rw [this]⟩)
  have nS : H s.heap.objs.size = none := I.hok.fresh (Nat.le_refl _)
  have row : ∀ (j : Nat) (b : Addr), as[j]? = some b → ∃ (kv : List Key × V) (r : List Key × PyData) (x : KRow), kvs[j]? = some kv ∧ R[j]? = some r ∧ xs'[j]? = some x ∧ kv.1 = r.1 ∧ TD H kv.2 r.2 ∧ kv.1 = x.1 ∧ H x.2.1 = some (.tup (kv.1.map kV)) ∧ L2.RelV kv.2 x.2.2 ∧ h'.get? b = some { cls := .type "tuple", data := .seq #[.ref x.2.1, x.2.2] } := by
    intro j b hj
    obtain ⟨hj1, hg⟩ := G.pairs j b hj
    have hx1 : j < xs'.length := by omega
    have hxj := List.getElem?_eq_getElem hx1
    obtain ⟨kv, hkj, e1, e2, e3⟩ := DX.pget rel hxj
    have hrj : j < R.length := by omega
    have hR := List.getElem?_eq_getElem hrj
    obtain ⟨kv', hkj', e4, e5⟩ := DX.pget hkv hR
    have : kv' = kv := Option.some.inj (hkj'.symm.trans hkj)
    subst this
    have e6 := entry_at hes j
    rw [hxj, Array.getElem?_eq_getElem hj1] at e6
    have e7 : es[j] = entryOfKey (tupleKind (mixKind X.prog X.w)) xs'[j] := Option.some.inj e6
    rw [e7] at hg
    exact ⟨kv', R[j], xs'[j], hkj, hR, hxj, e4, e5, e1, e2, e3, hg⟩
  obtain ⟨H2, I2, k2, t2⟩ := DX.takeT (P := fun b vs => ∃ (j : Nat) (kv : List Key × V) (r : List Key × PyData) (x : Addr), as[j]? = some b ∧ kvs[j]? = some kv ∧ R[j]? = some r ∧ kv.1 = r.1 ∧ TD H kv.2 r.2 ∧ H x = some (.tup (kv.1.map kV)) ∧ vs = [V.ref x, kv.2]) I as _ I1 nd (fun b hb => by
    obtain ⟨j, hj⟩ := List.mem_iff_getElem?.mp hb
    have lt : s.heap.objs.size < b := G.above b hb
    obtain ⟨kv, r, x, e1, e2, e3, e4, e5, e6, e7, e8, e9⟩ := row j b hj
    refine ⟨Nat.le_of_lt lt, ?_, [V.ref x.2.1, kv.2], ⟨j, kv, r, x.2.1, hj, e1, e2, e4, e5, e7, rfl⟩, fun H2 => ⟨by show 2 ≤ sizeLine; decide, [.ref x.2.1, x.2.2], .cons rfl (.cons e8 .nil), _, e9, rfl, _, rfl⟩⟩
    rw [upd_ne (Nat.ne_of_gt lt)]
    exact I.hok.fresh (Nat.le_of_lt lt))
  have sm : Same H H2 := fun b o e => k2 b o (by rw [upd_ne (ne_of_none e nS)]; exact e)
  refine ⟨.ref s.heap.objs.size, H2, I2, rfl, q _ as H2 sm nS (k2 _ _ upd_same) (tds_get (by rw [List.length_map, lak, l3]) fun j b d hj hd => ?_)⟩
  obtain ⟨vs, ⟨j', kv, r, x, f1, f2, f3, f4, f5, f6, rfl⟩, hb2⟩ := t2 b (List.mem_of_getElem? hj)
  have ej : j' = j := by
    have h1 := (List.getElem?_eq_some_iff.mp f1)
    have h2 := (List.getElem?_eq_some_iff.mp hj)
    obtain ⟨a1, a2⟩ := h1
    obtain ⟨b1, b2⟩ := h2
    exact (List.getElem_inj nd).mp (a2.trans b2.symm)
  subst ej
  rw [List.getElem?_map, f3] at hd
  obtain rfl : itemD r = d := Option.some.inj hd
  refine .tup hb2 (.cons (.tup (sm _ _ f6) ?_) (.cons (f5.mono (Tups.same sm)) .nil))
  rw [f4]
  exact tds_keys _
end
end Sb

/-! for k, v in d.items(), the keys tuples. -/
namespace Sb
open PySem PySem.Spec PyProof.Rows L2
def Itit (d : Addr) (o : Obj) (kvs : List (List Key × V)) : It where
  go i H := H d = some (.frz o (.dT kvs)) ∧ i < kvs.length
  yld i H x H' := ∃ T k v q, kvs[i]? = some (k, v) ∧ x = V.ref T ∧ H q = some (.tup (k.map kV)) ∧ H T = none ∧ H' = upd H T (.tup [.ref q, v])
  stop i H := H d = some (.frz o (.dT kvs)) ∧ kvs.length ≤ i
theorem frzT' {X : Cx} {pins : List (Addr × Obj)} {σ : L2.St} {H : Hp} {s : Shared} {d : Addr} {o : Obj} {kvs : List (List Key × V)} (I : L2.Inv X pins σ H s) (hd : H d = some (.frz o (.dT kvs))) :
    s.heap.get? d = some o ∧ o.ExactDict ∧ (d == sysModules) = false ∧ ∃ es ep, o.data = .dict es ep ∧ es.size = kvs.length ∧ ∀ (i : Nat) (k : List Key) (v : V), kvs[i]? = some (k, v) → ∃ en q, es[i]? = some en ∧ en.key = Value.ref q ∧ H q = some (.tup (k.map kV)) ∧ L2.RelV v en.val := by
  have x : ObjOk X.prog X.w H s.heap d (.frz o (.dT kvs)) := I.hok d _ hd
  simp only [ObjOk] at x
  obtain ⟨h1, z, h2, xs, rel, o', es, ep, h3, h4, h5, h6, h7⟩ := x
  have eo : o' = o := Option.some.inj (h3.symm.trans h1)
  subst eo
  have l1 : kvs.length = xs.length := Paired.length rel
  refine ⟨h1, h4, h2, es, ep, h5, by rw [size_of_entries h6, l1], fun i k v hi => ?_⟩
  have lt : i < xs.length := by
    have := (List.getElem?_eq_some_iff.mp hi).1
    omega
  have hx := List.getElem?_eq_getElem lt
  obtain ⟨kv, hk, e1, e2, e3⟩ := DX.pget rel hx
  have ek : kv = (k, v) := Option.some.inj (hk.symm.trans hi)
  subst ek
  have e6 := entry_at h6 i
  rw [hx] at e6
  exact ⟨_, xs[i].2.1, e6, rfl, e2, e3⟩
theorem turn_itemsT {P : Program} {w : World} {K : PySem.W.Frag} {d : Addr} {o : Obj} {es : Array DictEntry} {ep : Nat} {kvs : List (List Key × V)} {elts : List Expr} {kk : Nat} {tpos : Pos} (it : Addr) (hod : o.data = .dict es ep) :
    Turn P w K (.Tuple elts kk tpos) (Itit d o kvs) [it] it fun i h => ∃ ok ov, IsItemIter h it d i kvs.length ep ok ov where
  mem := List.mem_cons_self
  obj := fun i h ⟨ok, ov, e⟩ b hb => by
    obtain rfl : b = it := by simpa using hb
    exact ⟨_, e, fun v z => nomatch z⟩
  keep := fun i h h' ⟨ok, ov, e⟩ k => ⟨ok, ov, k it List.mem_cons_self _ e⟩
  item := by
    intro X hP hw hK hc i pins s σ H E I hf st hg
    subst hP hw
    obtain ⟨hd, hi⟩ := hg
    obtain ⟨hgd, hx, hs, es', ep', hdt, hsz, ent⟩ := frzT' I hd
    obtain ⟨e1, e2⟩ := dict_ep hod hdt
    subst e1 e2
    obtain ⟨⟨k, v⟩, hkv⟩ : ∃ p, kvs[i]? = some p := ⟨_, List.getElem?_eq_getElem hi⟩
    obtain ⟨en, q, hen, hkey, hq, rv⟩ := ent i k v hkv
    obtain ⟨ok, ov, he⟩ := st
    rw [← hsz] at he
    have hlt := Heap.lt_size he
    have hlt' : i < es'.size := by omega
    have een : es'[i] = en := Option.some.inj ((Array.getElem?_eq_getElem hlt').symm.trans hen)
    refine wpAny_pyNext_items_item_raw he ⟨o, hgd, hx, hdt⟩ hlt' fun h' ho hT hz hk => ⟨_, rfl, ?_⟩
    rw [een] at ho hT
    refine wpAny_letOwnedTupleGo_items ho fun h'' he' sb => ?_
    have hT2 : h''.get? s.heap.objs.size = some { cls := .type "tuple", data := .seq #[en.key, en.val] } := (sb.2 _ (Nat.ne_of_gt hlt)).trans hT
    have new : ObjOk X.prog X.w (upd H s.heap.objs.size (.tup [.ref q, v])) h'' s.heap.objs.size (.tup [.ref q, v]) := ⟨by show 2 ≤ sizeLine; decide, [en.key, en.val], .cons hkey (.cons rv .nil), _, hT2, rfl, _, rfl⟩
    have I1 := Inv.turnedNew (t' := s.toks) I (ch := [it]) (fun b ob hb e => by
      have nb : b ≠ it := fun z => hb (z ▸ List.mem_cons_self)
      exact (sb.2 b nb).trans (hk b ob nb e)) hf (Nat.le_refl _) new
    refine ⟨.ref s.heap.objs.size, _, I1, rfl, ⟨_, k, v, q, hkv, rfl, hq, I.hok.fresh (Nat.le_refl _), rfl⟩, ⟨_, _, by rw [hsz] at he'; exact he'⟩, fun b hb => ?_⟩
    obtain rfl : b = it := by simpa using hb
    rw [upd_ne (Nat.ne_of_lt hlt)]
    exact (hf b List.mem_cons_self).1
  done := by
    intro X hP hw hK hc i pins s σ H E I hf st hg
    subst hP hw
    obtain ⟨hd, hi⟩ := hg
    obtain ⟨hgd, hx, hs, es', ep', hdt, hsz, ent⟩ := frzT' I hd
    obtain ⟨e1, e2⟩ := dict_ep hod hdt
    subst e1 e2
    obtain ⟨f0, f1, f2, f3, f4, f5⟩ := hf it List.mem_cons_self
    obtain ⟨ok, ov, he⟩ := st
    rw [← hsz] at he
    exact wpAny_pyNext_items_end_raw (I.ok.hd hc) he ⟨o, hgd, hx, hdt⟩ (by omega) fun h' eb => ⟨rfl, Inv.turned I (fun b ob hb e => eb b ob hb e) f0 f1 f3 f4 f5⟩
  self := fun A i s Q E ⟨_, _, e⟩ h => PySem.W.kcp_self e h
section
variable {X : Cx}
def iItemsT (td : TE) : TI := fun σ H R => td σ H fun x H1 => ∃ d o kvs, x = V.ref d ∧ H1 d = some (.frz o (.dT kvs)) ∧ R (Itit d o kvs) H1
theorem pi_itemsT {e : Expr} {td : TE} {apos cpos : Pos} {elts : List Expr} {kk : Nat} {tpos : Pos} (he : PE X e td) (hbase : attributeBase e (Str.ofString "items") X.env (eval e X.env) = eval e X.env := by rfl) (hline : (apos.endLine == cpos.line) = true := by rfl) :
    PI X (.Tuple elts kk tpos) (.Call (.Attribute e (Str.ofString "items") apos) [] [] cpos) (iItemsT td) := by
  refine ⟨fun pins s σ H R I h => ?_⟩
  refine wpAny_Call_method hbase rfl hline PySem.F.plainAttrs_dict PySem.F.slot_dict_items PySem.F.type_dict_items (thn (he.run pins s σ H _ I h) fun u s1 ⟨x, H1, I1, rx, d, o, kvs, ex, hd, q⟩ => ?_)
  subst ex
  obtain rfl : u = Value.ref d := rx
  obtain ⟨hgd, hx, hs, es, ep, hdt, hsz, ent⟩ := frzT' I1 hd
  have raw : DT.Raw s1.heap d es ep := ⟨o, hgd, hx, hdt⟩
  refine ⟨DT.Raw.typeIs raw, fun a e => by cases e; exact ⟨o, hgd, hx.2.1⟩, ?_⟩
  have I2 : L2.Inv X pins σ H1 { s1 with heap := s1.heap.push { cls := .type "dict_items", data := .fields #[.ref d] } } := Inv.kept I1 fun b ob q => Heap.get?_push_of_some _ q
  have fin := DT.iterI (prog := X.prog) (w := X.w) (A := X.A) (E := X.xe) (Q := PIE X pins σ (.Tuple elts kk tpos) R) (s := { s1 with heap := s1.heap.push { cls := .type "dict_items", data := .fields #[.ref d] } }) (v := s1.heap.objs.size) ⟨_, Heap.get?_push_size _ rfl, rfl, rfl⟩ (DT.Raw.push raw _) (pi_one I2 _ (turn_itemsT _ hdt) ⟨.none, .none, by rw [← hsz]; exact Heap.get?_push_size _ rfl⟩ q)
  refine method_meetsIn PySem.F.slot_dict_items PySem.F.entry_dict_items rfl (PySem.evalArgs_none ⟨rfl, DT.Raw.typeIs raw, PySem.F.args_dict_items_1 _, _, DT.meetsItems hs, raw, fin⟩)
end
theorem walk_itemsT {d : Addr} {o : Obj} {kvs : List (List Key × V)} : Walk (Itit d o kvs) kvs.length (fun H => H d = some (.frz o (.dT kvs))) (fun i H x H' => ∃ T k v q, kvs[i]? = some (k, v) ∧ x = V.ref T ∧ H q = some (.tup (k.map kV)) ∧ H T = none ∧ H' = upd H T (.tup [.ref q, v])) where
  goes := fun _ _ hi q => ⟨q, hi⟩
  stops := fun _ q => ⟨q, Nat.le_refl _⟩
  yields := fun _ _ _ _ _ _ y => y
end Sb

/-! Dicts with tuple keys that are equal, also within tuples. -/
namespace Sb
open PySem PySem.Spec PyProof.Rows L2
open PySem.SeqAt (EqIn EqAt)
section
variable {prog : Program} {w : World} {K : Type} [DecidableEq K] {knd : HeapKind prog w K} {A : Around} {E : Value → Shared → Prop} {s : Shared}
theorem samePairsH {nm : String} {a b : Addr} {xs ys : List (K × Addr × Value)} {Q : Bool → Shared → Prop} (ha : (a == sysModules) = false) (hb : (b == sysModules) = false) (hu : knd.room A)
    (da : s.heap.DictOfH knd a xs) (db : s.heap.DictOfH knd b ys) (hl : xs.length = ys.length) (hit : ∀ x ∈ xs, ∃ (j : Nat) (p : Addr × Value), ys[j]? = some (x.1, p) ∧ EqIn prog w A s x.2.2 p.2 true) (h : Q true s) :
    wpAny (model prog w) A (Builtin.Dict.samePairs nm a b) Q E s := by
  obtain ⟨oa, es, ep, hoa, _, hda, hea, hia, hna⟩ := da
  obtain ⟨ob, es', ep', hob, _, hdb, heb, hib, hnb⟩ := db
  have hla : es.size = xs.length := size_of_entries hea
  have hlb : es'.size = ys.length := size_of_entries heb
  have hsz : es.size = es'.size := by omega
  unfold Builtin.Dict.samePairs Builtin.Dict.showsAll
  rw [if_neg (show ¬ (a == sysModules) = true by rw [ha]; exact Bool.false_ne_true), if_neg (show ¬ (b == sysModules) = true by rw [hb]; exact Bool.false_ne_true)]
  refine wpAny_bind (wpAny_pure (wpAny_bind (wpAny_pure ?_)))
  refine wpAny_bind (wpAny_dictEntries hoa hda ?_)
  dsimp only
  refine wpAny_bind (wpAny_dictEntries hob hdb ?_)
  rw [if_neg (by rw [hsz]; simp)]
  refine wpAny_bind (wpAny_dictEpoch hoa hda ?_)
  refine wpAny_bind ?_
  rw [Std.Legacy.Range.forIn_eq_forIn_range']
  simp only [Std.Legacy.Range.size, Nat.sub_zero, Nat.add_sub_cancel, Nat.div_one]
  refine wpAny_forIn_list _ (fun rest q s' => s' = s ∧ q = (none, ()) ∧ ∃ i, rest = List.range' i (es.size - i) ∧ i ≤ es.size) _ ?_ ?_ _ _ ⟨rfl, rfl, 0, by simp, Nat.zero_le _⟩
  · rintro x rest q s' ⟨rfl, rfl, i, hr, hi⟩
    have hlt : i < es.size := by
      rcases Nat.lt_or_ge i es.size with h | h
      · exact h
      · rw [Nat.sub_eq_zero_of_le h] at hr; simp at hr
    obtain ⟨rfl, hrest⟩ : x = i ∧ rest = List.range' (i + 1) (es.size - (i + 1)) := by
      have e : es.size - i = (es.size - (i + 1)) + 1 := by omega
      rw [e, List.range'_succ] at hr
      injection hr with h1 h2
      exact ⟨h1, h2⟩
    refine wpAny_bind (wpAny_dictEntries hoa hda ?_)
    have hlt' : x < xs.length := by omega
    obtain ⟨⟨k, ka, v⟩, hkv⟩ : ∃ y, xs[x]? = some y := ⟨_, List.getElem?_eq_getElem hlt'⟩
    have hex : es[x]? = some ⟨knd.hash k, .ref ka, v⟩ := by rw [entry_at hea x, hkv]; rfl
    rw [hex]
    have hmem := List.mem_of_getElem? hkv
    have hka : knd.is s'.heap k ka := hia _ hmem
    obtain ⟨j, p, hj, he⟩ := hit _ hmem
    show wpAny _ _ (holding [Value.ref ka, v] _ >>= _) _ _ _
    refine wpAny_bind (wpAny_holding (wpAny_bind (wpAny_dictFind_heap hu hka hob hdb heb hib hnb (fun no => absurd hj (no j p)) (fun j' p' hj' => ?_))))
    have ejj : p' = p := by
      have i1 := (List.getElem?_eq_some_iff.mp hj).1
      have i2 := (List.getElem?_eq_some_iff.mp hj').1
      have e1 : (ys.map (·.1))[j]? = some k := by rw [List.getElem?_map, hj]; rfl
      have e2 : (ys.map (·.1))[j']? = some k := by rw [List.getElem?_map, hj']; rfl
      have ee : j' = j := by
        rw [List.getElem?_eq_getElem (by rw [List.length_map]; exact i1)] at e1
        rw [List.getElem?_eq_getElem (by rw [List.length_map]; exact i2)] at e2
        have same := (Option.some.inj e2).trans (Option.some.inj e1).symm
        have pw := List.pairwise_iff_getElem.mp (show (ys.map (·.1)).Pairwise (· ≠ ·) from hnb)
        rcases Nat.lt_trichotomy j' j with z | z | z
        · exact absurd same (pw _ _ _ _ z)
        · exact z
        · exact absurd same.symm (pw _ _ _ _ z)
      subst ee
      rw [hj] at hj'
      exact ((Prod.mk.inj (Option.some.inj hj')).2).symm
    subst ejj
    have hex' : es'[j']? = some ⟨knd.hash k, .ref p'.1, p'.2⟩ := by rw [entry_at heb j', hj']; rfl
    refine wpAny_bind (wpAny_dictEntries hob hdb ?_)
    rw [hex']
    refine wpAny_holding (he _ _ ?_)
    show wpAny _ _ (if (!true) = true then _ else _) _ _ _
    rw [if_neg (by decide)]
    refine wpAny_bind (wpAny_dictEpoch hoa hda ?_)
    rw [if_neg (by simp)]
    exact wpAny_pure ⟨rfl, rfl, x + 1, hrest, hlt⟩
  · rintro q s' ⟨rfl, rfl, i, hr, hi⟩
    exact wpAny_pure h
theorem rc_dictsH {a b : Addr} {xs ys : List (K × Addr × Value)} (ha : (a == sysModules) = false) (hb : (b == sysModules) = false) (hr : knd.room A.in1)
    (da : s.heap.DictOfH knd a xs) (db : s.heap.DictOfH knd b ys) (hu : A.units < cLine) (hl : xs.length = ys.length) (hit : ∀ x ∈ xs, ∃ (j : Nat) (p : Addr × Value), ys[j]? = some (x.1, p) ∧ EqIn prog w A.in1 s x.2.2 p.2 true)
    (E Q : Value → Shared → Prop) (h : Q (.bool true) s) : wpAny (model prog w) A (richCompare .Eq (.ref a) (.ref b)) Q E s := by
  refine wpAny_richCompare_same_room (op := .Eq) (Heap.DictOfH.typeIs da) (Heap.DictOfH.typeIs db) PySem.F.slot_dict_eq (wpAny_call_entry PySem.F.slot_dict_eq (Heap.DictOfH.typeIs da) PySem.F.entry_dict_eq ?_ (PySem.F.args_dict_eq_2 _ _)) hu
  show wpAny _ _ (Builtin.Dict.dictSlotArgs "__eq__" ⟨[.ref a, .ref b], []⟩ >>= _) _ _ s
  refine wpAny_bind ?_
  unfold Builtin.Dict.dictSlotArgs
  refine wpAny_bind (wpAny_notOrdered_dict (Heap.DictOfH.typeIs da) ?_)
  show wpAny _ _ (pure (Value.ref a, Value.ref b)) _ _ s
  refine wpAny_pure ?_
  refine wpAny_bind (wpAny_isInstance (T := "dict") (Heap.DictOfH.typeIs db) PySem.F.sub_dict_dict ?_)
  simp only [Bool.not_true, Bool.false_eq_true, if_false]
  refine wpAny_bind (wpAny_pure (wpAny_bind (wpAny_pure ?_)))
  refine wpAny_bind (samePairsH ha hb hr da db hl hit ?_)
  refine wpAny_pure ⟨_, rfl, ?_, ?_⟩
  · exact fun x => nomatch x
  · exact h
end
end Sb

namespace PySem
namespace SeqAt
open AutoSeq1 (wpAny_loadPart')
open MeetsSeq MeetsSeq2 MeetsSeq3 SeqRoads2
section
variable {prog : Program} {w : World} {A : Around} {E : Value → Shared → Prop} {s : Shared}
/-- (x0, x1) != (y0, y1) where both items are equal -/
theorem pairs_same {l b : Addr} {x0 x1 y0 y1 : Value} (n n2 : Nat) (dd dd2 : Option Addr) (sl sl2 : Array (Option Value)) :
    MeetsIn prog w (Builtin.«tuple.__ne__» ⟨[.ref l, .ref b], []⟩)
      (fun A R s => s.heap.get? l = some { cls := .type "tuple", dict := dd, data := .seq #[x0, x1] n, slots := sl } ∧ s.heap.get? b = some { cls := .type "tuple", dict := dd2, data := .seq #[y0, y1] n2, slots := sl2 } ∧
        EqIn prog w A.in1 s x0 y0 true ∧ EqIn prog w A.in1 s x1 y1 true ∧ R (.ok (.ret (.bool false))) s) :=
  MeetsIn.of_wp fun A R s h => by
    obtain ⟨hp, g, d, tk, os⟩ := s
    obtain ⟨hl, hb, h0, h1, h⟩ := h
    have f2 := AutoSeq1.sub_tuple_tuple
    wp_walk using wpAny_loadPart' hl, wpAny_loadPart' hb, wpAny_forIn_list _ (fun rest q s' => q.1 = none ∧ s' = (⟨hp, g, d, tk, os⟩ : Shared) ∧ ∀ z ∈ rest, z = (x0, y0) ∨ z = (x1, y1)) _
    case turn =>
      rintro ⟨y, x⟩ rest q s' ⟨e1, rfl, al⟩
      have go : EqIn prog w A.in1 ⟨hp, g, d, tk, os⟩ y x true := by
        rcases al _ List.mem_cons_self with z | z
        · rw [(Prod.mk.inj z).1, (Prod.mk.inj z).2]
          exact h0
        · rw [(Prod.mk.inj z).1, (Prod.mk.inj z).2]
          exact h1
      refine wpAny_bind (go _ _ ?_)
      wp_walk
      exact ⟨rfl, rfl, fun z hz => al z (List.mem_cons_of_mem _ hz)⟩
    case fin =>
      rintro ⟨q1, q2⟩ s' ⟨e1, rfl, al⟩
      simp only at e1
      subst e1
      wp_walk
      exact ⟨_, rfl, by simpa [Builtin.Tuple.tupleCompareSizes] using h⟩
    case h =>
      exact ⟨rfl, rfl, fun z hz => by simpa using hz⟩
/-- the comparison itself -/
theorem rc_pairs_same {l b : Addr} {x0 x1 y0 y1 : Value} {Q : Value → Shared → Prop} (hl : s.heap.IsTuple l #[x0, x1]) (hb : s.heap.IsTuple b #[y0, y1]) (hu : A.units < cLine)
    (h0 : EqIn prog w A.in1 s x0 y0 true) (h1 : EqIn prog w A.in1 s x1 y1 true) (h : Q (.bool false) s) : wpAny (model prog w) A (compareOp .NotEq (.ref l) (.ref b)) Q E s := by
  obtain ⟨⟨cls, dd, data, sl⟩, ho, hc, n, hd⟩ := id hl
  obtain ⟨⟨cls2, dd2, data2, sl2⟩, ho2, hc2, n2, hd2⟩ := id hb
  simp only at hc hd hc2 hd2
  subst hc hd hc2 hd2
  refine wpAny_richCompare_same_room (T := "tuple") (op := .NotEq) ⟨_, ho, rfl⟩ ⟨_, ho2, rfl⟩ F.slot_tuple_ne (call_meetsIn F.slot_tuple_ne ⟨_, ho, rfl⟩ F.entry_tuple_ne (F.args_tuple_ne_2 _ _) (pairs_same n n2 dd dd2 sl sl2) ⟨ho, ho2, ?_, ?_, ?_⟩) hu
  · exact h0
  · exact h1
  · exact ⟨(fun x => nomatch x), h⟩
end
end SeqAt
end PySem
namespace Sb
open PySem PySem.Spec PyProof.Rows L2
open PySem.SeqAt (EqIn EqAt)
theorem atKey_ix {ys : List (List Key × Addr × Value)} {k : List Key} {q : Addr × Value} (h : atKey ys k = some q) : ∃ j : Nat, ys[j]? = some (k, q) := by
  unfold atKey at h
  cases e : ys.find? (fun p => decide (p.1 = k)) with
  | none =>
    rw [e] at h
    cases h
  | some y =>
    rw [e] at h
    obtain ⟨y1, y2⟩ := y
    have z := List.find?_some e
    have m := List.mem_of_find?_eq_some e
    have e1 : y1 = k := of_decide_eq_true z
    have e2 : y2 = q := Option.some.inj h
    subst e1 e2
    obtain ⟨j, hj, ej⟩ := List.getElem_of_mem m
    exact ⟨j, by rw [List.getElem?_eq_getElem hj, ej]⟩
theorem paired_right {α β : Type} {F : α → β → Prop} : ∀ {l₁ : List α} {l₂ : List β} {y : β}, Paired F l₁ l₂ → y ∈ l₂ → ∃ x ∈ l₁, F x y
  | _, _, _, .nil, h => by cases h
  | _, _, y, .cons (a := a) (b := b) h t, m => by
    rcases List.mem_cons.mp m with rfl | m
    · exact ⟨a, List.mem_cons_self, h⟩
    · obtain ⟨x, hx, r⟩ := paired_right t m
      exact ⟨x, List.mem_cons_of_mem _ hx, r⟩
section
variable {X : Cx}
/-- (d, n) != (d', n), the dicts with tuple keys and equal rows -/
def rNeDn : R2 := fun x y H Q => ∃ (t1 t2 a b : Addr) (n : Int) (kvs kvs' : List (List Key × V)), x = .ref t1 ∧ y = .ref t2 ∧ H t1 = some (.tup [.ref a, .int n]) ∧ H t2 = some (.tup [.ref b, .int n]) ∧ a ≠ b ∧ H a = some (.dT kvs) ∧ H b = some (.dT kvs') ∧
  kvs.length = kvs'.length ∧ (∀ p ∈ kvs, ∃ v d, valV kvs' p.1 = some v ∧ TD H p.2 d ∧ TD H v d ∧ d.canLay0 = true ∧ d.depth ≤ 10) ∧ Q (.bl false) H
theorem op_neDn (hu : X.A.units + 64 < cLine) : OpR X (compareOp .NotEq) rNeDn := by
  intro pins s σ H x y v u Q I rx ry h
  obtain ⟨t1, t2, a, b, n, kvs, kvs', rfl, rfl, h1, h2, hne, ha, hb, hl, al, q⟩ := h
  obtain rfl : v = Value.ref t1 := rx
  obtain rfl : u = Value.ref t2 := ry
  obtain ⟨i1, r1, p1, _⟩ := I.tuple (SqT.of h1)
  obtain ⟨i2, r2, p2, _⟩ := I.tuple (SqT.of h2)
  obtain ⟨z1, lo1, xs, rel1, dd1⟩ := dt_of I.hok ha
  obtain ⟨z2, lo2, ys, rel2, dd2⟩ := dt_of I.hok hb
  cases r1 with
  | cons ra t =>
    cases t with
    | cons rn t =>
      cases t
      cases r2 with
      | cons rb t =>
        cases t with
        | cons rm t =>
          cases t
          obtain rfl : _ = Value.ref a := ra
          obtain rfl : _ = Value.ref b := rb
          obtain ⟨k1, rfl⟩ := rn
          obtain ⟨k2, rfl⟩ := rm
          refine SeqAt.rc_pairs_same p1 p2 (by omega) (EqIn.of_refs hne fun E Q hq => ?_) ((by rw [show true = (n == n) by simp]; exact (EqAt.int_int n k1 n k2).inModel _ _)) ⟨.bl false, H, I, rfl, q⟩
          refine rc_dictsH lo1 lo2 (tupleKind_room_in1 (by show X.A.units + 1 + 1 < cLine; omega)) dd1 dd2 (by show X.A.units + 1 < cLine; omega) (by rw [← Paired.length rel1, ← Paired.length rel2]; exact hl) (fun x hx => ?_) E Q hq
          obtain ⟨p, hp, e1, _, rp⟩ := paired_right rel1 hx
          obtain ⟨v, d, ev, td1, td2, cl, dp⟩ := al p hp
          have rv := KT.val rel2 p.1
          rw [ev] at rv
          cases hq : atKey ys p.1 with
          | none => rw [hq] at rv; exact rv.elim
          | some w =>
            rw [hq] at rv
            obtain ⟨j, hj⟩ := atKey_ix hq
            obtain ⟨as, ra⟩ := Dp.reads I d p.2 x.2.2 (td1.dp _) rp
            obtain ⟨bs, rb⟩ := Dp.reads I d v w.2 (td2.dp _) rv
            refine ⟨j, w, by rw [← e1]; exact hj, ?_⟩
            have sh : SeqAt.shaped d = true := by
              unfold SeqAt.shaped
              rw [cl, decide_eq_true (Nat.le_trans dp (by decide))]
              rfl
            have z := SeqAt.eqAt_reads d d X.A.in1.in1 s x.2.2 w.2 as bs ra rb cl cl (by show X.A.units + 1 + 1 + min d.depth d.depth < cLine; omega)
            rw [SeqAt.eqv_refl d cl] at z
            exact z.inModel _ _
end
end Sb

/-! del xs[a:] of a list. -/
namespace Sb
open PySem PySem.Spec PyProof.Rows L2
open PySem.F
theorem bounds_from {a n : Nat} (h : a ≤ n) : sliceBounds (some (a : Int)) none none n = ((a : Int), (n : Int), 1) := by
  simp only [sliceBounds, Option.getD_none]
  have h1 : ¬ ((a : Int) < 0) := by omega
  simp only [h1, if_false, show (1 : Int) > 0 by decide, if_true]
  congr 1
  omega
theorem keep_below {n : Nat} (f : Nat → Bool) (a : Nat) (hf : ∀ i : Nat, i < n → f i = decide (a ≤ i)) : ∀ (xs : List Value) (k : Nat), k + xs.length ≤ n →
    (xs.zipIdx k).filterMap (fun p => if f p.2 then none else some p.1) = xs.take (a - k)
  | [], _, _ => by simp
  | x :: r, k, h => by
    have hk : k < n := by
      rw [List.length_cons] at h
      omega
    have ih := keep_below f a hf r (k + 1) (by rw [List.length_cons] at h; omega)
    rw [List.zipIdx_cons, List.filterMap_cons]
    by_cases z : a ≤ k
    · have e : f k = true := by rw [hf k hk]; exact decide_eq_true z
      rw [show (if f (x, k).2 = true then none else some (x, k).1) = (none : Option Value) by show (if f k = true then none else some x) = none; rw [e]; rfl]
      dsimp only
      rw [ih, show a - (k + 1) = 0 by omega, show a - k = 0 by omega]
      rfl
    · have e : f k = false := by rw [hf k hk]; exact decide_eq_false z
      rw [show (if f (x, k).2 = true then none else some (x, k).1) = some x by show (if f k = true then none else some x) = some x; rw [e]; rfl]
      dsimp only
      rw [ih, show a - k = (a - (k + 1)) + 1 by omega]
      rfl
section
variable {prog : Program} {w : World} {A : Around} {E : Value → Shared → Prop} {s : Shared}
theorem delItem_from {l sl : Addr} {items : List Value} {n : Nat} {vl : Value} {a : Nat} {Q : Unit → Shared → Prop}
    (e : s.heap.get? l = some { cls := .type "list", data := .seq items.toArray n }) (hs : s.heap.IsSliceOf sl vl .none .none) (pl : IsPart vl (some (a : Int))) (ha : a ≤ items.length) (hsz : items.length ≤ sizeLine)
    (h : ∀ f : Array Value → Array Value, f items.toArray = (items.take a).toArray → Q () { s with heap := s.heap.update l (Obj.mapSeq f) }) : wpAny (model prog w) A (delItem (.ref l) (.ref sl)) Q E s := by
  have hl : s.heap.IsList l items.toArray := PySem.IsL.isList e
  obtain ⟨os, hos, hcs, hds⟩ := id hs
  have hTs : s.TypeIs (.ref sl) "slice" := ⟨os, hos, hcs⟩
  have hstep : ¬ ((rawPart none == rawInt 0) = true) := Bool.false_ne_true
  refine wpAny_delItem_slot hl.typeIs (by decide) slot_list_delitem (wpAny_call_entry slot_list_delitem hl.typeIs entry_list_delitem ?_ (args_list_delitem_2 _ _))
  show wpAny _ _ (Builtin.List.listSubscript? (.ref sl) >>= _) _ _ s
  refine wpAny_bind ?_
  unfold Builtin.List.listSubscript?
  refine wpAny_bind (wpAny_specialOf hTs slice_no_index ?_)
  simp only [Option.isNone_none, if_true]
  refine wpAny_pure ?_
  show wpAny _ _ (typeOf (.ref sl) >>= _) _ _ s
  refine wpAny_bind (wpAny_typeOf hTs ?_)
  first
    | rw [if_neg (by decide)]
    | refine PySem.W.KFB.if_not (by decide) ?_
  rw [listSliceParts_eq]
  refine wpAny_bind (wpAny_bind (wpAny_field hos hds (x := .none) rfl (wpAny_bind (wpAny_listPart .none ?_))))
  rw [if_neg hstep]
  refine wpAny_bind (wpAny_field hos hds (x := vl) rfl (wpAny_bind (wpAny_listPart pl ?_)))
  refine wpAny_bind (wpAny_field hos hds (x := .none) rfl (wpAny_bind (wpAny_listPart .none (wpAny_pure ?_))))
  refine wpAny_bind (m := Builtin.List.listItems (.ref l)) ?_
  unfold Builtin.List.listItems
  refine wpAny_bind (wpAny_seqItems e rfl (wpAny_pure ?_))
  refine wpAny_bind (wpAny_of_eq ((sliceIndices_raw (some (a : Int)) none none items.toArray.size (by simp)).trans (congrArg (pure : Int × Int × Int → Sem (Int × Int × Int)) (bounds_from (by simpa using ha)))) ?_)
  refine wpAny_bind (wpAny_rule ?_)
  have hf : ∀ f : Nat → Bool, (∀ i : Nat, i < items.length → f i = decide (a ≤ i)) → (List.filterMap (fun x : Value × Nat => if f x.2 = true then none else some x.1) items.toArray.toList.zipIdx).toArray = (items.take a).toArray := fun f hf =>
    congrArg List.toArray (keep_below (n := items.length) f a hf items 0 (by omega))
  unfold Builtin.List.listUpdate
  dsimp only
  refine wpAny_bind (wpAny_updateSeq (hz := by simpa using hsz) (_hz' := ?_) e rfl ?_)
  · refine wpAny_bind (wpAny_letGo ?_)
    refine wpAny_pure ⟨.none, rfl, ?_⟩
    refine h _ ?_
    refine hf _ fun i hi => ?_
    show ((decide ((a : Int) ≤ (i : Int)) && decide ((i : Int) < (items.toArray.size : Int))) && (((i : Int) - a) % 1 == 0)) = decide (a ≤ i)
    simp
    omega
  · refine Nat.le_trans (Nat.le_of_eq (congrArg Array.size (hf _ fun i hi => ?_))) ?_
    · show ((decide ((a : Int) ≤ (i : Int)) && decide ((i : Int) < (items.toArray.size : Int))) && (((i : Int) - a) % 1 == 0)) = decide (a ≤ i)
      simp
      omega
    · simp
      omega
end
section
variable {X : Cx}
/-- del o[lo:] of a list -/
def tDelFrom (to : TE) (tl : TO) : TS := fun D σ H => to σ H fun x H1 => tl σ H1 fun lo H2 => ∃ (l : Addr) (xs : List V) (a : Nat), x = .ref l ∧ lo = some (a : Int) ∧ H2 l = some (.lst xs) ∧ a ≤ xs.length ∧ D.nx σ (upd H2 l (.lst (xs.take a)))
theorem vals_take : ∀ {xs : List V} {us : List Value} (k : Nat), Vals xs us → Vals (xs.take k) (us.take k)
  | _, _, 0, _ => by simp only [List.take_zero]; exact .nil
  | _, _, _ + 1, .nil => by simp only [List.take_nil]; exact .nil
  | _, _, k + 1, .cons h t => .cons h (vals_take k t)
theorem ps_delFrom {o lo : Expr} {to : TE} {tl : TO} {pos tpos p2 : Pos} (ho : PE X o to) (hi : PO X (some lo) tl) : PS X (.Delete [.Subscript o (.Slice (some lo) none none p2) tpos] pos) (tDelFrom to tl) := by
  refine ⟨fun pins s σ H D I h => ?_⟩
  refine wpAny_Delete (wpAny_deleteEach_cons (wpAny_delete_Subscript (thn (ho.run pins s σ H _ I h) fun u s1 ⟨x, H1, I1, rx, q1⟩ => ?_)))
  refine wpAny_Slice (thn (hi.run pins s1 σ H1 _ I1 q1) fun vl s2 ⟨l', H2, I2, pl, q2⟩ => ?_)
  rw [evalPart_none]
  refine wpAny_pure ?_
  refine wpAny_pure ?_
  obtain ⟨l, xs, a, ex, el, hH, ha, q3⟩ := q2
  subst ex el
  obtain rfl : u = Value.ref l := rx
  have I3 : L2.Inv X pins σ H2 { s2 with heap := s2.heap.push { cls := .type "slice", data := .fields #[vl, .none, .none] } } := I2.kept (t' := s2.toks) fun b ob q => Heap.get?_push_of_some _ q
  obtain ⟨z, its, n, r, hl, e⟩ := I3.lstM hH
  refine delItem_from e (Heap.IsSliceOf.new ..) pl (by rw [← hl]; exact ha) (by omega) fun f hf => ?_
  refine wpAny_deleteEach_nil ⟨σ, _, ?_, q3⟩
  refine I3.lset (its' := its.take a) (t' := s2.toks) hH e hf (vals_take a r) ?_
  rw [List.length_take]
  omega
end
end Sb

/-! sorted(a list of data), by the data's own order. -/
namespace Sb
open PySem PySem.Spec PyProof.Rows L2
open PySem.W (EachIs dataLe AllAlike Sortable)
/-- an item beside what it stands for -/
def rSortDd (K : PySem.W.Frag) {δ : Type} (enc : δ → PyData) : List V → Hp → VK → Prop := fun xs H Q => ∃ (l : Addr) (bs : List (V × δ)), xs = [.ref l] ∧ SqL K H l (bs.map (·.1)) ∧ (∀ b ∈ bs, Dp K H b.1 (enc b.2)) ∧ (∀ b b' : δ, PySem.W.alike (enc b) (enc b') = true) ∧ (∀ b : δ, ∃ x r, enc b = .tuple (x :: r)) ∧ (∀ b ∈ bs, (enc b.2).depth ≤ 8) ∧
  ∀ p, H p = none → Q (.ref p) (upd H p (.lst ((bs.mergeSort (dataLe false fun b => enc b.2)).map (·.1))))
theorem each_vals {δ : Type} : ∀ {bs : List (V × δ)} {us : List Value}, Vals (bs.map (·.1)) us → EachIs (fun u b => RelV b.1 u) us bs
  | [], _, h => by cases h; exact .nil
  | b :: bs, _, h => by
    cases h with
    | cons a t => exact .cons a (each_vals t)
theorem vals_each {δ : Type} : ∀ {bs : List (V × δ)} {us : List Value}, EachIs (fun u b => RelV b.1 u) us bs → Vals (bs.map (·.1)) us
  | [], _, h => by cases h; exact .nil
  | b :: bs, _, h => by
    cases h with
    | cons a t => exact .cons a (vals_each t)
theorem call_sortDd {X : Cx} {δ : Type} {enc : δ → PyData} (hu : X.A.units + 64 < cLine) : CallR X (.builtin "sorted") (rSortDd X.K enc) := by
  intro pins s σ H xs us Q I r h
  obtain ⟨l, bs, rfl, hl, hD, hal, hk, hdp, q⟩ := h
  obtain ⟨u, rfl, rx⟩ := vals1 r
  obtain rfl : u = Value.ref l := rx
  obtain ⟨its, rv, pl, hz⟩ := I.list hl
  have each := each_vals rv
  have le : its.length = bs.length := each.length
  have reads : EachIs (fun v b => ∃ as, Reads s.heap v (enc b.2) as) its bs := by
    have : ∀ {bs : List (V × δ)} {us : List Value}, (∀ b ∈ bs, Dp X.K H b.1 (enc b.2)) → EachIs (fun u b => RelV b.1 u) us bs → EachIs (fun v b => ∃ as, Reads s.heap v (enc b.2) as) us bs := by
      intro bs
      induction bs with
      | nil => intro us _ h; cases h; exact .nil
      | cons b bs ih =>
        intro us hd h
        cases h with
        | cons a t => exact .cons (Dp.reads I _ _ _ (hd b List.mem_cons_self) a) (ih (fun x hx => hd x (List.mem_cons_of_mem _ hx)) t)
    exact this hD each
  rw [List.length_map] at hz
  refine PySem.W.sorted_data (R := fun u b => RelV b.1 u) (enc := fun b : V × δ => enc b.2) pl.isList each reads (AllAlike.of fun a b => hal _ _) (Sortable.tuples fun b => hk _) hz (fun b hb => ?_) fun out lo ho => ?_
  · have := hdp b hb
    omega
  · obtain ⟨e, ee⟩ := sortedAll_at s.heap its (List.toArray out)
    have vo := vals_each ho
    have k : ∀ c o, s.heap.get? c = some o → (sortedAll s.heap its (List.toArray out)).get? c = some o := fun c o hc => sortedAll_old hc
    have hz2 : ((bs.mergeSort (dataLe false fun b => enc b.2)).map (·.1)).length ≤ sizeLine := by
      rw [List.length_map, (List.mergeSort_perm _ _).length_eq]
      exact hz
    exact ⟨.ref (s.heap.objs.size + 1), _, I.laid (o := .lst ((bs.mergeSort (dataLe false fun b => enc b.2)).map (·.1))) (t' := s.toks) k (Nat.le_succ _) ⟨hz2, out, e, vo, ee⟩, rfl, q _ (I.hok.fresh (Nat.le_succ _))⟩
end Sb

/-! Texts of streams: written, cut, read back. -/
namespace Sb
open PySem PySem.Spec PyProof.Rows L2 TL
/-! ### a number's signs -/
def intL (v : Int) : List Nat := if v < 0 then 45 :: numL v.natAbs else numL v.natAbs
theorem tl_int (v : Int) : tl (Str.ofString (toString v)) = intL v := by
  unfold intL
  by_cases h : v < 0
  · rw [if_pos h]
    obtain ⟨n, rfl⟩ : ∃ n : Nat, v = -((n + 1 : Nat) : Int) := ⟨v.natAbs - 1, by omega⟩
    rw [tl_ofString]
    have e : (toString (-((n + 1 : Nat) : Int))) = "-" ++ toString (((n + 1 : Nat) : Int)) := rfl
    rw [e, String.toList_append, List.map_append]
    have e2 := tl_num (n + 1)
    rw [tl_ofString] at e2
    rw [e2]
    have e3 : (-((n + 1 : Nat) : Int)).natAbs = n + 1 := by omega
    rw [e3]
    rfl
  · rw [if_neg h]
    obtain ⟨n, rfl⟩ : ∃ n : Nat, v = (n : Int) := ⟨v.natAbs, by omega⟩
    rw [tl_num]
    rfl
theorem numL_head0 : ∀ n : Nat, n ≠ 0 → ∃ c r, numL n = c :: r ∧ c ≠ 48 := by
  intro n
  induction n using Nat.strongRecOn with
  | _ n ih =>
    intro h0
    by_cases h : n < 10
    · exact ⟨48 + n, [], numL_lt h, by omega⟩
    · obtain ⟨c, r, e, hc⟩ := ih (n / 10) (by omega) (by omega)
      exact ⟨c, r ++ [48 + n % 10], by rw [numL_step (by omega), e]; rfl, hc⟩
theorem digitsVal_snoc (l : List Nat) (c : Nat) : NumText.digitsVal (l ++ [c]) = NumText.digitsVal l * 10 + (c - 48) := by
  unfold NumText.digitsVal
  rw [List.foldl_append]
  rfl
theorem digitsVal_pos : ∀ (l : List Nat) (a : Nat), 0 < a → 0 < l.foldl (fun acc c => acc * 10 + (c - 48)) a
  | [], _, h => h
  | c :: r, a, h => digitsVal_pos r (a * 10 + (c - 48)) (Nat.lt_of_lt_of_le (by omega : 0 < a * 10) (Nat.le_add_right _ _))
/-- signs that are a number's own -/
def Canon (l : List Nat) : Prop := NumText.AllDigits l ∧ l ≠ [] ∧ (l.head? ≠ some 48 ∨ l = [48])
theorem canon_numL (n : Nat) : Canon (numL n) := by
  refine ⟨numL_digits n, numL_ne n, ?_⟩
  by_cases h : n = 0
  · subst h
    exact .inr (numL_lt (by decide))
  · obtain ⟨c, r, e, hc⟩ := numL_head0 n h
    rw [e]
    exact .inl (fun z => hc (Option.some.inj z))
theorem canon_back : ∀ (k : Nat) (l : List Nat), l.length = k → Canon l → numL (NumText.digitsVal l) = l := by
  intro k
  induction k with
  | zero =>
    intro l hl h
    exact absurd (List.length_eq_zero_iff.mp hl) h.2.1
  | succ k ih =>
    intro l hl h
    obtain ⟨h1, h2, h3⟩ := h
    obtain ⟨r, c, rfl⟩ : ∃ r c, l = r ++ [c] := by
      rcases List.eq_nil_or_concat l with e | ⟨r, c, e⟩
      · exact absurd e h2
      · exact ⟨r, c, by rw [e, List.concat_eq_append]⟩
    have hc := h1 c (List.mem_append_right _ (List.mem_singleton.mpr rfl))
    rw [digitsVal_snoc]
    by_cases hr : r = []
    · subst hr
      show numL (0 * 10 + (c - 48)) = [c]
      rw [Nat.zero_mul, Nat.zero_add, numL_lt (by omega)]
      congr 1
      omega
    · have hr3 : r.head? ≠ some 48 := by
        rcases h3 with h3 | h3
        · intro z
          apply h3
          rw [List.head?_append, z]
          rfl
        · exfalso
          have := congrArg List.length h3
          rw [List.length_append] at this
          cases r with
          | nil => exact hr rfl
          | cons a b => simp at this
      have hcan : Canon r := ⟨fun d hd => h1 d (List.mem_append_left _ hd), hr, .inl hr3⟩
      have er := ih r (by rw [List.length_append] at hl; simp only [List.length_cons, List.length_nil] at hl; omega) hcan
      have hpos : 0 < NumText.digitsVal r := by
        cases r with
        | nil => exact absurd rfl hr
        | cons a b =>
          have ha := hcan.1 a List.mem_cons_self
          have : a ≠ 48 := fun z => hr3 (by rw [z]; rfl)
          show 0 < List.foldl (fun acc c => acc * 10 + (c - 48)) (0 * 10 + (a - 48)) b
          exact digitsVal_pos b _ (by omega)
      rw [numL_step (by omega)]
      have e1 : (NumText.digitsVal r * 10 + (c - 48)) / 10 = NumText.digitsVal r := by omega
      have e2 : (NumText.digitsVal r * 10 + (c - 48)) % 10 = c - 48 := by omega
      rw [e1, e2, er]
      congr 2
      omega
/-- the number that signs tell, with a minus ahead or not -/
def valOf : List Nat → Int
  | 45 :: r => -((NumText.digitsVal r : Nat) : Int)
  | l => ((NumText.digitsVal l : Nat) : Int)
/-- the digits of a value's signs -/
def digOf : List Nat → List Nat
  | 45 :: r => r
  | l => l
def allDig (l : List Nat) : Bool := l.all fun c => decide (48 ≤ c) && decide (c ≤ 57)
theorem allDig_iff {l : List Nat} : allDig l = true ↔ NumText.AllDigits l := by
  unfold allDig NumText.AllDigits
  rw [List.all_eq_true]
  constructor
  · intro h c hc
    have := h c hc
    simp only [Bool.and_eq_true, decide_eq_true_eq] at this
    exact this
  · intro h c hc
    have := h c hc
    simp only [Bool.and_eq_true, decide_eq_true_eq]
    exact this
/-- signs of a value as it is written -/
def goodVal (l : List Nat) : Bool := decide ((digOf l).length ≤ 60) && allDig (digOf l) && ((match digOf l with | [] => false | c :: _ => !decide (c = 48)) || decide (l = [48]))
theorem goodVal_ne {l : List Nat} (h : goodVal l = true) : digOf l ≠ [] := by
  intro z
  unfold goodVal at h
  rw [z] at h
  simp only [Bool.and_eq_true, Bool.or_eq_true, decide_eq_true_eq, Bool.false_eq_true, false_or] at h
  rw [h.2] at z
  cases z
theorem digOf_minus (r : List Nat) : digOf (45 :: r) = r := rfl
theorem valOf_minus (r : List Nat) : valOf (45 :: r) = -((NumText.digitsVal r : Nat) : Int) := rfl
theorem digOf_else {l : List Nat} (h : l.head? ≠ some 45) : digOf l = l := by
  unfold digOf
  split
  · exact absurd rfl h
  · rfl
theorem valOf_else {l : List Nat} (h : l.head? ≠ some 45) : valOf l = ((NumText.digitsVal l : Nat) : Int) := by
  unfold valOf
  split
  · exact absurd rfl h
  · rfl
theorem minus_or (l : List Nat) : (∃ r, l = 45 :: r) ∨ l.head? ≠ some 45 := by
  cases l with
  | nil => exact .inr (fun z => by cases z)
  | cons c r =>
    by_cases h : c = 45
    · exact .inl ⟨r, by rw [h]⟩
    · exact .inr (fun z => h (Option.some.inj z))
theorem goodVal_back {l : List Nat} (h : goodVal l = true) : intL (valOf l) = l := by
  have hne := goodVal_ne h
  unfold goodVal at h
  simp only [Bool.and_eq_true, Bool.or_eq_true, decide_eq_true_eq] at h
  obtain ⟨⟨h1, h2⟩, h3⟩ := h
  have h2 := allDig_iff.mp h2
  rcases minus_or l with ⟨r, rfl⟩ | hm
  · rw [digOf_minus] at h1 h2 h3 hne
    have h4 : r.head? ≠ some 48 := by
      rcases h3 with h3 | h3
      · cases r with
        | nil => exact absurd rfl hne
        | cons c s =>
          intro z
          cases Option.some.inj z
          simp at h3
      · cases h3
    have hc : Canon r := ⟨h2, hne, .inl h4⟩
    have e := canon_back _ r rfl hc
    have hp : 0 < NumText.digitsVal r := by
      rcases Nat.eq_zero_or_pos (NumText.digitsVal r) with z | z
      · exfalso
        rw [z, numL_lt (by decide)] at e
        rw [← e] at h4
        exact h4 rfl
      · exact z
    rw [valOf_minus]
    unfold intL
    rw [if_pos (by omega)]
    have : (-((NumText.digitsVal r : Nat) : Int)).natAbs = NumText.digitsVal r := by omega
    rw [this, e]
  · rw [digOf_else hm] at h1 h2 h3 hne
    have hc : Canon l := by
      refine ⟨h2, hne, ?_⟩
      rcases h3 with h3 | h3
      · cases l with
        | nil => exact absurd rfl hne
        | cons c s =>
          refine .inl fun z => ?_
          cases Option.some.inj z
          simp at h3
      · exact .inr h3
    rw [valOf_else hm]
    unfold intL
    rw [if_neg (by omega)]
    exact canon_back _ l rfl hc
theorem intL_head (n : Nat) : (numL n).head? ≠ some 45 := by
  intro z
  cases e : numL n with
  | nil => exact numL_ne n e
  | cons c r =>
    rw [e] at z
    cases Option.some.inj z
    have := numL_digits n 45 (by rw [e]; exact List.mem_cons_self)
    omega
theorem goodVal_int {v : Int} (h : v.natAbs < 10 ^ 60) : goodVal (intL v) = true ∧ valOf (intL v) = v := by
  have hl := numL_len (n := v.natAbs) (k := 60) (by decide) h
  have hc := canon_numL v.natAbs
  unfold intL
  by_cases hv : v < 0
  · rw [if_pos hv]
    constructor
    · unfold goodVal
      rw [digOf_minus]
      simp only [Bool.and_eq_true, Bool.or_eq_true, decide_eq_true_eq]
      refine ⟨⟨hl, allDig_iff.mpr hc.1⟩, .inl ?_⟩
      obtain ⟨c, r, e, h48⟩ := numL_head0 v.natAbs (by omega)
      rw [e]
      simp only [Bool.not_eq_true', decide_eq_false_iff_not]
      exact h48
    · rw [valOf_minus, numL_val]
      omega
  · rw [if_neg hv]
    constructor
    · unfold goodVal
      rw [digOf_else (intL_head _)]
      simp only [Bool.and_eq_true, Bool.or_eq_true, decide_eq_true_eq]
      refine ⟨⟨hl, allDig_iff.mpr hc.1⟩, ?_⟩
      rcases hc.2.2 with h3 | h3
      · left
        cases e : numL v.natAbs with
        | nil => exact absurd e hc.2.1
        | cons c r =>
          rw [e] at h3
          simp only [Bool.not_eq_true', decide_eq_false_iff_not]
          exact fun z => h3 (by rw [z]; rfl)
      · exact .inr h3
    · rw [valOf_else (intL_head _), numL_val]
      omega
theorem goodVal_free {l : List Nat} (h : goodVal l = true) {s : Nat} (hs : s < 45 ∨ s = 46 ∨ s = 47 ∨ 57 < s) : s ∉ l := by
  unfold goodVal at h
  simp only [Bool.and_eq_true, Bool.or_eq_true, decide_eq_true_eq] at h
  have h2 := allDig_iff.mp h.1.2
  rcases minus_or l with ⟨r, rfl⟩ | hm
  · rw [digOf_minus] at h2
    intro z
    rcases List.mem_cons.mp z with e | z
    · omega
    · have := h2 s z
      omega
  · rw [digOf_else hm] at h2
    intro z
    have := h2 s z
    omega
/-! ### messages -/
abbrev cS : Str := Str.ofString ":"
abbrev spS : Str := Str.ofString " "
abbrev miS : Str := Str.ofString "-"
def msgS (m : Int × Int) : Str := Str.ofString (toString m.1) ++ cS ++ Str.ofString (toString m.2)
def textOf (ms : List (Int × Int)) : Str := if ms = [] then miS else Txt.join spS (ms.map msgS)
/-- a part of a text that is a message -/
def goodPart (many : Int) : List Nat → Bool
  | c :: 58 :: v => decide (48 ≤ c) && decide (c ≤ 53) && decide ((c : Int) - 48 < many) && goodVal v
  | _ => false
def msgOf : List Nat → Int × Int
  | c :: 58 :: v => ((c : Int) - 48, valOf v)
  | _ => (0, 0)
def goodText (many : Int) (z : Str) : Bool := decide (z = miS) || (Txt.split z spS).all fun p => goodPart many (tl p)
def msgsOf (z : Str) : List (Int × Int) := if z = miS then [] else (Txt.split z spS).map fun p => msgOf (tl p)
theorem tl_msg (m : Int × Int) : tl (msgS m) = intL m.1 ++ 58 :: intL m.2 := by
  unfold msgS
  rw [tl_append, tl_append, tl_int, tl_int, List.append_assoc]
  rfl
theorem intL_word {w : Int} (h0 : 0 ≤ w) (h1 : w < 10) : intL w = [48 + w.toNat] := by
  unfold intL
  rw [if_neg (by omega), numL_lt (by omega)]
  congr 2
  omega
theorem goodPart_msg {many : Int} {m : Int × Int} (h0 : 0 ≤ m.1) (h1 : m.1 < many) (h2 : m.1 < 6) (hv : m.2.natAbs < 10 ^ 60) : goodPart many (tl (msgS m)) = true ∧ msgOf (tl (msgS m)) = m := by
  have g := goodVal_int hv
  rw [tl_msg, intL_word h0 (by omega)]
  show (decide (48 ≤ 48 + m.1.toNat) && decide (48 + m.1.toNat ≤ 53) && decide (((48 + m.1.toNat : Nat) : Int) - 48 < many) && goodVal (intL m.2)) = true ∧ ((((48 + m.1.toNat : Nat) : Int) - 48, valOf (intL m.2)) : Int × Int) = m
  constructor
  · rw [g.1, decide_eq_true (by omega), decide_eq_true (by omega), decide_eq_true (by omega)]
    rfl
  · rw [g.2]
    have : (((48 + m.1.toNat : Nat) : Int) - 48) = m.1 := by omega
    rw [this]
theorem goodPart_form {many : Int} {l : List Nat} (h : goodPart many l = true) : ∃ c v, l = c :: 58 :: v ∧ 48 ≤ c ∧ c ≤ 53 ∧ (c : Int) - 48 < many ∧ goodVal v = true := by
  unfold goodPart at h
  split at h
  · rename_i c v
    simp only [Bool.and_eq_true, decide_eq_true_eq] at h
    exact ⟨c, v, rfl, h.1.1.1, h.1.1.2, h.1.2, h.2⟩
  · cases h
theorem msg_back {many : Int} {p : Str} (h : goodPart many (tl p) = true) : msgS (msgOf (tl p)) = p := by
  obtain ⟨c, v, e, h1, h2, h3, h4⟩ := goodPart_form h
  refine ext_tl ?_
  rw [tl_msg, e]
  show intL ((c : Int) - 48) ++ 58 :: intL (valOf v) = c :: 58 :: v
  rw [intL_word (by omega) (by omega), goodVal_back h4]
  have : 48 + ((c : Int) - 48).toNat = c := by omega
  rw [this]
  rfl
theorem msg_free {m : Int × Int} (h0 : 0 ≤ m.1) (h2 : m.1 < 6) (hv : m.2.natAbs < 10 ^ 60) : 32 ∉ tl (msgS m) := by
  have g := goodVal_int hv
  rw [tl_msg, intL_word h0 (by omega)]
  intro z
  rcases List.mem_append.mp z with z | z
  · have := List.mem_singleton.mp z
    omega
  · rcases List.mem_cons.mp z with z | z
    · omega
    · exact goodVal_free g.1 (.inl (by decide)) z
theorem sp_kind : spS.cps.all (· < 256) = true := by decide +kernel
theorem c_kind : cS.cps.all (· < 256) = true := by decide +kernel
theorem tl_sp : tl spS = 32 :: [] := by decide +kernel
theorem tl_c : tl cS = 58 :: [] := by decide +kernel
theorem tl_mi : tl miS = 45 :: [] := by decide +kernel
def InRange (many : Int) (ms : List (Int × Int)) : Prop := ∀ m ∈ ms, 0 ≤ m.1 ∧ m.1 < many ∧ m.2.natAbs < 10 ^ 60
theorem split_text {many : Int} {ms : List (Int × Int)} (hm : many ≤ 6) (h : InRange many ms) (hne : ms ≠ []) : Txt.split (Txt.join spS (ms.map msgS)) spS = ms.map msgS := by
  refine split_join tl_sp sp_kind (fun z => hne (List.map_eq_nil_iff.mp z)) fun p hp => ?_
  obtain ⟨m, hm', rfl⟩ := List.mem_map.mp hp
  obtain ⟨a, b, c⟩ := h m hm'
  exact msg_free a (by omega) c
theorem join_ne {many : Int} {ms : List (Int × Int)} (hm : many ≤ 6) (h : InRange many ms) (hne : ms ≠ []) : Txt.join spS (ms.map msgS) ≠ miS := by
  intro z
  have e := split_text hm h hne
  have e2 : Txt.split miS spS = [miS] := by decide +kernel
  rw [z, e2] at e
  cases ms with
  | nil => exact hne rfl
  | cons m r =>
    simp only [List.map_cons, List.cons.injEq] at e
    have := congrArg tl e.1
    rw [tl_mi, tl_msg] at this
    obtain ⟨a, b, c⟩ := h m List.mem_cons_self
    rw [intL_word a (by omega)] at this
    simp at this
theorem text_good {many : Int} {ms : List (Int × Int)} (hm : many ≤ 6) (h : InRange many ms) : goodText many (textOf ms) = true ∧ msgsOf (textOf ms) = ms := by
  unfold textOf goodText msgsOf
  by_cases hne : ms = []
  · subst hne
    exact ⟨by rw [if_pos rfl, decide_eq_true rfl]; rfl, by rw [if_pos rfl, if_pos rfl]⟩
  · rw [if_neg hne, if_neg (join_ne hm h hne), split_text hm h hne]
    constructor
    · rw [List.all_map, Bool.or_eq_true]
      right
      rw [List.all_eq_true]
      intro m hm'
      obtain ⟨a, b, c⟩ := h m hm'
      exact (goodPart_msg a b (by omega) c).1
    · rw [List.map_map]
      conv => rhs; rw [← List.map_id ms]
      refine List.map_congr_left fun m hm' => ?_
      obtain ⟨a, b, c⟩ := h m hm'
      exact (goodPart_msg a b (by omega) c).2
theorem spl_len (S : List Nat) : ∀ (l : List Nat) (k : Nat) (acc : List Nat), (spl S k acc l).length ≤ l.length + 1 ∧ 1 ≤ (spl S k acc l).length ∧ ∀ p ∈ spl S k acc l, p.length ≤ acc.length + l.length
  | [], k, acc => by
    rw [spl_nil]
    refine ⟨Nat.le_refl _, Nat.le_refl _, fun p hp => ?_⟩
    rw [List.mem_singleton.mp hp]
    exact Nat.le_add_right _ _
  | c :: r, 0, acc => by
    by_cases h : pre S (c :: r) = true
    · rw [spl_hit h]
      obtain ⟨a, b, d⟩ := spl_len S r (S.length - 1) []
      simp only [List.length_cons]
      refine ⟨by omega, by omega, fun p hp => ?_⟩
      rcases List.mem_cons.mp hp with e | hp
      · rw [e]
        omega
      · have := d p hp
        simp only [List.length_nil] at this
        omega
    · rw [spl_miss (by cases e : pre S (c :: r) with | true => exact absurd e h | false => rfl)]
      obtain ⟨a, b, d⟩ := spl_len S r 0 (acc ++ [c])
      simp only [List.length_cons]
      refine ⟨by omega, by omega, fun p hp => ?_⟩
      have := d p hp
      simp only [List.length_append, List.length_cons, List.length_nil] at this
      omega
  | c :: r, k + 1, acc => by
    show (spl S k acc r).length ≤ _ ∧ 1 ≤ (spl S k acc r).length ∧ ∀ p ∈ spl S k acc r, _
    obtain ⟨a, b, d⟩ := spl_len S r k acc
    simp only [List.length_cons]
    refine ⟨by omega, by omega, fun p hp => ?_⟩
    have := d p hp
    omega
theorem split_len {x y : Str} (hy : tl y ≠ []) (hk : y.cps.all (· < 256) = true) : (Txt.split x y).length ≤ x.length + 1 ∧ 1 ≤ (Txt.split x y).length ∧ ∀ p ∈ Txt.split x y, p.length ≤ x.length := by
  have e := split_spl x y hy (kind_ok hk)
  obtain ⟨a, b, d⟩ := spl_len (tl y) (tl x) 0 []
  rw [← e, List.length_map] at a b
  rw [← len_tl] at a
  refine ⟨a, b, fun p hp => ?_⟩
  have := d (tl p) (by rw [← e]; exact List.mem_map.mpr ⟨p, hp, rfl⟩)
  rw [← len_tl, ← len_tl] at this
  simpa using this
theorem split_ne (x : Str) : Txt.split x spS ≠ [] := by
  intro z
  have := (split_len (x := x) (y := spS) (by rw [tl_sp]; simp) sp_kind).2.1
  rw [z] at this
  exact absurd this (by decide)
theorem fold_lt : ∀ (l : List Nat) (a k : Nat), NumText.AllDigits l → a < 10 ^ k → l.foldl (fun acc c => acc * 10 + (c - 48)) a < 10 ^ (k + l.length)
  | [], _, _, _, h => h
  | c :: r, a, k, h, ha => by
    have hc := h.head
    have e : 10 ^ (k + (c :: r).length) = 10 ^ (k + 1 + r.length) := by
      congr 1
      simp only [List.length_cons]
      omega
    rw [e]
    refine fold_lt r (a * 10 + (c - 48)) (k + 1) h.tail ?_
    rw [Nat.pow_succ]
    omega
theorem goodVal_lt {l : List Nat} (h : goodVal l = true) : (valOf l).natAbs < 10 ^ 60 := by
  unfold goodVal at h
  simp only [Bool.and_eq_true, Bool.or_eq_true, decide_eq_true_eq] at h
  obtain ⟨⟨h1, h2⟩, h3⟩ := h
  have h2 := allDig_iff.mp h2
  have key : ∀ d : List Nat, d.length ≤ 60 → NumText.AllDigits d → NumText.digitsVal d < 10 ^ 60 := fun d hd ha => by
    have := fold_lt d 0 0 ha (by decide)
    unfold NumText.digitsVal
    rw [Nat.zero_add] at this
    exact Nat.lt_of_lt_of_le this (Nat.pow_le_pow_right (by decide) hd)
  rcases minus_or l with ⟨r, rfl⟩ | hm
  · rw [digOf_minus] at h1 h2
    rw [valOf_minus]
    have := key r h1 h2
    omega
  · rw [digOf_else hm] at h1 h2
    rw [valOf_else hm]
    have := key l h1 h2
    omega
theorem good_back {many : Int} {z : Str} (h : goodText many z = true) : textOf (msgsOf z) = z := by
  unfold goodText at h
  unfold textOf msgsOf
  by_cases hz : z = miS
  · rw [if_pos hz, if_pos rfl, hz]
  · rw [if_neg hz, if_neg (fun e => split_ne z (List.map_eq_nil_iff.mp e)), List.map_map]
    rw [decide_eq_false hz, Bool.false_or, List.all_eq_true] at h
    have : (Txt.split z spS).map (msgS ∘ fun p => msgOf (tl p)) = Txt.split z spS := by
      conv => rhs; rw [← List.map_id (Txt.split z spS)]
      exact List.map_congr_left fun p hp => msg_back (h p hp)
    rw [this, join_eq, PySem.StrLaws.join_split]
theorem good_range {many : Int} {z : Str} (h : goodText many z = true) : InRange many (msgsOf z) := by
  unfold goodText at h
  unfold msgsOf
  by_cases hz : z = miS
  · rw [if_pos hz]
    exact fun _ z => by cases z
  · rw [if_neg hz]
    rw [decide_eq_false hz, Bool.false_or, List.all_eq_true] at h
    intro m hm
    obtain ⟨p, hp, rfl⟩ := List.mem_map.mp hm
    obtain ⟨c, v, e, h1, h2, h3, h4⟩ := goodPart_form (h p hp)
    rw [e]
    show 0 ≤ (c : Int) - 48 ∧ (c : Int) - 48 < many ∧ (valOf v).natAbs < 10 ^ 60
    exact ⟨by omega, h3, goodVal_lt h4⟩
end Sb

/-! What the parts of a text are asked. -/
namespace Sb
open PySem PySem.Spec PyProof.Rows L2 TL
theorem starts_minus (z : Str) : Txt.startswith z miS = decide ((tl z).head? = some 45) := by
  have hl : miS.length = 1 := by decide +kernel
  unfold Txt.startswith
  rw [PySem.StrLaws.subAt_eq, hl, List.drop_zero, show miS.cps.toList = [45] from tl_mi]
  have e : z.length = (tl z).length := len_tl z
  rw [e]
  show (decide (0 + 1 ≤ (tl z).length) && ((tl z).take 1 == [45])) = _
  cases tl z with
  | nil => rfl
  | cons c r =>
    simp only [List.length_cons, List.take_succ_cons, List.take_zero, List.head?_cons, Option.some.injEq]
    rw [decide_eq_true (by omega), Bool.true_and]
    by_cases h : c = 45
    · subst h; rfl
    · rw [decide_eq_false h]
      exact beq_eq_false_iff_ne.mpr (fun z => h (List.cons.inj z).1)
theorem tl_cut_from (z : Str) (k : Nat) : tl (cutS z (some (k : Int)) none) = (tl z).drop k := by
  unfold cutS
  rw [HT.sIx_nat, HT.sIx_none]
  show ((tl z).drop (min k z.length)).take (z.length - min k z.length) = (tl z).drop k
  rw [len_tl]
  by_cases h : k ≤ (tl z).length
  · rw [Nat.min_eq_left h]
    exact List.take_of_length_le (by rw [List.length_drop]; exact Nat.le_refl _)
  · rw [Nat.min_eq_right (by omega), List.drop_eq_nil_of_le (Nat.le_refl _), List.drop_eq_nil_of_le (by omega), List.take_nil]
theorem tl_cut_to (z : Str) (k : Nat) : tl (cutS z none (some (k : Int))) = (tl z).take k := by
  unfold cutS
  rw [HT.sIx_nat, HT.sIx_none]
  show ((tl z).drop 0).take (min k z.length - 0) = (tl z).take k
  rw [len_tl, List.drop_zero, Nat.sub_zero]
  by_cases h : k ≤ (tl z).length
  · rw [Nat.min_eq_left h]
  · rw [Nat.min_eq_right (by omega), List.take_of_length_le (Nat.le_refl _), List.take_of_length_le (by omega)]
theorem digit_low : ∀ c : Nat, c < 128 → Unicode.isDigit c = (decide (48 ≤ c) && decide (c ≤ 57)) := by decide +kernel
theorem asc_dig (z : Str) (h : Txt.isascii z = true) : Txt.isdigit z = (!decide (tl z = []) && allDig (tl z)) := by
  unfold Txt.isascii at h
  unfold Txt.isdigit allDig
  rw [← Array.all_toList] at h ⊢
  rw [len_tl]
  have e : ∀ l : List Nat, l.all (fun c => decide (c < 128)) = true → l.all Unicode.isDigit = l.all fun c => decide (48 ≤ c) && decide (c ≤ 57) := by
    intro l hl
    induction l with
    | nil => rfl
    | cons c r ih =>
      simp only [List.all_cons, Bool.and_eq_true, decide_eq_true_eq] at hl ⊢
      rw [ih (by exact hl.2), digit_low c hl.1]
  rw [e _ h]
  show (decide ((tl z).length > 0) && (tl z).all fun c => decide (48 ≤ c) && decide (c ≤ 57)) = (!decide (tl z = []) && (tl z).all fun c => decide (48 ≤ c) && decide (c ≤ 57))
  generalize tl z = l
  cases l with
  | nil => rfl
  | cons c r => congr 1
theorem dig_asc (z : Str) (h : allDig (tl z) = true) : Txt.isascii z = true := by
  unfold Txt.isascii
  rw [← Array.all_toList, List.all_eq_true]
  intro c hc
  have := allDig_iff.mp h c hc
  exact decide_eq_true (by omega)
/-- what is_written_value asks of the digits -/
theorem written_iff {z d : Str} (ed : tl d = digOf (tl z)) : goodVal (tl z) = (if d.length > 60 ∨ Txt.isascii d = false ∨ Txt.isdigit d = false then false else (!decide ((tl d).head? = some 48) || decide (tl z = [48]))) := by
  unfold goodVal
  rw [← ed, len_tl]
  by_cases h1 : (tl d).length > 60
  · rw [if_pos (.inl h1), decide_eq_false (by omega)]
    rfl
  · rw [decide_eq_true (show (tl d).length ≤ 60 by omega), Bool.true_and]
    by_cases h2 : Txt.isascii d = true
    · rw [asc_dig d h2]
      by_cases h3 : tl d = []
      · rw [if_pos (.inr (.inr (by rw [decide_eq_true h3]; rfl))), h3]
        have : tl z ≠ [48] := by
          intro e
          rw [e] at ed
          rw [h3] at ed
          cases ed
        rw [decide_eq_false this]
        rfl
      · by_cases h4 : allDig (tl d) = true
        · rw [if_neg (by rintro (z | z | z) <;> first | omega | (rw [h2] at z; cases z) | (rw [decide_eq_false h3, h4] at z; cases z)), h4, Bool.true_and]
          cases e : tl d with
          | nil => exact absurd e h3
          | cons c r =>
            simp only [List.head?_cons, Option.some.injEq]
        · have h4 : allDig (tl d) = false := by cases e : allDig (tl d) with | true => exact absurd e h4 | false => rfl
          rw [if_pos (.inr (.inr (by rw [h4, Bool.and_false]))), h4, Bool.false_and]
    · have h2' : Txt.isascii d = false := by cases e : Txt.isascii d with | true => exact absurd e h2 | false => rfl
      rw [if_pos (.inr (.inl h2'))]
      have : allDig (tl d) = false := by
        cases e : allDig (tl d) with
        | false => rfl
        | true => exact absurd (dig_asc d e) h2
      rw [this]
      rfl
theorem goodVal_int? {z : Str} (h : goodVal (tl z) = true) : intText? z = some (valOf (tl z)) ∧ z.length ≤ 61 := by
  have hne := goodVal_ne h
  unfold goodVal at h
  simp only [Bool.and_eq_true, Bool.or_eq_true, decide_eq_true_eq] at h
  obtain ⟨⟨h1, h2⟩, h3⟩ := h
  have h2 := allDig_iff.mp h2
  rcases minus_or (tl z) with ⟨r, e⟩ | hm
  · rw [e] at h1 h2 hne ⊢
    rw [digOf_minus] at h1 h2 hne
    have hl : z.length = r.length + 1 := by rw [len_tl, e]; rfl
    exact ⟨intText_neg e h2 hne (by omega), by omega⟩
  · rw [digOf_else hm] at h1 h2 hne
    rw [valOf_else hm]
    have hl := len_tl z
    exact ⟨intText_digits h2 hne (by omega), by omega⟩
/-! ### the law's own questions -/
def isNum (k : Int) (l : List Nat) : Bool := !decide (l = []) && !decide ((l.length : Int) > k) && allDig l && (decide (l = [48]) || !decide (l.head? = some 48))
theorem goodVal_num (l : List Nat) : goodVal l = (if l.head? = some 45 then !decide (l.drop 1 = [48]) && isNum 60 (l.drop 1) else isNum 60 l) := by
  have key : ∀ d : List Nat, decide (d.length ≤ 60) = !decide ((d.length : Int) > 60) := fun d => by
    by_cases h : d.length ≤ 60
    · rw [decide_eq_true h, decide_eq_false (by omega)]; rfl
    · rw [decide_eq_false h, decide_eq_true (by omega)]; rfl
  rcases minus_or l with ⟨r, rfl⟩ | hm
  · rw [if_pos (show (45 :: r).head? = some 45 from rfl)]
    show goodVal (45 :: r) = (!decide (r = [48]) && isNum 60 r)
    unfold goodVal isNum
    rw [digOf_minus, key]
    cases r with
    | nil => rfl
    | cons c s =>
      simp only [List.head?_cons, Option.some.injEq]
      rw [decide_eq_false (show ¬ (45 :: c :: s = [48]) by intro z; cases z), Bool.or_false, decide_eq_false (show ¬ (c :: s = []) by intro z; cases z)]
      by_cases h48 : c = 48
      · subst h48
        rw [decide_eq_true rfl]
        by_cases hs : s = []
        · subst hs
          simp
        · rw [decide_eq_false (show ¬ (48 :: s = [48]) by intro z; exact hs (List.cons.inj z).2)]
          simp
      · rw [decide_eq_false h48, decide_eq_false (show ¬ (c :: s = [48]) by intro z; exact h48 (List.cons.inj z).1)]
        simp
  · rw [if_neg hm]
    unfold goodVal isNum
    rw [digOf_else hm, key]
    cases l with
    | nil => rfl
    | cons c s =>
      simp only [List.head?_cons, Option.some.injEq]
      rw [decide_eq_false (show ¬ (c :: s = []) by intro z; cases z), Bool.not_false, Bool.true_and, Bool.or_comm]
/-- a part by the law's cut at the colons -/
theorem goodPart_cut {many : Int} (hm : many ≤ 6) (p : Str) : goodPart many (tl p) = (match Txt.split p cS with | [a, b] => isNum 1 (tl a) && decide (valOf (tl a) < many) && goodVal (tl b) | _ => false) := by
  have e := split_spl p cS (by rw [tl_c]; simp) (kind_ok c_kind)
  rw [tl_c] at e
  cases h : goodPart many (tl p) with
  | true =>
    obtain ⟨c, v, el, h1, h2, h3, h4⟩ := goodPart_form h
    have hf : 58 ∉ v := goodVal_free h4 (.inr (.inr (.inr (by decide))))
    have e2 : spl [58] 0 [] (tl p) = [[c], v] := by
      rw [el]
      show spl (58 :: []) 0 [] ([c] ++ (58 :: [] ++ v)) = _
      rw [spl_part1 (by intro z; have := List.mem_singleton.mp z; omega), spl_last1 hf]
      rfl
    rw [e2] at e
    cases es : Txt.split p cS with
    | nil => rw [es] at e; simp at e
    | cons a r =>
      cases r with
      | nil => rw [es] at e; simp at e
      | cons b r =>
        cases r with
        | cons _ _ => rw [es] at e; simp at e
        | nil =>
          rw [es] at e
          simp only [List.map_cons, List.map_nil, List.cons.injEq, and_true] at e
          obtain ⟨ea, eb⟩ := e
          show true = (isNum 1 (tl a) && decide (valOf (tl a) < many) && goodVal (tl b))
          rw [ea, eb, h4]
          have hv : valOf [c] = (c : Int) - 48 := by
            rw [valOf_else (by intro z; have := Option.some.inj z; omega)]
            show ((0 * 10 + (c - 48) : Nat) : Int) = _
            omega
          rw [hv, decide_eq_true h3]
          unfold isNum
          have ad : allDig [c] = true := allDig_iff.mpr fun d hd => by rw [List.mem_singleton.mp hd]; omega
          rw [ad]
          by_cases h48 : c = 48
          · subst h48; rfl
          · rw [show decide (([c] : List Nat).head? = some 48) = false from decide_eq_false (fun z => h48 (Option.some.inj z))]
            simp
  | false =>
    split
    · rename_i a b es
      rw [es] at e
      simp only [List.map_cons, List.map_nil] at e
      have ep : p = a ++ cS ++ b := by
        have := PySem.StrLaws.join_split p cS
        rw [es] at this
        exact this.symm
      symm
      rw [Bool.eq_false_iff]
      intro hh
      simp only [Bool.and_eq_true, decide_eq_true_eq] at hh
      obtain ⟨⟨h1, h2⟩, h3⟩ := hh
      unfold isNum at h1
      simp only [Bool.and_eq_true, Bool.not_eq_true', decide_eq_false_iff_not] at h1
      obtain ⟨⟨⟨g1, g2⟩, g3⟩, g4⟩ := h1
      have hc : ∃ c, tl a = [c] := by
        match hta : tl a, g1, g2 with
        | [], g1, _ => exact absurd rfl g1
        | [c], _, _ => exact ⟨c, rfl⟩
        | _ :: _ :: r, _, g2 => simp only [List.length_cons] at g2; omega
      obtain ⟨c, ec⟩ := hc
      rw [ec] at g3 h2
      have hc2 := allDig_iff.mp g3 c (List.mem_singleton.mpr rfl)
      have hv : valOf [c] = (c : Int) - 48 := by
        rw [valOf_else (by intro z; have := Option.some.inj z; omega)]
        show ((0 * 10 + (c - 48) : Nat) : Int) = _
        omega
      rw [hv] at h2
      have : goodPart many (tl p) = true := by
        rw [ep, tl_append, tl_append, ec, tl_c]
        show (decide (48 ≤ c) && decide (c ≤ 53) && decide ((c : Int) - 48 < many) && goodVal (tl b)) = true
        rw [h3, decide_eq_true (by omega), decide_eq_true (by omega), decide_eq_true h2]
        rfl
      rw [this] at h
      cases h
    · rfl
/-- the digit that a word of one sign tells -/
def wordVal (l : List Nat) : Option Int := match l with
  | [c] => if 48 ≤ c ∧ c ≤ 53 then some ((c : Int) - 48) else none
  | _ => none
def ltO (many : Int) : Option Int → Bool
  | some d => decide (d < many)
  | none => false
/-- a part by the program's cut at the first colon -/
theorem goodPart_par {many : Int} (p : Str) : goodPart many (tl p) = (ltO many (wordVal (tl (Txt.partition p cS).1)) && goodVal (tl (Txt.partition p cS).2.2))
    ∧ (goodPart many (tl p) = true → ∃ d, wordVal (tl (Txt.partition p cS).1) = some d ∧ msgOf (tl p) = (d, valOf (tl (Txt.partition p cS).2.2))) := by
  have e := partition_par p cS (by rw [tl_c]; simp)
  rw [tl_c] at e
  have form : ∀ (l acc : List Nat), (58 ∉ l ∧ par [58] acc l = none) ∨ ∃ a b, l = a ++ 58 :: b ∧ 58 ∉ a ∧ par [58] acc l = some (acc ++ a, b) := by
    intro l
    induction l with
    | nil => exact fun _ => .inl ⟨by simp, rfl⟩
    | cons c r ih =>
      intro acc
      by_cases h : c = 58
      · subst h
        exact .inr ⟨[], r, rfl, by simp, by rw [par_hit (by rfl), List.append_nil]; rfl⟩
      · rw [par_miss (pre_of_head [] r h)]
        rcases ih (acc ++ [c]) with ⟨h1, h2⟩ | ⟨a, b, h1, h2, h3⟩
        · refine .inl ⟨fun z => ?_, h2⟩
          rcases List.mem_cons.mp z with z | z
          · exact h z.symm
          · exact h1 z
        · refine .inr ⟨c :: a, b, by rw [h1]; rfl, fun z => ?_, by rw [h3, List.append_assoc]; rfl⟩
          rcases List.mem_cons.mp z with z | z
          · exact h z.symm
          · exact h2 z
  rcases form (tl p) [] with ⟨hn, hp⟩ | ⟨a, b, ep, ha, hp⟩
  · rw [hp] at e
    rw [e]
    have hg : goodPart many (tl p) = false := by
      cases h : goodPart many (tl p) with
      | false => rfl
      | true =>
        obtain ⟨c, v, el, _⟩ := goodPart_form h
        exact absurd (by rw [el]; simp) hn
    have hv : goodVal (tl Str.empty) = false := by decide +kernel
    rw [hg]
    exact ⟨by show false = (_ && goodVal (tl Str.empty)); rw [hv, Bool.and_false], fun z => by cases z⟩
  · rw [hp] at e
    rw [e]
    show goodPart many (tl p) = (ltO many (wordVal a) && goodVal b) ∧ (goodPart many (tl p) = true → ∃ d, wordVal a = some d ∧ msgOf (tl p) = (d, valOf b))
    rw [ep]
    match a, ha with
    | [], _ =>
      have hg : goodPart many (([] : List Nat) ++ 58 :: b) = false := by
        cases h : goodPart many (([] : List Nat) ++ 58 :: b) with
        | false => rfl
        | true =>
          obtain ⟨c, v, el, h1, h2, _⟩ := goodPart_form h
          simp only [List.nil_append, List.cons.injEq] at el
          omega
      rw [hg]
      exact ⟨rfl, fun z => by cases z⟩
    | [c], _ =>
      show (decide (48 ≤ c) && decide (c ≤ 53) && decide ((c : Int) - 48 < many) && goodVal b) = _ ∧ _
      have hw : wordVal [c] = if 48 ≤ c ∧ c ≤ 53 then some ((c : Int) - 48) else none := rfl
      rw [hw]
      by_cases h : 48 ≤ c ∧ c ≤ 53
      · rw [if_pos h, decide_eq_true h.1, decide_eq_true h.2]
        exact ⟨rfl, fun _ => ⟨_, rfl, rfl⟩⟩
      · rw [if_neg h]
        have : (decide (48 ≤ c) && decide (c ≤ 53)) = false := by
          rw [Bool.eq_false_iff]
          intro z
          simp only [Bool.and_eq_true, decide_eq_true_eq] at z
          exact h z
        rw [this]
        refine ⟨rfl, fun z => ?_⟩
        have z2 : (decide (48 ≤ c) && decide (c ≤ 53) && decide ((c : Int) - 48 < many) && goodVal b) = true := z
        rw [this] at z2
        cases z2
    | x :: y :: r, ha =>
      have hy : y ≠ 58 := fun z => ha (by rw [z]; simp)
      have hg : goodPart many (x :: y :: r ++ 58 :: b) = false := by
        cases h : goodPart many (x :: y :: r ++ 58 :: b) with
        | false => rfl
        | true =>
          obtain ⟨c, v, el, _⟩ := goodPart_form h
          simp only [List.cons_append, List.cons.injEq] at el
          exact absurd el.2.1 hy
      rw [hg]
      exact ⟨rfl, fun z => by cases z⟩
end Sb

/-! A written table of words asked by get, a text many times. -/
namespace Sb
open PySem PySem.Spec PyProof.Rows L2 TL
/-- at a the module's table: f z the number of the word z -/
def DigD (K : PySem.W.Frag) (w : World) (a : Addr) (f : Str → Option Int) : Prop := ∃ es n, K.lookup a = some ⟨.type "dict", none, .dict es n, #[]⟩ ∧ PySem.W.KeysLit w.params es.toList ∧ (a == sysModules) = false ∧
  ∀ z, (∃ i t, f z = some i ∧ PySem.W.nsIn K a z = some (some (.int i t))) ∨ (f z = none ∧ PySem.W.nsIn K a z = some none)
/-- a table as it is written -/
def litF (l : List (Str × Int)) (z : Str) : Option Int := (l.find? fun p => p.1 == z).map (·.2)
def optV : Option Int → V
  | some i => .int i
  | none => .non
def tKGet (K : PySem.W.Frag) (w : World) (td ty : TE) : TE := fun σ H Q => td σ H fun x H1 => ∃ a f, x = .ref a ∧ DigD K w a f ∧ ty σ H1 fun y H2 => ∃ z, y = .str z ∧ Q (optV (f z)) H2
section
variable {X : Cx} {o e : Expr} {td ty : TE} {apos cpos : Pos}
theorem pe_kget (ho : PE X o td) (he : PE X e ty) (m : M1 X o "get" apos e cpos) : PE X (.Call (.Attribute o "get" apos) [e] [] cpos) (tKGet X.K X.w td ty) := by
  refine ⟨fun pins s σ H Q I h => ?_⟩
  refine wpAny_Call_method m.base m.few m.line PySem.F.plainAttrs_dict PySem.F.slot_dict_get PySem.F.type_dict_get (thn (ho.run pins s σ H _ I h) fun u s1 ⟨x, H1, I1, rx, a, f, ex, ⟨es, n, hl, hk, low, hf⟩, q1⟩ => ?_)
  subst ex
  obtain rfl : u = Value.ref a := rx
  have hm := PySem.W.mapOf_K (prog := X.prog) (w := X.w) I1.kIn hl hk
  refine ⟨hm.typeIs, hm.noDict, ?_⟩
  rw [m.trees]
  refine Calls.callWith_builtin rfl (Calls.evalArgs_plain (Calls.spliced_cons (thn (he.run pins s1 σ H1 _ I1 q1) fun iv s2 ⟨y, H2, I2, ry, z, ey, q2⟩ => Calls.spliced_nil ?_)))
  subst ey
  obtain ⟨t, rfl⟩ := (show ∃ t, iv = Value.str z t from ry)
  have hm2 := PySem.W.mapOf_K (prog := X.prog) (w := X.w) I2.kIn hl hk
  refine call_meetsIn PySem.F.slot_dict_get hm2.typeIs PySem.F.entry_dict_get (PySem.F.args_dict_get_2 _ _) (meets_dict_get (strKind X.prog X.w) a (strKind_is X.prog X.w z t) low) ⟨_, hm2, ?_⟩
  rcases hf z with ⟨i, t', ef, en⟩ | ⟨ef, en⟩
  · rw [PySem.W.find_K hl en]
    rw [ef] at q2
    exact ⟨.int i, H2, I2.tok _, ⟨t', rfl⟩, q2⟩
  · rw [PySem.W.find_K hl en]
    rw [ef] at q2
    exact ⟨.non, H2, I2.tok _, rfl, q2⟩
/-- f'..' of two parts or more -/
def tJoin (ts : List TE) : TE := fun σ H Q => tJs ts Str.empty σ H fun out H1 => Q (.str out) H1
theorem pe_joinF {v1 v2 : Expr} {rest : List Expr} {ts : List TE} {pos : Pos} (h : PJ X (v1 :: v2 :: rest) ts) : PE X (.JoinedStr (v1 :: v2 :: rest) pos) (tJoin ts) := pe_joined h
theorem DigD.kd {K : PySem.W.Frag} {w : World} {a : Addr} {f : Str → Option Int} {z : Str} {i : Int} (h : DigD K w a f) (e : f z = some i) : KDct K w a z (.int i) := by
  obtain ⟨es, n, hl, hk, low, hf⟩ := h
  rcases hf z with ⟨j, t, ej, en⟩ | ⟨ej, en⟩
  · rw [e] at ej
    cases ej
    exact ⟨es, n, _, hl, hk, en, ⟨t, rfl⟩⟩
  · rw [e] at ej
    cases ej
theorem op_mulS : OpR X (binaryOp .Mult) (fun x y H Q => ∃ z k, x = .str z ∧ y = .int k ∧ MulOk z k ∧ Q (.str (Txt.mul z k)) H) := by
  intro pins s σ H x y v u Q I rx ry h
  obtain ⟨z, k, rfl, rfl, hz, q⟩ := h
  obtain ⟨t, rfl⟩ := rx
  obtain ⟨t', rfl⟩ := ry
  exact PySem.SB.mul hz fun t' tk => ⟨.str (Txt.mul z k), H, I.tok _, ⟨_, rfl⟩, q⟩
end
end Sb
namespace Sb
open PySem PySem.Spec PyProof.Rows L2 TL
/-- the entries of a table are those that are written -/
def LitD : List (Str × Int) → List DictEntry → Prop
  | [], [] => True
  | p :: l, e :: r => (∃ t, e.key = .str p.1 t) ∧ (∃ u, e.val = .int p.2 u) ∧ LitD l r
  | _, _ => False
theorem LitD.find {z : Str} : ∀ {l : List (Str × Int)} {es : List DictEntry}, LitD l es → es.any (·.refKey) = false ∧
    ((∃ i t e, litF l z = some i ∧ es.find? (·.key.isStr z) = some e ∧ e.val = .int i t) ∨ (litF l z = none ∧ es.find? (·.key.isStr z) = none))
  | [], [], _ => ⟨rfl, .inr ⟨rfl, rfl⟩⟩
  | [], _ :: _, h => h.elim
  | _ :: _, [], h => h.elim
  | p :: l, e :: r, ⟨⟨t, hk⟩, ⟨u, hv⟩, h⟩ => by
    obtain ⟨h1, h2⟩ := LitD.find (z := z) h
    have e1 : e.refKey = false := by unfold DictEntry.refKey; rw [hk]
    have e2 : e.key.isStr z = (p.1 == z) := by rw [hk]; rfl
    refine ⟨by rw [List.any_cons, e1, h1]; rfl, ?_⟩
    unfold litF at h2 ⊢
    rw [List.find?_cons, List.find?_cons, e2]
    cases hz : p.1 == z with
    | true => exact .inl ⟨p.2, u, e, rfl, rfl, hv⟩
    | false => exact h2
theorem digD_of {K : PySem.W.Frag} {w : World} {a : Addr} {es : Array DictEntry} {n : Nat} {l : List (Str × Int)} (hl : K.lookup a = some ⟨.type "dict", none, .dict es n, #[]⟩) (hk : PySem.W.KeysLit w.params es.toList) (hs : (a == sysModules) = false) (he : LitD l es.toList) :
    DigD K w a (litF l) := by
  refine ⟨es, n, hl, hk, hs, fun z => ?_⟩
  obtain ⟨h1, h2⟩ := LitD.find (z := z) he
  have e : PySem.W.nsIn K a z = (match es.toList.find? (·.key.isStr z) with
      | some e => some (some e.val)
      | none => if es.toList.any (·.refKey) then none else some none) := by
    unfold PySem.W.nsIn
    rw [hl]
    rfl
  rw [e]
  rcases h2 with ⟨i, t, e, h3, h4, h5⟩ | ⟨h3, h4⟩
  · exact .inl ⟨i, t, h3, by rw [h4, ← h5]⟩
  · refine .inr ⟨h3, ?_⟩
    rw [h4, h1]
    rfl
end Sb

/-! Lines cut into words, words into what they tell; a star among targets. -/
namespace Sb
open PySem PySem.Spec PyProof.Rows L2 TL
/-! ### a, .., *rest = a list -/
/-- the last target takes what is left, as a new list -/
def gLstStar (K : PySem.W.Frag) (n : Nat) (t : TGs) : TG := fun v σ H Q => ∃ a xs, v = .ref a ∧ SqL K H a xs ∧ n ≤ xs.length ∧ ∀ D, H D = none → t (xs.take n ++ [.ref D]) σ (upd H D (.lst (xs.drop n))) Q
section
variable {X : Cx}
theorem pgs_starLast {e : Expr} {p : Pos} {g : TG} (h1 : PG X e g) : PGs X [.Starred e p] (gCons g gNil) := by
  refine ⟨fun pins s σ H vs us Q I r h => ?_⟩
  obtain ⟨v, vr, rfl, h⟩ := h
  cases r with
  | cons r rr =>
    have hs : (assignEach [.Starred e p] X.env).map (·.2) = [assign e X.env] := rfl
    rw [hs]
    refine assignInOrder_cons (thn (h1.run pins s σ H _ _ _ I r h) fun _ s1 ⟨σ1, H1, I1, q1⟩ => ?_)
    exact pgs_nil.run pins s1 σ1 H1 _ _ Q I1 rr q1
theorem vals_takeS : ∀ {vs : List V} {us : List Value} (n : Nat), Vals vs us → Vals (vs.take n) (us.take n)
  | _, _, 0, _ => by rw [List.take_zero, List.take_zero]; exact .nil
  | [], _, n + 1, h => by cases h; exact .nil
  | v :: vs, _, n + 1, h => by
    cases h with
    | cons a t => exact .cons a (vals_takeS n t)
theorem vals_dropS : ∀ {vs : List V} {us : List Value} (n : Nat), Vals vs us → Vals (vs.drop n) (us.drop n)
  | _, _, 0, h => h
  | [], _, n + 1, h => by cases h; exact .nil
  | v :: vs, _, n + 1, h => by
    cases h with
    | cons a t => exact vals_dropS n t
theorem pg_lstStar {es : List Expr} {k : Nat} {t : TGs} {n : Nat} {pos : Pos} (hc : X.calm = true) (h : PGs X es t) (hn : (assignEach es X.env).length = n + 1 := by rfl) (hst : (assignEach es X.env).findIdx? (·.1) = some n := by rfl) :
    PG X (.Tuple es k pos) (gLstStar X.K n t) := by
  refine ⟨fun pins s σ H v u Q I r hw => ?_⟩
  obtain ⟨a, xs, rfl, hq, hl, hw⟩ := hw
  cases r
  obtain ⟨its, rv, pl, hz⟩ := I.list hq
  have lx := rv.length
  have hL := pl.isList
  have hin : a < s.heap.objs.size := by
    obtain ⟨o, ho, _⟩ := hL
    exact Heap.lt_size ho
  have hlt : a ≠ s.heap.objs.size := Nat.ne_of_lt hin
  have sz : its.toArray.size = xs.length := by simp [lx]
  rw [PyProof.Rows.assign_Tuple]
  refine wpAny_bind (wpAny_standAt ?_)
  unfold unpack
  rw [hn, hst]
  refine wpAny_bind (wpAny_holding ?_)
  unfold unpackItems
  apply wpAny_bind
  unfold notIterableAtAll
  apply wpAny_bind
  refine wpAny_specialOf hL.typeIs PySem.slot_list_iter.lookup ?_
  apply wpAny_pure
  simp only [Bool.false_eq_true, if_false]
  refine wpAny_bind (wpAny_holding (wpAny_pyIter_list hL ?_))
  refine wpAny_bind (wpAny_holding (PySem.W.kun_draw hlt n 0 _ _ ⟨_, Heap.get?_push_size _ rfl, rfl, rfl⟩ (hL.push _) (by omega) fun hA itA sbA => ?_))
  have lA : hA.IsList a its.toArray := (hL.push _).extBut sbA.extBut hlt
  rw [Nat.zero_add] at itA
  obtain ⟨oI, hoI, _⟩ := id itA
  obtain ⟨oL, hoL, _⟩ := id lA
  rw [List.drop_zero]
  have lf : (its.toArray.toList.take n).length = n := by rw [List.length_take, Array.length_toList]; omega
  rw [if_neg (show ¬ ((its.toArray.toList.take n).length < n) by rw [lf]; omega)]
  refine wpAny_bind (wpAny_holding (PySem.W.kun_collect (s := { s with heap := hA }) (T := "list_iterator") (.inr (.inr (.inl rfl))) (Walks.list (A := X.A.in1) (I.ok.hd hc) s.heap.objs.size a hlt its.toArray) (fun _ _ st => st.1.typeIs) (k := n) (by omega) ⟨itA, lA⟩
    (Heap.lt_size hoI) (Heap.lt_size hoL) (fun hB tk kB => ?_) (by rw [sz]; exact hz)))
  dsimp only
  have e1 : n + 1 - 1 - n = 0 := by omega
  rw [e1, if_neg (Nat.not_lt_zero _), Nat.sub_zero]
  have up : ∀ b o, s.heap.get? b = some o → hB.get? b = some o := fun b o e => kB b o (Nat.ne_of_lt (Heap.lt_size e)) (sbA.extBut b o (Nat.ne_of_lt (Heap.lt_size e)) (Heap.get?_push_of_some _ e))
  have I1 : Inv X pins σ H { s with heap := hB, toks := tk } := I.kept up
  have eT : (its.toArray.toList.drop n).take (its.toArray.toList.drop n).length = its.drop n := List.take_of_length_le (Nat.le_refl _)
  have eD : (its.toArray.toList.drop n).drop (its.toArray.toList.drop n).length = [] := List.drop_eq_nil_of_le (Nat.le_refl _)
  rw [eT, eD]
  refine wpAny_bind (wpAny_newList ?_ (by rw [List.length_drop]; omega))
  refine wpAny_pure ?_
  have rv2 := vals_dropS n rv
  have lv2 : (xs.drop n).length ≤ sizeLine := by rw [List.length_drop]; omega
  have hf : H hB.objs.size = none := I1.hok.fresh (Nat.le_refl _)
  have I2 : Inv X pins σ (upd H hB.objs.size (.lst (xs.drop n))) { s with heap := hB.push { cls := .type "list", data := .seq (its.drop n).toArray }, toks := tk } :=
    I1.laid (t' := tk) (fun b o q => Heap.get?_push_of_some _ q) (Nat.le_refl _) ⟨lv2, _, 0, rv2, Heap.get?_push_size _ rfl⟩
  refine h.run pins _ σ _ (xs.take n ++ [.ref hB.objs.size]) _ Q I2 ?_ (hw _ hf)
  rw [List.append_nil]
  exact (vals_takeS n rv).append (.cons rfl .nil)
end
/-! ### the table asked with an answer of one's own -/
def optW (d : V) : Option Int → V
  | some i => .int i
  | none => d
def tKGet2 (K : PySem.W.Frag) (w : World) (td ty tx : TE) : TE := fun σ H Q => td σ H fun x H1 => ∃ a f, x = .ref a ∧ DigD K w a f ∧ ty σ H1 fun y H2 => tx σ H2 fun d H3 => ∃ z, y = .str z ∧ Q (optW d (f z)) H3
def tKNotIn (K : PySem.W.Frag) (w : World) (ty td : TE) : TE := fun σ H Q => ty σ H fun y H1 => td σ H1 fun x H2 => ∃ a f z, x = .ref a ∧ y = .str z ∧ DigD K w a f ∧ Q (.bl (!(f z).isSome)) H2
section
variable {X : Cx} {o e g : Expr} {td ty tx : TE} {apos cpos : Pos}
theorem pe_kget2 (ho : PE X o td) (he : PE X e ty) (hg : PE X g tx) (m : M2 X o "get" apos e g cpos) : PE X (.Call (.Attribute o "get" apos) [e, g] [] cpos) (tKGet2 X.K X.w td ty tx) := by
  refine ⟨fun pins s σ H Q I h => ?_⟩
  refine wpAny_Call_method m.base m.few m.line PySem.F.plainAttrs_dict PySem.F.slot_dict_get PySem.F.type_dict_get (thn (ho.run pins s σ H _ I h) fun u s1 ⟨x, H1, I1, rx, a, f, ex, ⟨es, n, hl, hk, low, hf⟩, q1⟩ => ?_)
  subst ex
  obtain rfl : u = Value.ref a := rx
  have hm := PySem.W.mapOf_K (prog := X.prog) (w := X.w) I1.kIn hl hk
  refine ⟨hm.typeIs, hm.noDict, ?_⟩
  rw [m.trees]
  refine Calls.callWith_builtin rfl (Calls.evalArgs_plain (Calls.spliced_cons (thn (he.run pins s1 σ H1 _ I1 q1) fun iv s2 ⟨y, H2, I2, ry, q2⟩ =>
    Calls.spliced_cons (thn (hg.run pins s2 σ H2 _ I2 q2) fun fv s3 ⟨d, H3, I3, rd, z, ey, q3⟩ => Calls.spliced_nil ?_))))
  subst ey
  obtain ⟨t, rfl⟩ := (show ∃ t, iv = Value.str z t from ry)
  have hm2 := PySem.W.mapOf_K (prog := X.prog) (w := X.w) I3.kIn hl hk
  refine call_meetsIn PySem.F.slot_dict_get hm2.typeIs PySem.F.entry_dict_get (PySem.F.args_dict_get_3 _ _ _) (meets_dict_get_default (strKind X.prog X.w) a (strKind_is X.prog X.w z t) low fv) ⟨_, hm2, ?_⟩
  rcases hf z with ⟨i, t', ef, en⟩ | ⟨ef, en⟩
  · rw [PySem.W.find_K hl en]
    rw [ef] at q3
    exact ⟨.int i, H3, I3.tok _, ⟨t', rfl⟩, q3⟩
  · rw [PySem.W.find_K hl en]
    rw [ef] at q3
    exact ⟨d, H3, I3.tok _, rd, q3⟩
end
end Sb


/-! except (A, B, ..): one clause for several classes. -/
namespace Sb
open PySem PySem.Spec PyProof.Rows L2
open PySem.W (Frag exmAny exmOne exmAny_cons exm_cls Looks)
section
variable {M : Model} {A : Around} {E : Value → Shared → Prop} {s : Shared}
theorem forIn_unit {f : Value → PUnit → Sem (ForInStep PUnit)} : ∀ (cs : List Value), (∀ c ∈ cs, ∀ (Q : ForInStep PUnit → Shared → Prop), Q (.yield PUnit.unit) s → wpAny M A (f c PUnit.unit) Q E s) → ∀ {Q : PUnit → Shared → Prop}, Q PUnit.unit s → wpAny M A (forIn cs PUnit.unit f) Q E s
  | [], _, Q, q => by
    rw [List.forIn_nil]
    exact wpAny_pure q
  | c :: r, h, Q, q => by
    rw [List.forIn_cons]
    refine wpAny_bind (h c List.mem_cons_self _ ?_)
    exact forIn_unit r (fun x hx => h x (List.mem_cons_of_mem _ hx)) q
theorem forIn_any {K : Frag} {cls : Value} {f : Value → Option Bool × Unit → Sem (ForInStep (Option Bool × Unit))} : ∀ (cs : List Value) {b : Bool}, exmAny K cls cs = some b →
    (∀ c ∈ cs, ∀ v, exmOne K cls c = some v → ∀ (Q : ForInStep (Option Bool × Unit) → Shared → Prop), Q (if v = true then .done (some true, ()) else .yield (none, ())) s → wpAny M A (f c (none, ())) Q E s) →
    ∀ {Q : Option Bool × Unit → Shared → Prop}, Q (if b = true then (some true, ()) else (none, ())) s → wpAny M A (forIn cs (none, ()) f) Q E s
  | [], b, hx, _, Q, q => by
    have : some false = some b := hx
    cases this
    rw [List.forIn_nil]
    exact wpAny_pure q
  | c :: r, b, hx, h, Q, q => by
    obtain ⟨b1, d1, x1, y1, z1⟩ := exmAny_cons hx
    rw [List.forIn_cons]
    refine wpAny_bind (h c List.mem_cons_self b1 x1 _ ?_)
    cases b1 with
    | true =>
      rw [Bool.true_or] at z1
      subst z1
      exact wpAny_pure q
    | false =>
      rw [Bool.false_or] at z1
      subst z1
      exact forIn_any r y1 (fun x hx => h x (List.mem_cons_of_mem _ hx)) q
end
theorem exmAny_mem {K : Frag} {cls : Value} : ∀ {cs : List Value} {b : Bool}, exmAny K cls cs = some b → ∀ c ∈ cs, ∃ v, exmOne K cls c = some v
  | [], _, _, _, hc => by cases hc
  | c :: r, b, hx, c', hc => by
    obtain ⟨b1, d1, x1, y1, z1⟩ := exmAny_cons hx
    rcases List.mem_cons.mp hc with rfl | hc
    · exact ⟨b1, x1⟩
    · exact exmAny_mem y1 c' hc
theorem exm_list {M : Model} {K : Frag} {cs : List Value} {cls : Value} {tp e : Addr} {b : Bool} {h : Heap} (X : K.In h) (LT : Looks M h (typeOf (.ref e)) cls) (hp : h.get? tp = some { cls := .type "tuple", data := .seq cs.toArray }) (hx : exmAny K cls cs = some b) :
    Looks M h (excMatches (.ref e) (.ref tp)) b := by
  intro A Q E s k₀ q
  obtain ⟨hh, g, d, tk, os⟩ := s
  have k : ∀ b o, h.get? b = some o → hh.get? b = some o := k₀
  have LT0 : Looks M h (isInstance (.ref tp) (.type "tuple")) true := ((Looks.ld hp).andThen .now).andThen (Looks.of_pure isSubtype_tuple_tuple)
  have LT0 := LT0.keeps k
  have LT := LT.keeps k
  have hp' := k _ _ hp
  have X' := X.keeps k
  unfold excMatches
  refine wpAny_bind (LT0.at ?_)
  dsimp only
  rw [if_pos rfl]
  refine wpAny_bind (wpAny_seqItems hp' rfl ?_)
  refine wpAny_bind (wpAny_pure ?_)
  dsimp only [Option.getD_some, Option.getD]
  refine wpAny_bind (forIn_unit cs (fun c hc Q q => ?_) ?_)
  · obtain ⟨v, hv⟩ := exmAny_mem hx c hc
    refine wpAny_bind ((exm_cls (M := M) X' hv).1.at ?_)
    rw [if_neg (by simp)]
    exact wpAny_pure q
  · refine wpAny_bind (LT.at ?_)
    refine wpAny_bind (forIn_any (K := K) (cls := cls) cs hx (fun c hc v hv Q q => ?_) ?_)
    · refine wpAny_bind ((exm_cls (M := M) X' hv).2.at ?_)
      cases v with
      | true =>
        rw [if_pos rfl] at q ⊢
        exact wpAny_pure q
      | false =>
        rw [if_neg Bool.false_ne_true] at q ⊢
        exact wpAny_pure q
    · cases b with
      | true => exact wpAny_pure q
      | false => exact wpAny_pure q
/-- names read one after the other -/
inductive NamesAll (X : Cx) : List Expr → List Value → Prop
  | nil : NamesAll X [] []
  | cons {x : Str} {c : Value} {p : Pos} {es : List Expr} {cs : List Value} (hc : Names X x c) (r : NamesAll X es cs) : NamesAll X (.Name x p :: es) (c :: cs)
def wTup (K : PySem.W.Frag) (cs : List Value) (ts : Addr → Value → Option Addr → TS) (Wout : WX) (D : Ends) : WX := fun cls d σ H =>
  ∃ b, exmAny K cls cs = some b ∧ (b = true → ∀ a, H a = none → ts a cls d D σ H) ∧ (b = false → Wout cls d σ H)
theorem flyZ_keeps {base h h' : Heap} {l : List Env} {e : Addr} {Z : Obj → Prop} (f : HandSPX.FlyingZ base l e Z h) (k : ∀ b o, h.get? b = some o → h'.get? b = some o) : HandSPX.FlyingZ base l e Z h' := by
  obtain ⟨f1, f2, f3, ⟨oe, vs, T, oT, ts, a1, a2, a3, a4, a5, a6, a7, a8, a9⟩⟩ := f
  exact ⟨fun b o e => k _ _ (f1 b o e), f2, f3.of_keeps fun b o hb _ => ⟨o, k _ _ hb, rfl⟩, oe, vs, T, oT, ts, k _ _ a1, a2, a3, a4, a5, a6, k _ _ a7, a8, a9⟩
theorem names_spl {X : Cx} {A : Around} {env : Env} {s : Shared} {pos : Pos} {Q : List Value → Shared → Prop} {E : Value → Shared → Prop} : ∀ {es : List Expr} {cs : List Value}, NamesAll X es cs →
    (∀ (x : Str) (c : Value) (p : Pos), Names X x c → ∀ (Q : Value → Shared → Prop) (E : Value → Shared → Prop), Q c s → wpAny (model X.prog X.w) A (eval (.Name x p) env) Q E s) → Q cs s →
    wpAny (model X.prog X.w) A (spliced (backTo pos (starEach es env))) Q E s
  | _, _, .nil, _, q => Calls.spliced_nil q
  | _, _, .cons (p := p) hc r, h, q => by
    refine Calls.spliced_cons (h _ _ p hc _ _ ?_)
    exact names_spl (Q := fun vs s2 => Q (_ :: vs) s2) r h q
theorem tup_read {X0 X : Cx} {A : Around} {s : Shared} {np : Pos} {kk : Nat} {Q : Value → Shared → Prop} {E : Value → Shared → Prop} {es : List Expr} {cs : List Value} {pins : List (Addr × Obj)} {σ : L2.St} {H : Hp} (_ : L2.Inv X pins σ H s) (hc : NamesAll X0 es cs)
    (h : ∀ (x : Str) (c : Value) (p : Pos), Names X0 x c → ∀ (Q : Value → Shared → Prop) (E : Value → Shared → Prop), Q c s → wpAny (model X0.prog X0.w) A (eval (.Name x p) X0.env) Q E s) (hz : cs.length ≤ sizeLine)
    (q : Q (.ref s.heap.objs.size) { s with heap := s.heap.push { cls := .type "tuple", data := .seq cs.toArray } }) : wpAny (model X0.prog X0.w) A (eval (.Tuple es kk np) X0.env) Q E s := by
  refine wpAny_Tuple_spliced (names_spl hc h ⟨hz, q⟩)
section
variable {X : Cx} {es : List Expr} {cs : List Value} {kk : Nat} {body suite : List Stmt} {b₀ : Stmt} {np pos pos' : Pos} {tb : WX → TS} {ts : Addr → Value → Option Addr → TS} {Wout : WX}
theorem ps_try_tup (hs : X.stack = X.env :: X.outer) (hf : X.env.frame = some X.env.locals) (hc : NamesAll X es cs) (hz : cs.length ≤ sizeLine) (tk : L2.Takes X Wout)
    (hb : ∀ (W : WX) (pn : List (Addr × Obj)) (xe : Value → Shared → Prop), L2.Takes (X.tr pn xe) W → PassesOwn (model X.prog X.w) X.A X.env xe → PSs (X.tr pn xe) body (tb W))
    (hsu : ∀ (a : Addr) (oe : Obj) (cls : Value) (d : Option Addr) (pn : List (Addr × Obj)), Zc cls d oe → (∃ vs, oe.data = .fields vs) → PSs (X.suite a ((a, oe) :: pn)) (b₀ :: suite) (ts a cls d)) :
    PS X (.Try body [.ExceptHandler (some (.Tuple es kk np)) none (b₀ :: suite) pos'] [] [] pos) (fun D σ H => tb (wTup X.K cs ts Wout D) D σ H) := by
  refine ⟨fun pins s σ H D I h => ?_⟩
  have ok := I.ok
  have hfr : X.A.frames = some (X.env :: X.outer) := by rw [ok.frames, hs]
  refine wpAny_Try_except ?_
  refine wpAny_mono ((hb (wTup X.K cs ts Wout D) (X.pn ++ pins) (fun e s₁ => wpAny (model X.prog X.w) X.A (noteFrame e X.env) (fun _ s₂ => wpAny (model X.prog X.w) X.A (setFlight e none) (fun _ s₃ =>
    wpAny (model X.prog X.w) X.A (handleBy e X.env [.ExceptHandler (some (.Tuple es kk np)) none (b₀ :: suite) pos']) (SP X pins D) X.xe s₃) X.xe s₂) X.xe s₁) (fun u s' xx => ?_) PassesOwn.looking).run [] s σ H D (I.toTry _) h) (fun f s1 hsp => ?_) (fun e s1 he => he)
  · -- the catch
    obtain ⟨a, B, sI, pins', σ', H', cls, d, rfl, J', nb, up, sky, na, os, ag, b, hb1, hyes, hno⟩ := xx
    have J : Inv X pins σ' H' sI := J'.ofTry ok
    have sky' : Sky B (X.env :: X.outer) a (Zc cls d) X.env.locals s'.heap := by rw [← hs]; exact sky
    show wpAny (model X.prog X.w) X.A (noteFrame (.ref a) X.env) _ _ _
    refine Sky.land Zc.steady hfr hf sky' fun h3 fl3 up3 => ?_
    have J3 : Inv X pins σ' H' { s' with heap := h3 } := J.landed nb fl3.1 (up.trans up3) os ag
    obtain ⟨oe3, vs3, he3, hz3, hd3⟩ := fl3.there
    have notFr : ∀ {h : Heap} {o : Obj} {vs : Array Value}, h.FunFrames B (X.env :: X.outer) → h.get? a = some o → o.data = .fields vs → a ∉ frs (X.env :: X.outer) := fun {h o vs} ff e dd hm => by
      obtain ⟨_, o', e', hnf⟩ := ff.mem hm
      rw [e] at e'; cases e'
      exact hnf _ dd
    have nfr := notFr fl3.2.2.1 he3 hd3
    have nL : a ≠ X.env.locals := fun z => nfr (List.mem_filterMap.mpr ⟨X.env, List.mem_cons_self, by rw [hf, z]⟩)
    have nF : a ∉ X.fs := fun hm => by
      obtain ⟨e, he, q⟩ := List.mem_filterMap.mp hm
      exact nfr (List.mem_filterMap.mpr ⟨e, List.mem_cons_of_mem _ he, q⟩)
    have S3 := J3.suite he3 hd3 na nL nF
    refine wpAny_handleBy_cons (codeAny_handlers_test ?_) (by intro q; cases q)
    have LT : PySem.W.Looks (model X.prog X.w) h3 (typeOf (.ref a)) cls := fun A Q E s k q => wpAny_typeOf_ref (k _ _ he3) (by rw [hz3.1]; exact q)
    refine tup_read (X := X.suite a ((a, oe3) :: (X.pn ++ pins))) S3 hc (fun x c p hc Q E q => ?_) hz ?_
    · obtain ⟨hg, hdbg, hm | ⟨hm, hv, hnn⟩⟩ := hc
      · exact ld_glob (X := X.suite a ((a, oe3) :: (X.pn ++ pins))) S3 hg hm q hdbg
      · exact ld_blt (X := X.suite a ((a, oe3) :: (X.pn ++ pins))) S3 hg hm hv q hnn hdbg
    have kp : ∀ b o, h3.get? b = some o → (h3.push { cls := .type "tuple", data := .seq cs.toArray }).get? b = some o := fun b o z => Heap.get?_push_of_some _ z
    have LM := exm_list (M := model X.prog X.w) (J3.kIn.keeps kp) (LT.keeps kp) (tp := h3.objs.size) (Heap.get?_push_size _ rfl) hb1
    have fl3 := flyZ_keeps fl3 kp
    have up3 := up3.trans (Heap.UpToSlots.of_keeps kp)
    have he3 := kp _ _ he3
    generalize h3.push { cls := .type "tuple", data := .seq cs.toArray } = h3 at *
    refine LM.here ?_
    cases b with
    | true =>
      refine codeAny_handlers_suite ?_
      refine HandSPX.lands_againZ fl3 fun h4 fl4 up4 => ?_
      have J4 : Inv X pins σ' H' { s' with heap := h4 } := J.landed nb fl4.1 ((up.trans up3).trans up4) os ag
      obtain ⟨oe4, vs4, he4, hz4, hd4⟩ := fl4.there
      have S4 := J4.suite he4 hd4 na nL nF
      refine wpAny_mono ((hsu a oe4 cls d (X.pn ++ pins) hz4 ⟨_, hd4⟩).run [] _ _ H' _ S4 (hyes rfl a na)) (fun f s6 hsp => ?_) (fun _ _ z => False.elim z)
      cases f with
      | next =>
        obtain ⟨σ6, H6, S6, q6⟩ := hsp
        exact ⟨_, _, S6.unsuite ok, q6⟩
      | brk =>
        obtain ⟨σ6, H6, S6, q6⟩ := hsp
        exact ⟨_, _, S6.unsuite ok, q6⟩
      | cont =>
        obtain ⟨σ6, H6, S6, q6⟩ := hsp
        exact ⟨_, _, S6.unsuite ok, q6⟩
      | ret u =>
        obtain ⟨v6, σ6, H6, S6, r6, q6⟩ := hsp
        exact ⟨_, _, _, S6.unsuite ok, r6, q6⟩
    | false =>
      show wpAny _ X.A (handleBy (.ref a) X.env []) _ _ _
      refine wpAny_handleBy_nil ?_
      obtain ⟨k1, k2, k3, oe, vs, T, oT, ts', he, hz, hd, h1, hr⟩ := id fl3
      unfold PySem.passOn
      refine wpAny_bind (wpAny_field he hd h1 ?_)
      rw [if_neg (show ¬ ((Value.ref T == Value.none) = true) from by simp)]
      have fin : wpAny (model X.prog X.w) X.A (setFlight (.ref a) X.env.frame) (fun _ s4 => wpAny (model X.prog X.w) X.A (throw (.ref a) : Sem Flow) (SP X pins D) X.xe s4) X.xe { s' with heap := h3 } := by
        rw [hf]
        refine HandSPX.setFlight_upZ fl3 fun h4 hh4 up4 => wpAny_throw (tk _ _ ?_)
        exact ⟨a, B, sI, pins, σ', H', cls, d, rfl, J, nb, (up.trans up3).trans up4, .inr (.inr (by rw [hs]; exact hh4)), na, os, ag, hno rfl⟩
      first
        | exact wpAny_bind (wpAny_pure (wpAny_bind fin))
        | exact wpAny_bind fin
  · cases f with
    | next =>
      obtain ⟨σ', H', J', q⟩ := hsp
      exact wpAny_execs_nil ⟨σ', H', J'.ofTry ok, q⟩
    | brk =>
      obtain ⟨σ', H', J', q⟩ := hsp
      exact ⟨σ', H', J'.ofTry ok, q⟩
    | cont =>
      obtain ⟨σ', H', J', q⟩ := hsp
      exact ⟨σ', H', J'.ofTry ok, q⟩
    | ret u =>
      obtain ⟨v, σ', H', J', r, q⟩ := hsp
      exact ⟨v, σ', H', J'.ofTry ok, r, q⟩
end
end Sb

/-! not in a written table; str of an int or a text. -/
namespace Sb
open PySem PySem.Spec PyProof.Rows L2 TL
section
variable {X : Cx} {i o : Expr} {ty td : TE}
theorem pc_knotin (hi : PE X i ty) (ho : PE X o td) : PC X .NotIn i o (tKNotIn X.K X.w ty td) := by
  refine ⟨fun pins s σ H Q I h => ?_⟩
  refine thn (hi.run pins s σ H _ I h) fun iv s1 ⟨y, H1, I1, ry, q1⟩ => thn (ho.run pins s1 σ H1 _ I1 q1) fun u s2 ⟨x, H2, I2, rx, a, f, z, ex, ey, ⟨es, n, hl, hk, low, hf⟩, q2⟩ => ?_
  subst ex ey
  obtain rfl : u = Value.ref a := rx
  obtain ⟨t, rfl⟩ := (show ∃ t, iv = Value.str z t from ry)
  have hm := PySem.W.mapOf_K (prog := X.prog) (w := X.w) I2.kIn hl hk
  refine wpAny_notIn_of (strKind_is X.prog X.w z t) low hm ?_
  rcases hf z with ⟨j, t', ef, en⟩ | ⟨ef, en⟩
  · rw [PySem.W.find_K hl en]
    rw [ef] at q2
    exact ⟨.bl false, H2, I2.tok _, rfl, q2⟩
  · rw [PySem.W.find_K hl en]
    rw [ef] at q2
    exact ⟨.bl true, H2, I2.tok _, rfl, q2⟩
theorem callR_or {f : Value} {r1 r2 : List V → Hp → VK → Prop} (h1 : CallR X f r1) (h2 : CallR X f r2) : CallR X f (fun xs H Q => r1 xs H Q ∨ r2 xs H Q) := by
  intro pins s σ H xs us Q I r h
  rcases h with h | h
  · exact h1 pins s σ H xs us Q I r h
  · exact h2 pins s σ H xs us Q I r h
theorem call_strK : CallR X (.type "str") (fun xs H Q => (∃ i, xs = [.int i] ∧ i.natAbs.log2 < 1920 ∧ Q (.str (toString i)) H) ∨ (∃ a, xs = [.str a] ∧ Q (.str a) H)) := callR_or call_str_int SkE.call_str_str
/-- d.items() of a dict that is just made -/
def iItemsL (td : TE) : TI := fun σ H R => td σ H fun x H1 => ∃ d kvs, x = V.ref d ∧ H1 d = some (.dT kvs) ∧ ∀ o, R (Itit d o kvs) (upd H1 d (.frz o (.dT kvs)))
theorem pi_itemsL {e : Expr} {td : TE} {apos cpos : Pos} {elts : List Expr} {kk : Nat} {tpos : Pos} (he : PE X e td) (hbase : attributeBase e (Str.ofString "items") X.env (eval e X.env) = eval e X.env := by rfl) (hline : (apos.endLine == cpos.line) = true := by rfl) :
    PI X (.Tuple elts kk tpos) (.Call (.Attribute e (Str.ofString "items") apos) [] [] cpos) (iItemsL td) := by
  refine ⟨fun pins s σ H R I h => ?_⟩
  refine wpAny_Call_method hbase rfl hline PySem.F.plainAttrs_dict PySem.F.slot_dict_items PySem.F.type_dict_items (thn (he.run pins s σ H _ I h) fun u s1 ⟨x, H0, I0, rx, d, kvs, ex, hd0, q⟩ => ?_)
  subst ex
  obtain rfl : u = Value.ref d := rx
  obtain ⟨o, I1⟩ := I0.lock hd0 trivial
  have hd : (upd H0 d (.frz o (.dT kvs))) d = some (.frz o (.dT kvs)) := upd_same
  have q := q o
  generalize upd H0 d (.frz o (.dT kvs)) = H1 at *
  obtain ⟨hgd, hx, hs, es, ep, hdt, hsz, ent⟩ := frzT' I1 hd
  have raw : DT.Raw s1.heap d es ep := ⟨o, hgd, hx, hdt⟩
  refine ⟨DT.Raw.typeIs raw, fun a e => by cases e; exact ⟨o, hgd, hx.2.1⟩, ?_⟩
  have I2 : L2.Inv X pins σ H1 { s1 with heap := s1.heap.push { cls := .type "dict_items", data := .fields #[.ref d] } } := Inv.kept I1 fun b ob q => Heap.get?_push_of_some _ q
  have fin := DT.iterI (prog := X.prog) (w := X.w) (A := X.A) (E := X.xe) (Q := PIE X pins σ (.Tuple elts kk tpos) R) (s := { s1 with heap := s1.heap.push { cls := .type "dict_items", data := .fields #[.ref d] } }) (v := s1.heap.objs.size) ⟨_, Heap.get?_push_size _ rfl, rfl, rfl⟩ (DT.Raw.push raw _) (pi_one I2 _ (turn_itemsT _ hdt) ⟨.none, .none, by rw [← hsz]; exact Heap.get?_push_size _ rfl⟩ q)
  refine method_meetsIn PySem.F.slot_dict_items PySem.F.entry_dict_items rfl (PySem.evalArgs_none ⟨rfl, DT.Raw.typeIs raw, PySem.F.args_dict_items_1 _, _, DT.meetsItems hs, raw, fin⟩)
/-- t + u, both known -/
def rCatB : R2 := fun x y H Q => ∃ a b xs ys, x = .ref a ∧ y = .ref b ∧ H a = some (.tup xs) ∧ H b = some (.tup ys) ∧ xs.length + ys.length ≤ sizeLine ∧ ∀ p H', Same H H' → H' p = some (.tup (xs ++ ys)) → Q (.ref p) H'
theorem op_catB : OpR X (binaryOp .Add) rCatB := opImp op_catA fun x y H Q ⟨a, b, xs, ys, ex, ey, ha, hb, hl, q⟩ => ⟨a, b, xs, ys, ex, ey, SqT.of ha, SqT.of hb, hl,
  fun e => by subst e; exact q b H (Same.refl H) hb, fun _ e => by subst e; exact q a H (Same.refl H) (by rw [List.append_nil]; exact ha), fun _ _ p np => q p _ (same_new np) upd_same⟩
end
end Sb

/-! dict(a list of pairs), the keys tuples. -/
namespace Sb
open PySem PySem.Spec PyProof.Rows L2
/-- pairs of a key tuple and a value, at these addresses -/
abbrev PairsT (H : Hp) : List Addr → List (List Key × Addr × V) → Prop := Paired fun t p => H t = some (.tup [.ref p.2.1, p.2.2]) ∧ H p.2.1 = some (.tup (p.1.map kV))
section
variable {X : Cx}
theorem pairsT_of {pins : List (Addr × Obj)} {σ : L2.St} {H : Hp} {s : Shared} (I : L2.Inv X pins σ H s) : ∀ {ts : List Addr} {ps : List (List Key × Addr × V)}, PairsT H ts ps →
    ∃ xs : List (List Key × Addr × Value), KT H (ps.map fun p => (p.1, p.2.2)) xs ∧ xs.map (·.1) = ps.map (·.1) ∧ ts.length = xs.length ∧ ∀ (j : Nat) (x : List Key × Addr × Value), xs[j]? = some x → ∃ t : Addr, ts[j]? = some t ∧ IsTup s.heap t #[.ref x.2.1, x.2.2] ∧ H x.2.1 = some (.tup (x.1.map kV))
  | _, _, .nil => ⟨[], .nil, rfl, rfl, fun j q e => by simp at e⟩
  | _, _, .cons (a := t) (b := p) h r => by
    obtain ⟨xs, h1, h2, h3, h4⟩ := pairsT_of I r
    obtain ⟨its, rv, ht, _⟩ := I.tuple (SqT.of h.1)
    obtain ⟨u, y, ei, ru, ry⟩ := vals2 rv
    subst ei
    obtain rfl : u = Value.ref p.2.1 := ru
    refine ⟨(p.1, p.2.1, y) :: xs, .cons ⟨rfl, h.2, ry⟩ h1, by rw [List.map_cons, List.map_cons, h2], by rw [List.length_cons, List.length_cons, h3], fun j q e => ?_⟩
    cases j with
    | zero =>
      have e' : (p.1, p.2.1, y) = q := Option.some.inj e
      subst e'
      exact ⟨t, rfl, ht, h.2⟩
    | succ j =>
      obtain ⟨t', e1, e2⟩ := h4 j q (by simpa using e)
      exact ⟨t', by simpa using e1, e2⟩
def rDictPT : List V → Hp → VK → Prop := fun xs H Q => ∃ (a : Addr) (ts : List Addr) (ps : List (List Key × Addr × V)), xs = [.ref a] ∧ H a = some (.lst (ts.map V.ref)) ∧ PairsT H ts ps ∧ (ps.map (·.1)).Nodup ∧
  ∀ d, H d = none → Q (.ref d) (upd H d (.dT (ps.map fun p => (p.1, p.2.2))))
theorem call_dictPT (hc : X.calm = true) (hu : X.A.units + 64 < cLine) : CallR X (.type "dict") rDictPT := by
  intro pins s σ H xs us Q I r h
  obtain ⟨a, ts, ps, rfl, ha, hp, nd, q⟩ := h
  obtain ⟨u, rfl, rx⟩ := vals1 r
  obtain rfl : u = Value.ref a := rx
  obtain ⟨its, rv, pl, hz⟩ := I.list (SqL.of ha)
  have ei := refs_at rv
  subst ei
  rw [List.length_map] at hz
  obtain ⟨xH, kt, k1, l1, hpr⟩ := pairsT_of I hp
  obtain ⟨o, n, ho, hcl, hd, hdat⟩ := pl
  have prs : ∀ {j : Nat} {k v : Value}, (xH.map fun x => (Value.ref x.2.1, x.2.2))[j]? = some (k, v) → ∃ x, xH[j]? = some x ∧ k = .ref x.2.1 ∧ v = x.2.2 := fun {j k v} e => by
    rw [List.getElem?_map] at e
    obtain ⟨x, e1, e2⟩ := Option.map_eq_some_iff.mp e
    cases e2
    exact ⟨x, e1, rfl, rfl⟩
  refine call_dict_pairsH (knd := tupleKind (mixKind X.prog X.w)) (ps := xH) (PairArg.list a (ts.map Value.ref).toArray (fun j => (ts[j]?).getD 0) (xH.map fun x => (Value.ref x.2.1, x.2.2))) (I.ok.hd hc) ?_ ⟨⟨o, n, ho, hcl, hd, hdat⟩, ?_, fun j k v e => ?_⟩ ⟨by rw [List.length_map], fun j k v e => ?_⟩ (fun h' k' x hx => ?_) ?_ fun h' tk hd' k => ?_
  · show X.A.in1.in1.units < cLine
    show X.A.units + 1 + 1 < cLine
    omega
  · simp [l1]
  · obtain ⟨x, e1, rfl, rfl⟩ := prs e
    obtain ⟨t, e2, e3, _⟩ := hpr j x e1
    refine ⟨by simp [e2], .inl ?_⟩
    show IsTup s.heap ((ts[j]?).getD 0) _
    rw [e2]
    exact e3
  · obtain ⟨x, e1, rfl, rfl⟩ := prs e
    exact ⟨x.1, x.2.1, e1, rfl⟩
  · obtain ⟨j, hj⟩ := List.mem_iff_getElem?.mp hx
    obtain ⟨t, e2, e3, e4⟩ := hpr j x hj
    obtain ⟨oo, its, n, h1, h2, h3⟩ := key_of I.hok e4
    refine ⟨oo, its, n, k' _ _ ?_ (fun z => nomatch z) h1, h2, h3⟩
    exact Nat.ne_of_lt (Heap.lt_size h1)
  · rw [List.length_map, ← l1]
    exact hz
  · have hm : (s.heap.objs.size == sysModules) = false := beq_eq_false_iff_ne.mpr (Nat.ne_of_gt I.big)
    rw [storedAllH_nil_of_nodup xH (by rw [k1]; exact nd)] at hd'
    have kp : ∀ b o, s.heap.get? b = some o → h'.get? b = some o := fun b o e => k b o (fun z => nomatch z) e
    have hlen : (ps.map fun p => (p.1, p.2.2)).length ≤ sizeLine := by
      rw [Paired.length kt, ← l1]
      exact hz
    refine ⟨.ref s.heap.objs.size, upd H s.heap.objs.size (.dT (ps.map fun p => (p.1, p.2.2))), I.laid (t' := tk) kp (Nat.le_refl _) ?_, rfl, q _ (I.hok.fresh (Nat.le_refl _))⟩
    obtain ⟨o', es, ep, g1, g2, g3, g4, g5, g6⟩ := hd'
    refine ⟨hlen, hm, xH, Paired.mapP kt fun a b z => ⟨z.1, ?_, z.2.2⟩, o', es, ep, g1, g2, g3, g4, g6⟩
    have hf := I.hok.fresh (Nat.le_refl s.heap.objs.size)
    rw [upd_ne (ne_of_none z.2.1 hf)]
    exact z.2.1
/-- d.update(e), both with tuple keys, e's not in d -/
def rUpdT : V → List V → Hp → VK → Prop := fun x xs H Q => ∃ (d o : Addr) (kvs more : List (List Key × V)), x = .ref d ∧ xs = [.ref o] ∧ H d = some (.dT kvs) ∧ H o = some (.dT more) ∧ d ≠ o ∧ more.length ≤ 1 ∧ kvs.length ≤ 1000 ∧ ((kvs ++ more).map (·.1)).Nodup ∧ Q .non (upd H d (.dT (kvs ++ more)))
theorem paired_app {α β : Type} {R : α → β → Prop} : ∀ {a c : List α} {b d : List β}, Paired R a b → Paired R c d → Paired R (a ++ c) (b ++ d)
  | _, _, _, _, .nil, h => h
  | _, _, _, _, .cons x r, h => .cons x (paired_app r h)
theorem mt_updT (hu : X.A.units + 64 < cLine) : MtR X "dict.update" rUpdT := by
  intro pins s σ H x xs v us Q I rx rxs h
  obtain ⟨d, o, kvs, more, rfl, rfl, hd, ho, ne, lm, lk, nd, q⟩ := h
  obtain ⟨u, rfl, ru⟩ := vals1 rxs
  obtain rfl : u = Value.ref o := ru
  obtain rfl : v = Value.ref d := rx
  obtain ⟨z1, hd1, xd, reld, dd⟩ := dt_of I.hok hd
  obtain ⟨z2, hd2, xo, relo, od⟩ := dt_of I.hok ho
  have e1 : xd.map (·.1) = kvs.map (·.1) := by
    have : ∀ {l : List (List Key × V)} {m : List (List Key × Addr × Value)}, KT H l m → m.map (·.1) = l.map (·.1) := by
      intro l m q
      induction q with
      | nil => rfl
      | cons a _ ih => rw [List.map_cons, List.map_cons, ih, a.1]
    exact this reld
  have e2 : xo.map (·.1) = more.map (·.1) := by
    have : ∀ {l : List (List Key × V)} {m : List (List Key × Addr × Value)}, KT H l m → m.map (·.1) = l.map (·.1) := by
      intro l m q
      induction q with
      | nil => rfl
      | cons a _ ih => rw [List.map_cons, List.map_cons, ih, a.1]
    exact this relo
  have lo : xo.length = more.length := (Paired.length relo).symm
  have ld : xd.length = kvs.length := (Paired.length reld).symm
  refine call_update_dictH (knd := tupleKind (mixKind X.prog X.w)) (tupleKind_room_in1 (by omega)) ne hd2 dd od ?_ ?_ fun h' dd' _ hs => ?_
  · right
    refine ⟨fun x hx => ?_, ?_⟩
    · obtain ⟨j, hj⟩ := List.mem_iff_getElem?.mp hx
      have hb : ∃ k : List Key, H x.2.1 = some (.tup (k.map kV)) := by
        have : ∀ {l : List (List Key × V)} {m : List (List Key × Addr × Value)}, KT H l m → ∀ x ∈ m, ∃ k : List Key, H x.2.1 = some (.tup (k.map kV)) := by
          intro l m q
          induction q with
          | nil => intro x hx; cases hx
          | cons a _ ih =>
            intro x hx
            rcases List.mem_cons.mp hx with e | hx
            · exact ⟨_, by rw [e]; exact a.2.1⟩
            · exact ih x hx
        exact this relo x hx
      obtain ⟨k, hk⟩ := hb
      obtain ⟨oo, its, n, h1, h2, h3⟩ := key_of I.hok hk
      exact ⟨oo, h1, h2⟩
    · have : xo.length ≤ 1 := by omega
      match xo, this with
      | [], _ => exact List.nodup_nil
      | [a], _ => exact List.nodup_cons.mpr ⟨by simp, List.nodup_nil⟩
  · rw [ld, lo]
    exact Nat.le_trans (show kvs.length + more.length ≤ 1001 by omega) (by decide)
  · have nd' : ((xd ++ xo).map (·.1)).Nodup := by
      rw [List.map_append, e1, e2, ← List.map_append]
      exact nd
    rw [storedAllH_append_of_fresh xd xo nd'] at dd'
    obtain ⟨o', es, ep, g1, g2, g3, g4, g5, g6⟩ := dd'
    refine ⟨.non, _, d_write (ob := .dT (kvs ++ more)) I (by rw [hd]; trivial) hs ⟨o', g1⟩ ⟨?_, hd1, xd ++ xo, ?_, o', es, ep, g1, g2, g3, g4, g6⟩, rfl, q⟩
    · rw [List.length_append]
      exact Nat.le_trans (show kvs.length + more.length ≤ 1001 by omega) (by decide)
    · refine Paired.mapP (paired_app reld relo) fun a b z => ⟨z.1, ?_, z.2.2⟩
      rw [upd_ne (ne_of z.2.1 hd (fun z => nomatch z))]
      exact z.2.1
end
end Sb

/-! l == [] -/
namespace Sb
open PySem PySem.Spec PyProof.Rows L2
section
variable {X : Cx}
def rEqL0 : R2 := fun x y H Q => ∃ a b xs, x = .ref a ∧ y = .ref b ∧ H a = some (.lst xs) ∧ H b = some (.lst []) ∧ Q (.bl xs.isEmpty) H
theorem op_eqL0 (hu : X.A.units + 64 < cLine) : OpR X (compareOp .Eq) rEqL0 := by
  intro pins s σ H x y v u Q I rx ry h
  obtain ⟨a, b, xs, rfl, rfl, ha, hb, q⟩ := h
  cases rx
  cases ry
  obtain ⟨its, r1, t1, _⟩ := I.list (SqL.of (K := X.K) ha)
  obtain ⟨its2, r2, t2, _⟩ := I.list (SqL.of (K := X.K) hb)
  cases r2
  cases xs with
  | nil =>
    cases r1
    refine SeqAt.RcAt.lists (e := fun _ => true) t1.isList t2.isList rfl (by omega) (fun j _ h2 => absurd h2 (Nat.not_lt_zero _)) X.prog X.w X.xe (EP X pins σ Q) ⟨.bl _, H, I, rfl, q⟩
  | cons z zs =>
    cases r1
    refine SeqAt.RcAt.lists_lengths t1.isList t2.isList (by rfl) (by omega) X.prog X.w X.xe (EP X pins σ Q) ⟨.bl _, H, I, rfl, q⟩
end
end Sb

namespace Sb
open PySem PySem.Spec PyProof.Rows L2
theorem ne_fr {H : Hp} {a b : Addr} {o : HO} (n : H b = none) (h : H a = some o) : a ≠ b := ne_of_none h n
theorem ne_fr' {H : Hp} {a b : Addr} {o : HO} (n : H b = none) (h : H a = some o) : b ≠ a := (ne_of_none h n).symm
theorem upd_off {H : Hp} {a b : Addr} {o u : HO} (n : b ≠ a) (h : H b = some u) : upd H a o b = some u := by rw [upd_ne n]; exact h
theorem upd_offN {H : Hp} {a b : Addr} {o : HO} (n : b ≠ a) (h : H b = none) : upd H a o b = none := by rw [upd_ne n]; exact h
theorem upd_none {H : Hp} {a b : Addr} {o : HO} (h : upd H a o b = none) : b ≠ a ∧ H b = none := by
  by_cases e : b = a
  · subst e
    rw [upd_same] at h
    cases h
  · rw [upd_ne e] at h
    exact ⟨e, h⟩
local macro_rules | `(tactic| walk_at "ne") => `(tactic| first
  | assumption
  | exact Ne.symm (by assumption)
  | exact ne_fr (by assumption) (by walk_at "hp")
  | exact ne_fr' (by assumption) (by walk_at "hp"))
local macro_rules | `(tactic| walk_at "hp") => `(tactic| first
  | assumption
  | exact upd_same
  | exact upd_off (by walk_at "ne") (by walk_at "hp"))

def top (i : Nat) : Stmt := PySem.Challenge.pw_seenbefore_k76_texts_that_are_no_watcher.main.body.getD i (.Pass ⟨0, 0, 0, 0⟩)
abbrev s_is_integer : Stmt := top 11
abbrev s_is_between : Stmt := top 12
abbrev s_Watcher_init : Stmt := inClass (top 20) 0
abbrev s_Watcher_len : Stmt := inClass (top 20) 1
abbrev s_Watcher_add_state : Stmt := inClass (top 20) 3
abbrev s_Watcher_set_verdict : Stmt := inClass (top 20) 4
abbrev s_Watcher_add_rule : Stmt := inClass (top 20) 5
abbrev s_Watcher_verdicts : Stmt := inClass (top 20) 7
abbrev s_Watcher_held_counts : Stmt := inClass (top 20) 8
abbrev s_Watcher_rules : Stmt := inClass (top 20) 9
abbrev s_Watcher_require_state : Stmt := inClass (top 20) 12
abbrev s_Watcher_require_word : Stmt := inClass (top 20) 13
abbrev s_require_verdict : Stmt := top 21
abbrev s_is_test : Stmt := top 22
abbrev s_are_sources : Stmt := top 23
abbrev s_is_source : Stmt := top 24
abbrev s_rule_order : Stmt := top 25
abbrev s_part_order : Stmt := top 26
abbrev s_format_watcher : Stmt := top 30
abbrev s_parse_watcher : Stmt := top 31
abbrev s_read_line : Stmt := top 32
abbrev s_read_parts : Stmt := top 33
abbrev s_read_start : Stmt := top 34
abbrev s_read_state : Stmt := top 35
abbrev s_read_rule : Stmt := top 36
abbrev s_law_pen : Stmt := top 38
abbrev s_law_fresh : Stmt := top 39
abbrev s_law_draw : Stmt := top 40
abbrev s_law_some_sources : Stmt := top 41
abbrev s_law_plan : Stmt := top 42
abbrev s_law_rank : Stmt := top 43
abbrev s_law_plan_text : Stmt := top 44
abbrev s_law_whole : Stmt := top 45
abbrev s_law_kind_of : Stmt := top 46
abbrev s_law_sources : Stmt := top 47
abbrev s_law_rule : Stmt := top 48
abbrev s_law_due : Stmt := top 49
abbrev s_law_raised : Stmt := top 50
abbrev s_law_lines_spoilt : Stmt := top 51
abbrev s_law_spoilt : Stmt := top 52
abbrev s_law : Stmt := top 53
abbrev s_NotAWord_init : Stmt := inClass (top 2) 0
abbrev s_NotAVerdict_init : Stmt := inClass (top 3) 0
abbrev s_InvalidTest_init : Stmt := inClass (top 4) 0
abbrev s_InvalidSources_init : Stmt := inClass (top 5) 0
abbrev s_ParseError_init : Stmt := inClass (top 6) 0
abbrev s_UnknownState_init : Stmt := inClass (top 7) 0
abbrev s_RuleExists_init : Stmt := inClass (top 8) 0
abbrev s_LimitExceeded_init : Stmt := inClass (top 9) 0
def lit_DIGITS : List (Str × Int) := [("0", 0), ("1", 1), ("2", 2), ("3", 3), ("4", 4), ("5", 5)]
def lit_FIRST_LINES : List (Str × Int) := [("words 1", 1), ("words 2", 2), ("words 3", 3)]
/-- where all stands -/
structure Tx (K : PySem.W.Frag) (mg : Str → Option Value) where
  Watcher : Cn K mg "Watcher"
  nf_Watcherwords : NoAttr K Watcher.C "words"
  nf_Watcher_verdicts : NoAttr K Watcher.C "_verdicts"
  nf_Watcher_held : NoAttr K Watcher.C "_held"
  nf_Watcher_rules : NoAttr K Watcher.C "_rules"
  is_integer : Dn K mg "is_integer" s_is_integer ["value"]
  is_between : Dn K mg "is_between" s_is_between ["value", "low", "high"]
  Watcher_init : Mn K Watcher.C "__init__" "Watcher.__init__" s_Watcher_init ["self", "words"]
  Watcher_len : Mn K Watcher.C "__len__" "Watcher.__len__" s_Watcher_len ["self"]
  Watcher_add_state : Mn K Watcher.C "add_state" "Watcher.add_state" s_Watcher_add_state ["self", "verdict", "held"]
  Watcher_set_verdict : Mn K Watcher.C "set_verdict" "Watcher.set_verdict" s_Watcher_set_verdict ["self", "state", "verdict"]
  Watcher_add_rule : Mn K Watcher.C "add_rule" "Watcher.add_rule" s_Watcher_add_rule ["self", "state", "word", "test", "target", "sources"]
  Watcher_verdicts : Mn K Watcher.C "verdicts" "Watcher.verdicts" s_Watcher_verdicts ["self"]
  Watcher_held_counts : Mn K Watcher.C "held_counts" "Watcher.held_counts" s_Watcher_held_counts ["self"]
  Watcher_rules : Mn K Watcher.C "rules" "Watcher.rules" s_Watcher_rules ["self"]
  Watcher_require_state : Mn K Watcher.C "require_state" "Watcher.require_state" s_Watcher_require_state ["self", "state"]
  Watcher_require_word : Mn K Watcher.C "require_word" "Watcher.require_word" s_Watcher_require_word ["self", "word"]
  require_verdict : Dn K mg "require_verdict" s_require_verdict ["verdict"]
  is_test : Dn K mg "is_test" s_is_test ["test", "held"]
  are_sources : Dn K mg "are_sources" s_are_sources ["sources", "wanted", "held", "test"]
  is_source : Dn K mg "is_source" s_is_source ["source", "held", "test"]
  rule_order : Dn K mg "rule_order" s_rule_order ["rule"]
  part_order : Dn K mg "part_order" s_part_order ["part"]
  format_watcher : Dn K mg "format_watcher" s_format_watcher ["watcher"]
  parse_watcher : Dn K mg "parse_watcher" s_parse_watcher ["text"]
  read_line : Dn K mg "read_line" s_read_line ["watcher", "index", "line"]
  read_parts : Dn K mg "read_parts" s_read_parts ["watcher", "index", "parts"]
  read_start : Dn K mg "read_start" s_read_start ["watcher", "parts"]
  read_state : Dn K mg "read_state" s_read_state ["watcher", "parts"]
  read_rule : Dn K mg "read_rule" s_read_rule ["watcher", "parts"]
  law_pen : Dn K mg "_law_pen" s_law_pen ["script"]
  law_fresh : Dn K mg "_law_fresh" s_law_fresh ["pen"]
  law_draw : Dn K mg "_law_draw" s_law_draw ["pen", "many"]
  law_some_sources : Dn K mg "_law_some_sources" s_law_some_sources ["pen", "held", "test", "many"]
  law_plan : Dn K mg "_law_plan" s_law_plan ["pen", "words", "states", "held"]
  law_rank : Dn K mg "_law_rank" s_law_rank ["rule"]
  law_plan_text : Dn K mg "_law_plan_text" s_law_plan_text ["plan"]
  law_whole : Dn K mg "_law_whole" s_law_whole ["word", "most"]
  law_kind_of : Dn K mg "_law_kind_of" s_law_kind_of ["words", "is_first"]
  law_sources : Dn K mg "_law_sources" s_law_sources ["words", "held", "test", "many"]
  law_rule : Dn K mg "_law_rule" s_law_rule ["words", "many", "kinds"]
  law_due : Dn K mg "_law_due" s_law_due ["text"]
  law_raised : Dn K mg "_law_raised" s_law_raised ["text"]
  law_lines_spoilt : Dn K mg "_law_lines_spoilt" s_law_lines_spoilt ["pen", "lines"]
  law_spoilt : Dn K mg "_law_spoilt" s_law_spoilt ["pen", "lines"]
  mk_Watcher : Mk K Watcher.C Watcher_init.f
  bt_rule_order : ∀ (s : Shared) (v : Value), BindsTo s rule_order.fd ⟨[v], []⟩ [("rule", v)]
  bt_part_order : ∀ (s : Shared) (v : Value), BindsTo s part_order.fd ⟨[v], []⟩ [("part", v)]
  tf_Watcher_len : PySem.W.typeIn K (.ref Watcher_len.f) = some (.type "function")
  NotAWord : En K mg OwnE.bVE "NotAWord" "word" "NotAWord.__init__"
  NotAVerdict : En K mg OwnE.bVE "NotAVerdict" "verdict" "NotAVerdict.__init__"
  InvalidTest : En K mg OwnE.bVE "InvalidTest" "test" "InvalidTest.__init__"
  InvalidSources : En K mg OwnE.bVE "InvalidSources" "sources" "InvalidSources.__init__"
  ParseError : En K mg OwnE.bVE "ParseError" "line" "ParseError.__init__"
  UnknownState : En K mg OwnE.bLE "UnknownState" "state" "UnknownState.__init__"
  RuleExists : En K mg OwnE.bRE "RuleExists" "rule" "RuleExists.__init__"
  LimitExceeded : En K mg OwnE.bOE "LimitExceeded" "limit" "LimitExceeded.__init__"
  ap_UnknownState_NotAVerdict : PySem.W.subIn K (.ref UnknownState.C) (.ref NotAVerdict.C) = some false
  ap_UnknownState_LimitExceeded : PySem.W.subIn K (.ref UnknownState.C) (.ref LimitExceeded.C) = some false
  ap_UnknownState_NotAWord : PySem.W.subIn K (.ref UnknownState.C) (.ref NotAWord.C) = some false
  ap_UnknownState_InvalidTest : PySem.W.subIn K (.ref UnknownState.C) (.ref InvalidTest.C) = some false
  ap_UnknownState_InvalidSources : PySem.W.subIn K (.ref UnknownState.C) (.ref InvalidSources.C) = some false
  ap_UnknownState_RuleExists : PySem.W.subIn K (.ref UnknownState.C) (.ref RuleExists.C) = some false
  ap_NotAVerdict_UnknownState : PySem.W.subIn K (.ref NotAVerdict.C) (.ref UnknownState.C) = some false
  ap_NotAVerdict_LimitExceeded : PySem.W.subIn K (.ref NotAVerdict.C) (.ref LimitExceeded.C) = some false
  ap_NotAVerdict_NotAWord : PySem.W.subIn K (.ref NotAVerdict.C) (.ref NotAWord.C) = some false
  ap_NotAVerdict_InvalidTest : PySem.W.subIn K (.ref NotAVerdict.C) (.ref InvalidTest.C) = some false
  ap_NotAVerdict_InvalidSources : PySem.W.subIn K (.ref NotAVerdict.C) (.ref InvalidSources.C) = some false
  ap_NotAVerdict_RuleExists : PySem.W.subIn K (.ref NotAVerdict.C) (.ref RuleExists.C) = some false
  ap_LimitExceeded_UnknownState : PySem.W.subIn K (.ref LimitExceeded.C) (.ref UnknownState.C) = some false
  ap_LimitExceeded_NotAVerdict : PySem.W.subIn K (.ref LimitExceeded.C) (.ref NotAVerdict.C) = some false
  ap_LimitExceeded_NotAWord : PySem.W.subIn K (.ref LimitExceeded.C) (.ref NotAWord.C) = some false
  ap_LimitExceeded_InvalidTest : PySem.W.subIn K (.ref LimitExceeded.C) (.ref InvalidTest.C) = some false
  ap_LimitExceeded_InvalidSources : PySem.W.subIn K (.ref LimitExceeded.C) (.ref InvalidSources.C) = some false
  ap_LimitExceeded_RuleExists : PySem.W.subIn K (.ref LimitExceeded.C) (.ref RuleExists.C) = some false
  ap_NotAWord_UnknownState : PySem.W.subIn K (.ref NotAWord.C) (.ref UnknownState.C) = some false
  ap_NotAWord_NotAVerdict : PySem.W.subIn K (.ref NotAWord.C) (.ref NotAVerdict.C) = some false
  ap_NotAWord_LimitExceeded : PySem.W.subIn K (.ref NotAWord.C) (.ref LimitExceeded.C) = some false
  ap_NotAWord_InvalidTest : PySem.W.subIn K (.ref NotAWord.C) (.ref InvalidTest.C) = some false
  ap_NotAWord_InvalidSources : PySem.W.subIn K (.ref NotAWord.C) (.ref InvalidSources.C) = some false
  ap_NotAWord_RuleExists : PySem.W.subIn K (.ref NotAWord.C) (.ref RuleExists.C) = some false
  ap_InvalidTest_UnknownState : PySem.W.subIn K (.ref InvalidTest.C) (.ref UnknownState.C) = some false
  ap_InvalidTest_NotAVerdict : PySem.W.subIn K (.ref InvalidTest.C) (.ref NotAVerdict.C) = some false
  ap_InvalidTest_LimitExceeded : PySem.W.subIn K (.ref InvalidTest.C) (.ref LimitExceeded.C) = some false
  ap_InvalidTest_NotAWord : PySem.W.subIn K (.ref InvalidTest.C) (.ref NotAWord.C) = some false
  ap_InvalidTest_InvalidSources : PySem.W.subIn K (.ref InvalidTest.C) (.ref InvalidSources.C) = some false
  ap_InvalidTest_RuleExists : PySem.W.subIn K (.ref InvalidTest.C) (.ref RuleExists.C) = some false
  ap_InvalidSources_UnknownState : PySem.W.subIn K (.ref InvalidSources.C) (.ref UnknownState.C) = some false
  ap_InvalidSources_NotAVerdict : PySem.W.subIn K (.ref InvalidSources.C) (.ref NotAVerdict.C) = some false
  ap_InvalidSources_LimitExceeded : PySem.W.subIn K (.ref InvalidSources.C) (.ref LimitExceeded.C) = some false
  ap_InvalidSources_NotAWord : PySem.W.subIn K (.ref InvalidSources.C) (.ref NotAWord.C) = some false
  ap_InvalidSources_InvalidTest : PySem.W.subIn K (.ref InvalidSources.C) (.ref InvalidTest.C) = some false
  ap_InvalidSources_RuleExists : PySem.W.subIn K (.ref InvalidSources.C) (.ref RuleExists.C) = some false
  ap_RuleExists_UnknownState : PySem.W.subIn K (.ref RuleExists.C) (.ref UnknownState.C) = some false
  ap_RuleExists_NotAVerdict : PySem.W.subIn K (.ref RuleExists.C) (.ref NotAVerdict.C) = some false
  ap_RuleExists_LimitExceeded : PySem.W.subIn K (.ref RuleExists.C) (.ref LimitExceeded.C) = some false
  ap_RuleExists_NotAWord : PySem.W.subIn K (.ref RuleExists.C) (.ref NotAWord.C) = some false
  ap_RuleExists_InvalidTest : PySem.W.subIn K (.ref RuleExists.C) (.ref InvalidTest.C) = some false
  ap_RuleExists_InvalidSources : PySem.W.subIn K (.ref RuleExists.C) (.ref InvalidSources.C) = some false
  ck_MOST_WORDS : Tok
  g_MOST_WORDS : mg "MOST_WORDS" = some (.int 3 ck_MOST_WORDS)
  ck_MOST_STATES : Tok
  g_MOST_STATES : mg "MOST_STATES" = some (.int 6 ck_MOST_STATES)
  ck_MOST_HELD : Tok
  g_MOST_HELD : mg "MOST_HELD" = some (.int 3 ck_MOST_HELD)
  ck_MOST_VERDICT : Tok
  g_MOST_VERDICT : mg "MOST_VERDICT" = some (.int 3 ck_MOST_VERDICT)
  ck_NEW : Tok
  g_NEW : mg "NEW" = some (.str "new" ck_NEW)
  ck_VALUE : Tok
  g_VALUE : mg "VALUE" = some (.str "value" ck_VALUE)
  pr : Params
  aDIGITS : Addr
  g_DIGITS : mg "DIGITS" = some (.ref aDIGITS)
  dg_DIGITS : ∀ w : World, pr = w.params → DigD K w aDIGITS (litF lit_DIGITS)
  aFIRST_LINES : Addr
  g_FIRST_LINES : mg "FIRST_LINES" = some (.ref aFIRST_LINES)
  dg_FIRST_LINES : ∀ w : World, pr = w.params → DigD K w aFIRST_LINES (litF lit_FIRST_LINES)
  m_list : mg "list" = none
  m_len : mg "len" = none
  m_range : mg "range" = none
  m_tuple : mg "tuple" = none
  m_isinstance : mg "isinstance" = none
  m_bool : mg "bool" = none
  m_int : mg "int" = none
  m_sorted : mg "sorted" = none
  m_set : mg "set" = none
  m_str : mg "str" = none
  m_zip : mg "zip" = none
  m_enumerate : mg "enumerate" = none
  m_dict : mg "dict" = none
/-! ### the pen: cells of the script, drawn one by one -/
def cutAll (ns : List Int) (h : ns.length ≤ 63) : cutV (ns.map V.int) none (some 63) = ns.map V.int := by
  unfold cutV
  rw [show HT.sIx (ns.map V.int).length 0 none = 0 from HT.sIx_none _ _, show HT.sIx (ns.map V.int).length (ns.map V.int).length (some 63) = min 63 (ns.map V.int).length from HT.sIx_nat _ _ 63]
  rw [List.drop_zero, Nat.sub_zero, List.length_map, Nat.min_eq_right h]
  exact List.take_of_length_le (by rw [List.length_map]; exact Nat.le_refl _)
/-- but at p, what was tracked is as it was -/
def Keep (p : Addr) (H H' : Hp) : Prop := ∀ b o, H b = some o → b ≠ p → H' b = some o
theorem Keep.refl {p : Addr} {H : Hp} : Keep p H H := fun _ _ h _ => h
theorem Keep.trans {p : Addr} {H H1 H2 : Hp} (a : Keep p H H1) (b : Keep p H1 H2) : Keep p H H2 := fun c o h n => b c o (a c o h n) n
theorem Keep.new {p q : Addr} {H : Hp} {o : HO} (h : H q = none) : Keep p H (upd H q o) := fun b u e _ => by rw [upd_ne (ne_of_none e h)]; exact e
theorem Keep.at {p : Addr} {H H1 : Hp} {o : HO} (a : Keep p H H1) : Keep p H (upd H1 p o) := fun b u e n => by rw [upd_ne n]; exact a b u e n
theorem Keep.same {p : Addr} {H H1 : Hp} (h : Same H H1) : Keep p H H1 := fun b o e _ => h b o e
/-- the pen stands at p, its cells at c -/
def PenIs (H : Hp) (p c : Addr) (ns : List Int) (at_ st : Int) : Prop := H p = some (.lst [.ref c, .int at_, .int st]) ∧ H c = some (.lst (ns.map V.int))
def Pen (H : Hp) (p c : Addr) : Prop := ∃ ns at_ st, PenIs H p c ns at_ st ∧ 0 ≤ at_ ∧ 0 ≤ st ∧ ns.length ≤ 63
theorem PenIs.ne {H : Hp} {p c : Addr} {ns : List Int} {a z : Int} (h : PenIs H p c ns a z) : p ≠ c := by
  refine ne_of h.1 h.2 ?_
  intro e
  cases ns with
  | nil => cases e
  | cons x r => cases e
theorem Pen.ne {H : Hp} {p c : Addr} (h : Pen H p c) : p ≠ c := by
  obtain ⟨_, _, _, h, _⟩ := h
  exact h.ne
theorem Pen.mono {H H' : Hp} {p c : Addr} (h : Pen H p c) (e : Same H H') : Pen H' p c := by
  obtain ⟨ns, a, z, h, r⟩ := h
  exact ⟨ns, a, z, ⟨e _ _ h.1, e _ _ h.2⟩, r⟩
theorem Pen.free {H : Hp} {p c q : Addr} (h : Pen H p c) (e : H q = none) : p ≠ q ∧ c ≠ q := by
  obtain ⟨ns, a, z, h, r⟩ := h
  exact ⟨ne_of_none h.1 e, ne_of_none h.2 e⟩
theorem Pen.tups {H H' : Hp} {p c : Addr} (h : Pen H p c) (k : Keep p H H') : Tups H H' := fun a xs e => by
  obtain ⟨ns, x, z, ⟨h1, _⟩, _⟩ := h
  exact k a _ e (ne_of e h1 (fun z => by cases z))
theorem Pen.at {H : Hp} {p c : Addr} (h : Pen H p c) : ∃ l, H p = some (.lst l) := by
  obtain ⟨ns, x, z, ⟨h1, _⟩, _⟩ := h
  exact ⟨_, h1⟩
theorem Pen.put {H : Hp} {p c a : Addr} {o : HO} (h : Pen H p c) (n1 : a ≠ p) (n2 : a ≠ c) : Pen (upd H a o) p c := by
  obtain ⟨ns, x, z, ⟨h1, h2⟩, r⟩ := h
  exact ⟨ns, x, z, ⟨by rw [upd_ne n1.symm]; exact h1, by rw [upd_ne n2.symm]; exact h2⟩, r⟩
def sp_law_pen (K : PySem.W.Frag) : Sp := fun vs H Q _ => ∃ (a : Addr) (ns : List Int), vs = [.ref a] ∧ SqL K H a (ns.map V.int) ∧ ns.length ≤ 63 ∧
  ∀ p c H', Same H H' → H p = none → H c = none → Pen H' p c → Q (.ref p) H'
def sp_law_fresh : Sp := fun vs H Q _ => ∃ (p c : Addr) (ns : List Int) (a z : Int), vs = [.ref p] ∧ PenIs H p c ns a z ∧ 0 ≤ a ∧ ns.length ≤ 63 ∧
  ∀ r H', 0 ≤ r → Keep p H H' → PenIs H' p c ns (a + 1) z → Q (.int r) H'
def sp_law_draw : Sp := fun vs H Q _ => ∃ (p c : Addr) (many : Int), vs = [.ref p, .int many] ∧ Pen H p c ∧ 0 < many ∧ many < 2 ^ 100 ∧
  ∀ d H', 0 ≤ d → d < many → Keep p H H' → Pen H' p c → Q (.int d) H'
section
variable {P : Program} {w : World} {K : PySem.W.Frag} {mg : Str → Option Value} {base : Heap}
abbrev N_law_pen : List Str := ["script"]
theorem sc_law_pen : FnScope N_law_pen ["script"] (defScope s_law_pen) := ⟨rfl, rfl, rfl, by decide +kernel, rfl, by decide +kernel, by decide +kernel⟩
theorem ok_law_pen {f : Addr} {fd : FuncData} {k : Nat} (F : Fun K "_law_pen" "_law_pen" s_law_pen f fd) (m_list : mg "list" = none) : FnG P w K mg base CX0 (k + 1) f fd ["script"] (sp_law_pen K) := by
  refine okG F sc_law_pen (fun vs H Q E h => ?_) (fun cdv A outer s H vs Q E gd hr h => ?_)
  · obtain ⟨a, ns, rfl, _⟩ := h
    rfl
  · obtain ⟨a, ns, rfl, hS, hl, q⟩ := h
    refine ⟨_,
      (pss_one (ps_ret (pe_lst (pa_cons (pe_callTy call_list_of (by rfl) m_list (by decide +kernel) (pa_cons (pe_slice sl_list (pv 0) po_none (po_some pe_int)) pa_nil)) (pa_cons pe_int (pa_cons pe_int pa_nil))))))
       , ?_⟩
    refine ⟨.ref a, rfl, 63, rfl, a, ns.map V.int, rfl, hS, fun b nb => ?_⟩
    rw [cutAll ns hl]
    refine ⟨b, ns.map V.int, rfl, .inl (.inl (.inl upd_same)), fun c nc => ?_⟩
    refine ⟨(by show 3 ≤ sizeLine; decide), fun p np => ?_⟩
    have s1 : Same H (upd H b (.lst (ns.map V.int))) := fun x o e => by walk_at "hp"
    have nc0 : H c = none := s1.free nc
    have s2 : Same H (upd (upd H b (.lst (ns.map V.int))) c (.lst (ns.map V.int))) := fun x o e => (by walk_at "hp")
    have np0 : H p = none := s2.free np
    have npc : c ≠ p := ne_of_none upd_same np
    refine q p c _ (fun x o e => ?_) np0 nc0 ⟨ns, 0, 0, ⟨upd_same, ?_⟩, by decide, by decide, hl⟩
    · have := s2 x o e
      walk_at "hp"
    · walk_at "hp"
abbrev N_law_fresh : List Str := ["pen", "at", "cell", "p", "state", "found", "turn"]
theorem sc_law_fresh : FnScope N_law_fresh ["pen"] (defScope s_law_fresh) := ⟨rfl, rfl, rfl, by decide +kernel, rfl, by decide +kernel, by decide +kernel⟩
theorem ok_law_fresh {f : Addr} {fd : FuncData} {k : Nat} (F : Fun K "_law_fresh" "_law_fresh" s_law_fresh f fd) (m_len : mg "len" = none) (m_range : mg "range" = none) : FnG P w K mg base CX0 (k + 1) f fd ["pen"] sp_law_fresh := by
  refine okG F sc_law_fresh (fun vs H Q E h => ?_) (fun cdv A outer s H vs Q E gd hr h => ?_)
  · obtain ⟨p, c, ns, a, z, rfl, _⟩ := h
    rfl
  · obtain ⟨p, c, ns, a, z, rfl, hP, ha, hl, q⟩ := h
    obtain ⟨hp, hc⟩ := id hP
    have npc := hP.ne
    refine ⟨_,
      (pss_cons (ps_set (i := 1) sc_law_fresh.nd rfl (.inl rfl) (pe_ix ix_list (pv 0) pe_int (fun _ _ => rfl))) -- at = pen[1]
      (pss_cons (ps_asg (pe_op op_add (pv 1) pe_int) (pg_sub (pv 0) pe_int set_list)) -- pen[1] = at + 1
      (pss_cons (ps_set (i := 2) sc_law_fresh.nd rfl (.inl rfl) pe_int) -- cell = 0
      (C8.pss_cut (ps_if (pt_cmpR (op_neD hr.units) (pe_ix ix_list (pv 0) pe_int (fun _ _ => rfl)) (pe_lst pa_nil) (nomark _)) 
        (pss_one (ps_set (i := 2) sc_law_fresh.nd rfl (.inl rfl) (pe_ix ix_list (pe_ix ix_list (pv 0) pe_int (fun _ _ => rfl)) (pe_op op_mod (pv 1) (pe_callB call_len_seq (by rfl) m_len PySem.boot_len (pa_cons (pe_ix ix_list (pv 0) pe_int (fun _ _ => rfl)) pa_nil))) (fun _ _ => rfl)))) -- cell = pen[0][at % len(pen[0])]
         pss_nil) -- if pen[0] != []:
      (C8.pss_cut (ps_if (PW.pt (pw_and (pt_cmpR op_lt (pv 1) (pe_callB call_len_seq (by rfl) m_len PySem.boot_len (pa_cons (pe_ix ix_list (pv 0) pe_int (fun _ _ => rfl)) pa_nil)) (nomark _)) (pw_and1 (pt_cmpR op_ge (pv 2) (pe_op op_pow pe_int pe_int) (nomark _))))) 
        (pss_one (ps_ret (pe_op op_sub (pv 2) (pe_op op_pow pe_int pe_int)))) -- return cell - 10 ** 18
         pss_nil) -- if at < len(pen[0]) and cell >= 10 ** 18:
      (pss_cons (ps_set (i := 3) sc_law_fresh.nd rfl (.inl rfl) pe_int) -- p = 2305843009213693951
      (pss_cons (ps_set (i := 4) sc_law_fresh.nd rfl (.inl rfl) (pe_op op_mod (pe_op op_add (pe_op op_add (pe_op op_mul (pv 2) pe_int) (pe_op op_mul pe_int (pv 1))) pe_int) (pv 3))) -- state = (cell * 48271 + 40692 * at + 31) % p
      (pss_cons (ps_set (i := 5) sc_law_fresh.nd rfl (.inl rfl) (pv 4)) -- found = state
      (pss_cons (ps_for PassesOwn.never rfl (pi_range1 rfl m_range (pa_cons pe_int pa_nil)) (pg_name (i := 6) sc_law_fresh.nd rfl (.inl rfl)) 
        (pss_cons (ps_set (i := 4) sc_law_fresh.nd rfl (.inl rfl) (pe_op op_mod (pe_op op_add (pe_op op_add (pe_op op_mul (pv 4) (pv 4)) (pe_op op_mul (pe_op op_mul pe_int (pe_op op_add (pv 6) pe_int)) (pe_op op_add (pv 1) pe_int))) (pv 2)) (pv 3))) -- state = (state * state + 69621 * (turn + 1) * (at + 1) + cell) % p
        (pss_one (ps_set (i := 5) sc_law_fresh.nd rfl (.inl rfl) (pe_op op_add (pe_op op_mul (pv 5) (pv 3)) (pv 4)))) -- found = found * p + state
        )) -- for turn in range(6):
      (pss_one (ps_ret (pv 5))) -- return found
      ))))))))) , ?_⟩
    -- at = pen[1]; pen[1] = at + 1; cell = 0
    refine ⟨.ref p, rfl, p, _, 1, .int a, rfl, rfl, .inl (.inl hp), rfl, ?_⟩
    refine ⟨.int a, rfl, a, 1, rfl, rfl, .ref p, rfl, p, _, 1, 1, rfl, rfl, hp, rfl, ?_⟩
    generalize hH1 : upd H p (.lst ([V.ref c, V.int a, V.int z].set 1 (V.int (a + 1)))) = H1
    have hp1 : H1 p = some (.lst [.ref c, .int (a + 1), .int z]) := by rw [← hH1]; exact upd_same
    have hc1 : H1 c = some (.lst (ns.map V.int)) := by rw [← hH1, upd_ne npc.symm]; exact hc
    have kp1 : Keep p H H1 := by rw [← hH1]; exact Keep.refl.at
    clear hH1
    -- if pen[0] != []: cell = ..
    refine ⟨fun σ H' => ∃ cell : Int, σ = [some (.ref p), some (.int a), some (.int cell), none, none, none, none] ∧ Keep p H H' ∧ H' p = some (.lst [.ref c, .int (a + 1), .int z]) ∧ H' c = some (.lst (ns.map V.int)), ?_, ?_⟩
    · refine ⟨.ref p, rfl, p, _, 0, .ref c, rfl, rfl, .inl (.inl hp1), rfl, by show 0 ≤ sizeLine; decide, fun e ne => ?_⟩
      have hc2 : (upd H1 e (.lst [])) c = some (.lst (ns.map V.int)) := by walk_at "hp"
      have hp2 : (upd H1 e (.lst [])) p = some (.lst [.ref c, .int (a + 1), .int z]) := by walk_at "hp"
      have kp2 : Keep p H (upd H1 e (.lst [])) := kp1.trans (Keep.new ne)
      have he2 : (upd H1 e (.lst [])) e = some (.lst []) := upd_same
      generalize upd H1 e (.lst []) = H2 at hc2 hp2 kp2 he2 ⊢
      refine ⟨.list (ns.map PyData.int), .list [], .lst (.inl (.inl hc2)) (dp_ints _ _ ns), .lst (.inl (.inl he2)) .nil, shaped_ints ns, rfl, _, rfl, ite2 (fun hb => ?_) (fun hb => ?_)⟩
      · have hn : 0 < ns.length := by
          cases ns with
          | nil => cases hb
          | cons x r => exact Nat.succ_pos _
        obtain ⟨j, hj, ej⟩ : ∃ j : Nat, j < ns.length ∧ a % (ns.length : Int) = j := by
          refine ⟨(a % (ns.length : Int)).toNat, ?_, ?_⟩
          · have := Int.emod_lt_of_pos a (show (0 : Int) < ns.length by omega)
            have := Int.emod_nonneg a (show (ns.length : Int) ≠ 0 by omega)
            omega
          · have := Int.emod_nonneg a (show (ns.length : Int) ≠ 0 by omega)
            omega
        refine ⟨.ref p, rfl, p, _, 0, .ref c, rfl, rfl, .inl (.inl hp2), rfl, .int a, rfl, .ref p, rfl, p, _, 0, .ref c, rfl, rfl, .inl (.inl hp2), rfl, c, _, rfl, .inl (.inl (.inl hc2)), a, _, rfl, rfl, (by rw [List.length_map]; show (0 : Int) < ns.length; omega), c, _, _, .int ns[j], rfl, rfl, .inl (.inl hc2), ?_, ?_⟩
        · rw [List.length_map, ej]
          exact atI_nat (by rw [List.getElem?_map, List.getElem?_eq_getElem hj]; rfl)
        · exact ⟨ns[j], rfl, kp2, hp2, hc2⟩
      · exact ⟨0, rfl, kp2, hp2, hc2⟩
    · rintro σ H2 ⟨cell, rfl, kp2, hp2, hc2⟩
      have done : ∀ r : Int, 0 ≤ r → Q (.int r) H2 := fun r h0 => q r H2 h0 kp2 ⟨hp2, hc2⟩
      -- if at < len(pen[0]) and cell >= 10 ** 18: return cell - 10 ** 18
      refine ⟨fun σ H' => σ = [some (.ref p), some (.int a), some (.int cell), none, none, none, none] ∧ H' = H2, ?_, ?_⟩
      · refine ⟨.int a, rfl, .ref p, rfl, p, _, 0, .ref c, rfl, rfl, .inl (.inl hp2), rfl, c, _, rfl, .inl (.inl (.inl hc2)), a, _, rfl, rfl, _, rfl, ite2 (fun h1 => ?_) (fun h1 => ?_)⟩
        · refine ⟨.int cell, rfl, 10, 18, rfl, rfl, ⟨by decide, by decide, by decide⟩, cell, _, rfl, rfl, _, rfl, ite2 (fun h2 => ?_) (fun h2 => ?_)⟩
          · refine ⟨.int cell, rfl, 10, 18, rfl, rfl, ⟨by decide, by decide, by decide⟩, cell, _, rfl, rfl, done _ ?_⟩
            have := of_decide_eq_true h2
            omega
          · exact ⟨rfl, rfl⟩
        · exact ⟨rfl, rfl⟩
      · rintro σ H3 ⟨rfl, rfl⟩
        -- p = ..; state = (cell * 48271 + 40692 * at + 31) % p; found = state
        refine ⟨.int cell, rfl, cell, 48271, rfl, rfl, .inr ⟨by decide, by decide⟩, .int a, rfl, 40692, a, rfl, rfl, .inl ⟨by decide, by decide⟩, _, _, rfl, rfl, _, _, rfl, rfl, .int 2305843009213693951, rfl, _, _, rfl, rfl, (by show (0 : Int) < 2305843009213693951; decide), ?_⟩
        dsimp only
        generalize hst : (cell * 48271 + 40692 * a + 31) % 2305843009213693951 = st
        have h0 : 0 ≤ st := by rw [← hst]; exact Int.emod_nonneg _ (by decide)
        have h1 : st < 2305843009213693951 := by rw [← hst]; exact Int.emod_lt_of_pos _ (by decide)
        clear hst
        refine ⟨.int st, rfl, 6, rfl, by decide, by decide, ?_⟩
        refine for_range (n := 6) (fun _ σ H' => ∃ st fd tn, σ = [some (.ref p), some (.int a), some (.int cell), some (.int 2305843009213693951), some (.int st), some (.int fd), tn] ∧ H' = H3 ∧ 0 ≤ st ∧ st < 2305843009213693951 ∧ 0 ≤ fd) ?_ ?_ ?_
        · exact ⟨st, st, none, rfl, rfl, h0, h1, h0⟩
        · rintro i σ H4 hi ⟨st, fd, tn, rfl, rfl, h0, h1, h2⟩
          have hi' : (i : Int) < 6 := by omega
          refine ⟨.int st, rfl, .int st, rfl, st, st, rfl, rfl, .inl ⟨by omega, by omega⟩, .int (0 + (i : Int)), rfl, 0 + (i : Int), 1, rfl, rfl, 69621, _, rfl, rfl, .inl ⟨by decide, by decide⟩, .int a, rfl, a, 1, rfl, rfl, 69621 * (0 + (i : Int) + 1), a + 1, rfl, rfl, .inl ⟨by omega, by omega⟩, _, _, rfl, rfl, .int cell, rfl, _, _, rfl, rfl, .int 2305843009213693951, rfl, _, _, rfl, rfl, (by show (0 : Int) < 2305843009213693951; decide), ?_⟩
          dsimp only
          generalize hst : (st * st + 69621 * (0 + (i : Int) + 1) * (a + 1) + cell) % 2305843009213693951 = st'
          have h0' : 0 ≤ st' := by rw [← hst]; exact Int.emod_nonneg _ (by decide)
          have h1' : st' < 2305843009213693951 := by rw [← hst]; exact Int.emod_lt_of_pos _ (by decide)
          refine ⟨.int fd, rfl, .int 2305843009213693951, rfl, fd, 2305843009213693951, rfl, rfl, .inr ⟨by decide, by decide⟩, .int st', rfl, _, _, rfl, rfl, ?_⟩
          exact ⟨st', fd * 2305843009213693951 + st', _, rfl, rfl, h0', h1', by omega⟩
        · rintro σ H4 ⟨st, fd, tn, rfl, rfl, h0, h1, h2⟩
          exact ⟨.int fd, rfl, done fd h2⟩
abbrev N_law_draw : List Str := ["pen", "many", "digit"]
theorem sc_law_draw : FnScope N_law_draw ["pen", "many"] (defScope s_law_draw) := ⟨rfl, rfl, rfl, by decide +kernel, rfl, by decide +kernel, by decide +kernel⟩
theorem ok_law_draw {f f_law_fresh : Addr} {fd fd_law_fresh : FuncData} (F : Fun K "_law_draw" "_law_draw" s_law_draw f fd) (F_law_fresh : Fun K "_law_fresh" "_law_fresh" s_law_fresh f_law_fresh fd_law_fresh) (b_law_fresh : Binds K fd_law_fresh ["pen"] []) (g_law_fresh : mg "_law_fresh" = some (.ref f_law_fresh))
    (m_len : mg "len" = none) (m_range : mg "range" = none) : FnG P w K mg base CX0 2 f fd ["pen", "many"] sp_law_draw := by
  have G_law_fresh : FnG P w K mg base CX0 1 f_law_fresh fd_law_fresh ["pen"] sp_law_fresh := ok_law_fresh F_law_fresh m_len m_range
  refine okG F sc_law_draw (fun vs H Q E h => ?_) (fun cdv A outer s H vs Q E gd hr h => ?_)
  · obtain ⟨p, c, m, rfl, _⟩ := h
    rfl
  · obtain ⟨p, c, m, rfl, hP, m0, m1, q⟩ := h
    obtain ⟨ns, a, z, hI, ha, hz, hl⟩ := id hP
    refine ⟨_,
      (C8.pss_cut (ps_if (pt_cmpR op_lt (pe_ix ix_list (pv 0) pe_int (fun _ _ => rfl)) (pv 1) (nomark _)) 
        (pss_one (ps_asg (pe_callG G_law_fresh gd (hr.mono (by decide)) rfl g_law_fresh F_law_fresh.kp b_law_fresh .nil pass0 (pa_cons (pv 0) pa_nil)) (pg_sub (pv 0) pe_int set_list))) -- pen[2] = _law_fresh(pen)
         pss_nil) -- if pen[2] < many:
      (pss_cons (ps_set (i := 2) sc_law_draw.nd rfl (.inl rfl) (pe_op op_mod (pe_ix ix_list (pv 0) pe_int (fun _ _ => rfl)) (pv 1))) -- digit = pen[2] % many
      (pss_cons (ps_asg (pe_op op_fdivW (pe_ix ix_list (pv 0) pe_int (fun _ _ => rfl)) (pv 1)) (pg_sub (pv 0) pe_int set_list)) -- pen[2] = pen[2] // many
      (pss_one (ps_ret (pv 2))) -- return digit
      ))) , ?_⟩
    refine ⟨fun σ H' => σ = [some (.ref p), some (.int m), none] ∧ Keep p H H' ∧ ∃ a z : Int, PenIs H' p c ns a z ∧ 0 ≤ a ∧ 0 ≤ z, ?_, ?_⟩
    · refine ⟨.ref p, rfl, p, _, 2, .int z, rfl, rfl, .inl (.inl hI.1), rfl, .int m, rfl, z, m, rfl, rfl, _, rfl, ite2 (fun h1 => ?_) (fun h1 => ?_)⟩
      · refine ⟨.ref p, rfl, p, c, ns, a, z, rfl, hI, ha, hl, fun r H1 hr0 kp hI1 => ?_⟩
        have ne := hI1.ne
        refine ⟨.ref p, rfl, p, _, 2, 2, rfl, rfl, hI1.1, rfl, rfl, kp.at, a + 1, r, ⟨upd_same, ?_⟩, by omega, hr0⟩
        rw [upd_ne ne.symm]
        exact hI1.2
      · exact ⟨rfl, Keep.refl, a, z, hI, ha, hz⟩
    · rintro σ H1 ⟨rfl, kp, a, z, hI, ha, hz⟩
      have ne := hI.ne
      refine ⟨.ref p, rfl, p, _, 2, .int z, rfl, rfl, .inl (.inl hI.1), rfl, .int m, rfl, z, m, rfl, rfl, m0, ?_⟩
      refine ⟨.ref p, rfl, p, _, 2, .int z, rfl, rfl, .inl (.inl hI.1), rfl, .int m, rfl, z, m, rfl, rfl, div_wide m0 m1, .ref p, rfl, p, _, 2, 2, rfl, rfl, hI.1, rfl, ?_⟩
      refine ⟨.int (z % m), rfl, q _ _ (Int.emod_nonneg _ (by omega)) (Int.emod_lt_of_pos _ m0) kp.at ⟨ns, a, z / m, ⟨upd_same, ?_⟩, ha, Int.ediv_nonneg hz (by omega), hl⟩⟩
      rw [upd_ne ne.symm]
      exact hI.2
end

/-! ### integers -/
/-- an integer from lo to hi -/
def btw (d : PyData) (lo hi : Int) : Bool := match d with
  | .int n => decide (lo ≤ n) && decide (n ≤ hi)
  | _ => false
def isI (d : PyData) : Bool := isIntD d && !isBoolD d
def sp_is_integer : Sp := fun vs H Q _ => ∃ (p : Addr) (v : V) (d : PyData), vs = [v] ∧ LD p H v d ∧ Q (.bl (isI d)) H
def sp_is_between : Sp := fun vs H Q _ => ∃ (p : Addr) (v : V) (d : PyData) (lo hi : Int), vs = [v, .int lo, .int hi] ∧ LD p H v d ∧ Q (.bl (btw d lo hi)) H
section
variable {P : Program} {w : World} {K : PySem.W.Frag} {mg : Str → Option Value} {base : Heap}
abbrev N_is_integer : List Str := ["value"]
theorem sc_is_integer : FnScope N_is_integer ["value"] (defScope s_is_integer) := ⟨rfl, rfl, rfl, by decide +kernel, rfl, by decide +kernel, by decide +kernel⟩
theorem ok_is_integer {f : Addr} {fd : FuncData} {k : Nat} (F : Fun K "is_integer" "is_integer" s_is_integer f fd) (m_isinstance : mg "isinstance" = none) (m_int : mg "int" = none) (m_bool : mg "bool" = none) : FnG P w K mg base CX0 (k + 1) f fd ["value"] sp_is_integer := by
  refine okG F sc_is_integer (fun vs H Q E h => ?_) (fun cdv A outer s H vs Q E gd hr h => ?_)
  · obtain ⟨p, v, d, rfl, _⟩ := h
    rfl
  · obtain ⟨p, v, d, rfl, hv, q⟩ := h
    refine ⟨_, 
      (pss_one (ps_ret (pe_and (pe_callB (call_isL kit_int) (by rfl) m_isinstance (by decide +kernel) (pa_cons (pv 0) (pa_cons (pe_bltn (v := .ty "int") (by rfl) m_int (by decide +kernel) (show RelV (.ty "int") (.type "int") from rfl)) pa_nil))) (pe_one (pe_not (pe_callB (call_isL kit_bool) (by rfl) m_isinstance (by decide +kernel) (pa_cons (pv 0) (pa_cons (pe_bltn (v := .ty "bool") (by rfl) m_bool (by decide +kernel) (show RelV (.ty "bool") (.type "bool") from rfl)) pa_nil)))))))) -- return isinstance(value, int) and (not isinstance(value, bool))
       , ?_⟩
    refine ⟨v, rfl, p, v, d, rfl, hv, _, rfl, ?_⟩
    unfold isI at q
    cases hi : isIntD d with
    | false =>
      rw [hi] at q
      exact q
    | true =>
      rw [hi] at q
      exact ⟨v, rfl, p, v, d, rfl, hv, _, rfl, q⟩
abbrev N_is_between : List Str := ["value", "low", "high"]
theorem sc_is_between : FnScope N_is_between ["value", "low", "high"] (defScope s_is_between) := ⟨rfl, rfl, rfl, by decide +kernel, rfl, by decide +kernel, by decide +kernel⟩
theorem ok_is_between {f f_is_integer : Addr} {fd fd_is_integer : FuncData} (F : Fun K "is_between" "is_between" s_is_between f fd) (F_is_integer : Fun K "is_integer" "is_integer" s_is_integer f_is_integer fd_is_integer) (b_is_integer : Binds K fd_is_integer ["value"] [])
    (g_is_integer : mg "is_integer" = some (.ref f_is_integer)) (m_isinstance : mg "isinstance" = none) (m_int : mg "int" = none) (m_bool : mg "bool" = none) : FnG P w K mg base CX0 2 f fd ["value", "low", "high"] sp_is_between := by
  have G_is_integer : FnG P w K mg base CX0 1 f_is_integer fd_is_integer ["value"] sp_is_integer := ok_is_integer F_is_integer m_isinstance m_int m_bool
  refine okG F sc_is_between (fun vs H Q E h => ?_) (fun cdv A outer s H vs Q E gd hr h => ?_)
  · obtain ⟨p, v, d, lo, hi, rfl, _⟩ := h
    rfl
  · obtain ⟨p, v, d, lo, hi, rfl, hv, q⟩ := h
    refine ⟨_, 
      (pss_one (ps_ret (pe_and (pe_callG G_is_integer gd (hr.mono (by decide)) rfl g_is_integer F_is_integer.kp b_is_integer .nil pass0 (pa_cons (pv 0) pa_nil)) (pe_one (pe_chain op_le op_le (pv 1) (pv 0) (pv 2)))))) -- return is_integer(value) and low <= value <= high
       , ?_⟩
    refine ⟨v, rfl, p, v, d, rfl, hv, _, rfl, ?_⟩
    cases hv with
    | int n => 
      refine ⟨.int lo, rfl, .int n, rfl, lo, n, rfl, rfl, _, rfl, ite2 (fun h1 => ?_) (fun h1 => ?_)⟩
      · refine ⟨.int hi, rfl, n, hi, rfl, rfl, ?_⟩
        have q' : Q (.bl (decide (lo ≤ n) && decide (n ≤ hi))) H := q
        rw [h1] at q'
        exact q'
      · have q' : Q (.bl (decide (lo ≤ n) && decide (n ≤ hi))) H := q
        rw [Bool.eq_false_iff.mpr h1] at q'
        exact q'
    | _ => exact q
end

/-! ### rule_order: called by sorted, so at the library's level -/
section
open PySem.W PySem.Calls
variable {P : Program} {w : World} {K : PySem.W.Frag} {mg : Str → Option Value} {A : Around} {E : Value → Shared → Prop} {s : Shared}
theorem asg_all {env : Env} {elts : List Expr} {k : Nat} {pos : Pos} {v : Value} {Q : Unit → Shared → Prop} (h : wpAny (model P w) A (assign (.Tuple elts k pos) env v) Q E s) :
    wpAny (model P w) A (assignAll v ((assignEach [.Tuple elts k pos] env).map (·.2))) Q E s := h
theorem spl_cons {env : Env} {e : Expr} {es : List Expr} {pos : Pos} {Q : List Value → Shared → Prop} (hs : starEach (e :: es) env = (false, eval e env) :: starEach es env)
    (h : wpAny (model P w) A (eval e env) (fun v s1 => wpAny (model P w) A (spliced (backTo pos (starEach es env))) (fun vs s2 => Q (v :: vs) s2) E s1) E s) :
    wpAny (model P w) A (spliced (backTo pos (starEach (e :: es) env))) Q E s := by
  rw [hs]
  exact Calls.spliced_cons h
theorem spl_nil {env : Env} {pos : Pos} {Q : List Value → Shared → Prop} (h : Q [] s) : wpAny (model P w) A (spliced (backTo pos (starEach [] env))) Q E s := Calls.spliced_nil h
theorem ldL {q : Str} {sc : Scope} {L f : Addr} {cd : Value} {m : Str → Option Value} {x : Str} {pos : Pos} {v : Value} {Q : Value → Shared → Prop} (hk : sc.kind = .function) (hn : s.heap.Ns L m) (hv : m x = some v) (h : Q v s)
    (hl : (envOfC q sc L f cd).kindOf x = some .local := by rfl) (hd : (x == ("__debug__" : Str)) = false := by decide) :
    wpAny (model P w) A (eval (.Name x pos) (envOfC q sc L f cd)) Q E s := wpAny_Name (wpAny_loadName_local hk hl hn hv h) hd
theorem ldG {q : Str} {sc : Scope} {L f : Addr} {cd : Value} {x : Str} {pos : Pos} {v : Value} {Q : Value → Shared → Prop} (hk : sc.kind = .function) (G : s.heap.Ns mainGlobals mg) (hv : mg x = some v) (h : Q v s)
    (hl : (envOfC q sc L f cd).kindOf x = some .globalImplicit := by rfl) (hd : (x == ("__debug__" : Str)) = false := by decide) :
    wpAny (model P w) A (eval (.Name x pos) (envOfC q sc L f cd)) Q E s :=
  Calls.Name_function_global hk hl (Calls.loadGlobal_global (show s.heap.Ns mainGlobals mg from G) hv h) hd
/-- what a test is sorted by -/
theorem part_key {f : Addr} {fd : FuncData} {tN tV tM : Tok} {u : Value} {r : Int} (F : Fun K "part_order" "part_order" s_part_order f fd) (b : ∀ (s : Shared) (v : Value), BindsTo s fd ⟨[v], []⟩ [("part", v)])
    (gN : mg "NEW" = some (.str "new" tN)) (gV : mg "VALUE" = some (.str "value" tV)) (gM : mg "MOST_HELD" = some (.int 3 tM)) (X : K.In s.heap) (G : s.heap.Ns mainGlobals mg) (hlim : s.heap.NoLimit) (hroom : A.depth < recursionLimit)
    (hu : (∃ t, u = .int r t) ∨ ((∃ t, u = .str "new" t) ∧ r = 3)) :
    wpAny (model P w) A (call (.ref f) [u]) (fun v s' => (∃ t, v = .int r t) ∧ ∃ h tk, s' = { s with heap := h, toks := tk } ∧ ∀ c o, s.heap.get? c = some o → h.get? c = some o) (fun _ _ => False) s := by
  obtain ⟨oc, od, kV, doc, pm, an, cdv, ct, osl, e, lk, hcd⟩ := F.ex
  subst e
  apply wpAny_call
  refine Att.call_fn (binds := [("part", u)]) X hlim lk hcd hroom (b s u) (by rfl) (fun s1 IC => ?_) rfl rfl rfl
  obtain ⟨h1, tk1, rfl⟩ := IC.toInCall.same
  have k1 : ∀ c o, s.heap.get? c = some o → h1.get? c = some o := IC.toInCall.keep
  have n1 := IC.toInCall.ns
  have G1 : h1.Ns mainGlobals mg := G.keeps k1
  have x1 : ∀ c o, s.heap.get? c = some o → (h1.push { cls := .type "tuple", data := .seq [Value.str "new" tN, Value.str "value" tV].toArray }).get? c = some o := fun c o z => Heap.get?_push_of_some _ (k1 c o z)
  have y1 : ∀ c o, h1.get? c = some o → (h1.push { cls := .type "tuple", data := .seq [Value.str "new" tN, Value.str "value" tV].toArray }).get? c = some o := fun c o z => Heap.get?_push_of_some _ z
  have G2 := G1.keeps y1
  have n2 := n1.keeps y1
  have tu : (h1.push { cls := .type "tuple", data := .seq [Value.str "new" tN, Value.str "value" tV].toArray }).IsTuple h1.objs.size [Value.str "new" tN, Value.str "value" tV].toArray := ⟨_, Heap.get?_push_size _ rfl, rfl, _, rfl⟩
  have vs2 : Vals [V.str "new", V.str "value"] [Value.str "new" tN, Value.str "value" tV] := .cons ⟨tN, rfl⟩ (.cons ⟨tV, rfl⟩ .nil)
  have mm : ∀ {x : V} {v : Value} {A : Around} {s : Shared}, RelV x v → flatV x = true → ∀ y, y ∈ [Value.str "new" tN, Value.str "value" tV].toArray → SeqAt.EqAt A s y v (eqU x y) := fun rx fx y hy => mem_eqAt rx fx vs2 rfl y (by simpa using hy)
  show wpAny _ _ (execs (_ :: []) _) _ _ _
  refine wpAny_execs_cons (wpAny_Return_some (wpAny_IfExp (wpAny_isTrue_Compare1 ?_ rfl)))
  refine ldL rfl n1 (v := u) (by rfl) ?_
  refine wpAny_Tuple_spliced ?_
  refine spl_cons (by rfl) (ldG (s := { s with heap := h1, toks := tk1 }) (mg := mg) rfl G1 gN ?_)
  refine spl_cons (by rfl) (ldG (s := { s with heap := h1, toks := tk1 }) (mg := mg) rfl G1 gV ?_)
  refine spl_nil ⟨by show 2 ≤ sizeLine; decide, ?_⟩
  rcases hu with ⟨t, rfl⟩ | ⟨⟨t, rfl⟩, rfl⟩
  · have e0 : ([Value.str "new" tN, Value.str "value" tV].toArray).any (eqU (.int r)) = false := by
      rw [show ([Value.str "new" tN, Value.str "value" tV].toArray).any (eqU (.int r)) = [Value.str "new" tN, Value.str "value" tV].any (eqU (.int r)) by simp, any_eqU vs2 rfl]
      rfl
    refine SeqAt.in_tupleAt (eqU (.int r)) tu (mm (x := .int r) ⟨t, rfl⟩ rfl) ?_
    rw [e0]
    refine wpAny_truthy_bool ?_
    refine ldL (s := { s with heap := _, toks := tk1 }) rfl n2 (v := .int r t) (by rfl) ?_
    exact ⟨⟨_, rfl⟩, _, _, rfl, x1⟩
  · have e0 : ([Value.str "new" tN, Value.str "value" tV].toArray).any (eqU (.str "new")) = true := by
      rw [show ([Value.str "new" tN, Value.str "value" tV].toArray).any (eqU (.str "new")) = [Value.str "new" tN, Value.str "value" tV].any (eqU (.str "new")) by simp, any_eqU vs2 rfl]
      rfl
    refine SeqAt.in_tupleAt (eqU (.str "new")) tu (mm (x := .str "new") ⟨t, rfl⟩ rfl) ?_
    rw [e0]
    refine wpAny_truthy_bool ?_
    refine ldG (s := { s with heap := _, toks := tk1 }) (mg := mg) rfl G2 gM ?_
    exact ⟨⟨_, rfl⟩, _, _, rfl, x1⟩
/-- part_order and what it reads -/
def PartOk (K : PySem.W.Frag) (mg : Str → Option Value) : Prop := ∃ (fp : Addr) (fdp : FuncData) (tN tV tM : Tok), Fun K "part_order" "part_order" s_part_order fp fdp ∧ (∀ (s : Shared) (v : Value), BindsTo s fdp ⟨[v], []⟩ [("part", v)]) ∧
  mg "part_order" = some (.ref fp) ∧ mg "NEW" = some (.str "new" tN) ∧ mg "VALUE" = some (.str "value" tV) ∧ mg "MOST_HELD" = some (.int 3 tM)
theorem order_key {f a : Addr} {fd : FuncData} {t0 t1 : Tok} {i j : Int} {u : Value} {r : Int} (F : Fun K "rule_order" "rule_order" s_rule_order f fd) (b : ∀ (s : Shared) (v : Value), BindsTo s fd ⟨[v], []⟩ [("rule", v)])
    (pk : PartOk K mg) (X : K.In s.heap) (G : s.heap.Ns mainGlobals mg) (hlim : s.heap.NoLimit) (hroom : A.depth + 1 < recursionLimit) (hh : A.handled = none)
    (ht : IsTup s.heap a #[.int i t0, .int j t1, u]) (hu : (∃ t, u = .int r t) ∨ ((∃ t, u = .str "new" t) ∧ r = 3)) :
    wpAny (model P w) A (call (.ref f) [.ref a]) (KeyPure (.tuple [.int i, .int j, .int r]) s) (fun _ _ => False) s := by
  obtain ⟨fp, fdp, tN, tV, tM, Fp, bp, gp, gN, gV, gM⟩ := pk
  obtain ⟨oc, od, kV, doc, pm, an, cdv, ct, osl, e, lk, hcd⟩ := F.ex
  subst e
  apply wpAny_call
  refine Att.call_fn (binds := [("rule", .ref a)]) X hlim lk hcd (by omega) (b s (.ref a)) (by rfl) (fun s1 IC => ?_) rfl rfl rfl
  obtain ⟨h1, tk1, rfl⟩ := IC.toInCall.same
  have k1 : ∀ c o, s.heap.get? c = some o → h1.get? c = some o := IC.toInCall.keep
  have n1 := IC.toInCall.ns
  have L0 : s.heap.get? s.heap.objs.size = none := Heap.get?_none_of_le (Nat.le_refl _)
  have kL : ∀ {h' : Heap} c o, (∀ c o, c ≠ s.heap.objs.size → h1.get? c = some o → h'.get? c = some o) → s.heap.get? c = some o → h'.get? c = some o := fun {h'} c o k z => k c o (fun q => by rw [q, L0] at z; cases z) (k1 c o z)
  have ht1 : IsTup h1 a #[.int i t0, .int j t1, u] := by
    obtain ⟨o, ho, r⟩ := ht
    exact ⟨o, k1 _ _ ho, r⟩
  show wpAny _ _ (execs _ _) _ _ _
  refine wpAny_execs_cons (wpAny_Assign_stores ?_ rfl rfl)
  refine ldL rfl n1 (by rfl) ?_
  refine asg_all ?_
  refine assign_Tuple_tuple hh ht1 (by rfl) (by rfl) fun h2 x2 => ?_
  have e2 : ∀ c o, h1.get? c = some o → h2.get? c = some o := fun c o z => x2 c o (Nat.ne_of_lt (Heap.lt_size z)) z
  have n2 := n1.keeps e2
  show wpAny _ _ (assignInOrder (_ :: _ :: _ :: []) [Value.int i t0, Value.int j t1, u]) _ _ _
  refine assignInOrder_cons (wpAny_assign_Name (wpAny_storeName_local (by rfl) n2 (fun h3 n3 s3 => ?_)))
  refine assignInOrder_cons (wpAny_assign_Name (wpAny_storeName_local (by rfl) n3 (fun h4 n4 s4 => ?_)))
  refine assignInOrder_cons (wpAny_assign_Name (wpAny_storeName_local (by rfl) n4 (fun h5 n5 s5 => ?_)))
  refine assignInOrder_nil ?_
  have k5 : ∀ c o, s.heap.get? c = some o → h5.get? c = some o := fun c o z => by
    have ne : c ≠ s.heap.objs.size := Nat.ne_of_lt (Heap.lt_size z)
    exact (s5.2 c ne).trans ((s4.2 c ne).trans ((s3.2 c ne).trans (e2 c o (k1 c o z))))
  have vu : ∀ h' : Heap, (∀ c o, h5.get? c = some o → h'.get? c = some o) → ∀ (x y z : Value) (tk : Nat), (∃ t, x = .int i t) → (∃ t, y = .int j t) → (∃ t, z = .int r t) → [x, y, z].length ≤ sizeLine ∧
      KeyPure (.tuple [.int i, .int j, .int r]) s (.ref h'.objs.size) { s with heap := h'.push { cls := .type "tuple", data := .seq [x, y, z].toArray }, toks := tk } := by
    rintro h' kp x y z tk ⟨tx, rfl⟩ ⟨ty, rfl⟩ ⟨tz, rfl⟩
    refine ⟨by show 3 ≤ sizeLine; decide, _, tk, rfl, fun c o q => Heap.get?_push_of_some _ (kp c o (k5 c o q)), ?_⟩
    exact Reads.tuple (Heap.get?_push_size _ rfl) rfl rfl (.cons (.int i tx) (.cons (.int j ty) (.cons (.int r tz) .nil)))
  have G5 : h5.Ns mainGlobals mg := G.keeps k5
  show wpAny _ _ (execs (_ :: []) _) _ _ _
  refine wpAny_execs_cons (wpAny_Return_some (wpAny_Tuple_spliced ?_))
  refine spl_cons (by rfl) (ldL rfl n5 (v := .int i t0) (by rfl) ?_)
  refine spl_cons (by rfl) (ldL rfl n5 (v := .int j t1) (by rfl) ?_)
  refine spl_cons (by rfl) ?_
  apply wpAny_Call_Name_kw
  refine ldG (s := { s with heap := h5, toks := _ }) (mg := mg) rfl G5 gp ?_
  refine PySem.W.callWith_K (h₀ := s.heap) X Fp.kp ?_ rfl rfl
  refine spl_cons (by rfl) (ldL rfl n5 (v := u) (by rfl) ?_)
  refine spl_nil ⟨X.keeps k5, ?_⟩
  refine wpAny_mono (part_key (s := { s with heap := h5, toks := _ }) Fp bp gN gV gM (X.keeps k5) G5 (hlim.keeps k5) hroom hu) ?_ (fun _ _ z => z.elim)
  rintro v s6 ⟨⟨t, rfl⟩, h6, tk6, rfl, k6⟩
  refine spl_nil ?_
  exact vu h6 k6 _ _ _ _ ⟨_, rfl⟩ ⟨_, rfl⟩ ⟨_, rfl⟩
end

/-! ### watchers -/
def wf (n : Int) (lv lh d : Addr) : List (Str × V) := [("words", .int n), ("_verdicts", .ref lv), ("_held", .ref lh), ("_rules", .ref d)]
/-- a rule's name: state, word, test -/
def RK (k : List Key) : Prop := ∃ (i j : Int) (t : Key), k = [Sum.inl i, Sum.inl j, t] ∧ ((∃ r, t = Sum.inl r) ∨ t = Sum.inr ("new" : Str))
abbrev Rows := List (List Key × PyData)
abbrev KvD (H : Hp) : List (List Key × V) → Rows → Prop := Paired fun p q => p.1 = q.1 ∧ TD H p.2 q.2
theorem KvD.mono {H H' : Hp} {kvs : List (List Key × V)} {R : Rows} (t : Tups H H') (h : KvD H kvs R) : KvD H' kvs R := Paired.mapP h fun _ _ z => ⟨z.1, TD.mono t _ z.2⟩
theorem KvD.keys {H : Hp} {kvs : List (List Key × V)} {R : Rows} (h : KvD H kvs R) : kvs.map (·.1) = R.map (·.1) := by
  induction h with
  | nil => rfl
  | cons a _ ih => rw [List.map_cons, List.map_cons, a.1, ih]
structure WAt (C : Addr) (H : Hp) (x lv lh d : Addr) (n : Int) (vs hs : List Int) (R : Rows) : Prop where
  ins : ∃ dx, H x = some (.ins C dx (wf n lv lh d))
  ver : H lv = some (.lst (vs.map V.int))
  hel : H lh = some (.lst (hs.map V.int))
  rul : ∃ kvs, H d = some (.dT kvs) ∧ KvD H kvs R
  ne : lv ≠ lh
  rk : ∀ k ∈ R.map (·.1), RK k
  nd : (R.map (·.1)).Nodup
  len : vs.length = hs.length ∧ vs.length ≤ 6 ∧ R.length ≤ 1000
theorem WAt.mono {C : Addr} {H H' : Hp} {x lv lh d : Addr} {n : Int} {vs hs : List Int} {R : Rows} (h : WAt C H x lv lh d n vs hs R) (s : Same H H') : WAt C H' x lv lh d n vs hs R := by
  obtain ⟨⟨dx, a⟩, b, c, ⟨kvs, e, f⟩, g, i, j, l⟩ := h
  exact ⟨⟨dx, s _ _ a⟩, s _ _ b, s _ _ c, ⟨kvs, s _ _ e, f.mono (Tups.same s)⟩, g, i, j, l⟩
theorem btw_int {d : PyData} {lo hi : Int} (h : btw d lo hi = true) : ∃ n, d = .int n ∧ lo ≤ n ∧ n ≤ hi := by
  cases d with
  | int n =>
    have h' : (decide (lo ≤ n) && decide (n ≤ hi)) = true := h
    simp only [Bool.and_eq_true, decide_eq_true_eq] at h'
    exact ⟨n, rfl, h'.1, h'.2⟩
  | _ => cases h
abbrev w1 (n : Int) : List (Str × V) := [("words", .int n)]
abbrev w2 (n : Int) (lv : Addr) : List (Str × V) := [("words", .int n), ("_verdicts", .ref lv)]
abbrev w3 (n : Int) (lv lh : Addr) : List (Str × V) := [("words", .int n), ("_verdicts", .ref lv), ("_held", .ref lh)]
theorem wf2 (n : Int) (lv : Addr) : putF "_verdicts" (.ref lv) (w1 n) = (w2 n lv) := by
  unfold putF
  rw [if_neg (by decide)]
  rfl
theorem wf3 (n : Int) (lv lh : Addr) : putF "_held" (.ref lh) (w2 n lv) = (w3 n lv lh) := by
  unfold putF
  rw [if_neg (by decide)]
  unfold putF
  rw [if_neg (by decide)]
  rfl
theorem wf4 (n : Int) (lv lh d : Addr) : putF "_rules" (.ref d) (w3 n lv lh) = wf n lv lh d := by
  unfold putF
  rw [if_neg (by decide)]
  unfold putF
  rw [if_neg (by decide)]
  unfold putF
  rw [if_neg (by decide)]
  rfl
def sp_W_init (C CL : Addr) : Sp := fun vs H Q E => ∃ (p x dx : Addr) (v : V) (d : PyData), vs = [.ref x, v] ∧ H x = some (.ins C dx []) ∧ LD p H v d ∧
  (∀ n, d = .int n → 1 ≤ n → n ≤ 3 → ∀ H' lv lh dd, But x H H' → H lv = none → H lh = none → H dd = none → WAt C H' x lv lh dd n [0] [0] [] → Q .non H') ∧
  (btw d 1 3 = false → ∀ e, H e = none → E (.ref CL) (some e) (upd H e (.xd [(("limit" : Str), .int 3)])))
/-- the fields' names are no names of the class -/
structure WCls (K : PySem.W.Frag) (C : Addr) : Prop where
  cl : Cls K C
  n1 : NoAttr K C "words"
  n2 : NoAttr K C "_verdicts"
  n3 : NoAttr K C "_held"
  n4 : NoAttr K C "_rules"
section
variable {P : Program} {w : World} {K : PySem.W.Frag} {mg : Str → Option Value} {base : Heap}
abbrev N_Watcher_init : List Str := ["self", "words"]
theorem sc_Watcher_init : FnScope N_Watcher_init ["self", "words"] (defScope s_Watcher_init) := ⟨rfl, rfl, rfl, by decide +kernel, rfl, by decide +kernel, by decide +kernel⟩
theorem ok_Watcher_init {f f_is_between C CL iL : Addr} {fd fd_is_between : FuncData} {t3 : Tok} (F : Fun K "__init__" "Watcher.__init__" s_Watcher_init f fd) (F_is_between : Fun K "is_between" "is_between" s_is_between f_is_between fd_is_between) (b_is_between : Binds K fd_is_between ["value", "low", "high"] [])
    (g_is_between : mg "is_between" = some (.ref f_is_between)) (G_is_between : FnG P w K mg base CX0 2 f_is_between fd_is_between ["value", "low", "high"] sp_is_between) (T_LimitExceeded : L2.ErrOk OwnE.bOE "LimitExceeded" "limit" "LimitExceeded.__init__" K mg CL iL) (g_MOST_WORDS : mg "MOST_WORDS" = some (.int 3 t3)) (W : WCls K C) :
    FnG P w K mg base (L2.CX P w) 3 f fd ["self", "words"] (sp_W_init C CL) := by
  refine okGX F sc_Watcher_init (fun vs H Q E h => ?_) (fun cdv A outer s H vs Q E gd hr h => ?_)
  · obtain ⟨p, x, dx, v, d, rfl, _⟩ := h
    rfl
  · obtain ⟨p, x, dx, v, d, rfl, hx, hv, q1, q2⟩ := h
    have hr1 : Room 1 _ := hr.mono (by decide)
    refine ⟨_, 
      (pss_cons (ps_if (pt_not (pt_val (pe_callG G_is_between gd (hr.mono (by decide)) rfl g_is_between F_is_between.kp b_is_between .nil pass0 (pa_cons (pv 1) (pa_cons pe_int (pa_cons (pe_glob (v := .int 3) rfl g_MOST_WORDS ⟨_, rfl⟩) pa_nil)))))) 
        (pss_one (L2.ps_raiseE (W := fun cls d _ H => E cls d H) rfl T_LimitExceeded hr1 (takes_of rfl rfl rfl rfl) (by exact (pa_cons (pe_glob (v := .int 3) rfl g_MOST_WORDS ⟨_, rfl⟩) pa_nil)))) -- raise LimitExceeded(MOST_WORDS)
         pss_nil) -- if not is_between(words, 1, MOST_WORDS):
      (pss_cons (ps_fld (pv 0) (pv 1) rfl) -- self.words = words
      (pss_cons (ps_fld (pv 0) (pe_lst (pa_cons pe_int pa_nil)) rfl) -- self._verdicts = [0]
      (pss_cons (ps_fld (pv 0) (pe_lst (pa_cons pe_int pa_nil)) rfl) -- self._held = [0]
      (pss_one (ps_fld (pv 0) pe_dnewT rfl)) -- self._rules = {}
      )))) , ?_⟩
    refine ⟨v, rfl, p, v, d, 1, 3, rfl, hv, _, rfl, ?_⟩
    cases hb : btw d 1 3 with
    | false => exact ⟨.int 3, rfl, fun e he => q2 hb e he⟩
    | true =>
      obtain ⟨n, rfl, n0, n1⟩ := btw_int hb
      cases hv
      -- self.words = words
      refine ⟨.int n, rfl, .ref x, rfl, x, C, dx, [], rfl, hx, W.cl, W.n1, (by show 0 < 1000; decide), ?_⟩
      rw [show putF "words" (.int n) [] = (w1 n) from rfl]
      have b1 : But x H (upd H x (.ins C dx (w1 n))) := fun b o e ne => by rw [upd_ne ne]; exact e
      have hx1 : upd H x (.ins C dx (w1 n)) x = some (.ins C dx (w1 n)) := upd_same
      have nn : ∀ a, upd H x (.ins C dx (w1 n)) a = none → H a = none ∧ a ≠ x := fun a e => ⟨(upd_none e).2, (upd_none e).1⟩
      generalize upd H x (.ins C dx (w1 n)) = H1 at b1 hx1 nn
      -- self._verdicts = [0]
      refine ⟨by show 1 ≤ sizeLine; decide, fun lv nv => ?_⟩
      have xv : x ≠ lv := ne_of_none hx1 nv
      have hx2 : upd H1 lv (.lst [.int 0]) x = some (.ins C dx (w1 n)) := by rw [upd_ne xv]; exact hx1
      refine ⟨.ref x, rfl, x, C, dx, _, rfl, hx2, W.cl, W.n2, (by show 1 < 1000; decide), ?_⟩
      rw [wf2]
      have hv3 : upd (upd H1 lv (.lst [.int 0])) x (.ins C dx (w2 n lv)) lv = some (.lst [.int 0]) := by rw [upd_ne xv.symm]; exact upd_same
      have hx3 : upd (upd H1 lv (.lst [.int 0])) x (.ins C dx (w2 n lv)) x = some (.ins C dx (w2 n lv)) := upd_same
      have b3 : But x H (upd (upd H1 lv (.lst [.int 0])) x (.ins C dx (w2 n lv))) := fun b o e ne => by
        rw [upd_ne ne, upd_ne (ne_of_none (b1 b o e ne) nv)]
        exact b1 b o e ne
      have nv0 := (nn lv nv).1
      have nn3 : ∀ a, upd (upd H1 lv (.lst [.int 0])) x (.ins C dx (w2 n lv)) a = none → H a = none := fun a e => (nn a (upd_none (upd_none e).2).2).1
      generalize upd (upd H1 lv (.lst [.int 0])) x (.ins C dx (w2 n lv)) = H3 at hv3 hx3 b3 nn3
      -- self._held = [0]
      refine ⟨by show 1 ≤ sizeLine; decide, fun lh nh => ?_⟩
      have xh : x ≠ lh := ne_of_none hx3 nh
      have vh : lv ≠ lh := ne_of_none hv3 nh
      have hx4 : upd H3 lh (.lst [.int 0]) x = some (.ins C dx (w2 n lv)) := by rw [upd_ne xh]; exact hx3
      refine ⟨.ref x, rfl, x, C, dx, _, rfl, hx4, W.cl, W.n3, (by show 2 < 1000; decide), ?_⟩
      rw [wf3]
      have xv3 : x ≠ lv := ne_of hx3 hv3 (fun z => nomatch z)
      have hv5 : upd (upd H3 lh (.lst [.int 0])) x (.ins C dx (w3 n lv lh)) lv = some (.lst [.int 0]) := by rw [upd_ne xv3.symm, upd_ne vh]; exact hv3
      have hh5 : upd (upd H3 lh (.lst [.int 0])) x (.ins C dx (w3 n lv lh)) lh = some (.lst [.int 0]) := by rw [upd_ne xh.symm]; exact upd_same
      have hx5 : upd (upd H3 lh (.lst [.int 0])) x (.ins C dx (w3 n lv lh)) x = some (.ins C dx (w3 n lv lh)) := upd_same
      have b5 : But x H (upd (upd H3 lh (.lst [.int 0])) x (.ins C dx (w3 n lv lh))) := fun b o e ne => by
        rw [upd_ne ne, upd_ne (ne_of_none (b3 b o e ne) nh)]
        exact b3 b o e ne
      have nh0 := nn3 lh nh
      have nn5 : ∀ a, upd (upd H3 lh (.lst [.int 0])) x (.ins C dx (w3 n lv lh)) a = none → H a = none := fun a e => nn3 a (upd_none (upd_none e).2).2
      generalize upd (upd H3 lh (.lst [.int 0])) x (.ins C dx (w3 n lv lh)) = H5 at hv5 hh5 hx5 b5 nn5
      -- self._rules = {}
      intro dd ndd
      have xd : x ≠ dd := ne_of_none hx5 ndd
      have hx6 : upd H5 dd (.dT []) x = some (.ins C dx (w3 n lv lh)) := by rw [upd_ne xd]; exact hx5
      refine ⟨.ref x, rfl, x, C, dx, _, rfl, hx6, W.cl, W.n4, (by show 3 < 1000; decide), ?_⟩
      rw [wf4]
      have xv5 : x ≠ lv := ne_of hx5 hv5 (fun z => nomatch z)
      have xh5 : x ≠ lh := ne_of hx5 hh5 (fun z => nomatch z)
      refine q1 n rfl n0 n1 _ lv lh dd (fun b o e ne => ?_) nv0 nh0 (nn5 dd ndd) { ins := ⟨dx, upd_same⟩, ver := ?_, hel := ?_, rul := ⟨[], ?_, .nil⟩, ne := vh, rk := (fun _ z => by cases z), nd := List.nodup_nil, len := ⟨rfl, by decide, by decide⟩ }
      · rw [upd_ne ne, upd_ne (ne_of_none (b5 b o e ne) ndd)]
        exact b5 b o e ne
      · rw [upd_ne xv5.symm, upd_ne (ne_of_none hv5 ndd)]
        exact hv5
      · rw [upd_ne xh5.symm, upd_ne (ne_of_none hh5 ndd)]
        exact hh5
      · rw [upd_ne xd.symm]
        exact upd_same
end

/-! ### plans -/
def kD : Key → PyData
  | .inl n => .int n
  | .inr s => .str s
theorem TDs.keys {H : Hp} : ∀ {ks : List Key}, TDs H (ks.map kV) (ks.map kD)
  | [] => .nil
  | .inl n :: r => .cons (.int n) TDs.keys
  | .inr s :: r => .cons (.str s) TDs.keys
abbrev PRule := List Key × (Int × List Key)
def ruleD (r : Int × List Key) : PyData := .tuple [.int r.1, .tuple (r.2.map kD)]
def rowsOf (R : List PRule) : Rows := R.map fun p => (p.1, ruleD p.2)
theorem rowsOf_keys (R : List PRule) : (rowsOf R).map (·.1) = R.map (·.1) := by
  unfold rowsOf
  rw [List.map_map]
  rfl
theorem rowsOf_snoc (R : List PRule) (r : PRule) : rowsOf (R ++ [r]) = rowsOf R ++ [(r.1, ruleD r.2)] := by
  unfold rowsOf
  rw [List.map_append]
  rfl
def heldAt (ks : List (Int × Int)) (i : Int) : Int := ((ks[i.toNat]?).getD (0, 0)).2
def TestOk (h : Int) (t : Key) : Prop := (∃ n : Int, t = Sum.inl n ∧ 0 ≤ n ∧ n < h) ∨ t = Sum.inr ("new" : Str)
def SrcAt (h : Int) (t : Key) (k : Key) : Prop := (∃ n : Int, k = Sum.inl n ∧ 0 ≤ n ∧ n < h) ∨ (k = Sum.inr ("value" : Str) ∧ t = Sum.inr ("new" : Str))
structure SrcOk (h : Int) (t : Key) (m : Int) (ks : List Key) : Prop where
  len : (ks.length : Int) = m
  nd : ks.Nodup
  all : ∀ k ∈ ks, SrcAt h t k
def RuleOk (w : Int) (kinds : List (Int × Int)) (r : PRule) : Prop := ∃ (i j : Int) (t : Key), r.1 = [Sum.inl i, Sum.inl j, t] ∧ 0 ≤ i ∧ i < kinds.length ∧ 0 ≤ j ∧ j < w ∧ TestOk (heldAt kinds i) t ∧ 0 ≤ r.2.1 ∧ r.2.1 < kinds.length ∧ SrcOk (heldAt kinds i) t (heldAt kinds r.2.1) r.2.2
structure KindsOk (kinds : List (Int × Int)) : Prop where
  len : 1 ≤ kinds.length ∧ kinds.length ≤ 6
  zero : heldAt kinds 0 = 0
  all : ∀ k ∈ kinds, 0 ≤ k.1 ∧ k.1 ≤ 3 ∧ 0 ≤ k.2 ∧ k.2 ≤ 3
structure Plan where
  words : Int
  kinds : List (Int × Int)
  rules : List PRule
structure PlanOk (P : Plan) : Prop where
  w : 1 ≤ P.words ∧ P.words ≤ 3
  k : KindsOk P.kinds
  r : ∀ r ∈ P.rules, RuleOk P.words P.kinds r
  nd : (P.rules.map (·.1)).Nodup
  len : P.rules.length ≤ 100
structure PlanAt (H : Hp) (l kl rl : Addr) (P : Plan) : Prop where
  at_ : H l = some (.lst [.int P.words, .ref kl, .ref rl])
  kin : ∃ vs, H kl = some (.lst vs) ∧ TDs H vs (P.kinds.map msgD)
  rul : ∃ kvs, H rl = some (.dT kvs) ∧ KvD H kvs (rowsOf P.rules)
theorem PlanAt.mono {H H' : Hp} {l kl rl : Addr} {P : Plan} (h : PlanAt H l kl rl P) (s : Same H H') : PlanAt H' l kl rl P := by
  obtain ⟨a, ⟨vs, b, c⟩, ⟨kvs, d, e⟩⟩ := h
  exact ⟨s _ _ a, ⟨vs, s _ _ b, c.mono (Tups.same s)⟩, ⟨kvs, s _ _ d, e.mono (Tups.same s)⟩⟩
theorem Keep.put {p a : Addr} {H H1 : Hp} {o : HO} (k : Keep p H H1) (n : H a = none) : Keep p H (upd H1 a o) := fun b u e nb => by
  rw [upd_ne (ne_of_none e n)]
  exact k b u e nb
theorem Keep.free {p a : Addr} {H H1 : Hp} (k : Keep p H H1) (hp : H1 p ≠ none) (n : H1 a = none) : H a = none := by
  cases e : H a with
  | none => rfl
  | some o =>
    by_cases q : a = p
    · subst q
      exact absurd n hp
    · rw [k a o e q] at n
      cases n
theorem Pen.some' {H : Hp} {p c : Addr} (h : Pen H p c) : H p ≠ none := by
  obtain ⟨l, e⟩ := h.at
  rw [e]
  exact fun z => nomatch z
/-- the plan stands, but for what the pen does -/
theorem PlanAt.but {H H' : Hp} {p c l kl rl : Addr} {P : Plan} (h : PlanAt H l kl rl P) (hP : Pen H p c) (b : Keep p H H') (n1 : l ≠ p) (n2 : kl ≠ p) : PlanAt H' l kl rl P := by
  obtain ⟨u, hp⟩ := hP.at
  obtain ⟨a, ⟨vs, e, f⟩, ⟨kvs, g, i⟩⟩ := h
  exact ⟨b _ _ a n1, ⟨vs, b _ _ e n2, f.mono (hP.tups b)⟩, ⟨kvs, b _ _ g (ne_of g hp (fun z => nomatch z)), i.mono (hP.tups b)⟩⟩
theorem ixN_at {n j : Nat} (hj : j < n) : ixN n (j : Int) = some j := by
  unfold ixN
  rw [if_pos (by omega), if_pos (by omega)]
  simp
theorem seqIx {n k : Nat} (h : k < n) : seqIndex? (k : Int) n = some k := (ixN_seq (ixN_at h)).1
theorem erase_perm {α : Type} : ∀ (l : List α) (k : Nat) (h : k < l.length), (l[k] :: l.eraseIdx k).Perm l
  | x :: r, 0, _ => List.Perm.refl _
  | x :: r, k + 1, h => (List.Perm.swap x (r[k]'(Nat.lt_of_succ_lt_succ h)) _).trans (List.Perm.cons x (erase_perm r k (Nat.lt_of_succ_lt_succ h)))
theorem erase_map {α β : Type} (f : α → β) : ∀ (l : List α) (k : Nat), (l.map f).eraseIdx k = (l.eraseIdx k).map f
  | [], k => by cases k <;> rfl
  | x :: r, 0 => rfl
  | x :: r, k + 1 => by simp only [List.map_cons, List.eraseIdx_cons_succ, erase_map f r k]
def sp_law_some_sources : Sp := fun vs H Q _ => ∃ (p c : Addr) (h m : Int) (t : Key), vs = [.ref p, .int h, kV t, .int m] ∧ Pen H p c ∧ 0 ≤ h ∧ h ≤ 3 ∧ 0 ≤ m ∧ m ≤ 3 ∧ TestOk h t ∧
  ∀ v H', Keep p H H' → Pen H' p c → (v = .non ∨ ∃ a ks, v = .ref a ∧ H' a = some (.tup (ks.map kV)) ∧ SrcOk h t m ks) → Q v H'
def pick (rs fs : List Key) (h : Int) (t : Key) : Prop := (rs ++ fs).Nodup ∧ ∀ k ∈ rs ++ fs, SrcAt h t k
theorem pick_step {rs fs : List Key} {h : Int} {t : Key} (hp : pick rs fs h t) {k : Nat} (hk : k < rs.length) : pick (rs.eraseIdx k) (fs ++ [rs[k]]) h t := by
  have e : (rs.eraseIdx k ++ (fs ++ [rs[k]])).Perm (rs ++ fs) := by
    have e1 : (rs.eraseIdx k ++ (fs ++ [rs[k]])).Perm ((fs ++ [rs[k]]) ++ rs.eraseIdx k) := List.perm_append_comm
    have e2 : ((fs ++ [rs[k]]) ++ rs.eraseIdx k) = fs ++ (rs[k] :: rs.eraseIdx k) := by rw [List.append_assoc]; rfl
    have e3 : (rs[k] :: rs.eraseIdx k).Perm rs := erase_perm rs k hk
    rw [e2] at e1
    exact e1.trans ((List.Perm.append_left fs e3).trans List.perm_append_comm)
  exact ⟨e.nodup_iff.mpr hp.1, fun x hx => hp.2 x (e.mem_iff.mp hx)⟩
theorem rgV_keys {h : Int} : rgV 0 h = ((List.range h.toNat).map fun i : Nat => (Sum.inl (i : Int) : Key)).map kV := by
  unfold rgV
  rw [List.map_map]
  simp only [Int.sub_zero]
  refine List.map_congr_left fun i _ => ?_
  show V.int (0 + (i : Int)) = V.int i
  rw [Int.zero_add]
theorem pick_rg {h : Int} {t : Key} (h0 : 0 ≤ h) : pick ((List.range h.toNat).map fun i : Nat => (Sum.inl (i : Int) : Key)) [] h t := by
  refine ⟨?_, fun k hk => ?_⟩
  · rw [List.append_nil]
    refine List.Pairwise.map _ (fun a b hab e => ?_) List.nodup_range
    have := Sum.inl.inj e
    omega
  · rw [List.append_nil] at hk
    obtain ⟨i, hi, rfl⟩ := List.mem_map.mp hk
    have := List.mem_range.mp hi
    exact .inl ⟨i, rfl, by omega, by omega⟩
theorem map_set_erase {rs : List Key} (k : Nat) : (rs.map kV).eraseIdx k = (rs.eraseIdx k).map kV := erase_map _ _ _
section
variable {P : Program} {w : World} {K : PySem.W.Frag} {mg : Str → Option Value} {base : Heap}
theorem G_law_draw (T : Tx K mg) : FnG P w K mg base CX0 2 T.law_draw.f T.law_draw.fd ["pen", "many"] sp_law_draw := ok_law_draw T.law_draw.F T.law_fresh.F T.law_fresh.b T.law_fresh.g T.m_len T.m_range
theorem G_law_pen (T : Tx K mg) : FnG P w K mg base CX0 1 T.law_pen.f T.law_pen.fd ["script"] (sp_law_pen K) := ok_law_pen T.law_pen.F T.m_list
abbrev N_law_some_sources : List Str := ["pen", "held", "test", "many", "rest", "found", "lap"]
theorem sc_law_some_sources : FnScope N_law_some_sources ["pen", "held", "test", "many"] (defScope s_law_some_sources) := ⟨rfl, rfl, rfl, by decide +kernel, rfl, by decide +kernel, by decide +kernel⟩
theorem G_law_some_sources (T : Tx K mg) : FnG P w K mg base CX0 3 T.law_some_sources.f T.law_some_sources.fd ["pen", "held", "test", "many"] sp_law_some_sources := by
  refine okG T.law_some_sources.F sc_law_some_sources (fun vs H Q E h => ?_) (fun cdv A outer s H vs Q E gd hr h => ?_)
  · obtain ⟨p, c, h', m, t, rfl, _⟩ := h
    rfl
  · obtain ⟨p, c, h', m, t, rfl, hP, h0, h3, m0, m3, ht, q⟩ := h
    refine ⟨_, 
      (pss_cons (ps_par (i := 4) (j := 5) rfl sc_law_some_sources.nd rfl rfl (by decide) rfl rfl (pa_cons (pe_listRg rfl (by rfl) T.m_list (prg_1 (by rfl) T.m_range (pv 1))) (pa_cons (pe_lst pa_nil) pa_nil)) rfl) -- rest, found = (list(range(held)), [])
      (C8.pss_cut (ps_if (pt_cmpR op_eq (pv 2) pe_str (nomark _)) 
        (pss_one (ps_expr (pe_bm PySem.F.plainAttrs_list PySem.F.slot_list_append PySem.F.type_list_append mt_append (pv 4) (pa_cons pe_str pa_nil)))) -- rest.append('value')
         pss_nil) -- if test == 'new':
      (pss_cons (ps_if (pt_cmpR op_gt (pv 3) (pe_callB call_len_seq (by rfl) T.m_len PySem.boot_len (pa_cons (pv 4) pa_nil)) (nomark _)) 
        (pss_one (ps_ret pe_non)) -- return None
         pss_nil) -- if many > len(rest):
      (pss_cons (ps_for PassesOwn.never rfl (pi_range1 rfl T.m_range (pa_cons (pv 3) pa_nil)) (pg_name (i := 6) sc_law_some_sources.nd rfl (.inl rfl)) 
        (pss_one (ps_expr (pe_bm PySem.F.plainAttrs_list PySem.F.slot_list_append PySem.F.type_list_append mt_append (pv 5) (pa_cons (pe_bm PySem.F.plainAttrs_list PySem.F.slot_list_pop PySem.F.type_list_pop mt_popAt (pv 4) (pa_cons (pe_callG (G_law_draw T) gd (hr.mono (by decide)) rfl T.law_draw.g T.law_draw.F.kp T.law_draw.b .nil pass0 (pa_cons (pv 0) (pa_cons (pe_callB call_len_seq (by rfl) T.m_len PySem.boot_len (pa_cons (pv 4) pa_nil)) pa_nil))) pa_nil)) pa_nil)))) -- found.append(rest.pop(_law_draw(pen, len(rest))))
        ) -- for lap in range(many):
      (pss_one (ps_ret (pe_callTy call_tuple_of (by rfl) T.m_tuple (by decide +kernel) (pa_cons (pv 5) pa_nil)))) -- return tuple(found)
      )))) , ?_⟩
    refine ⟨.int h', rfl, h', rfl, RgOk.of_le (by decide) (by omega) (by decide) h0, fun l nl => ⟨by show 0 ≤ sizeLine; decide, fun f nf => ⟨_, _, rfl, ?_⟩⟩⟩
    rw [rgV_keys] at nf ⊢
    have hl0 : (upd H l (.lst (((List.range h'.toNat).map fun i : Nat => (Sum.inl (i : Int) : Key)).map kV))) l = some (.lst (((List.range h'.toNat).map fun i : Nat => (Sum.inl (i : Int) : Key)).map kV)) := upd_same
    have nlp := hP.free nl
    have hP1 := hP.mono (same_new nl (o := .lst (((List.range h'.toNat).map fun i : Nat => (Sum.inl (i : Int) : Key)).map kV)))
    have k1 : Keep p H (upd H l (.lst (((List.range h'.toNat).map fun i : Nat => (Sum.inl (i : Int) : Key)).map kV))) := Keep.new nl
    have pk := pick_rg (h := h') (t := t) h0
    have lk : ((List.range h'.toNat).map fun i : Nat => (Sum.inl (i : Int) : Key)).length = h'.toNat := by rw [List.length_map, List.length_range]
    have ai : ∀ k ∈ ((List.range h'.toNat).map fun i : Nat => (Sum.inl (i : Int) : Key)), k ≠ Sum.inr ("value" : Str) := fun k hk e => by
      obtain ⟨i, _, rfl⟩ := List.mem_map.mp hk
      cases e
    generalize ((List.range h'.toNat).map fun i : Nat => (Sum.inl (i : Int) : Key)) = r0 at *
    generalize upd H l (.lst (r0.map kV)) = H1 at *
    have nfp := hP1.free nf
    have nfl := ne_of_none hl0 nf
    have hP2 := hP1.mono (same_new nf (o := .lst []))
    have nfH : H f = none := k1.free hP1.some' nf
    have k2 : Keep p H (upd H1 f (.lst [])) := k1.put nfH
    have hl2 : (upd H1 f (.lst [])) l = some (.lst (r0.map kV)) := by rw [upd_ne nfl]; exact hl0
    have hf2 : (upd H1 f (.lst [])) f = some (.lst []) := upd_same
    generalize upd H1 f (.lst []) = H2 at *
    refine ⟨fun σ H' => ∃ rs : List Key, σ = [some (.ref p), some (.int h'), some (kV t), some (.int m), some (.ref l), some (.ref f), none] ∧ Keep p H H' ∧ Pen H' p c ∧ H' l = some (.lst (rs.map kV)) ∧ H' f = some (.lst []) ∧ pick rs [] h' t ∧ rs.length ≤ 4, ?_, ?_⟩
    · rcases ht with ⟨n, rfl, n0, n1⟩ | rfl
      · refine ⟨.int n, rfl, rfl, _, rfl, ?_⟩
        exact ⟨r0, rfl, k2, hP2, hl2, hf2, pk, by omega⟩
      · refine ⟨.str "new", rfl, rfl, _, rfl, ?_⟩
        refine ⟨.ref l, rfl, .inl ⟨rfl, _, SqL.of hl2⟩, l, _, .str "value", rfl, rfl, hl2, by rw [List.length_map, lk]; exact small1000 (by omega), ?_⟩
        refine ⟨r0 ++ [Sum.inr ("value" : Str)], rfl, k2.put nl, hP2.put nlp.1.symm nlp.2.symm, ?_, ?_, ⟨?_, ?_⟩, ?_⟩
        · rw [upd_same, List.map_append]
          rfl
        · rw [upd_ne nfl.symm]
          exact hf2
        · rw [List.append_nil]
          have nd := pk.1
          rw [List.append_nil] at nd
          refine List.nodup_append.mpr ⟨nd, by simp, fun a ha b hb => ?_⟩
          rw [List.mem_singleton] at hb
          subst hb
          exact ai a ha
        · intro k hk
          rw [List.append_nil] at hk
          rcases List.mem_append.mp hk with z | z
          · exact pk.2 k (List.mem_append_left _ z)
          · rw [List.mem_singleton] at z
            exact .inr ⟨z, rfl⟩
        · rw [List.length_append, lk]
          show h'.toNat + 1 ≤ 4
          omega
    · rintro σ H3 ⟨rs, rfl, k3, hP3, hl3, hf3, pk, lr⟩
      refine ⟨.int m, rfl, .ref l, rfl, l, _, rfl, .inl (SqL.of hl3), _, _, rfl, rfl, _, rfl, ite2 (fun hb => ?_) (fun hb => ?_)⟩
      · exact q .non H3 k3 hP3 (.inl rfl)
      · have hm : m ≤ rs.length := by
          have z : ¬ (m > ((List.map kV rs).length : Int)) := fun e => hb (decide_eq_true e)
          rw [List.length_map] at z
          omega
        obtain ⟨m', rfl⟩ : ∃ m' : Nat, m = m' := ⟨m.toNat, by omega⟩
        refine ⟨.int (m' : Int), rfl, (m' : Int), rfl, by omega, by omega, ?_⟩
        rw [Int.toNat_natCast]
        refine for_range (n := m') (fun i σ H' => ∃ (y : Option V) (rs fs : List Key), σ = [some (.ref p), some (.int h'), some (kV t), some (.int m'), some (.ref l), some (.ref f), y] ∧ Keep p H H' ∧ Pen H' p c ∧ H' l = some (.lst (rs.map kV)) ∧ H' f = some (.lst (fs.map kV)) ∧ pick rs fs h' t ∧ fs.length = i ∧ m' ≤ rs.length + i ∧ rs.length ≤ 4) ?_ ?_ ?_
        · exact ⟨none, rs, [], rfl, k3, hP3, hl3, hf3, pk, rfl, by omega, lr⟩
        · rintro i σ H4 hi ⟨y, rs, fs, rfl, k4, hP4, hl4, hf4, pk, lf, lm, lr⟩
          refine ⟨.ref f, rfl, .inl ⟨rfl, _, SqL.of hf4⟩, .ref l, rfl, .inl ⟨rfl, _, SqL.of hl4⟩, .ref p, rfl, .ref l, rfl, l, _, rfl, .inl (SqL.of hl4), p, c, _, rfl, hP4, ?_, ?_, fun d H5 d0 d1 k5 hP5 => ?_⟩
          · rw [List.length_map]; omega
          · rw [List.length_map]; omega
          rw [List.length_map] at d1
          obtain ⟨d', rfl⟩ : ∃ d' : Nat, d = d' := ⟨d.toNat, by omega⟩
          have hd : d' < rs.length := by omega
          have hl5 := k5 _ _ hl4 nlp.1.symm
          have hf5 := k5 _ _ hf4 nfp.1.symm
          refine ⟨l, rs.map kV, d', d', kV rs[d'], rfl, rfl, hl5, by omega, by omega, seqIx (by rw [List.length_map]; exact hd), by rw [List.getElem?_map, List.getElem?_eq_getElem hd]; rfl, ?_⟩
          refine ⟨f, fs.map kV, kV rs[d'], rfl, rfl, by rw [upd_ne nfl.symm]; exact hf5, by rw [List.length_map]; exact small1000 (by omega), ?_⟩
          refine ⟨_, rs.eraseIdx d', fs ++ [rs[d']], rfl, ((k4.trans k5).put nl).put nfH, (hP5.put nlp.1.symm nlp.2.symm).put nfp.1.symm nfp.2.symm, ?_, ?_, pick_step pk hd, ?_, ?_, ?_⟩
          · rw [upd_ne nfl, upd_same, map_set_erase]
          · rw [upd_same, List.map_append]
            rfl
          · rw [List.length_append, lf]
            rfl
          · rw [List.length_eraseIdx_of_lt hd]
            omega
          · rw [List.length_eraseIdx_of_lt hd]
            omega
        · rintro σ H4 ⟨y, rs, fs, rfl, k4, hP4, hl4, hf4, pk, lf, lm, lr⟩
          refine ⟨.ref f, rfl, f, _, rfl, .inl ⟨SqL.of hf4, fun a na => ?_⟩⟩
          refine q (.ref a) _ (k4.put (k4.free hP4.some' na)) (hP4.mono (same_new na)) (.inr ⟨a, fs, rfl, upd_same, ?_⟩)
          exact ⟨by omega, (List.nodup_append.mp pk.1).2.1, fun k hk => pk.2 k (List.mem_append_right _ hk)⟩
end

/-! ### plans are drawn -/
def putP (R : List PRule) (k : List Key) (v : Int × List Key) : List PRule :=
  if (R.any fun r => decide (r.1 = k)) = true then R.map (fun r => if r.1 = k then (r.1, v) else r) else R ++ [(k, v)]
theorem putP_keys (R : List PRule) (k : List Key) (v : Int × List Key) : (k ∈ R.map (·.1) → (putP R k v).map (·.1) = R.map (·.1)) ∧ (k ∉ R.map (·.1) → (putP R k v).map (·.1) = R.map (·.1) ++ [k]) := by
  unfold putP
  by_cases h : (R.any fun r => decide (r.1 = k)) = true
  · have hm : k ∈ R.map (·.1) := by
      obtain ⟨r, hr, e⟩ := List.any_eq_true.mp h
      exact List.mem_map.mpr ⟨r, hr, of_decide_eq_true e⟩
    refine ⟨fun _ => ?_, fun z => absurd hm z⟩
    rw [if_pos h, List.map_map]
    refine List.map_congr_left fun r _ => ?_
    show (if r.1 = k then (r.1, v) else r).1 = r.1
    split <;> rfl
  · have hm : k ∉ R.map (·.1) := fun z => h (by
      obtain ⟨r, hr, e⟩ := List.mem_map.mp z
      exact List.any_eq_true.mpr ⟨r, hr, decide_eq_true e⟩)
    refine ⟨fun z => absurd z hm, fun _ => ?_⟩
    rw [if_neg h, List.map_append]
    rfl
theorem putP_nodup {R : List PRule} {k : List Key} {v : Int × List Key} (h : (R.map (·.1)).Nodup) : ((putP R k v).map (·.1)).Nodup := by
  by_cases hm : k ∈ R.map (·.1)
  · rw [(putP_keys R k v).1 hm]
    exact h
  · rw [(putP_keys R k v).2 hm]
    refine List.nodup_append.mpr ⟨h, by simp, fun a ha b hb => ?_⟩
    rw [List.mem_singleton] at hb
    subst hb
    rintro rfl
    exact hm ha
theorem putP_len (R : List PRule) (k : List Key) (v : Int × List Key) : (putP R k v).length ≤ R.length + 1 := by
  unfold putP
  split
  · rw [List.length_map]
    exact Nat.le_succ _
  · rw [List.length_append]
    exact Nat.le_refl _
theorem putP_mem {R : List PRule} {k : List Key} {v : Int × List Key} {r : PRule} (h : r ∈ putP R k v) : r ∈ R ∨ r = (k, v) := by
  unfold putP at h
  split at h
  · obtain ⟨s, hs, rfl⟩ := List.mem_map.mp h
    by_cases e : s.1 = k
    · rw [if_pos e]
      exact .inr (by rw [e])
    · rw [if_neg e]
      exact .inl hs
  · rcases List.mem_append.mp h with z | z
    · exact .inl z
    · exact .inr (List.mem_singleton.mp z)
theorem kvd_map {H : Hp} {k : List Key} {x : V} {v : Int × List Key} (hx : TD H x (ruleD v)) : ∀ {R : List PRule} {kvs : List (List Key × V)}, KvD H kvs (rowsOf R) →
    KvD H (kvs.map fun kv => if kv.1 = k then (kv.1, x) else kv) (rowsOf (R.map fun r => if r.1 = k then (r.1, v) else r))
  | [], _, h => by
    cases h
    exact .nil
  | r :: R, _, h => by
    cases h with
    | @cons a _ l1 _ ab t =>
      have e1 : a.1 = r.1 := ab.1
      refine .cons ?_ (kvd_map hx (R := R) t)
      show (if a.1 = k then (a.1, x) else a).1 = (if r.1 = k then (r.1, v) else r).1 ∧ TD H (if a.1 = k then (a.1, x) else a).2 (ruleD (if r.1 = k then (r.1, v) else r).2)
      by_cases e : r.1 = k
      · rw [if_pos (e1.trans e), if_pos e]
        exact ⟨e1, hx⟩
      · rw [if_neg (fun z => e (e1.symm.trans z)), if_neg e]
        exact ab
theorem kvd_put {H : Hp} {R : List PRule} {kvs : List (List Key × V)} {k : List Key} {x : V} {v : Int × List Key} (h : KvD H kvs (rowsOf R)) (hx : TD H x (ruleD v)) : KvD H (putK kvs k x) (rowsOf (putP R k v)) := by
  have ek : kvs.map (·.1) = R.map (·.1) := by rw [h.keys, rowsOf_keys]
  have ea : (kvs.any fun kv => decide (kv.1 = k)) = (R.any fun r => decide (r.1 = k)) := by
    have e1 : (kvs.any fun kv => decide (kv.1 = k)) = (kvs.map (·.1)).any fun j => decide (j = k) := by rw [List.any_map]; rfl
    have e2 : (R.any fun r => decide (r.1 = k)) = (R.map (·.1)).any fun j => decide (j = k) := by rw [List.any_map]; rfl
    rw [e1, e2, ek]
  unfold putK putP
  rw [ea]
  split
  · exact kvd_map hx h
  · rw [rowsOf_snoc]
    exact Paired.snoc h ⟨rfl, hx⟩
/-- the plan's parts while they are made -/
structure PB (H H' : Hp) (p c kl rl : Addr) (ks : List (Int × Int)) (R : List PRule) : Prop where
  keep : Keep p H H'
  pen : Pen H' p c
  fk : H kl = none
  fr : H rl = none
  nk : kl ≠ p ∧ kl ≠ c
  nr : rl ≠ p ∧ rl ≠ c
  kin : ∃ vs, H' kl = some (.lst vs) ∧ TDs H' vs (ks.map msgD)
  rul : ∃ kvs, H' rl = some (.dT kvs) ∧ KvD H' kvs (rowsOf R)
theorem PB.draw {H H1 H2 : Hp} {p c kl rl : Addr} {ks : List (Int × Int)} {R : List PRule} (b : PB H H1 p c kl rl ks R) (k : Keep p H1 H2) (hP : Pen H2 p c) : PB H H2 p c kl rl ks R := by
  obtain ⟨a, e, f, g, n, m, ⟨vs, i, j⟩, ⟨kvs, l, o⟩⟩ := b
  exact ⟨a.trans k, hP, f, g, n, m, ⟨vs, k _ _ i n.1, j.mono (e.tups k)⟩, ⟨kvs, k _ _ l m.1, o.mono (e.tups k)⟩⟩
theorem PB.new {H H1 : Hp} {p c kl rl a : Addr} {o : HO} {ks : List (Int × Int)} {R : List PRule} (b : PB H H1 p c kl rl ks R) (n : H1 a = none) : PB H (upd H1 a o) p c kl rl ks R :=
  b.draw (Keep.new n) (b.pen.mono (same_new n))
theorem PB.push {H H1 : Hp} {p c kl rl : Addr} {ks : List (Int × Int)} {R : List PRule} (b : PB H H1 p c kl rl ks R) {vs : List V} {v : V} {m : Int × Int} (hk : H1 kl = some (.lst vs)) (ht : TDs H1 vs (ks.map msgD)) (hv : TD H1 v (msgD m)) :
    PB H (upd H1 kl (.lst (vs ++ [v]))) p c kl rl (ks ++ [m]) R := by
  obtain ⟨a, e, f, g, n, m', _, ⟨kvs, l, o⟩⟩ := b
  have tp : Tups H1 (upd H1 kl (.lst (vs ++ [v]))) := Tups.lst hk
  have nrk : rl ≠ kl := ne_of l hk (fun z => nomatch z)
  refine ⟨a.put f, e.put n.1 n.2, f, g, n, m', ⟨_, upd_same, ?_⟩, ⟨kvs, by rw [upd_ne nrk]; exact l, o.mono tp⟩⟩
  rw [List.map_append]
  exact (ht.mono tp).app (.cons (hv.mono tp) .nil)
theorem PB.rule {H H1 : Hp} {p c kl rl : Addr} {ks : List (Int × Int)} {R : List PRule} (b : PB H H1 p c kl rl ks R) {kvs : List (List Key × V)} {k : List Key} {x : V} {r : Int × List Key} (hr : H1 rl = some (.dT kvs)) (hk : KvD H1 kvs (rowsOf R)) (hx : TD H1 x (ruleD r)) :
    PB H (upd H1 rl (.dT (putK kvs k x))) p c kl rl ks (putP R k r) := by
  obtain ⟨a, e, f, g, n, m', ⟨vs, i, j⟩, _⟩ := b
  have tp : Tups H1 (upd H1 rl (.dT (putK kvs k x))) := Tups.put hr (fun _ z => nomatch z)
  have nrk : kl ≠ rl := ne_of i hr (fun z => nomatch z)
  exact ⟨a.put g, e.put m'.1 m'.2, f, g, n, m', ⟨vs, by rw [upd_ne nrk]; exact i, j.mono tp⟩, ⟨_, upd_same, kvd_put (hk.mono tp) (hx.mono tp)⟩⟩
def testsOf (u : Int) : List Key := ((List.range u.toNat).map fun i : Nat => (Sum.inl (i : Int) : Key)) ++ [Sum.inr ("new" : Str)]
theorem testsOf_len (u : Int) : (testsOf u).length = u.toNat + 1 := by
  unfold testsOf
  rw [List.length_append, List.length_map, List.length_range]
  rfl
theorem testsOf_ok {u : Int} {t : Key} (h0 : 0 ≤ u) (h : t ∈ testsOf u) : TestOk u t := by
  unfold testsOf at h
  rcases List.mem_append.mp h with z | z
  · obtain ⟨i, hi, rfl⟩ := List.mem_map.mp z
    have := List.mem_range.mp hi
    exact .inl ⟨i, rfl, by omega, by omega⟩
  · exact .inr (List.mem_singleton.mp z)
theorem testsOf_v (u : Int) : rgV 0 u ++ [V.str "new"] = (testsOf u).map kV := by
  unfold testsOf
  rw [List.map_append, rgV_keys]
  rfl
theorem kinds_at {H : Hp} {vs : List V} {ks : List (Int × Int)} (ht : TDs H vs (ks.map msgD)) {i : Int} (h0 : 0 ≤ i) (h1 : i < ks.length) : ∃ a v, atI vs i = some (.ref a) ∧ H a = some (.tup [.int v, .int (heldAt ks i)]) ∧ ks[i.toNat]? = some (v, heldAt ks i) := by
  have hl := ht.msgs_len
  obtain ⟨j, rfl⟩ : ∃ j : Nat, i = j := ⟨i.toNat, by omega⟩
  have hj : j < vs.length := by omega
  obtain ⟨m, a, e1, e2, e3⟩ := ht.msg (List.getElem?_eq_getElem hj)
  have e4 : heldAt ks (j : Int) = m.2 := by
    unfold heldAt
    rw [Int.toNat_natCast, e1]
    rfl
  refine ⟨a, m.1, atI_nat (by rw [List.getElem?_eq_getElem hj, e2]), by rw [e4]; exact e3, by rw [e4, Int.toNat_natCast]; exact e1⟩
theorem kinds_bd {ks : List (Int × Int)} (hk : ∀ k ∈ ks, 0 ≤ k.1 ∧ k.1 ≤ 3 ∧ 0 ≤ k.2 ∧ k.2 ≤ 3) {i : Nat} {m : Int × Int} (h : ks[i]? = some m) : 0 ≤ m.1 ∧ m.1 ≤ 3 ∧ 0 ≤ m.2 ∧ m.2 ≤ 3 := hk m (List.mem_of_getElem? h)
theorem kinds_push {ks : List (Int × Int)} {m : Int × Int} (h : KindsOk ks) (hl : ks.length ≤ 5) (h0 : 0 ≤ m.1) (h1 : m.1 ≤ 3) (h2 : 0 ≤ m.2) (h3 : m.2 ≤ 3) : KindsOk (ks ++ [m]) := by
  refine ⟨⟨by rw [List.length_append]; have := h.len; omega, by rw [List.length_append]; show ks.length + 1 ≤ 6; omega⟩, ?_, fun k hk => ?_⟩
  · have z := h.zero
    unfold heldAt at z ⊢
    have := h.len
    rw [show (0 : Int).toNat = 0 from rfl] at z ⊢
    rw [List.getElem?_append_left (by omega)]
    exact z
  · rcases List.mem_append.mp hk with z | z
    · exact h.all k z
    · rw [List.mem_singleton] at z
      subst z
      exact ⟨h0, h1, h2, h3⟩
/-- what is known of the rules -/
structure RB (w : Int) (ks : List (Int × Int)) (R : List PRule) (n : Nat) : Prop where
  ok : ∀ r ∈ R, RuleOk w ks r
  nd : (R.map (·.1)).Nodup
  len : R.length ≤ n
theorem RB.le {w : Int} {ks : List (Int × Int)} {R : List PRule} {n m : Nat} (h : RB w ks R n) (e : n ≤ m) : RB w ks R m := ⟨h.ok, h.nd, Nat.le_trans h.len e⟩
theorem RB.put {w : Int} {ks : List (Int × Int)} {R : List PRule} {n : Nat} (h : RB w ks R n) {k : List Key} {v : Int × List Key} (hr : RuleOk w ks (k, v)) : RB w ks (putP R k v) (n + 1) := by
  refine ⟨fun r hr' => ?_, putP_nodup h.nd, Nat.le_trans (putP_len R k v) (Nat.succ_le_succ h.len)⟩
  rcases putP_mem hr' with z | rfl
  · exact h.ok r z
  · exact hr
def sp_law_plan : Sp := fun vs H Q _ => ∃ (p c : Addr) (w st h : Int), vs = [.ref p, .int w, .int st, .int h] ∧ Pen H p c ∧ 1 ≤ w ∧ w ≤ 3 ∧ 1 ≤ st ∧ st ≤ 6 ∧ 0 ≤ h ∧ h ≤ 3 ∧
  ∀ l kl rl pl H', pl.words = w → Keep p H H' → Pen H' p c → H l = none → H kl = none → H rl = none → PlanAt H' l kl rl pl → PlanOk pl → (pl.kinds.length : Int) ≤ st → Q (.ref l) H'
section
variable {P : Program} {w : World} {K : PySem.W.Frag} {mg : Str → Option Value} {base : Heap}
abbrev N_law_plan : List Str := ["pen", "words", "states", "held", "kinds", "rules", "lap", "state", "word", "test", "target", "sources"]
theorem sc_law_plan : FnScope N_law_plan ["pen", "words", "states", "held"] (defScope s_law_plan) := ⟨rfl, rfl, rfl, by decide +kernel, rfl, by decide +kernel, by decide +kernel⟩
theorem G_law_plan (T : Tx K mg) : FnG P w K mg base CX0 4 T.law_plan.f T.law_plan.fd ["pen", "words", "states", "held"] sp_law_plan := by
  refine okG T.law_plan.F sc_law_plan (fun vs H Q E h => ?_) (fun cdv A outer s H vs Q E gd hr h => ?_)
  · obtain ⟨p, c, w', st, h', rfl, _⟩ := h
    rfl
  · obtain ⟨p, c, w', st, h', rfl, hP, w1, w3, s1, s6, h0, h3, q⟩ := h
    refine ⟨_, 
      (C8.pss_cut (ps_par (i := 4) (j := 5) rfl sc_law_plan.nd rfl rfl (by decide) rfl rfl (pa_cons (pe_lst (pa_cons (pe_tup (pa_cons (pe_callG (G_law_draw T) gd (hr.mono (by decide)) rfl T.law_draw.g T.law_draw.F.kp T.law_draw.b .nil pass0 (pa_cons (pv 0) (pa_cons pe_int pa_nil))) (pa_cons pe_int pa_nil))) pa_nil)) (pa_cons pe_dnewT pa_nil)) rfl) -- kinds, rules = ([(_law_draw(pen, 2), 0)], {})
      (C8.pss_cut (ps_for PassesOwn.never rfl (pi_range1 rfl T.m_range (pa_cons (pe_callG (G_law_draw T) gd (hr.mono (by decide)) rfl T.law_draw.g T.law_draw.F.kp T.law_draw.b .nil pass0 (pa_cons (pv 0) (pa_cons (pv 2) pa_nil))) pa_nil)) (pg_name (i := 6) sc_law_plan.nd rfl (.inl rfl)) 
        (pss_one (ps_expr (pe_bm PySem.F.plainAttrs_list PySem.F.slot_list_append PySem.F.type_list_append mt_append (pv 4) (pa_cons (pe_tup (pa_cons (pe_callG (G_law_draw T) gd (hr.mono (by decide)) rfl T.law_draw.g T.law_draw.F.kp T.law_draw.b .nil pass0 (pa_cons (pv 0) (pa_cons (pe_ix ix_list (pe_lst (pa_cons pe_int (pa_cons pe_int (pa_cons pe_int pa_nil)))) (pe_callG (G_law_draw T) gd (hr.mono (by decide)) rfl T.law_draw.g T.law_draw.F.kp T.law_draw.b .nil pass0 (pa_cons (pv 0) (pa_cons pe_int pa_nil))) (fun _ _ => rfl)) pa_nil))) (pa_cons (pe_callG (G_law_draw T) gd (hr.mono (by decide)) rfl T.law_draw.g T.law_draw.F.kp T.law_draw.b .nil pass0 (pa_cons (pv 0) (pa_cons (pe_op op_add (pv 3) pe_int) pa_nil))) pa_nil))) pa_nil)))) -- kinds.append((_law_draw(pen, [2, 2, 4][_law_draw(pen, 3)]), _law_draw(pen, held + 1)))
        ) -- for lap in range(_law_draw(pen, states)):
      (C8.pss_cut (ps_for PassesOwn.never rfl (pi_range1 rfl T.m_range (pa_cons (pe_callB call_len_seq (by rfl) T.m_len PySem.boot_len (pa_cons (pv 4) pa_nil)) pa_nil)) (pg_name (i := 7) sc_law_plan.nd rfl (.inl rfl)) 
        (pss_one (ps_for PassesOwn.never rfl (pi_range1 rfl T.m_range (pa_cons (pv 1) pa_nil)) (pg_name (i := 8) sc_law_plan.nd rfl (.inl rfl)) 
          (pss_one (ps_for PassesOwn.never rfl (pi_list (pe_op op_cat (pe_listRg rfl (by rfl) T.m_list (prg_1 (by rfl) T.m_range (pe_ix ix_tup (pe_ix ix_list (pv 4) (pv 7) (fun _ _ => rfl)) pe_int (fun _ _ => rfl)))) (pe_lst (pa_cons pe_str pa_nil)))) (pg_name (i := 9) sc_law_plan.nd rfl (.inl rfl)) 
            (pss_cons (ps_set (i := 10) sc_law_plan.nd rfl (.inl rfl) (pe_callG (G_law_draw T) gd (hr.mono (by decide)) rfl T.law_draw.g T.law_draw.F.kp T.law_draw.b .nil pass0 (pa_cons (pv 0) (pa_cons (pe_callB call_len_seq (by rfl) T.m_len PySem.boot_len (pa_cons (pv 4) pa_nil)) pa_nil)))) -- target = _law_draw(pen, len(kinds))
            (pss_cons (ps_set (i := 11) sc_law_plan.nd rfl (.inl rfl) (pe_callG (G_law_some_sources T) gd (hr.mono (by decide)) rfl T.law_some_sources.g T.law_some_sources.F.kp T.law_some_sources.b .nil pass0 (pa_cons (pv 0) (pa_cons (pe_ix ix_tup (pe_ix ix_list (pv 4) (pv 7) (fun _ _ => rfl)) pe_int (fun _ _ => rfl)) (pa_cons (pv 9) (pa_cons (pe_ix ix_tup (pe_ix ix_list (pv 4) (pv 10) (fun _ _ => rfl)) pe_int (fun _ _ => rfl)) pa_nil)))))) -- sources = _law_some_sources(pen, kinds[state][1], test, kinds[target][1])
            (pss_one (ps_if (PW.pt (pw_and (pt_cmp (pc_notN (pv 11))) (pw_and1 (pt_cmpR op_gt (pe_callG (G_law_draw T) gd (hr.mono (by decide)) rfl T.law_draw.g T.law_draw.F.kp T.law_draw.b .nil pass0 (pa_cons (pv 0) (pa_cons pe_int pa_nil))) pe_int (nomark _))))) 
              (pss_one (ps_dput (hu_of hr) (pv 5) (pe_tup (pa_cons (pv 7) (pa_cons (pv 8) (pa_cons (pv 9) pa_nil)))) (pe_tup (pa_cons (pv 10) (pa_cons (pv 11) pa_nil))) rfl)) -- rules[state, word, test] = (target, sources)
               pss_nil)) -- if sources is not None and _law_draw(pen, 5) > 0:
            )))) -- for test in list(range(kinds[state][1])) + ['new']:
          )) -- for word in range(words):
        ) -- for state in range(len(kinds)):
      (pss_one (ps_ret (pe_lst (pa_cons (pv 1) (pa_cons (pv 4) (pa_cons (pv 5) pa_nil)))))) -- return [words, kinds, rules]
      ))) , ?_⟩
    refine ⟨fun σ H' => ∃ (kl rl : Addr) (ks : List (Int × Int)), σ = [some (.ref p), some (.int w'), some (.int st), some (.int h'), some (.ref kl), some (.ref rl), none, none, none, none, none, none] ∧ PB H H' p c kl rl ks [] ∧ KindsOk ks ∧ ks.length = 1, ?_, ?_⟩
    · refine ⟨.ref p, rfl, p, c, 2, rfl, hP, by decide, by decide, fun d H1 d0 d1 k1 hP1 => ⟨by show 2 ≤ sizeLine; decide, fun t nt => ⟨by show 1 ≤ sizeLine; decide, fun kl nkl => fun rl nrl => ⟨_, _, rfl, ?_⟩⟩⟩⟩
      have ht : (upd H1 t (.tup [.int d, .int 0])) t = some (.tup [.int d, .int 0]) := upd_same
      have hP2 := hP1.mono (same_new nt (o := .tup [.int d, .int 0]))
      have k2 := k1.put (o := .tup [.int d, .int 0]) (k1.free hP1.some' nt)
      generalize upd H1 t (.tup [.int d, .int 0]) = H2 at *
      have nk := hP2.free nkl
      have fk := k2.free hP2.some' nkl
      have hk : (upd H2 kl (.lst [.ref t])) kl = some (.lst [.ref t]) := upd_same
      have ht3 : (upd H2 kl (.lst [.ref t])) t = some (.tup [.int d, .int 0]) := same_new nkl _ _ ht
      have hP3 := hP2.mono (same_new nkl (o := .lst [.ref t]))
      have k3 := k2.put (o := .lst [.ref t]) fk
      generalize upd H2 kl (.lst [.ref t]) = H3 at *
      have nr := hP3.free nrl
      have fr := k3.free hP3.some' nrl
      have s4 : Same H3 (upd H3 rl (.dT [])) := same_new nrl
      refine ⟨kl, rl, [(d, 0)], rfl, ⟨k3.put fr, hP3.mono s4, fk, fr, ⟨nk.1.symm, nk.2.symm⟩, ⟨nr.1.symm, nr.2.symm⟩, ⟨_, s4 _ _ hk, .cons (TD.ofPair (s4 _ _ ht3)) .nil⟩, ⟨[], upd_same, .nil⟩⟩, ⟨⟨Nat.le_refl 1, (by decide : (1 : Nat) ≤ 6)⟩, rfl, fun k hk => ?_⟩, rfl⟩
      rw [List.mem_singleton] at hk
      subst hk
      exact ⟨d0, by show d ≤ 3; omega, (by decide : (0 : Int) ≤ 0), (by decide : (0 : Int) ≤ 3)⟩
    rintro σ H1 ⟨kl, rl, ks, rfl, B, hks, lk⟩
    refine ⟨fun σ H' => ∃ (y : Option V) (ks : List (Int × Int)), σ = [some (.ref p), some (.int w'), some (.int st), some (.int h'), some (.ref kl), some (.ref rl), y, none, none, none, none, none] ∧ PB H H' p c kl rl ks [] ∧ KindsOk ks ∧ (ks.length : Int) ≤ st, ?_, ?_⟩
    · refine ⟨.ref p, rfl, .int st, rfl, p, c, st, rfl, B.pen, by omega, by omega, fun d H2 d0 d1 k2 hP2 => ?_⟩
      obtain ⟨n', rfl⟩ : ∃ n' : Nat, d = n' := ⟨d.toNat, by omega⟩
      refine ⟨(n' : Int), rfl, by omega, by omega, ?_⟩
      rw [Int.toNat_natCast]
      refine for_range (n := n') (fun i σ H' => ∃ (y : Option V) (ks : List (Int × Int)), σ = [some (.ref p), some (.int w'), some (.int st), some (.int h'), some (.ref kl), some (.ref rl), y, none, none, none, none, none] ∧ PB H H' p c kl rl ks [] ∧ KindsOk ks ∧ ks.length = 1 + i) ?_ ?_ ?_
      · exact ⟨none, ks, rfl, B.draw k2 hP2, hks, by omega⟩
      · rintro i σ H3 hi ⟨y, ks, rfl, B, hks, lk⟩
        obtain ⟨vs, hk, ht⟩ := B.kin
        refine ⟨.ref kl, rfl, .inl ⟨rfl, _, SqL.of hk⟩, .ref p, rfl, by show 3 ≤ sizeLine; decide, fun l nl => ?_⟩
        have B4 := B.new (o := .lst [.int 2, .int 2, .int 4]) nl
        have nlp := B.pen.free nl
        refine ⟨.ref p, rfl, p, c, 3, rfl, B4.pen, by decide, by decide, fun e H5 e0 e1 k5 hP5 => ?_⟩
        have B5 := B4.draw k5 hP5
        have hl5 := k5 _ _ (upd_same (H := H3) (a := l) (o := .lst [.int 2, .int 2, .int 4])) nlp.1.symm
        obtain ⟨x, ex, hx⟩ : ∃ x : Int, atI [V.int 2, V.int 2, V.int 4] e = some (.int x) ∧ (x = 2 ∨ x = 4) := by
          have : e = 0 ∨ e = 1 ∨ e = 2 := by omega
          rcases this with rfl | rfl | rfl
          · exact ⟨2, rfl, .inl rfl⟩
          · exact ⟨2, rfl, .inl rfl⟩
          · exact ⟨4, rfl, .inr rfl⟩
        refine ⟨l, _, e, .int x, rfl, rfl, SqL.of hl5, ex, p, c, x, rfl, hP5, by omega, by omega, fun v H6 v0 v1 k6 hP6 => ?_⟩
        refine ⟨.ref p, rfl, .int h', rfl, h', 1, rfl, rfl, p, c, h' + 1, rfl, hP6, by omega, by omega, fun u H7 u0 u1 k7 hP7 => ⟨by show 2 ≤ sizeLine; decide, fun t nt => ?_⟩⟩
        have B7 := (B5.draw k6 hP6).draw k7 hP7
        have B8 := B7.new (o := .tup [.int v, .int u]) nt
        obtain ⟨vs, hk, ht⟩ := B8.kin
        have lv : vs.length = ks.length := ht.msgs_len
        refine ⟨kl, vs, .ref t, rfl, rfl, hk, small1000 (by omega), _, ks ++ [(v, u)], rfl, B8.push hk ht (TD.ofPair upd_same), kinds_push hks (by omega) v0 (by show v ≤ 3; omega) u0 (by show u ≤ 3; omega), by rw [List.length_append, lk]; rfl⟩
      · rintro σ H3 ⟨y, ks, rfl, B, hks, lk⟩
        exact ⟨y, ks, rfl, B, hks, by omega⟩
    rintro σ H1 ⟨y, ks, rfl, B, hks, lk⟩
    have kl6 := hks.len
    refine ⟨fun σ H' => ∃ (a1 a2 a3 a4 a5 : Option V) (R : List PRule), σ = [some (.ref p), some (.int w'), some (.int st), some (.int h'), some (.ref kl), some (.ref rl), y, a1, a2, a3, a4, a5] ∧ PB H H' p c kl rl ks R ∧ RB w' ks R 72, ?_, ?_⟩
    · obtain ⟨vs, hk, ht⟩ := B.kin
      have lv : vs.length = ks.length := ht.msgs_len
      refine ⟨.ref kl, rfl, kl, _, rfl, .inl (SqL.of hk), (vs.length : Int), rfl, by omega, by omega, ?_⟩
      rw [Int.toNat_natCast]
      refine for_range (n := vs.length) (fun i σ H' => ∃ (a1 a2 a3 a4 a5 : Option V) (R : List PRule), σ = [some (.ref p), some (.int w'), some (.int st), some (.int h'), some (.ref kl), some (.ref rl), y, a1, a2, a3, a4, a5] ∧ PB H H' p c kl rl ks R ∧ RB w' ks R (12 * i)) ?_ ?_ ?_
      · exact ⟨none, none, none, none, none, [], rfl, B, ⟨(fun _ z => by cases z), List.nodup_nil, Nat.le_refl _⟩⟩
      · rintro i σ H2 hi ⟨a1, a2, a3, a4, a5, R, rfl, B, hR⟩
        have ii0 : (0 : Int) ≤ 0 + (i : Int) := by omega
        have ii1 : 0 + (i : Int) < ks.length := by omega
        generalize 0 + (i : Int) = s at ii0 ii1 ⊢
        refine ⟨.int w', rfl, w', rfl, by omega, by omega, ?_⟩
        refine for_range (n := w'.toNat) (fun j σ H' => ∃ (a2 a3 a4 a5 : Option V) (R : List PRule), σ = [some (.ref p), some (.int w'), some (.int st), some (.int h'), some (.ref kl), some (.ref rl), y, some (.int s), a2, a3, a4, a5] ∧ PB H H' p c kl rl ks R ∧ RB w' ks R (12 * i + 4 * j)) ?_ ?_ ?_
        · exact ⟨a2, a3, a4, a5, R, rfl, B, hR⟩
        · rintro j σ H3 hj ⟨a2, a3, a4, a5, R, rfl, B, hR⟩
          have jj0 : (0 : Int) ≤ 0 + (j : Int) := by omega
          have jj1 : 0 + (j : Int) < w' := by omega
          generalize 0 + (j : Int) = wd at jj0 jj1 ⊢
          obtain ⟨vs, hk, ht⟩ := B.kin
          obtain ⟨a, v, ea, ha, em⟩ := kinds_at ht ii0 ii1
          have hu := kinds_bd hks.all em
          generalize hhu : heldAt ks s = u at ha em hu
          have hu0 : 0 ≤ u := hu.2.2.1
          have hu3 : u ≤ 3 := hu.2.2.2
          refine ⟨.ref kl, rfl, .int s, rfl, kl, vs, s, .ref a, rfl, rfl, SqL.of hk, ea, a, _, 1, .int u, rfl, rfl, SqT.of ha, atI_nat (j := 1) rfl, u, rfl, RgOk.of_le (by decide) (by omega) (by decide) hu0, fun l nl => ?_⟩
          have B1 := B.new (o := .lst (rgV 0 u)) nl
          have hl1 : (upd H3 l (.lst (rgV 0 u))) l = some (.lst (rgV 0 u)) := upd_same
          generalize upd H3 l (.lst (rgV 0 u)) = H4 at *
          refine ⟨by show 1 ≤ sizeLine; decide, fun b nb => ?_⟩
          have B2 := B1.new (o := .lst [.str "new"]) nb
          have hl2 := same_new nb (o := .lst [.str "new"]) _ _ hl1
          have hb2 : (upd H4 b (.lst [.str "new"])) b = some (.lst [.str "new"]) := upd_same
          generalize upd H4 b (.lst [.str "new"]) = H5 at *
          refine ⟨l, b, _, _, rfl, rfl, hl2, hb2, by rw [rgV_length]; exact Nat.le_of_lt (small1000 (by show (u - 0).toNat + 1 ≤ 1000; omega)), fun tl ntl => ?_⟩
          rw [testsOf_v]
          have B3 := B2.new (o := .lst ((testsOf u).map kV)) ntl
          have htl : (upd H5 tl (.lst ((testsOf u).map kV))) tl = some (.lst ((testsOf u).map kV)) := upd_same
          have ntl' := B2.pen.free ntl
          have ftl := B2.keep.free B2.pen.some' ntl
          have ntk : tl ≠ kl := fun e => by
            obtain ⟨vs, z, _⟩ := B2.kin
            rw [e] at ntl
            rw [ntl] at z
            cases z
          generalize upd H5 tl (.lst ((testsOf u).map kV)) = H6 at *
          refine ⟨tl, rfl, ⟨_, SqL.of htl⟩, ?_⟩
          refine for_list (xs := (testsOf u).map kV) (fun z σ H' => ∃ (a3 a4 a5 : Option V) (R : List PRule), σ = [some (.ref p), some (.int w'), some (.int st), some (.int h'), some (.ref kl), some (.ref rl), y, some (.int s), some (.int wd), a3, a4, a5] ∧ PB H H' p c kl rl ks R ∧ RB w' ks R (12 * i + 4 * j + z) ∧ H' tl = some (.lst ((testsOf u).map kV))) ?_ ?_ ?_ ?_
          · exact ⟨a3, a4, a5, R, rfl, B3, hR, htl⟩
          · rintro z σ H7 hz ⟨a3, a4, a5, R, rfl, B, hR, htl⟩
            exact SqL.of htl
          · rintro z x σ H7 hz ⟨a3, a4, a5, R, rfl, B, hR, htl⟩
            rw [List.getElem?_map] at hz
            obtain ⟨t, et, rfl⟩ := Option.map_eq_some_iff.mp hz
            have tok := testsOf_ok hu0 (List.mem_of_getElem? et)
            obtain ⟨vs, hk, ht⟩ := B.kin
            have lv : vs.length = ks.length := ht.msgs_len
            refine ⟨.ref p, rfl, .ref kl, rfl, kl, _, rfl, .inl (SqL.of hk), p, c, _, rfl, B.pen, by omega, by omega, fun tg H8 g0 g1 k8 hP8 => ?_⟩
            have B8 := B.draw k8 hP8
            have htl8 := k8 _ _ htl ntl'.1.symm
            obtain ⟨vs, hk, ht⟩ := B8.kin
            have g2 : tg < ks.length := by omega
            obtain ⟨a, v, ea, ha, em⟩ := kinds_at ht ii0 ii1
            rw [hhu] at ha em
            obtain ⟨a', v', ea', ha', em'⟩ := kinds_at ht g0 g2
            have hm := kinds_bd hks.all em'
            refine ⟨.ref p, rfl, .ref kl, rfl, .int s, rfl, kl, vs, s, .ref a, rfl, rfl, SqL.of hk, ea, a, _, 1, .int u, rfl, rfl, SqT.of ha, atI_nat (j := 1) rfl, kV t, rfl, .ref kl, rfl, .int tg, rfl, kl, vs, tg, .ref a', rfl, rfl, SqL.of hk, ea', a', _, 1, .int (heldAt ks tg), rfl, rfl, SqT.of ha', atI_nat (j := 1) rfl, p, c, u, heldAt ks tg, t, rfl, B8.pen, hu0, hu3, hm.2.2.1, hm.2.2.2, tok, fun v9 H9 k9 hP9 hv9 => ?_⟩
            have B9 := B8.draw k9 hP9
            have htl9 := k9 _ _ htl8 ntl'.1.symm
            rcases hv9 with rfl | ⟨sa, sk, rfl, hsa, sok⟩
            · refine ⟨.non, rfl, _, rfl, iteF ?_⟩
              exact ⟨_, _, _, R, rfl, B9, hR.le (by omega), htl9⟩
            · refine ⟨.ref sa, rfl, _, rfl, iteT ?_⟩
              refine ⟨.ref p, rfl, p, c, 5, rfl, B9.pen, by decide, by decide, fun g H10 _ _ k10 hP10 => ?_⟩
              have B10 := B9.draw k10 hP10
              have htl10 := k10 _ _ htl9 ntl'.1.symm
              have hsa10 := B9.pen.tups k10 _ _ hsa
              refine ⟨_, _, rfl, rfl, _, rfl, ite2 (fun _ => ?_) (fun _ => ?_)⟩
              · refine ⟨.int tg, rfl, .ref sa, rfl, by show 2 ≤ sizeLine; decide, fun r nr => ?_⟩
                have B11 := B10.new (o := .tup [.int tg, .ref sa]) nr
                have s11 : Same H10 (upd H10 r (.tup [.int tg, .ref sa])) := same_new nr
                have hr11 : (upd H10 r (.tup [.int tg, .ref sa])) r = some (.tup [.int tg, .ref sa]) := upd_same
                have htl11 := s11 _ _ htl10
                have hsa11 := s11 _ _ hsa10
                generalize upd H10 r (.tup [.int tg, .ref sa]) = H11 at *
                refine ⟨.ref rl, rfl, .int s, rfl, .int wd, rfl, kV t, rfl, by show 3 ≤ sizeLine; decide, fun kt nkt => ?_⟩
                have B12 := B11.new (o := .tup [.int s, .int wd, kV t]) nkt
                have s12 : Same H11 (upd H11 kt (.tup [.int s, .int wd, kV t])) := same_new nkt
                have hkt : (upd H11 kt (.tup [.int s, .int wd, kV t])) kt = some (.tup (([Sum.inl s, Sum.inl wd, t] : List Key).map kV)) := upd_same
                have htl12 := s12 _ _ htl11
                have hsa12 := s12 _ _ hsa11
                have hr12 := s12 _ _ hr11
                generalize upd H11 kt (.tup [.int s, .int wd, kV t]) = H12 at *
                obtain ⟨kvs, hrl, hkv⟩ := B12.rul
                have lkv : kvs.length = R.length := by
                  have := congrArg List.length hkv.keys
                  rw [List.length_map, rowsOf_keys, List.length_map] at this
                  exact this
                have hRl := hR.len
                have z4 : z < 4 := by
                  have := (List.getElem?_eq_some_iff.mp et).1
                  rw [testsOf_len] at this
                  omega
                have ntr : tl ≠ rl := ne_of htl12 hrl (fun z => nomatch z)
                refine ⟨rl, _, rfl, DPut.t (k := [Sum.inl s, Sum.inl wd, t]) hrl hkt (small1000 (by omega)), ?_⟩
                refine ⟨_, _, _, putP R [Sum.inl s, Sum.inl wd, t] (tg, sk), rfl, B12.rule hrl hkv (.tup hr12 (.cons (.int tg) (.cons (.tup hsa12 TDs.keys) .nil))), hR.put ⟨s, wd, t, rfl, ii0, ii1, jj0, jj1, by rw [hhu]; exact tok, g0, g2, by rw [hhu]; exact sok⟩, ?_⟩
                rw [upd_ne ntr]
                exact htl12
              · exact ⟨_, _, _, R, rfl, B10, hR.le (by omega), htl10⟩
          · rintro σ H7 ⟨a3, a4, a5, R, rfl, B, hR, htl⟩
            refine ⟨_, a3, a4, a5, R, rfl, B, hR.le ?_⟩
            rw [List.length_map, testsOf_len]
            omega
        · rintro σ H3 ⟨a2, a3, a4, a5, R, rfl, B, hR⟩
          exact ⟨_, a2, a3, a4, a5, R, rfl, B, hR.le (by omega)⟩
      · rintro σ H2 ⟨a1, a2, a3, a4, a5, R, rfl, B, hR⟩
        exact ⟨a1, a2, a3, a4, a5, R, rfl, B, hR.le (by omega)⟩
    rintro σ H2 ⟨a1, a2, a3, a4, a5, R, rfl, B, hR⟩
    refine ⟨.int w', rfl, .ref kl, rfl, .ref rl, rfl, by show 3 ≤ sizeLine; decide, fun l nl => ?_⟩
    have s3 : Same H2 (upd H2 l (.lst [.int w', .ref kl, .ref rl])) := same_new nl
    have fl := B.keep.free B.pen.some' nl
    obtain ⟨vs, hk, ht⟩ := B.kin
    obtain ⟨kvs, hr', hkv⟩ := B.rul
    exact q l kl rl ⟨w', ks, R⟩ _ rfl (B.keep.put fl) (B.pen.mono s3) fl B.fk B.fr ⟨upd_same, ⟨vs, s3 _ _ hk, ht.mono (Tups.same s3)⟩, ⟨kvs, s3 _ _ hr', hkv.mono (Tups.same s3)⟩⟩ ⟨⟨w1, w3⟩, hks, hR.ok, hR.nd, Nat.le_trans hR.len (by decide)⟩ lk
end

/-! ### rules in order -/
def lookR (R : Rows) (k : List Key) : PyData := ((R.find? fun p => decide (p.1 = k)).map (·.2)).getD .none
def rankK : List Key → List Int
  | [Sum.inl i, Sum.inl j, Sum.inl r] => [i, j, r]
  | [Sum.inl i, Sum.inl j, Sum.inr _] => [i, j, 3]
  | _ => [0, 0, 0]
theorem rankK_cons (k : List Key) : ∃ x r, rankK k = x :: r := by
  unfold rankK
  split <;> exact ⟨_, _, rfl⟩
theorem rankK_len (k : List Key) : (rankK k).length = 3 := by
  unfold rankK
  split <;> rfl
def sortR (R : Rows) : Rows := (srt rankK (R.map (·.1))).map fun k => (k, lookR R k)
theorem KvD.val {H : Hp} {kvs : List (List Key × V)} {R : Rows} {k : List Key} (h : KvD H kvs R) (hk : k ∈ R.map (·.1)) : ∃ v, valV kvs k = some v ∧ TD H v (lookR R k) := by
  induction h with
  | nil => cases hk
  | @cons a b l1 l2 ab _ ih =>
    unfold valV lookR
    by_cases e : a.1 = k
    · have e2 : b.1 = k := ab.1 ▸ e
      refine ⟨a.2, ?_, ?_⟩
      · rw [List.find?_cons_of_pos (by simpa using e)]
        rfl
      · rw [List.find?_cons_of_pos (by simpa using e2)]
        exact ab.2
    · have e2 : ¬ b.1 = k := ab.1 ▸ e
      rw [List.find?_cons_of_neg (by simpa using e), List.find?_cons_of_neg (by simpa using e2)]
      refine ih ?_
      rcases List.mem_cons.mp hk with z | z
      · exact absurd z.symm e2
      · exact z
theorem kvd_of {H : Hp} {kvs : List (List Key × V)} {R : Rows} (h : KvD H kvs R) : ∀ {ks : List (List Key)}, (∀ k ∈ ks, k ∈ R.map (·.1)) → KvD H (ks.map fun k => (k, (valV kvs k).getD .non)) (ks.map fun k => (k, lookR R k))
  | [], _ => .nil
  | k :: r, hk => by
    obtain ⟨v, e, t⟩ := h.val (hk k List.mem_cons_self)
    refine .cons ⟨rfl, ?_⟩ (kvd_of h fun x hx => hk x (List.mem_cons_of_mem _ hx))
    show TD H ((valV kvs k).getD .non) _
    rw [e]
    exact t
theorem srt_mem {rank : List Key → List Int} {ks : List (List Key)} {k : List Key} : k ∈ srt rank ks ↔ k ∈ ks := (List.mergeSort_perm ks _).mem_iff
theorem srt_nodup {rank : List Key → List Int} {ks : List (List Key)} (h : ks.Nodup) : (srt rank ks).Nodup := (List.mergeSort_perm ks _).nodup_iff.mpr h
theorem srt_len {rank : List Key → List Int} {ks : List (List Key)} : (srt rank ks).length = ks.length := (List.mergeSort_perm ks _).length_eq
theorem isKs_at {H : Hp} {ks : List (List Key)} {bs : List Addr} (h : IsKs H ks bs) : ∀ {i : Nat} {b : Addr}, bs[i]? = some b → ∃ k, ks[i]? = some k ∧ H b = some (.tup (k.map kV)) := by
  induction h with
  | nil => intro i b e; simp at e
  | cons a _ ih =>
    intro i b e
    cases i with
    | zero =>
      simp at e
      subst e
      exact ⟨_, rfl, a⟩
    | succ i =>
      obtain ⟨k, h1, h2⟩ := ih (i := i) (b := b) (by simpa using e)
      exact ⟨k, by simpa using h1, h2⟩
theorem valV_map_none {f : List Key → V} {ks : List (List Key)} {k : List Key} (h : k ∉ ks) : valV (ks.map fun k => (k, f k)) k = none := by
  unfold valV
  rw [List.find?_eq_none.mpr]
  · rfl
  · intro x hx
    obtain ⟨y, hy, rfl⟩ := List.mem_map.mp hx
    simp only [decide_eq_true_eq]
    rintro rfl
    exact h hy
/-- a watcher is asked -/
def sp_W_len (C : Addr) : Sp := fun us H Q _ => ∃ (x lv lh d : Addr) (n : Int) (vs hs : List Int) (R : Rows), us = [.ref x] ∧ WAt C H x lv lh d n vs hs R ∧ Q (.int vs.length) H
def sp_W_ver (C : Addr) : Sp := fun us H Q _ => ∃ (x lv lh d : Addr) (n : Int) (vs hs : List Int) (R : Rows), us = [.ref x] ∧ WAt C H x lv lh d n vs hs R ∧ ∀ t, H t = none → Q (.ref t) (upd H t (.tup (vs.map V.int)))
def sp_W_hel (C : Addr) : Sp := fun us H Q _ => ∃ (x lv lh d : Addr) (n : Int) (vs hs : List Int) (R : Rows), us = [.ref x] ∧ WAt C H x lv lh d n vs hs R ∧ ∀ t, H t = none → Q (.ref t) (upd H t (.tup (hs.map V.int)))
def sp_W_rules (C : Addr) : Sp := fun us H Q _ => ∃ (x lv lh d : Addr) (n : Int) (vs hs : List Int) (R : Rows), us = [.ref x] ∧ WAt C H x lv lh d n vs hs R ∧
  ∀ t H' kvs, Same H H' → H t = none → H' t = some (.dT kvs) → KvD H' kvs (sortR R) → Q (.ref t) H'

theorem kf_of {X : Cx} {f : Addr} {fd : FuncData} (F : Fun X.K "rule_order" "rule_order" s_rule_order f fd) (b : ∀ (s : Shared) (v : Value), BindsTo s fd ⟨[v], []⟩ [("rule", v)]) (pk : PartOk X.K X.mg) : KeyFn X f rankK RK := by
  refine ⟨fun s A a its k kin ns nl dp hd hk hv it => ?_, rankK_cons, fun a b => by rw [rankK_len, rankK_len]⟩
  obtain ⟨i, j, t, rfl, ht⟩ := hk
  obtain ⟨u0, us, rfl, r0, hv⟩ : ∃ u0 us, its = u0 :: us ∧ RelV (.int i) u0 ∧ Vals [.int j, kV t] us := by
    cases hv with
    | cons r rr => exact ⟨_, _, rfl, r, rr⟩
  obtain ⟨u1, u2, rfl, r1, r2⟩ := vals2 hv
  obtain ⟨t0, rfl⟩ := r0
  obtain ⟨t1, rfl⟩ := r1
  rcases ht with ⟨r, rfl⟩ | rfl
  · obtain ⟨t2, rfl⟩ := r2
    exact order_key F b pk kin ns nl dp hd it (.inl ⟨t2, rfl⟩)
  · obtain ⟨t2, rfl⟩ := r2
    exact order_key F b pk kin ns nl dp hd it (.inr ⟨⟨t2, rfl⟩, rfl⟩)

section
variable {P : Program} {w : World} {K : PySem.W.Frag} {mg : Str → Option Value} {base : Heap}
abbrev N_Watcher_len : List Str := ["self"]
theorem sc_Watcher_len : FnScope N_Watcher_len ["self"] (defScope s_Watcher_len) := ⟨rfl, rfl, rfl, by decide +kernel, rfl, by decide +kernel, by decide +kernel⟩
theorem ok_Watcher_len {f C : Addr} {fd : FuncData} {k : Nat} (F : Fun K "__len__" "Watcher.__len__" s_Watcher_len f fd) (W : WCls K C) (m_len : mg "len" = none) : FnG P w K mg base CX0 (k + 1) f fd ["self"] (sp_W_len C) := by
  refine okG F sc_Watcher_len (fun vs H Q E h => ?_) (fun cdv A outer s H vs Q E gd hr h => ?_)
  · obtain ⟨x, lv, lh, d, n, vs, hs, R, rfl, _⟩ := h
    rfl
  · obtain ⟨x, lv, lh, d, n, vs, hs, R, rfl, hW, q⟩ := h
    refine ⟨_, 
      (pss_one (ps_ret (pe_callB call_len_seq (by rfl) m_len PySem.boot_len (pa_cons (pe_fld (pv 0) rfl) pa_nil)))) -- return len(self._verdicts)
       , ?_⟩
    obtain ⟨dx, hx⟩ := hW.ins
    refine ⟨.ref x, rfl, x, C, dx, _, .ref lv, rfl, hx, W.cl, W.n2, rfl, lv, _, rfl, .inl (SqL.of hW.ver), ?_⟩
    rw [List.length_map]
    exact q
end

section
variable {P : Program} {w : World} {K : PySem.W.Frag} {mg : Str → Option Value} {base : Heap}
abbrev N_Watcher_verdicts : List Str := ["self"]
theorem sc_Watcher_verdicts : FnScope N_Watcher_verdicts ["self"] (defScope s_Watcher_verdicts) := ⟨rfl, rfl, rfl, by decide +kernel, rfl, by decide +kernel, by decide +kernel⟩
theorem ok_Watcher_verdicts {f C : Addr} {fd : FuncData} {k : Nat} (F : Fun K "verdicts" "Watcher.verdicts" s_Watcher_verdicts f fd) (W : WCls K C) (m_tuple : mg "tuple" = none) : FnG P w K mg base CX0 (k + 1) f fd ["self"] (sp_W_ver C) := by
  refine okG F sc_Watcher_verdicts (fun vs H Q E h => ?_) (fun cdv A outer s H vs Q E gd hr h => ?_)
  · obtain ⟨x, lv, lh, d, n, vs, hs, R, rfl, _⟩ := h
    rfl
  · obtain ⟨x, lv, lh, d, n, vs, hs, R, rfl, hW, q⟩ := h
    refine ⟨_, 
      (pss_one (ps_ret (pe_callTy call_tuple_of (by rfl) m_tuple (by decide +kernel) (pa_cons (pe_fld (pv 0) rfl) pa_nil)))) -- return tuple(self._verdicts)
       , ?_⟩
    obtain ⟨dx, hx⟩ := hW.ins
    exact ⟨.ref x, rfl, x, C, dx, _, .ref lv, rfl, hx, W.cl, W.n2, rfl, lv, _, rfl, .inl ⟨SqL.of hW.ver, q⟩⟩
end

section
variable {P : Program} {w : World} {K : PySem.W.Frag} {mg : Str → Option Value} {base : Heap}
abbrev N_Watcher_held_counts : List Str := ["self"]
theorem sc_Watcher_held_counts : FnScope N_Watcher_held_counts ["self"] (defScope s_Watcher_held_counts) := ⟨rfl, rfl, rfl, by decide +kernel, rfl, by decide +kernel, by decide +kernel⟩
theorem ok_Watcher_held_counts {f C : Addr} {fd : FuncData} {k : Nat} (F : Fun K "held_counts" "Watcher.held_counts" s_Watcher_held_counts f fd) (W : WCls K C) (m_tuple : mg "tuple" = none) : FnG P w K mg base CX0 (k + 1) f fd ["self"] (sp_W_hel C) := by
  refine okG F sc_Watcher_held_counts (fun vs H Q E h => ?_) (fun cdv A outer s H vs Q E gd hr h => ?_)
  · obtain ⟨x, lv, lh, d, n, vs, hs, R, rfl, _⟩ := h
    rfl
  · obtain ⟨x, lv, lh, d, n, vs, hs, R, rfl, hW, q⟩ := h
    refine ⟨_, 
      (pss_one (ps_ret (pe_callTy call_tuple_of (by rfl) m_tuple (by decide +kernel) (pa_cons (pe_fld (pv 0) rfl) pa_nil)))) -- return tuple(self._held)
       , ?_⟩
    obtain ⟨dx, hx⟩ := hW.ins
    exact ⟨.ref x, rfl, x, C, dx, _, .ref lh, rfl, hx, W.cl, W.n3, rfl, lh, _, rfl, .inl ⟨SqL.of hW.hel, q⟩⟩
end

section
variable {P : Program} {w : World} {K : PySem.W.Frag} {mg : Str → Option Value} {base : Heap}
abbrev N_Watcher_rules : List Str := ["self", "rule"]
theorem sc_Watcher_rules : FnScope N_Watcher_rules ["self"] (defScope s_Watcher_rules) := ⟨rfl, rfl, rfl, by decide +kernel, rfl, by decide +kernel, by decide +kernel⟩
theorem ok_Watcher_rules {f C f_rule_order : Addr} {fd fd_rule_order : FuncData} (F : Fun K "rules" "Watcher.rules" s_Watcher_rules f fd) (F_rule_order : Fun K "rule_order" "rule_order" s_rule_order f_rule_order fd_rule_order) (b_rule_order : ∀ (s : Shared) (v : Value), BindsTo s fd_rule_order ⟨[v], []⟩ [("rule", v)])
    (g_rule_order : mg "rule_order" = some (.ref f_rule_order)) (pk : PartOk K mg) (W : WCls K C) (m_sorted : mg "sorted" = none) : FnG P w K mg base CX0 2 f fd ["self"] (sp_W_rules C) := by
  refine okG F sc_Watcher_rules (fun vs H Q E h => ?_) (fun cdv A outer s H vs Q E gd hr h => ?_)
  · obtain ⟨x, lv, lh, d, n, vs, hs, R, rfl, _⟩ := h
    rfl
  · obtain ⟨x, lv, lh, d, n, vs, hs, R, rfl, hW, q⟩ := h
    have KF : KeyFn (cxOf CX0 P w K mg base N_Watcher_rules "Watcher.rules" (defScope s_Watcher_rules) f cdv A outer s H E).nox f_rule_order rankK RK := kf_of F_rule_order b_rule_order pk
    refine ⟨_, 
      (pss_one (ps_ret (pe_dcT (own := [("rule", 1)]) (g := gName 1) rfl sc_Watcher_rules.nd (hu_of hr) (pi_list (pe_callBK (call_sortT rfl hr KF) (by rfl) m_sorted PyProof.Rows.boot_sorted (pa_cons (pe_fld (pv 0) rfl) pa_nil) (pk_cons (pe_glob (v := .ref f_rule_order) rfl g_rule_order rfl) pk_nil))) (blkOk_by (N := N_Watcher_rules) (sc := defScope s_Watcher_rules) (by decide +kernel)) (fun _ _ _ _ _ => (pg_name (i := 1) sc_Watcher_rules.nd rfl (.inl rfl))) (fun _ _ _ _ _ => pts_nil) (fun _ _ _ _ _ => (pv 1)) (fun _ _ _ _ _ => (show PE _ _ (tDGet (tFld K (tVar 0) "_rules") (tVar 1)) from (pe_dget (hu_of hr) (pe_fld (pv 0) rfl) (pv 1) (fun _ _ => rfl))))))) -- return {rule: self._rules[rule] for rule in sorted(self._rules, key=rule_order)}
       , ?_⟩
    obtain ⟨dx, hx⟩ := hW.ins
    obtain ⟨kvs, hd, hkv⟩ := hW.rul
    have ek := hkv.keys
    refine ⟨.ref x, rfl, x, C, dx, _, .ref d, rfl, hx, W.cl, W.n4, rfl, d, kvs, rfl, rfl, hd, by rw [ek]; exact hW.rk, fun p bs np isk => ?_⟩
    rw [ek] at isk
    refine ⟨p, rfl, ⟨_, SqL.of upd_same⟩, fun D nD => ?_⟩
    have sp_ : Same H (upd H p (.lst (bs.map V.ref))) := same_new np
    have hp0 : upd H p (.lst (bs.map V.ref)) p = some (.lst (bs.map V.ref)) := upd_same
    have nDH := sp_.free nD
    generalize upd H p (.lst (bs.map V.ref)) = H0 at sp_ hp0 nD
    have nds := srt_nodup (rank := rankK) hW.nd
    have lk : (srt rankK (R.map (·.1))).length ≤ 1000 := by rw [srt_len, List.length_map]; exact hW.len.2.2
    refine dcT_list (K := K) (a := p) (xs := bs.map V.ref) (fun i H' => Same H0 H' ∧ H' D = some (.dT (((srt rankK (R.map (·.1))).take i).map fun k => (k, (valV kvs k).getD .non)))) ?_ ?_ ?_ ?_
    · exact ⟨same_new nD, upd_same⟩
    · rintro i H' ⟨sm, hD⟩
      exact SqL.of (sm _ _ hp0)
    · rintro i y H' hi ⟨sm, hD⟩
      rw [List.getElem?_map] at hi
      obtain ⟨b, hb, rfl⟩ := Option.map_eq_some_iff.mp hi
      obtain ⟨k, ek2, hbk⟩ := isKs_at isk hb
      have hkR : k ∈ R.map (·.1) := srt_mem.mp (List.mem_of_getElem? ek2)
      obtain ⟨v, ev, tv⟩ := hkv.val hkR
      have hb' := sm _ _ (sp_ _ _ hbk)
      refine ⟨rfl, .ref b, rfl, .ref x, rfl, x, C, dx, _, .ref d, rfl, sm _ _ (sp_ _ _ hx), W.cl, W.n4, rfl, .ref b, rfl, d, v, rfl, ?_, ?_⟩
      · have g := DGet.t (k := k) (sm _ _ (sp_ _ _ hd)) hb'
        rw [ev] at g
        exact g
      · have kn : k ∉ (srt rankK (R.map (·.1))).take i := by
          intro z
          obtain ⟨j, hj, e⟩ := List.getElem_of_mem z
          rw [List.length_take] at hj
          rw [List.getElem_take] at e
          have hii := (List.getElem?_eq_some_iff.mp ek2).1
          have e2 := (List.getElem?_eq_some_iff.mp ek2).2
          exact absurd (e.trans e2.symm) (List.pairwise_iff_getElem.mp nds j i (by omega) hii (by omega))
        refine ⟨_, k, b, rfl, hb', hD, by rw [List.length_map, List.length_take]; exact small1000 (by omega), fun c o e => ?_, ?_⟩
        · have : c ≠ D := ne_of_none e nD
          rw [upd_ne this]
          exact sm _ _ e
        · rw [upd_same, putK_new _ (valV_map_none kn), List.take_add_one, ek2, List.map_append]
          show some (HO.dT (_ ++ [(k, v)])) = some (HO.dT (_ ++ [(k, (valV kvs k).getD .non)]))
          rw [ev]
          rfl
    · rintro H' ⟨sm, hD⟩
      have lb : (bs.map V.ref).length = (srt rankK (R.map (·.1))).length := by rw [List.length_map]; exact (Paired.length isk).symm
      rw [lb, List.take_length] at hD
      refine q D H' _ (fun b o e => sm _ _ (sp_ _ _ e)) nDH hD ?_
      exact kvd_of (KvD.mono (Tups.same fun b o e => sm _ _ (sp_ _ _ e)) hkv) fun k hk => srt_mem.mp hk
end

/-! ### the parts of rules; states are added -/
theorem passNo {X : Cx} : Passes (L2.CX X.prog X.w) X fun _ _ _ => False := L2.passes_call (W := fun _ _ _ _ => False) L2.takes_none5 (fun _ _ _ _ h => h)
def sp_require_verdict (C : Addr) : Sp := fun us H Q E => ∃ (p : Addr) (v : V) (d : PyData), us = [v] ∧ LD p H v d ∧ (btw d 0 3 = true → Q .non H) ∧ (btw d 0 3 = false → ∀ e, H e = none → E (.ref C) (some e) (upd H e (.xd [(("verdict" : Str), v)])))
def sp_require_state (C CU : Addr) : Sp := fun us H Q E => ∃ (x lv lh d : Addr) (n : Int) (vs hs : List Int) (R : Rows) (p : Addr) (v : V) (dd : PyData), us = [.ref x, v] ∧ WAt C H x lv lh d n vs hs R ∧ LD p H v dd ∧
  (btw dd 0 ((vs.length : Int) - 1) = true → Q .non H) ∧ (btw dd 0 ((vs.length : Int) - 1) = false → ∀ e, H e = none → E (.ref CU) (some e) (upd H e (.xd [(("state" : Str), v)])))
def isTest (d : PyData) (h : Int) : Bool := isStrD d "new" || btw d 0 (h - 1)
def sp_is_test : Sp := fun us H Q _ => ∃ (p : Addr) (v : V) (d : PyData) (h : Int), us = [v, .int h] ∧ LD p H v d ∧ isDctD d = false ∧ Q (.bl (isTest d h)) H
def sp_no_sources : Sp := fun us H Q _ => ∃ (a : Addr) (wn h : Int) (t : V), us = [.ref a, .int wn, .int h, t] ∧ H a = some (.tup []) ∧ Q (.bl (decide (wn = 0))) H
def sp_add_state (C CV CL : Addr) : Sp := fun us H Q E => ∃ (x lv lh d : Addr) (n : Int) (vs hs : List Int) (R : Rows) (p : Addr) (v1 v2 : V) (d1 d2 : PyData), us = [.ref x, v1, v2] ∧ WAt C H x lv lh d n vs hs R ∧ LD p H v1 d1 ∧ LD p H v2 d2 ∧
  (btw d1 0 3 = false → ∀ e, H e = none → E (.ref CV) (some e) (upd H e (.xd [(("verdict" : Str), v1)]))) ∧
  (btw d1 0 3 = true → btw d2 0 3 = false → ∀ e, H e = none → E (.ref CL) (some e) (upd H e (.xd [(("limit" : Str), .int 3)]))) ∧
  (btw d1 0 3 = true → btw d2 0 3 = true → vs.length = 6 → ∀ e, H e = none → E (.ref CL) (some e) (upd H e (.xd [(("limit" : Str), .int 6)]))) ∧
  (∀ a b, d1 = .int a → d2 = .int b → btw d1 0 3 = true → btw d2 0 3 = true → vs.length < 6 → ∀ H', (∀ c o, H c = some o → c ≠ lv → c ≠ lh → H' c = some o) → WAt C H' x lv lh d n (vs ++ [a]) (hs ++ [b]) R → Q (.int vs.length) H')

section
variable {P : Program} {w : World} {K : PySem.W.Frag} {mg : Str → Option Value} {base : Heap}
abbrev N_require_verdict : List Str := ["verdict"]
theorem sc_require_verdict : FnScope N_require_verdict ["verdict"] (defScope s_require_verdict) := ⟨rfl, rfl, rfl, by decide +kernel, rfl, by decide +kernel, by decide +kernel⟩
theorem ok_require_verdict {f f_is_between C iC : Addr} {fd fd_is_between : FuncData} {t3 : Tok} (F : Fun K "require_verdict" "require_verdict" s_require_verdict f fd) (F_is_between : Fun K "is_between" "is_between" s_is_between f_is_between fd_is_between) (b_is_between : Binds K fd_is_between ["value", "low", "high"] [])
    (g_is_between : mg "is_between" = some (.ref f_is_between)) (G_is_between : FnG P w K mg base CX0 2 f_is_between fd_is_between ["value", "low", "high"] sp_is_between) (T_NotAVerdict : L2.ErrOk OwnE.bVE "NotAVerdict" "verdict" "NotAVerdict.__init__" K mg C iC) (g_MOST_VERDICT : mg "MOST_VERDICT" = some (.int 3 t3)) :
    FnG P w K mg base (L2.CX P w) 3 f fd ["verdict"] (sp_require_verdict C) := by
  refine okGX F sc_require_verdict (fun vs H Q E h => ?_) (fun cdv A outer s H vs Q E gd hr h => ?_)
  · obtain ⟨p, v, d, rfl, _⟩ := h
    rfl
  · obtain ⟨p, v, d, rfl, hv, q1, q2⟩ := h
    have hr1 : Room 1 _ := hr.mono (by decide)
    refine ⟨_, 
      (pss_one (ps_if (pt_not (pt_val (pe_callG G_is_between gd (hr.mono (by decide)) rfl g_is_between F_is_between.kp b_is_between .nil pass0 (pa_cons (pv 0) (pa_cons pe_int (pa_cons (pe_glob (v := .int 3) rfl g_MOST_VERDICT ⟨_, rfl⟩) pa_nil)))))) 
        (pss_one (L2.ps_raiseE (W := fun cls d _ H => E cls d H) rfl T_NotAVerdict hr1 (takes_of rfl rfl rfl rfl) (by exact (pa_cons (pv 0) pa_nil)))) -- raise NotAVerdict(verdict)
         pss_nil)) -- if not is_between(verdict, 0, MOST_VERDICT):
       , ?_⟩
    refine ⟨v, rfl, p, v, d, 0, 3, rfl, hv, _, rfl, ?_⟩
    cases hb : btw d 0 3 with
    | false => exact ⟨v, rfl, v, rfl, fun e he => q2 hb e he⟩
    | true => exact q1 hb
end

section
variable {P : Program} {w : World} {K : PySem.W.Frag} {mg : Str → Option Value} {base : Heap}
abbrev N_Watcher_require_state : List Str := ["self", "state"]
theorem sc_Watcher_require_state : FnScope N_Watcher_require_state ["self", "state"] (defScope s_Watcher_require_state) := ⟨rfl, rfl, rfl, by decide +kernel, rfl, by decide +kernel, by decide +kernel⟩
theorem ok_require_state {f f_is_between C CU iU : Addr} {fd fd_is_between : FuncData} (F : Fun K "require_state" "Watcher.require_state" s_Watcher_require_state f fd) (F_is_between : Fun K "is_between" "is_between" s_is_between f_is_between fd_is_between) (b_is_between : Binds K fd_is_between ["value", "low", "high"] [])
    (g_is_between : mg "is_between" = some (.ref f_is_between)) (G_is_between : FnG P w K mg base CX0 2 f_is_between fd_is_between ["value", "low", "high"] sp_is_between) (T_UnknownState : L2.ErrOk OwnE.bLE "UnknownState" "state" "UnknownState.__init__" K mg CU iU) (W : WCls K C) (m_len : mg "len" = none) :
    FnG P w K mg base (L2.CX P w) 3 f fd ["self", "state"] (sp_require_state C CU) := by
  refine okGX F sc_Watcher_require_state (fun vs H Q E h => ?_) (fun cdv A outer s H vs Q E gd hr h => ?_)
  · obtain ⟨x, lv, lh, d, n, vs, hs, R, p, v, dd, rfl, _⟩ := h
    rfl
  · obtain ⟨x, lv, lh, d, n, vs, hs, R, p, v, dd, rfl, hW, hv, q1, q2⟩ := h
    have hr1 : Room 1 _ := hr.mono (by decide)
    refine ⟨_, 
      (pss_one (ps_if (pt_not (pt_val (pe_callG G_is_between gd (hr.mono (by decide)) rfl g_is_between F_is_between.kp b_is_between .nil pass0 (pa_cons (pv 1) (pa_cons pe_int (pa_cons (pe_op op_sub (pe_callB call_len_seq (by rfl) m_len PySem.boot_len (pa_cons (pe_fld (pv 0) rfl) pa_nil)) pe_int) pa_nil)))))) 
        (pss_one (L2.ps_raiseE (W := fun cls d _ H => E cls d H) rfl T_UnknownState hr1 (takes_of rfl rfl rfl rfl) (by exact (pa_cons (pv 1) pa_nil)))) -- raise UnknownState(state)
         pss_nil)) -- if not is_between(state, 0, len(self._verdicts) - 1):
       , ?_⟩
    obtain ⟨dx, hx⟩ := hW.ins
    refine ⟨v, rfl, .ref x, rfl, x, C, dx, _, .ref lv, rfl, hx, W.cl, W.n2, rfl, lv, _, rfl, .inl (SqL.of hW.ver), _, 1, rfl, rfl, p, v, dd, 0, _, rfl, hv, _, rfl, ?_⟩
    rw [List.length_map]
    cases hb : btw dd 0 ((vs.length : Int) - 1) with
    | false => exact ⟨v, rfl, v, rfl, fun e he => q2 hb e he⟩
    | true => exact q1 hb
end

section
variable {P : Program} {w : World} {K : PySem.W.Frag} {mg : Str → Option Value} {base : Heap}
abbrev N_is_test : List Str := ["test", "held"]
theorem sc_is_test : FnScope N_is_test ["test", "held"] (defScope s_is_test) := ⟨rfl, rfl, rfl, by decide +kernel, rfl, by decide +kernel, by decide +kernel⟩
theorem ok_is_test {f f_is_between : Addr} {fd fd_is_between : FuncData} {tN : Tok} (F : Fun K "is_test" "is_test" s_is_test f fd) (F_is_between : Fun K "is_between" "is_between" s_is_between f_is_between fd_is_between) (b_is_between : Binds K fd_is_between ["value", "low", "high"] [])
    (g_is_between : mg "is_between" = some (.ref f_is_between)) (G_is_between : FnG P w K mg base CX0 2 f_is_between fd_is_between ["value", "low", "high"] sp_is_between) (g_NEW : mg "NEW" = some (.str "new" tN)) : FnG P w K mg base CX0 3 f fd ["test", "held"] sp_is_test := by
  refine okG F sc_is_test (fun vs H Q E h => ?_) (fun cdv A outer s H vs Q E gd hr h => ?_)
  · obtain ⟨p, v, d, h', rfl, _⟩ := h
    rfl
  · obtain ⟨p, v, d, h', rfl, hv, nd, q⟩ := h
    refine ⟨_, 
      (pss_one (ps_ret (pe_or (pe_cmpR (op_eqS hr.units) (pv 0) (pe_glob (v := .str "new") rfl g_NEW ⟨_, rfl⟩) (nomark _)) (pe_one (pe_callG G_is_between gd (hr.mono (by decide)) rfl g_is_between F_is_between.kp b_is_between .nil pass0 (pa_cons (pv 0) (pa_cons pe_int (pa_cons (pe_op op_sub (pv 1) pe_int) pa_nil)))))))) -- return test == NEW or is_between(test, 0, held - 1)
       , ?_⟩
    refine ⟨v, rfl, p, d, "new", hv, nd, rfl, _, rfl, ?_⟩
    unfold isTest at q
    cases hb : isStrD d "new" with
    | true =>
      rw [hb] at q
      exact q
    | false =>
      rw [hb] at q
      exact ⟨v, rfl, .int h', rfl, h', 1, rfl, rfl, p, v, d, 0, h' - 1, rfl, hv, q⟩
end

section
variable {P : Program} {w : World} {K : PySem.W.Frag} {mg : Str → Option Value} {base : Heap}
abbrev N_Watcher_add_state : List Str := ["self", "verdict", "held"]
theorem sc_Watcher_add_state : FnScope N_Watcher_add_state ["self", "verdict", "held"] (defScope s_Watcher_add_state) := ⟨rfl, rfl, rfl, by decide +kernel, rfl, by decide +kernel, by decide +kernel⟩
theorem ok_Watcher_add_state {f f_is_between f_require_verdict C CV CL iL : Addr} {fd fd_is_between fd_require_verdict : FuncData} {t3 t6 : Tok} (F : Fun K "add_state" "Watcher.add_state" s_Watcher_add_state f fd) (F_is_between : Fun K "is_between" "is_between" s_is_between f_is_between fd_is_between) (b_is_between : Binds K fd_is_between ["value", "low", "high"] [])
    (g_is_between : mg "is_between" = some (.ref f_is_between)) (G_is_between : FnG P w K mg base CX0 2 f_is_between fd_is_between ["value", "low", "high"] sp_is_between) (F_require_verdict : Fun K "require_verdict" "require_verdict" s_require_verdict f_require_verdict fd_require_verdict) (b_require_verdict : Binds K fd_require_verdict ["verdict"] [])
    (g_require_verdict : mg "require_verdict" = some (.ref f_require_verdict)) (G_require_verdict : FnG P w K mg base (L2.CX P w) 3 f_require_verdict fd_require_verdict ["verdict"] (sp_require_verdict CV)) (T_LimitExceeded : L2.ErrOk OwnE.bOE "LimitExceeded" "limit" "LimitExceeded.__init__" K mg CL iL)
    (g_MOST_HELD : mg "MOST_HELD" = some (.int 3 t3)) (g_MOST_STATES : mg "MOST_STATES" = some (.int 6 t6)) (W : WCls K C) (m_len : mg "len" = none) : FnG P w K mg base (L2.CX P w) 4 f fd ["self", "verdict", "held"] (sp_add_state C CV CL) := by
  refine okGX F sc_Watcher_add_state (fun vs H Q E h => ?_) (fun cdv A outer s H vs Q E gd hr h => ?_)
  · obtain ⟨x, lv, lh, d, n, vs, hs, R, p, v1, v2, d1, d2, rfl, _⟩ := h
    rfl
  · obtain ⟨x, lv, lh, d, n, vs, hs, R, p, v1, v2, d1, d2, rfl, hW, h1, h2, q1, q2, q3, q4⟩ := h
    have hr1 : Room 1 _ := hr.mono (by decide)
    refine ⟨_, 
      (pss_cons (ps_expr (pe_callG G_require_verdict gd (hr.mono (by decide)) rfl g_require_verdict F_require_verdict.kp b_require_verdict .nil (L2.passes_call (W := fun cls d _ H => E cls d H) (takes_of rfl rfl rfl rfl) (fun _ _ _ _ h => h)) (pa_cons (pv 1) pa_nil))) -- require_verdict(verdict)
      (pss_cons (ps_if (pt_not (pt_val (pe_callG G_is_between gd (hr.mono (by decide)) rfl g_is_between F_is_between.kp b_is_between .nil pass0 (pa_cons (pv 2) (pa_cons pe_int (pa_cons (pe_glob (v := .int 3) rfl g_MOST_HELD ⟨_, rfl⟩) pa_nil)))))) 
        (pss_one (L2.ps_raiseE (W := fun cls d _ H => E cls d H) rfl T_LimitExceeded hr1 (takes_of rfl rfl rfl rfl) (by exact (pa_cons (pe_glob (v := .int 3) rfl g_MOST_HELD ⟨_, rfl⟩) pa_nil)))) -- raise LimitExceeded(MOST_HELD)
         pss_nil) -- if not is_between(held, 0, MOST_HELD):
      (pss_cons (ps_if (pt_cmpR op_eq (pe_callB call_len_seq (by rfl) m_len PySem.boot_len (pa_cons (pe_fld (pv 0) rfl) pa_nil)) (pe_glob (v := .int 6) rfl g_MOST_STATES ⟨_, rfl⟩) (nomark _)) 
        (pss_one (L2.ps_raiseE (W := fun cls d _ H => E cls d H) rfl T_LimitExceeded hr1 (takes_of rfl rfl rfl rfl) (by exact (pa_cons (pe_glob (v := .int 6) rfl g_MOST_STATES ⟨_, rfl⟩) pa_nil)))) -- raise LimitExceeded(MOST_STATES)
         pss_nil) -- if len(self._verdicts) == MOST_STATES:
      (pss_cons (ps_expr (pe_bm PySem.F.plainAttrs_list PySem.F.slot_list_append PySem.F.type_list_append mt_append (pe_fld (pv 0) rfl) (pa_cons (pv 1) pa_nil))) -- self._verdicts.append(verdict)
      (pss_cons (ps_expr (pe_bm PySem.F.plainAttrs_list PySem.F.slot_list_append PySem.F.type_list_append mt_append (pe_fld (pv 0) rfl) (pa_cons (pv 2) pa_nil))) -- self._held.append(held)
      (pss_one (ps_ret (pe_op op_sub (pe_callB call_len_seq (by rfl) m_len PySem.boot_len (pa_cons (pe_fld (pv 0) rfl) pa_nil)) pe_int))) -- return len(self._verdicts) - 1
      ))))) , ?_⟩
    obtain ⟨dx, hx⟩ := hW.ins
    have hv := hW.ver
    have hh := hW.hel
    have ne := hW.ne
    have ll := hW.len
    refine ⟨v1, rfl, p, v1, d1, rfl, h1, fun o1 => ?_, q1⟩
    refine ⟨v2, rfl, p, v2, d2, 0, 3, rfl, h2, _, rfl, ?_⟩
    cases hb : btw d2 0 3 with
    | false => exact ⟨.int 3, rfl, fun e he => q2 o1 hb e he⟩
    | true =>
      refine ⟨.ref x, rfl, x, C, dx, _, .ref lv, rfl, hx, W.cl, W.n2, rfl, lv, _, rfl, .inl (SqL.of hv), rfl, _, rfl, ?_⟩
      rw [List.length_map]
      by_cases h6 : vs.length = 6
      · rw [h6]
        exact ⟨.int 6, rfl, fun e he => q3 o1 hb h6 e he⟩
      · have h6' : ¬ (V.int ((vs.length : Nat) : Int)) = V.int 6 := fun z => h6 (by have := V.int.inj z; omega)
        rw [decide_eq_false h6']
        obtain ⟨a, rfl, _⟩ := btw_int o1
        obtain ⟨b, rfl, _⟩ := btw_int hb
        cases h1
        cases h2
        have xv : x ≠ lv := ne_of hx hv (fun z => nomatch z)
        have xh : x ≠ lh := ne_of hx hh (fun z => nomatch z)
        refine ⟨.ref x, rfl, x, C, dx, _, .ref lv, rfl, hx, W.cl, W.n2, rfl, .inl ⟨rfl, _, SqL.of hv⟩, .int a, rfl, lv, _, .int a, rfl, rfl, hv, by rw [List.length_map]; exact small1000 (by omega), ?_⟩
        have hx1 : upd H lv (.lst (vs.map V.int ++ [V.int a])) x = some (.ins C dx (wf n lv lh d)) := by rw [upd_ne xv]; exact hx
        have hh1 : upd H lv (.lst (vs.map V.int ++ [V.int a])) lh = some (.lst (hs.map V.int)) := by rw [upd_ne ne.symm]; exact hh
        refine ⟨.ref x, rfl, x, C, dx, _, .ref lh, rfl, hx1, W.cl, W.n3, rfl, .inl ⟨rfl, _, SqL.of hh1⟩, .int b, rfl, lh, _, .int b, rfl, rfl, hh1, by rw [List.length_map]; exact small1000 (by omega), ?_⟩
        have hx2 : upd (upd H lv (.lst (vs.map V.int ++ [V.int a]))) lh (.lst (hs.map V.int ++ [V.int b])) x = some (.ins C dx (wf n lv lh d)) := by rw [upd_ne xh]; exact hx1
        have hv2 : upd (upd H lv (.lst (vs.map V.int ++ [V.int a]))) lh (.lst (hs.map V.int ++ [V.int b])) lv = some (.lst (vs.map V.int ++ [V.int a])) := by rw [upd_ne ne]; exact upd_same
        refine ⟨.ref x, rfl, x, C, dx, _, .ref lv, rfl, hx2, W.cl, W.n2, rfl, lv, _, rfl, .inl (SqL.of hv2), _, 1, rfl, rfl, ?_⟩
        have el : (((vs.map V.int ++ [V.int a]).length : Nat) : Int) - 1 = (vs.length : Int) := by
          rw [List.length_append, List.length_map]
          show ((vs.length + 1 : Nat) : Int) - 1 = _
          omega
        dsimp only
        rw [el]
        obtain ⟨kvs, hd, hkv⟩ := hW.rul
        have dv : d ≠ lv := ne_of hd hv (fun z => nomatch z)
        have dh : d ≠ lh := ne_of hd hh (fun z => nomatch z)
        have tp : Tups H (upd (upd H lv (.lst (vs.map V.int ++ [V.int a]))) lh (.lst (hs.map V.int ++ [V.int b]))) := (Tups.lst hv).trans (Tups.lst hh1)
        refine q4 a b rfl rfl o1 hb (by omega) _ (fun c o e n1 n2 => ?_) { ins := ⟨dx, hx2⟩, ver := ?_, hel := ?_, rul := ⟨kvs, ?_, hkv.mono tp⟩, ne := ne, rk := hW.rk, nd := hW.nd, len := ⟨by rw [List.length_append, List.length_append, ll.1]; rfl, by rw [List.length_append]; show vs.length + 1 ≤ 6; omega, ll.2.2⟩ }
        · rw [upd_ne n2, upd_ne n1]
          exact e
        · rw [hv2, List.map_append]
          rfl
        · rw [upd_same, List.map_append]
          rfl
        · rw [upd_ne dh, upd_ne dv]
          exact hd
end

/-! ### sources, words, rules -/
theorem Tx.W {K : PySem.W.Frag} {mg : Str → Option Value} (T : Tx K mg) : WCls K T.Watcher.C := ⟨T.Watcher.cl, T.nf_Watcherwords, T.nf_Watcher_verdicts, T.nf_Watcher_held, T.nf_Watcher_rules⟩
theorem ldK {p : Addr} {H : Hp} : ∀ t : Key, LD p H (kV t) (kD t)
  | .inl n => .int n
  | .inr s => .str s
theorem kD_nd : ∀ t : Key, isDctD (kD t) = false
  | .inl _ => rfl
  | .inr _ => rfl
def isSrc (d : PyData) (h : Int) (t : Key) : Bool := if isStrD d "value" = true then isStrD (kD t) "new" else btw d 0 (h - 1)
/-- the data are sources of a rule -/
structure AreSrc (d : PyData) (wn h : Int) (t : Key) (ks : List Key) : Prop where
  d : d = .tuple (ks.map kD)
  len : (ks.length : Int) = wn
  all : ∀ k ∈ ks, isSrc (kD k) h t = true
  nd : ks.Nodup
/-- a tuple of the wanted length is short -/
def SmallT (d : PyData) (wn : Int) : Prop := ∀ ds, d = .tuple ds → (ds.length : Int) = wn → ds.length ≤ 50
theorem isSrc_key {p : Addr} {H : Hp} {v : V} {d : PyData} {h : Int} {t : Key} (hv : LD p H v d) (hs : isSrc d h t = true) : ∃ k : Key, d = kD k ∧ v = kV k := by
  unfold isSrc at hs
  cases hv with
  | int i => exact ⟨.inl i, rfl, rfl⟩
  | str x => exact ⟨.inr x, rfl, rfl⟩
  | _ => cases hs
theorem srcs_of {p : Addr} {H : Hp} {h : Int} {t : Key} : ∀ {xs : List V} {ds : List PyData}, LDs p H xs ds → (∀ e ∈ ds, isSrc e h t = true) → ∃ ks : List Key, ds = ks.map kD ∧ xs = ks.map kV
  | _, _, .nil, _ => ⟨[], rfl, rfl⟩
  | _, _, .cons a r, hs => by
    obtain ⟨k, rfl, rfl⟩ := isSrc_key a (hs _ List.mem_cons_self)
    obtain ⟨ks, rfl, rfl⟩ := srcs_of r fun e he => hs e (List.mem_cons_of_mem _ he)
    exact ⟨k :: ks, rfl, rfl⟩
theorem kD_inj {a b : Key} (h : kD a = kD b) : a = b := by
  cases a <;> cases b <;> simp_all [kD]
theorem map_kD_inj : ∀ {a b : List Key}, a.map kD = b.map kD → a = b
  | [], [], _ => rfl
  | [], _ :: _, h => by cases h
  | _ :: _, [], h => by cases h
  | x :: a, y :: b, h => by
    simp only [List.map_cons, List.cons.injEq] at h
    rw [kD_inj h.1, map_kD_inj h.2]
def hAt (hs : List Int) (i : Int) : Int := (hs[i.toNat]?).getD 0
def sp_is_source : Sp := fun us H Q _ => ∃ (p : Addr) (v : V) (d : PyData) (h : Int) (t : Key), us = [v, .int h, kV t] ∧ LD p H v d ∧ Q (.bl (isSrc d h t)) H
def sp_are_sources : Sp := fun us H Q _ => ∃ (p : Addr) (v : V) (d : PyData) (wn h : Int) (t : Key), us = [v, .int wn, .int h, kV t] ∧ LD p H v d ∧ SmallT d wn ∧ ((∃ ks, AreSrc d wn h t ks) → Q (.bl true) H) ∧ ((¬ ∃ ks, AreSrc d wn h t ks) → Q (.bl false) H)
def sp_require_word (C CW : Addr) : Sp := fun us H Q E => ∃ (x lv lh d : Addr) (n : Int) (vs hs : List Int) (R : Rows) (p : Addr) (v : V) (dd : PyData), us = [.ref x, v] ∧ WAt C H x lv lh d n vs hs R ∧ LD p H v dd ∧
  (btw dd 0 (n - 1) = true → Q .non H) ∧ (btw dd 0 (n - 1) = false → ∀ e, H e = none → E (.ref CW) (some e) (upd H e (.xd [(("word" : Str), v)])))
def sp_set_verdict (C CU CV : Addr) : Sp := fun us H Q E => ∃ (x lv lh d : Addr) (n : Int) (vs hs : List Int) (R : Rows) (p : Addr) (v1 v2 : V) (d1 d2 : PyData), us = [.ref x, v1, v2] ∧ WAt C H x lv lh d n vs hs R ∧ LD p H v1 d1 ∧ LD p H v2 d2 ∧
  (btw d1 0 ((vs.length : Int) - 1) = false → ∀ e, H e = none → E (.ref CU) (some e) (upd H e (.xd [(("state" : Str), v1)]))) ∧
  (btw d1 0 ((vs.length : Int) - 1) = true → btw d2 0 3 = false → ∀ e, H e = none → E (.ref CV) (some e) (upd H e (.xd [(("verdict" : Str), v2)]))) ∧
  (∀ s v : Int, d1 = .int s → d2 = .int v → 0 ≤ s → s < vs.length → 0 ≤ v → v ≤ 3 → ∀ H', (∀ c o, H c = some o → c ≠ lv → H' c = some o) → WAt C H' x lv lh d n (vs.set s.toNat v) hs R → Q .non H')
def sp_rule_for (C : Addr) : Sp := fun us H Q _ => ∃ (x lv lh d : Addr) (n : Int) (vs hs : List Int) (R : Rows) (s w : Int) (t : Key), us = [.ref x, .int s, .int w, kV t] ∧ WAt C H x lv lh d n vs hs R ∧
  ([Sum.inl s, Sum.inl w, t] ∉ R.map (·.1) → ∀ H', Same H H' → Q .non H') ∧ ([Sum.inl s, Sum.inl w, t] ∈ R.map (·.1) → ∀ v H', Same H H' → TD H' v (lookR R [Sum.inl s, Sum.inl w, t]) → Q v H')
structure ErrA where
  (U W T S R : Addr)
def sp_add_rule (C : Addr) (X : ErrA) : Sp := fun us H Q E => ∃ (x lv lh d : Addr) (n : Int) (vs hs : List Int) (R : Rows) (p : Addr) (v1 v2 v3 v4 v5 : V) (d1 d2 d3 d4 d5 : PyData), us = [.ref x, v1, v2, v3, v4, v5] ∧
  WAt C H x lv lh d n vs hs R ∧ LD p H v1 d1 ∧ LD p H v2 d2 ∧ LD p H v3 d3 ∧ LD p H v4 d4 ∧ LD p H v5 d5 ∧ isDctD d3 = false ∧ (∀ i : Int, SmallT d5 (hAt hs i)) ∧ R.length < 1000 ∧
  (btw d1 0 ((vs.length : Int) - 1) = false → ∀ e, H e = none → E (.ref X.U) (some e) (upd H e (.xd [(("state" : Str), v1)]))) ∧
  (btw d1 0 ((vs.length : Int) - 1) = true → btw d4 0 ((vs.length : Int) - 1) = false → ∀ e, H e = none → E (.ref X.U) (some e) (upd H e (.xd [(("state" : Str), v4)]))) ∧
  (btw d1 0 ((vs.length : Int) - 1) = true → btw d4 0 ((vs.length : Int) - 1) = true → btw d2 0 (n - 1) = false → ∀ e, H e = none → E (.ref X.W) (some e) (upd H e (.xd [(("word" : Str), v2)]))) ∧
  ∀ s tg w : Int, d1 = .int s → d4 = .int tg → d2 = .int w → 0 ≤ s → s < vs.length → 0 ≤ tg → tg < vs.length → 0 ≤ w → w < n →
    (isTest d3 (hAt hs s) = false → ∀ e, H e = none → E (.ref X.T) (some e) (upd H e (.xd [(("test" : Str), v3)]))) ∧
    ∀ t : Key, v3 = kV t → d3 = kD t → isTest (kD t) (hAt hs s) = true →
      ((¬ ∃ ks, AreSrc d5 (hAt hs tg) (hAt hs s) t ks) → ∀ e, H e = none → E (.ref X.S) (some e) (upd H e (.xd [(("sources" : Str), v5)]))) ∧
      ∀ ks, AreSrc d5 (hAt hs tg) (hAt hs s) t ks →
        ([Sum.inl s, Sum.inl w, t] ∈ R.map (·.1) → ∀ T, H T = none → ∀ e, upd H T (.tup [.int s, .int w, v3]) e = none → E (.ref X.R) (some e) (upd (upd H T (.tup [.int s, .int w, v3])) e (.xd [(("rule" : Str), .ref T)]))) ∧
        ([Sum.inl s, Sum.inl w, t] ∉ R.map (·.1) → ∀ H', (∀ c o, H c = some o → c ≠ d → H' c = some o) → WAt C H' x lv lh d n vs hs (R ++ [([Sum.inl s, Sum.inl w, t], ruleD (tg, ks))]) → Q .non H')
theorem test_key' {p : Addr} {H : Hp} {v : V} {d : PyData} {h : Int} (hv : LD p H v d) (ht : isTest d h = true) : ∃ t : Key, v = kV t ∧ d = kD t ∧ ((∃ r, t = Sum.inl r) ∨ t = Sum.inr ("new" : Str)) := by
  cases hv with
  | int i => exact ⟨Sum.inl i, rfl, rfl, .inl ⟨i, rfl⟩⟩
  | str x =>
    have e : (x == ("new" : Str)) = true := by
      have z : ((x == ("new" : Str)) || false) = true := ht
      rwa [Bool.or_false] at z
    exact ⟨Sum.inr x, rfl, rfl, .inr (by rw [beq_iff_eq.mp e])⟩
  | _ => cases ht
theorem hs_at {hs : List Int} {i : Int} (h0 : 0 ≤ i) (h1 : i < hs.length) : atI (hs.map V.int) i = some (.int (hAt hs i)) := by
  obtain ⟨j, rfl⟩ : ∃ j : Nat, i = j := ⟨i.toNat, by omega⟩
  have hj : j < hs.length := by omega
  refine atI_nat ?_
  unfold hAt
  rw [Int.toNat_natCast, List.getElem?_map, List.getElem?_eq_getElem hj]
  rfl
theorem btw_true {n lo hi : Int} (h0 : lo ≤ n) (h1 : n ≤ hi) : btw (.int n) lo hi = true := by
  show (decide (lo ≤ n) && decide (n ≤ hi)) = true
  rw [decide_eq_true h0, decide_eq_true h1]
  rfl
section
variable {P : Program} {w : World} {K : PySem.W.Frag} {mg : Str → Option Value} {base : Heap}
theorem G_is_between (T : Tx K mg) : FnG P w K mg base CX0 2 T.is_between.f T.is_between.fd ["value", "low", "high"] sp_is_between := ok_is_between T.is_between.F T.is_integer.F T.is_integer.b T.is_integer.g T.m_isinstance T.m_int T.m_bool
theorem G_require_verdict (T : Tx K mg) : FnG P w K mg base (L2.CX P w) 3 T.require_verdict.f T.require_verdict.fd ["verdict"] (sp_require_verdict T.NotAVerdict.C) := ok_require_verdict T.require_verdict.F T.is_between.F T.is_between.b T.is_between.g (G_is_between T) T.NotAVerdict.e T.g_MOST_VERDICT
theorem G_Watcher_require_state (T : Tx K mg) : FnG P w K mg base (L2.CX P w) 3 T.Watcher_require_state.f T.Watcher_require_state.fd ["self", "state"] (sp_require_state T.Watcher.C T.UnknownState.C) := ok_require_state T.Watcher_require_state.F T.is_between.F T.is_between.b T.is_between.g (G_is_between T) T.UnknownState.e T.W T.m_len
theorem G_is_test (T : Tx K mg) : FnG P w K mg base CX0 3 T.is_test.f T.is_test.fd ["test", "held"] sp_is_test := ok_is_test T.is_test.F T.is_between.F T.is_between.b T.is_between.g (G_is_between T) T.g_NEW
theorem G_Watcher_add_state (T : Tx K mg) : FnG P w K mg base (L2.CX P w) 4 T.Watcher_add_state.f T.Watcher_add_state.fd ["self", "verdict", "held"] (sp_add_state T.Watcher.C T.NotAVerdict.C T.LimitExceeded.C) :=
  ok_Watcher_add_state T.Watcher_add_state.F T.is_between.F T.is_between.b T.is_between.g (G_is_between T) T.require_verdict.F T.require_verdict.b T.require_verdict.g (G_require_verdict T) T.LimitExceeded.e T.g_MOST_HELD T.g_MOST_STATES T.W T.m_len
theorem G_Watcher_init (T : Tx K mg) : FnG P w K mg base (L2.CX P w) 3 T.Watcher_init.f T.Watcher_init.fd ["self", "words"] (sp_W_init T.Watcher.C T.LimitExceeded.C) := ok_Watcher_init T.Watcher_init.F T.is_between.F T.is_between.b T.is_between.g (G_is_between T) T.LimitExceeded.e T.g_MOST_WORDS T.W
end

section
variable {P : Program} {w : World} {K : PySem.W.Frag} {mg : Str → Option Value} {base : Heap}
abbrev N_is_source : List Str := ["source", "held", "test"]
theorem sc_is_source : FnScope N_is_source ["source", "held", "test"] (defScope s_is_source) := ⟨rfl, rfl, rfl, by decide +kernel, rfl, by decide +kernel, by decide +kernel⟩
theorem G_is_source (T : Tx K mg) : FnG P w K mg base CX0 3 T.is_source.f T.is_source.fd ["source", "held", "test"] sp_is_source := by
  refine okG T.is_source.F sc_is_source (fun vs H Q E h => ?_) (fun cdv A outer s H vs Q E gd hr h => ?_)
  · obtain ⟨p, v, d, h', t, rfl, _⟩ := h
    rfl
  · obtain ⟨p, v, d, h', t, rfl, hv, q⟩ := h
    refine ⟨_, 
      (pss_cons (ps_if (pt_cmpR (op_eqS' hr.units) (pv 0) (pe_glob (v := .str "value") rfl T.g_VALUE ⟨_, rfl⟩) (nomark _)) 
        (pss_one (ps_ret (pe_cmpR (op_eqS hr.units) (pv 2) (pe_glob (v := .str "new") rfl T.g_NEW ⟨_, rfl⟩) (nomark _)))) -- return test == NEW
         pss_nil) -- if source == VALUE:
      (pss_one (ps_ret (pe_callG (G_is_between T) gd (hr.mono (by decide)) rfl T.is_between.g T.is_between.F.kp T.is_between.b .nil pass0 (pa_cons (pv 0) (pa_cons pe_int (pa_cons (pe_op op_sub (pv 1) pe_int) pa_nil)))))) -- return is_between(source, 0, held - 1)
      ) , ?_⟩
    refine ⟨v, rfl, p, d, "value", hv, rfl, _, rfl, ?_⟩
    unfold isSrc at q
    cases hb : isStrD d "value" with
    | true =>
      rw [hb, if_pos rfl] at q
      exact iteT ⟨kV t, rfl, p, kD t, "new", ldK t, kD_nd t, rfl, q⟩
    | false =>
      rw [hb, if_neg Bool.false_ne_true] at q
      exact iteF ⟨v, rfl, .int h', rfl, h', 1, rfl, rfl, p, v, d, 0, h' - 1, rfl, hv, q⟩
end

section
variable {P : Program} {w : World} {K : PySem.W.Frag} {mg : Str → Option Value} {base : Heap}
abbrev N_are_sources : List Str := ["sources", "wanted", "held", "test", "source"]
theorem sc_are_sources : FnScope N_are_sources ["sources", "wanted", "held", "test"] (defScope s_are_sources) := ⟨rfl, rfl, rfl, by decide +kernel, rfl, by decide +kernel, by decide +kernel⟩
theorem G_are_sources (T : Tx K mg) : FnG P w K mg base CX0 4 T.are_sources.f T.are_sources.fd ["sources", "wanted", "held", "test"] sp_are_sources := by
  refine okG T.are_sources.F sc_are_sources (fun vs H Q E h => ?_) (fun cdv A outer s H vs Q E gd hr h => ?_)
  · obtain ⟨p, v, d, wn, h', t, rfl, _⟩ := h
    rfl
  · obtain ⟨p, v, d, wn, h', t, rfl, hv, sm, q1, q2⟩ := h
    refine ⟨_, 
      (pss_cons (ps_if (PW.pt (pw_or (pt_not (pt_val (pe_callB (call_isL kit_tup) (by rfl) T.m_isinstance (by decide +kernel) (pa_cons (pv 0) (pa_cons (pe_bltn (v := .ty "tuple") (by rfl) T.m_tuple (by decide +kernel) (show RelV (.ty "tuple") (.type "tuple") from rfl)) pa_nil))))) (pw_or1 (pt_cmpR op_ne (pe_callB call_len_seq (by rfl) T.m_len PySem.boot_len (pa_cons (pv 0) pa_nil)) (pv 1) (nomark _))))) 
        (pss_one (ps_ret pe_bl)) -- return False
         pss_nil) -- if not isinstance(sources, tuple) or len(sources) != wanted:
      (pss_cons (ps_for PassesOwn.never rfl (pi_tup (pv 0)) (pg_name (i := 4) sc_are_sources.nd rfl (.inl rfl)) 
        (pss_one (ps_if (pt_not (pt_val (pe_callG (G_is_source T) gd (hr.mono (by decide)) rfl T.is_source.g T.is_source.F.kp T.is_source.b .nil pass0 (pa_cons (pv 4) (pa_cons (pv 2) (pa_cons (pv 3) pa_nil)))))) 
          (pss_one (ps_ret pe_bl)) -- return False
           pss_nil)) -- if not is_source(source, held, test):
        ) -- for source in sources:
      (pss_one (ps_ret (pe_cmpR op_eq (pe_lenSetM rfl (by rfl) T.m_len (by rfl) T.m_set (pv 0)) (pe_callB call_len_seq (by rfl) T.m_len PySem.boot_len (pa_cons (pv 0) pa_nil)) (nomark _)))) -- return len(set(sources)) == len(sources)
      )) , ?_⟩
    refine ⟨v, rfl, p, v, d, rfl, hv, _, rfl, ?_⟩
    cases hb : isTupD d with
    | false =>
      refine q2 ?_
      rintro ⟨ks, e⟩
      rw [e.d] at hb
      cases hb
    | true =>
      cases hv with
      | @tup a xs ds na ha hs =>
        have lx := hs.length
        refine ⟨.ref a, rfl, a, xs, rfl, .inr (SqT.of ha), .int wn, rfl, rfl, _, rfl, ?_⟩
        by_cases hw : (xs.length : Int) = wn
        · subst hw
          refine iteNS rfl ?_
          refine ⟨.ref a, rfl, a, rfl, ⟨_, SqT.of ha⟩, ?_⟩
          refine for_tup (K := K) (a := a) (xs := xs) (fun i σ H' => ∃ y, σ = [some (.ref a), some (.int (xs.length : Int)), some (.int h'), some (kV t), y] ∧ H' = H ∧ ∀ e ∈ ds.take i, isSrc e h' t = true) ?_ ?_ ?_ ?_
          · exact ⟨none, rfl, rfl, fun e he => by cases he⟩
          · rintro i σ H' hi ⟨y, rfl, rfl, _⟩
            exact SqT.of ha
          · rintro i x σ H' hi ⟨y, rfl, rfl, all⟩
            obtain ⟨e, he, hx⟩ := hs.get hi
            refine ⟨x, rfl, .int h', rfl, kV t, rfl, p, x, e, h', t, rfl, hx, _, rfl, ?_⟩
            cases hb2 : isSrc e h' t with
            | false =>
              refine iteT (q2 ?_)
              rintro ⟨ks, z⟩
              have z1 := PyData.tuple.inj z.d
              rw [z1, List.getElem?_map] at he
              obtain ⟨k, hk, rfl⟩ := Option.map_eq_some_iff.mp he
              rw [z.all k (List.mem_of_getElem? hk)] at hb2
              cases hb2
            | true =>
              refine iteF ⟨_, rfl, rfl, fun e' he' => ?_⟩
              rw [List.take_add_one, he] at he'
              rcases List.mem_append.mp he' with z | z
              · exact all e' z
              · have : e' = e := by simpa using z
                rw [this]
                exact hb2
          · rintro σ H' ⟨y, rfl, rfl, all⟩
            rw [lx, List.take_length] at all
            obtain ⟨ks, rfl, rfl⟩ := srcs_of hs all
            have sl := sm _ rfl (by rw [← lx])
            rw [List.length_map] at sl
            refine ⟨.ref a, rfl, a, ks, rfl, ha, sl, .ref a, rfl, a, _, rfl, .inr (SqT.of ha), rfl, ?_⟩
            rw [List.length_map]
            obtain ⟨u1, u2, u3, u4⟩ := uniqK_len _ ks rfl
            by_cases hn : ks.Nodup
            · rw [u3 hn, decide_eq_true rfl]
              refine q1 ⟨ks, rfl, by rw [List.length_map], fun k hk => all _ (List.mem_map.mpr ⟨k, hk, rfl⟩), hn⟩
            · have ne : ¬ (V.int ((uniqK ks).length : Nat) = V.int (ks.length : Nat)) := fun z => hn (u4 (by have := V.int.inj z; omega))
              rw [decide_eq_false ne]
              refine q2 ?_
              rintro ⟨ks', z⟩
              have := map_kD_inj (PyData.tuple.inj z.d)
              exact hn (this ▸ z.nd)
        · have ne : (V.int ((xs.length : Nat) : Int)) ≠ V.int wn := fun z => hw (V.int.inj z)
          rw [decide_eq_false ne]
          refine iteT (q2 ?_)
          rintro ⟨ks, z⟩
          have z1 := PyData.tuple.inj z.d
          have z2 := z.len
          rw [z1, List.length_map] at lx
          exact hw (by omega)
      | _ => cases hb
end

section
variable {P : Program} {w : World} {K : PySem.W.Frag} {mg : Str → Option Value} {base : Heap}
abbrev N_Watcher_require_word : List Str := ["self", "word"]
theorem sc_Watcher_require_word : FnScope N_Watcher_require_word ["self", "word"] (defScope s_Watcher_require_word) := ⟨rfl, rfl, rfl, by decide +kernel, rfl, by decide +kernel, by decide +kernel⟩
theorem G_Watcher_require_word (T : Tx K mg) : FnG P w K mg base (L2.CX P w) 3 T.Watcher_require_word.f T.Watcher_require_word.fd ["self", "word"] (sp_require_word T.Watcher.C T.NotAWord.C) := by
  refine okGX T.Watcher_require_word.F sc_Watcher_require_word (fun vs H Q E h => ?_) (fun cdv A outer s H vs Q E gd hr h => ?_)
  · obtain ⟨x, lv, lh, d, n, vs, hs, R, p, v, dd, rfl, _⟩ := h
    rfl
  · obtain ⟨x, lv, lh, d, n, vs, hs, R, p, v, dd, rfl, hW, hv, q1, q2⟩ := h
    refine ⟨_, 
      (pss_one (ps_if (pt_not (pt_val (pe_callG (G_is_between T) gd (hr.mono (by decide)) rfl T.is_between.g T.is_between.F.kp T.is_between.b .nil pass0 (pa_cons (pv 1) (pa_cons pe_int (pa_cons (pe_op op_sub (pe_fld (pv 0) rfl) pe_int) pa_nil)))))) 
        (pss_one (L2.ps_raiseE (W := fun cls d _ H => E cls d H) rfl T.NotAWord.e (show Room 1 _ from hr.mono (by decide)) (takes_of rfl rfl rfl rfl) (by exact (pa_cons (pv 1) pa_nil)))) -- raise NotAWord(word)
         pss_nil)) -- if not is_between(word, 0, self.words - 1):
       , ?_⟩
    obtain ⟨dx, hx⟩ := hW.ins
    refine ⟨v, rfl, .ref x, rfl, x, T.Watcher.C, dx, _, .int n, rfl, hx, T.Watcher.cl, T.W.n1, rfl, n, 1, rfl, rfl, p, v, dd, 0, _, rfl, hv, _, rfl, ?_⟩
    cases hb : btw dd 0 (n - 1) with
    | false => exact ⟨v, rfl, v, rfl, fun e he => q2 hb e he⟩
    | true => exact q1 hb
end

section
variable {P : Program} {w : World} {K : PySem.W.Frag} {mg : Str → Option Value} {base : Heap}
abbrev N_Watcher_set_verdict : List Str := ["self", "state", "verdict"]
theorem sc_Watcher_set_verdict : FnScope N_Watcher_set_verdict ["self", "state", "verdict"] (defScope s_Watcher_set_verdict) := ⟨rfl, rfl, rfl, by decide +kernel, rfl, by decide +kernel, by decide +kernel⟩
theorem G_Watcher_set_verdict (T : Tx K mg) : FnG P w K mg base (L2.CX P w) 4 T.Watcher_set_verdict.f T.Watcher_set_verdict.fd ["self", "state", "verdict"] (sp_set_verdict T.Watcher.C T.UnknownState.C T.NotAVerdict.C) := by
  refine okGX T.Watcher_set_verdict.F sc_Watcher_set_verdict (fun vs H Q E h => ?_) (fun cdv A outer s H vs Q E gd hr h => ?_)
  · obtain ⟨x, lv, lh, d, n, vs, hs, R, p, v1, v2, d1, d2, rfl, _⟩ := h
    rfl
  · obtain ⟨x, lv, lh, d, n, vs, hs, R, p, v1, v2, d1, d2, rfl, hW, h1, h2, q1, q2, q3⟩ := h
    refine ⟨_, 
      (pss_cons (ps_expr (pe_methG (pv 0) T.Watcher.cl T.Watcher_require_state.M (G_Watcher_require_state T) gd (hr.mono (by decide)) T.Watcher_require_state.b .nil (L2.passes_call (W := fun cls d _ H => E cls d H) (takes_of rfl rfl rfl rfl) (fun _ _ _ _ h => h)) (pa_cons (pv 1) pa_nil))) -- self.require_state(state)
      (pss_cons (ps_expr (pe_callG (G_require_verdict T) gd (hr.mono (by decide)) rfl T.require_verdict.g T.require_verdict.F.kp T.require_verdict.b .nil (L2.passes_call (W := fun cls d _ H => E cls d H) (takes_of rfl rfl rfl rfl) (fun _ _ _ _ h => h)) (pa_cons (pv 2) pa_nil))) -- require_verdict(verdict)
      (pss_one (ps_asg (pv 2) (pg_sub (pe_fld (pv 0) rfl) (pv 1) set_list))) -- self._verdicts[state] = verdict
      )) , ?_⟩
    obtain ⟨dx, hx⟩ := hW.ins
    refine ⟨.ref x, rfl, x, dx, _, rfl, hx, rfl, v1, rfl, x, lv, lh, d, n, vs, hs, R, p, v1, d1, rfl, hW, h1, fun o1 => ?_, q1⟩
    refine ⟨v2, rfl, p, v2, d2, rfl, h2, fun o2 => ?_, q2 o1⟩
    obtain ⟨s, rfl, s0, s1⟩ := btw_int o1
    obtain ⟨v, rfl, v0, v3⟩ := btw_int o2
    cases h1
    cases h2
    obtain ⟨j, rfl⟩ : ∃ j : Nat, s = j := ⟨s.toNat, by omega⟩
    have hj : j < vs.length := by omega
    have hv := hW.ver
    refine ⟨.int v, rfl, .ref x, rfl, x, T.Watcher.C, dx, _, .ref lv, rfl, hx, T.Watcher.cl, T.W.n2, rfl, .int (j : Int), rfl, lv, _, (j : Int), j, rfl, rfl, hv, ixN_at (by rw [List.length_map]; exact hj), ?_⟩
    have tp : Tups H (upd H lv (.lst ((vs.map V.int).set j (.int v)))) := Tups.lst hv
    obtain ⟨kvs, hd, hkv⟩ := hW.rul
    refine q3 (j : Int) v rfl rfl s0 (by omega) v0 v3 _ (fun c o e n1 => by rw [upd_ne n1]; exact e) { ins := ⟨dx, by rw [upd_ne (ne_of hx hv (fun z => nomatch z))]; exact hx⟩, ver := ?_, hel := by rw [upd_ne hW.ne.symm]; exact hW.hel, rul := ⟨kvs, by rw [upd_ne (ne_of hd hv (fun z => nomatch z))]; exact hd, hkv.mono tp⟩, ne := hW.ne, rk := hW.rk, nd := hW.nd, len := ⟨by rw [List.length_set]; exact hW.len.1, by rw [List.length_set]; exact hW.len.2.1, hW.len.2.2⟩ }
    rw [upd_same, Int.toNat_natCast, List.map_set]
end

section
variable {P : Program} {w : World} {K : PySem.W.Frag} {mg : Str → Option Value} {base : Heap}
abbrev N_Watcher_add_rule : List Str := ["self", "state", "word", "test", "target", "sources", "rule"]
theorem sc_Watcher_add_rule : FnScope N_Watcher_add_rule ["self", "state", "word", "test", "target", "sources"] (defScope s_Watcher_add_rule) := ⟨rfl, rfl, rfl, by decide +kernel, rfl, by decide +kernel, by decide +kernel⟩
theorem G_Watcher_add_rule (T : Tx K mg) : FnG P w K mg base (L2.CX P w) 5 T.Watcher_add_rule.f T.Watcher_add_rule.fd ["self", "state", "word", "test", "target", "sources"] (sp_add_rule T.Watcher.C ⟨T.UnknownState.C, T.NotAWord.C, T.InvalidTest.C, T.InvalidSources.C, T.RuleExists.C⟩) := by
  refine okGX T.Watcher_add_rule.F sc_Watcher_add_rule (fun vs H Q E h => ?_) (fun cdv A outer s H vs Q E gd hr h => ?_)
  · obtain ⟨x, lv, lh, d, n, vs, hs, R, p, v1, v2, v3, v4, v5, d1, d2, d3, d4, d5, rfl, _⟩ := h
    rfl
  · obtain ⟨x, lv, lh, d, n, vs, hs, R, p, v1, v2, v3, v4, v5, d1, d2, d3, d4, d5, rfl, hW, h1, h2, h3, h4, h5, n3, sm5, lR, q1, q2, q3, q4⟩ := h
    refine ⟨_, 
      (pss_cons (ps_expr (pe_methG (pv 0) T.Watcher.cl T.Watcher_require_state.M (G_Watcher_require_state T) gd (hr.mono (by decide)) T.Watcher_require_state.b .nil (L2.passes_call (W := fun cls d _ H => E cls d H) (takes_of rfl rfl rfl rfl) (fun _ _ _ _ h => h)) (pa_cons (pv 1) pa_nil))) -- self.require_state(state)
      (pss_cons (ps_expr (pe_methG (pv 0) T.Watcher.cl T.Watcher_require_state.M (G_Watcher_require_state T) gd (hr.mono (by decide)) T.Watcher_require_state.b .nil (L2.passes_call (W := fun cls d _ H => E cls d H) (takes_of rfl rfl rfl rfl) (fun _ _ _ _ h => h)) (pa_cons (pv 4) pa_nil))) -- self.require_state(target)
      (pss_cons (ps_expr (pe_methG (pv 0) T.Watcher.cl T.Watcher_require_word.M (G_Watcher_require_word T) gd (hr.mono (by decide)) T.Watcher_require_word.b .nil (L2.passes_call (W := fun cls d _ H => E cls d H) (takes_of rfl rfl rfl rfl) (fun _ _ _ _ h => h)) (pa_cons (pv 2) pa_nil))) -- self.require_word(word)
      (pss_cons (ps_if (pt_not (pt_val (pe_callG (G_is_test T) gd (hr.mono (by decide)) rfl T.is_test.g T.is_test.F.kp T.is_test.b .nil pass0 (pa_cons (pv 3) (pa_cons (pe_ix ix_list (pe_fld (pv 0) rfl) (pv 1) (fun _ _ => rfl)) pa_nil))))) 
        (pss_one (L2.ps_raiseE (W := fun cls d _ H => E cls d H) rfl T.InvalidTest.e (show Room 1 _ from hr.mono (by decide)) (takes_of rfl rfl rfl rfl) (by exact (pa_cons (pv 3) pa_nil)))) -- raise InvalidTest(test)
         pss_nil) -- if not is_test(test, self._held[state]):
      (pss_cons (ps_if (pt_not (pt_val (pe_callG (G_are_sources T) gd (hr.mono (by decide)) rfl T.are_sources.g T.are_sources.F.kp T.are_sources.b .nil pass0 (pa_cons (pv 5) (pa_cons (pe_ix ix_list (pe_fld (pv 0) rfl) (pv 4) (fun _ _ => rfl)) (pa_cons (pe_ix ix_list (pe_fld (pv 0) rfl) (pv 1) (fun _ _ => rfl)) (pa_cons (pv 3) pa_nil))))))) 
        (pss_one (L2.ps_raiseE (W := fun cls d _ H => E cls d H) rfl T.InvalidSources.e (show Room 1 _ from hr.mono (by decide)) (takes_of rfl rfl rfl rfl) (by exact (pa_cons (pv 5) pa_nil)))) -- raise InvalidSources(sources)
         pss_nil) -- if not are_sources(sources, self._held[target], self._held[state], test):
      (pss_cons (ps_set (i := 6) sc_Watcher_add_rule.nd rfl (.inl rfl) (pe_tup (pa_cons (pv 1) (pa_cons (pv 2) (pa_cons (pv 3) pa_nil))))) -- rule = (state, word, test)
      (pss_cons (ps_if (pt_cmp (pc_din (hu_of hr) (pv 6) (pe_fld (pv 0) rfl))) 
        (pss_one (L2.ps_raiseE (W := fun cls d _ H => E cls d H) rfl T.RuleExists.e (show Room 1 _ from hr.mono (by decide)) (takes_of rfl rfl rfl rfl) (by exact (pa_cons (pv 6) pa_nil)))) -- raise RuleExists(rule)
         pss_nil) -- if rule in self._rules:
      (pss_one (ps_dput (hu_of hr) (pe_fld (pv 0) rfl) (pv 6) (pe_tup (pa_cons (pv 4) (pa_cons (pv 5) pa_nil))) rfl)) -- self._rules[rule] = (target, sources)
      ))))))) , ?_⟩
    obtain ⟨dx, hx⟩ := hW.ins
    have hh := hW.hel
    have cl := T.Watcher.cl
    refine ⟨.ref x, rfl, x, dx, _, rfl, hx, rfl, v1, rfl, x, lv, lh, d, n, vs, hs, R, p, v1, d1, rfl, hW, h1, fun o1 => ?_, q1⟩
    refine ⟨.ref x, rfl, x, dx, _, rfl, hx, rfl, v4, rfl, x, lv, lh, d, n, vs, hs, R, p, v4, d4, rfl, hW, h4, fun o4 => ?_, q2 o1⟩
    refine ⟨.ref x, rfl, x, dx, _, rfl, hx, rfl, v2, rfl, x, lv, lh, d, n, vs, hs, R, p, v2, d2, rfl, hW, h2, fun o2 => ?_, q3 o1 o4⟩
    obtain ⟨s', rfl, s0, s1⟩ := btw_int o1
    obtain ⟨tg, rfl, g0, g1⟩ := btw_int o4
    obtain ⟨wd, rfl, w0, w1⟩ := btw_int o2
    cases h1
    cases h2
    cases h4
    have ls := hW.len.1
    obtain ⟨q5, q6⟩ := q4 s' tg wd rfl rfl rfl s0 (by omega) g0 (by omega) w0 (by omega)
    refine ⟨v3, rfl, .ref x, rfl, x, T.Watcher.C, dx, _, .ref lh, rfl, hx, cl, T.W.n3, rfl, .int s', rfl, lh, _, s', .int (hAt hs s'), rfl, rfl, SqL.of hh, hs_at s0 (by omega), p, v3, d3, hAt hs s', rfl, h3, n3, _, rfl, ?_⟩
    cases hb : isTest d3 (hAt hs s') with
    | false => exact iteT ⟨v3, rfl, v3, rfl, fun e he => q5 hb e he⟩
    | true =>
      refine iteF ?_
      obtain ⟨t, rfl, rfl, tk⟩ := test_key' h3 hb
      obtain ⟨q7, q8⟩ := q6 t rfl rfl hb
      refine ⟨v5, rfl, .ref x, rfl, x, T.Watcher.C, dx, _, .ref lh, rfl, hx, cl, T.W.n3, rfl, .int tg, rfl, lh, _, tg, .int (hAt hs tg), rfl, rfl, SqL.of hh, hs_at g0 (by omega), .ref x, rfl, x, T.Watcher.C, dx, _, .ref lh, rfl, hx, cl, T.W.n3, rfl, .int s', rfl, lh, _, s', .int (hAt hs s'), rfl, rfl, SqL.of hh, hs_at s0 (by omega), kV t, rfl, p, v5, d5, hAt hs tg, hAt hs s', t, rfl, h5, sm5 tg, fun ok => ?_, fun bad => ?_⟩
      · refine ⟨_, rfl, iteF ?_⟩
        obtain ⟨ks, ok⟩ := ok
        obtain ⟨q9, q10⟩ := q8 ks ok
        obtain ⟨kvs, hd, hkv⟩ := hW.rul
        have ek := hkv.keys
        refine ⟨.int s', rfl, .int wd, rfl, kV t, rfl, by show 3 ≤ sizeLine; decide, fun TT nT => ?_⟩
        have sT : Same H (upd H TT (.tup [.int s', .int wd, kV t])) := same_new nT
        have hT : upd H TT (.tup [.int s', .int wd, kV t]) TT = some (.tup (([Sum.inl s', Sum.inl wd, t] : List Key).map kV)) := upd_same
        have g := DGet.t (k := [Sum.inl s', Sum.inl wd, t]) (sT _ _ hd) hT
        refine ⟨.ref TT, rfl, .ref x, rfl, x, T.Watcher.C, dx, _, .ref d, rfl, sT _ _ hx, cl, T.W.n4, rfl, d, _, rfl, g, _, rfl, ?_⟩
        by_cases hk : [Sum.inl s', Sum.inl wd, t] ∈ R.map (·.1)
        · obtain ⟨v, ev, _⟩ := hkv.val hk
          rw [ev]
          exact iteT ⟨.ref TT, rfl, .ref TT, rfl, fun e he => q9 hk TT nT e he⟩
        · have en : valV kvs [Sum.inl s', Sum.inl wd, t] = none := by
            unfold valV
            rw [List.find?_eq_none.mpr]
            · rfl
            · intro y hy
              simp only [decide_eq_true_eq]
              intro e
              exact hk (e ▸ ek ▸ List.mem_map.mpr ⟨y, hy, rfl⟩)
          rw [en]
          refine iteF ?_
          refine ⟨.int tg, rfl, v5, rfl, by show 2 ≤ sizeLine; decide, fun U nU => ?_⟩
          have sU : Same (upd H TT (.tup [.int s', .int wd, kV t])) (upd (upd H TT (.tup [.int s', .int wd, kV t])) U (.tup [.int tg, v5])) := same_new nU
          have hU : upd (upd H TT (.tup [.int s', .int wd, kV t])) U (.tup [.int tg, v5]) U = some (.tup [.int tg, v5]) := upd_same
          have hT2 := sU _ _ hT
          have s2 := sT.trans sU
          generalize upd (upd H TT (.tup [.int s', .int wd, kV t])) U (.tup [.int tg, v5]) = H2 at s2 hU hT2
          have hd2 := s2 _ _ hd
          have lk : kvs.length < 1000 := by
            have := Paired.length hkv
            omega
          refine ⟨.ref x, rfl, x, T.Watcher.C, dx, _, .ref d, rfl, s2 _ _ hx, cl, T.W.n4, rfl, .ref TT, rfl, d, _, rfl, DPut.t (k := [Sum.inl s', Sum.inl wd, t]) hd2 hT2 (small1000 (Nat.le_of_lt lk)), ?_⟩
          have tp : Tups H2 (upd H2 d (.dT (putK kvs [Sum.inl s', Sum.inl wd, t] (.ref U)))) := Tups.put hd2 (fun _ z => by cases z)
          have hW2 := hW.mono s2
          have vd : lv ≠ d := ne_of hW2.ver hd2 (fun z => nomatch z)
          have hd' : lh ≠ d := ne_of hW2.hel hd2 (fun z => nomatch z)
          have xd : x ≠ d := ne_of (s2 _ _ hx) hd2 (fun z => nomatch z)
          refine q10 hk _ (fun c o e nc => ?_) { ins := ⟨dx, ?_⟩, ver := ?_, hel := ?_, rul := ⟨_, upd_same, ?_⟩, ne := hW.ne, rk := ?_, nd := ?_, len := ⟨hW.len.1, hW.len.2.1, by rw [List.length_append]; show R.length + 1 ≤ 1000; omega⟩ }
          · rw [upd_ne nc]
            exact s2 _ _ e
          · rw [upd_ne xd]
            exact s2 _ _ hx
          · rw [upd_ne vd]
            exact hW2.ver
          · rw [upd_ne hd']
            exact hW2.hel
          · have en2 := putK_new (V.ref U) en
            rw [en2] at tp ⊢
            refine Paired.snoc (KvD.mono tp (KvD.mono (Tups.same s2) hkv)) ⟨rfl, ?_⟩
            have h5' := h5
            rw [ok.d] at h5'
            obtain ⟨a5, xs5, rfl, _, ha5, hs5⟩ := h5'.isTup
            obtain ⟨ks', e1, e2⟩ := srcs_of hs5 (h := hAt hs s') (t := t) (fun e he => by obtain ⟨k, hk, rfl⟩ := List.mem_map.mp he; exact ok.all k hk)
            rw [← map_kD_inj e1] at e2
            subst e2
            exact .tup (tp _ _ hU) (.cons (.int tg) (.cons (.tup (tp _ _ (s2 _ _ ha5)) TDs.keys) .nil))
          · intro k hk2
            rw [List.map_append] at hk2
            rcases List.mem_append.mp hk2 with z | z
            · exact hW.rk k z
            · simp at z
              subst z
              exact ⟨s', wd, t, rfl, tk⟩
          · rw [List.map_append]
            refine List.nodup_append.mpr ⟨hW.nd, by simp, ?_⟩
            intro a ha b hb2
            simp at hb2
            subst hb2
            rintro rfl
            exact hk ha
      · exact ⟨_, rfl, iteT ⟨v5, rfl, v5, rfl, fun e he => q7 bad e he⟩⟩
end

/-! ### watchers are built from plans -/
theorem WAt.off {C : Addr} {H : Hp} {x lv lh d a : Addr} {n : Int} {vs hs : List Int} {R : Rows} {o u : HO} (h : WAt C H x lv lh d n vs hs R) (ha : H a = some u) (hu : ∀ xs, u ≠ .tup xs) (n1 : a ≠ x) (n2 : a ≠ lv) (n3 : a ≠ lh) (n4 : a ≠ d) : WAt C (upd H a o) x lv lh d n vs hs R := by
  have tp : Tups H (upd H a o) := Tups.put ha hu
  obtain ⟨⟨dx, b⟩, e, f, ⟨kvs, g, i⟩, ne, j, k, len⟩ := h
  exact ⟨⟨dx, by rw [upd_ne n1.symm]; exact b⟩, by rw [upd_ne n2.symm]; exact e, by rw [upd_ne n3.symm]; exact f, ⟨kvs, by rw [upd_ne n4.symm]; exact g, i.mono tp⟩, ne, j, k, len⟩
theorem TDs.unkeys {H : Hp} : ∀ {xs : List V} {ks : List Key}, TDs H xs (ks.map kD) → xs = ks.map kV
  | _, [], h => by cases h; rfl
  | _, .inl n :: ks, h => by
    cases h with
    | cons a r =>
      cases a
      rw [r.unkeys]
      rfl
  | _, .inr s :: ks, h => by
    cases h with
    | cons a r =>
      cases a
      rw [r.unkeys]
      rfl
theorem lds_keys {p : Addr} {H : Hp} : ∀ ks : List Key, LDs p H (ks.map kV) (ks.map kD)
  | [] => .nil
  | k :: r => .cons (ldK k) (lds_keys r)
theorem val_nodup {kvs : List (List Key × V)} (nd : (kvs.map (·.1)).Nodup) {i : Nat} {k : List Key} {v : V} (h : kvs[i]? = some (k, v)) : valV kvs k = some v := by
  induction kvs generalizing i with
  | nil => simp at h
  | cons p r ih =>
    cases i with
    | zero =>
      have : p = (k, v) := by simpa using h
      subst this
      exact valV_pos rfl
    | succ i =>
      have h' : r[i]? = some (k, v) := by simpa using h
      have nd' := List.nodup_cons.mp nd
      rw [valV_neg, ih nd'.2 h']
      rintro rfl
      exact nd'.1 (List.mem_map.mpr ⟨_, List.mem_of_getElem? h', rfl⟩)
theorem TD.rule {H : Hp} {v : V} {r : Int × List Key} (h : TD H v (ruleD r)) : ∃ a b, v = .ref a ∧ H a = some (.tup [.int r.1, .ref b]) ∧ H b = some (.tup (r.2.map kV)) := by
  obtain ⟨a, xs, rfl, e, t⟩ := h.isTup
  cases t with
  | cons h1 t =>
    cases h1
    cases t with
    | cons h2 t =>
      cases t
      obtain ⟨b, ys, rfl, e2, t2⟩ := h2.isTup
      rw [t2.unkeys] at e2
      exact ⟨a, b, rfl, e, e2⟩
theorem srcOk_are {h m : Int} {t : Key} {ks : List Key} (s : SrcOk h t m ks) : AreSrc (.tuple (ks.map kD)) m h t ks := by
  refine ⟨rfl, s.len, fun k hk => ?_, s.nd⟩
  rcases s.all k hk with ⟨n, rfl, n0, n1⟩ | ⟨rfl, rfl⟩
  · unfold isSrc
    rw [if_neg (by exact Bool.false_ne_true)]
    exact btw_true n0 (by omega)
  · rfl
theorem testOk_is {h : Int} {t : Key} (s : TestOk h t) : isTest (kD t) h = true := by
  rcases s with ⟨n, rfl, n0, n1⟩ | rfl
  · show (false || btw (.int n) 0 (h - 1)) = true
    rw [btw_true n0 (by omega)]
    rfl
  · rfl
theorem smallT_keys {ks : List Key} {i : Int} (h : ks.length ≤ 50) : SmallT (.tuple (ks.map kD)) i := fun ds e _ => by
  cases e
  rw [List.length_map]
  exact h
theorem hAt_held (ks : List (Int × Int)) (i : Int) : hAt (ks.map (·.2)) i = heldAt ks i := by
  unfold hAt heldAt
  rw [List.getElem?_map]
  cases ks[i.toNat]? <;> rfl
theorem held_bd {ks : List (Int × Int)} (h : KindsOk ks) {i : Int} (h0 : 0 ≤ i) (h1 : i < ks.length) : 0 ≤ heldAt ks i ∧ heldAt ks i ≤ 3 := by
  have hj : i.toNat < ks.length := by omega
  unfold heldAt
  rw [List.getElem?_eq_getElem hj]
  have := h.all ks[i.toNat] (List.getElem_mem hj)
  exact ⟨this.2.2.1, this.2.2.2⟩
structure Fr (H H' : Hp) (x lv lh d : Addr) : Prop where
  sm : Same H H'
  x : H x = none
  v : H lv = none
  h : H lh = none
  d : H d = none

/-! ### runs -/
def lookP (R : List PRule) (k : List Key) : Option (Int × List Key) := (R.find? fun r => decide (r.1 = k)).map (·.2)
theorem lookP_none {R : List PRule} {k : List Key} (h : lookP R k = none) : k ∉ (rowsOf R).map (·.1) := by
  rw [rowsOf_keys]
  intro z
  obtain ⟨r, hr, e⟩ := List.mem_map.mp z
  unfold lookP at h
  rw [Option.map_eq_none_iff, List.find?_eq_none] at h
  exact h r hr (decide_eq_true e)
theorem lookP_some {R : List PRule} {k : List Key} {v : Int × List Key} (h : lookP R k = some v) : (k, v) ∈ R ∧ k ∈ (rowsOf R).map (·.1) ∧ lookR (rowsOf R) k = ruleD v := by
  unfold lookP at h
  obtain ⟨r, e, rfl⟩ := Option.map_eq_some_iff.mp h
  have hk : r.1 = k := by simpa using List.find?_some e
  have hm := List.mem_of_find?_eq_some e
  subst hk
  refine ⟨hm, by rw [rowsOf_keys]; exact List.mem_map.mpr ⟨r, hm, rfl⟩, ?_⟩
  unfold lookR rowsOf
  rw [List.find?_map]
  have e2 : (R.find? ((fun p : List Key × PyData => decide (p.1 = r.1)) ∘ fun p : PRule => (p.1, ruleD p.2))) = some r := e
  rw [e2]
  rfl
def testV (held : List Int) (v : Int) : Key := if v ∈ held then Sum.inl (held.idxOf v : Nat) else Sum.inr ("new" : Str)
def srcV (held : List Int) (v : Int) : Key → Int
  | .inl n => (held[n.toNat]?).getD 0
  | .inr _ => v
def carryK (src : List Key) (held : List Int) (v : Int) : List Int := src.map (srcV held v)
def stepM (R : List PRule) (s : Int × List Int) (m : Int × Int) : Int × List Int :=
  match lookP R [Sum.inl s.1, Sum.inl m.1, testV s.2 m.2] with
  | none => s
  | some r => (r.1, carryK r.2 s.2 m.2)
def runM (R : List PRule) (s : Int × List Int) (ms : List (Int × Int)) : Int × List Int := ms.foldl (stepM R) s
def SrcIn (held : List Int) (k : Key) : Prop := (∃ n : Int, k = Sum.inl n ∧ 0 ≤ n ∧ n < held.length) ∨ k = Sum.inr ("value" : Str)
structure StOk (kinds : List (Int × Int)) (s : Int × List Int) : Prop where
  lo : 0 ≤ s.1
  hi : s.1 < kinds.length
  len : (s.2.length : Int) = heldAt kinds s.1
theorem step_in {w : Int} {kinds : List (Int × Int)} {R : List PRule} (hR : ∀ r ∈ R, RuleOk w kinds r) {s : Int × List Int} (hs : StOk kinds s) {m : Int × Int} {r : Int × List Key} (h : lookP R [Sum.inl s.1, Sum.inl m.1, testV s.2 m.2] = some r) :
    (∀ k ∈ r.2, SrcIn s.2 k) ∧ StOk kinds (r.1, carryK r.2 s.2 m.2) := by
  obtain ⟨i, j, t, e, i0, i1, j0, j1, tok, g0, g1, sok⟩ := hR _ (lookP_some h).1
  dsimp only at e tok g0 g1 sok
  have ei : i = s.1 := by
    have := (List.cons.inj e).1
    exact (Sum.inl.inj this).symm
  subst ei
  refine ⟨fun k hk => ?_, ⟨g0, g1, ?_⟩⟩
  · rcases sok.all k hk with ⟨n, rfl, n0, n1⟩ | ⟨rfl, _⟩
    · exact .inl ⟨n, rfl, n0, by rw [hs.len]; exact n1⟩
    · exact .inr rfl
  · unfold carryK
    rw [List.length_map]
    exact sok.len
theorem step_ok {w : Int} {kinds : List (Int × Int)} {R : List PRule} (hR : ∀ r ∈ R, RuleOk w kinds r) {s : Int × List Int} (hs : StOk kinds s) (m : Int × Int) : StOk kinds (stepM R s m) := by
  unfold stepM
  split
  · exact hs
  · exact (step_in hR hs (by assumption)).2
theorem run_ok {w : Int} {kinds : List (Int × Int)} {R : List PRule} (hR : ∀ r ∈ R, RuleOk w kinds r) : ∀ (ms : List (Int × Int)) {s : Int × List Int}, StOk kinds s → StOk kinds (runM R s ms)
  | [], _, h => h
  | m :: ms, _, h => run_ok hR ms (step_ok hR h m)
theorem st_zero {kinds : List (Int × Int)} (h : KindsOk kinds) : StOk kinds (0, []) := ⟨Int.le_refl 0, by have := h.len; show (0 : Int) < kinds.length; omega, by rw [h.zero]; rfl⟩
/-- a state with its held values, at v -/
def StAt (H : Hp) (v : V) (s : Int × List Int) : Prop := ∃ r a, v = .ref r ∧ H r = some (.tup [.int s.1, .ref a]) ∧ HT H a s.2
theorem StAt.mono {H H' : Hp} {v : V} {s : Int × List Int} (h : StAt H v s) (e : Same H H') : StAt H' v s := by
  obtain ⟨r, a, rfl, h1, h2⟩ := h
  exact ⟨r, a, rfl, e _ _ h1, h2.mono e⟩
def stD (s : Int × List Int) : PyData := .tuple [.int s.1, .tuple (s.2.map .int)]
theorem StAt.dp {K : PySem.W.Frag} {H : Hp} {v : V} {s : Int × List Int} (h : StAt H v s) : Dp K H v (stD s) := by
  obtain ⟨r, a, rfl, h1, h2⟩ := h
  exact .tup (SqT.of h1) (.cons (.int _) (.cons (.tup h2.sq (dp_ints _ _ _)) .nil))
def sp_carried : Sp := fun us H Q _ => ∃ (sa ha : Addr) (src : List Key) (held : List Int) (v : Int), us = [.ref sa, .ref ha, .int v] ∧ H sa = some (.tup (src.map kV)) ∧ HT H ha held ∧ (∀ k ∈ src, SrcIn held k) ∧ src.length ≤ 1000 ∧
  ∀ a H', Same H H' → H a = none → HT H' a (carryK src held v) → Q (.ref a) H'
/-- the watcher that a plan makes -/
structure WP (C : Addr) (H : Hp) (x lv lh d : Addr) (P : Plan) : Prop where
  w : WAt C H x lv lh d P.words (P.kinds.map (·.1)) (P.kinds.map (·.2)) (rowsOf P.rules)
  ok : PlanOk P
theorem WP.mono {C : Addr} {H H' : Hp} {x lv lh d : Addr} {P : Plan} (h : WP C H x lv lh d P) (e : Same H H') : WP C H' x lv lh d P := ⟨h.w.mono e, h.ok⟩
def sp_after (C : Addr) : Sp := fun us H Q _ => ∃ (x lv lh d ha : Addr) (pl : Plan) (s : Int) (held : List Int) (w v : Int), us = [.ref x, .int s, .ref ha, .int w, .int v] ∧ WP C H x lv lh d pl ∧ HT H ha held ∧ StOk pl.kinds (s, held) ∧
  ∀ u H', Same H H' → StAt H' u (stepM pl.rules (s, held) (w, v)) → Q u H'
/-- a stream of ints at t -/
def StrmAt (K : PySem.W.Frag) (H : Hp) (t : Addr) (ms : List (Int × Int)) : Prop := ∃ xs, SqT K H t xs ∧ TDs H xs (ms.map msgD)
theorem StrmAt.mono {K : PySem.W.Frag} {H H' : Hp} {t : Addr} {ms : List (Int × Int)} (h : StrmAt K H t ms) (e : Same H H') : StrmAt K H' t ms := by
  obtain ⟨xs, h1, h2⟩ := h
  refine ⟨xs, ?_, h2.mono (Tups.same e)⟩
  rcases h1 with (h1 | ⟨o, h1⟩) | h1
  · exact .inl (.inl (e _ _ h1))
  · exact .inl (.inr ⟨o, e _ _ h1⟩)
  · exact .inr h1
def sp_run_from (K : PySem.W.Frag) (C : Addr) : Sp := fun us H Q _ => ∃ (x lv lh d ha t : Addr) (pl : Plan) (s : Int) (held : List Int) (ms : List (Int × Int)), us = [.ref x, .int s, .ref ha, .ref t] ∧ WP C H x lv lh d pl ∧ HT H ha held ∧ StOk pl.kinds (s, held) ∧ StrmAt K H t ms ∧
  ∀ u H', Same H H' → StAt H' u (runM pl.rules (s, held) ms) → Q u H'
def sp_run (K : PySem.W.Frag) (C : Addr) : Sp := fun us H Q _ => ∃ (x lv lh d t : Addr) (pl : Plan) (ms : List (Int × Int)), us = [.ref x, .ref t] ∧ WP C H x lv lh d pl ∧ StrmAt K H t ms ∧ ∀ u H', Same H H' → StAt H' u (runM pl.rules (0, []) ms) → Q u H'
def verdictM (pl : Plan) (ms : List (Int × Int)) : Int := ((pl.kinds[(runM pl.rules (0, []) ms).1.toNat]?).getD (0, 0)).1
def sp_verdict_of (K : PySem.W.Frag) (C : Addr) : Sp := fun us H Q _ => ∃ (x lv lh d t : Addr) (pl : Plan) (ms : List (Int × Int)), us = [.ref x, .ref t] ∧ WP C H x lv lh d pl ∧ StrmAt K H t ms ∧ ∀ H', Same H H' → Q (.int (verdictM pl ms)) H'
theorem idx_first {held : List Int} {v : Int} (h : v ∈ held) : held[held.idxOf v]? = some v ∧ ∀ m, m < held.idxOf v → held[m]? ≠ some v := by
  induction held with
  | nil => cases h
  | cons x r ih =>
    by_cases e : x = v
    · subst e
      rw [List.idxOf_cons_self]
      exact ⟨rfl, fun m hm => absurd hm (Nat.not_lt_zero _)⟩
    · have hr : v ∈ r := by
        rcases List.mem_cons.mp h with z | z
        · exact absurd z.symm e
        · exact z
      obtain ⟨a, b⟩ := ih hr
      have e2 : (x :: r).idxOf v = r.idxOf v + 1 := by rw [List.idxOf_cons, beq_eq_false_iff_ne.mpr e]; rfl
      rw [e2]
      refine ⟨by simpa using a, fun m hm => ?_⟩
      cases m with
      | zero => simpa using e
      | succ m => simpa using b m (by omega)

section
variable {P : Program} {w : World} {K : PySem.W.Frag} {mg : Str → Option Value} {base : Heap}
theorem G_Watcher_verdicts (T : Tx K mg) : FnG P w K mg base CX0 1 T.Watcher_verdicts.f T.Watcher_verdicts.fd ["self"] (sp_W_ver T.Watcher.C) := ok_Watcher_verdicts T.Watcher_verdicts.F T.W T.m_tuple
end

open TL
/-! ### texts of watchers -/
abbrev nlS : Str := Str.ofString "\n"
def dgS (i : Int) : Str := Str.ofString (toString i)
def keyS : Key → Str
  | .inl n => dgS n
  | .inr s => s
def stateL (k : Int × Int) : Str := Str.ofString "state " ++ dgS k.1 ++ spS ++ dgS k.2
def wordsL (n : Int) : Str := Str.ofString "words " ++ dgS n
def ruleW (r : PRule) : List Str := Str.ofString "rule" :: (r.1.map keyS ++ dgS r.2.1 :: r.2.2.map keyS)
def ruleL (r : PRule) : Str := Txt.join spS (ruleW r)
def linesOf (n : Int) (ks : List (Int × Int)) (R : List PRule) : List Str := wordsL n :: (ks.map stateL ++ R.map ruleL)
def pageOf (ls : List Str) : Str := Txt.join Str.empty (ls.map (· ++ nlS))
theorem tl_nl : tl nlS = [10] := by decide +kernel
theorem nl_kind : nlS.cps.all (· < 256) = true := by decide +kernel
theorem joinL_nil : ∀ ps : List (List Nat), joinL [] ps = ps.flatten
  | [] => rfl
  | [x] => by simp [joinL]
  | x :: y :: r => by
    show x ++ ([] ++ joinL [] (y :: r)) = _
    rw [joinL_nil (y :: r)]
    simp
theorem joinL_end : ∀ ps : List (List Nat), joinL [10] (ps ++ [[]]) = (ps.map (· ++ [10])).flatten
  | [] => rfl
  | [x] => by
    show x ++ ([10] ++ joinL [10] [[]]) = _
    simp [joinL]
  | x :: y :: r => by
    show x ++ ([10] ++ joinL [10] ((y :: r) ++ [[]])) = _
    rw [joinL_end (y :: r)]
    simp
theorem page_join (ls : List Str) : pageOf ls = Txt.join nlS (ls ++ [Str.empty]) := by
  refine ext_tl ?_
  unfold pageOf
  rw [join_eq, join_eq, tl_join, tl_join, List.map_append, tl_nl]
  have e : tl Str.empty = [] := rfl
  rw [List.map_cons, List.map_nil, e, joinL_nil, joinL_end, List.map_map, List.map_map]
  congr 1
  refine List.map_congr_left fun x _ => ?_
  show tl (x ++ nlS) = tl x ++ [10]
  rw [tl_append, tl_nl]
theorem page_split {ls : List Str} (h : ∀ l ∈ ls, 10 ∉ tl l) : Txt.split (pageOf ls) nlS = ls ++ [Str.empty] := by
  rw [page_join]
  refine split_join tl_nl nl_kind (by simp) fun p hp => ?_
  rcases List.mem_append.mp hp with z | z
  · exact h p z
  · rw [List.mem_singleton.mp z]
    exact fun z => by cases z
theorem tl_dg {i : Int} (h0 : 0 ≤ i) (h1 : i < 10) : tl (dgS i) = [48 + i.toNat] := by
  unfold dgS
  rw [tl_int, intL_word h0 h1]
theorem digits_word (z : Str) : litF lit_DIGITS z = wordVal (tl z) := by
  have hw : wordVal (tl z) = match tl z with | [c] => if 48 ≤ c ∧ c ≤ 53 then some ((c : Int) - 48) else none | _ => none := rfl
  by_cases h : ∃ k : Nat, k < 6 ∧ tl z = [48 + k]
  · obtain ⟨k, hk, e⟩ := h
    have : z = ⟨#[48 + k]⟩ := ext_tl (by rw [e])
    subst this
    have : k = 0 ∨ k = 1 ∨ k = 2 ∨ k = 3 ∨ k = 4 ∨ k = 5 := by omega
    rcases this with rfl | rfl | rfl | rfl | rfl | rfl <;> decide +kernel
  · have e1 : litF lit_DIGITS z = none := by
      unfold litF
      rw [List.find?_eq_none.mpr]
      · rfl
      · intro p hp hz
        have hz : p.1 = z := by simpa using hz
        subst hz
        apply h
        unfold lit_DIGITS at hp
        simp only [List.mem_cons, List.not_mem_nil, or_false] at hp
        rcases hp with rfl | rfl | rfl | rfl | rfl | rfl
        · exact ⟨0, by decide, by decide +kernel⟩
        · exact ⟨1, by decide, by decide +kernel⟩
        · exact ⟨2, by decide, by decide +kernel⟩
        · exact ⟨3, by decide, by decide +kernel⟩
        · exact ⟨4, by decide, by decide +kernel⟩
        · exact ⟨5, by decide, by decide +kernel⟩
    rw [e1]
    symm
    unfold wordVal
    split
    · rename_i c e
      split
      · rename_i hc
        exact absurd ⟨c - 48, by omega, by rw [e]; congr 1; omega⟩ h
      · rfl
    · rfl
/-- what a part of a line is read as -/
def digK (z : Str) : Key := match litF lit_DIGITS z with
  | some i => .inl i
  | none => .inr z
theorem digK_dg {i : Int} (h0 : 0 ≤ i) (h1 : i ≤ 5) : digK (dgS i) = .inl i := by
  unfold digK
  rw [digits_word, tl_dg h0 (by omega)]
  unfold wordVal
  dsimp only
  rw [if_pos (by omega)]
  show Sum.inl (((48 + i.toNat : Nat) : Int) - 48) = _
  congr 1
  omega
theorem digK_new : digK (Str.ofString "new") = .inr (Str.ofString "new") := by decide +kernel
theorem digK_value : digK (Str.ofString "value") = .inr (Str.ofString "value") := by decide +kernel
theorem digK_state : digK (Str.ofString "state") = .inr (Str.ofString "state") := by decide +kernel
theorem digK_rule : digK (Str.ofString "rule") = .inr (Str.ofString "rule") := by decide +kernel
def partsOf (z : Str) : List Key := (Txt.split z spS).map digK
/-- a key of a written rule -/
def KeyOk (k : Key) : Prop := (∃ i : Int, k = .inl i ∧ 0 ≤ i ∧ i ≤ 5) ∨ k = .inr (Str.ofString "new") ∨ k = .inr (Str.ofString "value")
theorem KeyOk.dig {k : Key} (h : KeyOk k) : digK (keyS k) = k := by
  rcases h with ⟨i, rfl, h0, h1⟩ | rfl | rfl
  · exact digK_dg h0 h1
  · exact digK_new
  · exact digK_value
theorem dg_free {i : Int} (h0 : 0 ≤ i) (h1 : i < 10) {s : Nat} (hs : s < 48) : s ∉ tl (dgS i) := by
  rw [tl_dg h0 h1]
  intro z
  have := List.mem_singleton.mp z
  omega
theorem KeyOk.free {k : Key} (h : KeyOk k) {s : Nat} (hs : s = 32 ∨ s = 10) : s ∉ tl (keyS k) := by
  rcases h with ⟨i, rfl, h0, h1⟩ | rfl | rfl
  · exact dg_free h0 (by omega) (by omega)
  · rcases hs with rfl | rfl <;> decide +kernel
  · rcases hs with rfl | rfl <;> decide +kernel
def StOk2 (k : Int × Int) : Prop := 0 ≤ k.1 ∧ k.1 ≤ 3 ∧ 0 ≤ k.2 ∧ k.2 ≤ 3
theorem state_join (k : Int × Int) : stateL k = Txt.join spS [Str.ofString "state", dgS k.1, dgS k.2] := by
  refine ext_tl ?_
  unfold stateL
  rw [join_eq, tl_join]
  show _ = tl (Str.ofString "state") ++ (tl spS ++ (tl (dgS k.1) ++ (tl spS ++ tl (dgS k.2))))
  rw [tl_append, tl_append, tl_append, show tl (Str.ofString "state ") = tl (Str.ofString "state") ++ tl spS by decide +kernel]
  simp only [List.append_assoc]
theorem state_parts {k : Int × Int} (h : StOk2 k) : partsOf (stateL k) = [.inr (Str.ofString "state"), .inl k.1, .inl k.2] := by
  obtain ⟨h1, h2, h3, h4⟩ := h
  unfold partsOf
  rw [state_join, split_join tl_sp sp_kind (by simp) fun p hp => ?_]
  · show [digK _, digK _, digK _] = _
    rw [digK_state, digK_dg h1 (by omega), digK_dg h3 (by omega)]
  · simp only [List.mem_cons, List.not_mem_nil, or_false] at hp
    rcases hp with rfl | rfl | rfl
    · decide +kernel
    · exact dg_free h1 (by omega) (by omega)
    · exact dg_free h3 (by omega) (by omega)
theorem state_free {k : Int × Int} (h : StOk2 k) : 10 ∉ tl (stateL k) := by
  obtain ⟨h1, h2, h3, h4⟩ := h
  unfold stateL
  rw [tl_append, tl_append, tl_append]
  simp only [List.mem_append, not_or]
  exact ⟨⟨⟨by decide +kernel, dg_free h1 (by omega) (by omega)⟩, by decide +kernel⟩, dg_free h3 (by omega) (by omega)⟩
theorem words_free {n : Int} (h1 : 1 ≤ n) (h3 : n ≤ 3) : 10 ∉ tl (wordsL n) := by
  unfold wordsL
  rw [tl_append]
  simp only [List.mem_append, not_or]
  exact ⟨by decide +kernel, dg_free (by omega) (by omega) (by omega)⟩
theorem words_first {n : Int} (h1 : 1 ≤ n) (h3 : n ≤ 3) : litF lit_FIRST_LINES (wordsL n) = some n := by
  have : n = 1 ∨ n = 2 ∨ n = 3 := by omega
  rcases this with rfl | rfl | rfl <;> decide +kernel
/-- the parts of a written rule -/
def RuK (r : PRule) : Prop := (∀ k ∈ r.1, KeyOk k) ∧ 0 ≤ r.2.1 ∧ r.2.1 ≤ 5 ∧ ∀ k ∈ r.2.2, KeyOk k
theorem rule_parts {r : PRule} (h : RuK r) : partsOf (ruleL r) = .inr (Str.ofString "rule") :: (r.1 ++ .inl r.2.1 :: r.2.2) := by
  obtain ⟨h1, h2, h3, h4⟩ := h
  unfold partsOf ruleL
  rw [split_join tl_sp sp_kind (by unfold ruleW; simp) fun p hp => ?_]
  · unfold ruleW
    rw [List.map_cons, digK_rule, List.map_append, List.map_cons, digK_dg h2 h3, List.map_map, List.map_map]
    have e : ∀ l : List Key, (∀ k ∈ l, KeyOk k) → l.map (digK ∘ keyS) = l := fun l hl => by
      conv => rhs; rw [← List.map_id l]
      exact List.map_congr_left fun k hk => (hl k hk).dig
    rw [e _ h1, e _ h4]
  · unfold ruleW at hp
    simp only [List.mem_cons, List.mem_append, List.mem_map] at hp
    rcases hp with rfl | ⟨k, hk, rfl⟩ | rfl | ⟨k, hk, rfl⟩
    · decide +kernel
    · exact (h1 k hk).free (.inl rfl)
    · exact dg_free h2 (by omega) (by omega)
    · exact (h4 k hk).free (.inl rfl)
theorem joinL_free {s : Nat} {S : List Nat} (hS : s ∉ S) : ∀ ps : List (List Nat), (∀ p ∈ ps, s ∉ p) → s ∉ joinL S ps
  | [], _ => fun z => by cases z
  | [x], h => h x List.mem_cons_self
  | x :: y :: r, h => by
    show s ∉ x ++ (S ++ joinL S (y :: r))
    simp only [List.mem_append, not_or]
    exact ⟨h x List.mem_cons_self, hS, joinL_free hS (y :: r) fun p hp => h p (List.mem_cons_of_mem _ hp)⟩
theorem rule_free {r : PRule} (h : RuK r) : 10 ∉ tl (ruleL r) := by
  obtain ⟨h1, h2, h3, h4⟩ := h
  unfold ruleL
  rw [join_eq, tl_join]
  refine joinL_free (by decide +kernel) _ fun p hp => ?_
  obtain ⟨q, hq, rfl⟩ := List.mem_map.mp hp
  unfold ruleW at hq
  simp only [List.mem_cons, List.mem_append, List.mem_map] at hq
  rcases hq with rfl | ⟨k, hk, rfl⟩ | rfl | ⟨k, hk, rfl⟩
  · decide +kernel
  · exact (h1 k hk).free (.inr rfl)
  · exact dg_free h2 (by omega) (by omega)
  · exact (h4 k hk).free (.inr rfl)

/-! ### rules in order; lines read one after the other -/
theorem lookP_mem {R : List PRule} (nd : (R.map (·.1)).Nodup) {k : List Key} {v : Int × List Key} (h : (k, v) ∈ R) : lookP R k = some v := by
  induction R with
  | nil => cases h
  | cons p r ih =>
    unfold lookP
    have nd' := List.nodup_cons.mp nd
    rcases List.mem_cons.mp h with e | e
    · subst e
      rw [List.find?_cons_of_pos (by simp)]
      rfl
    · have : ¬ p.1 = k := fun z => nd'.1 (List.mem_map.mpr ⟨_, e, z.symm⟩)
      rw [List.find?_cons_of_neg (by simpa using this)]
      exact ih nd'.2 e
def sortP (R : List PRule) : List PRule := (srt rankK (R.map (·.1))).map fun k => (k, (lookP R k).getD (0, []))
theorem look_in {R : List PRule} (nd : (R.map (·.1)).Nodup) {k : List Key} (h : k ∈ R.map (·.1)) : ∃ v, lookP R k = some v ∧ (k, v) ∈ R ∧ lookR (rowsOf R) k = ruleD v := by
  obtain ⟨r, hr, rfl⟩ := List.mem_map.mp h
  have e := lookP_mem nd (k := r.1) (v := r.2) hr
  exact ⟨r.2, e, hr, (lookP_some e).2.2⟩
theorem sortP_keys (R : List PRule) : (sortP R).map (·.1) = srt rankK (R.map (·.1)) := by
  unfold sortP
  rw [List.map_map]
  exact List.map_id _
theorem sortP_rows {R : List PRule} (nd : (R.map (·.1)).Nodup) : rowsOf (sortP R) = sortR (rowsOf R) := by
  unfold sortP sortR rowsOf
  rw [List.map_map, List.map_map]
  have e : (List.map ((fun p : List Key × PyData => p.1) ∘ fun p : PRule => (p.1, ruleD p.2)) R) = R.map (·.1) := rfl
  rw [e]
  refine List.map_congr_left fun k hk => ?_
  obtain ⟨v, e1, _, e2⟩ := look_in nd (srt_mem.mp hk)
  show (k, ruleD ((lookP R k).getD (0, []))) = (k, lookR (rowsOf R) k)
  rw [e1, e2]
  rfl
theorem sortP_mem {R : List PRule} (nd : (R.map (·.1)).Nodup) {r : PRule} (h : r ∈ sortP R) : r ∈ R := by
  obtain ⟨k, hk, rfl⟩ := List.mem_map.mp h
  obtain ⟨v, e1, e2, _⟩ := look_in nd (srt_mem.mp hk)
  rw [e1]
  exact e2
theorem sortP_nodup {R : List PRule} (nd : (R.map (·.1)).Nodup) : ((sortP R).map (·.1)).Nodup := by
  rw [sortP_keys]
  exact srt_nodup nd
theorem sortP_len (R : List PRule) : (sortP R).length = R.length := by
  have := congrArg List.length (sortP_keys R)
  rw [List.length_map, srt_len, List.length_map] at this
  exact this
theorem ruK_of {w : Int} {ks : List (Int × Int)} {r : PRule} (hk : KindsOk ks) (hw : w ≤ 3) (h : RuleOk w ks r) : RuK r := by
  obtain ⟨i, j, t, e, i0, i1, j0, j1, ht, g0, g1, hs⟩ := h
  have l6 := hk.len.2
  have hb := (held_bd hk i0 i1).2
  refine ⟨?_, g0, by omega, fun k hk' => ?_⟩
  · rw [e]
    intro k hk'
    simp only [List.mem_cons, List.not_mem_nil, or_false] at hk'
    rcases hk' with rfl | rfl | rfl
    · exact .inl ⟨i, rfl, i0, by omega⟩
    · exact .inl ⟨j, rfl, j0, by omega⟩
    · rcases ht with ⟨n, rfl, n0, n1⟩ | rfl
      · exact .inl ⟨n, rfl, n0, by omega⟩
      · exact .inr (.inl rfl)
  · rcases hs.all k hk' with ⟨n, rfl, n0, n1⟩ | ⟨rfl, _⟩
    · exact .inl ⟨n, rfl, n0, by omega⟩
    · exact .inr (.inr rfl)
/-- how many rules there may be -/
theorem nat_nodup : ∀ (n : Nat) (l : List Nat), l.Nodup → (∀ x ∈ l, x < n) → l.length ≤ n
  | 0, [], _, _ => Nat.le_refl _
  | 0, x :: _, _, h => absurd (h x List.mem_cons_self) (Nat.not_lt_zero _)
  | n + 1, l, nd, h => by
    have e := nat_nodup n (l.erase n) (nd.erase n) (fun x hx => by
      have hx2 := (nd.mem_erase_iff).mp hx
      have := h x hx2.2
      have := hx2.1
      omega)
    have := List.length_erase (a := n) (l := l)
    split at this <;> omega
def keyN : List Key → Nat
  | [.inl i, .inl j, .inl r] => i.toNat * 12 + j.toNat * 4 + r.toNat
  | [.inl i, .inl j, .inr _] => i.toNat * 12 + j.toNat * 4 + 3
  | _ => 0
theorem rules_len {w : Int} {ks : List (Int × Int)} {R : List PRule} (hk : KindsOk ks) (hw : w ≤ 3) (h : ∀ r ∈ R, RuleOk w ks r) (nd : (R.map (·.1)).Nodup) : R.length ≤ 72 := by
  have key : ∀ r ∈ R, ∃ (i j : Int) (t : Key), r.1 = [Sum.inl i, Sum.inl j, t] ∧ 0 ≤ i ∧ i < 6 ∧ 0 ≤ j ∧ j < 3 ∧ ((∃ n : Int, t = Sum.inl n ∧ 0 ≤ n ∧ n < 3) ∨ t = Sum.inr (Str.ofString "new")) := fun r hr => by
    obtain ⟨i, j, t, e, i0, i1, j0, j1, ht, _⟩ := h r hr
    have := hk.len.2
    have hb := (held_bd hk i0 i1).2
    refine ⟨i, j, t, e, i0, by omega, j0, by omega, ?_⟩
    rcases ht with ⟨n, rfl, n0, n1⟩ | rfl
    · exact .inl ⟨n, rfl, n0, by omega⟩
    · exact .inr rfl
  have e : R.length = ((R.map (·.1)).map keyN).length := by rw [List.length_map, List.length_map]
  rw [e]
  refine nat_nodup 72 _ ?_ fun x hx => ?_
  · rw [List.map_map]
    have nd2 : R.Pairwise fun a b => a.1 ≠ b.1 := List.pairwise_map.mp nd
    refine List.pairwise_map.mpr (nd2.imp_of_mem fun {a b} ha hb ne z => ne ?_)
    obtain ⟨i, j, t, e1, i0, i1, j0, j1, ht⟩ := key a ha
    obtain ⟨i', j', t', e1', i0', i1', j0', j1', ht'⟩ := key b hb
    have z : keyN a.1 = keyN b.1 := z
    rw [e1, e1'] at z ⊢
    rcases ht with ⟨n, rfl, n0, n1⟩ | rfl <;> rcases ht' with ⟨n', rfl, n0', n1'⟩ | rfl <;> simp only [keyN] at z
    · have a1 : i = i' := by omega
      have a2 : j = j' := by omega
      have a3 : n = n' := by omega
      rw [a1, a2, a3]
    · omega
    · omega
    · have a1 : i = i' := by omega
      have a2 : j = j' := by omega
      rw [a1, a2]
  · obtain ⟨k, hk', rfl⟩ := List.mem_map.mp hx
    obtain ⟨r, hr, rfl⟩ := List.mem_map.mp hk'
    obtain ⟨i, j, t, e1, i0, i1, j0, j1, ht⟩ := key r hr
    rw [e1]
    rcases ht with ⟨n, rfl, n0, n1⟩ | rfl <;> (simp only [keyN]; omega)
abbrev kSt : Key := .inr (Str.ofString "state")
abbrev kRu : Key := .inr (Str.ofString "rule")
def StartL (P : Plan) (ps : List Key) (P' : Plan) : Prop := ∃ v : Int, ps = [kSt, .inl v, .inl 0] ∧ 0 ≤ v ∧ v ≤ 3 ∧ P' = ⟨P.words, [(v, 0)], []⟩
def StateL (P : Plan) (ps : List Key) (P' : Plan) : Prop := ∃ (p : Key) (v h : Int), ps = [p, .inl v, .inl h] ∧ P.rules = [] ∧ 0 ≤ v ∧ v ≤ 3 ∧ 0 ≤ h ∧ h ≤ 3 ∧ P.kinds.length < 6 ∧ P' = ⟨P.words, P.kinds ++ [(v, h)], P.rules⟩
def RuleL (P : Plan) (ps : List Key) (P' : Plan) : Prop := ∃ (s w : Int) (t : Key) (g : Int) (src : List Key), ps = kRu :: .inl s :: .inl w :: t :: .inl g :: src ∧ RuleOk P.words P.kinds ([.inl s, .inl w, t], g, src) ∧ [.inl s, .inl w, t] ∉ P.rules.map (·.1) ∧
  (srt rankK (P.rules.map (·.1) ++ [[.inl s, .inl w, t]])).getLast? = some [.inl s, .inl w, t] ∧ P' = ⟨P.words, P.kinds, P.rules ++ [([.inl s, .inl w, t], g, src)]⟩
def ReadL (P : Plan) (i : Nat) (ps : List Key) (P' : Plan) : Prop := (i = 1 ∧ StartL P ps P') ∨ (i ≠ 1 ∧ ps.head? = some kSt ∧ StateL P ps P') ∨ (i ≠ 1 ∧ ps.head? ≠ some kSt ∧ RuleL P ps P')
/-- what stands behind the first k lines -/
inductive RdTo (ls : List Str) : Nat → Plan → Prop
  | zero {z : Str} {n : Int} (h : ls[0]? = some z) (hn : litF lit_FIRST_LINES z = some n) : RdTo ls 1 ⟨n, [(0, 0)], []⟩
  | step {k : Nat} {z : Str} {P P' : Plan} (r : RdTo ls k P) (h : ls[k]? = some z) (l : ReadL P k (partsOf z) P') : RdTo ls (k + 1) P'
def Parsed (z : Str) (P : Plan) : Prop := ∃ ends : Nat, (Txt.split z nlS).length = ends + 1 ∧ ends ≠ 0 ∧ ends ≠ 1 ∧ RdTo (Txt.split z nlS) ends P ∧ (Txt.split z nlS)[ends]? = some Str.empty
inductive ParseErr (z : Str) : Nat → Prop
  | first {l : Str} (h : (Txt.split z nlS)[0]? = some l) (hn : litF lit_FIRST_LINES l = none) : ParseErr z 0
  | line {k ends : Nat} {P : Plan} {l : Str} (he : (Txt.split z nlS).length = ends + 1) (hk : k < ends) (r : RdTo (Txt.split z nlS) k P) (h : (Txt.split z nlS)[k]? = some l) (no : ¬ ∃ P', ReadL P k (partsOf l) P') : ParseErr z k
  | end_ {ends : Nat} {P : Plan} (he : (Txt.split z nlS).length = ends + 1) (r : RdTo (Txt.split z nlS) (max 1 ends) P) (h : ends ≤ 1 ∨ (Txt.split z nlS)[ends]? ≠ some Str.empty) : ParseErr z ends
theorem first_of {z : Str} {n : Int} (h : litF lit_FIRST_LINES z = some n) : 1 ≤ n ∧ n ≤ 3 := by
  unfold litF lit_FIRST_LINES at h
  obtain ⟨p, hp, rfl⟩ := Option.map_eq_some_iff.mp h
  have := List.mem_of_find?_eq_some hp
  simp only [List.mem_cons, List.not_mem_nil, or_false] at this
  rcases this with rfl | rfl | rfl <;> decide
theorem heldAt_app {ks : List (Int × Int)} {m : Int × Int} {i : Int} (h0 : 0 ≤ i) (h1 : i < ks.length) : heldAt (ks ++ [m]) i = heldAt ks i := by
  unfold heldAt
  rw [List.getElem?_append_left (by omega)]
theorem ok_first {n : Int} (h1 : 1 ≤ n) (h3 : n ≤ 3) {v : Int} (v0 : 0 ≤ v) (v3 : v ≤ 3) : PlanOk ⟨n, [(v, 0)], []⟩ :=
  ⟨⟨h1, h3⟩, ⟨⟨Nat.le_refl 1, (by decide : (1 : Nat) ≤ 6)⟩, rfl, fun k hk => by rw [List.mem_singleton.mp hk]; exact ⟨v0, v3, Int.le_refl 0, by show (0 : Int) ≤ 3; decide⟩⟩, (fun _ z => by cases z), List.nodup_nil, Nat.zero_le _⟩
theorem ok_read {P P' : Plan} {i : Nat} {ps : List Key} (ok : PlanOk P) (h : ReadL P i ps P') : PlanOk P' := by
  rcases h with ⟨_, v, _, v0, v3, rfl⟩ | ⟨_, _, p, v, h, _, hr, v0, v3, h0, h3, hl, rfl⟩ | ⟨_, _, s, w, t, g, src, _, hok, hn, _, rfl⟩
  · exact ok_first ok.w.1 ok.w.2 v0 v3
  · refine ⟨ok.w, kinds_push ok.k (by omega) v0 v3 h0 h3, ?_, ok.nd, ok.len⟩
    dsimp only
    rw [hr]
    exact fun _ z => by cases z
  · have hr : ∀ r ∈ P.rules ++ [([Sum.inl s, Sum.inl w, t], g, src)], RuleOk P.words P.kinds r := fun r hr => by
      rcases List.mem_append.mp hr with z | z
      · exact ok.r r z
      · rw [List.mem_singleton.mp z]
        exact hok
    have nd : ((P.rules ++ [([Sum.inl s, Sum.inl w, t], g, src)]).map (·.1)).Nodup := by
      rw [List.map_append]
      refine List.nodup_append.mpr ⟨ok.nd, by simp, fun a ha b hb => ?_⟩
      rw [List.map_cons, List.map_nil, List.mem_singleton] at hb
      subst hb
      rintro rfl
      exact hn ha
    exact ⟨ok.w, ok.k, hr, nd, Nat.le_trans (rules_len ok.k ok.w.2 hr nd) (by decide)⟩
theorem RdTo.ok {ls : List Str} {k : Nat} {P : Plan} (r : RdTo ls k P) : PlanOk P ∧ 1 ≤ k ∧ (k = 1 → P.kinds = [(0, 0)] ∧ P.rules = []) := by
  induction r with
  | zero h hn =>
    obtain ⟨a, b⟩ := first_of hn
    exact ⟨ok_first a b (Int.le_refl 0) (by decide), Nat.le_refl 1, fun _ => ⟨rfl, rfl⟩⟩
  | step r h l ih => exact ⟨ok_read ih.1 l, by omega, fun z => by have := ih.2.1; omega⟩

/-! ### lines are read -/
/-- all stands but what the watcher itself holds -/
def Kp3 (lv lh d : Addr) (H H' : Hp) : Prop := ∀ c o, H c = some o → c ≠ lv → c ≠ lh → c ≠ d → H' c = some o
theorem Kp3.refl {lv lh d : Addr} (H : Hp) : Kp3 lv lh d H H := fun _ _ e _ _ _ => e
theorem Same.kp3 {lv lh d : Addr} {H H' : Hp} (s : Same H H') : Kp3 lv lh d H H' := fun c o e _ _ _ => s c o e
theorem Kp3.after {lv lh d : Addr} {H H1 H' : Hp} (s : Same H H1) (k : Kp3 lv lh d H1 H') : Kp3 lv lh d H H' := fun c o e a b x => k c o (s c o e) a b x
/-- what comes of a line -/
def OutR (C : Addr) (Cs : List Addr) (H : Hp) (x lv lh d : Addr) (Rel : Plan → Prop) (Q : VK) (E : Value → Option Addr → Hp → Prop) : Prop :=
  (∀ P' H', Rel P' → Kp3 lv lh d H H' → WP C H' x lv lh d P' → Q (.bl true) H') ∧
  ((¬ ∃ P', Rel P') → (∀ H', Kp3 lv lh d H H' → Q (.bl false) H') ∧ ∀ cls ∈ Cs, ∀ H' e f, Kp3 lv lh d H H' → H' e = none → E (.ref cls) (some e) (upd H' e (.xd f)))
def sp_read_start (C : Addr) (Cs : List Addr) : Sp := fun us H Q E => ∃ (x lv lh d a : Addr) (pl : Plan) (ps : List Key), us = [.ref x, .ref a] ∧ WP C H x lv lh d pl ∧ H a = some (.lst (ps.map kV)) ∧ ps.length ≤ 200000 ∧ pl.kinds = [(0, 0)] ∧ pl.rules = [] ∧ OutR C Cs H x lv lh d (StartL pl ps) Q E
theorem keyV_inj {a b : Key} (h : kV a = kV b) : a = b := by
  cases a <;> cases b <;> first | (cases h; rfl) | cases h
theorem keyV_eq {a b : Key} : decide (kV a = kV b) = decide (a = b) := by
  by_cases h : a = b
  · subst h
    rw [decide_eq_true rfl, decide_eq_true rfl]
  · rw [decide_eq_false h, decide_eq_false (fun e => h (keyV_inj e))]
theorem at_keys {ps : List Key} {i : Nat} {k : Key} (h : ps[i]? = some k) : atI (ps.map kV) (i : Int) = some (kV k) := atI_nat (by rw [List.getElem?_map, h]; rfl)
theorem nk_t {k j : Key} (h : (!decide (kV k = kV j)) = true) : k ≠ j := by
  rw [keyV_eq] at h
  rintro rfl
  rw [decide_eq_true rfl] at h
  cases h
theorem nk_f {k j : Key} (h : ¬ (!decide (kV k = kV j)) = true) : k = j := by
  rw [keyV_eq] at h
  rcases Classical.em (k = j) with z | z
  · exact z
  · exact absurd (by rw [decide_eq_false z]; rfl) h
theorem len_t {xs : List V} {n : Nat} (h : (!decide (V.int (xs.length : Int) = V.int (n : Int))) = true) : xs.length ≠ n := by
  rintro rfl
  rw [decide_eq_true rfl] at h
  cases h
theorem len_f {xs : List V} {n : Nat} (h : ¬ (!decide (V.int (xs.length : Int) = V.int (n : Int))) = true) : xs.length = n := by
  rcases Classical.em (xs.length = n) with z | z
  · exact z
  · exact absurd (by rw [decide_eq_false (fun e => z (by have := V.int.inj e; omega))]; rfl) h
theorem line5 : 200000 ≤ sizeLine := by decide
theorem sortR_len (R : Rows) : (sortR R).length = R.length := by
  unfold sortR
  rw [List.length_map, srt_len, List.length_map]
section
variable {P : Program} {w : World} {K : PySem.W.Frag} {mg : Str → Option Value} {base : Heap}
theorem G_Watcher_held_counts (T : Tx K mg) : FnG P w K mg base CX0 1 T.Watcher_held_counts.f T.Watcher_held_counts.fd ["self"] (sp_W_hel T.Watcher.C) := ok_Watcher_held_counts T.Watcher_held_counts.F T.W T.m_tuple
theorem G_Watcher_len (T : Tx K mg) : FnG P w K mg base CX0 1 T.Watcher_len.f T.Watcher_len.fd ["self"] (sp_W_len T.Watcher.C) := ok_Watcher_len T.Watcher_len.F T.W T.m_len
theorem G_Watcher_rules (T : Tx K mg) : FnG P w K mg base CX0 2 T.Watcher_rules.f T.Watcher_rules.fd ["self"] (sp_W_rules T.Watcher.C) := ok_Watcher_rules T.Watcher_rules.F T.rule_order.F T.bt_rule_order T.rule_order.g ⟨_, _, _, _, _, T.part_order.F, T.bt_part_order, T.part_order.g, T.g_NEW, T.g_VALUE, T.g_MOST_HELD⟩ T.W T.m_sorted
abbrev N_read_start : List Str := ["watcher", "parts"]
theorem sc_read_start : FnScope N_read_start ["watcher", "parts"] (defScope s_read_start) := ⟨rfl, rfl, rfl, by decide +kernel, rfl, by decide +kernel, by decide +kernel⟩
theorem Gg_read_start (T : Tx K mg) {Cs : List Addr} (hC : T.NotAVerdict.C ∈ Cs) : FnG P w K mg base (L2.CX P w) 5 T.read_start.f T.read_start.fd ["watcher", "parts"] (sp_read_start T.Watcher.C Cs) := by
  refine okGX T.read_start.F sc_read_start (fun vs H Q E h => ?_) (fun cdv A outer s H vs Q E gd hr h => ?_)
  · obtain ⟨x, lv, lh, d, a, pl, ps, rfl, _⟩ := h
    rfl
  · obtain ⟨x, lv, lh, d, a, pl, ps, rfl, hW, ha, lps, hk, hrl, q1, q2⟩ := h
    have L5 := line5
    refine ⟨_, 
      (pss_cons (ps_if (PW.pt (pw_or (pt_cmpR op_ne (pe_callB call_len_seq (by rfl) T.m_len PySem.boot_len (pa_cons (pv 1) pa_nil)) pe_int (nomark _)) (pw_or (pt_cmpR op_ne (pe_ix ix_list (pv 1) pe_int (fun _ _ => rfl)) pe_str (nomark _)) (pw_or1 (pt_cmpR op_ne (pe_ix ix_list (pv 1) pe_int (fun _ _ => rfl)) pe_int (nomark _)))))) 
        (pss_one (ps_ret pe_bl)) -- return False
         pss_nil) -- if len(parts) != 3 or parts[0] != 'state' or parts[2] != 0:
      (pss_cons (ps_expr (pe_methG (pv 0) T.Watcher.cl T.Watcher_set_verdict.M (G_Watcher_set_verdict T) gd (hr.mono (by decide)) T.Watcher_set_verdict.b .nil (L2.passes_call (W := fun cls d _ H => E cls d H) (takes_of rfl rfl rfl rfl) (fun _ _ _ _ h => h)) (pa_cons pe_int (pa_cons (pe_ix ix_list (pv 1) pe_int (fun _ _ => rfl)) pa_nil)))) -- watcher.set_verdict(0, parts[1])
      (pss_one (ps_ret pe_bl)) -- return True
      )) , ?_⟩
    have bad : ∀ {b : Bool}, (b = true → ¬ ∃ P', StartL pl ps P') → b = true → Q (.bl false) H := fun h e => (q2 (h e)).1 H (Kp3.refl H)
    refine ⟨.ref a, rfl, a, _, rfl, .inl (SqL.of ha), rfl, _, rfl, ?_⟩
    refine ite2 (fun hb => bad (fun _ => ?_) rfl) (fun hb => ?_)
    · rintro ⟨P', v, rfl, _⟩
      exact len_t (n := 3) hb rfl
    have h3 := len_f (n := 3) hb
    rw [List.length_map] at h3
    obtain ⟨k0, k1, k2, rfl⟩ : ∃ k0 k1 k2, ps = [k0, k1, k2] := by
      match ps, h3 with
      | [a, b, c], _ => exact ⟨a, b, c, rfl⟩
    refine ⟨.ref a, rfl, a, _, 0, kV k0, rfl, rfl, SqL.of ha, at_keys rfl, by cases k0 <;> rfl, _, rfl, ?_⟩
    clear hb
    refine ite2 (fun hb => bad (fun _ => ?_) rfl) (fun hb => ?_)
    · rintro ⟨P', v, e, _⟩
      cases e
      exact nk_t (j := kSt) hb rfl
    have e0 : k0 = kSt := nk_f (j := kSt) hb
    subst e0
    refine ⟨.ref a, rfl, a, _, 2, kV k2, rfl, rfl, SqL.of ha, at_keys rfl, by cases k2 <;> rfl, _, rfl, ?_⟩
    clear hb
    refine ite2 (fun hb => bad (fun _ => ?_) rfl) (fun hb => ?_)
    · rintro ⟨P', v, e, _⟩
      cases e
      exact nk_t (j := .inl 0) hb rfl
    have e2 : k2 = .inl 0 := nk_f (j := .inl 0) hb
    subst e2
    obtain ⟨dx, hx⟩ := hW.w.ins
    have lks : (pl.kinds.map (·.1)).length = 1 := by rw [hk]; rfl
    refine ⟨.ref x, rfl, x, dx, _, rfl, hx, rfl, .ref a, rfl, a, _, 1, kV k1, rfl, rfl, SqL.of ha, at_keys rfl, ?_⟩
    refine ⟨x, lv, lh, d, _, _, _, _, x, .int 0, kV k1, .int 0, kD k1, rfl, hW.w, .int _, ldK k1, fun bad => ?_, fun _ bad => ?_, fun s v es ev _ _ v0 v3 H' k' hW' => ?_⟩
    · rw [lks] at bad
      cases bad
    · intro e he
      refine (q2 ?_).2 _ hC H e _ (Kp3.refl H) he
      rintro ⟨P', v, e1, v0, v3, _⟩
      cases e1
      rw [show btw (kD (.inl v)) 0 3 = true from btw_true v0 v3] at bad
      cases bad
    · cases es
      obtain rfl : k1 = .inl v := kD_inj (b := .inl v) ev
      rw [hk, hrl] at hW'
      exact q1 ⟨pl.words, [(v, 0)], []⟩ H' ⟨v, rfl, v0, v3, rfl⟩ (fun c o e a b c' => k' c o e a) ⟨hW', ok_first hW.ok.w.1 hW.ok.w.2 v0 v3⟩
def sp_read_state (C : Addr) (Cs : List Addr) : Sp := fun us H Q E => ∃ (x lv lh d a : Addr) (pl : Plan) (ps : List Key), us = [.ref x, .ref a] ∧ WP C H x lv lh d pl ∧ H a = some (.lst (ps.map kV)) ∧ ps.length ≤ 200000 ∧ OutR C Cs H x lv lh d (StateL pl ps) Q E
abbrev N_read_state : List Str := ["watcher", "parts"]
theorem sc_read_state : FnScope N_read_state ["watcher", "parts"] (defScope s_read_state) := ⟨rfl, rfl, rfl, by decide +kernel, rfl, by decide +kernel, by decide +kernel⟩
theorem Gg_read_state (T : Tx K mg) {Cs : List Addr} (hC : T.NotAVerdict.C ∈ Cs) (hC2 : T.LimitExceeded.C ∈ Cs) : FnG P w K mg base (L2.CX P w) 5 T.read_state.f T.read_state.fd ["watcher", "parts"] (sp_read_state T.Watcher.C Cs) := by
  refine okGX T.read_state.F sc_read_state (fun vs H Q E h => ?_) (fun cdv A outer s H vs Q E gd hr h => ?_)
  · obtain ⟨x, lv, lh, d, a, pl, ps, rfl, _⟩ := h
    rfl
  · obtain ⟨x, lv, lh, d, a, pl, ps, rfl, hW, ha, lps, q1, q2⟩ := h
    have L5 := line5
    refine ⟨_, 
      (pss_cons (ps_if (PW.pt (pw_or (pt_cmpR op_ne (pe_callB call_len_seq (by rfl) T.m_len PySem.boot_len (pa_cons (pv 1) pa_nil)) pe_int (nomark _)) (pw_or1 (pt_cmpR op_gt (pe_callB call_len_dT (by rfl) T.m_len PySem.boot_len (pa_cons (pe_meth0G (pv 0) T.Watcher.cl T.Watcher_rules.M (G_Watcher_rules T) gd (hr.mono (by decide)) T.Watcher_rules.b .nil pass0) pa_nil)) pe_int (nomark _))))) 
        (pss_one (ps_ret pe_bl)) -- return False
         pss_nil) -- if len(parts) != 3 or len(watcher.rules()) > 0:
      (pss_cons (ps_expr (pe_methG (pv 0) T.Watcher.cl T.Watcher_add_state.M (G_Watcher_add_state T) gd (hr.mono (by decide)) T.Watcher_add_state.b .nil (L2.passes_call (W := fun cls d _ H => E cls d H) (takes_of rfl rfl rfl rfl) (fun _ _ _ _ h => h)) (pa_cons (pe_ix ix_list (pv 1) pe_int (fun _ _ => rfl)) (pa_cons (pe_ix ix_list (pv 1) pe_int (fun _ _ => rfl)) pa_nil)))) -- watcher.add_state(parts[1], parts[2])
      (pss_one (ps_ret pe_bl)) -- return True
      )) , ?_⟩
    have bad : ∀ {b : Bool} H', Same H H' → (b = true → ¬ ∃ P', StateL pl ps P') → b = true → Q (.bl false) H' := fun H' s h e => (q2 (h e)).1 H' (Same.kp3 s)
    refine ⟨.ref a, rfl, a, _, rfl, .inl (SqL.of ha), rfl, _, rfl, ?_⟩
    refine ite2 (fun hb => bad H (Same.refl H) (fun _ => ?_) rfl) (fun hb => ?_)
    · rintro ⟨P', p, v, h, rfl, _⟩
      exact len_t (n := 3) hb rfl
    have h3 := len_f (n := 3) hb
    rw [List.length_map] at h3
    obtain ⟨k0, k1, k2, rfl⟩ : ∃ k0 k1 k2, ps = [k0, k1, k2] := by
      match ps, h3 with
      | [a, b, c], _ => exact ⟨a, b, c, rfl⟩
    obtain ⟨dx, hx⟩ := hW.w.ins
    refine ⟨.ref x, rfl, x, dx, _, rfl, hx, rfl, x, lv, lh, d, _, _, _, _, rfl, hW.w, fun t H' kvs s1 nt ht hkv => ?_⟩
    have lk : kvs.length = pl.rules.length := by
      rw [Paired.length hkv, sortR_len]
      unfold rowsOf
      rw [List.length_map]
    clear hb
    refine ⟨t, kvs, rfl, ht, _, _, rfl, rfl, _, rfl, ite2 (fun hb => bad H' s1 (fun _ => ?_) rfl) (fun hb => ?_)⟩
    · rintro ⟨P', p, v, h, _, hr, _⟩
      rw [lk, hr] at hb
      exact absurd (of_decide_eq_true hb) (by decide)
    have hr0 : pl.rules = [] := by
      rw [lk] at hb
      refine List.eq_nil_of_length_eq_zero ?_
      rcases Nat.eq_zero_or_pos pl.rules.length with z | z
      · exact z
      · exact absurd (decide_eq_true (by omega)) hb
    have hW1 := hW.w.mono s1
    have ha1 := s1 _ _ ha
    have hx1 := s1 _ _ hx
    refine ⟨.ref x, rfl, x, dx, _, rfl, hx1, rfl, .ref a, rfl, a, _, 1, kV k1, rfl, rfl, SqL.of ha1, at_keys rfl, .ref a, rfl, a, _, 2, kV k2, rfl, rfl, SqL.of ha1, at_keys rfl, ?_⟩
    have lks : (pl.kinds.map (·.1)).length = pl.kinds.length := List.length_map _
    refine ⟨x, lv, lh, d, _, _, _, _, x, kV k1, kV k2, kD k1, kD k2, rfl, hW1, ldK k1, ldK k2, fun bd e he => ?_, fun b1 bd e he => ?_, fun b1 b2 six e he => ?_, fun v h ev eh b1 b2 l6 H2 k2' hW2 => ?_⟩
    · refine (q2 ?_).2 _ hC H' e _ (Same.kp3 s1) he
      rintro ⟨P', p, v, h, e1, _, v0, v3, _⟩
      cases e1
      rw [show btw (kD (.inl v)) 0 3 = true from btw_true v0 v3] at bd
      cases bd
    · refine (q2 ?_).2 _ hC2 H' e _ (Same.kp3 s1) he
      rintro ⟨P', p, v, h, e1, _, v0, v3, g0, g3, _⟩
      cases e1
      rw [show btw (kD (.inl h)) 0 3 = true from btw_true g0 g3] at bd
      cases bd
    · refine (q2 ?_).2 _ hC2 H' e _ (Same.kp3 s1) he
      rintro ⟨P', p, v, h, e1, _, v0, v3, h0, h3, l, _⟩
      omega
    · obtain rfl : k1 = .inl v := kD_inj (b := .inl v) ev
      obtain rfl : k2 = .inl h := kD_inj (b := .inl h) eh
      obtain ⟨z1, e1, v0, v3⟩ := btw_int b1
      cases e1
      obtain ⟨z2, e2, h0, h3⟩ := btw_int b2
      cases e2
      have hS : StateL pl [k0, .inl v, .inl h] ⟨pl.words, pl.kinds ++ [(v, h)], pl.rules⟩ := ⟨k0, v, h, rfl, hr0, v0, v3, h0, h3, by omega, rfl⟩
      refine q1 _ H2 hS (fun c o e a b c' => k2' c o (s1 _ _ e) a b) ⟨by rw [List.map_append, List.map_append]; exact hW2, ?_⟩
      refine ⟨hW.ok.w, kinds_push hW.ok.k (by omega) v0 v3 h0 h3, ?_, hW.ok.nd, hW.ok.len⟩
      dsimp only
      rw [hr0]
      exact fun _ z => by cases z
end

/-! ### a rule's line is read -/
theorem eqv_keys : ∀ l m : List Key, PyData.eqvAll (l.map kD) (m.map kD) = decide (l = m)
  | [], [] => rfl
  | [], _ :: _ => rfl
  | _ :: _, [] => rfl
  | x :: r, y :: t => by
    cases x <;> cases y <;> simp only [List.map_cons, kD, PyData.eqvAll, PyData.eqv, eqv_keys r t, List.cons.injEq, Sum.inl.injEq, Sum.inr.injEq, reduceCtorEq, false_and, decide_false, Bool.false_and]
    · rename_i a b
      by_cases h : a = b <;> simp [h]
    · rename_i a b
      by_cases h : a = b <;> simp [h]
theorem shaped_key {k : List Key} (h : RK k) : SeqAt.shaped (.tuple (k.map kD)) = true := by
  obtain ⟨i, j, t, rfl, ⟨r, rfl⟩ | rfl⟩ := h
  · rfl
  · show (PyData.canLay0 (.tuple [.int i, .int j, .str (Str.ofString "new")]) && decide (PyData.depth (.tuple [.int i, .int j, .str (Str.ofString "new")]) ≤ 8)) = true
    simp only [PyData.canLay0, PyData.canLayAll0, show PyData.strOk (Str.ofString "new") = true by decide +kernel]
    rfl
theorem heldAt_le {ks : List (Int × Int)} (h : KindsOk ks) (i : Int) : heldAt ks i ≤ 3 := by
  unfold heldAt
  cases e : ks[i.toNat]? with
  | none => show (0 : Int) ≤ 3; decide
  | some m => exact (h.all m (List.mem_of_getElem? e)).2.2.2
theorem isSrc_at {h : Int} {t k : Key} (e : isSrc (kD k) h t = true) : SrcAt h t k := by
  unfold isSrc at e
  cases k with
  | inl n =>
    obtain ⟨z, e1, n0, n1⟩ := btw_int (show btw (.int n) 0 (h - 1) = true from e)
    cases e1
    exact .inl ⟨n, rfl, n0, by omega⟩
  | inr x =>
    cases hx : isStrD (kD (.inr x)) "value" with
    | false =>
      rw [hx, if_neg Bool.false_ne_true] at e
      cases e
    | true =>
      rw [hx, if_pos rfl] at e
      have e1 : x = ("value" : Str) := beq_iff_eq.mp hx
      cases t with
      | inl n => cases e
      | inr y =>
        have e2 : y = ("new" : Str) := beq_iff_eq.mp e
        exact .inr ⟨by rw [e1], by rw [e2]⟩
theorem areSrc_ok {h m : Int} {t : Key} {ks ls : List Key} (a : AreSrc (.tuple (ls.map kD)) m h t ks) : ks = ls ∧ SrcOk h t m ls := by
  have e := map_kD_inj (PyData.tuple.inj a.d)
  subst e
  exact ⟨rfl, a.len, a.nd, fun k hk => isSrc_at (a.all k hk)⟩
theorem isTest_ok {h : Int} {t : Key} (e : isTest (kD t) h = true) : TestOk h t := by
  cases t with
  | inl n =>
    have e' : (false || btw (.int n) 0 (h - 1)) = true := e
    rw [Bool.false_or] at e'
    obtain ⟨z, e1, n0, n1⟩ := btw_int e'
    cases e1
    exact .inl ⟨n, rfl, n0, by omega⟩
  | inr x =>
    have e' : ((x == ("new" : Str)) || false) = true := e
    rw [Bool.or_false] at e'
    exact .inr (by rw [beq_iff_eq.mp e'])
def sp_read_rule (C : Addr) (Cs : List Addr) : Sp := fun us H Q E => ∃ (x lv lh d a : Addr) (pl : Plan) (ps : List Key), us = [.ref x, .ref a] ∧ WP C H x lv lh d pl ∧ H a = some (.lst (ps.map kV)) ∧ 1 ≤ ps.length ∧ ps.length ≤ 200000 ∧ OutR C Cs H x lv lh d (RuleL pl ps) Q E
theorem last_ix {vs : List V} {k : Nat} (h : vs.length = k + 1) : ∃ v, atI vs (-1) = some v ∧ vs[k]? = some v := by
  have hk : vs[k]? = some vs[k] := List.getElem?_eq_getElem (by omega)
  refine ⟨vs[k], ?_, hk⟩
  unfold atI ixN
  rw [if_neg (by decide), if_pos (by omega)]
  show vs[((vs.length : Int) + -1).toNat]? = _
  rw [show ((vs.length : Int) + -1).toNat = k by omega]
  exact hk
/-- the last key of a dict of rules, as it stands -/
theorem last_key {H : Hp} {kvs : List (List Key × V)} {R : List PRule} {bs : List Addr} (hkv : KvD H kvs (sortR (rowsOf R))) (isk : IsKeys H kvs bs) (hne : R ≠ []) :
    ∃ k b, atI (bs.map V.ref) (-1) = some (.ref b) ∧ H b = some (.tup (k.map kV)) ∧ (srt rankK (R.map (·.1))).getLast? = some k ∧ k ∈ R.map (·.1) := by
  have ek := hkv.keys
  have e1 : (sortR (rowsOf R)).map (·.1) = srt rankK (R.map (·.1)) := by
    unfold sortR
    rw [List.map_map, rowsOf_keys]
    exact List.map_id _
  rw [e1] at ek
  have lk : kvs.length = R.length := by
    have := congrArg List.length ek
    rw [List.length_map, srt_len, List.length_map] at this
    exact this
  obtain ⟨n, hn⟩ : ∃ n, R.length = n + 1 := ⟨R.length - 1, by have := List.length_pos_iff.mpr hne; omega⟩
  have lb : bs.length = n + 1 := by
    have := Paired.length isk
    omega
  obtain ⟨v, a1, a2⟩ := last_ix (vs := bs.map V.ref) (by rw [List.length_map]; exact lb)
  rw [List.getElem?_map] at a2
  obtain ⟨b, hb, rfl⟩ := Option.map_eq_some_iff.mp a2
  have hk : kvs[n]? = some kvs[n] := List.getElem?_eq_getElem (by omega)
  obtain ⟨b', hb', hH⟩ := paired_get isk hk
  rw [hb] at hb'
  cases hb'
  have hs : (srt rankK (R.map (·.1)))[n]? = some kvs[n].1 := by
    rw [← ek, List.getElem?_map, hk]
    rfl
  refine ⟨kvs[n].1, b, a1, hH, ?_, srt_mem.mp (List.mem_of_getElem? hs)⟩
  rw [List.getLast?_eq_getElem?, srt_len, List.length_map, hn]
  exact hs
theorem lt_t {n m : Int} (h : decide (n < m) = true) : n < m := of_decide_eq_true h
section
variable {P : Program} {w : World} {K : PySem.W.Frag} {mg : Str → Option Value} {base : Heap}
abbrev N_read_rule : List Str := ["watcher", "parts", "_", "state", "word", "test", "target", "sources"]
theorem sc_read_rule : FnScope N_read_rule ["watcher", "parts"] (defScope s_read_rule) := ⟨rfl, rfl, rfl, by decide +kernel, rfl, by decide +kernel, by decide +kernel⟩
theorem Gg_read_rule (T : Tx K mg) {Cs : List Addr} (hU : T.UnknownState.C ∈ Cs) (hN : T.NotAWord.C ∈ Cs) (hT : T.InvalidTest.C ∈ Cs) (hS : T.InvalidSources.C ∈ Cs) (hR : T.RuleExists.C ∈ Cs) : FnG P w K mg base (L2.CX P w) 6 T.read_rule.f T.read_rule.fd ["watcher", "parts"] (sp_read_rule T.Watcher.C Cs) := by
  refine okGX T.read_rule.F sc_read_rule (fun vs H Q E h => ?_) (fun cdv A outer s H vs Q E gd hr h => ?_)
  · obtain ⟨x, lv, lh, d, a, pl, ps, rfl, _⟩ := h
    rfl
  · obtain ⟨x, lv, lh, d, a, pl, ps, rfl, hW, ha, lp1, lps, q1, q2⟩ := h
    have L5 := line5
    refine ⟨_, 
      (pss_cons (ps_if (PW.pt (pw_or (pt_cmpR op_lt (pe_callB call_len_seq (by rfl) T.m_len PySem.boot_len (pa_cons (pv 1) pa_nil)) pe_int (nomark _)) (pw_or1 (pt_cmpR op_ne (pe_ix ix_list (pv 1) pe_int (fun _ _ => rfl)) pe_str (nomark _))))) 
        (pss_one (ps_ret pe_bl)) -- return False
         pss_nil) -- if len(parts) < 5 or parts[0] != 'rule':
      (pss_cons (ps_asg (pv 1) (pg_lstStar (n := 5) rfl (pgs_cons (pg_name (i := 2) sc_read_rule.nd rfl (.inl rfl)) (pgs_cons (pg_name (i := 3) sc_read_rule.nd rfl (.inl rfl)) (pgs_cons (pg_name (i := 4) sc_read_rule.nd rfl (.inl rfl)) (pgs_cons (pg_name (i := 5) sc_read_rule.nd rfl (.inl rfl)) (pgs_cons (pg_name (i := 6) sc_read_rule.nd rfl (.inl rfl)) (pgs_starLast (pg_name (i := 7) sc_read_rule.nd rfl (.inl rfl)))))))))) -- _, state, word, test, target, *sources = parts
      (pss_cons (ps_expr (pe_methG (pv 0) T.Watcher.cl T.Watcher_add_rule.M (G_Watcher_add_rule T) gd (hr.mono (by decide)) T.Watcher_add_rule.b .nil (L2.passes_call (W := fun cls d _ H => E cls d H) (takes_of rfl rfl rfl rfl) (fun _ _ _ _ h => h)) (pa_cons (pv 3) (pa_cons (pv 4) (pa_cons (pv 5) (pa_cons (pv 6) (pa_cons (pe_callTy call_tuple_of (by rfl) T.m_tuple (by decide +kernel) (pa_cons (pv 7) pa_nil)) pa_nil))))))) -- watcher.add_rule(state, word, test, target, tuple(sources))
      (pss_one (ps_ret (pe_cmpR (op_eqT hr.units) (pe_ix ix_list (pe_callTy (call_list_dT rfl) (by rfl) T.m_list (by decide +kernel) (pa_cons (pe_meth0G (pv 0) T.Watcher.cl T.Watcher_rules.M (G_Watcher_rules T) gd (hr.mono (by decide)) T.Watcher_rules.b .nil pass0) pa_nil)) (pe_un un_neg pe_int) (fun _ _ => rfl)) (pe_tup (pa_cons (pv 3) (pa_cons (pv 4) (pa_cons (pv 5) pa_nil)))) (nomark _)))) -- return list(watcher.rules())[-1] == (state, word, test)
      ))) , ?_⟩
    have bad : ∀ {b : Bool}, (b = true → ¬ ∃ P', RuleL pl ps P') → b = true → Q (.bl false) H := fun h e => (q2 (h e)).1 H (Kp3.refl H)
    refine ⟨.ref a, rfl, a, _, rfl, .inl (SqL.of ha), _, _, rfl, rfl, _, rfl, ?_⟩
    rw [List.length_map]
    refine ite2 (fun hb => bad (fun _ => ?_) rfl) (fun hb => ?_)
    · rintro ⟨P', s', w', t, g, src, rfl, _⟩
      have := lt_t hb
      simp only [List.length_cons] at this
      omega
    have h5 : 5 ≤ ps.length := by
      rcases Nat.lt_or_ge ps.length 5 with z | z
      · exact absurd (decide_eq_true (by omega)) hb
      · exact z
    obtain ⟨k0, k1, k2, k3, k4, src, rfl⟩ : ∃ k0 k1 k2 k3 k4 src, ps = k0 :: k1 :: k2 :: k3 :: k4 :: src := by
      match ps, h5 with
      | a :: b :: c :: d :: e :: r, _ => exact ⟨a, b, c, d, e, r, rfl⟩
    clear hb
    refine ⟨.ref a, rfl, a, _, 0, kV k0, rfl, rfl, SqL.of ha, at_keys rfl, by cases k0 <;> rfl, _, rfl, ?_⟩
    refine ite2 (fun hb => bad (fun _ => ?_) rfl) (fun hb => ?_)
    · rintro ⟨P', s', w', t, g, src', e, _⟩
      cases e
      exact nk_t (j := kRu) hb rfl
    have e0 : k0 = kRu := nk_f (j := kRu) hb
    subst e0
    clear hb
    obtain ⟨dx, hx⟩ := hW.w.ins
    refine ⟨.ref a, rfl, a, _, rfl, SqL.of ha, by show 5 ≤ (List.map kV (kRu :: k1 :: k2 :: k3 :: k4 :: src)).length; simp, fun D nD => ?_⟩
    rw [show List.drop 5 (List.map kV (kRu :: k1 :: k2 :: k3 :: k4 :: src)) = src.map kV from rfl]
    refine ⟨kV kRu, _, rfl, kV k1, _, rfl, kV k2, _, rfl, kV k3, _, rfl, kV k4, _, rfl, .ref D, [], rfl, rfl, ?_⟩
    have sD : Same H (upd H D (.lst (src.map kV))) := same_new nD
    have hD : (upd H D (.lst (src.map kV))) D = some (.lst (src.map kV)) := upd_same
    have hx1 := sD _ _ hx
    refine ⟨.ref x, rfl, x, dx, _, rfl, hx1, rfl, kV k1, rfl, kV k2, rfl, kV k3, rfl, kV k4, rfl, .ref D, rfl, D, _, rfl, .inl ⟨SqL.of hD, fun U nU => ?_⟩⟩
    have sU : Same (upd H D (.lst (src.map kV))) (upd (upd H D (.lst (src.map kV))) U (.tup (src.map kV))) := same_new nU
    have hU2 : (upd (upd H D (.lst (src.map kV))) U (.tup (src.map kV))) U = some (.tup (src.map kV)) := upd_same
    have s2 := sD.trans sU
    generalize upd (upd H D (.lst (src.map kV))) U (.tup (src.map kV)) = H2 at *
    have hx2 := s2 _ _ hx
    have hW2 := hW.w.mono s2
    have lks : (pl.kinds.map (·.1)).length = pl.kinds.length := List.length_map _
    have lR : (rowsOf pl.rules).length < 1000 := by
      have := hW.ok.len
      unfold rowsOf
      rw [List.length_map]
      omega
    have exc : (¬ ∃ P', RuleL pl (kRu :: k1 :: k2 :: k3 :: k4 :: src) P') → ∀ cls ∈ Cs, ∀ e f, H2 e = none → E (.ref cls) (some e) (upd H2 e (.xd f)) := fun h cls hc e f he => (q2 h).2 cls hc H2 e f (Same.kp3 s2) he
    refine ⟨x, lv, lh, d, _, _, _, _, x, kV k1, kV k2, kV k3, kV k4, .ref U, kD k1, kD k2, kD k3, kD k4, .tuple (src.map kD), rfl, hW2, ldK k1, ldK k2, ldK k3, ldK k4, .tup (ne_of hU2 hx2 (fun z => nomatch z)) hU2 (lds_keys src), kD_nd k3, fun i ds e l => ?_, lR, fun b1 e he => ?_, fun _ b1 e he => ?_, fun _ _ b1 e he => ?_, fun s' tg w' es eg ew s0 s1 g0 g1 w0 w1 => ⟨fun bt e he => ?_, fun t' ev ed b1 => ⟨fun no e he => ?_, fun ks are => ⟨fun hm TT nT e he => ?_, fun hm H3 k3' hW3 => ?_⟩⟩⟩⟩
    · have := heldAt_le hW.ok.k i
      rw [hAt_held] at l
      omega
    · refine exc ?_ _ hU e _ he
      rintro ⟨P', s', w', t, g, src', e1, ⟨i, j, t2, e2, i0, i1, j0, j1, tok, g0, g1, sok⟩, _⟩
      cases e1
      cases e2
      rw [lks, show btw (kD (.inl s')) 0 (pl.kinds.length - 1) = true from btw_true i0 (by omega)] at b1
      cases b1
    · refine exc ?_ _ hU e _ he
      rintro ⟨P', s', w', t, g, src', e1, ⟨i, j, t2, e2, i0, i1, j0, j1, tok, g0, g1, sok⟩, _⟩
      cases e1
      cases e2
      rw [lks, show btw (kD (.inl g)) 0 (pl.kinds.length - 1) = true from btw_true g0 (by dsimp only at g1; omega)] at b1
      cases b1
    · refine exc ?_ _ hN e _ he
      rintro ⟨P', s', w', t, g, src', e1, ⟨i, j, t2, e2, i0, i1, j0, j1, tok, g0, g1, sok⟩, _⟩
      cases e1
      cases e2
      rw [show btw (kD (.inl w')) 0 (pl.words - 1) = true from btw_true j0 (by omega)] at b1
      cases b1
    · refine exc ?_ _ hT e _ he
      rintro ⟨P', s2', w2', t, g, src', e1, ⟨i, j, t2, e2, i0, i1, j0, j1, tok, g0, g1, sok⟩, _⟩
      cases e1
      cases e2
      cases es
      rw [hAt_held, testOk_is tok] at bt
      cases bt
    · refine exc ?_ _ hS e _ he
      rintro ⟨P', s2', w2', t, g, src', e1, ⟨i, j, t2, e2, i0, i1, j0, j1, tok, g0, g1, sok⟩, _⟩
      cases e1
      cases e2
      cases es
      cases eg
      have := kD_inj ed
      subst this
      rw [hAt_held, hAt_held] at no
      exact no ⟨src, srcOk_are sok⟩
    · rw [rowsOf_keys] at hm
      refine (q2 ?_).2 _ hR (upd H2 TT (.tup [.int s', .int w', kV k3])) e _ (Same.kp3 (s2.trans (same_new nT))) he
      rintro ⟨P', s2', w2', t, g, src', e1, _, nk, _⟩
      cases e1
      cases es
      cases ew
      have := kD_inj ed
      subst this
      exact nk hm
    · obtain rfl : k1 = .inl s' := kD_inj (b := .inl s') es
      obtain rfl : k4 = .inl tg := kD_inj (b := .inl tg) eg
      obtain rfl : k2 = .inl w' := kD_inj (b := .inl w') ew
      obtain rfl : k3 = t' := kD_inj ed
      obtain ⟨rfl, sok⟩ := areSrc_ok are
      rw [hAt_held, hAt_held] at sok
      rw [hAt_held] at b1
      rw [rowsOf_keys] at hm
      have hok : RuleOk pl.words pl.kinds ([.inl s', .inl w', k3], tg, ks) := ⟨s', w', k3, rfl, s0, by omega, w0, w1, isTest_ok b1, g0, by dsimp only; omega, sok⟩
      have hnew : WP T.Watcher.C H3 x lv lh d ⟨pl.words, pl.kinds, pl.rules ++ [([.inl s', .inl w', k3], tg, ks)]⟩ := by
        refine ⟨by dsimp only; rw [rowsOf_snoc]; exact hW3, ?_⟩
        have hr : ∀ r ∈ pl.rules ++ [([Sum.inl s', Sum.inl w', k3], tg, ks)], RuleOk pl.words pl.kinds r := fun r hr => by
          rcases List.mem_append.mp hr with z | z
          · exact hW.ok.r r z
          · rw [List.mem_singleton.mp z]
            exact hok
        have nd : ((pl.rules ++ [([Sum.inl s', Sum.inl w', k3], tg, ks)]).map (·.1)).Nodup := by
          rw [List.map_append]
          refine List.nodup_append.mpr ⟨hW.ok.nd, by simp, fun a ha b hb => ?_⟩
          rw [List.map_cons, List.map_nil, List.mem_singleton] at hb
          subst hb
          rintro rfl
          exact hm ha
        exact ⟨hW.ok.w, hW.ok.k, hr, nd, Nat.le_trans (rules_len hW.ok.k hW.ok.w.2 hr nd) (by decide)⟩
      have hx3 := k3' _ _ hx2 (by have := hW2.rul; obtain ⟨kvs, hd, _⟩ := this; exact ne_of hx2 hd (fun z => nomatch z))
      refine ⟨.ref x, rfl, x, dx, _, rfl, hx3, rfl, x, lv, lh, d, _, _, _, _, rfl, hnew.w, fun t H4 kvs s4 nt ht hkv => ?_⟩
      refine ⟨t, kvs, rfl, .inl ht, fun p bs np isk => ?_⟩
      obtain ⟨kl, b, a1, a2, a3, a4⟩ := last_key hkv isk (by simp)
      have sp : Same H4 (upd H4 p (.lst (bs.map V.ref))) := same_new np
      have hp : (upd H4 p (.lst (bs.map V.ref))) p = some (.lst (bs.map V.ref)) := upd_same
      have s5 : Same H3 (upd H4 p (.lst (bs.map V.ref))) := s4.trans sp
      have a2' := sp _ _ a2
      generalize upd H4 p (.lst (bs.map V.ref)) = H5 at *
      refine ⟨1, rfl, p, _, -1, .ref b, rfl, rfl, SqL.of hp, a1, .int s', rfl, .int w', rfl, kV k3, rfl, by show 3 ≤ sizeLine; decide, fun TT nT => ?_⟩
      have sT : Same H5 (upd H5 TT (.tup [.int s', .int w', kV k3])) := same_new nT
      have s6 := s5.trans sT
      have rk : RK kl := hnew.w.rk kl (by rw [rowsOf_keys]; exact a4)
      have rn : RK [.inl s', .inl w', k3] := hnew.w.rk _ (by rw [rowsOf_keys]; simp)
      refine ⟨.tuple (kl.map kD), .tuple ([Sum.inl s', Sum.inl w', k3].map kD), .tup (sT _ _ a2') TDs.keys, .tup (xs := [Sum.inl s', Sum.inl w', k3].map kV) upd_same TDs.keys, shaped_key rk, shaped_key rn, ?_⟩
      have kp : Kp3 lv lh d H (upd H5 TT (.tup [.int s', .int w', kV k3])) := fun c o e _ _ c' => s6 _ _ (k3' c o (s2 _ _ e) c')
      show Q (.bl (PyData.eqvAll (kl.map kD) ([Sum.inl s', Sum.inl w', k3].map kD))) _
      rw [eqv_keys]
      rw [List.map_append] at a3
      by_cases hl : kl = [Sum.inl s', Sum.inl w', k3]
      · rw [decide_eq_true hl]
        refine q1 _ _ ⟨s', w', k3, tg, ks, rfl, hok, hm, ?_, rfl⟩ kp (hnew.mono s6)
        rw [← hl] at a3 ⊢
        exact a3
      · rw [decide_eq_false hl]
        refine (q2 ?_).1 _ kp
        rintro ⟨P', s2', w2', t, g, src', e1, _, _, la, _⟩
        cases e1
        have la2 : (srt rankK (pl.rules.map (·.1) ++ [([Sum.inl s', Sum.inl w', k3], tg, ks)].map (·.1))).getLast? = some [Sum.inl s', Sum.inl w', k3] := la
        rw [a3] at la2
        exact hl (Option.some.inj la2)
end

/-! ### lines read, a text read -/
/-- the errors that a line may raise -/
def csR {K : PySem.W.Frag} {mg : Str → Option Value} (T : Tx K mg) : List Addr := [T.UnknownState.C, T.NotAVerdict.C, T.LimitExceeded.C, T.NotAWord.C, T.InvalidTest.C, T.InvalidSources.C, T.RuleExists.C]
theorem exm_via {K : PySem.W.Frag} {R S : Addr} {b : Bool} (h1 : PySem.W.subIn K (.ref S) (.type "BaseException") = some true) (te : PySem.W.exmOne K (.ref S) (.ref S) = some true) (h4 : PySem.W.subIn K (.ref R) (.ref S) = some b) : PySem.W.exmOne K (.ref R) (.ref S) = some b := by
  have e1 : (PySem.W.subIn K (.ref S) (.type "BaseException") == some true) = true := by
    rw [h1]
    rfl
  unfold PySem.W.exmOne at te ⊢
  rw [if_pos e1] at te ⊢
  have te2 : (if ((PySem.W.clsIn K S).isSome && PySem.W.typeIn K (.ref S) == some (.type "type")) = true then PySem.W.subIn K (.ref S) (.ref S) else none) = some true := te
  show (if ((PySem.W.clsIn K S).isSome && PySem.W.typeIn K (.ref S) == some (.type "type")) = true then PySem.W.subIn K (.ref R) (.ref S) else none) = some b
  by_cases hc : ((PySem.W.clsIn K S).isSome && PySem.W.typeIn K (.ref S) == some (.type "type")) = true
  · rw [if_pos hc]
    exact h4
  · rw [if_neg hc] at te2
    cases te2
theorem exm_c {K : PySem.W.Frag} {cls c : Value} {b d : Bool} {r : List Value} (h : PySem.W.exmOne K cls c = some b) (hr : PySem.W.exmAny K cls r = some d) : PySem.W.exmAny K cls (c :: r) = some (b || d) := by
  unfold PySem.W.exmAny
  rw [h, hr]
theorem exm_csR {K : PySem.W.Frag} {mg : Str → Option Value} (T : Tx K mg) : ∀ cls ∈ csR T, PySem.W.exmAny K (.ref cls) ((csR T).map Value.ref) = some true := by
  intro cls h
  unfold csR at h ⊢
  simp only [List.mem_cons, List.not_mem_nil, or_false] at h
  rcases h with rfl | rfl | rfl | rfl | rfl | rfl | rfl
  · exact exm_c (T.UnknownState.e.T.te) (exm_c (exm_via T.NotAVerdict.e.T.exC T.NotAVerdict.e.T.te T.ap_UnknownState_NotAVerdict) (exm_c (exm_via T.LimitExceeded.e.T.exC T.LimitExceeded.e.T.te T.ap_UnknownState_LimitExceeded) (exm_c (exm_via T.NotAWord.e.T.exC T.NotAWord.e.T.te T.ap_UnknownState_NotAWord) (exm_c (exm_via T.InvalidTest.e.T.exC T.InvalidTest.e.T.te T.ap_UnknownState_InvalidTest) (exm_c (exm_via T.InvalidSources.e.T.exC T.InvalidSources.e.T.te T.ap_UnknownState_InvalidSources) (exm_c (exm_via T.RuleExists.e.T.exC T.RuleExists.e.T.te T.ap_UnknownState_RuleExists) (rfl)))))))
  · exact exm_c (exm_via T.UnknownState.e.T.exC T.UnknownState.e.T.te T.ap_NotAVerdict_UnknownState) (exm_c (T.NotAVerdict.e.T.te) (exm_c (exm_via T.LimitExceeded.e.T.exC T.LimitExceeded.e.T.te T.ap_NotAVerdict_LimitExceeded) (exm_c (exm_via T.NotAWord.e.T.exC T.NotAWord.e.T.te T.ap_NotAVerdict_NotAWord) (exm_c (exm_via T.InvalidTest.e.T.exC T.InvalidTest.e.T.te T.ap_NotAVerdict_InvalidTest) (exm_c (exm_via T.InvalidSources.e.T.exC T.InvalidSources.e.T.te T.ap_NotAVerdict_InvalidSources) (exm_c (exm_via T.RuleExists.e.T.exC T.RuleExists.e.T.te T.ap_NotAVerdict_RuleExists) (rfl)))))))
  · exact exm_c (exm_via T.UnknownState.e.T.exC T.UnknownState.e.T.te T.ap_LimitExceeded_UnknownState) (exm_c (exm_via T.NotAVerdict.e.T.exC T.NotAVerdict.e.T.te T.ap_LimitExceeded_NotAVerdict) (exm_c (T.LimitExceeded.e.T.te) (exm_c (exm_via T.NotAWord.e.T.exC T.NotAWord.e.T.te T.ap_LimitExceeded_NotAWord) (exm_c (exm_via T.InvalidTest.e.T.exC T.InvalidTest.e.T.te T.ap_LimitExceeded_InvalidTest) (exm_c (exm_via T.InvalidSources.e.T.exC T.InvalidSources.e.T.te T.ap_LimitExceeded_InvalidSources) (exm_c (exm_via T.RuleExists.e.T.exC T.RuleExists.e.T.te T.ap_LimitExceeded_RuleExists) (rfl)))))))
  · exact exm_c (exm_via T.UnknownState.e.T.exC T.UnknownState.e.T.te T.ap_NotAWord_UnknownState) (exm_c (exm_via T.NotAVerdict.e.T.exC T.NotAVerdict.e.T.te T.ap_NotAWord_NotAVerdict) (exm_c (exm_via T.LimitExceeded.e.T.exC T.LimitExceeded.e.T.te T.ap_NotAWord_LimitExceeded) (exm_c (T.NotAWord.e.T.te) (exm_c (exm_via T.InvalidTest.e.T.exC T.InvalidTest.e.T.te T.ap_NotAWord_InvalidTest) (exm_c (exm_via T.InvalidSources.e.T.exC T.InvalidSources.e.T.te T.ap_NotAWord_InvalidSources) (exm_c (exm_via T.RuleExists.e.T.exC T.RuleExists.e.T.te T.ap_NotAWord_RuleExists) (rfl)))))))
  · exact exm_c (exm_via T.UnknownState.e.T.exC T.UnknownState.e.T.te T.ap_InvalidTest_UnknownState) (exm_c (exm_via T.NotAVerdict.e.T.exC T.NotAVerdict.e.T.te T.ap_InvalidTest_NotAVerdict) (exm_c (exm_via T.LimitExceeded.e.T.exC T.LimitExceeded.e.T.te T.ap_InvalidTest_LimitExceeded) (exm_c (exm_via T.NotAWord.e.T.exC T.NotAWord.e.T.te T.ap_InvalidTest_NotAWord) (exm_c (T.InvalidTest.e.T.te) (exm_c (exm_via T.InvalidSources.e.T.exC T.InvalidSources.e.T.te T.ap_InvalidTest_InvalidSources) (exm_c (exm_via T.RuleExists.e.T.exC T.RuleExists.e.T.te T.ap_InvalidTest_RuleExists) (rfl)))))))
  · exact exm_c (exm_via T.UnknownState.e.T.exC T.UnknownState.e.T.te T.ap_InvalidSources_UnknownState) (exm_c (exm_via T.NotAVerdict.e.T.exC T.NotAVerdict.e.T.te T.ap_InvalidSources_NotAVerdict) (exm_c (exm_via T.LimitExceeded.e.T.exC T.LimitExceeded.e.T.te T.ap_InvalidSources_LimitExceeded) (exm_c (exm_via T.NotAWord.e.T.exC T.NotAWord.e.T.te T.ap_InvalidSources_NotAWord) (exm_c (exm_via T.InvalidTest.e.T.exC T.InvalidTest.e.T.te T.ap_InvalidSources_InvalidTest) (exm_c (T.InvalidSources.e.T.te) (exm_c (exm_via T.RuleExists.e.T.exC T.RuleExists.e.T.te T.ap_InvalidSources_RuleExists) (rfl)))))))
  · exact exm_c (exm_via T.UnknownState.e.T.exC T.UnknownState.e.T.te T.ap_RuleExists_UnknownState) (exm_c (exm_via T.NotAVerdict.e.T.exC T.NotAVerdict.e.T.te T.ap_RuleExists_NotAVerdict) (exm_c (exm_via T.LimitExceeded.e.T.exC T.LimitExceeded.e.T.te T.ap_RuleExists_LimitExceeded) (exm_c (exm_via T.NotAWord.e.T.exC T.NotAWord.e.T.te T.ap_RuleExists_NotAWord) (exm_c (exm_via T.InvalidTest.e.T.exC T.InvalidTest.e.T.te T.ap_RuleExists_InvalidTest) (exm_c (exm_via T.InvalidSources.e.T.exC T.InvalidSources.e.T.te T.ap_RuleExists_InvalidSources) (exm_c (T.RuleExists.e.T.te) (rfl)))))))
/-- text.split(sep) -/
def rSplitS : V → List V → Hp → VK → Prop := fun x xs H Q => ∃ a b, x = .str a ∧ xs = [.str b] ∧ (b.length == 0) = false ∧ a.length + 2 ≤ sizeLine ∧ rNewStrs (Txt.split a b) H Q
def sp_read_parts (C : Addr) (Cs : List Addr) : Sp := fun us H Q E => ∃ (x lv lh d a : Addr) (pl : Plan) (i : Nat) (ps : List Key), us = [.ref x, .int i, .ref a] ∧ WP C H x lv lh d pl ∧ H a = some (.lst (ps.map kV)) ∧ 1 ≤ ps.length ∧ ps.length ≤ 200000 ∧ (i = 1 → pl.kinds = [(0, 0)] ∧ pl.rules = []) ∧ OutR C Cs H x lv lh d (ReadL pl i ps) Q E
def sp_read_line (C : Addr) : Sp := fun us H Q _ => ∃ (x lv lh d : Addr) (pl : Plan) (i : Nat) (z : Str), us = [.ref x, .int i, .str z] ∧ WP C H x lv lh d pl ∧ z.length ≤ 100000 ∧ (i = 1 → pl.kinds = [(0, 0)] ∧ pl.rules = []) ∧
  (∀ P' H', ReadL pl i (partsOf z) P' → Kp3 lv lh d H H' → WP C H' x lv lh d P' → Q (.bl true) H') ∧ ((¬ ∃ P', ReadL pl i (partsOf z) P') → ∀ H', Kp3 lv lh d H H' → Q (.bl false) H')
theorem Kp3.put {lv lh d e : Addr} {H H' : Hp} {o : HO} (k : Kp3 lv lh d H H') (n : H' e = none) : Kp3 lv lh d H (upd H' e o) := fun c u h a b x => by
  have := k c u h a b x
  rw [upd_ne (ne_of_none this n)]
  exact this
theorem OutR.to {C : Addr} {Cs : List Addr} {H : Hp} {x lv lh d : Addr} {R R' : Plan → Prop} {Q : VK} {E : Value → Option Addr → Hp → Prop} (h : OutR C Cs H x lv lh d R Q E) (e : ∀ P', R P' ↔ R' P') : OutR C Cs H x lv lh d R' Q E :=
  ⟨fun P' H' r => h.1 P' H' ((e P').mpr r), fun no => h.2 fun ⟨P', r⟩ => no ⟨P', (e P').mp r⟩⟩
section
variable {P : Program} {w : World} {K : PySem.W.Frag} {mg : Str → Option Value} {base : Heap}
theorem G_read_start (T : Tx K mg) : FnG P w K mg base (L2.CX P w) 5 T.read_start.f T.read_start.fd ["watcher", "parts"] (sp_read_start T.Watcher.C (csR T)) := Gg_read_start T (by simp [csR])
theorem G_read_state (T : Tx K mg) : FnG P w K mg base (L2.CX P w) 5 T.read_state.f T.read_state.fd ["watcher", "parts"] (sp_read_state T.Watcher.C (csR T)) := Gg_read_state T (by simp [csR]) (by simp [csR])
theorem G_read_rule (T : Tx K mg) : FnG P w K mg base (L2.CX P w) 6 T.read_rule.f T.read_rule.fd ["watcher", "parts"] (sp_read_rule T.Watcher.C (csR T)) := Gg_read_rule T (by simp [csR]) (by simp [csR]) (by simp [csR]) (by simp [csR]) (by simp [csR])
abbrev N_read_parts : List Str := ["watcher", "index", "parts"]
theorem sc_read_parts : FnScope N_read_parts ["watcher", "index", "parts"] (defScope s_read_parts) := ⟨rfl, rfl, rfl, by decide +kernel, rfl, by decide +kernel, by decide +kernel⟩
theorem G_read_parts (T : Tx K mg) : FnG P w K mg base (L2.CX P w) 7 T.read_parts.f T.read_parts.fd ["watcher", "index", "parts"] (sp_read_parts T.Watcher.C (csR T)) := by
  refine okGX T.read_parts.F sc_read_parts (fun vs H Q E h => ?_) (fun cdv A outer s H vs Q E gd hr h => ?_)
  · obtain ⟨x, lv, lh, d, a, pl, i, ps, rfl, _⟩ := h
    rfl
  · obtain ⟨x, lv, lh, d, a, pl, i, ps, rfl, hW, ha, lp1, lps, h1, q⟩ := h
    refine ⟨_, 
      (pss_cons (ps_if (pt_cmpR op_eq (pv 1) pe_int (nomark _)) 
        (pss_one (ps_ret (pe_callG (G_read_start T) gd (hr.mono (by decide)) rfl T.read_start.g T.read_start.F.kp T.read_start.b .nil (L2.passes_call (W := fun cls d _ H => E cls d H) (takes_of rfl rfl rfl rfl) (fun _ _ _ _ h => h)) (pa_cons (pv 0) (pa_cons (pv 2) pa_nil))))) -- return read_start(watcher, parts)
         pss_nil) -- if index == 1:
      (pss_cons (ps_if (pt_cmpR op_eq (pe_ix ix_list (pv 2) pe_int (fun _ _ => rfl)) pe_str (nomark _)) 
        (pss_one (ps_ret (pe_callG (G_read_state T) gd (hr.mono (by decide)) rfl T.read_state.g T.read_state.F.kp T.read_state.b .nil (L2.passes_call (W := fun cls d _ H => E cls d H) (takes_of rfl rfl rfl rfl) (fun _ _ _ _ h => h)) (pa_cons (pv 0) (pa_cons (pv 2) pa_nil))))) -- return read_state(watcher, parts)
         pss_nil) -- if parts[0] == 'state':
      (pss_one (ps_ret (pe_callG (G_read_rule T) gd (hr.mono (by decide)) rfl T.read_rule.g T.read_rule.F.kp T.read_rule.b .nil (L2.passes_call (W := fun cls d _ H => E cls d H) (takes_of rfl rfl rfl rfl) (fun _ _ _ _ h => h)) (pa_cons (pv 0) (pa_cons (pv 2) pa_nil))))) -- return read_rule(watcher, parts)
      )) , ?_⟩
    refine ⟨.int i, rfl, rfl, _, rfl, ite2 (fun hb => ?_) (fun hb => ?_)⟩
    · have e1 : i = 1 := by have := V.int.inj (of_decide_eq_true hb); omega
      obtain ⟨hk, hrl⟩ := h1 e1
      refine ⟨.ref x, rfl, .ref a, rfl, x, lv, lh, d, a, pl, ps, rfl, hW, ha, lps, hk, hrl, q.to fun P' => ?_⟩
      unfold ReadL
      simp [e1]
    have e1 : i ≠ 1 := fun z => hb (decide_eq_true (by rw [z]; rfl))
    clear hb
    obtain ⟨k0, r, rfl⟩ : ∃ k0 r, ps = k0 :: r := by
      match ps, lp1 with
      | a :: r, _ => exact ⟨a, r, rfl⟩
    refine ⟨.ref a, rfl, a, _, 0, kV k0, rfl, rfl, SqL.of ha, at_keys rfl, by cases k0 <;> rfl, _, rfl, ite2 (fun hb => ?_) (fun hb => ?_)⟩
    · have e2 : k0 = kSt := keyV_inj (b := kSt) (of_decide_eq_true hb)
      refine ⟨.ref x, rfl, .ref a, rfl, x, lv, lh, d, a, pl, _, rfl, hW, ha, lps, q.to fun P' => ?_⟩
      unfold ReadL
      simp [e1, e2]
    · have e2 : k0 ≠ kSt := fun z => hb (decide_eq_true (by rw [z]; rfl))
      refine ⟨.ref x, rfl, .ref a, rfl, x, lv, lh, d, a, pl, _, rfl, hW, ha, lp1, lps, q.to fun P' => ?_⟩
      unfold ReadL
      simp [e1, e2]
abbrev N_read_line : List Str := ["watcher", "index", "line", "part"]
theorem sc_read_line : FnScope N_read_line ["watcher", "index", "line"] (defScope s_read_line) := ⟨rfl, rfl, rfl, by decide +kernel, rfl, by decide +kernel, by decide +kernel⟩
theorem G_read_line (T : Tx K mg) (hw : T.pr = w.params) : FnG P w K mg base CX0 8 T.read_line.f T.read_line.fd ["watcher", "index", "line"] (sp_read_line T.Watcher.C) := by
  refine okG T.read_line.F sc_read_line (fun vs H Q E h => ?_) (fun cdv A outer s H vs Q E gd hr h => ?_)
  · obtain ⟨x, lv, lh, d, pl, i, z, rfl, _⟩ := h
    rfl
  · obtain ⟨x, lv, lh, d, pl, i, z, rfl, hW, hz, h1, q1, q2⟩ := h
    have L5 := line5
    refine ⟨_, 
      (pss_one (ps_try_tup (Wout := fun _ _ _ _ => False) rfl rfl (.cons ⟨rfl, by decide, Or.inl T.UnknownState.e.T.gC⟩ (.cons ⟨rfl, by decide, Or.inl T.NotAVerdict.e.T.gC⟩ (.cons ⟨rfl, by decide, Or.inl T.LimitExceeded.e.T.gC⟩ (.cons ⟨rfl, by decide, Or.inl T.NotAWord.e.T.gC⟩ (.cons ⟨rfl, by decide, Or.inl T.InvalidTest.e.T.gC⟩ (.cons ⟨rfl, by decide, Or.inl T.InvalidSources.e.T.gC⟩ (.cons ⟨rfl, by decide, Or.inl T.RuleExists.e.T.gC⟩ .nil))))))) (by show 7 ≤ sizeLine; decide) L2.takes_none5 (fun W pn xe tk _ => 
        (pss_one (ps_ret (by exact (pe_callGS (G_read_parts T) gd (hr.mono (by decide)) rfl T.read_parts.g T.read_parts.F.kp T.read_parts.b (fun σ => passAt tk σ) (pa_cons (pv 0) (pa_cons (pv 1) (pa_cons (by exact (pe_lc (wi := iList K (tM1 rSplitS (tVar 2) (tC (V.str (Str.ofString " "))))) (own := [("part", 3)]) (g := gName 3) rfl sc_read_line.nd (pi_list (pe_split (pv 2) pe_str)) (blkOk_by (N := N_read_line) (sc := defScope s_read_line) (by decide +kernel)) (fun _ _ _ _ _ => (pg_name (i := 3) sc_read_line.nd rfl (.inl rfl))) (fun _ _ _ _ _ => pts_nil) (fun _ _ _ _ _ => (show PE _ _ (tKGet2 K w (tC (.ref T.aDIGITS)) (tVar 3) (tVar 3)) from pe_kget2 (pe_glob (v := .ref T.aDIGITS) rfl T.g_DIGITS rfl) (pv 3) (pv 3) ⟨by rfl, by rfl, by rfl, by rfl⟩)))) pa_nil))))))) -- return read_parts(watcher, index, [DIGITS.get(part, part) for part in line.split(' ')])
        ) (fun a oe cls d pn _ _ => 
        (pss_one (ps_ret (by exact pe_bl))) -- return False
        ))) -- try:
       , ?_⟩
    obtain ⟨pl1, pl2, pl3⟩ := split_len (x := z) (y := spS) (by rw [tl_sp]; simp) sp_kind
    have e0 : partsOf z = (Txt.split z spS).map digK := rfl
    rw [e0] at q2
    simp only [e0] at q1
    generalize hzs : Txt.split z spS = zs at *
    refine ⟨.ref x, rfl, .int i, rfl, .str z, rfl, ⟨_, rfl⟩, z, spS, rfl, rfl, by rfl, by omega, fun l nl => ?_⟩
    rw [hzs]
    have s1 : Same H (upd H l (.lst (zs.map V.str))) := same_new nl
    have hl : (upd H l (.lst (zs.map V.str))) l = some (.lst (zs.map V.str)) := upd_same
    generalize upd H l (.lst (zs.map V.str)) = H1 at *
    refine ⟨l, rfl, ⟨_, SqL.of hl⟩, fun D nD => ?_⟩
    refine lc_list (K := K) (a := l) (xs := zs.map V.str) (fun j H' => Same H1 H' ∧ H' D = some (.lst (((zs.take j).map digK).map kV))) ?_ ?_ ?_ ?_
    · exact ⟨same_new nD, upd_same⟩
    · rintro j H2 hj ⟨s2, hD⟩
      exact SqL.of (s2 _ _ hl)
    · rintro j y H2 hj ⟨s2, hD⟩
      rw [List.getElem?_map] at hj
      obtain ⟨p, hp, rfl⟩ := Option.map_eq_some_iff.mp hj
      refine ⟨rfl, T.aDIGITS, litF lit_DIGITS, rfl, T.dg_DIGITS w hw, .str p, rfl, .str p, rfl, p, rfl, ?_⟩
      have ek : optW (.str p) (litF lit_DIGITS p) = kV (digK p) := by
        unfold digK
        cases litF lit_DIGITS p <;> rfl
      rw [ek]
      have jl : j < zs.length := (List.getElem?_eq_some_iff.mp hp).1
      refine ⟨_, hD, ?_, ?_, ?_⟩
      · rw [List.length_map, List.length_map]
        have := List.length_take_le' j zs
        omega
      · intro b o e
        have : b ≠ D := ne_of_none e nD
        rw [upd_ne this]
        exact s2 _ _ e
      · rw [upd_same, List.take_add_one, hp, List.map_append, List.map_append]
        rfl
    · rintro H2 ⟨s2, hD⟩
      rw [List.length_map, List.take_length] at hD
      have s3 := s1.trans s2
      refine ⟨x, lv, lh, d, D, pl, i, zs.map digK, rfl, hW.mono s3, hD, by rw [List.length_map]; exact pl2, by rw [List.length_map]; omega, h1, ?_, fun no => ⟨?_, ?_⟩⟩
      · exact fun P' H' r k => q1 P' H' r (k.after s3)
      · exact fun H' k => q2 no H' (k.after s3)
      · intro cls hc H' e f k ne
        refine ⟨true, exm_csR T cls hc, fun _ a na => ?_, fun z => by cases z⟩
        exact q2 no _ ((k.after s3).put ne)
end

/-! ### a whole text is read -/
def sp_parse_watcher (C CP : Addr) : Sp := fun us H Q E => ∃ (z : Str), us = [.str z] ∧ z.length ≤ 100000 ∧
  (∀ P', Parsed z P' → ∀ x lv lh d H', Fr H H' x lv lh d → WP C H' x lv lh d P' → Q (.ref x) H') ∧
  (∀ k : Nat, ParseErr z k → ∀ e H', Same H H' → H' e = none → E (.ref CP) (some e) (upd H' e (.xd [(("line" : Str), .int k)])))
theorem at_strs {ls : List Str} {i : Nat} {z : Str} (h : ls[i]? = some z) : atI (ls.map V.str) (i : Int) = some (.str z) := atI_nat (by rw [List.getElem?_map, h]; rfl)
section
variable {P : Program} {w : World} {K : PySem.W.Frag} {mg : Str → Option Value} {base : Heap}
abbrev N_parse_watcher : List Str := ["text", "lines", "ends", "watcher", "index"]
theorem sc_parse_watcher : FnScope N_parse_watcher ["text"] (defScope s_parse_watcher) := ⟨rfl, rfl, rfl, by decide +kernel, rfl, by decide +kernel, by decide +kernel⟩
theorem G_parse_watcher (T : Tx K mg) (hw : T.pr = w.params) : FnG P w K mg base (L2.CX P w) 9 T.parse_watcher.f T.parse_watcher.fd ["text"] (sp_parse_watcher T.Watcher.C T.ParseError.C) := by
  refine okGX T.parse_watcher.F sc_parse_watcher (fun vs H Q E h => ?_) (fun cdv A outer s H vs Q E gd hr h => ?_)
  · obtain ⟨z, rfl, _⟩ := h
    rfl
  · obtain ⟨z, rfl, hz, q1, q2⟩ := h
    have L5 := line5
    refine ⟨_, 
      (pss_cons (ps_set (i := 1) sc_parse_watcher.nd rfl (.inl rfl) (pe_split (pv 0) pe_str)) -- lines = text.split('\n')
      (pss_cons (ps_set (i := 2) sc_parse_watcher.nd rfl (.inl rfl) (pe_op op_sub (pe_callB call_len_seq (by rfl) T.m_len PySem.boot_len (pa_cons (pv 1) pa_nil)) pe_int)) -- ends = len(lines) - 1
      (pss_cons (ps_if (pt_cmp (pc_knotin (pe_ix ix_list (pv 1) pe_int (fun _ _ => rfl)) (pe_glob (v := .ref T.aFIRST_LINES) rfl T.g_FIRST_LINES rfl))) 
        (pss_one (L2.ps_raiseE (W := fun cls d _ H => E cls d H) rfl T.ParseError.e (show Room 1 _ from hr.mono (by decide)) (takes_of rfl rfl rfl rfl) (by exact (pa_cons pe_int pa_nil)))) -- raise ParseError(0)
         pss_nil) -- if lines[0] not in FIRST_LINES:
      (pss_cons (ps_set (i := 3) sc_parse_watcher.nd rfl (.inl rfl) (pe_makeG T.mk_Watcher (G_Watcher_init T) gd (hr.mono (by decide)) rfl T.Watcher.g T.Watcher_init.b .nil passNo (pa_cons (pe_ix ix_kdict (pe_glob (v := .ref T.aFIRST_LINES) rfl T.g_FIRST_LINES rfl) (pe_ix ix_list (pv 1) pe_int (fun _ _ => rfl)) (fun _ _ => rfl)) pa_nil))) -- watcher = Watcher(FIRST_LINES[lines[0]])
      (C8.pss_cut (ps_for (passes_of rfl) rfl (pi_range2 rfl T.m_range (pa_cons pe_int (pa_cons (pv 2) pa_nil))) (pg_name (i := 4) sc_parse_watcher.nd rfl (.inl rfl)) 
        (pss_one (ps_if (pt_not (pt_val (pe_callG (G_read_line T hw) gd (hr.mono (by decide)) rfl T.read_line.g T.read_line.F.kp T.read_line.b .nil pass0 (pa_cons (pv 3) (pa_cons (pv 4) (pa_cons (pe_ix ix_list (pv 1) (pv 4) (fun _ _ => rfl)) pa_nil)))))) 
          (pss_one (L2.ps_raiseE (W := fun cls d _ H => E cls d H) rfl T.ParseError.e (show Room 1 _ from hr.mono (by decide)) (takes_of rfl rfl rfl rfl) (by exact (pa_cons (pv 4) pa_nil)))) -- raise ParseError(index)
           pss_nil)) -- if not read_line(watcher, index, lines[index]):
        ) -- for index in range(1, ends):
      (pss_cons (ps_if (PW.pt (pw_or (pt_cmpR op_eq (pv 2) pe_int (nomark _)) (pw_or1 (pt_cmpR op_ne (pe_ix ix_list (pv 1) (pv 2) (fun _ _ => rfl)) pe_str (nomark _))))) 
        (pss_one (L2.ps_raiseE (W := fun cls d _ H => E cls d H) rfl T.ParseError.e (show Room 1 _ from hr.mono (by decide)) (takes_of rfl rfl rfl rfl) (by exact (pa_cons (pv 2) pa_nil)))) -- raise ParseError(ends)
         pss_nil) -- if ends == 1 or lines[ends] != '':
      (pss_one (ps_ret (pv 3))) -- return watcher
      )))))) , ?_⟩
    obtain ⟨pl1, pl2, pl3⟩ := split_len (x := z) (y := nlS) (by rw [tl_nl]; simp) nl_kind
    have dP : ∀ P', Parsed z P' = ∃ ends : Nat, (Txt.split z nlS).length = ends + 1 ∧ ends ≠ 0 ∧ ends ≠ 1 ∧ RdTo (Txt.split z nlS) ends P' ∧ (Txt.split z nlS)[ends]? = some Str.empty := fun _ => rfl
    simp only [dP] at q1
    have eF : ∀ {l : Str}, (Txt.split z nlS)[0]? = some l → litF lit_FIRST_LINES l = none → ParseErr z 0 := fun h hn => .first h hn
    have eL : ∀ {k ends : Nat} {P : Plan} {l : Str}, (Txt.split z nlS).length = ends + 1 → k < ends → RdTo (Txt.split z nlS) k P → (Txt.split z nlS)[k]? = some l → (¬ ∃ P', ReadL P k (partsOf l) P') → ParseErr z k := fun he hk r h no => .line he hk r h no
    have eE : ∀ {ends : Nat} {P : Plan}, (Txt.split z nlS).length = ends + 1 → RdTo (Txt.split z nlS) (max 1 ends) P → (ends ≤ 1 ∨ (Txt.split z nlS)[ends]? ≠ some Str.empty) → ParseErr z ends := fun he r h => .end_ he r h
    refine ⟨.str z, rfl, ⟨_, rfl⟩, z, nlS, rfl, rfl, by rfl, by omega, fun l nl => ?_⟩
    generalize Txt.split z nlS = ls at *
    obtain ⟨ends, he⟩ : ∃ ends, ls.length = ends + 1 := ⟨ls.length - 1, by omega⟩
    obtain ⟨z0, h0⟩ : ∃ z0, ls[0]? = some z0 := ⟨ls[0]'(by omega), List.getElem?_eq_getElem (by omega)⟩
    have s1 : Same H (upd H l (.lst (ls.map V.str))) := same_new nl
    have hl : (upd H l (.lst (ls.map V.str))) l = some (.lst (ls.map V.str)) := upd_same
    generalize upd H l (.lst (ls.map V.str)) = H1 at *
    refine ⟨.ref l, rfl, l, _, rfl, .inl (SqL.of hl), (ls.map V.str).length, 1, rfl, rfl, ?_⟩
    rw [show (fun i j => V.int (i - j)) ((ls.map V.str).length : Int) 1 = V.int (ends : Int) by rw [List.length_map, he]; show V.int _ = _; congr 1; omega]
    refine ⟨.ref l, rfl, l, _, 0, .str z0, rfl, rfl, SqL.of hl, at_strs h0, T.aFIRST_LINES, litF lit_FIRST_LINES, z0, rfl, rfl, T.dg_FIRST_LINES w hw, _, rfl, ?_⟩
    cases hn : litF lit_FIRST_LINES z0 with
    | none => exact iteT ⟨_, rfl, fun e hne => q2 0 (eF h0 hn) e H1 s1 hne⟩
    | some n =>
      refine iteF ?_
      obtain ⟨n1, n3⟩ := first_of hn
      have g1 : ∀ {i j : Nat}, i = j → (i : Int) = j := fun h => by rw [h]
      refine ⟨.ref l, rfl, l, _, 0, .str z0, rfl, rfl, SqL.of hl, at_strs h0, T.aFIRST_LINES, z0, .int n, rfl, rfl, (T.dg_FIRST_LINES w hw).kd hn, fun x dx nx ndx ne => ?_⟩
      have sX : Same H1 (upd (upd H1 dx (.own x)) x (.ins T.Watcher.C dx [])) := (same_new ndx).trans (same_new (by rw [upd_ne ne.symm]; exact nx))
      refine ⟨x, x, dx, .int n, .int n, rfl, upd_same, .int _, fun n' en _ _ H2 lv lh d b' f1 f2 f3 hW => ⟨rfl, ?_⟩, fun bad e he => ?_⟩
      case refine_2 =>
        rw [btw_true n1 n3] at bad
        cases bad
      cases en
      have F2 : Fr H1 H2 x lv lh d := ⟨fun c o e => b' c o (sX c o e) (ne_of_none e nx), nx, sX.free f1, sX.free f2, sX.free f3⟩
      have W2 : WP T.Watcher.C H2 x lv lh d ⟨n, [(0, 0)], []⟩ := ⟨hW, ok_first n1 n3 (Int.le_refl 0) (by decide)⟩
      have FH : ∀ {H' : Hp}, Fr H1 H' x lv lh d → Fr H H' x lv lh d := fun F => ⟨s1.trans F.sm, s1.free F.x, s1.free F.v, s1.free F.h, s1.free F.d⟩
      refine ⟨fun σ H' => ∃ y4 pl, σ = [some (.str z), some (.ref l), some (.int ends), some (.ref x), y4] ∧ Fr H1 H' x lv lh d ∧ WP T.Watcher.C H' x lv lh d pl ∧ RdTo ls (max 1 ends) pl, ?_, ?_⟩
      · have big : (ends : Int) < 2 ^ 62 := by
          have : (100002 : Int) < 2 ^ 62 := by decide
          omega
        refine ⟨.int ends, rfl, 1, (ends : Int), rfl, ⟨by omega, by omega, by omega, big⟩, ?_⟩
        refine for_range (n := ((ends : Int) - 1).toNat) (fun i σ H' => ∃ y4 pl, σ = [some (.str z), some (.ref l), some (.int ends), some (.ref x), y4] ∧ Fr H1 H' x lv lh d ∧ WP T.Watcher.C H' x lv lh d pl ∧ RdTo ls (1 + i) pl) ?_ ?_ ?_
        · exact ⟨none, _, rfl, F2, W2, .zero h0 hn⟩
        · rintro i σ H3 hi ⟨y4, pl, rfl, F3, W3, R3⟩
          obtain ⟨zi, hzi⟩ : ∃ zi, ls[1 + i]? = some zi := ⟨ls[1 + i]'(by omega), List.getElem?_eq_getElem (by omega)⟩
          have hl3 := F3.sm _ _ hl
          have e1 : (1 : Int) + (i : Int) = ((1 + i : Nat) : Int) := by omega
          rw [e1]
          obtain ⟨okp, _, k1⟩ := R3.ok
          have lzi := pl3 zi (List.mem_of_getElem? hzi)
          refine ⟨.ref x, rfl, .int ((1 + i : Nat) : Int), rfl, .ref l, rfl, .int ((1 + i : Nat) : Int), rfl, l, _, ((1 + i : Nat) : Int), .str zi, rfl, rfl, SqL.of hl3, at_strs hzi, ?_⟩
          have kpF : ∀ {H' : Hp}, Kp3 lv lh d H3 H' → Fr H1 H' x lv lh d := fun k => ⟨fun c o e => k c o (F3.sm c o e) (ne_of_none e F3.v) (ne_of_none e F3.h) (ne_of_none e F3.d), F3.x, F3.v, F3.h, F3.d⟩
          refine ⟨x, lv, lh, d, pl, 1 + i, zi, rfl, W3, by omega, k1, fun P' H4 r k W4 => ⟨_, rfl, ?_⟩, fun no H4 k => ⟨_, rfl, ?_⟩⟩
          · exact iteF ⟨_, P', rfl, kpF k, W4, .step R3 hzi r⟩
          · exact iteT ⟨.int ((1 + i : Nat) : Int), rfl, .int ((1 + i : Nat) : Int), rfl, fun e hne => q2 _ (eL he (by omega) R3 hzi no) e H4 (FH (kpF k)).sm hne⟩
        · rintro σ H3 ⟨y4, pl, rfl, F3, W3, R3⟩
          refine ⟨y4, pl, rfl, F3, W3, ?_⟩
          rw [show max 1 ends = 1 + ((ends : Int) - 1).toNat by omega]
          exact R3
      rintro σ H3 ⟨y4, pl, rfl, F3, W3, R3⟩
      obtain ⟨ze, hze⟩ : ∃ ze, ls[ends]? = some ze := ⟨ls[ends]'(by omega), List.getElem?_eq_getElem (by omega)⟩
      have hl3 := F3.sm _ _ hl
      refine ⟨.int ends, rfl, rfl, _, rfl, ite2 (fun hb => ?_) (fun hb => ?_)⟩
      · have e1 : ends = 1 := by have := V.int.inj (of_decide_eq_true hb); omega
        exact ⟨.int ends, rfl, .int ends, rfl, fun e hne => q2 ends (eE he R3 (.inl (by omega))) e H3 (FH F3).sm hne⟩
      have ne1 : ends ≠ 1 := fun z => hb (decide_eq_true (by rw [z]; rfl))
      clear hb
      refine ⟨.ref l, rfl, .int ends, rfl, l, _, (ends : Int), .str ze, rfl, rfl, SqL.of hl3, at_strs hze, rfl, _, rfl, ite2 (fun hb => ?_) (fun hb => ?_)⟩
      · have e1 : ze ≠ Str.empty := fun z => by
          rw [z] at hb
          exact absurd hb (by decide)
        exact ⟨.int ends, rfl, .int ends, rfl, fun e hne => q2 ends (eE he R3 (.inr (by rw [hze]; exact fun z => e1 (Option.some.inj z)))) e H3 (FH F3).sm hne⟩
      · have e1 : ze = Str.empty := by
          rcases Classical.em (ze = Str.empty) with z | z
          · exact z
          · refine absurd ?_ hb
            rw [show Str.ofString "" = Str.empty from rfl, decide_eq_false (fun e => z (V.str.inj e))]
            rfl
        have e0 : ends ≠ 0 := by
          rintro rfl
          rw [h0] at hze
          cases hze
          rw [e1] at hn
          rw [show litF lit_FIRST_LINES Str.empty = none by decide +kernel] at hn
          cases hn
        have em : max 1 ends = ends := by omega
        rw [em] at R3
        exact ⟨.ref x, rfl, q1 pl ⟨ends, he, e0, ne1, R3, by rw [hze, e1]⟩ x lv lh d H3 (FH F3) W3⟩
end

open TL
/-! ### watchers written -/
def sp_format_watcher (C : Addr) : Sp := fun us H Q _ => ∃ (x lv lh d : Addr) (pl : Plan), us = [.ref x] ∧ WP C H x lv lh d pl ∧ ∀ H', Same H H' → Q (.str (pageOf (linesOf pl.words pl.kinds (sortP pl.rules)))) H'
theorem line200 : 200 ≤ sizeLine := by decide
theorem log_dg {i : Int} (h0 : 0 ≤ i) (h1 : i < 10) : i.natAbs.log2 < 1920 := by
  have h : i.natAbs < 16 := by omega
  have : i.natAbs.log2 < 4 := by
    rcases Nat.eq_zero_or_pos i.natAbs with z | z
    · rw [z]; decide
    · exact (Nat.log2_lt (by omega)).mpr (by omega)
  omega
theorem len_dg {i : Int} (h0 : 0 ≤ i) (h1 : i < 10) : (dgS i).length = 1 := by
  rw [len_tl, tl_dg h0 h1]
  rfl
theorem kvd_get {H : Hp} {kvs : List (List Key × V)} {R : Rows} (h : KvD H kvs R) {i : Nat} {k : List Key} {v : V} (e : kvs[i]? = some (k, v)) : ∃ d, R[i]? = some (k, d) ∧ TD H v d := by
  obtain ⟨r, e1, e2, e3⟩ := paired_get h e
  obtain ⟨a, b⟩ := r
  exact ⟨b, by rw [e1]; exact congrArg some (Prod.ext e2.symm rfl), e3⟩
theorem rows_get {R : List PRule} {i : Nat} {k : List Key} {d : PyData} (e : (rowsOf R)[i]? = some (k, d)) : ∃ r, R[i]? = some r ∧ k = r.1 ∧ d = ruleD r.2 := by
  unfold rowsOf at e
  rw [List.getElem?_map] at e
  obtain ⟨r, e1, e2⟩ := Option.map_eq_some_iff.mp e
  cases e2
  exact ⟨r, e1, rfl, rfl⟩
theorem KeyOk.len {k : Key} (h : KeyOk k) : (keyS k).length ≤ 5 := by
  rcases h with ⟨i, rfl, h0, h1⟩ | rfl | rfl
  · show (dgS i).length ≤ 5
    rw [len_dg h0 (by omega)]
    decide
  · decide +kernel
  · decide +kernel
theorem KeyOk.log {i : Int} (h : KeyOk (.inl i)) : i.natAbs.log2 < 1920 := by
  rcases h with ⟨j, e, h0, h1⟩ | e | e
  · cases e
    exact log_dg h0 (by omega)
  · cases e
  · cases e
/-- the parts that a rule's line is made of -/
def ruleKs (r : PRule) : List Key := kRu :: (r.1 ++ .inl r.2.1 :: r.2.2)
theorem ruleKs_S (r : PRule) : (ruleKs r).map keyS = ruleW r := by
  unfold ruleKs ruleW
  rw [List.map_cons, List.map_append, List.map_cons]
  rfl
theorem ruleKs_ok {r : PRule} (h : RuK r) {k : Key} (hk : k ∈ ruleKs r) : k = kRu ∨ KeyOk k := by
  obtain ⟨h1, h2, h3, h4⟩ := h
  unfold ruleKs at hk
  simp only [List.mem_cons, List.mem_append] at hk
  rcases hk with e | e | e | e
  · exact .inl e
  · exact .inr (h1 k e)
  · exact .inr (.inl ⟨_, e, h2, h3⟩)
  · exact .inr (h4 k e)
theorem sum_len {B : Nat} : ∀ ys : List Str, (∀ y ∈ ys, y.length ≤ B) → (ys.map (·.length)).sum ≤ ys.length * B
  | [], _ => by simp
  | y :: r, h => by
    have := sum_len r fun z hz => h z (List.mem_cons_of_mem _ hz)
    have h1 := h y List.mem_cons_self
    simp only [List.map_cons, List.sum_cons, List.length_cons, Nat.succ_mul]
    omega
theorem ruleW_fits {r : PRule} (h : RuK r) (l1 : r.1.length = 3) (l2 : r.2.2.length ≤ 3) : ((ruleW r).map (·.length)).sum + (ruleW r).length * spS.length ≤ 200 := by
  have e : spS.length = 1 := by decide +kernel
  have ll : (ruleW r).length ≤ 8 := by
    unfold ruleW
    simp only [List.length_cons, List.length_append, List.length_map]
    omega
  have := sum_len (B := 5) (ruleW r) fun y hy => by
    rw [← ruleKs_S] at hy
    obtain ⟨k, hk, rfl⟩ := List.mem_map.mp hy
    rcases ruleKs_ok h hk with rfl | hk
    · decide +kernel
    · exact hk.len
  rw [e]
  omega
theorem joinL_len (S : List Nat) : ∀ ps : List (List Nat), (joinL S ps).length ≤ (ps.map (·.length)).sum + ps.length * S.length
  | [] => Nat.zero_le _
  | [x] => by
    show x.length ≤ _
    simp only [List.map_cons, List.map_nil, List.sum_cons, List.sum_nil]
    omega
  | x :: y :: r => by
    show (x ++ (S ++ joinL S (y :: r))).length ≤ _
    have := joinL_len S (y :: r)
    simp only [List.length_append, List.map_cons, List.sum_cons, List.length_cons, Nat.succ_mul] at this ⊢
    omega
theorem join_len (y : Str) (ps : List Str) : (Txt.join y ps).length ≤ (ps.map (·.length)).sum + ps.length * y.length := by
  rw [len_tl, join_eq, tl_join]
  have := joinL_len (tl y) (ps.map tl)
  rw [List.map_map, List.length_map, ← len_tl] at this
  have e : ((fun l : List Nat => l.length) ∘ tl) = fun z : Str => z.length := funext fun z => (len_tl z).symm
  rw [e] at this
  exact this
theorem PlanOk.rk {P : Plan} (ok : PlanOk P) {r : PRule} (h : r ∈ P.rules) : RuK r ∧ r.1.length = 3 ∧ r.2.2.length ≤ 3 := by
  have rok := ok.r r h
  refine ⟨ruK_of ok.k ok.w.2 rok, ?_, ?_⟩
  · obtain ⟨i, j, t, e, _⟩ := rok
    rw [e]
    rfl
  · obtain ⟨i, j, t, e, _, _, _, _, _, _, _, so⟩ := rok
    have := so.len
    have := heldAt_le ok.k r.2.1
    omega
/-- each line is short -/
theorem line_len {P : Plan} (ok : PlanOk P) {z : Str} (h : z ∈ linesOf P.words P.kinds (sortP P.rules)) : z.length ≤ 200 := by
  unfold linesOf at h
  simp only [List.mem_cons, List.mem_append, List.mem_map] at h
  rcases h with rfl | ⟨k, hk, rfl⟩ | ⟨r, hr, rfl⟩
  · unfold wordsL
    rw [Str.length_append, len_dg (by have := ok.w; omega) (by have := ok.w; omega)]
    have e6 : (Str.ofString "words ").length = 6 := by decide +kernel
    omega
  · have b := ok.k.all k hk
    unfold stateL
    rw [Str.length_append, Str.length_append, Str.length_append, len_dg b.1 (by omega), len_dg b.2.2.1 (by omega)]
    have e6 : (Str.ofString "state ").length = 6 := by decide +kernel
    have e7 : spS.length = 1 := by decide +kernel
    omega
  · obtain ⟨ruk, l1, l2⟩ := ok.rk (sortP_mem ok.nd hr)
    unfold ruleL
    exact Nat.le_trans (join_len _ _) (ruleW_fits ruk l1 l2)
theorem lines_len {P : Plan} (ok : PlanOk P) : (linesOf P.words P.kinds (sortP P.rules)).length ≤ 80 := by
  unfold linesOf
  simp only [List.length_cons, List.length_append, List.length_map]
  have := ok.k.len.2
  have := rules_len ok.k ok.w.2 ok.r ok.nd
  have := sortP_len P.rules
  omega
/-- lines with their ends, joined, are short -/
theorem page_fits {ls : List Str} (h : ∀ z ∈ ls, z.length ≤ 200) (hl : ls.length ≤ 80) : ((ls.map (· ++ nlS)).map (·.length)).sum + (ls.map (· ++ nlS)).length * Str.empty.length ≤ 20000 := by
  have := sum_len (B := 201) (ls.map (· ++ nlS)) fun y hy => by
    obtain ⟨z, hz, rfl⟩ := List.mem_map.mp hy
    show (z ++ nlS).length ≤ 201
    rw [Str.length_append]
    have := h z hz
    have e7 : nlS.length = 1 := by decide +kernel
    omega
  have e0 : Str.empty.length = 0 := rfl
  rw [e0]
  rw [List.length_map] at this ⊢
  omega
section
variable {P : Program} {w : World} {K : PySem.W.Frag} {mg : Str → Option Value} {base : Heap}
abbrev N_format_watcher : List Str := ["watcher", "lines", "verdict", "held", "rule", "target", "sources", "part", "line"]
theorem sc_format_watcher : FnScope N_format_watcher ["watcher"] (defScope s_format_watcher) := ⟨rfl, rfl, rfl, by decide +kernel, rfl, by decide +kernel, by decide +kernel⟩
theorem G_format_watcher (T : Tx K mg) : FnG P w K mg base CX0 3 T.format_watcher.f T.format_watcher.fd ["watcher"] (sp_format_watcher T.Watcher.C) := by
  refine okG T.format_watcher.F sc_format_watcher (fun vs H Q E h => ?_) (fun cdv A outer s H vs Q E gd hr h => ?_)
  · obtain ⟨x, lv, lh, d, pl, rfl, _⟩ := h
    rfl
  · obtain ⟨x, lv, lh, d, pl, rfl, hW, q⟩ := h
    have L5 := line5
    refine ⟨_, 
      (C8.pss_cut (ps_set (i := 1) sc_format_watcher.nd rfl (.inl rfl) (pe_lst (pa_cons (pe_joinF (.cons pe_str (.cons (pe_fmt (pe_fld (pv 0) rfl)) .nil))) pa_nil))) -- lines = [f'words {watcher.words}']
      (C8.pss_cut (ps_for PassesOwn.never rfl (RZ.pi_zipA (by rfl) T.m_zip (pa_cons (pe_meth0G (pv 0) T.Watcher.cl T.Watcher_verdicts.M (G_Watcher_verdicts T) gd (hr.mono (by decide)) T.Watcher_verdicts.b .nil pass0) (pa_cons (pe_meth0G (pv 0) T.Watcher.cl T.Watcher_held_counts.M (G_Watcher_held_counts T) gd (hr.mono (by decide)) T.Watcher_held_counts.b .nil pass0) pa_nil))) (pg_tup rfl (pgs_cons (pg_name (i := 2) sc_format_watcher.nd rfl (.inl rfl)) (pgs_cons (pg_name (i := 3) sc_format_watcher.nd rfl (.inl rfl)) pgs_nil))) 
        (pss_one (ps_expr (pe_bm PySem.F.plainAttrs_list PySem.F.slot_list_append PySem.F.type_list_append mt_append (pv 1) (pa_cons (pe_joinF (.cons pe_str (.cons (pe_fmt (pv 2)) (.cons pe_str (.cons (pe_fmt (pv 3)) .nil))))) pa_nil)))) -- lines.append(f'state {verdict} {held}')
        ) -- for verdict, held in zip(watcher.verdicts(), watcher.held_counts()):
      (C8.pss_cut (ps_for PassesOwn.never rfl (pi_itemsL (pe_meth0G (pv 0) T.Watcher.cl T.Watcher_rules.M (G_Watcher_rules T) gd (hr.mono (by decide)) T.Watcher_rules.b .nil pass0)) (pg_tup rfl (pgs_cons (pg_name (i := 4) sc_format_watcher.nd rfl (.inl rfl)) (pgs_cons (pg_tup rfl (pgs_cons (pg_name (i := 5) sc_format_watcher.nd rfl (.inl rfl)) (pgs_cons (pg_name (i := 6) sc_format_watcher.nd rfl (.inl rfl)) pgs_nil))) pgs_nil))) 
        (pss_one (ps_expr (pe_bm PySem.F.plainAttrs_list PySem.F.slot_list_append PySem.F.type_list_append mt_append (pv 1) (pa_cons (pe_join pe_str (pe_lc (own := [("part", 7)]) (g := gName 7) rfl sc_format_watcher.nd (pi_tup (pe_tup (pa_cons pe_str (StX.pa_star (pv 4) (pa_cons (pv 5) (StX.pa_star (pv 6) pa_nil)))))) (blkOk_by (N := N_format_watcher) (sc := defScope s_format_watcher) (by decide +kernel)) (fun _ _ _ _ _ => (pg_name (i := 7) sc_format_watcher.nd rfl (.inl rfl))) (fun _ _ _ _ _ => pts_nil) (fun _ _ _ _ _ => (pe_callTy call_strK (by rfl) T.m_str (by decide +kernel) (pa_cons (pv 7) pa_nil))))) pa_nil)))) -- lines.append(' '.join([str(part) for part in ('rule', *rule, target, *sources)]))
        ) -- for rule, (target, sources) in watcher.rules().items():
      (pss_one (ps_ret (pe_join pe_str (pe_lc (own := [("line", 8)]) (g := gName 8) rfl sc_format_watcher.nd (pi_list (pv 1)) (blkOk_by (N := N_format_watcher) (sc := defScope s_format_watcher) (by decide +kernel)) (fun _ _ _ _ _ => (pg_name (i := 8) sc_format_watcher.nd rfl (.inl rfl))) (fun _ _ _ _ _ => pts_nil) (fun _ _ _ _ _ => (pe_joinF (.cons (pe_fmt (pv 8)) (.cons pe_str .nil)))))))) -- return ''.join([f'{line}\n' for line in lines])
      ))) , ?_⟩
    obtain ⟨dx, hx⟩ := hW.w.ins
    refine ⟨fun σ H' => ∃ l y2 y3 y4 y5 y6 y7 y8, σ = [some (.ref x), some (.ref l), y2, y3, y4, y5, y6, y7, y8] ∧ Same H H' ∧ H l = none ∧ H' l = some (.lst [.str (wordsL pl.words)]), ?_, ?_⟩
    · have L2 := line200
      have hw := hW.ok.w
      refine ⟨_, rfl, ?_, .ref x, rfl, x, T.Watcher.C, dx, _, .int pl.words, rfl, hx, T.Watcher.cl, T.W.n1, rfl, .inr ⟨pl.words, rfl, log_dg (by omega) (by omega), _, rfl, ?_, ?_⟩⟩
      · rw [Str.empty_append]
        exact Nat.le_trans (by decide +kernel) L2
      · rw [Str.empty_append, Str.length_append]
        have := len_dg (i := pl.words) (by omega) (by omega)
        unfold dgS at this
        have e6 : (Str.ofString "words ").length = 6 := by decide +kernel
        omega
      · rw [Str.empty_append]
        refine ⟨by show 1 ≤ sizeLine; decide, fun l nl => ?_⟩
        exact ⟨l, none, none, none, none, none, none, none, rfl, same_new nl, nl, upd_same⟩
    rintro σ H1 ⟨l, y2, y3, y4, y5, y6, y7, y8, rfl, s1, nl, hl⟩
    refine ⟨fun σ H' => ∃ y2 y3 y4 y5 y6 y7 y8, σ = [some (.ref x), some (.ref l), y2, y3, y4, y5, y6, y7, y8] ∧ Same H H' ∧ H' l = some (.lst ((wordsL pl.words :: pl.kinds.map stateL).map V.str)), ?_, ?_⟩
    · have hW1 := hW.mono s1
      have hx1 := s1 _ _ hx
      refine ⟨.ref x, rfl, x, dx, _, rfl, hx1, rfl, x, lv, lh, d, _, _, _, _, rfl, hW1.w, fun ta na => ?_⟩
      have sa : Same H1 (upd H1 ta (.tup ((pl.kinds.map (·.1)).map V.int))) := same_new na
      have hta : (upd H1 ta (.tup ((pl.kinds.map (·.1)).map V.int))) ta = some (.tup ((pl.kinds.map (·.1)).map V.int)) := upd_same
      generalize upd H1 ta (.tup ((pl.kinds.map (·.1)).map V.int)) = H2 at *
      refine ⟨.ref x, rfl, x, dx, _, rfl, sa _ _ hx1, rfl, x, lv, lh, d, _, _, _, _, rfl, (hW1.mono sa).w, fun tb nb => ?_⟩
      have sb : Same H2 (upd H2 tb (.tup ((pl.kinds.map (·.2)).map V.int))) := same_new nb
      have htb : (upd H2 tb (.tup ((pl.kinds.map (·.2)).map V.int))) tb = some (.tup ((pl.kinds.map (·.2)).map V.int)) := upd_same
      have hta := sb _ _ hta
      have s3 := (s1.trans sa).trans sb
      have hl3 := sb _ _ (sa _ _ hl)
      generalize upd H2 tb (.tup ((pl.kinds.map (·.2)).map V.int)) = H3 at *
      have fr3 : ∀ {c : Addr} {o : HO}, H c = some o → c ≠ l := fun e => ne_of_none e nl
      refine ⟨ta, tb, _, _, rfl, .inr ⟨SqT.of hta, SqT.of htb, ?_⟩⟩
      have nal : ta ≠ l := ne_of hta hl3 (fun z => nomatch z)
      have nbl : tb ≠ l := ne_of htb hl3 (fun z => nomatch z)
      refine RZ.for_zipT (K := K) (a := ta) (b := tb) (xs := (pl.kinds.map (·.1)).map V.int) (ys := (pl.kinds.map (·.2)).map V.int) (by rw [List.length_map, List.length_map, List.length_map, List.length_map]) (fun i σ H' => ∃ y2 y3, σ = [some (.ref x), some (.ref l), y2, y3, y4, y5, y6, y7, y8] ∧ (∀ c o, H3 c = some o → c ≠ l → H' c = some o) ∧ H' l = some (.lst ((wordsL pl.words :: (pl.kinds.take i).map stateL).map V.str))) ?_ ?_ ?_ ?_
      · exact ⟨y2, y3, rfl, fun c o e _ => e, hl3⟩
      · rintro i σ H' ⟨y2, y3, rfl, k, h'⟩
        exact ⟨SqT.of (k _ _ hta nal), SqT.of (k _ _ htb nbl)⟩
      · rintro i a b TT σ H' ea eb ⟨y2, y3, rfl, k, h'⟩ nT
        rw [List.map_map, List.getElem?_map] at ea
        rw [List.map_map] at eb
        obtain ⟨m, em, ea⟩ := Option.map_eq_some_iff.mp ea
        have ea : V.int m.1 = a := ea
        subst ea
        rw [List.getElem?_map, em] at eb
        have eb : V.int m.2 = b := Option.some.inj eb
        subst eb
        have bm := hW.ok.k.all m (List.mem_of_getElem? em)
        have sT : Same H' (upd H' TT (.tup [.int m.1, .int m.2])) := same_new nT
        have hT : (upd H' TT (.tup [.int m.1, .int m.2])) TT = some (.tup [.int m.1, .int m.2]) := upd_same
        refine ⟨TT, [.int m.1, .int m.2], rfl, SqT.of hT, rfl, .int m.1, [.int m.2], rfl, .int m.2, [], rfl, rfl, ?_⟩
        have h2 := sT _ _ h'
        have k2 : ∀ c o, H3 c = some o → c ≠ l → (upd H' TT (.tup [.int m.1, .int m.2])) c = some o := fun c o e n => sT _ _ (k c o e n)
        generalize upd H' TT (.tup [.int m.1, .int m.2]) = H4 at *
        have L2 := line200
        have e1 := len_dg (i := m.1) bm.1 (by omega)
        have e2 := len_dg (i := m.2) bm.2.2.1 (by omega)
        unfold dgS at e1 e2
        have e6 : (Str.ofString "state ").length = 6 := by decide +kernel
        have e7 : (Str.ofString " ").length = 1 := by decide +kernel
        refine ⟨.ref l, rfl, .inl ⟨rfl, _, SqL.of h2⟩, _, rfl, ?_, .int m.1, rfl, .inr ⟨m.1, rfl, log_dg bm.1 (by omega), _, rfl, ?_, _, rfl, ?_, .int m.2, rfl, .inr ⟨m.2, rfl, log_dg bm.2.2.1 (by omega), _, rfl, ?_, ?_⟩⟩⟩
        · rw [Str.empty_append]
          omega
        · rw [Str.empty_append, Str.length_append]
          omega
        · rw [Str.empty_append, Str.length_append, Str.length_append]
          omega
        · rw [Str.empty_append, Str.length_append, Str.length_append, Str.length_append]
          omega
        · rw [Str.empty_append]
          have l6 := hW.ok.k.len.2
          refine ⟨l, _, .str (stateL m), rfl, rfl, h2, ?_, _, _, rfl, ?_, ?_⟩
          · rw [List.length_map, List.length_cons, List.length_map]
            have := List.length_take_le' i pl.kinds
            omega
          · intro c o e n
            rw [upd_ne n]
            exact k2 c o e n
          · rw [upd_same, List.take_add_one, em, List.map_append]
            simp
      · rintro σ H' ⟨y2, y3, rfl, k, h'⟩
        rw [List.length_map, List.length_map, List.take_length] at h'
        exact ⟨y2, y3, y4, y5, y6, y7, y8, rfl, fun c o e => k c o (s3 c o e) (fr3 e), h'⟩
    rintro σ H2 ⟨y2, y3, y4, y5, y6, y7, y8, rfl, s2, hl2⟩
    refine ⟨fun σ H' => ∃ y2 y3 y4 y5 y6 y7 y8, σ = [some (.ref x), some (.ref l), y2, y3, y4, y5, y6, y7, y8] ∧ Same H H' ∧ H' l = some (.lst ((linesOf pl.words pl.kinds (sortP pl.rules)).map V.str)), ?_, ?_⟩
    · have hW2 := hW.mono s2
      have hx2 := s2 _ _ hx
      refine ⟨.ref x, rfl, x, dx, _, rfl, hx2, rfl, x, lv, lh, d, _, _, _, _, rfl, hW2.w, fun t H3 kvs s3 nt ht hkv => ?_⟩
      refine ⟨t, kvs, rfl, ht, fun o => ?_⟩
      rw [← sortP_rows hW.ok.nd] at hkv
      have hl3 := s3 _ _ hl2
      have ntl : t ≠ l := ne_of ht hl3 (fun z => nomatch z)
      have k4 : ∀ c ob, H2 c = some ob → (upd H3 t (.frz o (.dT kvs))) c = some ob := fun c ob e => by
        rw [upd_ne (ne_of_none e nt)]
        exact s3 _ _ e
      have tp4 : Tups H3 (upd H3 t (.frz o (.dT kvs))) := Tups.put ht (fun _ z => by cases z)
      have hkv4 := hkv.mono tp4
      have ht4 : (upd H3 t (.frz o (.dT kvs))) t = some (.frz o (.dT kvs)) := upd_same
      have hl4 := k4 _ _ hl2
      generalize upd H3 t (.frz o (.dT kvs)) = H4 at *
      have lk : kvs.length = (sortP pl.rules).length := by
        have := Paired.length hkv
        rw [this]
        unfold rowsOf
        rw [List.length_map]
      have l72 := rules_len hW.ok.k hW.ok.w.2 hW.ok.r hW.ok.nd
      have lS := sortP_len pl.rules
      refine for_it walk_itemsT (fun i σ H' => ∃ y4 y5 y6 y7, σ = [some (.ref x), some (.ref l), y2, y3, y4, y5, y6, y7, y8] ∧ (∀ c ob, H4 c = some ob → c ≠ l → H' c = some ob) ∧ H' l = some (.lst ((linesOf pl.words pl.kinds ((sortP pl.rules).take i)).map V.str))) ?_ ?_ ?_ ?_
      · exact ⟨y4, y5, y6, y7, rfl, fun c ob e _ => e, by rw [hl4, List.take_zero]; unfold linesOf; rw [List.map_nil, List.append_nil]⟩
      · rintro i σ H' hi ⟨y4, y5, y6, y7, rfl, k, h'⟩
        exact k _ _ ht4 ntl
      · rintro i y σ H5 H6 hi ⟨y4, y5, y6, y7, rfl, k5, h5⟩ ⟨TT, kk, v, qa, ekv, rfl, hqa, nT, rfl⟩
        have tp5 : Tups H4 H5 := fun c xs e => k5 c _ e (ne_of e hl4 (fun z => nomatch z))
        obtain ⟨dd, hR, tdv⟩ := kvd_get (hkv4.mono tp5) ekv
        obtain ⟨r, er, rfl, rfl⟩ := rows_get hR
        have s6 : Same H5 (upd H5 TT (.tup [.ref qa, v])) := same_new nT
        have hT : (upd H5 TT (.tup [.ref qa, v])) TT = some (.tup [.ref qa, v]) := upd_same
        obtain ⟨ba, bs, rfl, hba, hbs⟩ := (tdv.mono (Tups.same s6)).rule
        have hq6 := s6 _ _ hqa
        have h6 := s6 _ _ h5
        have k6 : ∀ c ob, H4 c = some ob → c ≠ l → (upd H5 TT (.tup [.ref qa, .ref ba])) c = some ob := fun c ob e n => s6 _ _ (k5 c ob e n)
        generalize upd H5 TT (.tup [.ref qa, .ref ba]) = H6 at *
        have rok := hW.ok.r r (sortP_mem hW.ok.nd (List.mem_of_getElem? er))
        have ruk := ruK_of hW.ok.k hW.ok.w.2 rok
        have l1 : r.1.length = 3 := by
          obtain ⟨i, j, t, e, _⟩ := rok
          rw [e]
          rfl
        have l2 : r.2.2.length ≤ 3 := by
          obtain ⟨i, j, t, e, _, _, _, _, _, _, _, so⟩ := rok
          have := so.len
          have := heldAt_le hW.ok.k r.2.1
          omega
        refine ⟨TT, _, rfl, SqT.of hT, rfl, .ref qa, [.ref ba], rfl, .ref ba, [], rfl, ba, _, rfl, SqT.of hba, rfl, .int r.2.1, [.ref bs], rfl, .ref bs, [], rfl, rfl, rfl, ?_⟩
        refine ⟨.ref l, rfl, .inl ⟨rfl, _, SqL.of h6⟩, ⟨_, rfl⟩, .ref qa, rfl, qa, _, rfl, .inl (SqT.of hq6), .int r.2.1, rfl, .ref bs, rfl, bs, _, rfl, .inl (SqT.of hbs), ?_, fun U nU => ?_⟩
        · simp only [List.length_cons, List.length_append, List.length_map, List.length_nil]
          omega
        · have eU : (V.str (Str.ofString "rule") :: (r.1.map kV ++ V.int r.2.1 :: (r.2.2.map kV ++ []))) = (ruleKs r).map kV := by
            unfold ruleKs
            rw [List.append_nil, List.map_cons, List.map_append, List.map_cons]
            rfl
          rw [eU]
          have sU : Same H6 (upd H6 U (.tup ((ruleKs r).map kV))) := same_new nU
          have hU : (upd H6 U (.tup ((ruleKs r).map kV))) U = some (.tup ((ruleKs r).map kV)) := upd_same
          have h7 := sU _ _ h6
          have k7 : ∀ c ob, H4 c = some ob → c ≠ l → (upd H6 U (.tup ((ruleKs r).map kV))) c = some ob := fun c ob e n => sU _ _ (k6 c ob e n)
          generalize upd H6 U (.tup ((ruleKs r).map kV)) = H7 at *
          refine ⟨U, rfl, ⟨_, SqT.of hU⟩, fun D nD => ?_⟩
          have nDl : l ≠ D := ne_of_none h7 nD
          refine lc_tup (K := K) (a := U) (xs := (ruleKs r).map kV) (fun j H' => Same H7 H' ∧ H' D = some (.lst ((((ruleKs r).take j).map keyS).map V.str))) ?_ ?_ ?_ ?_
          · exact ⟨same_new nD, upd_same⟩
          · rintro j H8 hj ⟨s8, hD⟩
            exact SqT.of (s8 _ _ hU)
          · rintro j y H8 hj ⟨s8, hD⟩
            rw [List.getElem?_map] at hj
            obtain ⟨k, hk, rfl⟩ := Option.map_eq_some_iff.mp hj
            have kok := ruleKs_ok ruk (List.mem_of_getElem? hk)
            have lks : (ruleKs r).length ≤ 8 := by
              unfold ruleKs
              simp only [List.length_cons, List.length_append]
              omega
            have fin : ∃ acc, H8 D = some (.lst acc) ∧ acc.length < sizeLine ∧ (Same H7 (upd H8 D (.lst (acc ++ [.str (keyS k)]))) ∧ (upd H8 D (.lst (acc ++ [.str (keyS k)]))) D = some (.lst ((((ruleKs r).take (j + 1)).map keyS).map V.str))) := by
              refine ⟨_, hD, ?_, ?_, ?_⟩
              · rw [List.length_map, List.length_map]
                have := List.length_take_le' j (ruleKs r)
                omega
              · intro b o e
                rw [upd_ne (ne_of_none e nD)]
                exact s8 _ _ e
              · rw [upd_same, List.take_add_one, hk, List.map_append, List.map_append]
                rfl
            cases k with
            | inl n =>
              refine ⟨rfl, .int n, rfl, .inl ⟨n, rfl, ?_, fin⟩⟩
              rcases kok with z | z
              · cases z
              · exact z.log
            | inr s' => exact ⟨rfl, .str s', rfl, .inr ⟨s', rfl, fin⟩⟩
          · rintro H8 ⟨s8, hD⟩
            rw [List.length_map, List.take_length, ruleKs_S] at hD
            have fits := ruleW_fits ruk l1 l2
            refine ⟨_, D, ruleW r, rfl, rfl, .inl (SqL.of hD), Nat.le_trans fits (by decide), ?_⟩
            have h8 := s8 _ _ h7
            refine ⟨l, _, .str (ruleL r), rfl, rfl, h8, ?_, _, _, _, _, rfl, ?_, ?_⟩
            · rw [List.length_map]
              unfold linesOf
              simp only [List.length_cons, List.length_append, List.length_map]
              have := hW.ok.k.len
              have := List.length_take_le' i (sortP pl.rules)
              omega
            · intro c ob e n
              rw [upd_ne n]
              exact s8 _ _ (k7 c ob e n)
            · rw [upd_same, List.take_add_one, er]
              unfold linesOf
              simp
      · rintro σ H' ⟨y4, y5, y6, y7, rfl, k, h'⟩
        rw [lk, List.take_length] at h'
        exact ⟨y2, y3, y4, y5, y6, y7, y8, rfl, fun c ob e => k c ob (k4 _ _ (s2 c ob e)) (ne_of_none e nl), h'⟩
    rintro σ H3 ⟨y2, y3, y4, y5, y6, y7, y8, rfl, s3, hl3⟩
    have hll : ∀ z ∈ linesOf pl.words pl.kinds (sortP pl.rules), z.length ≤ 200 := fun z hz => line_len hW.ok hz
    have hln := lines_len hW.ok
    unfold pageOf at q
    generalize linesOf pl.words pl.kinds (sortP pl.rules) = ls at *
    refine ⟨⟨_, rfl⟩, .ref l, rfl, l, rfl, ⟨_, SqL.of hl3⟩, fun D nD => ?_⟩
    refine lc_list (K := K) (a := l) (xs := ls.map V.str) (fun j H' => Same H3 H' ∧ H' D = some (.lst (((ls.take j).map (· ++ nlS)).map V.str))) ?_ ?_ ?_ ?_
    · exact ⟨same_new nD, upd_same⟩
    · rintro j H4 hj ⟨s4, hD⟩
      exact SqL.of (s4 _ _ hl3)
    · rintro j y H4 hj ⟨s4, hD⟩
      rw [List.getElem?_map] at hj
      obtain ⟨z, hz, rfl⟩ := Option.map_eq_some_iff.mp hj
      have lz := hll z (List.mem_of_getElem? hz)
      have e7 : (Str.ofString "\n").length = 1 := by decide +kernel
      refine ⟨rfl, .str z, rfl, .inl ⟨z, rfl, by omega, _, rfl, ?_, _, rfl, ?_, ?_⟩⟩
      · rw [Str.empty_append]
        omega
      · rw [Str.empty_append, Str.length_append]
        omega
      · rw [Str.empty_append]
        refine ⟨_, hD, ?_, ?_, ?_⟩
        · rw [List.length_map, List.length_map]
          have := List.length_take_le' j ls
          omega
        · intro b o e
          rw [upd_ne (ne_of_none e nD)]
          exact s4 _ _ e
        · rw [upd_same, List.take_add_one, hz, List.map_append, List.map_append]
          rfl
    · rintro H4 ⟨s4, hD⟩
      rw [List.length_map, List.take_length] at hD
      refine ⟨_, D, ls.map (· ++ nlS), rfl, rfl, .inl (SqL.of hD), Nat.le_trans (page_fits hll hln) (by decide), q _ (s3.trans s4)⟩
end

/-! ### the order of rules by the law's own ranks -/
def rank9 : List Key → List Int
  | [Sum.inl i, Sum.inl j, Sum.inl r] => [i, j, r]
  | [Sum.inl i, Sum.inl j, Sum.inr _] => [i, j, 9]
  | _ => [0, 0, 0]
theorem rank9_cons (k : List Key) : ∃ x r, rank9 k = x :: r := by
  unfold rank9
  split <;> exact ⟨_, _, rfl⟩
theorem rank9_len (k : List Key) : (rank9 k).length = 3 := by
  unfold rank9
  split <;> rfl
def KB (k : List Key) : Prop := ∃ (i j : Int) (t : Key), k = [Sum.inl i, Sum.inl j, t] ∧ ((∃ r : Int, t = Sum.inl r ∧ 0 ≤ r ∧ r < 3) ∨ t = Sum.inr ("new" : Str))
theorem KB.rk {k : List Key} (h : KB k) : RK k := by
  obtain ⟨i, j, t, rfl, ⟨r, rfl, _, _⟩ | rfl⟩ := h
  · exact ⟨i, j, _, rfl, .inl ⟨r, rfl⟩⟩
  · exact ⟨i, j, _, rfl, .inr rfl⟩
theorem le3 (a b c a' b' c' : Int) : ([a, b, c] ≤ [a', b', c']) ↔ (a < a' ∨ (a = a' ∧ (b < b' ∨ (b = b' ∧ c ≤ c')))) := by
  simp only [List.cons_le_cons_iff, List.le_refl, and_true]
  omega
theorem rank_le {a b : List Key} (ha : KB a) (hb : KB b) : rankK a ≤ rankK b ↔ rank9 a ≤ rank9 b := by
  obtain ⟨i, j, t, rfl, ⟨r, rfl, r0, r1⟩ | rfl⟩ := ha <;> obtain ⟨i', j', t', rfl, ⟨r', rfl, r0', r1'⟩ | rfl⟩ := hb <;> (simp only [rankK, rank9, le3] <;> omega)
theorem rank_anti {a b : List Key} (ha : KB a) (hb : KB b) (h1 : rank9 a ≤ rank9 b) (h2 : rank9 b ≤ rank9 a) : a = b := by
  obtain ⟨i, j, t, rfl, ⟨r, rfl, r0, r1⟩ | rfl⟩ := ha <;> obtain ⟨i', j', t', rfl, ⟨r', rfl, r0', r1'⟩ | rfl⟩ := hb <;> simp only [rank9, le3] at h1 h2
  · have e1 : i = i' := by omega
    have e2 : j = j' := by omega
    have e3 : r = r' := by omega
    rw [e1, e2, e3]
  · omega
  · omega
  · have e1 : i = i' := by omega
    have e2 : j = j' := by omega
    rw [e1, e2]
theorem list_le_total (a b : List Int) : a ≤ b ∨ b ≤ a := List.le_total a b
theorem srt_pw (rank : List Key → List Int) (ks : List (List Key)) : (srt rank ks).Pairwise fun a b => rank a ≤ rank b := by
  have h := List.pairwise_mergeSort (le := fun a b => decide (rank a ≤ rank b)) (fun a b c h1 h2 => decide_eq_true (List.le_trans (of_decide_eq_true h1) (of_decide_eq_true h2))) (fun a b => by
    rw [Bool.or_eq_true, decide_eq_true_iff, decide_eq_true_iff]
    exact list_le_total _ _) ks
  exact h.imp fun z => of_decide_eq_true z
theorem srt_eq {k1 k2 : List (List Key)} (p : k1.Perm k2) (h : ∀ k ∈ k1, KB k) : srt rankK k1 = srt rank9 k2 := by
  have m1 : ∀ k ∈ srt rankK k1, KB k := fun k hk => h k (srt_mem.mp hk)
  have m2 : ∀ k ∈ srt rank9 k2, KB k := fun k hk => h k (p.mem_iff.mpr (srt_mem.mp hk))
  refine List.Perm.eq_of_pairwise (le := fun a b => rank9 a ≤ rank9 b) (fun a b ha hb => rank_anti (m1 a ha) (m2 b hb)) ?_ (srt_pw _ _) (((List.mergeSort_perm k1 _).trans p).trans (List.mergeSort_perm k2 _).symm)
  exact (srt_pw rankK k1).imp_of_mem fun ha hb z => (rank_le (m1 _ ha) (m1 _ hb)).mp z
theorem lookR_mem {R : Rows} (nd : (R.map (·.1)).Nodup) {k : List Key} {d : PyData} (h : (k, d) ∈ R) : lookR R k = d := by
  induction R with
  | nil => cases h
  | cons p r ih =>
    unfold lookR
    have nd' := List.nodup_cons.mp nd
    rcases List.mem_cons.mp h with e | e
    · subst e
      rw [List.find?_cons_of_pos (by simp)]
      rfl
    · have : ¬ p.1 = k := fun z => nd'.1 (List.mem_map.mpr ⟨_, e, z.symm⟩)
      rw [List.find?_cons_of_neg (by simpa using this)]
      exact ih nd'.2 e
theorem heldAt_set {ks : List (Int × Int)} {s : Int} {a : Int} (i : Int) (s0 : 0 ≤ s) (i0 : 0 ≤ i) : heldAt (ks.set s.toNat (a, heldAt ks s)) i = heldAt ks i := by
  unfold heldAt
  rw [List.getElem?_set]
  by_cases e : s.toNat = i.toNat
  · rw [if_pos e]
    have es : s = i := by omega
    subst es
    by_cases h : s.toNat < ks.length
    · rw [if_pos h]
      rfl
    · rw [if_neg h, List.getElem?_eq_none (by omega)]
  · rw [if_neg e]
theorem RuleOk.kinds {w : Int} {ks ks' : List (Int × Int)} {r : PRule} (h : RuleOk w ks r) (hl : ks.length ≤ ks'.length) (hh : ∀ i : Int, 0 ≤ i → i < ks.length → heldAt ks' i = heldAt ks i) : RuleOk w ks' r := by
  obtain ⟨i, j, t, e, i0, i1, j0, j1, ht, g0, g1, hs⟩ := h
  refine ⟨i, j, t, e, i0, by omega, j0, j1, ?_, g0, by omega, ?_⟩
  · rw [hh i i0 i1]
    exact ht
  · rw [hh i i0 i1, hh _ g0 g1]
    exact hs
/-- a rank beside a number -/
abbrev RkN := Int × Int × Int × Int
def encR (b : RkN) : PyData := .tuple [.tuple [.int b.1, .int b.2.1, .int b.2.2.1], .int b.2.2.2]
def leR (p q : RkN) : Prop := p.1 < q.1 ∨ (p.1 = q.1 ∧ (p.2.1 < q.2.1 ∨ (p.2.1 = q.2.1 ∧ (p.2.2.1 < q.2.2.1 ∨ (p.2.2.1 = q.2.2.1 ∧ p.2.2.2 ≤ q.2.2.2)))))
theorem lexI {a b : Int} {r t : List (Int ⊕ List Nat)} : PyProof.Rows.lexLt PyProof.Rows.itemOrd (.inl a :: r) (.inl b :: t) = true ↔ a < b ∨ (¬ b < a ∧ PyProof.Rows.lexLt PyProof.Rows.itemOrd r t = true) := by
  rw [PyProof.Rows.lex_true]
  show decide (a < b) = true ∨ (decide (b < a) = false ∧ _) ↔ _
  rw [decide_eq_true_iff, decide_eq_false_iff_not]
theorem lexN : PyProof.Rows.lexLt PyProof.Rows.itemOrd [] [] = true ↔ False := ⟨fun z => Bool.noConfusion z, False.elim⟩
theorem le_encR {β : Type} (f : β → RkN) (p q : β) : PySem.W.dataLe false (fun b => encR (f b)) p q = true ↔ leR (f p) (f q) := by
  rw [PySem.W.dataLe_eq]
  show (!PySem.W.dataLt (encR (f q)) (encR (f p))) = true ↔ _
  obtain ⟨i, j, r, a⟩ := f p
  obtain ⟨i', j', r', a'⟩ := f q
  have e : PySem.W.dataLt (encR (i', j', r', a')) (encR (i, j, r, a)) = decide (i' < i ∨ (i' = i ∧ (j' < j ∨ (j' = j ∧ (r' < r ∨ (r' = r ∧ a' < a)))))) := by
    show PyProof.Rows.lexLt PyProof.Rows.itemOrd [.inl 1, .inl 1, .inl i', .inl 1, .inl j', .inl 1, .inl r', .inl 0, .inl 1, .inl a', .inl 0] [.inl 1, .inl 1, .inl i, .inl 1, .inl j, .inl 1, .inl r, .inl 0, .inl 1, .inl a, .inl 0] = _
    rw [Bool.eq_iff_iff, decide_eq_true_iff]
    repeat rw [lexI]
    rw [lexN]
    simp only [Int.lt_irrefl, false_or, not_false_eq_true, true_and, and_false, or_false]
    constructor
    · intro h
      omega
    · intro h
      omega
  rw [e]
  simp only [Bool.not_eq_true', decide_eq_false_iff_not, leR]
  omega
def enK (k : List Key) (n : Nat) : RkN := match rank9 k with
  | [i, j, r] => (i, j, r, (n : Int))
  | _ => (0, 0, 0, (n : Int))
theorem enK_le {a b : List Key} (ha : KB a) (hb : KB b) {n m : Nat} (h : leR (enK a n) (enK b m)) : rank9 a ≤ rank9 b := by
  obtain ⟨i, j, t, rfl, ⟨r, rfl, r0, r1⟩ | rfl⟩ := ha <;> obtain ⟨i', j', t', rfl, ⟨r', rfl, r0', r1'⟩ | rfl⟩ := hb <;> simp only [enK, rank9, le3, leR] at h ⊢ <;> omega
/-- the keys, sorted beside their numbers -/
theorem keys_sorted {β : Type} (f : β → RkN) (g : β → List Key) (num : β → Nat) (bs : List β) (hf : ∀ b ∈ bs, f b = enK (g b) (num b)) (hk : ∀ b ∈ bs, KB (g b)) : (bs.mergeSort (PySem.W.dataLe false fun b => encR (f b))).map g = srt rank9 (bs.map g) := by
  have tr : ∀ a b c : β, PySem.W.dataLe false (fun b => encR (f b)) a b = true → PySem.W.dataLe false (fun b => encR (f b)) b c = true → PySem.W.dataLe false (fun b => encR (f b)) a c = true := fun a b c h1 h2 => by
    rw [le_encR] at h1 h2 ⊢
    unfold leR at *
    omega
  have tot : ∀ a b : β, (PySem.W.dataLe false (fun b => encR (f b)) a b || PySem.W.dataLe false (fun b => encR (f b)) b a) = true := fun a b => by
    rw [Bool.or_eq_true, le_encR, le_encR]
    unfold leR
    omega
  have pw := List.pairwise_mergeSort tr tot bs
  have pm := List.mergeSort_perm bs (PySem.W.dataLe false fun b => encR (f b))
  have m1 : ∀ k ∈ (bs.mergeSort (PySem.W.dataLe false fun b => encR (f b))).map g, KB k := fun k h => by
    obtain ⟨b, hb, rfl⟩ := List.mem_map.mp h
    exact hk b (pm.mem_iff.mp hb)
  have m2 : ∀ k ∈ srt rank9 (bs.map g), KB k := fun k h => by
    obtain ⟨b, hb, rfl⟩ := List.mem_map.mp (srt_mem.mp h)
    exact hk b hb
  refine List.Perm.eq_of_pairwise (le := fun a b => rank9 a ≤ rank9 b) (fun a b ha hb => rank_anti (m1 a ha) (m2 b hb)) ?_ (srt_pw _ _) ((pm.map g).trans (List.mergeSort_perm (bs.map g) _).symm)
  refine List.pairwise_map.mpr (pw.imp_of_mem fun {a b} ha hb h => ?_)
  have ha' := pm.mem_iff.mp ha
  have hb' := pm.mem_iff.mp hb
  rw [le_encR, hf a ha', hf b hb'] at h
  exact enK_le (hk a ha') (hk b hb') h

/-! ### the rank of a rule -/
def sp_law_rank : Sp := fun us H Q _ => ∃ (a : Addr) (k : List Key), us = [.ref a] ∧ H a = some (.tup (k.map kV)) ∧ KB k ∧ ∀ t H', Same H H' → H' t = some (.tup ((rank9 k).map V.int)) → Q (.ref t) H'
section
variable {P : Program} {w : World} {K : PySem.W.Frag} {mg : Str → Option Value} {base : Heap}
abbrev N_law_rank : List Str := ["rule"]
theorem sc_law_rank : FnScope N_law_rank ["rule"] (defScope s_law_rank) := ⟨rfl, rfl, rfl, by decide +kernel, rfl, by decide +kernel, by decide +kernel⟩
theorem G_law_rank (T : Tx K mg) : FnG P w K mg base CX0 1 T.law_rank.f T.law_rank.fd ["rule"] sp_law_rank := by
  refine okG T.law_rank.F sc_law_rank (fun vs H Q E h => ?_) (fun cdv A outer s H vs Q E gd hr h => ?_)
  · obtain ⟨a, k, rfl, _⟩ := h
    rfl
  · obtain ⟨a, k, rfl, ha, hk, q⟩ := h
    refine ⟨_, 
      (pss_one (ps_ret (pe_tup (pa_cons (pe_ix ix_tup (pv 0) pe_int (fun _ _ => rfl)) (pa_cons (pe_ix ix_tup (pv 0) pe_int (fun _ _ => rfl)) (pa_cons (pe_ifExp (pt_cmpR op_eq (pe_ix ix_tup (pv 0) pe_int (fun _ _ => rfl)) pe_str (nomark _)) pe_int (pe_ix ix_tup (pv 0) pe_int (fun _ _ => rfl))) pa_nil)))))) -- return (rule[0], rule[1], 9 if rule[2] == 'new' else rule[2])
       , ?_⟩
    obtain ⟨i, j, t, rfl, tk⟩ := hk
    refine ⟨.ref a, rfl, a, _, 0, .int i, rfl, rfl, SqT.of ha, rfl, .ref a, rfl, a, _, 1, .int j, rfl, rfl, SqT.of ha, rfl, .ref a, rfl, a, _, 2, kV t, rfl, rfl, SqT.of ha, rfl, ?_⟩
    rcases tk with ⟨r, rfl, r0, r1⟩ | rfl
    · refine ⟨rfl, false, rfl, iteF ⟨.ref a, rfl, a, _, 2, .int r, rfl, rfl, SqT.of ha, rfl, by show 3 ≤ sizeLine; decide, fun t nt => q _ _ (same_new nt) upd_same⟩⟩
    · refine ⟨rfl, true, rfl, iteT ⟨by show 3 ≤ sizeLine; decide, fun t nt => q _ _ (same_new nt) upd_same⟩⟩
end

/-! ### keys beside their numbers -/
theorem isKs_keys {H : Hp} : ∀ {kvs : List (List Key × V)} {bs : List Addr}, IsKeys H kvs bs → IsKs H (kvs.map (·.1)) bs
  | _, _, .nil => .nil
  | _, _, .cons h r => .cons h (isKs_keys r)
theorem isKs_mono {H H' : Hp} (s : Same H H') : ∀ {ks : List (List Key)} {bs : List Addr}, IsKs H ks bs → IsKs H' ks bs
  | _, _, .nil => .nil
  | _, _, .cons h r => .cons (s _ _ h) (isKs_mono s r)
def encK (q : List Key × Nat) : PyData := encR (enK q.1 q.2)
def ItemAt (H : Hp) (u : Addr) (k : List Key) (j : Nat) : Prop := ∃ r, H u = some (.tup [.ref r, .int j]) ∧ H r = some (.tup ((rank9 k).map V.int))
theorem ItemAt.same {H H' : Hp} {u : Addr} {k : List Key} {j : Nat} (h : ItemAt H u k j) (s : Same H H') : ItemAt H' u k j := by
  obtain ⟨r, a, b⟩ := h
  exact ⟨r, s _ _ a, s _ _ b⟩
theorem ItemAt.dp {K : PySem.W.Frag} {H : Hp} {u : Addr} {k : List Key} {j : Nat} (h : ItemAt H u k j) (kb : KB k) : Dp K H (.ref u) (encK (k, j)) := by
  obtain ⟨r, a, b⟩ := h
  obtain ⟨i, w, t, rfl, ⟨z, rfl, _, _⟩ | rfl⟩ := kb
  · exact .tup (SqT.of a) (.cons (.tup (SqT.of b) (.cons (.int _) (.cons (.int _) (.cons (.int _) .nil)))) (.cons (.int _) .nil))
  · exact .tup (SqT.of a) (.cons (.tup (SqT.of b) (.cons (.int _) (.cons (.int _) (.cons (.int _) .nil)))) (.cons (.int _) .nil))
theorem ItemAt.put {H : Hp} {u D : Addr} {xs : List V} {o : HO} {k : List Key} {j : Nat} (h : ItemAt H u k j) (hD : H D = some (.lst xs)) : ItemAt (upd H D o) u k j := by
  obtain ⟨r, a, b⟩ := h
  exact ⟨r, by rw [upd_ne (ne_of a hD (fun z => nomatch z))]; exact a, by rw [upd_ne (ne_of b hD (fun z => nomatch z))]; exact b⟩
/-- items with their keys and numbers -/
def numbered (us : List Addr) (KS : List (List Key)) : List (V × (List Key × Nat)) := (List.range KS.length).map fun j => (V.ref (us.getD j 0), (KS.getD j [], j))
theorem numbered_v {us : List Addr} {KS : List (List Key)} (l : us.length = KS.length) : (numbered us KS).map (·.1) = us.map V.ref := by
  unfold numbered
  rw [List.map_map]
  refine List.ext_getElem (by simp [l]) fun i h1 h2 => ?_
  have hi : i < us.length := by simpa using h2
  simp [List.getD_eq_getElem?_getD, List.getElem?_eq_getElem hi]
theorem numbered_k {us : List Addr} {KS : List (List Key)} : (numbered us KS).map (·.2.1) = KS := by
  unfold numbered
  rw [List.map_map]
  refine List.ext_getElem (by simp) fun i h1 h2 => ?_
  simp [List.getD_eq_getElem?_getD, List.getElem?_eq_getElem h2]
theorem numbered_mem {us : List Addr} {KS : List (List Key)} {b : V × (List Key × Nat)} (l : us.length = KS.length) (h : b ∈ numbered us KS) : ∃ (j : Nat) (u : Addr) (k : List Key), us[j]? = some u ∧ KS[j]? = some k ∧ b = (.ref u, (k, j)) := by
  unfold numbered at h
  obtain ⟨j, hj, rfl⟩ := List.mem_map.mp h
  have hj' := List.mem_range.mp hj
  have hu : j < us.length := by omega
  exact ⟨j, us[j], KS[j], List.getElem?_eq_getElem hu, List.getElem?_eq_getElem hj', by simp [List.getD_eq_getElem?_getD, List.getElem?_eq_getElem hu, List.getElem?_eq_getElem hj']⟩

open TL
/-! ### a plan's lines -/
theorem PlanOk.kb {P : Plan} (ok : PlanOk P) : ∀ k ∈ P.rules.map (·.1), KB k := fun k hk => by
  obtain ⟨r, hr, rfl⟩ := List.mem_map.mp hk
  obtain ⟨i, j, t, e, i0, i1, _, _, ht, _⟩ := ok.r r hr
  refine ⟨i, j, t, e, ?_⟩
  rcases ht with ⟨n, rfl, n0, n1⟩ | rfl
  · exact .inl ⟨n, rfl, n0, by have := heldAt_le ok.k i; omega⟩
  · exact .inr rfl
def sp_law_plan_text : Sp := fun us H Q _ => ∃ (l kl rl : Addr) (pl : Plan), us = [.ref l] ∧ PlanAt H l kl rl pl ∧ PlanOk pl ∧ ∀ t H', Same H H' → H t = none → H' t = some (.lst ((linesOf pl.words pl.kinds (sortP pl.rules)).map V.str)) → Q (.ref t) H'
section
variable {P : Program} {w : World} {K : PySem.W.Frag} {mg : Str → Option Value} {base : Heap}
abbrev N_law_plan_text : List Str := ["plan", "lines", "verdict", "held", "names", "ranks", "at", "rule", "rank", "target", "sources", "part"]
theorem sc_law_plan_text : FnScope N_law_plan_text ["plan"] (defScope s_law_plan_text) := ⟨rfl, rfl, rfl, by decide +kernel, rfl, by decide +kernel, by decide +kernel⟩
theorem G_law_plan_text (T : Tx K mg) : FnG P w K mg base CX0 2 T.law_plan_text.f T.law_plan_text.fd ["plan"] sp_law_plan_text := by
  refine okG T.law_plan_text.F sc_law_plan_text (fun vs H Q E h => ?_) (fun cdv A outer s H vs Q E gd hr h => ?_)
  · obtain ⟨l, kl, rl, pl, rfl, _⟩ := h
    rfl
  · obtain ⟨l, kl, rl, pl, rfl, hP, ok, q⟩ := h
    have L5 := line5
    have L2 := line200
    refine ⟨_, 
      (C8.pss_cut (ps_set (i := 1) sc_law_plan_text.nd rfl (.inl rfl) (pe_lst (pa_cons (pe_op op_add_str pe_str (pe_callTy call_str_int (by rfl) T.m_str (by decide +kernel) (pa_cons (pe_ix ix_list (pv 0) pe_int (fun _ _ => rfl)) pa_nil))) pa_nil))) -- lines = ['words ' + str(plan[0])]
      (C8.pss_cut (ps_for PassesOwn.never rfl (pi_list (pe_ix ix_list (pv 0) pe_int (fun _ _ => rfl))) (pg_tup rfl (pgs_cons (pg_name (i := 2) sc_law_plan_text.nd rfl (.inl rfl)) (pgs_cons (pg_name (i := 3) sc_law_plan_text.nd rfl (.inl rfl)) pgs_nil))) 
        (pss_one (ps_expr (pe_bm PySem.F.plainAttrs_list PySem.F.slot_list_append PySem.F.type_list_append mt_append (pv 1) (pa_cons (pe_op op_add_str (pe_op op_add_str (pe_op op_add_str pe_str (pe_callTy call_str_int (by rfl) T.m_str (by decide +kernel) (pa_cons (pv 2) pa_nil))) pe_str) (pe_callTy call_str_int (by rfl) T.m_str (by decide +kernel) (pa_cons (pv 3) pa_nil))) pa_nil)))) -- lines.append('state ' + str(verdict) + ' ' + str(held))
        ) -- for verdict, held in plan[1]:
      (C8.pss_cut (ps_set (i := 4) sc_law_plan_text.nd rfl (.inl rfl) (pe_callTy (call_list_dT rfl) (by rfl) T.m_list (by decide +kernel) (pa_cons (pe_ix ix_list (pv 0) pe_int (fun _ _ => rfl)) pa_nil))) -- names = list(plan[2])
      (C8.pss_cut (ps_set (i := 5) sc_law_plan_text.nd rfl (.inl rfl) (pe_callB (call_sortDd (enc := encK) hr.units) (by rfl) T.m_sorted PyProof.Rows.boot_sorted (pa_cons (pe_lc (own := [("at", 6), ("rule", 7)]) (g := gTup K 2 (gCons (gName 6) (gCons (gName 7) gNil))) rfl sc_law_plan_text.nd (pi_enum (by rfl) T.m_enumerate (pa_cons (pv 4) pa_nil)) (blkOk_by (N := N_law_plan_text) (sc := defScope s_law_plan_text) (by decide +kernel)) (fun _ _ _ _ _ => (pg_tup rfl (pgs_cons (pg_name (i := 6) sc_law_plan_text.nd rfl (.inl rfl)) (pgs_cons (pg_name (i := 7) sc_law_plan_text.nd rfl (.inl rfl)) pgs_nil)))) (fun _ _ _ _ _ => pts_nil) (fun _ _ _ _ _ => (pe_tup (pa_cons (pe_callG (G_law_rank T) gd (hr.mono (by decide)) rfl T.law_rank.g T.law_rank.F.kp T.law_rank.b .nil pass0 (pa_cons (pv 7) pa_nil)) (pa_cons (pv 6) pa_nil))))) pa_nil))) -- ranks = sorted([(_law_rank(rule), at) for at, rule in enumerate(names)])
      (C8.pss_cut (ps_for PassesOwn.never rfl (pi_list (pv 5)) (pg_tup rfl (pgs_cons (pg_name (i := 8) sc_law_plan_text.nd rfl (.inl rfl)) (pgs_cons (pg_name (i := 6) sc_law_plan_text.nd rfl (.inl rfl)) pgs_nil))) 
        (pss_cons (ps_asg (pe_dget (hu_of hr) (pe_ix ix_list (pv 0) pe_int (fun _ _ => rfl)) (pe_ix ix_list (pv 4) (pv 6) (fun _ _ => rfl)) (fun _ _ => rfl)) (pg_tup rfl (pgs_cons (pg_name (i := 9) sc_law_plan_text.nd rfl (.inl rfl)) (pgs_cons (pg_name (i := 10) sc_law_plan_text.nd rfl (.inl rfl)) pgs_nil)))) -- target, sources = plan[2][names[at]]
        (pss_one (ps_expr (pe_bm PySem.F.plainAttrs_list PySem.F.slot_list_append PySem.F.type_list_append mt_append (pv 1) (pa_cons (pe_join pe_str (pe_op op_cat (pe_lst (pa_cons pe_str pa_nil)) (pe_lc (own := [("part", 11)]) (g := gName 11) rfl sc_law_plan_text.nd (pi_tup (pe_op op_catB (pe_op op_catB (pe_ix ix_list (pv 4) (pv 6) (fun _ _ => rfl)) (pe_tup (pa_cons (pv 9) pa_nil))) (pv 10))) (blkOk_by (N := N_law_plan_text) (sc := defScope s_law_plan_text) (by decide +kernel)) (fun _ _ _ _ _ => (pg_name (i := 11) sc_law_plan_text.nd rfl (.inl rfl))) (fun _ _ _ _ _ => pts_nil) (fun _ _ _ _ _ => (pe_callTy call_strK (by rfl) T.m_str (by decide +kernel) (pa_cons (pv 11) pa_nil)))))) pa_nil)))) -- lines.append(' '.join(['rule'] + [str(part) for part in names[at] + (target,) + sources]))
        )) -- for rank, at in ranks:
      (pss_one (ps_ret (pv 1))) -- return lines
      ))))) , ?_⟩
    have hw := ok.w
    have l6 := ok.k.len.2
    have l72 := rules_len ok.k ok.w.2 ok.r ok.nd
    refine ⟨fun σ H' => ∃ t, σ = [some (.ref l), some (.ref t), none, none, none, none, none, none, none, none, none, none] ∧ Same H H' ∧ H t = none ∧ H' t = some (.lst [.str (wordsL pl.words)]), ?_, ?_⟩
    · refine ⟨.ref l, rfl, l, _, 0, .int pl.words, rfl, rfl, SqL.of hP.at_, atI_nat (j := 0) rfl, pl.words, rfl, log_dg (by omega) (by omega), _, _, rfl, rfl, ?_, by show 1 ≤ sizeLine; decide, fun t nt => ?_⟩
      · have := len_dg (i := pl.words) (by omega) (by omega)
        unfold dgS at this
        have e6 : (Str.ofString "words ").length = 6 := by decide +kernel
        omega
      · exact ⟨t, rfl, same_new nt, nt, upd_same⟩
    rintro σ H1 ⟨t, rfl, s1, nt, ht⟩
    obtain ⟨ks, hk, hkt⟩ := hP.kin
    have ntl : ∀ {c o}, H c = some o → c ≠ t := fun e => ne_of_none e nt
    refine ⟨fun σ H' => ∃ y2 y3, σ = [some (.ref l), some (.ref t), y2, y3, none, none, none, none, none, none, none, none] ∧ Same H H' ∧ H' t = some (.lst ((wordsL pl.words :: pl.kinds.map stateL).map V.str)), ?_, ?_⟩
    · refine ⟨.ref l, rfl, l, _, 1, .ref kl, rfl, rfl, SqL.of (s1 _ _ hP.at_), atI_nat (j := 1) rfl, kl, rfl, ⟨_, SqL.of (s1 _ _ hk)⟩, ?_⟩
      refine for_list (xs := ks) (fun i σ H' => ∃ y2 y3, σ = [some (.ref l), some (.ref t), y2, y3, none, none, none, none, none, none, none, none] ∧ (∀ c o, H1 c = some o → c ≠ t → H' c = some o) ∧ H' t = some (.lst ((wordsL pl.words :: (pl.kinds.take i).map stateL).map V.str))) ?_ ?_ ?_ ?_
      · exact ⟨none, none, rfl, fun c o e _ => e, ht⟩
      · rintro i σ H' hi ⟨y2, y3, rfl, k, h'⟩
        exact SqL.of (k _ _ (s1 _ _ hk) (ntl hk))
      · rintro i y σ H' hi ⟨y2, y3, rfl, k, h'⟩
        obtain ⟨m, a, em, rfl, ha⟩ := hkt.msg hi
        have ha' := k _ _ (s1 _ _ ha) (ntl ha)
        have bm := ok.k.all m (List.mem_of_getElem? em)
        have e1 := len_dg (i := m.1) bm.1 (by omega)
        have e2 := len_dg (i := m.2) bm.2.2.1 (by omega)
        unfold dgS at e1 e2
        have e6 : (Str.ofString "state ").length = 6 := by decide +kernel
        have e7 : (Str.ofString " ").length = 1 := by decide +kernel
        refine ⟨a, [.int m.1, .int m.2], rfl, SqT.of ha', rfl, .int m.1, [.int m.2], rfl, .int m.2, [], rfl, rfl, ?_⟩
        refine ⟨.ref t, rfl, .inl ⟨rfl, _, SqL.of h'⟩, .int m.1, rfl, m.1, rfl, log_dg bm.1 (by omega), _, _, rfl, rfl, ?_, _, _, rfl, rfl, ?_, .int m.2, rfl, m.2, rfl, log_dg bm.2.2.1 (by omega), _, _, rfl, rfl, ?_, ?_⟩
        · omega
        · rw [Str.length_append]
          omega
        · rw [Str.length_append, Str.length_append]
          omega
        · refine ⟨t, _, .str (stateL m), rfl, rfl, h', ?_, _, _, rfl, ?_, ?_⟩
          · rw [List.length_map, List.length_cons, List.length_map]
            have := List.length_take_le' i pl.kinds
            omega
          · intro c o e n
            rw [upd_ne n]
            exact k c o e n
          · rw [upd_same, List.take_add_one, em, List.map_append]
            simp
      · rintro σ H' ⟨y2, y3, rfl, k, h'⟩
        rw [hkt.msgs_len, List.take_length] at h'
        exact ⟨y2, y3, rfl, fun c o e => k c o (s1 c o e) (ntl e), h'⟩
    rintro σ H2 ⟨y2, y3, rfl, s2, ht2⟩
    obtain ⟨kvs, hr, hkv⟩ := (hP.mono s2).rul
    have ek : kvs.map (·.1) = pl.rules.map (·.1) := hkv.keys.trans (rowsOf_keys _)
    refine ⟨fun σ H' => ∃ nm bs, σ = [some (.ref l), some (.ref t), y2, y3, some (.ref nm), none, none, none, none, none, none, none] ∧ nm ≠ t ∧ Same H2 H' ∧ H' nm = some (.lst (bs.map V.ref)) ∧ IsKs H' (pl.rules.map (·.1)) bs, ?_, ?_⟩
    · refine ⟨.ref l, rfl, l, _, 2, .ref rl, rfl, rfl, SqL.of (hP.mono s2).at_, atI_nat (j := 2) rfl, rl, kvs, rfl, .inl hr, fun nm bs nnm isk => ?_⟩
      have s3 := same_new (o := .lst (bs.map V.ref)) nnm
      have ik : IsKs H2 (pl.rules.map (·.1)) bs := by
        rw [← ek]
        exact isKs_keys isk
      exact ⟨nm, bs, rfl, (ne_of_none ht2 nnm).symm, s3, upd_same, isKs_mono s3 ik⟩
    rintro σ H3 ⟨nm, bs, rfl, nnt, s3, hnm, isk⟩
    have kb := ok.kb
    have lks : (pl.rules.map (·.1)).length = bs.length := Paired.length isk
    have lR : (pl.rules.map (·.1)).length ≤ 72 := by rw [List.length_map]; exact l72
    generalize hKS : pl.rules.map (·.1) = KS at *
    refine ⟨fun σ H' => ∃ rk sb us y6 y7, σ = [some (.ref l), some (.ref t), y2, y3, some (.ref nm), some (.ref rk), y6, y7, none, none, none, none] ∧ rk ≠ t ∧ Same H3 H' ∧ H' rk = some (.lst (sb.map (·.1))) ∧ us.length = KS.length ∧ sb = (numbered us KS).mergeSort (PySem.W.dataLe false fun b => encK b.2) ∧ (∀ j u k, us[j]? = some u → KS[j]? = some k → ItemAt H' u k j), ?_, ?_⟩
    · refine ⟨.ref nm, rfl, nm, bs.map V.ref, rfl, SqL.of hnm, fun D nD => ?_⟩
      refine lc_it (walk_enum (K := K) (a := nm) (xs := bs.map V.ref)) (fun z H' => Same H3 H' ∧ ∃ us : List Addr, H' D = some (.lst (us.map V.ref)) ∧ us.length = z ∧ ∀ j u k, us[j]? = some u → KS[j]? = some k → ItemAt H' u k j) ?_ ?_ ?_ ?_
      · exact ⟨same_new nD, [], upd_same, rfl, fun j u k e => by simp at e⟩
      · rintro z H' hz ⟨sm, _⟩
        exact SqL.of (sm _ _ hnm)
      · rintro z y H' H'' hz ⟨sm, us, hD, lu, hus⟩ ⟨TT, x1, x2, rfl, nT, rfl, ex1, ex2⟩
        cases ex1
        have hz' : z < bs.length := by rw [List.length_map] at hz; exact hz
        have ex : x2 = .ref bs[z] := by
          have ex2 : (bs.map V.ref)[z]? = some x2 := ex2
          rw [List.getElem?_map, List.getElem?_eq_getElem hz'] at ex2
          exact (Option.some.inj ex2).symm
        subst ex
        obtain ⟨k, ek, hbk⟩ := isKs_at isk (List.getElem?_eq_getElem hz')
        have s7 : Same H' (upd H' TT (.tup [.int z, .ref bs[z]])) := same_new nT
        have hT7 : upd H' TT (.tup [.int z, .ref bs[z]]) TT = some (.tup [.int z, .ref bs[z]]) := upd_same
        generalize upd H' TT (.tup [.int z, .ref bs[z]]) = H7b at s7 hT7
        refine ⟨TT, _, rfl, SqT.of hT7, rfl, .int z, [.ref bs[z]], rfl, .ref bs[z], [], rfl, rfl, ?_⟩
        have hbk7 := s7 _ _ (sm _ _ hbk)
        refine ⟨rfl, .ref bs[z], rfl, bs[z], k, rfl, hbk7, kb k (List.mem_of_getElem? ek), fun r H9 s9 hr => ?_⟩
        refine ⟨.int z, rfl, by show 2 ≤ sizeLine; decide, fun u nu => ?_⟩
        have su := same_new (o := .tup [.ref r, .int z]) nu
        have s79 := (s7.trans s9).trans su
        have hD9 := s79 _ _ hD
        refine ⟨us.map V.ref, hD9, small1000 (by rw [List.length_map]; omega), fun b o e => ?_, us ++ [u], by rw [upd_same, List.map_append]; rfl, by rw [List.length_append, lu]; rfl, fun j v k' e1 e2 => ?_⟩
        · rw [upd_ne (ne_of_none e nD)]
          exact s79 _ _ (sm _ _ e)
        · by_cases hj : j < us.length
          · rw [List.getElem?_append_left hj] at e1
            exact ((hus j v k' e1 e2).same s79).put hD9
          · have ej : j = z := by
              have := (List.getElem?_eq_some_iff.mp e1).1
              rw [List.length_append] at this
              have this : j < us.length + 1 := this
              omega
            subst ej
            have eu : v = u := by
              rw [List.getElem?_append_right (by omega), lu, Nat.sub_self] at e1
              exact (Option.some.inj e1).symm
            rw [ek] at e2
            have ekk := Option.some.inj e2
            subst eu ekk
            exact ItemAt.put ⟨r, upd_same, su _ _ hr⟩ hD9
      · rintro H' ⟨sm, us, hD, lu, hus⟩
        rw [List.length_map] at lu
        have lu' : us.length = KS.length := by omega
        refine ⟨D, numbered us KS, rfl, SqL.of (by rw [numbered_v lu']; exact hD), fun b hb => ?_, fun b b' => rfl, fun b => ⟨_, _, rfl⟩, fun b _ => by show _ ≤ 8; simp [encK, encR, PyData.depth, PyData.depthAll], fun rk nrk => ?_⟩
        · obtain ⟨j, u, k, e1, e2, rfl⟩ := numbered_mem lu' hb
          exact (hus j u k e1 e2).dp (kb k (List.mem_of_getElem? e2))
        · have s9 := sm.trans (same_new (o := .lst (((numbered us KS).mergeSort (PySem.W.dataLe false fun b => encK b.2)).map (·.1))) nrk)
          exact ⟨rk, _, us, _, _, rfl, (ne_of_none (sm _ _ (s3 _ _ ht2)) nrk).symm, s9, upd_same, lu', rfl, fun j u k e1 e2 => (hus j u k e1 e2).same (same_new nrk)⟩
    rintro σ H4 ⟨rk, sb, us, y6, y7, rfl, nrt, s4, hrk, lu, esb, hus⟩
    have sbm : ∀ b ∈ sb, ∃ (j : Nat) (u : Addr) (k : List Key), us[j]? = some u ∧ KS[j]? = some k ∧ b = (.ref u, (k, j)) := fun b hb => by
      rw [esb] at hb
      exact numbered_mem lu ((List.mergeSort_perm _ _).mem_iff.mp hb)
    have sbk : sb.map (·.2.1) = srt rankK KS := by
      rw [srt_eq (List.Perm.refl _) kb, esb]
      have z := keys_sorted (fun b : V × (List Key × Nat) => enK b.2.1 b.2.2) (fun b => b.2.1) (fun b => b.2.2) (numbered us KS) (fun _ _ => rfl) (fun b hb => by
        obtain ⟨j, u, k, e1, e2, rfl⟩ := numbered_mem lu hb
        exact kb k (List.mem_of_getElem? e2))
      rw [numbered_k] at z
      exact z
    have sbl : sb.length = (sortP pl.rules).length := by
      have := congrArg List.length sbk
      rw [List.length_map] at this
      rw [this, ← hKS, ← sortP_keys, List.length_map]
    have sbi : ∀ {i : Nat} {b : V × (List Key × Nat)}, sb[i]? = some b → ∃ r, (sortP pl.rules)[i]? = some r ∧ b.2.1 = r.1 := fun {i b} e => by
      have e1 : (sb.map (·.2.1))[i]? = some b.2.1 := by rw [List.getElem?_map, e]; rfl
      rw [sbk, ← hKS, ← sortP_keys, List.getElem?_map] at e1
      obtain ⟨r, hr, hr2⟩ := Option.map_eq_some_iff.mp e1
      exact ⟨r, hr, hr2.symm⟩
    have ht4 := s4 _ _ (s3 _ _ ht2)
    have s24 := s3.trans s4
    have hnm4 := s4 _ _ hnm
    have hP4 := (hP.mono s2).mono s24
    obtain ⟨kvs4, hr4, hkv4⟩ := hP4.rul
    have lS := sortP_len pl.rules
    have ntr : ∀ {c : Addr} {xs : List V}, H4 c = some (.tup xs) → c ≠ t := fun e => ne_of e ht4 (fun z => nomatch z)
    refine ⟨fun σ H' => ∃ y6 y8 y9 y10, σ = [some (.ref l), some (.ref t), y2, y3, some (.ref nm), some (.ref rk), y6, y7, y8, y9, y10, none] ∧ Same H H' ∧ H' t = some (.lst ((linesOf pl.words pl.kinds (sortP pl.rules)).map V.str)), ?_, ?_⟩
    · refine ⟨.ref rk, rfl, rk, rfl, ⟨_, SqL.of hrk⟩, ?_⟩
      refine for_list (xs := sb.map (·.1)) (fun i σ H' => ∃ y6 y8 y9 y10, σ = [some (.ref l), some (.ref t), y2, y3, some (.ref nm), some (.ref rk), y6, y7, y8, y9, y10, none] ∧ (∀ c o, H4 c = some o → c ≠ t → H' c = some o) ∧ H' t = some (.lst ((linesOf pl.words pl.kinds ((sortP pl.rules).take i)).map V.str))) ?_ ?_ ?_ ?_
      · exact ⟨y6, none, none, none, rfl, fun c o e _ => e, by rw [ht4, List.take_zero]; unfold linesOf; rw [List.map_nil, List.append_nil]⟩
      · rintro i σ H' hi ⟨y6, y8, y9, y10, rfl, k, h'⟩
        exact SqL.of (k _ _ hrk nrt)
      · rintro i y σ H' hi ⟨y6, y8, y9, y10, rfl, k, h'⟩
        rw [List.getElem?_map] at hi
        obtain ⟨b0, hb0, rfl⟩ := Option.map_eq_some_iff.mp hi
        have ilt := (List.getElem?_eq_some_iff.mp hb0).1
        obtain ⟨j, u, k0, e1, e2, rfl⟩ := sbm b0 (List.mem_of_getElem? hb0)
        obtain ⟨r, er, ekr⟩ := sbi hb0
        have ekr : k0 = r.1 := ekr
        subst ekr
        obtain ⟨r0, hu, hr0⟩ := hus j u _ e1 e2
        have hu' := k _ _ hu (ntr hu)
        obtain ⟨b, hb⟩ : ∃ b, bs[j]? = some b := ⟨_, List.getElem?_eq_getElem (by have := (List.getElem?_eq_some_iff.mp e2).1; omega)⟩
        obtain ⟨k2, ek2, hbk⟩ := isKs_at isk hb
        rw [e2] at ek2
        cases ek2
        have hbk4 := s4 _ _ hbk
        have hbk' := k _ _ hbk4 (ntr hbk4)
        have hnm' := k _ _ hnm4 nnt
        have hl' := k _ _ hP4.at_ (ntl hP.at_)
        have nrl : rl ≠ t := by
          obtain ⟨kv0, hr0, _⟩ := hP.rul
          exact ntl hr0
        have hr' := k _ _ hr4 nrl
        have tp' : Tups H4 H' := fun c xs e => k c _ e (ntr e)
        have hkv' := hkv4.mono tp'
        have rmem := sortP_mem ok.nd (List.mem_of_getElem? er)
        have hkR : r.1 ∈ (rowsOf pl.rules).map (·.1) := by rw [rowsOf_keys]; exact List.mem_map.mpr ⟨r, rmem, rfl⟩
        obtain ⟨vv, ev, tdv⟩ := hkv'.val hkR
        have eD : lookR (rowsOf pl.rules) r.1 = ruleD r.2 := lookR_mem (by rw [rowsOf_keys]; exact ok.nd) (List.mem_map.mpr ⟨r, rmem, rfl⟩)
        rw [eD] at tdv
        obtain ⟨ba, bss, rfl, hba, hbs⟩ := tdv.rule
        have gq := DGet.t (k := r.1) hr' hbk'
        rw [ev] at gq
        have ab : atI (bs.map V.ref) (j : Int) = some (.ref b) := atI_nat (by rw [List.getElem?_map, hb]; rfl)
        obtain ⟨ruk, l1, l2⟩ := ok.rk rmem
        refine ⟨u, _, rfl, SqT.of hu', rfl, .ref r0, [.int j], rfl, .int j, [], rfl, rfl, ?_⟩
        refine ⟨.ref l, rfl, l, _, 2, .ref rl, rfl, rfl, SqL.of hl', atI_nat (j := 2) rfl, .ref nm, rfl, .int j, rfl, nm, _, (j : Int), .ref b, rfl, rfl, SqL.of hnm', ab, rl, .ref ba, rfl, gq, ?_⟩
        refine ⟨ba, _, rfl, SqT.of hba, rfl, .int r.2.1, [.ref bss], rfl, .ref bss, [], rfl, rfl, ?_⟩
        refine ⟨.ref t, rfl, .inl ⟨rfl, _, SqL.of h'⟩, ⟨_, rfl⟩, ?_⟩
        refine ⟨by show 1 ≤ sizeLine; decide, fun g0 ng0 => ?_⟩
        have sg : Same H' (upd H' g0 (.lst [.str (Str.ofString "rule")])) := same_new ng0
        have hg0 : (upd H' g0 (.lst [.str (Str.ofString "rule")])) g0 = some (.lst [.str (Str.ofString "rule")]) := upd_same
        generalize upd H' g0 (.lst [.str (Str.ofString "rule")]) = H6 at *
        refine ⟨.ref nm, rfl, .int j, rfl, nm, _, (j : Int), .ref b, rfl, rfl, SqL.of (sg _ _ hnm'), ab, .int r.2.1, rfl, by show 1 ≤ sizeLine; decide, fun q1 nq1 => ?_⟩
        have sq : Same H6 (upd H6 q1 (.tup [.int r.2.1])) := same_new nq1
        refine ⟨b, q1, _, _, rfl, rfl, sq _ _ (sg _ _ hbk'), upd_same, ?_, fun p1 H7 s7 hp1 => ?_⟩
        · rw [List.length_map, l1]
          show 3 + 1 ≤ sizeLine
          omega
        have s67 := (sg.trans sq).trans s7
        refine ⟨.ref bss, rfl, p1, bss, _, _, rfl, rfl, hp1, s67 _ _ hbs, ?_, fun p2 H8 s8 hp2 => ?_⟩
        · rw [List.length_append, List.length_map, List.length_map, l1]
          show 3 + 1 + r.2.2.length ≤ sizeLine
          omega
        have s68 := s67.trans s8
        have eP : (r.1.map kV ++ [V.int r.2.1]) ++ r.2.2.map kV = (r.1 ++ .inl r.2.1 :: r.2.2).map kV := by
          rw [List.map_append, List.map_cons, List.append_assoc]
          rfl
        rw [eP] at hp2
        have hg8 := (sq.trans (s7.trans s8)) _ _ hg0
        have hn8 : ∀ k ∈ r.1 ++ .inl r.2.1 :: r.2.2, KeyOk k := fun k hk => by
          rcases List.mem_append.mp hk with z | z
          · exact ruk.1 k z
          · rcases List.mem_cons.mp z with rfl | z
            · exact .inl ⟨_, rfl, ruk.2.1, ruk.2.2.1⟩
            · exact ruk.2.2.2 k z
        have eW : Str.ofString "rule" :: (r.1 ++ .inl r.2.1 :: r.2.2).map keyS = ruleW r := by
          unfold ruleW
          rw [List.map_append, List.map_cons]
          rfl
        have lkk : (r.1 ++ Sum.inl r.2.1 :: r.2.2 : List Key).length ≤ 7 := by
          rw [List.length_append, List.length_cons]
          omega
        have h8 := s68 _ _ h'
        have k8 : ∀ c o, H4 c = some o → c ≠ t → H8 c = some o := fun c o e n => s68 _ _ (k c o e n)
        generalize (r.1 ++ Sum.inl r.2.1 :: r.2.2 : List Key) = kk at *
        refine ⟨p2, rfl, ⟨_, SqT.of hp2⟩, fun D nD => ?_⟩
        refine lc_tup (K := K) (a := p2) (xs := kk.map kV) (fun j H' => Same H8 H' ∧ H' D = some (.lst (((kk.take j).map keyS).map V.str))) ?_ ?_ ?_ ?_
        · exact ⟨same_new nD, upd_same⟩
        · rintro j H9 hj ⟨s9, hD⟩
          exact SqT.of (s9 _ _ hp2)
        · rintro j y H9 hj ⟨s9, hD⟩
          rw [List.getElem?_map] at hj
          obtain ⟨k, hk, rfl⟩ := Option.map_eq_some_iff.mp hj
          have kok := hn8 k (List.mem_of_getElem? hk)
          have fin : ∃ acc, H9 D = some (.lst acc) ∧ acc.length < sizeLine ∧ (Same H8 (upd H9 D (.lst (acc ++ [.str (keyS k)]))) ∧ (upd H9 D (.lst (acc ++ [.str (keyS k)]))) D = some (.lst (((kk.take (j + 1)).map keyS).map V.str))) := by
            refine ⟨_, hD, ?_, ?_, ?_⟩
            · rw [List.length_map, List.length_map]
              have := List.length_take_le' j kk
              omega
            · intro b o e
              rw [upd_ne (ne_of_none e nD)]
              exact s9 _ _ e
            · rw [upd_same, List.take_add_one, hk, List.map_append, List.map_append]
              rfl
          cases k with
          | inl n => exact ⟨rfl, .int n, rfl, .inl ⟨n, rfl, kok.log, fin⟩⟩
          | inr s' => exact ⟨rfl, .str s', rfl, .inr ⟨s', rfl, fin⟩⟩
        · rintro H9 ⟨s9, hD⟩
          rw [List.length_map, List.take_length] at hD
          have fits := ruleW_fits ruk l1 l2
          refine ⟨g0, D, _, _, rfl, rfl, s9 _ _ hg8, hD, ?_, fun p np => ?_⟩
          · rw [List.length_map, List.length_map]
            show 1 + kk.length ≤ sizeLine
            omega
          have eL : [V.str (Str.ofString "rule")] ++ (kk.map keyS).map V.str = (ruleW r).map V.str := by
            rw [← eW, List.map_cons]
            rfl
          rw [eL]
          have sp := same_new (o := .lst ((ruleW r).map V.str)) np
          refine ⟨_, p, ruleW r, rfl, rfl, .inl (SqL.of upd_same), Nat.le_trans fits (by decide), ?_⟩
          have h9 := sp _ _ (s9 _ _ h8)
          refine ⟨t, _, .str (ruleL r), rfl, rfl, h9, ?_, _, _, _, _, rfl, ?_, ?_⟩
          · rw [List.length_map]
            unfold linesOf
            simp only [List.length_cons, List.length_append, List.length_map]
            have := List.length_take_le' i (sortP pl.rules)
            omega
          · intro c o e n
            rw [upd_ne n]
            exact sp _ _ (s9 _ _ (k8 c o e n))
          · rw [upd_same, List.take_add_one, er]
            unfold linesOf
            simp
      · rintro σ H' ⟨y6, y8, y9, y10, rfl, k, h'⟩
        rw [List.length_map, sbl, List.take_length] at h'
        exact ⟨y6, y8, y9, y10, rfl, fun c o e => k c o (s24 c o (s2 c o e)) (ntl e), h'⟩
    rintro σ H5 ⟨y6, y8, y9, y10, rfl, s5, ht5⟩
    exact ⟨.ref t, rfl, q t H5 s5 nt ht5⟩
end

/-! ### rules in another order; verdicts set anew -/
theorem lookP_perm {R1 R2 : List PRule} (p : R1.Perm R2) (nd : (R1.map (·.1)).Nodup) (k : List Key) : lookP R1 k = lookP R2 k := by
  have nd2 : (R2.map (·.1)).Nodup := (p.map _).nodup_iff.mp nd
  cases e : lookP R1 k with
  | some v => exact (lookP_mem nd2 (p.mem_iff.mp (lookP_some e).1)).symm
  | none =>
    cases e2 : lookP R2 k with
    | none => rfl
    | some v =>
      rw [lookP_mem nd (p.mem_iff.mpr (lookP_some e2).1)] at e
      cases e
theorem sortP_perm {R1 R2 : List PRule} (p : R1.Perm R2) (nd : (R1.map (·.1)).Nodup) (kb : ∀ k ∈ R1.map (·.1), KB k) : sortP R1 = sortP R2 := by
  unfold sortP
  have kb2 : ∀ k ∈ R2.map (·.1), KB k := fun k hk => kb k ((p.map _).mem_iff.mpr hk)
  rw [srt_eq (p.map _) kb, ← srt_eq (List.Perm.refl _) kb2]
  refine List.map_congr_left fun k _ => ?_
  rw [lookP_perm p nd]
theorem PlanOk.perm {n : Int} {ks : List (Int × Int)} {R1 R2 : List PRule} (ok : PlanOk ⟨n, ks, R1⟩) (p : R1.Perm R2) : PlanOk ⟨n, ks, R2⟩ :=
  ⟨ok.w, ok.k, fun r hr => ok.r r (p.mem_iff.mpr hr), (p.map _).nodup_iff.mp ok.nd, by have := ok.len; have e := p.length_eq; dsimp only at this ⊢; omega⟩
theorem PlanOk.sub {n : Int} {ks : List (Int × Int)} {R1 R2 : List PRule} (ok : PlanOk ⟨n, ks, R1⟩) (s : R2.Sublist R1) : PlanOk ⟨n, ks, R2⟩ :=
  ⟨ok.w, ok.k, fun r hr => ok.r r (s.mem hr), ok.nd.sublist (s.map _), Nat.le_trans s.length_le ok.len⟩
theorem kinds_set {ks : List (Int × Int)} (h : KindsOk ks) {v : Int} (v0 : 0 ≤ v) (v3 : v ≤ 3) : KindsOk (ks.set 0 (v, 0)) ∧ ∀ i : Int, 0 ≤ i → heldAt (ks.set 0 (v, 0)) i = heldAt ks i := by
  have hz := h.zero
  have e : ∀ i : Int, 0 ≤ i → heldAt (ks.set 0 (v, 0)) i = heldAt ks i := fun i i0 => by
    have z := heldAt_set (ks := ks) (s := 0) (a := v) i (Int.le_refl 0) i0
    rw [hz] at z
    exact z
  refine ⟨⟨by rw [List.length_set]; exact h.len, by rw [e 0 (Int.le_refl 0)]; exact hz, fun k hk => ?_⟩, e⟩
  rcases List.mem_or_eq_of_mem_set hk with z | z
  · exact h.all k z
  · rw [z]
    exact ⟨v0, v3, Int.le_refl 0, by show (0 : Int) ≤ 3; decide⟩
theorem PlanOk.setv {n : Int} {ks : List (Int × Int)} {R : List PRule} (ok : PlanOk ⟨n, ks, R⟩) {v : Int} (v0 : 0 ≤ v) (v3 : v ≤ 3) : PlanOk ⟨n, ks.set 0 (v, 0), R⟩ := by
  obtain ⟨a, b⟩ := kinds_set ok.k v0 v3
  refine ⟨ok.w, a, fun r hr => (ok.r r hr).kinds (by dsimp only; rw [List.length_set]; exact Nat.le_refl _) fun i i0 _ => b i i0, ok.nd, ok.len⟩
theorem map_set0 {ks : List (Int × Int)} (h : KindsOk ks) {v : Int} : (ks.set 0 (v, 0)).map (·.1) = (ks.map (·.1)).set 0 v ∧ (ks.set 0 (v, 0)).map (·.2) = ks.map (·.2) := by
  obtain ⟨k, r, rfl⟩ : ∃ k r, ks = k :: r := by
    match ks, h.len.1 with
    | k :: r, _ => exact ⟨k, r, rfl⟩
  have hz : k.2 = 0 := h.zero
  refine ⟨rfl, ?_⟩
  show 0 :: r.map (·.2) = k.2 :: r.map (·.2)
  rw [hz]
theorem set_set0 {ks : List (Int × Int)} (h : KindsOk ks) {v : Int} {m : Int × Int} (e : ks[0]? = some m) : (ks.set 0 (v, 0)).set 0 (m.1, 0) = ks := by
  obtain ⟨k, r, rfl⟩ : ∃ k r, ks = k :: r := by
    match ks, h.len.1 with
    | k :: r, _ => exact ⟨k, r, rfl⟩
  have hz : k.2 = 0 := h.zero
  have e : k = m := Option.some.inj e
  subst e
  show (k.1, 0) :: r = k :: r
  rw [← hz]
theorem runM_perm {R1 R2 : List PRule} (p : R1.Perm R2) (nd : (R1.map (·.1)).Nodup) : ∀ (ms : List (Int × Int)) (s : Int × List Int), runM R1 s ms = runM R2 s ms
  | [], s => rfl
  | m :: ms, s => by
    show runM R1 (stepM R1 s m) ms = runM R2 (stepM R2 s m) ms
    have e : stepM R1 s m = stepM R2 s m := by
      unfold stepM
      rw [lookP_perm p nd]
    rw [e]
    exact runM_perm p nd ms _
/-- a watcher with these words, states and rules, in whatever order the rules were put in -/
def WL (C : Addr) (H : Hp) (x lv lh d : Addr) (n : Int) (ks : List (Int × Int)) (R : List PRule) : Prop := ∃ R0 : List PRule, WP C H x lv lh d ⟨n, ks, R0⟩ ∧ R0.Perm R
theorem WL.ok {C : Addr} {H : Hp} {x lv lh d : Addr} {n : Int} {ks : List (Int × Int)} {R : List PRule} (h : WL C H x lv lh d n ks R) : PlanOk ⟨n, ks, R⟩ := by
  obtain ⟨R0, h1, h2⟩ := h
  exact h1.ok.perm h2
theorem WL.mono {C : Addr} {H H' : Hp} {x lv lh d : Addr} {n : Int} {ks : List (Int × Int)} {R : List PRule} (h : WL C H x lv lh d n ks R) (s : Same H H') : WL C H' x lv lh d n ks R := by
  obtain ⟨R0, h1, h2⟩ := h
  exact ⟨R0, h1.mono s, h2⟩
theorem WL.perm {C : Addr} {H : Hp} {x lv lh d : Addr} {n : Int} {ks : List (Int × Int)} {R R' : List PRule} (h : WL C H x lv lh d n ks R) (p : R.Perm R') : WL C H x lv lh d n ks R' := by
  obtain ⟨R0, h1, h2⟩ := h
  exact ⟨R0, h1, h2.trans p⟩
/-- all but what S names stands, the watcher's own among it -/
theorem WP.but {C : Addr} {H H' : Hp} {x lv lh d : Addr} {P : Plan} {S : List Addr} (h : WP C H x lv lh d P) (k : ∀ c o, H c = some o → c ∉ S → H' c = some o) (nt : ∀ a ∈ S, ∀ xs, H a ≠ some (.tup xs)) (n1 : x ∉ S) (n2 : lv ∉ S) (n3 : lh ∉ S) (n4 : d ∉ S) : WP C H' x lv lh d P := by
  obtain ⟨⟨⟨dx, a⟩, b, c, ⟨kvs, e, f⟩, g, i, j, l⟩, ok⟩ := h
  have tp : Tups H H' := fun c xs e => k c _ e (fun z => nt c z xs e)
  exact ⟨⟨⟨dx, k _ _ a n1⟩, k _ _ b n2, k _ _ c n3, ⟨kvs, k _ _ e n4, f.mono tp⟩, g, i, j, l⟩, ok⟩
theorem WL.but {C : Addr} {H H' : Hp} {x lv lh d : Addr} {n : Int} {ks : List (Int × Int)} {R : List PRule} {S : List Addr} (h : WL C H x lv lh d n ks R) (k : ∀ c o, H c = some o → c ∉ S → H' c = some o) (nt : ∀ a ∈ S, ∀ xs, H a ≠ some (.tup xs)) (n1 : x ∉ S) (n2 : lv ∉ S) (n3 : lh ∉ S) (n4 : d ∉ S) : WL C H' x lv lh d n ks R := by
  obtain ⟨R0, h1, h2⟩ := h
  exact ⟨R0, h1.but k nt n1 n2 n3 n4, h2⟩

open TL
/-! ### what is written is read -/
theorem lines_free {P : Plan} (ok : PlanOk P) : ∀ z ∈ linesOf P.words P.kinds (sortP P.rules), 10 ∉ tl z := fun z h => by
  unfold linesOf at h
  simp only [List.mem_cons, List.mem_append, List.mem_map] at h
  rcases h with rfl | ⟨k, hk, rfl⟩ | ⟨r, hr, rfl⟩
  · exact words_free ok.w.1 ok.w.2
  · exact state_free (ok.k.all k hk)
  · exact rule_free (ok.rk (sortP_mem ok.nd hr)).1
theorem srt_sorted {ks : List (List Key)} (h : ks.Pairwise fun a b => rankK a ≤ rankK b) : srt rankK ks = ks := by
  unfold srt
  refine List.mergeSort_of_pairwise ?_
  exact h.imp fun z => decide_eq_true z
theorem parsed_page {P : Plan} (ok : PlanOk P) : Parsed (pageOf (linesOf P.words P.kinds (sortP P.rules))) ⟨P.words, P.kinds, sortP P.rules⟩ := by
  obtain ⟨n, ks, R⟩ := P
  dsimp only
  have okS : PlanOk ⟨n, ks, sortP R⟩ := ⟨ok.w, ok.k, fun r hr => ok.r r (sortP_mem ok.nd hr), sortP_nodup ok.nd, by have := ok.len; have e := sortP_len R; dsimp only at this ⊢; omega⟩
  have hsp := page_split (lines_free ok)
  dsimp only at hsp
  have hks : KindsOk ks := ok.k
  have hw : 1 ≤ n ∧ n ≤ 3 := ok.w
  have pw : ((sortP R).map (·.1)).Pairwise fun a b => rankK a ≤ rankK b := by
    rw [sortP_keys]
    exact srt_pw rankK _
  have ruk : ∀ r ∈ sortP R, RuK r ∧ r.1.length = 3 ∧ r.2.2.length ≤ 3 := fun r hr => okS.rk hr
  have rok : ∀ r ∈ sortP R, RuleOk n ks r := okS.r
  have nd : ((sortP R).map (·.1)).Nodup := okS.nd
  generalize sortP R = S at *
  have hls : ∀ {i : Nat} {k : Int × Int}, ks[i]? = some k → (linesOf n ks S ++ [Str.empty])[1 + i]? = some (stateL k) := fun {i k} e => by
    have hi := (List.getElem?_eq_some_iff.mp e).1
    unfold linesOf
    rw [Nat.add_comm 1 i, List.cons_append, List.getElem?_cons_succ, List.append_assoc, List.getElem?_append_left (by rw [List.length_map]; exact hi), List.getElem?_map, e]
    rfl
  have hlr : ∀ {j : Nat} {r : PRule}, S[j]? = some r → (linesOf n ks S ++ [Str.empty])[1 + ks.length + j]? = some (ruleL r) := fun {j r} e => by
    have hj := (List.getElem?_eq_some_iff.mp e).1
    unfold linesOf
    rw [show 1 + ks.length + j = (ks.length + j) + 1 by omega, List.cons_append, List.getElem?_cons_succ, List.append_assoc, List.getElem?_append_right (by rw [List.length_map]; omega), List.length_map, show ks.length + j - ks.length = j by omega, List.getElem?_append_left (by rw [List.length_map]; exact hj), List.getElem?_map, e]
    rfl
  have hll : (linesOf n ks S).length = 1 + ks.length + S.length := by
    unfold linesOf
    simp only [List.length_cons, List.length_append, List.length_map]
    omega
  have h1 : RdTo (linesOf n ks S ++ [Str.empty]) 1 ⟨n, [(0, 0)], []⟩ := .zero (z := wordsL n) rfl (words_first hw.1 hw.2)
  have h2 : ∀ i, 1 ≤ i → i ≤ ks.length → RdTo (linesOf n ks S ++ [Str.empty]) (1 + i) ⟨n, ks.take i, []⟩ := by
    intro i i1 i2
    induction i with
    | zero => omega
    | succ i ih =>
      have hi : i < ks.length := by omega
      have ek : ks[i]? = some ks[i] := List.getElem?_eq_getElem hi
      have kok : StOk2 ks[i] := hks.all _ (List.getElem_mem hi)
      have et : ks.take (i + 1) = ks.take i ++ [ks[i]] := by rw [List.take_add_one, ek]; rfl
      rcases Nat.eq_zero_or_pos i with z | z
      · subst z
        refine .step h1 (hls ek) (.inl ⟨rfl, ks[0].1, ?_, kok.1, kok.2.1, ?_⟩)
        · rw [state_parts kok]
          have hz := hks.zero
          unfold heldAt at hz
          rw [show (0 : Int).toNat = 0 from rfl, ek] at hz
          have hz : ks[0].2 = 0 := hz
          rw [hz]
        · rw [et]
          have hz := hks.zero
          unfold heldAt at hz
          rw [show (0 : Int).toNat = 0 from rfl, ek] at hz
          have hz : ks[0].2 = 0 := hz
          have : ks[0] = (ks[0].1, 0) := Prod.ext rfl hz
          rw [List.take_zero, List.nil_append]
          exact congrArg (fun k => (⟨n, [k], []⟩ : Plan)) this
      · have r := ih (by omega) (by omega)
        refine .step (k := 1 + i) r (hls ek) (.inr (.inl ⟨by omega, by rw [state_parts kok]; rfl, kSt, ks[i].1, ks[i].2, state_parts kok, rfl, kok.1, kok.2.1, kok.2.2.1, kok.2.2.2, ?_, ?_⟩))
        · dsimp only
          rw [List.length_take]
          have := hks.len.2
          omega
        · dsimp only
          rw [et]
  have h3 : ∀ j, j ≤ S.length → RdTo (linesOf n ks S ++ [Str.empty]) (1 + ks.length + j) ⟨n, ks, S.take j⟩ := by
    intro j hj
    induction j with
    | zero =>
      have r := h2 ks.length hks.len.1 (Nat.le_refl _)
      rw [List.take_length] at r
      exact r
    | succ j ih =>
      have hj' : j < S.length := by omega
      have er : S[j]? = some S[j] := List.getElem?_eq_getElem hj'
      have r := ih (by omega)
      obtain ⟨rk, l1, l2⟩ := ruk S[j] (List.getElem_mem hj')
      have ok1 := rok S[j] (List.getElem_mem hj')
      have et : S.take (j + 1) = S.take j ++ [S[j]] := by rw [List.take_add_one, er]; rfl
      have ep := rule_parts rk
      have hh : (partsOf (ruleL S[j])).head? ≠ some kSt := by
        rw [ep]
        exact fun z => by
          have : kRu = kSt := Option.some.inj z
          revert this
          decide +kernel
      have nk : S[j].1 ∉ (S.take j).map (·.1) := by
        have e1 : S = S.take j ++ S.drop j := (List.take_append_drop j S).symm
        rw [e1, List.map_append] at nd
        refine fun z => (List.nodup_append.mp nd).2.2 _ z _ ?_ rfl
        exact List.mem_map.mpr ⟨S[j], List.mem_of_getElem? (i := 0) (by rw [List.getElem?_drop]; exact er), rfl⟩
      have la : (srt rankK ((S.take j).map (·.1) ++ [S[j].1])).getLast? = some S[j].1 := by
        have e2 : (S.take j).map (·.1) ++ [S[j].1] = (S.map (·.1)).take (j + 1) := by
          rw [← List.map_take, et, List.map_append]
          rfl
        rw [srt_sorted (by rw [e2]; exact pw.take)]
        exact List.getLast?_concat
      have hk := ok1
      obtain ⟨i, w, t, e1, _⟩ := hk
      refine .step (k := 1 + ks.length + j) r (hlr er) (.inr (.inr ⟨by have := hks.len.1; omega, hh, i, w, t, S[j].2.1, S[j].2.2, ?_, ?_, ?_, ?_, ?_⟩))
      · rw [ep, e1]
        rfl
      · rw [← e1]
        exact ok1
      · rw [← e1]
        exact nk
      · rw [← e1]
        exact la
      · rw [et, ← e1]
  have hr := h3 S.length (Nat.le_refl _)
  rw [List.take_length] at hr
  have hk1 := hks.len.1
  refine ⟨1 + ks.length + S.length, ?_, by omega, by omega, ?_, ?_⟩
  · rw [hsp, List.length_append, hll]
    rfl
  · rw [hsp]
    exact hr
  · rw [hsp, List.getElem?_append_right (by omega), hll, Nat.sub_self]
    rfl
/-! ### a text is read in one way -/
theorem ReadL.fun_ {P P1 P2 : Plan} {i : Nat} {ps : List Key} (h1 : ReadL P i ps P1) (h2 : ReadL P i ps P2) : P1 = P2 := by
  rcases h1 with ⟨a, v, e1, _, _, rfl⟩ | ⟨a, b, p, v, h, e1, _, _, _, _, _, _, rfl⟩ | ⟨a, b, s, w, t, g, src, e1, _, _, _, rfl⟩ <;> rcases h2 with ⟨a', v', e1', _, _, rfl⟩ | ⟨a', b', p', v', h', e1', _, _, _, _, _, _, rfl⟩ | ⟨a', b', s', w', t', g', src', e1', _, _, _, rfl⟩
  · rw [e1] at e1'
    cases e1'
    rfl
  · exact absurd a a'
  · exact absurd a a'
  · exact absurd a' a
  · rw [e1] at e1'
    cases e1'
    rfl
  · exact absurd b b'
  · exact absurd a' a
  · exact absurd b' b
  · rw [e1] at e1'
    cases e1'
    rfl
theorem RdTo.pos {ls : List Str} {k : Nat} {P : Plan} (r : RdTo ls k P) : 1 ≤ k := r.ok.2.1
theorem RdTo.fun_ {ls : List Str} {k : Nat} {P : Plan} (r : RdTo ls k P) : ∀ {P' : Plan}, RdTo ls k P' → P = P' := by
  induction r with
  | zero h hn =>
    intro P' r'
    cases r' with
    | zero h' hn' =>
      rw [h] at h'
      cases h'
      rw [hn] at hn'
      cases hn'
      rfl
    | step r' _ _ => exact absurd r'.pos (by decide)
  | step r h l ih =>
    intro P' r'
    cases r' with
    | zero _ _ => exact absurd r.pos (by decide)
    | step r' h' l' =>
      rw [h] at h'
      cases h'
      have := ih r'
      subst this
      exact l.fun_ l'
theorem RdTo.back {ls : List Str} {k : Nat} {P : Plan} (r : RdTo ls k P) : ∀ j, 1 ≤ j → j < k → ∃ Pj z P', RdTo ls j Pj ∧ ls[j]? = some z ∧ ReadL Pj j (partsOf z) P' := by
  induction r with
  | zero h hn => intro j a b; omega
  | @step k z P0 P' r h l ih =>
    intro j a b
    by_cases e : j = k
    · subst e
      exact ⟨P0, z, P', r, h, l⟩
    · exact ih j a (by omega)
theorem RdTo.first {ls : List Str} {k : Nat} {P : Plan} (r : RdTo ls k P) : ∃ z n, ls[0]? = some z ∧ litF lit_FIRST_LINES z = some n := by
  induction r with
  | zero h hn => exact ⟨_, _, h, hn⟩
  | step _ _ _ ih => exact ih
theorem Parsed.fun_ {z : Str} {P P' : Plan} (h : Parsed z P) (h' : Parsed z P') : P = P' := by
  obtain ⟨e, a, b, c, d, f⟩ := h
  obtain ⟨e', a', b', c', d', f'⟩ := h'
  have : e = e' := by omega
  subst this
  exact d.fun_ d'
theorem Parsed.no {z : Str} {P : Plan} (h : Parsed z P) {k : Nat} (e : ParseErr z k) : False := by
  obtain ⟨ends, a, b, c, r, f⟩ := h
  cases e with
  | first h0 hn =>
    obtain ⟨z0, n, e1, e2⟩ := r.first
    rw [h0] at e1
    cases e1
    rw [hn] at e2
    cases e2
  | line he hk r0 hl no =>
    rename_i ends' P0 l
    have : ends' = ends := by omega
    subst this
    obtain ⟨Pj, z', P', r1, e1, l1⟩ := r.back k r0.pos hk
    have := r1.fun_ r0
    subst this
    rw [hl] at e1
    cases e1
    exact no ⟨P', l1⟩
  | end_ he r0 h0 =>
    have : k = ends := by omega
    subst this
    rcases h0 with h0 | h0
    · omega
    · exact h0 f

open TL
/-! ### words that are numbers -/
def isDg (c : Nat) : Bool := decide (48 ≤ c) && decide (c ≤ 57)
theorem in_digits (c : Nat) : decide (c ∈ (Str.ofString "0123456789").cps.toList) = isDg c := by
  have e : (Str.ofString "0123456789").cps.toList = [48, 49, 50, 51, 52, 53, 54, 55, 56, 57] := by decide +kernel
  rw [e]
  unfold isDg
  by_cases h : 48 ≤ c ∧ c ≤ 57
  · rw [decide_eq_true h.1, decide_eq_true h.2]
    refine decide_eq_true ?_
    have : c = 48 ∨ c = 49 ∨ c = 50 ∨ c = 51 ∨ c = 52 ∨ c = 53 ∨ c = 54 ∨ c = 55 ∨ c = 56 ∨ c = 57 := by omega
    rcases this with rfl | rfl | rfl | rfl | rfl | rfl | rfl | rfl | rfl | rfl <;> decide
  · rw [decide_eq_false (by
      intro z
      simp only [List.mem_cons, List.not_mem_nil, or_false] at z
      omega)]
    by_cases h1 : 48 ≤ c
    · rw [decide_eq_false (show ¬ c ≤ 57 by omega), Bool.and_false]
    · rw [decide_eq_false h1, Bool.false_and]
theorem filt_dig (l : List Nat) : decide (l.filter (fun c => !isDg c) = []) = allDig l := by
  unfold allDig
  induction l with
  | nil => rfl
  | cons c r ih =>
    rw [List.all_cons, List.filter_cons, ← ih]
    show _ = (isDg c && _)
    cases isDg c with
    | true => rfl
    | false => simp
theorem v_str {a b : Str} : decide (V.str a = V.str b) = decide (tl a = tl b) := by
  by_cases h : a = b
  · subst h
    rw [decide_eq_true rfl, decide_eq_true rfl]
  · rw [decide_eq_false (fun e => h (V.str.inj e)), decide_eq_false (fun e => h (ext_tl e))]
def wholeO (most : Int) : Option Int → Option Int
  | some i => if i ≤ most then some i else none
  | none => none
def whole (z : Str) (most : Int) : Option Int := wholeO most (wordVal (tl z))
theorem wordVal_some {l : List Nat} {i : Int} (h : wordVal l = some i) : ∃ c : Nat, l = [c] ∧ 48 ≤ c ∧ c ≤ 53 ∧ i = (c : Int) - 48 := by
  unfold wordVal at h
  split at h
  · rename_i c
    split at h
    · rename_i hc
      exact ⟨c, rfl, hc.1, hc.2, (Option.some.inj h).symm⟩
    · cases h
  · cases h
theorem wordVal_none {l : List Nat} (h : ∀ c : Nat, l = [c] → 48 ≤ c → c ≤ 53 → False) : wordVal l = none := by
  cases e : wordVal l with
  | none => rfl
  | some i =>
    obtain ⟨c, e1, h1, h2, _⟩ := wordVal_some e
    exact (h c e1 h1 h2).elim
theorem whole_none {z : Str} {most : Int} (h : ∀ c : Nat, tl z = [c] → 48 ≤ c → c ≤ 53 → False) : whole z most = none := by
  unfold whole
  rw [wordVal_none h]
  rfl
theorem logD_small {n : Nat} (h : n < 1000) : (n : Int).natAbs.log2 < 1920 := by
  show n.log2 < 1920
  rcases Nat.eq_zero_or_pos n with e | e
  · rw [e]; decide
  · exact (Nat.log2_lt (by omega)).mpr (Nat.lt_of_lt_of_le h (Nat.le_trans (by decide : 1000 ≤ 2 ^ 10) (Nat.pow_le_pow_right (by decide) (by decide))))
theorem dig_small {l : List Nat} (h : NumText.AllDigits l) (hl : l.length ≤ 3) : NumText.digitsVal l < 1000 := by
  have e := fold_lt l 0 0 h (by decide)
  have : 10 ^ (0 + l.length) ≤ 10 ^ 3 := Nat.pow_le_pow_right (by decide) (by omega)
  exact Nat.lt_of_lt_of_le e this
/-- a word of up to three figures, read and written again -/
theorem whole_at {z : Str} {most : Int} (hm : most ≤ 5) (hd : NumText.AllDigits (tl z)) (hl : (tl z).length ≤ 3) (hn : tl z ≠ []) :
    whole z most = if tl (Str.ofString (toString ((NumText.digitsVal (tl z) : Nat) : Int))) = tl z ∧ ((NumText.digitsVal (tl z) : Nat) : Int) ≤ most then some ((NumText.digitsVal (tl z) : Nat) : Int) else none := by
  have e1 := tl_int ((NumText.digitsVal (tl z) : Nat) : Int)
  rw [e1]
  split
  · rename_i h
    obtain ⟨h1, h2⟩ := h
    have hw := intL_word (w := ((NumText.digitsVal (tl z) : Nat) : Int)) (by omega) (by omega)
    rw [h1] at hw
    unfold whole
    have : wordVal (tl z) = some ((NumText.digitsVal (tl z) : Nat) : Int) := by
      generalize NumText.digitsVal (tl z) = n at hw h2
      rw [hw]
      unfold wordVal
      dsimp only
      rw [if_pos (by omega)]
      congr 1
      omega
    rw [this]
    exact if_pos h2
  · rename_i h
    unfold whole
    cases e : wordVal (tl z) with
    | none => rfl
    | some i =>
      obtain ⟨c, ec, c0, c1, ei⟩ := wordVal_some e
      have ed : ((NumText.digitsVal (tl z) : Nat) : Int) = i := by
        rw [ec, ei]
        show ((0 * 10 + (c - 48) : Nat) : Int) = _
        omega
      rw [ed] at h
      have ew : intL i = tl z := by
        rw [intL_word (by omega) (by omega), ec]
        congr 1
        omega
      exact if_neg (fun q => h ⟨ew, q⟩)
def sp_law_whole : Sp := fun vs H Q _ => ∃ (z : Str) (most : Int), vs = [.str z, .int most] ∧ z.length ≤ 100000 ∧ most ≤ 5 ∧ ∀ H', Same H H' → Q (optV (whole z most)) H'
section
variable {P : Program} {w : World} {K : PySem.W.Frag} {mg : Str → Option Value} {base : Heap}
abbrev N_law_whole : List Str := ["word", "most", "sign"]
theorem sc_law_whole : FnScope N_law_whole ["word", "most"] (defScope s_law_whole) := ⟨rfl, rfl, rfl, by decide +kernel, rfl, by decide +kernel, by decide +kernel⟩
theorem G_law_whole (T : Tx K mg) : FnG P w K mg base CX0 1 T.law_whole.f T.law_whole.fd ["word", "most"] sp_law_whole := by
  refine okG T.law_whole.F sc_law_whole (fun vs H Q E h => ?_) (fun cdv A outer s H vs Q E gd hr h => ?_)
  · obtain ⟨z, k, rfl, _⟩ := h
    rfl
  · obtain ⟨z, most, rfl, hz, hm, q⟩ := h
    have L5 := line5
    refine ⟨_, 
      (pss_cons (ps_if (PW.pt (pw_or (pt_cmpR op_eq (pv 0) pe_str (nomark _)) (pw_or (pt_cmpR op_gt (pe_callB call_len (by rfl) T.m_len PySem.boot_len (pa_cons (pv 0) pa_nil)) pe_int (nomark _)) (pw_or1 (pt_cmpR (op_neL0 hr.units) (pe_lc (own := [("sign", 2)]) (g := gName 2) rfl sc_law_whole.nd (pi_str (pv 0)) (blkOk_by (N := N_law_whole) (sc := defScope s_law_whole) (by decide +kernel)) (fun _ _ _ _ _ => (pg_name (i := 2) sc_law_whole.nd rfl (.inl rfl))) (fun _ _ _ _ _ => (pts_one (pt_cmpR op_notIn_sign (pv 2) pe_str rfl))) (fun _ _ _ _ _ => (pv 2))) (pe_lst pa_nil) (nomark _)))))) 
        (pss_one (ps_ret pe_non)) -- return None
         pss_nil) -- if word == '' or len(word) > 3 or [sign for sign in word if sign not in '0123456789'] != []:
      (pss_one (ps_ret (pe_ifExp (PW.pt (pw_and (pt_cmpR op_eq (pe_callTy call_str_int (by rfl) T.m_str (by decide +kernel) (pa_cons (pe_callTy call_int_str (by rfl) T.m_int (by decide +kernel) (pa_cons (pv 0) pa_nil)) pa_nil)) (pv 0) (nomark _)) (pw_and1 (pt_cmpR op_le (pe_callTy call_int_str (by rfl) T.m_int (by decide +kernel) (pa_cons (pv 0) pa_nil)) (pv 1) (nomark _))))) (pe_callTy call_int_str (by rfl) T.m_int (by decide +kernel) (pa_cons (pv 0) pa_nil)) pe_non))) -- return int(word) if str(int(word)) == word and int(word) <= most else None
      ) , ?_⟩
    refine ⟨.str z, rfl, rfl, _, rfl, ?_⟩
    have e1 : decide (V.str z = V.str (Str.ofString "")) = decide (tl z = []) := by rw [v_str]; rfl
    rw [e1]
    refine ite2 (fun h1 => ?_) (fun h1 => ?_)
    · have h1 := of_decide_eq_true h1
      have q := q H (Same.refl H)
      rw [whole_none (fun c e => by rw [h1] at e; cases e)] at q
      exact q
    have h1 : tl z ≠ [] := fun e => h1 (decide_eq_true e)
    have hl := len_tl z
    refine ⟨.str z, rfl, _, z.length, rfl, ⟨by omega, rfl⟩, _, _, rfl, rfl, _, rfl, ?_⟩
    rw [show ((z.length : Nat) : Int) = ((tl z).length : Int) by rw [hl]]
    refine ite2 (fun h2 => ?_) (fun h2 => ?_)
    · have h2 := of_decide_eq_true h2
      have q := q H (Same.refl H)
      rw [whole_none (fun c e => by rw [e] at h2; exact absurd h2 (by show ¬ ((1 : Nat) : Int) > 3; decide))] at q
      exact q
    have h2 : (tl z).length ≤ 3 := by
      have : ¬ ((tl z).length : Int) > 3 := fun e => h2 (decide_eq_true e)
      omega
    refine ⟨.str z, rfl, z, rfl, fun D nD => ?_⟩
    have sz : z.cps.size = (tl z).length := by show _ = z.cps.toList.length; rw [Array.length_toList]
    refine lc_it (D := D) walk_str (fun i H' => Same H H' ∧ H' D = some (.lst (((((tl z).take i).filter fun c => !isDg c).map fun c => (⟨#[c]⟩ : Str)).map V.str))) ?_ ?_ ?_ ?_
    · exact ⟨same_new nD, upd_same⟩
    · exact fun _ _ _ _ => trivial
    · rintro i x H2 H3 hi ⟨s2, hD⟩ ⟨rfl, c, hc, rfl⟩
      have hc' : (tl z)[i]? = some c := by show z.cps.toList[i]? = _; rw [Array.getElem?_toList]; exact hc
      refine ⟨rfl, .str ⟨#[c]⟩, rfl, c, _, rfl, rfl, _, rfl, ?_⟩
      rw [in_digits]
      have et : ((tl z).take (i + 1)).filter (fun c => !isDg c) = ((tl z).take i).filter (fun c => !isDg c) ++ (if (!isDg c) = true then [c] else []) := by
        rw [List.take_add_one, hc', List.filter_append]
        congr 1
        show List.filter _ [c] = _
        rw [List.filter_cons]
        cases isDg c <;> rfl
      rw [et]
      refine ite2 (fun hb => ?_) (fun hb => ?_)
      · rw [if_pos hb]
        refine ⟨.str ⟨#[c]⟩, rfl, _, hD, ?_, ?_, ?_⟩
        · rw [List.length_map, List.length_map]
          have a := List.length_filter_le (fun c => !isDg c) ((tl z).take i)
          have b := List.length_take_le' i (tl z)
          omega
        · intro b o e
          have : b ≠ D := ne_of_none e nD
          rw [upd_ne this]
          exact s2 _ _ e
        · rw [upd_same, List.map_append, List.map_append]
          rfl
      · rw [if_neg hb, List.append_nil]
        exact ⟨s2, hD⟩
    · rintro H2 ⟨s2, hD⟩
      rw [sz, List.take_length] at hD
      refine ⟨by show 0 ≤ sizeLine; decide, fun e ne => ?_⟩
      have s3 : Same H2 (upd H2 e (.lst [])) := same_new ne
      refine ⟨D, e, _, rfl, rfl, s3 _ _ hD, upd_same, _, rfl, ?_⟩
      have e3 : ((((tl z).filter fun c => !isDg c).map fun c => (⟨#[c]⟩ : Str)).map V.str).isEmpty = allDig (tl z) := by
        rw [← filt_dig]
        cases (tl z).filter (fun c => !isDg c) <;> rfl
      rw [e3]
      cases h3 : allDig (tl z) with
      | false =>
        have q := q _ (s2.trans s3)
        rw [whole_none (fun c e c0 c1 => by
          rw [e] at h3
          unfold allDig at h3
          rw [List.all_cons, List.all_nil, decide_eq_true c0, decide_eq_true (by omega : c ≤ 57)] at h3
          cases h3)] at q
        exact iteT q
      | true =>
        refine iteF ?_
        have h3 := allDig_iff.mp h3
        have hi := intText_digits h3 h1 (by omega)
        have hs := dig_small h3 h2
        have q := q _ (s2.trans s3)
        rw [whole_at hm h3 h2 h1] at q
        refine ⟨.str z, rfl, z, _, rfl, hi, by omega, _, rfl, logD_small hs, .str z, rfl, rfl, _, rfl, ?_⟩
        rw [v_str]
        refine ite2 (fun h5 => ?_) (fun h5 => ?_)
        · have h5 := of_decide_eq_true h5
          refine ⟨.str z, rfl, z, _, rfl, hi, by omega, .int most, rfl, _, _, rfl, rfl, _, rfl, ?_⟩
          refine ite2 (fun h6 => ?_) (fun h6 => ?_)
          · rw [if_pos ⟨h5, of_decide_eq_true h6⟩] at q
            exact ⟨.str z, rfl, z, _, rfl, hi, by omega, q⟩
          · rw [if_neg (fun e => h6 (decide_eq_true e.2))] at q
            exact q
        · rw [if_neg (fun e => h5 (decide_eq_true e.1))] at q
          exact q
end

open TL
/-! ### a state's line, and the sources of a rule's -/
abbrev stS : Str := Str.ofString "state"
abbrev ruS : Str := Str.ofString "rule"
abbrev neS : Str := Str.ofString "new"
abbrev vaS : Str := Str.ofString "value"
def both : Option Int → Option Int → Option (Int × Int)
  | some a, some b => some (a, b)
  | _, _ => none
def kindOf (first : Bool) : List Str → Option (Int × Int)
  | [a, b, c] => if a = stS then both (whole b 3) (whole c (if first = true then 0 else 3)) else none
  | _ => none
theorem kindOf_none {first : Bool} {ws : List Str} (h : ws.length ≠ 3 ∨ ws[0]? ≠ some stS) : kindOf first ws = none := by
  unfold kindOf
  split
  · rename_i a b c
    rcases h with h | h
    · exact (h rfl).elim
    · rw [if_neg (fun e => h (by rw [e]; rfl))]
  · rfl
theorem v_eq {a b : Str} : decide (V.str a = V.str b) = decide (a = b) := by
  by_cases h : a = b
  · rw [h, decide_eq_true rfl, decide_eq_true rfl]
  · rw [decide_eq_false h, decide_eq_false (fun e => h (V.str.inj e))]
theorem v_int {a b : Int} : decide (V.int a = V.int b) = decide (a = b) := by
  by_cases h : a = b
  · rw [h, decide_eq_true rfl, decide_eq_true rfl]
  · rw [decide_eq_false h, decide_eq_false (fun e => h (V.int.inj e))]
def Words (H : Hp) (wl : Addr) (ws : List Str) : Prop := H wl = some (.lst (ws.map V.str)) ∧ ws.length ≤ 100001 ∧ ∀ x ∈ ws, x.length ≤ 100000
theorem Words.mono {H H' : Hp} {wl : Addr} {ws : List Str} (h : Words H wl ws) (s : Same H H') : Words H' wl ws := ⟨s _ _ h.1, h.2⟩
theorem Words.at {ws : List Str} {i : Nat} {x : Str} (h : ws[i]? = some x) : atI (ws.map V.str) (i : Int) = some (.str x) := atI_nat (j := i) (by rw [List.getElem?_map, h]; rfl)
def sp_law_kind_of : Sp := fun us H Q _ => ∃ (wl : Addr) (ws : List Str) (first : Bool), us = [.ref wl, .bl first] ∧ Words H wl ws ∧
  (kindOf first ws = none → ∀ H', Same H H' → Q .non H') ∧ (∀ v h, kindOf first ws = some (v, h) → ∀ t H', Same H H' → H' t = some (.tup [.int v, .int h]) → Q (.ref t) H')
def goodS (held : Int) (test : Str) : List Str := ((List.range held.toNat).map fun i => dgS ((i : Nat) : Int)) ++ (if test = neS then [vaS] else [])
def srcsM (ws : List Str) (held : Int) (test : Str) (many : Int) : Bool := decide ((ws.length : Int) = many) && (decide ws.Nodup && decide (∀ x ∈ ws, x ∈ goodS held test))
def sp_law_sources : Sp := fun us H Q _ => ∃ (wl : Addr) (ws : List Str) (held : Int) (test : Str) (many : Int), us = [.ref wl, .int held, .str test, .int many] ∧ Words H wl ws ∧ 0 ≤ held ∧ held ≤ 3 ∧ many ≤ 3 ∧
  ∀ H', Same H H' → Q (.bl (srcsM ws held test many)) H'
theorem inV_strs (x : Str) : ∀ l : List Str, inV (.str x) (l.map V.str) = decide (x ∈ l)
  | [] => rfl
  | n :: r => by
    have ih := inV_strs x r
    unfold inV at ih ⊢
    rw [List.map_cons, List.any_cons, ih]
    show ((n == x) || _) = _
    by_cases h : x = n
    · subst h
      rw [beq_self_eq_true, decide_eq_true (show x ∈ x :: r from List.mem_cons_self)]
      rfl
    · have : (n == x) = false := by
        cases e : n == x with
        | false => rfl
        | true => exact absurd (eq_of_beq e).symm h
      rw [this, Bool.false_or]
      by_cases h2 : x ∈ r
      · rw [decide_eq_true h2, decide_eq_true (List.mem_cons_of_mem _ h2)]
      · rw [decide_eq_false h2, decide_eq_false (fun e => by rcases List.mem_cons.mp e with q | q; exact h q; exact h2 q)]
theorem uniq_words (ws : List Str) : decide (((uniqK (ws.map Sum.inr)).length : Int) = (ws.length : Int)) = decide ws.Nodup := by
  obtain ⟨h1, h2, h3, h4⟩ := uniqK_len _ (ws.map (Sum.inr : Str → Key)) rfl
  rw [List.length_map] at h1 h4
  have inj : ((ws.map (Sum.inr : Str → Key)).Nodup) ↔ ws.Nodup := by
    constructor
    · intro h
      exact (List.pairwise_map.mp h).imp fun {a b} q e => q (by rw [e])
    · intro h
      exact List.pairwise_map.mpr (h.imp fun {a b} q e => q (Sum.inr.inj e))
  by_cases h : ws.Nodup
  · rw [decide_eq_true h, h3 (inj.mpr h), List.length_map, decide_eq_true rfl]
  · rw [decide_eq_false h, decide_eq_false (fun e => h (inj.mp (h4 (by omega))))]
section
variable {P : Program} {w : World} {K : PySem.W.Frag} {mg : Str → Option Value} {base : Heap}
abbrev N_law_kind_of : List Str := ["words", "is_first", "verdict", "held"]
theorem sc_law_kind_of : FnScope N_law_kind_of ["words", "is_first"] (defScope s_law_kind_of) := ⟨rfl, rfl, rfl, by decide +kernel, rfl, by decide +kernel, by decide +kernel⟩
theorem G_law_kind_of (T : Tx K mg) : FnG P w K mg base CX0 2 T.law_kind_of.f T.law_kind_of.fd ["words", "is_first"] sp_law_kind_of := by
  refine okG T.law_kind_of.F sc_law_kind_of (fun vs H Q E h => ?_) (fun cdv A outer s H vs Q E gd hr h => ?_)
  · obtain ⟨wl, ws, first, rfl, _⟩ := h
    rfl
  · obtain ⟨wl, ws, first, rfl, hW, q1, q2⟩ := h
    have L5 := line5
    refine ⟨_, 
      (pss_cons (ps_if (PW.pt (pw_or (pt_cmpR op_ne (pe_callB call_len_seq (by rfl) T.m_len PySem.boot_len (pa_cons (pv 0) pa_nil)) pe_int (nomark _)) (pw_or1 (pt_cmpR op_ne (pe_ix ix_list (pv 0) pe_int (fun _ _ => rfl)) pe_str (nomark _))))) 
        (pss_one (ps_ret pe_non)) -- return None
         pss_nil) -- if len(words) != 3 or words[0] != 'state':
      (pss_cons (ps_par (i := 2) (j := 3) rfl sc_law_kind_of.nd rfl rfl (by decide) rfl rfl (pa_cons (pe_callG (G_law_whole T) gd (hr.mono (by decide)) rfl T.law_whole.g T.law_whole.F.kp T.law_whole.b .nil pass0 (pa_cons (pe_ix ix_list (pv 0) pe_int (fun _ _ => rfl)) (pa_cons pe_int pa_nil))) (pa_cons (pe_callG (G_law_whole T) gd (hr.mono (by decide)) rfl T.law_whole.g T.law_whole.F.kp T.law_whole.b .nil pass0 (pa_cons (pe_ix ix_list (pv 0) pe_int (fun _ _ => rfl)) (pa_cons (pe_ifExp (pt_truth (pv 1) (by intro _; rfl)) pe_int pe_int) pa_nil))) pa_nil)) rfl) -- verdict, held = (_law_whole(words[1], 3), _law_whole(words[2], 0 if is_first else 3))
      (pss_one (ps_ret (pe_ifExp (PW.pt (pw_or (pt_cmp (pc_isN (pv 2))) (pw_or1 (pt_cmp (pc_isN (pv 3)))))) pe_non (pe_tup (pa_cons (pv 2) (pa_cons (pv 3) pa_nil)))))) -- return None if verdict is None or held is None else (verdict, held)
      )) , ?_⟩
    refine ⟨.ref wl, rfl, wl, _, rfl, .inl (SqL.of hW.1), rfl, _, rfl, ?_⟩
    rw [List.length_map, v_int]
    refine ite2 (fun h1 => ?_) (fun h1 => ?_)
    · have h1 : ¬ ((ws.length : Int) = 3) := fun e => by rw [e] at h1; cases h1
      exact q1 (kindOf_none (.inl fun e => h1 (by rw [e]; rfl))) _ (Same.refl H)
    have h1 : (ws.length : Int) = 3 := by
      by_cases e : (ws.length : Int) = 3
      · exact e
      · rw [decide_eq_false e] at h1
        exact absurd rfl h1
    obtain ⟨a, b, c, rfl⟩ : ∃ a b c, ws = [a, b, c] := by
      match ws, h1 with
      | [a, b, c], _ => exact ⟨a, b, c, rfl⟩
      | [], h => cases h
      | [_], h => cases h
      | [_, _], h => cases h
      | _ :: _ :: _ :: _ :: r, h => simp only [List.length_cons] at h; omega
    refine ⟨.ref wl, rfl, wl, _, 0, .str a, rfl, rfl, SqL.of hW.1, atI_nat (j := 0) rfl, rfl, _, rfl, ?_⟩
    rw [v_eq]
    refine ite2 (fun h2 => ?_) (fun h2 => ?_)
    · have h2 : a ≠ stS := fun e => by rw [decide_eq_true e] at h2; cases h2
      exact q1 (kindOf_none (.inr fun e => h2 (Option.some.inj e))) _ (Same.refl H)
    have h2 : a = stS := by
      by_cases e : a = stS
      · exact e
      · rw [decide_eq_false e] at h2
        exact absurd rfl h2
    have lb := hW.2.2 b (by simp)
    have lc := hW.2.2 c (by simp)
    have eK : kindOf first [a, b, c] = both (whole b 3) (whole c (if first = true then 0 else 3)) := by
      exact if_pos h2
    rw [eK] at q1 q2
    refine ⟨.ref wl, rfl, wl, _, 1, .str b, rfl, rfl, SqL.of hW.1, atI_nat (j := 1) rfl, b, 3, rfl, lb, by decide, fun H1 s1 => ?_⟩
    refine ⟨.ref wl, rfl, wl, _, 2, .str c, rfl, rfl, SqL.of (s1 _ _ hW.1), atI_nat (j := 2) rfl, ?_⟩
    refine ⟨.bl first, rfl, first, rfl, ?_⟩
    have fin : ∀ (o1 o2 : Option Int) (H2 : Hp), Same H H2 → (both o1 o2 = none → ∀ H', Same H H' → Q .non H') → (∀ v h, both o1 o2 = some (v, h) → ∀ t H', Same H H' → H' t = some (.tup [.int v, .int h]) → Q (.ref t) H') →
        (o1 = none ∧ Q .non H2) ∨ (o1 ≠ none ∧ o2 = none ∧ Q .non H2) ∨ ∃ v h, o1 = some v ∧ o2 = some h ∧ ∀ t, H2 t = none → Q (.ref t) (upd H2 t (.tup [.int v, .int h])) := fun o1 o2 H2 s2 q1 q2 => by
      cases o1 with
      | none => exact .inl ⟨rfl, q1 rfl _ s2⟩
      | some v =>
        cases o2 with
        | none => exact .inr (.inl ⟨fun z => (by cases z), rfl, q1 rfl _ s2⟩)
        | some h => exact .inr (.inr ⟨v, h, rfl, rfl, fun t nt => q2 v h rfl t _ (s2.trans (same_new nt)) upd_same⟩)
    refine ite2 (fun hf => ?_) (fun hf => ?_)
    all_goals
      refine ⟨c, _, rfl, lc, by decide, fun H2 s2 => ⟨_, _, rfl, ?_⟩⟩
      first | rw [if_pos hf] at q1 q2 | rw [if_neg hf] at q1 q2
      rcases fin _ _ H2 (s1.trans s2) q1 q2 with ⟨e1, k⟩ | ⟨e1, e2, k⟩ | ⟨v, h, e1, e2, k⟩
      · rw [e1]
        exact ⟨.non, rfl, true, rfl, iteT (iteT k)⟩
      · obtain ⟨v, e1⟩ := Option.ne_none_iff_exists'.mp e1
        rw [e1, e2]
        exact ⟨.int v, rfl, false, rfl, iteF ⟨.non, rfl, true, rfl, iteT k⟩⟩
      · rw [e1, e2]
        exact ⟨.int v, rfl, false, rfl, iteF ⟨.int h, rfl, false, rfl, iteF ⟨.int v, rfl, .int h, rfl, by show 2 ≤ sizeLine; decide, k⟩⟩⟩
abbrev N_law_sources : List Str := ["words", "held", "test", "many", "good", "place", "word"]
theorem sc_law_sources : FnScope N_law_sources ["words", "held", "test", "many"] (defScope s_law_sources) := ⟨rfl, rfl, rfl, by decide +kernel, rfl, by decide +kernel, by decide +kernel⟩
theorem G_law_sources (T : Tx K mg) : FnG P w K mg base CX0 1 T.law_sources.f T.law_sources.fd ["words", "held", "test", "many"] sp_law_sources := by
  refine okG T.law_sources.F sc_law_sources (fun vs H Q E h => ?_) (fun cdv A outer s H vs Q E gd hr h => ?_)
  · obtain ⟨wl, ws, held, test, many, rfl, _⟩ := h
    rfl
  · obtain ⟨wl, ws, held, test, many, rfl, hW, h0, h3, m3, q⟩ := h
    have L5 := line5
    refine ⟨_, 
      (C8.pss_cut (ps_set (i := 4) sc_law_sources.nd rfl (.inr rfl) (pe_op op_cat (pe_lc (own := [("place", 5)]) (g := gName 5) rfl sc_law_sources.nd (pi_range1 rfl T.m_range (pa_cons (pv 1) pa_nil)) (blkOk_by (N := N_law_sources) (sc := defScope s_law_sources) (by decide +kernel)) (fun _ _ _ _ _ => (pg_name (i := 5) sc_law_sources.nd rfl (.inl rfl))) (fun _ _ _ _ _ => pts_nil) (fun _ _ _ _ _ => (pe_callTy call_str_int (by rfl) T.m_str (by decide +kernel) (pa_cons (pv 5) pa_nil)))) (pe_ifExp (pt_cmpR (op_eqS' hr.units) (pv 2) pe_str (nomark _)) (pe_lst (pa_cons pe_str pa_nil)) (pe_lst pa_nil)))) -- good = [str(place) for place in range(held)] + (['value'] if test == 'new' else [])
      (pss_one (ps_ret (pe_and (pe_cmpR op_eq (pe_callB call_len_seq (by rfl) T.m_len PySem.boot_len (pa_cons (pv 0) pa_nil)) (pv 3) (nomark _)) (pe_and (pe_cmpR op_eq (pe_lenSetL rfl (by rfl) T.m_len (by rfl) T.m_set (pv 0)) (pv 3) (nomark _)) (pe_one (pe_cmpR (op_eqL0 hr.units) (pe_lc (own := [("word", 6)]) (g := gName 6) rfl sc_law_sources.nd (pi_list (pv 0)) (blkOk_by (N := N_law_sources) (sc := defScope s_law_sources) (by decide +kernel)) (fun _ _ _ _ _ => (pg_name (i := 6) sc_law_sources.nd rfl (.inl rfl))) (fun _ _ _ _ _ => (pts_one (pt_cmpR (r := rIn K true) op_notIn_seq (pv 6) (pv 4) rfl))) (fun _ _ _ _ _ => (pv 6))) (pe_lst pa_nil) (nomark _))))))) -- return len(words) == many and len(set(words)) == many and ([word for word in words if word not in good] == [])
      ) , ?_⟩
    refine ⟨fun σ H' => ∃ gl y5 y6, σ = [some (.ref wl), some (.int held), some (.str test), some (.int many), some (.ref gl), y5, y6] ∧ Same H H' ∧ H' gl = some (.lst ((goodS held test).map V.str)), ?_, ?_⟩
    · refine ⟨.int held, rfl, held, rfl, by omega, by omega, fun D nD => ?_⟩
      refine lc_range (lo := 0) (n := held.toNat) (fun i H' => Same H H' ∧ H' D = some (.lst (((List.range i).map fun i => dgS ((i : Nat) : Int)).map V.str))) ?_ ?_ ?_
      · exact ⟨same_new nD, upd_same⟩
      · rintro i H' hi ⟨sm, hD⟩
        have e0 : (0 : Int) + (i : Int) = (i : Int) := by omega
        rw [e0]
        refine ⟨rfl, .int (i : Int), rfl, _, rfl, logD_small (by omega), _, hD, ?_, ?_, ?_⟩
        · rw [List.length_map, List.length_map, List.length_range]
          omega
        · intro b o e
          rw [upd_ne (ne_of_none e nD)]
          exact sm _ _ e
        · rw [upd_same, List.range_succ, List.map_append, List.map_append]
          rfl
      · rintro H' ⟨sm, hD⟩
        refine ⟨.str test, rfl, wl, .str test, neS, .str test, rfl, _, rfl, ?_⟩
        have e1 : isStrD (.str test) neS = decide (test = neS) := by
          show (test == neS) = _
          by_cases h : test = neS
          · rw [decide_eq_true h, h]
            exact beq_self_eq_true _
          · rw [decide_eq_false h]
            cases e : test == neS with
            | false => rfl
            | true => exact absurd (eq_of_beq e) h
        rw [e1]
        have lg : (((List.range held.toNat).map fun i => dgS ((i : Nat) : Int)).map V.str).length ≤ 3 := by
          rw [List.length_map, List.length_map, List.length_range]
          omega
        refine ite2 (fun h1 => ?_) (fun h1 => ?_)
        · have h1 := of_decide_eq_true h1
          refine ⟨by show 1 ≤ sizeLine; decide, fun e ne => ⟨D, e, _, _, rfl, rfl, same_new ne _ _ hD, upd_same, ?_, fun p np => ⟨p, _, _, rfl, (sm.trans (same_new ne)).trans (same_new np), ?_⟩⟩⟩
          · show _ + 1 ≤ sizeLine
            omega
          · rw [upd_same]
            unfold goodS
            rw [if_pos h1, List.map_append]
            rfl
        · have h1 : ¬ test = neS := fun e => h1 (decide_eq_true e)
          refine ⟨by show 0 ≤ sizeLine; decide, fun e ne => ⟨D, e, _, _, rfl, rfl, same_new ne _ _ hD, upd_same, ?_, fun p np => ⟨p, _, _, rfl, (sm.trans (same_new ne)).trans (same_new np), ?_⟩⟩⟩
          · show _ + 0 ≤ sizeLine
            omega
          · rw [upd_same]
            unfold goodS
            rw [if_neg h1, List.map_append]
            rfl
    rintro σ H1 ⟨gl, y5, y6, rfl, s1, hg⟩
    have hW1 := hW.mono s1
    unfold srcsM at q
    refine ⟨.ref wl, rfl, wl, _, rfl, .inl (SqL.of hW1.1), .int many, rfl, rfl, _, rfl, ?_⟩
    rw [List.length_map, v_int]
    cases hb : decide ((ws.length : Int) = many) with
    | false =>
      rw [hb] at q
      exact iteF (q _ s1)
    | true =>
      rw [hb] at q
      have hl := of_decide_eq_true hb
      refine iteT ?_
      refine ⟨.ref wl, rfl, wl, ws.map Sum.inr, rfl, ?_, ?_, .int many, rfl, rfl, _, rfl, ?_⟩
      · rw [List.map_map]
        exact SqL.of hW1.1
      · rw [List.length_map]
        omega
      rw [v_int, ← hl, uniq_words]
      cases hn : decide ws.Nodup with
      | false =>
        rw [hn] at q
        exact iteF (q _ s1)
      | true =>
        rw [hn] at q
        refine iteT ?_
        refine ⟨.ref wl, rfl, wl, rfl, ⟨_, SqL.of hW1.1⟩, fun D nD => ?_⟩
        refine lc_list (K := K) (a := wl) (xs := ws.map V.str) (fun j H' => Same H1 H' ∧ H' D = some (.lst (((ws.take j).filter fun x => !decide (x ∈ goodS held test)).map V.str))) ?_ ?_ ?_ ?_
        · exact ⟨same_new nD, upd_same⟩
        · rintro j H' hj ⟨s', hD⟩
          exact SqL.of (s' _ _ hW1.1)
        · rintro j y H' hj ⟨s', hD⟩
          rw [List.getElem?_map] at hj
          obtain ⟨z, hz, rfl⟩ := Option.map_eq_some_iff.mp hj
          refine ⟨rfl, .str z, rfl, .ref gl, rfl, gl, _, rfl, .inl (SqL.of (s' _ _ hg)), rfl, ?_, _, rfl, ?_⟩
          · rw [List.all_map]
            exact List.all_eq_true.mpr fun _ _ => rfl
          rw [if_pos rfl, inV_strs]
          have et : ((ws.take (j + 1)).filter fun x => !decide (x ∈ goodS held test)) = ((ws.take j).filter fun x => !decide (x ∈ goodS held test)) ++ (if (!decide (z ∈ goodS held test)) = true then [z] else []) := by
            rw [List.take_add_one, hz, List.filter_append]
            congr 1
            show List.filter _ [z] = _
            rw [List.filter_cons]
            rfl
          rw [et]
          refine ite2 (fun hb => ?_) (fun hb => ?_)
          · rw [if_pos hb]
            refine ⟨.str z, rfl, _, hD, ?_, ?_, ?_⟩
            · rw [List.length_map]
              have a := List.length_filter_le (fun x => !decide (x ∈ goodS held test)) (ws.take j)
              have b := List.length_take_le' j ws
              omega
            · intro b o e
              rw [upd_ne (ne_of_none e nD)]
              exact s' _ _ e
            · rw [upd_same, List.map_append]
              rfl
          · rw [if_neg hb, List.append_nil]
            exact ⟨s', hD⟩
        · rintro H2 ⟨s2, hD⟩
          rw [List.length_map, List.take_length] at hD
          refine ⟨by show 0 ≤ sizeLine; decide, fun e ne => ?_⟩
          have s3 : Same H2 (upd H2 e (.lst [])) := same_new ne
          refine ⟨D, e, _, rfl, rfl, s3 _ _ hD, upd_same, ?_⟩
          have e3 : ((ws.filter fun x => !decide (x ∈ goodS held test)).map V.str).isEmpty = decide (∀ x ∈ ws, x ∈ goodS held test) := by
            rw [List.isEmpty_map]
            by_cases h : ∀ x ∈ ws, x ∈ goodS held test
            · rw [decide_eq_true h, List.filter_eq_nil_iff.mpr (fun x hx => by rw [decide_eq_true (h x hx)]; decide)]
              rfl
            · rw [decide_eq_false h]
              cases e : ws.filter fun x => !decide (x ∈ goodS held test) with
              | nil =>
                refine absurd (fun x hx => ?_) h
                have := List.filter_eq_nil_iff.mp e x hx
                by_cases hm : x ∈ goodS held test
                · exact hm
                · rw [decide_eq_false hm] at this
                  exact absurd rfl this
              | cons => rfl
          rw [e3]
          exact q _ ((s1.trans s2).trans s3)
end

open TL
/-! ### a rule's line -/
def tRank (held : Int) (t : Str) : Option Int := if t = neS then some 9 else if held = 0 then none else whole t (held - 1)
def rankIf (b : Bool) (i j : Int) : Option Int → Option (Int × Int × Int)
  | some r => if b = true then some (i, j, r) else none
  | none => none
def ruleAt (ks : List (Int × Int)) (t : Str) (src : List Str) : Option Int → Option Int → Option Int → Option (Int × Int × Int)
  | some i, some j, some g => rankIf (srcsM src (heldAt ks i) t (heldAt ks g)) i j (tRank (heldAt ks i) t)
  | _, _, _ => none
def ruleOf (many : Int) (ks : List (Int × Int)) : List Str → Option (Int × Int × Int)
  | a :: s :: wd :: t :: g :: src => if a = ruS then ruleAt ks t src (whole s ((ks.length : Int) - 1)) (whole wd (many - 1)) (whole g ((ks.length : Int) - 1)) else none
  | _ => none
theorem ruleOf_none {many : Int} {ks : List (Int × Int)} {ws : List Str} (h : ws.length < 5 ∨ ws[0]? ≠ some ruS) : ruleOf many ks ws = none := by
  unfold ruleOf
  split
  · rename_i a s wd t g src
    rcases h with h | h
    · simp only [List.length_cons] at h
      omega
    · rw [if_neg (fun e => h (by rw [e]; rfl))]
  · rfl
theorem whole_rng {z : Str} {most i : Int} (h : whole z most = some i) : 0 ≤ i ∧ i ≤ most ∧ i ≤ 5 ∧ tl z = [48 + i.toNat] := by
  unfold whole at h
  cases e : wordVal (tl z) with
  | none => rw [e] at h; cases h
  | some k =>
    rw [e] at h
    have h : (if k ≤ most then some k else none) = some i := h
    obtain ⟨c, ec, c0, c1, ei⟩ := wordVal_some e
    split at h
    · cases h
      refine ⟨by omega, by assumption, by omega, ?_⟩
      rw [ec]
      congr 1
      omega
    · cases h
theorem whole_int {z : Str} {most i : Int} (h : whole z most = some i) : intText? z = some i ∧ z.length = 1 := by
  obtain ⟨h0, _, h5, e⟩ := whole_rng h
  have hl := len_tl z
  rw [e] at hl
  have hd : NumText.AllDigits (tl z) := by
    rw [e]
    intro c hc
    rw [List.mem_singleton.mp hc]
    omega
  have := intText_digits hd (by show tl z ≠ []; rw [e]; exact List.cons_ne_nil _ _) (by rw [hl]; show 1 ≤ 4300; decide)
  rw [this]
  refine ⟨?_, hl⟩
  congr 1
  show ((NumText.digitsVal (tl z) : Nat) : Int) = i
  rw [e]
  show ((0 * 10 + (48 + i.toNat - 48) : Nat) : Int) = i
  omega
theorem cutV_from (xs : List V) (k : Nat) : cutV xs (some (k : Int)) none = xs.drop k := by
  unfold cutV
  rw [HT.sIx_nat, HT.sIx_none]
  by_cases h : k ≤ xs.length
  · rw [Nat.min_eq_left h, List.take_of_length_le (by rw [List.length_drop]; exact Nat.le_refl _)]
  · rw [Nat.min_eq_right (by omega), List.drop_length, List.drop_eq_nil_of_le (by omega), List.take_nil]
/-- states as pairs -/
def Kinds (H : Hp) (kl : Addr) (ks : List (Int × Int)) : Prop := ∃ vs, H kl = some (.lst vs) ∧ TDs H vs (ks.map msgD)
theorem Kinds.mono {H H' : Hp} {kl : Addr} {ks : List (Int × Int)} (h : Kinds H kl ks) (s : Same H H') : Kinds H' kl ks := by
  obtain ⟨vs, a, b⟩ := h
  exact ⟨vs, s _ _ a, TDs.mono (Tups.same s) _ b⟩
theorem Kinds.at {H : Hp} {kl : Addr} {ks : List (Int × Int)} (h : Kinds H kl ks) {i : Int} (h0 : 0 ≤ i) (h1 : i < ks.length) : ∃ vs a v, H kl = some (.lst vs) ∧ atI vs i = some (.ref a) ∧ H a = some (.tup [.int v, .int (heldAt ks i)]) := by
  obtain ⟨vs, hk, hkt⟩ := h
  obtain ⟨a, v, e1, e2, _⟩ := kinds_at hkt h0 h1
  exact ⟨vs, a, v, hk, e1, e2⟩
theorem Kinds.len {H : Hp} {kl : Addr} {ks : List (Int × Int)} (h : Kinds H kl ks) : ∃ vs, H kl = some (.lst vs) ∧ vs.length = ks.length := by
  obtain ⟨vs, hk, hkt⟩ := h
  exact ⟨vs, hk, hkt.msgs_len⟩
def HeldOk (ks : List (Int × Int)) : Prop := ∀ i, 0 ≤ heldAt ks i ∧ heldAt ks i ≤ 3
def sp_law_rule : Sp := fun us H Q _ => ∃ (wl kl : Addr) (ws : List Str) (many : Int) (ks : List (Int × Int)), us = [.ref wl, .int many, .ref kl] ∧ Words H wl ws ∧ 1 ≤ many ∧ many ≤ 3 ∧ Kinds H kl ks ∧ ks.length ≤ 6 ∧ HeldOk ks ∧
  (ruleOf many ks ws = none → ∀ H', Same H H' → Q .non H') ∧ (∀ i j r, ruleOf many ks ws = some (i, j, r) → ∀ t H', Same H H' → H' t = some (.tup [.int i, .int j, .int r]) → Q (.ref t) H')
section
variable {P : Program} {w : World} {K : PySem.W.Frag} {mg : Str → Option Value} {base : Heap}
abbrev N_law_rule : List Str := ["words", "many", "kinds", "state", "target", "word", "held"]
theorem sc_law_rule : FnScope N_law_rule ["words", "many", "kinds"] (defScope s_law_rule) := ⟨rfl, rfl, rfl, by decide +kernel, rfl, by decide +kernel, by decide +kernel⟩
theorem G_law_rule (T : Tx K mg) : FnG P w K mg base CX0 2 T.law_rule.f T.law_rule.fd ["words", "many", "kinds"] sp_law_rule := by
  refine okG T.law_rule.F sc_law_rule (fun vs H Q E h => ?_) (fun cdv A outer s H vs Q E gd hr h => ?_)
  · obtain ⟨wl, kl, ws, many, ks, rfl, _⟩ := h
    rfl
  · obtain ⟨wl, kl, ws, many, ks, rfl, hW, m1, m3, hK, l6, ho, q1, q2⟩ := h
    have L5 := line5
    refine ⟨_, 
      (pss_cons (ps_if (PW.pt (pw_or (pt_cmpR op_lt (pe_callB call_len_seq (by rfl) T.m_len PySem.boot_len (pa_cons (pv 0) pa_nil)) pe_int (nomark _)) (pw_or1 (pt_cmpR op_ne (pe_ix ix_list (pv 0) pe_int (fun _ _ => rfl)) pe_str (nomark _))))) 
        (pss_one (ps_ret pe_non)) -- return None
         pss_nil) -- if len(words) < 5 or words[0] != 'rule':
      (pss_cons (ps_par (i := 3) (j := 4) rfl sc_law_rule.nd rfl rfl (by decide) rfl rfl (pa_cons (pe_callG (G_law_whole T) gd (hr.mono (by decide)) rfl T.law_whole.g T.law_whole.F.kp T.law_whole.b .nil pass0 (pa_cons (pe_ix ix_list (pv 0) pe_int (fun _ _ => rfl)) (pa_cons (pe_op op_sub (pe_callB call_len_seq (by rfl) T.m_len PySem.boot_len (pa_cons (pv 2) pa_nil)) pe_int) pa_nil))) (pa_cons (pe_callG (G_law_whole T) gd (hr.mono (by decide)) rfl T.law_whole.g T.law_whole.F.kp T.law_whole.b .nil pass0 (pa_cons (pe_ix ix_list (pv 0) pe_int (fun _ _ => rfl)) (pa_cons (pe_op op_sub (pe_callB call_len_seq (by rfl) T.m_len PySem.boot_len (pa_cons (pv 2) pa_nil)) pe_int) pa_nil))) pa_nil)) rfl) -- state, target = (_law_whole(words[1], len(kinds) - 1), _law_whole(words[4], len(kinds) - 1))
      (pss_cons (ps_set (i := 5) sc_law_rule.nd rfl (.inl rfl) (pe_callG (G_law_whole T) gd (hr.mono (by decide)) rfl T.law_whole.g T.law_whole.F.kp T.law_whole.b .nil pass0 (pa_cons (pe_ix ix_list (pv 0) pe_int (fun _ _ => rfl)) (pa_cons (pe_op op_sub (pv 1) pe_int) pa_nil)))) -- word = _law_whole(words[2], many - 1)
      (pss_cons (ps_if (PW.pt (pw_or (pt_cmp (pc_isN (pv 3))) (pw_or (pt_cmp (pc_isN (pv 5))) (pw_or1 (pt_cmp (pc_isN (pv 4))))))) 
        (pss_one (ps_ret pe_non)) -- return None
         pss_nil) -- if state is None or word is None or target is None:
      (pss_cons (ps_set (i := 6) sc_law_rule.nd rfl (.inl rfl) (pe_ix ix_tup (pe_ix ix_list (pv 2) (pv 3) (fun _ _ => rfl)) pe_int (fun _ _ => rfl))) -- held = kinds[state][1]
      (C8.pss_cut (ps_if (PW.pt (pw_and (pt_cmpR op_ne (pe_ix ix_list (pv 0) pe_int (fun _ _ => rfl)) pe_str (nomark _)) (pw_and1 (PW.pt (pw_or (pt_cmpR op_eq (pv 6) pe_int (nomark _)) (pw_or1 (pt_cmp (pc_isN (pe_callG (G_law_whole T) gd (hr.mono (by decide)) rfl T.law_whole.g T.law_whole.F.kp T.law_whole.b .nil pass0 (pa_cons (pe_ix ix_list (pv 0) pe_int (fun _ _ => rfl)) (pa_cons (pe_op op_sub (pv 6) pe_int) pa_nil))))))))))) 
        (pss_one (ps_ret pe_non)) -- return None
         pss_nil) -- if words[3] != 'new' and (held == 0 or _law_whole(words[3], held - 1) is None):
      (pss_cons (ps_if (pt_not (pt_val (pe_callG (G_law_sources T) gd (hr.mono (by decide)) rfl T.law_sources.g T.law_sources.F.kp T.law_sources.b .nil pass0 (pa_cons (pe_slice sl_list (pv 0) (po_some pe_int) po_none) (pa_cons (pv 6) (pa_cons (pe_ix ix_list (pv 0) pe_int (fun _ _ => rfl)) (pa_cons (pe_ix ix_tup (pe_ix ix_list (pv 2) (pv 4) (fun _ _ => rfl)) pe_int (fun _ _ => rfl)) pa_nil))))))) 
        (pss_one (ps_ret pe_non)) -- return None
         pss_nil) -- if not _law_sources(words[5:], held, words[3], kinds[target][1]):
      (pss_one (ps_ret (pe_tup (pa_cons (pv 3) (pa_cons (pv 5) (pa_cons (pe_ifExp (pt_cmpR op_eq (pe_ix ix_list (pv 0) pe_int (fun _ _ => rfl)) pe_str (nomark _)) pe_int (pe_callTy call_int_str (by rfl) T.m_int (by decide +kernel) (pa_cons (pe_ix ix_list (pv 0) pe_int (fun _ _ => rfl)) pa_nil))) pa_nil)))))) -- return (state, word, 9 if words[3] == 'new' else int(words[3]))
      ))))))) , ?_⟩
    refine ⟨.ref wl, rfl, wl, _, rfl, .inl (SqL.of hW.1), _, _, rfl, rfl, _, rfl, ?_⟩
    rw [List.length_map]
    refine ite2 (fun h1 => ?_) (fun h1 => ?_)
    · have h1 := of_decide_eq_true h1
      exact q1 (ruleOf_none (.inl (by omega))) _ (Same.refl H)
    have h1 : 5 ≤ ws.length := by
      have : ¬ ((ws.length : Int) < 5) := fun e => h1 (decide_eq_true e)
      omega
    obtain ⟨a, s', wd, t, g, src, rfl⟩ : ∃ a s' wd t g src, ws = a :: s' :: wd :: t :: g :: src := by
      match ws, h1 with
      | a :: b :: c :: d :: e :: r, _ => exact ⟨a, b, c, d, e, r, rfl⟩
      | [], h => exact absurd h (by decide)
      | [_], h => simp only [List.length_cons, List.length_nil] at h; omega
      | [_, _], h => simp only [List.length_cons, List.length_nil] at h; omega
      | [_, _, _], h => simp only [List.length_cons, List.length_nil] at h; omega
      | [_, _, _, _], h => simp only [List.length_cons, List.length_nil] at h; omega
    refine ⟨.ref wl, rfl, wl, _, 0, .str a, rfl, rfl, SqL.of hW.1, atI_nat (j := 0) rfl, rfl, _, rfl, ?_⟩
    rw [v_eq]
    refine ite2 (fun h2 => ?_) (fun h2 => ?_)
    · have h2 : a ≠ ruS := fun e => by rw [decide_eq_true e] at h2; cases h2
      exact q1 (ruleOf_none (.inr fun e => h2 (Option.some.inj e))) _ (Same.refl H)
    have h2 : a = ruS := by
      by_cases e : a = ruS
      · exact e
      · rw [decide_eq_false e] at h2
        exact absurd rfl h2
    have eK : ruleOf many ks (a :: s' :: wd :: t :: g :: src) = ruleAt ks t src (whole s' ((ks.length : Int) - 1)) (whole wd (many - 1)) (whole g ((ks.length : Int) - 1)) := if_pos h2
    rw [eK] at q1 q2
    clear eK h1 h2
    have ls := hW.2.2 s' (by simp)
    have lw := hW.2.2 wd (by simp)
    have lt := hW.2.2 t (by simp)
    have lg := hW.2.2 g (by simp)
    obtain ⟨vs, hk, lvs⟩ := hK.len
    refine ⟨.ref wl, rfl, wl, _, 1, .str s', rfl, rfl, SqL.of hW.1, atI_nat (j := 1) rfl, .ref kl, rfl, kl, vs, rfl, .inl (SqL.of hk), _, _, rfl, rfl, s', _, rfl, ls, by omega, fun H1 s1 => ?_⟩
    refine ⟨.ref wl, rfl, wl, _, 4, .str g, rfl, rfl, SqL.of (s1 _ _ hW.1), atI_nat (j := 4) rfl, .ref kl, rfl, kl, vs, rfl, .inl (SqL.of (s1 _ _ hk)), _, _, rfl, rfl, g, _, rfl, lg, by omega, fun H2 s2 => ?_⟩
    rw [← lvs] at q1 q2
    refine ⟨_, _, rfl, .ref wl, rfl, wl, _, 2, .str wd, rfl, rfl, SqL.of ((s1.trans s2) _ _ hW.1), atI_nat (j := 2) rfl, .int many, rfl, _, _, rfl, rfl, wd, _, rfl, lw, by omega, fun H3 s3 => ?_⟩
    have s13 := (s1.trans s2).trans s3
    cases es : whole s' ((vs.length : Int) - 1) with
    | none =>
      rw [es] at q1
      exact ⟨.non, rfl, true, rfl, iteT (iteT (q1 rfl _ s13))⟩
    | some i =>
    cases ew : whole wd (many - 1) with
    | none =>
      rw [es, ew] at q1
      exact ⟨.int i, rfl, false, rfl, iteF ⟨.non, rfl, true, rfl, iteT (iteT (q1 rfl _ s13))⟩⟩
    | some j =>
    cases eg : whole g ((vs.length : Int) - 1) with
    | none =>
      rw [es, ew, eg] at q1
      exact ⟨.int i, rfl, false, rfl, iteF ⟨.int j, rfl, false, rfl, iteF ⟨.non, rfl, true, rfl, iteT (q1 rfl _ s13)⟩⟩⟩
    | some gt =>
    refine ⟨.int i, rfl, false, rfl, iteF ⟨.int j, rfl, false, rfl, iteF ⟨.int gt, rfl, false, rfl, iteF ?_⟩⟩⟩
    rw [es, ew, eg] at q1 q2
    obtain ⟨i0, i1, _, _⟩ := whole_rng es
    obtain ⟨g0, g1, _, _⟩ := whole_rng eg
    clear es ew eg
    have q1 : rankIf (srcsM src (heldAt ks i) t (heldAt ks gt)) i j (tRank (heldAt ks i) t) = none → ∀ H', Same H H' → Q .non H' := q1
    have q2 : ∀ i' j' r, rankIf (srcsM src (heldAt ks i) t (heldAt ks gt)) i j (tRank (heldAt ks i) t) = some (i', j', r) → ∀ t H', Same H H' → H' t = some (.tup [.int i', .int j', .int r]) → Q (.ref t) H' := q2
    obtain ⟨vs', ka, v, hk', ea, ha⟩ := (hK.mono s13).at i0 (by omega)
    refine ⟨.ref kl, rfl, .int i, rfl, kl, vs', i, .ref ka, rfl, rfl, SqL.of hk', ea, ka, _, 1, .int (heldAt ks i), rfl, rfl, SqT.of ha, atI_nat (j := 1) rfl, ?_⟩
    obtain ⟨b0, b3⟩ := ho i
    refine ⟨fun σ H' => σ = [some (.ref wl), some (.int many), some (.ref kl), some (.int i), some (.int gt), some (.int j), some (.int (heldAt ks i))] ∧ Same H H' ∧ ∃ r, tRank (heldAt ks i) t = some r, ?_, ?_⟩
    · refine ⟨.ref wl, rfl, wl, _, 3, .str t, rfl, rfl, SqL.of (s13 _ _ hW.1), atI_nat (j := 3) rfl, rfl, _, rfl, ?_⟩
      rw [v_eq]
      unfold tRank at q1 ⊢
      by_cases h3 : t = neS
      · rw [decide_eq_true h3, if_pos h3]
        exact iteF (iteF ⟨rfl, s13, 9, rfl⟩)
      · rw [decide_eq_false h3, if_neg h3]
        rw [if_neg h3] at q1
        refine iteT ⟨.int (heldAt ks i), rfl, rfl, _, rfl, ?_⟩
        rw [v_int]
        by_cases h4 : heldAt ks i = 0
        · rw [decide_eq_true h4]
          rw [if_pos h4] at q1
          exact iteT (iteT (q1 rfl _ s13))
        · rw [decide_eq_false h4, if_neg h4]
          rw [if_neg h4] at q1
          refine iteF ⟨.ref wl, rfl, wl, _, 3, .str t, rfl, rfl, SqL.of (s13 _ _ hW.1), atI_nat (j := 3) rfl, .int (heldAt ks i), rfl, _, _, rfl, rfl, t, _, rfl, lt, by omega, fun H4 s4 => ?_⟩
          cases et : whole t (heldAt ks i - 1) with
          | none =>
            rw [et] at q1
            exact ⟨true, rfl, iteT (q1 rfl _ (s13.trans s4))⟩
          | some r => exact ⟨false, rfl, iteF ⟨rfl, s13.trans s4, r, rfl⟩⟩
    rintro σ H4 ⟨rfl, s14, r, er⟩
    refine ⟨.ref wl, rfl, 5, rfl, wl, _, rfl, SqL.of (s14 _ _ hW.1), fun sl nsl => ?_⟩
    have ss := same_new (o := .lst (cutV ((a :: s' :: wd :: t :: g :: src).map V.str) (some 5) none)) nsl
    have hsl : (upd H4 sl (.lst (cutV ((a :: s' :: wd :: t :: g :: src).map V.str) (some 5) none))) sl = some (.lst (src.map V.str)) := by
      rw [upd_same, show (5 : Int) = ((5 : Nat) : Int) from rfl, cutV_from]
      rfl
    generalize upd H4 sl (.lst (cutV ((a :: s' :: wd :: t :: g :: src).map V.str) (some 5) none)) = H5 at *
    have s15 := s14.trans ss
    obtain ⟨vs2, kb, v2, hk2, eb, hb⟩ := (hK.mono s15).at g0 (by omega)
    obtain ⟨c0, c3⟩ := ho gt
    have hlen := hW.2.1
    simp only [List.length_cons] at hlen
    refine ⟨.int (heldAt ks i), rfl, .ref wl, rfl, wl, _, 3, .str t, rfl, rfl, SqL.of (s15 _ _ hW.1), atI_nat (j := 3) rfl, .ref kl, rfl, .int gt, rfl, kl, vs2, gt, .ref kb, rfl, rfl, SqL.of hk2, eb, kb, _, 1, .int (heldAt ks gt), rfl, rfl, SqT.of hb, atI_nat (j := 1) rfl, ?_⟩
    refine ⟨sl, src, heldAt ks i, t, heldAt ks gt, rfl, ⟨hsl, by omega, fun x hx => hW.2.2 x (by simp only [List.mem_cons]; exact .inr (.inr (.inr (.inr (.inr hx)))))⟩, b0, b3, c3, fun H6 s6 => ⟨_, rfl, ?_⟩⟩
    rw [er] at q1 q2
    have s16 := s15.trans s6
    cases hs : srcsM src (heldAt ks i) t (heldAt ks gt) with
    | false =>
      rw [hs] at q1
      exact iteT (q1 rfl _ s16)
    | true =>
      rw [hs] at q2
      refine iteF ⟨.int i, rfl, .int j, rfl, .ref wl, rfl, wl, _, 3, .str t, rfl, rfl, SqL.of (s16 _ _ hW.1), atI_nat (j := 3) rfl, rfl, _, rfl, ?_⟩
      rw [v_eq]
      unfold tRank at er
      by_cases h3 : t = neS
      · rw [decide_eq_true h3]
        rw [if_pos h3] at er
        cases er
        exact iteT ⟨by show 3 ≤ sizeLine; decide, fun tt nt => q2 i j 9 rfl tt _ (s16.trans (same_new nt)) upd_same⟩
      · rw [decide_eq_false h3]
        rw [if_neg h3] at er
        split at er
        · cases er
        · obtain ⟨e1, e2⟩ := whole_int er
          exact iteF ⟨.ref wl, rfl, wl, _, 3, .str t, rfl, rfl, SqL.of (s16 _ _ hW.1), atI_nat (j := 3) rfl, t, r, rfl, e1, by omega, by show 3 ≤ sizeLine; decide, fun tt nt => q2 i j r rfl tt _ (s16.trans (same_new nt)) upd_same⟩
end

open TL
/-! ### the law's reader of lines -/
abbrev woS : Str := Str.ofString "words"
abbrev Rk3 := Int × Int × Int
def rkL (r : Rk3) : List Int := [r.1, r.2.1, r.2.2]
def rkD (r : Rk3) : PyData := .tuple ((rkL r).map PyData.int)
def leR3 (a b : Rk3) : Bool := Ob.lexAt (fun j => decide ((rkL a).getD j 0 = (rkL b).getD j 0)) (fun j => decide ((rkL a).getD j 0 ≤ (rkL b).getD j 0)) (decide ((rkL a).length ≤ (rkL b).length)) 0 (min (rkL a).length (rkL b).length)
structure DSt where
  m : Int
  ks : List (Int × Int)
  rs : List Rk3
def headOf : List Str → Option Int
  | [a, b] => if a = woS then whole b 3 else none
  | _ => none
theorem headOf_none {ws : List Str} (h : ws.length ≠ 2 ∨ ws[0]? ≠ some woS) : headOf ws = none := by
  unfold headOf
  split
  · rename_i a b
    rcases h with h | h
    · exact (h rfl).elim
    · rw [if_neg (fun e => h (by rw [e]; rfl))]
  · rfl
def headD (st : DSt) : Option Int → Option DSt
  | some m => if m = 0 then none else some ⟨m, st.ks, st.rs⟩
  | none => none
def kindD (st : DSt) : Option (Int × Int) → Option DSt
  | some k => some ⟨st.m, st.ks ++ [k], st.rs⟩
  | none => none
def rankD (st : DSt) : Option Rk3 → Option DSt
  | some r => (match st.rs.getLast? with | some l => if leR3 r l = true then none else some ⟨st.m, st.ks, st.rs ++ [r]⟩ | none => some ⟨st.m, st.ks, st.rs ++ [r]⟩)
  | none => none
def isStL (st : DSt) (ws : List Str) : Bool := decide (ws[0]? = some stS) && (st.rs.isEmpty && decide (st.ks.length < 6))
def lineD (at_ : Nat) (st : DSt) (ws : List Str) : Option DSt :=
  if at_ = 0 then headD st (headOf ws) else if isStL st ws = true then kindD st (kindOf st.ks.isEmpty ws) else rankD st (if st.ks.isEmpty = true then none else ruleOf st.m st.ks ws)
def dueL : Nat → DSt → List Str → Nat ⊕ DSt
  | _, st, [] => .inr st
  | i, st, z :: r => match lineD i st (Txt.split z spS) with | none => .inl i | some st' => dueL (i + 1) st' r
def dueE (ps : List Str) : Nat ⊕ DSt → Option Nat
  | .inl k => some k
  | .inr st => if st.ks.isEmpty = false ∧ ps.getLast? = some Str.empty then none else some ps.dropLast.length
def dueM (z : Str) : Option Nat := dueE (Txt.split z nlS) (dueL 0 ⟨0, [], []⟩ (Txt.split z nlS).dropLast)
def optN : Option Nat → V
  | none => .non
  | some k => .int (k : Int)
def sp_law_due : Sp := fun us H Q _ => ∃ z : Str, us = [.str z] ∧ z.length ≤ 100000 ∧ ∀ H', Same H H' → Q (optN (dueM z)) H'
def Ranks (H : Hp) (rl : Addr) (rs : List Rk3) : Prop := ∃ vs, H rl = some (.lst vs) ∧ TDs H vs (rs.map rkD)
theorem cutV_last (xs : List V) : cutV xs none (some (-1)) = xs.dropLast := by
  have e1 : HT.sIx xs.length xs.length (some (-1)) = xs.length - 1 := by
    show (if (-1 : Int) < 0 then ((-1 : Int) + (xs.length : Int)).toNat else min (-1 : Int).toNat xs.length) = _
    rw [if_pos (by decide)]
    omega
  have e2 : HT.sIx xs.length 0 none = 0 := rfl
  unfold cutV
  rw [e1, e2, List.dropLast_eq_take, List.drop_zero, Nat.sub_zero]
theorem atI_pre (xs : List V) (u v : V) : atI (xs ++ [u, v]) (-2) = some u := by
  have hl : (xs ++ [u, v]).length = xs.length + 2 := by rw [List.length_append]; rfl
  have e : ixN (xs ++ [u, v]).length (-2) = some xs.length := by
    unfold ixN
    rw [if_neg (by decide), hl, if_pos (by omega)]
    congr 1
    omega
  unfold atI
  rw [e]
  show (xs ++ [u, v])[xs.length]? = some u
  rw [List.getElem?_append_right (Nat.le_refl _), Nat.sub_self]
  rfl
/-- what holds at a line -/
structure DInv (H0 H : Hp) (kl rl : Addr) (i : Nat) (st : DSt) : Prop where
  kf : H0 kl = none
  rf : H0 rl = none
  ne : kl ≠ rl
  sm : Same H0 H
  k : Kinds H kl st.ks
  r : Ranks H rl st.rs
  l6 : st.ks.length ≤ 6 ∨ True
  ho : HeldOk st.ks
  m : i = 0 ∨ (1 ≤ st.m ∧ st.m ≤ 3)
  ln : st.ks.length ≤ 6
  le : st.rs.length ≤ i
theorem DInv.mono {H0 H H' : Hp} {kl rl : Addr} {i : Nat} {st : DSt} (h : DInv H0 H kl rl i st) (s : Same H H') : DInv H0 H' kl rl i st := by
  obtain ⟨a, b, c, d, e, ⟨vs, f, f2⟩, g, i', j, k, l⟩ := h
  exact ⟨a, b, c, d.trans s, e.mono s, ⟨vs, s _ _ f, TDs.mono (Tups.same s) _ f2⟩, g, i', j, k, l⟩
theorem heldOk_nil : HeldOk [] := fun i => by
  unfold heldAt
  exact ⟨Int.le_refl 0, by show (0 : Int) ≤ 3; decide⟩
theorem both_some {o1 o2 : Option Int} {v h : Int} (e : both o1 o2 = some (v, h)) : o1 = some v ∧ o2 = some h := by
  cases o1 with
  | none => cases e
  | some a =>
    cases o2 with
    | none => cases e
    | some b =>
      cases e
      exact ⟨rfl, rfl⟩
theorem kindOf_rng {first : Bool} {ws : List Str} {v h : Int} (e : kindOf first ws = some (v, h)) : 0 ≤ v ∧ v ≤ 3 ∧ 0 ≤ h ∧ h ≤ 3 ∧ (first = true → h = 0) := by
  unfold kindOf at e
  split at e
  · split at e
    · obtain ⟨e1, e2⟩ := both_some e
      obtain ⟨a0, a1, _, _⟩ := whole_rng e1
      obtain ⟨b0, b1, _, _⟩ := whole_rng e2
      refine ⟨a0, a1, b0, ?_, fun ef => ?_⟩
      · split at b1 <;> omega
      · rw [if_pos ef] at b1
        omega
    · cases e
  · cases e
theorem heldOk_snoc {ks : List (Int × Int)} (h : HeldOk ks) {m : Int × Int} (h0 : 0 ≤ m.2) (h3 : m.2 ≤ 3) : HeldOk (ks ++ [m]) := fun i => by
  have hi := h i
  unfold heldAt at hi ⊢
  by_cases e : i.toNat < ks.length
  · rw [List.getElem?_append_left e]
    exact hi
  · rw [List.getElem?_append_right (by omega)]
    cases e2 : i.toNat - ks.length with
    | zero => exact ⟨h0, h3⟩
    | succ k => exact ⟨Int.le_refl 0, by show (0 : Int) ≤ 3; decide⟩
theorem isEmpty_map' {α β : Type} (f : α → β) (l : List α) : (l.map f).isEmpty = l.isEmpty := List.isEmpty_map
theorem tds_empty {H : Hp} {vs : List V} {ds : List PyData} (h : TDs H vs ds) : vs.isEmpty = ds.isEmpty := by
  cases h <;> rfl
theorem cutT {t : TT} {σ : L2.St} {H : Hp} {Q : Bool → Hp → Prop} (b : Bool) (h1 : ∀ Q' : Bool → Hp → Prop, (∀ H', Same H H' → Q' b H') → t σ H Q') (h2 : ∀ H', Same H H' → Q b H') : t σ H Q := h1 Q h2
theorem cutE {t : TE} {σ : L2.St} {H : Hp} {Q : VK} (R : V → Hp → Prop) (h1 : ∀ Q' : VK, (∀ v H', R v H' → Q' v H') → t σ H Q') (h2 : ∀ v H', R v H' → Q v H') : t σ H Q := h1 Q h2
theorem tds_snoc_inv {H : Hp} : ∀ {us : List V} {ds : List PyData} {d : PyData}, TDs H us (ds ++ [d]) → ∃ us' u, us = us' ++ [u] ∧ TDs H us' ds ∧ TD H u d
  | _, [], _, h => by
    cases h with
    | cons a r =>
      cases r
      exact ⟨[], _, rfl, .nil, a⟩
  | _, _ :: ds, _, h => by
    cases h with
    | cons a r =>
      obtain ⟨us', u, e, h1, h2⟩ := tds_snoc_inv r
      exact ⟨_ :: us', u, by rw [e]; rfl, .cons a h1, h2⟩
theorem td_rk {H : Hp} {u : V} {r : Rk3} (h : TD H u (rkD r)) : ∃ t, u = .ref t ∧ H t = some (.tup ((rkL r).map V.int)) := by
  unfold rkD at h
  generalize e : (rkL r).map PyData.int = ds at h
  cases h with
  | tup ht hx =>
    rw [← e] at hx
    rw [TDs.ints hx] at ht
    exact ⟨_, rfl, ht⟩
theorem put_same {H0 H : Hp} {a : Addr} {o : HO} (h : H0 a = none) (s : Same H0 H) : Same H0 (upd H a o) := fun b u e => by
  rw [upd_ne (ne_of_none e h)]
  exact s _ _ e
section
variable {P : Program} {w : World} {K : PySem.W.Frag} {mg : Str → Option Value} {base : Heap}
abbrev N_law_due : List Str := ["text", "pieces", "lines", "kinds", "ranks", "many", "at", "line", "words"]
theorem sc_law_due : FnScope N_law_due ["text"] (defScope s_law_due) := ⟨rfl, rfl, rfl, by decide +kernel, rfl, by decide +kernel, by decide +kernel⟩
theorem G_law_due (T : Tx K mg) : FnG P w K mg base CX0 3 T.law_due.f T.law_due.fd ["text"] sp_law_due := by
  refine okG T.law_due.F sc_law_due (fun vs H Q E h => ?_) (fun cdv A outer s H vs Q E gd hr h => ?_)
  · obtain ⟨z, rfl, _⟩ := h
    rfl
  · obtain ⟨z, rfl, hz, q⟩ := h
    have L5 := line5
    refine ⟨_, 
      (pss_cons (ps_set (i := 1) sc_law_due.nd rfl (.inl rfl) (pe_split (pv 0) pe_str)) -- pieces = text.split('\n')
      (C8.pss_cut (ps_asg (pe_tup (pa_cons (pe_slice sl_list (pv 1) po_none (po_some (pe_un un_neg pe_int))) (pa_cons (pe_lst pa_nil) (pa_cons (pe_lst pa_nil) (pa_cons pe_int pa_nil))))) (pg_tup rfl (pgs_cons (pg_name (i := 2) sc_law_due.nd rfl (.inl rfl)) (pgs_cons (pg_name (i := 3) sc_law_due.nd rfl (.inl rfl)) (pgs_cons (pg_name (i := 4) sc_law_due.nd rfl (.inl rfl)) (pgs_cons (pg_name (i := 5) sc_law_due.nd rfl (.inl rfl)) pgs_nil)))))) -- lines, kinds, ranks, many = (pieces[:-1], [], [], 0)
      (C8.pss_cut (ps_for PassesOwn.never rfl (pi_enum (by rfl) T.m_enumerate (pa_cons (pv 2) pa_nil)) (pg_tup rfl (pgs_cons (pg_name (i := 6) sc_law_due.nd rfl (.inl rfl)) (pgs_cons (pg_name (i := 7) sc_law_due.nd rfl (.inl rfl)) pgs_nil))) 
        (pss_cons (ps_set (i := 8) sc_law_due.nd rfl (.inl rfl) (pe_split (pv 7) pe_str)) -- words = line.split(' ')
        (pss_one (ps_if (pt_cmpR op_eq (pv 6) pe_int (nomark _)) 
          (C8.pss_cut (ps_set (i := 5) sc_law_due.nd rfl (.inl rfl) (pe_ifExp (PW.pt (pw_and (pt_cmpR op_eq (pe_callB call_len_seq (by rfl) T.m_len PySem.boot_len (pa_cons (pv 8) pa_nil)) pe_int (nomark _)) (pw_and1 (pt_cmpR op_eq (pe_ix ix_list (pv 8) pe_int (fun _ _ => rfl)) pe_str (nomark _))))) (pe_callG (G_law_whole T) gd (hr.mono (by decide)) rfl T.law_whole.g T.law_whole.F.kp T.law_whole.b .nil pass0 (pa_cons (pe_ix ix_list (pv 8) pe_int (fun _ _ => rfl)) (pa_cons pe_int pa_nil))) pe_non)) -- many = _law_whole(words[1], 3) if len(words) == 2 and words[0] == 'words' else None
          (pss_one (ps_if (PW.pt (pw_or (pt_cmp (pc_isN (pv 5))) (pw_or1 (pt_cmpR op_eq (pv 5) pe_int (nomark _))))) 
            (pss_one (ps_ret (pv 6))) -- return at
             pss_nil)) -- if many is None or many == 0:
          ) 
          (pss_one (ps_if (PW.pt (pw_and (pt_cmpR op_eq (pe_ix ix_list (pv 8) pe_int (fun _ _ => rfl)) pe_str (nomark _)) (pw_and (pt_cmpR (op_eqL0 hr.units) (pv 4) (pe_lst pa_nil) (nomark _)) (pw_and1 (pt_cmpR op_lt (pe_callB call_len_seq (by rfl) T.m_len PySem.boot_len (pa_cons (pv 3) pa_nil)) pe_int (nomark _)))))) 
            (pss_cons (ps_expr (pe_bm PySem.F.plainAttrs_list PySem.F.slot_list_append PySem.F.type_list_append mt_append (pv 3) (pa_cons (pe_callG (G_law_kind_of T) gd (hr.mono (by decide)) rfl T.law_kind_of.g T.law_kind_of.F.kp T.law_kind_of.b .nil pass0 (pa_cons (pv 8) (pa_cons (pe_cmpR (op_eqL0 hr.units) (pv 3) (pe_lst pa_nil) (nomark _)) pa_nil))) pa_nil))) -- kinds.append(_law_kind_of(words, kinds == []))
            (pss_one (ps_if (pt_cmp (pc_isN (pe_ix ix_list (pv 3) (pe_un un_neg pe_int) (fun _ _ => rfl)))) 
              (pss_one (ps_ret (pv 6))) -- return at
               pss_nil)) -- if kinds[-1] is None:
            ) 
            (pss_cons (ps_expr (pe_bm PySem.F.plainAttrs_list PySem.F.slot_list_append PySem.F.type_list_append mt_append (pv 4) (pa_cons (pe_ifExp (pt_cmpR (op_neL0 hr.units) (pv 3) (pe_lst pa_nil) (nomark _)) (pe_callG (G_law_rule T) gd (hr.mono (by decide)) rfl T.law_rule.g T.law_rule.F.kp T.law_rule.b .nil pass0 (pa_cons (pv 8) (pa_cons (pv 5) (pa_cons (pv 3) pa_nil)))) pe_non) pa_nil))) -- ranks.append(_law_rule(words, many, kinds) if kinds != [] else None)
            (pss_one (ps_if (PW.pt (pw_or (pt_cmp (pc_isN (pe_ix ix_list (pv 4) (pe_un un_neg pe_int) (fun _ _ => rfl)))) (pw_or1 (PW.pt (pw_and (pt_cmpR (op_neL0 hr.units) (pe_slice sl_list (pv 4) po_none (po_some (pe_un un_neg pe_int))) (pe_lst pa_nil) (nomark _)) (pw_and1 (pt_cmpR (op_leT (Nat.lt_of_le_of_lt (Nat.le_add_right _ 64) hr.units)) (pe_ix ix_list (pv 4) (pe_un un_neg pe_int) (fun _ _ => rfl)) (pe_ix ix_list (pv 4) (pe_un un_neg pe_int) (fun _ _ => rfl)) (nomark _)))))))) 
              (pss_one (ps_ret (pv 6))) -- return at
               pss_nil)) -- if ranks[-1] is None or (ranks[:-1] != [] and ranks[-1] <= ranks[-2]):
            ))) -- if words[0] == 'state' and ranks == [] and (len(kinds) < 6):
          )) -- if at == 0:
        )) -- for at, line in enumerate(lines):
      (pss_one (ps_ret (pe_ifExp (PW.pt (pw_and (pt_cmpR (op_neL0 hr.units) (pv 3) (pe_lst pa_nil) (nomark _)) (pw_and1 (pt_cmpR op_eq (pe_ix ix_list (pv 1) (pe_un un_neg pe_int) (fun _ _ => rfl)) pe_str (nomark _))))) pe_non (pe_callB call_len_seq (by rfl) T.m_len PySem.boot_len (pa_cons (pv 2) pa_nil))))) -- return None if kinds != [] and pieces[-1] == '' else len(lines)
      ))) , ?_⟩
    obtain ⟨pl1, pl2, pl3⟩ := split_len (x := z) (y := nlS) (by rw [tl_nl]; simp) nl_kind
    unfold dueM at q
    refine ⟨.str z, rfl, ⟨_, rfl⟩, z, nlS, rfl, rfl, by rfl, by omega, fun pl npl => ?_⟩
    generalize Txt.split z nlS = ps at *
    have s1 := same_new (o := .lst (ps.map V.str)) npl
    have hpl : (upd H pl (.lst (ps.map V.str))) pl = some (.lst (ps.map V.str)) := upd_same
    generalize upd H pl (.lst (ps.map V.str)) = H1 at *
    refine ⟨fun σ H' => ∃ ll kl rl y6 y7 y8, σ = [some (.str z), some (.ref pl), some (.ref ll), some (.ref kl), some (.ref rl), some (.int 0), y6, y7, y8] ∧ Same H1 H' ∧ H' ll = some (.lst (ps.dropLast.map V.str)) ∧ DInv H H' kl rl 0 ⟨0, [], []⟩ ∧ ll ≠ kl ∧ ll ≠ rl ∧ H1 kl = none ∧ H1 rl = none, ?_, ?_⟩
    · refine ⟨.ref pl, rfl, 1, rfl, -1, rfl, pl, _, rfl, SqL.of hpl, fun ll nll => ?_⟩
      have s2 := same_new (o := .lst (cutV (ps.map V.str) none (some (-1)))) nll
      have hll : (upd H1 ll (.lst (cutV (ps.map V.str) none (some (-1))))) ll = some (.lst (ps.dropLast.map V.str)) := by
        rw [upd_same, cutV_last, List.map_dropLast]
      generalize upd H1 ll (.lst (cutV (ps.map V.str) none (some (-1)))) = H2 at *
      refine ⟨by show 0 ≤ sizeLine; decide, fun kl nkl => ?_⟩
      have s3 := same_new (o := .lst []) nkl
      have hkl : (upd H2 kl (.lst [])) kl = some (.lst []) := upd_same
      generalize upd H2 kl (.lst []) = H3 at *
      refine ⟨by show 0 ≤ sizeLine; decide, fun rl nrl => ?_⟩
      have s4 := same_new (o := .lst []) nrl
      have hrl : (upd H3 rl (.lst [])) rl = some (.lst []) := upd_same
      generalize upd H3 rl (.lst []) = H4 at *
      refine ⟨by show 4 ≤ sizeLine; decide, fun tt ntt => ?_⟩
      have s5 := same_new (o := .tup [.ref ll, .ref kl, .ref rl, .int 0]) ntt
      have s15 := ((s2.trans s3).trans s4).trans s5
      refine ⟨tt, _, rfl, SqT.of upd_same, rfl, .ref ll, _, rfl, .ref kl, _, rfl, .ref rl, _, rfl, .int 0, [], rfl, rfl, ?_⟩
      exact ⟨ll, kl, rl, none, none, none, rfl, s15, s5 _ _ (s4 _ _ (s3 _ _ hll)), ⟨s1.free (s2.free nkl), s1.free (s2.free (s3.free nrl)), ne_of_none hkl nrl, s1.trans s15, ⟨[], s5 _ _ (s4 _ _ hkl), .nil⟩, ⟨[], s5 _ _ hrl, .nil⟩, .inr trivial, heldOk_nil, .inl rfl, Nat.zero_le _, Nat.zero_le _⟩, ne_of_none hll nkl, ne_of_none (s3 _ _ hll) nrl, s2.free nkl, s2.free (s3.free nrl)⟩
    rintro σ H2 ⟨ll, kl, rl, y6, y7, y8, rfl, s2, hll, D2, n1, n2, n3, n4⟩
    have n5 := ne_of_none hpl n3
    have n6 := ne_of_none hpl n4
    have hpl2 := s2 _ _ hpl
    clear s1 s2 hpl npl n3 n4
    have hls : ∀ x ∈ ps.dropLast, x.length ≤ 100000 := fun x hx => Nat.le_trans (pl3 x (List.dropLast_subset _ hx)) hz
    have hln : ps.dropLast.length ≤ 100000 := by rw [List.length_dropLast]; omega
    refine ⟨fun σ H' => ∃ st y6 y7 y8, σ = [some (.str z), some (.ref pl), some (.ref ll), some (.ref kl), some (.ref rl), some (.int st.m), y6, y7, y8] ∧ H' pl = some (.lst (ps.map V.str)) ∧ H' ll = some (.lst (ps.dropLast.map V.str)) ∧ DInv H H' kl rl ps.dropLast.length st ∧ dueL 0 ⟨0, [], []⟩ ps.dropLast = .inr st, ?_, ?_⟩
    · refine ⟨.ref ll, rfl, ll, _, rfl, SqL.of hll, ?_⟩
      generalize ps.dropLast = ls at *
      refine for_it (walk_enum (K := K) (a := ll) (xs := ls.map V.str)) (fun i σ H' => ∃ st y6 y7 y8, σ = [some (.str z), some (.ref pl), some (.ref ll), some (.ref kl), some (.ref rl), some (.int st.m), y6, y7, y8] ∧ H' pl = some (.lst (ps.map V.str)) ∧ H' ll = some (.lst (ls.map V.str)) ∧ DInv H H' kl rl i st ∧ dueL 0 ⟨0, [], []⟩ ls = dueL i st (ls.drop i)) ?_ ?_ ?_ ?_
      · exact ⟨_, y6, y7, y8, rfl, hpl2, hll, D2, rfl⟩
      · rintro i σ H' hi ⟨st, y6, y7, y8, rfl, _, h1, _⟩
        exact SqL.of h1
      · rintro i x σ H3 H4 hi ⟨st, y6, y7, y8, rfl, hpl3, hll3, D3, e3⟩ ⟨TT, x1, x2, rfl, nT, rfl, ex1, ex2⟩
        cases ex1
        have ex2 : (ls.map V.str)[i]? = some x2 := ex2
        rw [List.getElem?_map] at ex2
        obtain ⟨zi, hzi, rfl⟩ := Option.map_eq_some_iff.mp ex2
        have hi' : i < ls.length := (List.getElem?_eq_some_iff.mp hzi).1
        have edrop : ls.drop i = zi :: ls.drop (i + 1) := by
          rw [List.drop_eq_getElem_cons hi']
          congr 1
          exact (List.getElem?_eq_some_iff.mp hzi).2
        rw [edrop] at e3
        have e3 : dueL 0 ⟨0, [], []⟩ ls = match lineD i st (Txt.split zi spS) with | none => .inl i | some st' => dueL (i + 1) st' (ls.drop (i + 1)) := e3
        have lzi := hls zi (List.mem_of_getElem? hzi)
        obtain ⟨wl1, wl2, wl3⟩ := split_len (x := zi) (y := spS) (by rw [tl_sp]; simp) sp_kind
        have sT := same_new (o := .tup [.int (i : Int), .str zi]) nT
        refine ⟨TT, _, rfl, SqT.of upd_same, rfl, .int (i : Int), _, rfl, .str zi, [], rfl, rfl, ?_⟩
        refine ⟨.str zi, rfl, ⟨_, rfl⟩, zi, spS, rfl, rfl, by rfl, by omega, fun wl nwl => ?_⟩
        generalize Txt.split zi spS = ws at *
        have hwl : (upd (upd H3 TT (.tup [.int (i : Int), .str zi])) wl (.lst (ws.map V.str))) wl = some (.lst (ws.map V.str)) := upd_same
        have sW := sT.trans (same_new (o := .lst (ws.map V.str)) nwl)
        have hW : Words (upd (upd H3 TT (.tup [.int (i : Int), .str zi])) wl (.lst (ws.map V.str))) wl ws := ⟨hwl, by omega, fun x hx => Nat.le_trans (wl3 x hx) lzi⟩
        generalize upd (upd H3 TT (.tup [.int (i : Int), .str zi])) wl (.lst (ws.map V.str)) = H5 at *
        have D5 := D3.mono sW
        have hpl5 := sW _ _ hpl3
        have hll5 := sW _ _ hll3
        clear D3 hpl3 hll3 sW sT edrop hwl
        have ret : lineD i st ws = none → ∀ H', Same H H' → Q (.int (i : Int)) H' := fun en H' s' => by
          rw [en] at e3
          have := q H' s'
          rw [e3] at this
          exact this
        have go : ∀ st', lineD i st ws = some st' → dueL 0 ⟨0, [], []⟩ ls = dueL (i + 1) st' (ls.drop (i + 1)) := fun st' en => by
          rw [en] at e3
          exact e3
        refine ⟨.int (i : Int), rfl, rfl, _, rfl, ?_⟩
        rw [v_int]
        by_cases h0 : i = 0
        · subst h0
          have el : lineD 0 st ws = headD st (headOf ws) := if_pos rfl
          rw [el] at ret go
          rw [show decide (((0 : Nat) : Int) = 0) = true from rfl]
          refine iteT ?_
          refine ⟨fun σ H' => σ = [some (.str z), some (.ref pl), some (.ref ll), some (.ref kl), some (.ref rl), some (optV (headOf ws)), some (.int ((0 : Nat) : Int)), some (.str zi), some (.ref wl)] ∧ Same H5 H', ?_, ?_⟩
          · refine ⟨.ref wl, rfl, wl, _, rfl, .inl (SqL.of hW.1), rfl, _, rfl, ?_⟩
            rw [List.length_map, v_int]
            by_cases hl2 : (ws.length : Int) = 2
            · rw [decide_eq_true hl2]
              obtain ⟨w0, w1, rfl⟩ : ∃ w0 w1, ws = [w0, w1] := by
                match ws, hl2 with
                | [a, b], _ => exact ⟨a, b, rfl⟩
                | [], h => simp at h
                | [_], h => simp at h
                | _ :: _ :: _ :: r, h => simp only [List.length_cons] at h; omega
              refine iteT ⟨.ref wl, rfl, wl, _, 0, .str w0, rfl, rfl, SqL.of hW.1, atI_nat (j := 0) rfl, rfl, _, rfl, ?_⟩
              rw [v_eq]
              by_cases hw0 : w0 = woS
              · rw [decide_eq_true hw0]
                have eh : headOf [w0, w1] = whole w1 3 := if_pos hw0
                rw [eh]
                exact iteT ⟨.ref wl, rfl, wl, _, 1, .str w1, rfl, rfl, SqL.of hW.1, atI_nat (j := 1) rfl, w1, 3, rfl, hW.2.2 w1 (by simp), by decide, fun H6 s6 => ⟨rfl, s6⟩⟩
              · rw [decide_eq_false hw0, headOf_none (.inr fun e => hw0 (Option.some.inj e))]
                exact iteF ⟨rfl, Same.refl _⟩
            · rw [decide_eq_false hl2, headOf_none (.inl fun e => hl2 (by rw [e]; rfl))]
              exact iteF (iteF ⟨rfl, Same.refl _⟩)
          rintro σ H6 ⟨rfl, s6⟩
          have D6 := D5.mono s6
          cases eh : headOf ws with
          | none =>
            rw [eh] at ret
            exact ⟨.non, rfl, true, rfl, iteT (iteT ⟨.int ((0 : Nat) : Int), rfl, ret rfl _ D6.sm⟩)⟩
          | some m =>
            rw [eh] at ret go
            refine ⟨.int m, rfl, false, rfl, iteF ⟨.int m, rfl, rfl, _, rfl, ?_⟩⟩
            rw [v_int]
            by_cases hm : m = 0
            · rw [decide_eq_true hm]
              exact iteT ⟨.int ((0 : Nat) : Int), rfl, ret (if_pos hm) _ D6.sm⟩
            · rw [decide_eq_false hm]
              refine iteF ⟨⟨m, st.ks, st.rs⟩, _, _, _, rfl, s6 _ _ hpl5, s6 _ _ hll5, ⟨D6.kf, D6.rf, D6.ne, D6.sm, D6.k, D6.r, .inr trivial, D6.ho, .inr ?_, D6.ln, by have := D6.le; dsimp only; omega⟩, go _ (if_neg hm)⟩
              have : ∃ b, whole b 3 = some m := by
                unfold headOf at eh
                split at eh
                · split at eh
                  · exact ⟨_, eh⟩
                  · cases eh
                · cases eh
              obtain ⟨b, hb⟩ := this
              obtain ⟨b0, b1, _⟩ := whole_rng hb
              dsimp only
              omega
        · have el : lineD i st ws = if isStL st ws = true then kindD st (kindOf st.ks.isEmpty ws) else rankD st (if st.ks.isEmpty = true then none else ruleOf st.m st.ks ws) := if_neg h0
          rw [el] at ret go
          have hm13 : 1 ≤ st.m ∧ st.m ≤ 3 := by
            rcases D5.m with h | h
            · exact (h0 h).elim
            · exact h
          rw [decide_eq_false (show ¬ ((i : Nat) : Int) = 0 by omega)]
          refine iteF ?_
          obtain ⟨w0, hw0⟩ : ∃ w0, ws[0]? = some w0 := ⟨ws[0]'(by omega), List.getElem?_eq_getElem (by omega)⟩
          obtain ⟨us, hrl5, hus⟩ := D5.r
          obtain ⟨vs, hkl5, hvs⟩ := D5.k
          have lvs : vs.length = st.ks.length := hvs.msgs_len
          have evs : vs.isEmpty = st.ks.isEmpty := by rw [tds_empty hvs, List.isEmpty_map]
          have eus : us.isEmpty = st.rs.isEmpty := by rw [tds_empty hus, List.isEmpty_map]
          unfold L2.tIfS
          refine cutT (t := tAnd _ _) (isStL st ws) (fun Q' k' => ?_) (fun H6 s6 => ?_)
          · unfold isStL at k'
            refine ⟨.ref wl, rfl, wl, _, 0, .str w0, rfl, rfl, SqL.of hW.1, Words.at (i := 0) hw0, rfl, _, rfl, ?_⟩
            rw [v_eq]
            rw [hw0] at k'
            by_cases hs : w0 = stS
            · rw [decide_eq_true hs]
              rw [decide_eq_true (by rw [hs] : some w0 = some stS), Bool.true_and] at k'
              refine iteT ⟨.ref rl, rfl, by show 0 ≤ sizeLine; decide, fun e ne => ⟨rl, e, us, rfl, rfl, same_new ne _ _ hrl5, upd_same, _, rfl, ?_⟩⟩
              rw [eus]
              cases er : st.rs.isEmpty with
              | false =>
                rw [er] at k'
                exact iteF (k' _ (same_new ne))
              | true =>
                rw [er, Bool.true_and] at k'
                refine iteT ⟨.ref kl, rfl, kl, vs, rfl, .inl (SqL.of (same_new ne _ _ hkl5)), _, _, rfl, rfl, _, rfl, ?_⟩
                rw [lvs]
                have e6 : decide ((st.ks.length : Int) < 6) = decide (st.ks.length < 6) := by
                  by_cases h : st.ks.length < 6
                  · rw [decide_eq_true h, decide_eq_true (by omega)]
                  · rw [decide_eq_false h, decide_eq_false (by omega)]
                rw [e6]
                exact k' _ (same_new ne)
            · rw [decide_eq_false hs]
              rw [decide_eq_false (fun e => hs (Option.some.inj e) : ¬ some w0 = some stS), Bool.false_and] at k'
              exact iteF (k' _ (Same.refl _))
          have D6 := D5.mono s6
          have hkl6 := s6 _ _ hkl5
          have hrl6 := s6 _ _ hrl5
          have hvs6 := TDs.mono (Tups.same s6) _ hvs
          have hus6 := TDs.mono (Tups.same s6) _ hus
          have hW6 := hW.mono s6
          have hpl6 := s6 _ _ hpl5
          have hll6 := s6 _ _ hll5
          cases hb : isStL st ws with
          | true =>
            rw [hb, if_pos rfl] at ret go
            refine iteT ⟨.ref kl, rfl, .inl ⟨rfl, _, SqL.of hkl6⟩, .ref wl, rfl, .ref kl, rfl, by show 0 ≤ sizeLine; decide, fun e ne => ⟨kl, e, vs, rfl, rfl, same_new ne _ _ hkl6, upd_same, ?_⟩⟩
            have s7 := same_new (o := .lst []) ne
            generalize upd H6 e (.lst []) = H7 at *
            have l6 : st.ks.length < 6 := by
              unfold isStL at hb
              simp only [Bool.and_eq_true] at hb
              exact of_decide_eq_true hb.2.2
            have lsz : vs.length < sizeLine := by omega
            refine ⟨wl, ws, vs.isEmpty, rfl, hW6.mono s7, fun hn H8 s8 => ?_, fun v h hs t H8 s8 ht => ?_⟩
            · rw [evs] at hn
              rw [hn] at ret
              have s68 := s7.trans s8
              refine ⟨kl, vs, .non, rfl, rfl, s68 _ _ hkl6, lsz, .ref kl, rfl, 1, rfl, kl, vs ++ [.non], -1, .non, rfl, rfl, SqL.of upd_same, L2.atI_last _ _, true, rfl, iteT ⟨.int (i : Int), rfl, ret rfl _ ?_⟩⟩
              exact put_same D5.kf (D6.sm.trans s68)
            · rw [evs] at hs
              rw [hs] at go
              have s68 := s7.trans s8
              obtain ⟨v0, v3, h0', h3', _⟩ := kindOf_rng hs
              have hk8 := s68 _ _ hkl6
              refine ⟨kl, vs, .ref t, rfl, rfl, hk8, lsz, .ref kl, rfl, 1, rfl, kl, vs ++ [.ref t], -1, .ref t, rfl, rfl, SqL.of upd_same, L2.atI_last _ _, false, rfl, iteF ?_⟩
              have tp := Tups.lst (o := .lst (vs ++ [.ref t])) hk8
              refine ⟨⟨st.m, st.ks ++ [(v, h)], st.rs⟩, _, _, _, rfl, ?_, ?_, ⟨D6.kf, D6.rf, D6.ne, put_same D5.kf (D6.sm.trans s68), ⟨_, upd_same, ?_⟩, ⟨us, ?_, TDs.mono tp _ (TDs.mono (Tups.same s68) _ hus6)⟩, .inr trivial, heldOk_snoc D6.ho h0' h3', .inr hm13, ?_, by have := D6.le; dsimp only; omega⟩, go _ rfl⟩
              · rw [upd_ne n5]
                exact s68 _ _ hpl6
              · rw [upd_ne n1]
                exact s68 _ _ hll6
              · dsimp only
                rw [List.map_append]
                exact TDs.app (TDs.mono tp _ (TDs.mono (Tups.same s68) _ hvs6)) (.cons (.tup (tp _ _ ht) (.cons (.int _) (.cons (.int _) .nil))) .nil)
              · rw [upd_ne (Ne.symm D6.ne)]
                exact s68 _ _ hrl6
              · dsimp only
                rw [List.length_append]
                show st.ks.length + 1 ≤ 6
                omega
          | false =>
            rw [hb, if_neg (by decide)] at ret go
            have lur : us.length = st.rs.length := by rw [hus.length, List.length_map]
            have lsz : us.length < sizeLine := by have := D6.le; omega
            generalize ho : (if st.ks.isEmpty = true then none else ruleOf st.m st.ks ws) = o at *
            refine iteF ⟨.ref rl, rfl, .inl ⟨rfl, _, SqL.of hrl6⟩, ?_⟩
            unfold L2.tCons
            refine cutE (t := tIf _ _ _) (fun v H' => Same H6 H' ∧ ((o = none ∧ v = .non) ∨ ∃ r t, o = some r ∧ v = .ref t ∧ H' t = some (.tup ((rkL r).map V.int)))) (fun Q' k' => ?_) (fun v H8 hv => ?_)
            · refine ⟨.ref kl, rfl, by show 0 ≤ sizeLine; decide, fun e ne => ⟨kl, e, vs, rfl, rfl, same_new ne _ _ hkl6, upd_same, _, rfl, ?_⟩⟩
              have s7 := same_new (o := .lst []) ne
              generalize upd H6 e (.lst []) = H7 at *
              rw [evs]
              cases eke : st.ks.isEmpty with
              | true =>
                rw [eke, if_pos rfl] at ho
                exact iteF (k' _ _ ⟨s7, .inl ⟨ho.symm, rfl⟩⟩)
              | false =>
                rw [eke, if_neg (by decide)] at ho
                refine iteT ⟨.ref wl, rfl, .int st.m, rfl, .ref kl, rfl, wl, kl, ws, st.m, st.ks, rfl, hW6.mono s7, hm13.1, hm13.2, D6.k.mono s7, D6.ln, D6.ho, fun hn H8 s8 => ?_, fun a b c hs t H8 s8 ht => ?_⟩
                · exact k' _ _ ⟨s7.trans s8, .inl ⟨ho.symm.trans hn, rfl⟩⟩
                · exact k' _ _ ⟨s7.trans s8, .inr ⟨(a, b, c), t, ho.symm.trans hs, rfl, ht⟩⟩
            · obtain ⟨s8, hv⟩ := hv
              have hr8 := s8 _ _ hrl6
              rcases hv with ⟨eo, rfl⟩ | ⟨r, t, eo, rfl, ht⟩
              · subst eo
                refine ⟨rl, us, .non, rfl, rfl, hr8, lsz, .ref rl, rfl, 1, rfl, rl, us ++ [.non], -1, .non, rfl, rfl, SqL.of upd_same, L2.atI_last _ _, true, rfl, iteT (iteT ⟨.int (i : Int), rfl, ret rfl _ (put_same D5.rf (D6.sm.trans s8))⟩)⟩
              · subst eo
                have tp := Tups.lst (o := .lst (us ++ [.ref t])) hr8
                refine ⟨rl, us, .ref t, rfl, rfl, hr8, lsz, .ref rl, rfl, 1, rfl, rl, us ++ [.ref t], -1, .ref t, rfl, rfl, SqL.of upd_same, L2.atI_last _ _, false, rfl, iteF ?_⟩
                have hr9 : (upd H8 rl (.lst (us ++ [.ref t]))) rl = some (.lst (us ++ [.ref t])) := upd_same
                have ht9 := tp _ _ ht
                have hpl9 : (upd H8 rl (.lst (us ++ [.ref t]))) pl = some (.lst (ps.map V.str)) := by rw [upd_ne n6]; exact s8 _ _ hpl6
                have hll9 : (upd H8 rl (.lst (us ++ [.ref t]))) ll = some (.lst (ls.map V.str)) := by rw [upd_ne n2]; exact s8 _ _ hll6
                have hkl9 : (upd H8 rl (.lst (us ++ [.ref t]))) kl = some (.lst vs) := by rw [upd_ne D6.ne]; exact s8 _ _ hkl6
                have hvs9 := TDs.mono tp _ (TDs.mono (Tups.same s8) _ hvs6)
                have hus9 := TDs.mono tp _ (TDs.mono (Tups.same s8) _ hus6)
                have s09 := put_same (o := .lst (us ++ [.ref t])) D5.rf (D6.sm.trans s8)
                generalize upd H8 rl (.lst (us ++ [.ref t])) = H9 at *
                refine ⟨.ref rl, rfl, 1, rfl, -1, rfl, rl, _, rfl, SqL.of hr9, fun sl nsl => ⟨by show 0 ≤ sizeLine; decide, fun e ne => ⟨sl, e, us, rfl, rfl, ?_, upd_same, _, rfl, ?_⟩⟩⟩
                · refine same_new ne _ _ ?_
                  rw [upd_same, cutV_last, List.dropLast_concat]
                have s10 := (same_new (o := .lst (cutV (us ++ [.ref t]) none (some (-1)))) nsl).trans (same_new (o := .lst []) ne)
                generalize upd (upd H9 sl (.lst (cutV (us ++ [.ref t]) none (some (-1))))) e (.lst []) = H10 at *
                have hD : ∀ H', Same H10 H' → DInv H H' kl rl (i + 1) ⟨st.m, st.ks, st.rs ++ [r]⟩ := fun H' s' => by
                  have s11 := s10.trans s'
                  refine ⟨D6.kf, D6.rf, D6.ne, s09.trans s11, ⟨vs, s11 _ _ hkl9, TDs.mono (Tups.same s11) _ hvs9⟩, ⟨_, s11 _ _ hr9, ?_⟩, .inr trivial, D6.ho, .inr hm13, D6.ln, ?_⟩
                  · dsimp only
                    rw [List.map_append]
                    exact TDs.app (TDs.mono (Tups.same s11) _ hus9) (.cons (.tup (s11 _ _ ht9) TDs.ofInts) .nil)
                  · dsimp only
                    rw [List.length_append]
                    have := D6.le
                    show st.rs.length + 1 ≤ i + 1
                    omega
                rcases List.eq_nil_or_concat st.rs with ers | ⟨rs', l, ers⟩
                · have eu : us.isEmpty = true := by rw [eus, ers]; rfl
                  rw [eu]
                  have e2 : rankD st (some r) = some ⟨st.m, st.ks, st.rs ++ [r]⟩ := by
                    unfold rankD
                    rw [ers]
                    rfl
                  exact iteF (iteF ⟨⟨st.m, st.ks, st.rs ++ [r]⟩, _, _, _, rfl, s10 _ _ hpl9, s10 _ _ hll9, hD _ (Same.refl _), go _ e2⟩)
                · rw [List.concat_eq_append] at ers
                  rw [ers, List.map_append] at hus9
                  obtain ⟨us', u, eu, _, hu⟩ := tds_snoc_inv hus9
                  obtain ⟨tu, rfl, htu⟩ := td_rk hu
                  have eu2 : us.isEmpty = false := by rw [eus, ers]; cases rs' <;> rfl
                  rw [eu2]
                  have e2 : rankD st (some r) = if leR3 r l = true then none else some ⟨st.m, st.ks, st.rs ++ [r]⟩ := by
                    unfold rankD
                    rw [ers, List.getLast?_concat]
                  rw [e2] at ret go
                  refine iteT ⟨.ref rl, rfl, 1, rfl, rl, us ++ [.ref t], -1, .ref t, rfl, rfl, SqL.of (s10 _ _ hr9), L2.atI_last _ _, .ref rl, rfl, 2, rfl, rl, us ++ [.ref t], -2, .ref tu, rfl, rfl, SqL.of (s10 _ _ hr9), ?_, t, tu, rkL r, rkL l, rfl, rfl, SqT.of (s10 _ _ ht9), SqT.of (s10 _ _ htu), _, rfl, ?_⟩
                  · rw [eu, List.append_assoc]
                    exact atI_pre _ _ _
                  show if leR3 r l = true then _ else _
                  cases hle : leR3 r l with
                  | true => exact iteT ⟨.int (i : Int), rfl, ret (if_pos hle) _ (s09.trans s10)⟩
                  | false => exact iteF ⟨⟨st.m, st.ks, st.rs ++ [r]⟩, _, _, _, rfl, s10 _ _ hpl9, s10 _ _ hll9, hD _ (Same.refl _), go _ (if_neg (fun z => by rw [hle] at z; cases z))⟩
      · rintro σ H' ⟨st, y6, y7, y8, rfl, h1, h2, h3, h4⟩
        rw [List.length_map] at h3 h4
        rw [List.drop_length] at h4
        exact ⟨st, y6, y7, y8, rfl, h1, h2, h3, h4⟩
    rintro σ H3 ⟨st, y6, y7, y8, rfl, hpl3, hll3, D3, e3⟩
    rw [e3] at q
    obtain ⟨vs, hkl3, hvs⟩ := D3.k
    have evs : vs.isEmpty = st.ks.isEmpty := by rw [tds_empty hvs, List.isEmpty_map]
    obtain ⟨zl, hzl⟩ : ∃ zl, ps.getLast? = some zl := by
      cases e : ps.getLast? with
      | some zl => exact ⟨zl, rfl⟩
      | none =>
        rw [List.getLast?_eq_none_iff] at e
        rw [e] at pl2
        exact absurd pl2 (by decide)
    refine ⟨.ref kl, rfl, by show 0 ≤ sizeLine; decide, fun e ne => ⟨kl, e, vs, rfl, rfl, same_new ne _ _ hkl3, upd_same, _, rfl, ?_⟩⟩
    have s4 := same_new (o := .lst []) ne
    have hll4 := s4 _ _ hll3
    have hpl4 := s4 _ _ hpl3
    have q := q _ (D3.sm.trans s4)
    generalize upd H3 e (.lst []) = H4 at *
    rw [evs]
    have eD : dueE ps (.inr st) = if st.ks.isEmpty = false ∧ ps.getLast? = some Str.empty then none else some ps.dropLast.length := rfl
    rw [eD] at q
    cases ek : st.ks.isEmpty with
    | true =>
      rw [ek, if_neg (fun z => by cases z.1)] at q
      refine iteF (iteF ⟨.ref ll, rfl, ll, _, rfl, .inl (SqL.of hll4), ?_⟩)
      rw [List.length_map]
      exact q
    | false =>
      obtain ⟨ps', rfl⟩ : ∃ ps', ps = ps' ++ [zl] := by
        rcases List.eq_nil_or_concat ps with e | ⟨a, b, e⟩
        · rw [e] at pl2
          exact absurd pl2 (by decide)
        · rw [List.concat_eq_append] at e
          rw [e, List.getLast?_concat] at hzl
          cases hzl
          exact ⟨a, e⟩
      refine iteT ⟨.ref pl, rfl, 1, rfl, pl, _, -1, .str zl, rfl, rfl, SqL.of hpl4, by rw [List.map_append]; exact L2.atI_last _ _, rfl, _, rfl, ?_⟩
      rw [v_eq]
      rw [ek, hzl] at q
      by_cases hz0 : zl = Str.empty
      · rw [decide_eq_true (show zl = Str.ofString "" from hz0)]
        rw [if_pos ⟨rfl, by rw [hz0]⟩] at q
        exact iteT q
      · rw [decide_eq_false (show ¬ zl = Str.ofString "" from hz0)]
        rw [if_neg (fun z => hz0 (Option.some.inj z.2))] at q
        refine iteF ⟨.ref ll, rfl, ll, _, rfl, .inl (SqL.of hll4), ?_⟩
        rw [List.length_map]
        exact q
end

open TL
/-! ### the law's reader and the program's -/
theorem digK_inl {z : Str} {i : Int} : digK z = .inl i ↔ wordVal (tl z) = some i := by
  unfold digK
  rw [digits_word]
  cases wordVal (tl z) with
  | none => exact ⟨fun h => (by cases h), fun h => (by cases h)⟩
  | some k => exact ⟨fun h => (by cases h; rfl), fun h => (by cases h; rfl)⟩
theorem digK_back (z : Str) : keyS (digK z) = z := by
  unfold digK
  rw [digits_word]
  cases e : wordVal (tl z) with
  | none => rfl
  | some k =>
    obtain ⟨c, ec, c0, c1, ek⟩ := wordVal_some e
    show dgS k = z
    refine ext_tl ?_
    rw [tl_dg (by omega) (by omega), ec]
    congr 1
    omega
theorem digK_inj {a b : Str} (h : digK a = digK b) : a = b := by rw [← digK_back a, h, digK_back b]
theorem digK_is {z x : Str} (hx : digK x = .inr x) : digK z = .inr x ↔ z = x := ⟨fun h => digK_inj (h.trans hx.symm), fun h => h ▸ hx⟩
theorem whole_iff {z : Str} {most i : Int} : whole z most = some i ↔ digK z = .inl i ∧ i ≤ most := by
  rw [digK_inl]
  unfold whole
  cases wordVal (tl z) with
  | none => exact ⟨fun h => (by cases h), fun h => (by cases h.1)⟩
  | some k =>
    show (if k ≤ most then some k else none) = some i ↔ _
    constructor
    · intro h
      split at h
      · cases h
        exact ⟨rfl, by assumption⟩
      · cases h
    · rintro ⟨h1, h2⟩
      cases h1
      rw [if_pos h2]
theorem digK_rng {z : Str} {i : Int} (h : digK z = .inl i) : 0 ≤ i ∧ i ≤ 5 := by
  obtain ⟨c, _, c0, c1, e⟩ := wordVal_some (digK_inl.mp h)
  omega
theorem kindOf_iff {first : Bool} {ws : List Str} {v h : Int} : kindOf first ws = some (v, h) ↔ ∃ b c, ws = [stS, b, c] ∧ whole b 3 = some v ∧ whole c (if first = true then 0 else 3) = some h := by
  constructor
  · intro e
    unfold kindOf at e
    split at e
    · rename_i a b c
      split at e
      · rename_i ha
        obtain ⟨e1, e2⟩ := both_some e
        exact ⟨b, c, by rw [ha], e1, e2⟩
      · cases e
    · cases e
  · rintro ⟨b, c, rfl, e1, e2⟩
    show (if stS = stS then both (whole b 3) (whole c (if first = true then 0 else 3)) else none) = _
    rw [if_pos rfl, e1, e2]
    rfl
theorem mem_good {h : Int} (h3 : h ≤ 3) {t x : Str} : x ∈ goodS h t ↔ SrcAt h (digK t) (digK x) := by
  unfold goodS SrcAt
  rw [List.mem_append, List.mem_map, digK_is digK_value, digK_is digK_new]
  constructor
  · rintro (⟨n, hn, rfl⟩ | hx)
    · have hn := List.mem_range.mp hn
      exact .inl ⟨(n : Int), digK_dg (by omega) (by omega), by omega, by omega⟩
    · split at hx
      · exact .inr ⟨List.mem_singleton.mp hx, by assumption⟩
      · cases hx
  · rintro (⟨n, e, n0, n1⟩ | ⟨rfl, rfl⟩)
    · refine .inl ⟨n.toNat, List.mem_range.mpr (by omega), ?_⟩
      rw [← digK_back x, e]
      show dgS ((n.toNat : Nat) : Int) = dgS n
      congr 1
      omega
    · refine .inr ?_
      rw [if_pos rfl]
      exact List.mem_cons_self
theorem srcs_iff {h m : Int} (h3 : h ≤ 3) {t : Str} {src : List Str} : srcsM src h t m = true ↔ SrcOk h (digK t) m (src.map digK) := by
  unfold srcsM
  rw [Bool.and_eq_true, Bool.and_eq_true, decide_eq_true_iff, decide_eq_true_iff, decide_eq_true_iff]
  constructor
  · rintro ⟨a, b, c⟩
    refine ⟨by rw [List.length_map]; exact a, List.pairwise_map.mpr (b.imp fun {x y} ne e => ne (digK_inj e)), fun k hk => ?_⟩
    obtain ⟨x, hx, rfl⟩ := List.mem_map.mp hk
    exact (mem_good h3).mp (c x hx)
  · rintro ⟨a, b, c⟩
    refine ⟨by rw [List.length_map] at a; exact a, (List.pairwise_map.mp b).imp fun {x y} ne e => ne (by rw [e]), fun x hx => (mem_good h3).mpr (c _ (List.mem_map.mpr ⟨x, hx, rfl⟩))⟩
def thirdK : Key → Int
  | .inl n => n
  | .inr _ => 9
theorem tRank_iff {h : Int} (h0 : 0 ≤ h) {t : Str} {r : Int} : tRank h t = some r ↔ TestOk h (digK t) ∧ r = thirdK (digK t) := by
  unfold tRank TestOk
  constructor
  · intro e
    split at e
    · rename_i ht
      cases e
      rw [ht]
      exact ⟨.inr digK_new, by rw [digK_new]; rfl⟩
    · split at e
      · cases e
      · obtain ⟨e1, e2⟩ := whole_iff.mp e
        obtain ⟨r0, _⟩ := digK_rng e1
        rw [e1]
        exact ⟨.inl ⟨r, rfl, r0, by omega⟩, rfl⟩
  · rintro ⟨⟨n, e, n0, n1⟩ | e, rfl⟩
    · have hne : t ≠ neS := fun z => by
        rw [z, digK_new] at e
        cases e
      rw [if_neg hne, if_neg (by omega), e]
      exact whole_iff.mpr ⟨e, by show n ≤ h - 1; omega⟩
    · rw [if_pos ((digK_is digK_new).mp e), e]
      rfl
def rk3 (k : List Key) : Rk3 := match rank9 k with
  | [a, b, c] => (a, b, c)
  | _ => (0, 0, 0)
theorem rkL_rk3 (k : List Key) : rkL (rk3 k) = rank9 k := by
  have h := rank9_len k
  unfold rk3
  match e : rank9 k, h with
  | [a, b, c], _ => rfl
theorem rk3_key (s w : Int) (t : Key) : rk3 [.inl s, .inl w, t] = (s, w, thirdK t) := by
  cases t <;> rfl
theorem leR3_iff (a b : Rk3) : leR3 a b = true ↔ rkL a ≤ rkL b := by
  obtain ⟨a1, a2, a3⟩ := a
  obtain ⟨b1, b2, b3⟩ := b
  show _ ↔ [a1, a2, a3] ≤ [b1, b2, b3]
  rw [le3]
  show (if decide (a1 = b1) = true then (if decide (a2 = b2) = true then (if decide (a3 = b3) = true then decide (3 ≤ 3) else decide (a3 ≤ b3)) else decide (a2 ≤ b2)) else decide (a1 ≤ b1)) = true ↔ _
  simp only [decide_eq_true_eq]
  by_cases h1 : a1 = b1
  · rw [if_pos h1]
    by_cases h2 : a2 = b2
    · rw [if_pos h2]
      by_cases h3 : a3 = b3
      · rw [if_pos h3]
        simp
        omega
      · rw [if_neg h3]
        simp only [decide_eq_true_eq]
        omega
    · rw [if_neg h2]
      simp only [decide_eq_true_eq]
      omega
  · rw [if_neg h1]
    simp only [decide_eq_true_eq]
    omega
theorem map_head {α β : Type} {f : α → β} {l : List α} {b : β} {r : List β} (h : l.map f = b :: r) : ∃ a l', l = a :: l' ∧ f a = b ∧ l'.map f = r := by
  cases l with
  | nil => cases h
  | cons a l =>
    injection h with h1 h2
    exact ⟨a, l, rfl, h1, h2⟩
theorem rule_link {many : Int} {ks : List (Int × Int)} (ho : HeldOk ks) {ws : List Str} {rk : Rk3} :
    ruleOf many ks ws = some rk ↔ ∃ (s w : Int) (t : Key) (g : Int) (src : List Key), ws.map digK = kRu :: .inl s :: .inl w :: t :: .inl g :: src ∧ RuleOk many ks ([.inl s, .inl w, t], g, src) ∧ rk = rk3 [.inl s, .inl w, t] := by
  constructor
  · intro e
    unfold ruleOf at e
    split at e
    · rename_i a s' wd t' g' src'
      split at e
      · rename_i ha
        cases e1 : whole s' ((ks.length : Int) - 1) with
        | none => rw [e1] at e; cases e
        | some i =>
        cases e2 : whole wd (many - 1) with
        | none => rw [e1, e2] at e; cases e
        | some j =>
        cases e3 : whole g' ((ks.length : Int) - 1) with
        | none => rw [e1, e2, e3] at e; cases e
        | some g =>
        rw [e1, e2, e3] at e
        have e : rankIf (srcsM src' (heldAt ks i) t' (heldAt ks g)) i j (tRank (heldAt ks i) t') = some rk := e
        cases e4 : tRank (heldAt ks i) t' with
        | none => rw [e4] at e; cases e
        | some r =>
        rw [e4] at e
        have e : (if srcsM src' (heldAt ks i) t' (heldAt ks g) = true then some (i, j, r) else none) = some rk := e
        split at e
        · rename_i e5
          cases e
          obtain ⟨d1, m1⟩ := whole_iff.mp e1
          obtain ⟨d2, m2⟩ := whole_iff.mp e2
          obtain ⟨d3, m3⟩ := whole_iff.mp e3
          obtain ⟨d4, m4⟩ := (tRank_iff (ho i).1).mp e4
          have d5 := (srcs_iff (ho i).2).mp e5
          refine ⟨i, j, digK t', g, src'.map digK, ?_, ⟨i, j, digK t', rfl, (digK_rng d1).1, by omega, (digK_rng d2).1, by omega, d4, (digK_rng d3).1, by dsimp only; omega, d5⟩, ?_⟩
          · rw [List.map_cons, List.map_cons, List.map_cons, List.map_cons, List.map_cons, d1, d2, d3, ha, digK_rule]
          · rw [rk3_key, m4]
        · cases e
      · cases e
    · cases e
  · rintro ⟨s, w, t, g, src, e, ⟨i, j, t0, ek, i0, i1, j0, j1, ht, g0, g1, hs⟩, rfl⟩
    cases ek
    obtain ⟨a, r1, rfl, ea, e⟩ := map_head e
    obtain ⟨s', r2, rfl, es, e⟩ := map_head e
    obtain ⟨wd, r3, rfl, ew, e⟩ := map_head e
    obtain ⟨t', r4, rfl, et, e⟩ := map_head e
    obtain ⟨g', src', rfl, eg, e5⟩ := map_head e
    subst e5
    subst et
    have ha := (digK_is digK_rule).mp ea
    show (if a = ruS then _ else _) = _
    rw [if_pos ha, whole_iff.mpr ⟨es, by omega⟩, whole_iff.mpr ⟨ew, by omega⟩, whole_iff.mpr ⟨eg, by dsimp only at g1; omega⟩]
    show rankIf (srcsM src' (heldAt ks s) t' (heldAt ks g)) s w (tRank (heldAt ks s) t') = _
    rw [(tRank_iff (ho s).1).mpr ⟨ht, rfl⟩, (srcs_iff (ho s).2).mpr hs, rk3_key]
    rfl

open TL
/-! ### both come to the same -/
def Strict (K : List (List Key)) : Prop := K.Pairwise fun a b => ¬ rank9 b ≤ rank9 a
theorem last_all {K : List (List Key)} {k : List Key} (st : Strict K) (h : ∀ l, K.getLast? = some l → ¬ rank9 k ≤ rank9 l) : ∀ a ∈ K, ¬ rank9 k ≤ rank9 a := by
  rcases List.eq_nil_or_concat K with e | ⟨K', l, e⟩
  · rw [e]
    exact fun a ha => by cases ha
  · rw [List.concat_eq_append] at e
    subst e
    have hl := h l List.getLast?_concat
    intro a ha
    rcases List.mem_append.mp ha with z | z
    · intro q
      have hp := (List.pairwise_append.mp st).2.2 a z l List.mem_cons_self
      rcases list_le_total (rank9 a) (rank9 l) with t | t
      · exact hl (List.le_trans q t)
      · exact hp t
    · rw [List.mem_singleton.mp z]
      exact hl
theorem strict_snoc {K : List (List Key)} {k : List Key} (st : Strict K) (h : ∀ l, K.getLast? = some l → ¬ rank9 k ≤ rank9 l) : Strict (K ++ [k]) := by
  have ha := last_all st h
  refine List.pairwise_append.mpr ⟨st, List.pairwise_singleton _ _, fun a hm b hb => ?_⟩
  rw [List.mem_singleton.mp hb]
  exact ha a hm
theorem strict_le {K : List (List Key)} (hK : ∀ a ∈ K, KB a) (st : Strict K) : K.Pairwise fun a b => rankK a ≤ rankK b := by
  refine List.Pairwise.imp_of_mem (fun {a b} ha hb h => ?_) st
  rw [rank_le (hK a ha) (hK b hb)]
  rcases list_le_total (rank9 a) (rank9 b) with t | t
  · exact t
  · exact (h t).elim
theorem order_link {K : List (List Key)} {k : List Key} (hK : ∀ a ∈ K, KB a) (kb : KB k) (st : Strict K) :
    (k ∉ K ∧ (srt rankK (K ++ [k])).getLast? = some k) ↔ (∀ l, K.getLast? = some l → ¬ rank9 k ≤ rank9 l) := by
  constructor
  · rintro ⟨nk, la⟩ l hl q
    have hlK : l ∈ K := List.mem_of_getLast? hl
    have hm : l ∈ srt rankK (K ++ [k]) := srt_mem.mpr (List.mem_append_left _ hlK)
    have pw := srt_pw rankK (K ++ [k])
    rcases List.eq_nil_or_concat (srt rankK (K ++ [k])) with e | ⟨S, x, e⟩
    · rw [e] at la
      cases la
    · rw [List.concat_eq_append] at e
      rw [e, List.getLast?_concat] at la
      cases la
      rw [e] at hm pw
      rcases List.mem_append.mp hm with z | z
      · have := (List.pairwise_append.mp pw).2.2 l z k List.mem_cons_self
        rw [rank_le (hK l hlK) kb] at this
        exact nk (rank_anti (hK l hlK) kb this q ▸ hlK)
      · rw [List.mem_singleton.mp z] at hlK
        exact nk hlK
  · intro h
    have ha := last_all st h
    have st2 := strict_snoc st h
    refine ⟨fun z => ha k z (List.le_refl _), ?_⟩
    have hK2 : ∀ a ∈ K ++ [k], KB a := fun a hm => by
      rcases List.mem_append.mp hm with z | z
      · exact hK a z
      · rw [List.mem_singleton.mp z]
        exact kb
    rw [srt_sorted (strict_le hK2 st2)]
    exact List.getLast?_concat
def stOf (k : Nat) (P : Plan) : DSt := if k ≤ 1 then ⟨P.words, [], []⟩ else ⟨P.words, P.kinds, P.rules.map fun r => rk3 r.1⟩
theorem heldOk_of {P : Plan} (ok : PlanOk P) : HeldOk P.kinds := fun i => by
  refine ⟨?_, heldAt_le ok.k i⟩
  unfold heldAt
  cases e : P.kinds[i.toNat]? with
  | none => exact Int.le_refl 0
  | some m => exact (ok.k.all m (List.mem_of_getElem? e)).2.2.1
theorem kb_of {n : Int} {ks : List (Int × Int)} (hk : KindsOk ks) {r : PRule} (h : RuleOk n ks r) : KB r.1 := by
  obtain ⟨i, j, t, e, i0, i1, _, _, ht, _⟩ := h
  have hb := (held_bd hk i0 i1).2
  refine ⟨i, j, t, e, ?_⟩
  rcases ht with ⟨m, e2, m0, m1⟩ | e2
  · exact .inl ⟨m, e2, m0, by omega⟩
  · exact .inr e2
theorem kSt_ne : kRu ≠ kSt := by decide +kernel
theorem ne_first {ws : List Str} : (ws.map digK).head? = some kSt ↔ ws[0]? = some stS := by
  cases ws with
  | nil => exact ⟨fun h => (by cases h), fun h => (by cases h)⟩
  | cons a r =>
    show some (digK a) = some kSt ↔ some a = some stS
    constructor
    · intro h
      rw [(digK_is digK_state).mp (Option.some.inj h)]
    · intro h
      rw [Option.some.inj h, digK_state]
theorem step_link {P : Plan} (ok : PlanOk P) (st : Strict (P.rules.map (·.1))) {k : Nat} (k1 : 1 ≤ k) (h1 : k = 1 → P.rules = []) {ws : List Str} :
    (∀ P', ReadL P k (ws.map digK) P' → lineD k (stOf k P) ws = some (stOf (k + 1) P') ∧ Strict (P'.rules.map (·.1))) ∧ (lineD k (stOf k P) ws ≠ none → ∃ P', ReadL P k (ws.map digK) P') := by
  have el : ∀ s, lineD k s ws = if isStL s ws = true then kindD s (kindOf s.ks.isEmpty ws) else rankD s (if s.ks.isEmpty = true then none else ruleOf s.m s.ks ws) := fun s => if_neg (by omega)
  rw [el]
  by_cases hk : k = 1
  · subst hk
    have hr := h1 rfl
    have e1 : stOf 1 P = ⟨P.words, [], []⟩ := rfl
    rw [e1]
    have eI : isStL ⟨P.words, [], []⟩ ws = decide (ws[0]? = some stS) := by
      unfold isStL
      show (_ && (true && decide (0 < 6))) = _
      simp
    rw [eI]
    constructor
    · rintro P' (⟨_, v, e, v0, v3, rfl⟩ | ⟨z, _⟩ | ⟨z, _⟩)
      · have hh : ws[0]? = some stS := ne_first.mp (by rw [e]; rfl)
        rw [decide_eq_true hh, if_pos rfl]
        obtain ⟨a, r1, rfl, ea, e⟩ := map_head e
        obtain ⟨b, r2, rfl, eb, e⟩ := map_head e
        obtain ⟨c, r3, rfl, ec, e⟩ := map_head e
        cases List.map_eq_nil_iff.mp e
        have ea := (digK_is digK_state).mp ea
        subst ea
        have ek : kindOf true [stS, b, c] = some (v, 0) := kindOf_iff.mpr ⟨b, c, rfl, whole_iff.mpr ⟨eb, v3⟩, whole_iff.mpr ⟨ec, Int.le_refl 0⟩⟩
        refine ⟨?_, List.Pairwise.nil⟩
        show kindD _ (kindOf true [stS, b, c]) = _
        rw [ek]
        rfl
      · exact (z rfl).elim
      · exact (z rfl).elim
    · intro h
      by_cases hh : ws[0]? = some stS
      · rw [decide_eq_true hh, if_pos rfl] at h
        cases ek : kindOf true ws with
        | none => exact (h (by show kindD _ (kindOf true ws) = _; rw [ek]; rfl)).elim
        | some q =>
          obtain ⟨v, hd⟩ := q
          obtain ⟨b, c, rfl, e2, e3⟩ := kindOf_iff.mp ek
          obtain ⟨d2, m2⟩ := whole_iff.mp e2
          obtain ⟨d3, m3⟩ := whole_iff.mp e3
          have z0 := (digK_rng d3).1
          have : hd = 0 := by rw [if_pos rfl] at m3; omega
          subst this
          exact ⟨_, .inl ⟨rfl, v, by rw [List.map_cons, List.map_cons, List.map_cons, d2, d3, digK_state]; rfl, (digK_rng d2).1, m2, rfl⟩⟩
      · rw [decide_eq_false hh, if_neg (by decide)] at h
        exact (h rfl).elim
  · have e1 : stOf k P = ⟨P.words, P.kinds, P.rules.map fun r => rk3 r.1⟩ := if_neg (by omega)
    rw [e1]
    have e2 : ∀ P', stOf (k + 1) P' = ⟨P'.words, P'.kinds, P'.rules.map fun r => rk3 r.1⟩ := fun P' => if_neg (by omega)
    have ekE : P.kinds.isEmpty = false := by
      have := ok.k.len.1
      cases h : P.kinds with
      | nil => rw [h] at this; exact absurd this (by decide)
      | cons => rfl
    have ho := heldOk_of ok
    have hKB : ∀ a ∈ P.rules.map (·.1), KB a := fun a ha => by
      obtain ⟨r, hr, rfl⟩ := List.mem_map.mp ha
      exact kb_of ok.k (ok.r r hr)
    have eI : isStL ⟨P.words, P.kinds, P.rules.map fun r => rk3 r.1⟩ ws = (decide (ws[0]? = some stS) && (P.rules.isEmpty && decide (P.kinds.length < 6))) := by
      unfold isStL
      rw [isEmpty_map']
    rw [eI]
    dsimp only
    rw [ekE, show (if false = true then (none : Option Rk3) else ruleOf P.words P.kinds ws) = ruleOf P.words P.kinds ws from rfl]
    have eG : (P.rules.map fun r => rk3 r.1).getLast? = (P.rules.map (·.1)).getLast?.map rk3 := by
      rw [List.getLast?_map, List.getLast?_map, Option.map_map]
      rfl
    constructor
    · rintro P' (⟨z, _⟩ | ⟨_, hh, p, v, h, e, hr, v0, v3, h0, h3, hl, rfl⟩ | ⟨_, hh, s, w, t, g, src, e, hok, hn, hla, rfl⟩)
      · exact (hk z).elim
      · have hs := ne_first.mp hh
        have eE : P.rules.isEmpty = true := by rw [hr]; rfl
        rw [decide_eq_true hs, eE, decide_eq_true hl, if_pos (by decide : (true && (true && true)) = true)]
        obtain ⟨a, r1, rfl, ea, e⟩ := map_head e
        obtain ⟨b, r2, rfl, eb, e⟩ := map_head e
        obtain ⟨c, r3, rfl, ec, e⟩ := map_head e
        cases List.map_eq_nil_iff.mp e
        have hs : a = stS := Option.some.inj hs
        subst hs
        have ek : kindOf false [stS, b, c] = some (v, h) := kindOf_iff.mpr ⟨b, c, rfl, whole_iff.mpr ⟨eb, v3⟩, whole_iff.mpr ⟨ec, by show h ≤ 3; exact h3⟩⟩
        rw [ek, e2]
        exact ⟨rfl, st⟩
      · have hs : ¬ ws[0]? = some stS := fun z => hh (ne_first.mpr z)
        rw [decide_eq_false hs, Bool.false_and, if_neg (by decide)]
        have er := (rule_link (many := P.words) ho (ws := ws) (rk := rk3 [.inl s, .inl w, t])).mpr ⟨s, w, t, g, src, e, hok, rfl⟩
        rw [er, e2]
        have ol := (order_link hKB (kb_of ok.k hok) st).mp ⟨hn, hla⟩
        refine ⟨?_, by rw [List.map_append]; exact strict_snoc st ol⟩
        unfold rankD
        dsimp only
        rw [eG]
        cases egl : (P.rules.map (·.1)).getLast? with
        | none =>
          rw [List.map_append]
          rfl
        | some l =>
          have hq := ol l egl
          show (if leR3 (rk3 [.inl s, .inl w, t]) (rk3 l) = true then none else _) = _
          rw [if_neg (fun z => hq (by
            have := (leR3_iff _ _).mp z
            rw [rkL_rk3, rkL_rk3] at this
            exact this)), List.map_append]
          rfl
    · intro h
      by_cases hs : ws[0]? = some stS
      · have hh : (ws.map digK).head? = some kSt := ne_first.mpr hs
        cases hb : (decide (ws[0]? = some stS) && (P.rules.isEmpty && decide (P.kinds.length < 6))) with
        | true =>
          rw [hb, if_pos rfl] at h
          rw [decide_eq_true hs, Bool.true_and, Bool.and_eq_true] at hb
          cases ek : kindOf false ws with
          | none => exact (h (by rw [ek]; rfl)).elim
          | some q =>
            obtain ⟨v, hd⟩ := q
            obtain ⟨b, c, rfl, e3, e4⟩ := kindOf_iff.mp ek
            obtain ⟨d2, m2⟩ := whole_iff.mp e3
            obtain ⟨d3, m3⟩ := whole_iff.mp e4
            have hr : P.rules = [] := List.isEmpty_iff.mp hb.1
            exact ⟨_, .inr (.inl ⟨hk, hh, digK stS, v, hd, by rw [List.map_cons, List.map_cons, List.map_cons, d2, d3]; rfl, hr, (digK_rng d2).1, m2, (digK_rng d3).1, m3, of_decide_eq_true hb.2, rfl⟩)⟩
        | false =>
          rw [hb, if_neg (by decide), ruleOf_none (.inr fun z => by rw [hs] at z; exact absurd (Option.some.inj z) (by decide +kernel))] at h
          exact (h rfl).elim
      · rw [decide_eq_false hs, Bool.false_and, if_neg (by decide)] at h
        have hh : (ws.map digK).head? ≠ some kSt := fun z => hs (ne_first.mp z)
        cases er : ruleOf P.words P.kinds ws with
        | none => rw [er] at h; exact (h rfl).elim
        | some rk =>
          rw [er] at h
          obtain ⟨s, w, t, g, src, e, hok, rfl⟩ := (rule_link ho).mp er
          have hl : ∀ l, (P.rules.map (·.1)).getLast? = some l → ¬ rank9 [.inl s, .inl w, t] ≤ rank9 l := fun l hl q => by
            refine h ?_
            unfold rankD
            dsimp only
            rw [eG, hl]
            show (if leR3 (rk3 [.inl s, .inl w, t]) (rk3 l) = true then none else _) = none
            rw [if_pos ((leR3_iff _ _).mpr (by rw [rkL_rk3, rkL_rk3]; exact q))]
          obtain ⟨hn, hla⟩ := (order_link hKB (kb_of ok.k hok) st).mpr hl
          exact ⟨_, .inr (.inr ⟨hk, hh, s, w, t, g, src, e, hok, hn, hla, rfl⟩)⟩

open TL
/-! ### whole texts -/
theorem dueL_app : ∀ (a b : List Str) (i : Nat) (st : DSt), dueL i st (a ++ b) = match dueL i st a with | .inl k => .inl k | .inr st' => dueL (i + a.length) st' b
  | [], b, i, st => rfl
  | z :: a, b, i, st => by
    show (match lineD i st (Txt.split z spS) with | none => (.inl i : Nat ⊕ DSt) | some st' => dueL (i + 1) st' (a ++ b)) = _
    cases e : lineD i st (Txt.split z spS) with
    | none =>
      have : dueL i st (z :: a) = .inl i := by
        show (match lineD i st (Txt.split z spS) with | none => (.inl i : Nat ⊕ DSt) | some st' => dueL (i + 1) st' a) = _
        rw [e]
      rw [this]
    | some st' =>
      have : dueL i st (z :: a) = dueL (i + 1) st' a := by
        show (match lineD i st (Txt.split z spS) with | none => (.inl i : Nat ⊕ DSt) | some st' => dueL (i + 1) st' a) = _
        rw [e]
      rw [this]
      show dueL (i + 1) st' (a ++ b) = _
      rw [dueL_app a b (i + 1) st', show i + 1 + a.length = i + (z :: a).length by rw [List.length_cons]; omega]
abbrev st0 : DSt := ⟨0, [], []⟩
theorem first_lits {z : Str} {n : Int} (h : litF lit_FIRST_LINES z = some n) : (z = Str.ofString "words 1" ∧ n = 1) ∨ (z = Str.ofString "words 2" ∧ n = 2) ∨ (z = Str.ofString "words 3" ∧ n = 3) := by
  unfold litF at h
  obtain ⟨p, hp, rfl⟩ := Option.map_eq_some_iff.mp h
  have h1 := List.mem_of_find?_eq_some hp
  have h2 := List.find?_some hp
  have h2 : p.1 = z := eq_of_beq h2
  unfold lit_FIRST_LINES at h1
  simp only [List.mem_cons, List.not_mem_nil, or_false] at h1
  rcases h1 with rfl | rfl | rfl
  · exact .inl ⟨h2.symm, rfl⟩
  · exact .inr (.inl ⟨h2.symm, rfl⟩)
  · exact .inr (.inr ⟨h2.symm, rfl⟩)
theorem first_words {z : Str} {n : Int} (h : litF lit_FIRST_LINES z = some n) : z = wordsL n := by
  rcases first_lits h with ⟨rfl, rfl⟩ | ⟨rfl, rfl⟩ | ⟨rfl, rfl⟩ <;> decide +kernel
theorem first_head {z : Str} {n : Int} (h : litF lit_FIRST_LINES z = some n) : headOf (Txt.split z spS) = some n := by
  rcases first_lits h with ⟨rfl, rfl⟩ | ⟨rfl, rfl⟩ | ⟨rfl, rfl⟩ <;> decide +kernel
theorem words_join {m : Int} (h1 : 1 ≤ m) (h3 : m ≤ 3) : Txt.join spS [woS, dgS m] = wordsL m := by
  have : m = 1 ∨ m = 2 ∨ m = 3 := by omega
  rcases this with rfl | rfl | rfl <;> decide +kernel
theorem join_parts (z : Str) : Txt.join spS (Txt.split z spS) = z := by
  rw [join_eq, PySem.StrLaws.join_split]
theorem first_none {z : Str} (h : litF lit_FIRST_LINES z = none) : lineD 0 st0 (Txt.split z spS) = none := by
  show headD st0 (headOf (Txt.split z spS)) = none
  cases e : headOf (Txt.split z spS) with
  | none => rfl
  | some m =>
    by_cases hm : m = 0
    · exact if_pos hm
    · exfalso
      have hj := join_parts z
      unfold headOf at e
      split at e
      · rename_i a b eab
        split at e
        · rename_i ha
          obtain ⟨d, m3⟩ := whole_iff.mp e
          have m0 := (digK_rng d).1
          have hb : b = dgS m := by
            have := digK_back b
            rw [d] at this
            exact this.symm
          rw [eab, ha, hb, words_join (by omega) m3] at hj
          rw [← hj, words_first (by omega) m3] at h
          cases h
        · cases e
      · cases e
theorem RdTo.len {ls : List Str} {k : Nat} {P : Plan} (r : RdTo ls k P) : k ≤ ls.length := by
  cases r with
  | zero h hn => exact (List.getElem?_eq_some_iff.mp h).1
  | step r h l => exact (List.getElem?_eq_some_iff.mp h).1
theorem dueL_to {ls : List Str} {k : Nat} {P : Plan} (r : RdTo ls k P) : dueL 0 st0 (ls.take k) = .inr (stOf k P) ∧ Strict (P.rules.map (·.1)) := by
  induction r with
  | @zero z n h hn =>
    refine ⟨?_, List.Pairwise.nil⟩
    have e : ls.take 1 = [z] := by
      rw [List.take_add_one, h]
      rfl
    rw [e]
    show (match lineD 0 st0 (Txt.split z spS) with | none => (.inl 0 : Nat ⊕ DSt) | some st' => .inr st') = _
    have : lineD 0 st0 (Txt.split z spS) = some ⟨n, [], []⟩ := by
      show headD st0 (headOf (Txt.split z spS)) = _
      rw [first_head hn]
      exact if_neg (by have := first_of hn; omega)
    rw [this]
    rfl
  | @step k z P P' r h l ih =>
    obtain ⟨ok, k1, h1⟩ := r.ok
    obtain ⟨e1, e2⟩ := (step_link ok ih.2 k1 (fun z => (h1 z).2) (ws := Txt.split z spS)).1 P' l
    refine ⟨?_, e2⟩
    have hk := (List.getElem?_eq_some_iff.mp h).1
    have e : ls.take (k + 1) = ls.take k ++ [z] := by
      rw [List.take_add_one, h]
      rfl
    rw [e, dueL_app, ih.1]
    show (match lineD (0 + (ls.take k).length) (stOf k P) (Txt.split z spS) with | none => (.inl _ : Nat ⊕ DSt) | some st' => .inr st') = _
    rw [List.length_take, Nat.min_eq_left (by omega), Nat.zero_add, e1]
theorem stOf_ks {k : Nat} (h : 2 ≤ k) {P : Plan} (ok : PlanOk P) : (stOf k P).ks.isEmpty = false := by
  have e : stOf k P = ⟨P.words, P.kinds, P.rules.map fun r => rk3 r.1⟩ := if_neg (by omega)
  rw [e]
  have := ok.k.len.1
  cases h : P.kinds with
  | nil => rw [h] at this; exact absurd this (by decide)
  | cons => rfl
theorem dueE_nil {ps : List Str} {st : DSt} (h : st.ks.isEmpty = true) : dueE ps (.inr st) = some ps.dropLast.length := if_neg (fun z => by rw [h] at z; cases z.1)
theorem due_parsed {z : Str} {P : Plan} (h : Parsed z P) : dueM z = none := by
  obtain ⟨ends, he, n0, n1, r, hl⟩ := h
  have eM : dueM z = dueE (Txt.split z nlS) (dueL 0 ⟨0, [], []⟩ (Txt.split z nlS).dropLast) := rfl
  rw [eM]
  generalize Txt.split z nlS = ls at *
  have ed : ls.dropLast = ls.take ends := by rw [List.dropLast_eq_take, he]; rfl
  rw [ed, (dueL_to r).1]
  refine if_pos ⟨stOf_ks (by omega) r.ok.1, ?_⟩
  rw [List.getLast?_eq_getElem?, he]
  exact hl
theorem due_err {z : Str} {k : Nat} (h : ParseErr z k) : dueM z = some k := by
  have eM : dueM z = dueE (Txt.split z nlS) (dueL 0 ⟨0, [], []⟩ (Txt.split z nlS).dropLast) := rfl
  rw [eM]
  cases h with
  | @first l h hn =>
    generalize Txt.split z nlS = ls at *
    cases ls with
    | nil => cases h
    | cons a r =>
      have ea : a = l := Option.some.inj h
      subst ea
      cases r with
      | nil => exact dueE_nil rfl
      | cons b r =>
        have : dueL 0 ⟨0, [], []⟩ (a :: b :: r).dropLast = .inl 0 := by
          rw [List.dropLast_cons₂]
          show (match lineD 0 st0 (Txt.split a spS) with | none => (.inl 0 : Nat ⊕ DSt) | some st' => _) = _
          rw [first_none hn]
        rw [this]
        rfl
  | @line k ends P l he hk r h no =>
    generalize Txt.split z nlS = ls at *
    obtain ⟨ok, k1, h1⟩ := r.ok
    obtain ⟨e1, st⟩ := dueL_to r
    have hn : lineD k (stOf k P) (Txt.split l spS) = none := by
      cases e : lineD k (stOf k P) (Txt.split l spS) with
      | none => rfl
      | some x => exact (no ((step_link ok st k1 (fun z => (h1 z).2) (ws := Txt.split l spS)).2 (by rw [e]; exact fun z => by cases z))).elim
    have ed : ls.dropLast = ls.take k ++ l :: (ls.dropLast.drop (k + 1)) := by
      have e2 : ls.dropLast[k]? = some l := by
        rw [List.dropLast_eq_take, List.getElem?_take_of_lt (by omega)]
        exact h
      have e3 : ls.dropLast.take k = ls.take k := by
        rw [List.dropLast_eq_take, List.take_take, Nat.min_eq_left (by omega)]
      have hk2 := (List.getElem?_eq_some_iff.mp e2).1
      conv => lhs; rw [← List.take_append_drop k ls.dropLast]
      rw [e3, List.drop_eq_getElem_cons hk2, (List.getElem?_eq_some_iff.mp e2).2]
    have : dueL 0 ⟨0, [], []⟩ ls.dropLast = .inl k := by
      rw [ed, dueL_app, e1]
      show (match lineD (0 + (ls.take k).length) (stOf k P) (Txt.split l spS) with | none => (.inl (0 + (ls.take k).length) : Nat ⊕ DSt) | some st' => _) = _
      rw [List.length_take, Nat.min_eq_left (by omega), Nat.zero_add, hn]
    rw [this]
    rfl
  | @end_ _ P he r h =>
    generalize Txt.split z nlS = ls at *
    have elen : ls.dropLast.length = k := by rw [List.length_dropLast, he]; rfl
    have ed : ls.dropLast = ls.take k := by rw [List.dropLast_eq_take, he]; rfl
    by_cases h2 : 2 ≤ k
    · rw [Nat.max_eq_right (by omega)] at r
      rw [ed, (dueL_to r).1]
      show (if _ ∧ _ then none else some ls.dropLast.length) = _
      rw [if_neg, elen]
      rintro ⟨_, q⟩
      rcases h with h | h
      · omega
      · rw [List.getLast?_eq_getElem?, he] at q
        exact h q
    · by_cases h0 : k = 0
      · subst h0
        have : ls.dropLast = [] := List.length_eq_zero_iff.mp elen
        have e2 : dueL 0 ⟨0, [], []⟩ ls.dropLast = .inr st0 := by rw [this]; rfl
        rw [e2, dueE_nil rfl, elen]
      · have : k = 1 := by omega
        subst this
        have r : RdTo ls 1 P := r
        rw [ed, (dueL_to r).1, dueE_nil rfl, elen]
/-- the lines of what has been read -/
theorem lines_to {ls : List Str} {k : Nat} {P : Plan} (r : RdTo ls k P) : ls.take k = if k ≤ 1 then [wordsL P.words] else linesOf P.words P.kinds P.rules := by
  induction r with
  | @zero z n h hn =>
    rw [List.take_add_one, h, first_words hn]
    rfl
  | @step k z P P' r h l ih =>
    obtain ⟨ok, k1, h1⟩ := r.ok
    have e : ls.take (k + 1) = ls.take k ++ [z] := by
      rw [List.take_add_one, h]
      rfl
    rw [e, ih, if_neg (by omega : ¬ k + 1 ≤ 1)]
    have hz := join_parts z
    have hw : ∀ {ps : List Key}, partsOf z = ps → z = Txt.join spS (ps.map keyS) := fun {ps} ep => by
      have : (partsOf z).map keyS = Txt.split z spS := by
        unfold partsOf
        rw [List.map_map]
        conv => rhs; rw [← List.map_id (Txt.split z spS)]
        exact List.map_congr_left fun p _ => digK_back p
      rw [← ep, this, hz]
    rcases l with ⟨e1, v, ep, v0, v3, rfl⟩ | ⟨ne, hh, p, v, hd, ep, hr, v0, v3, h0, h3, hl, rfl⟩ | ⟨ne, hh, s, w, t, g, src, ep, hok, hn, hla, rfl⟩
    · subst e1
      rw [if_pos (Nat.le_refl 1), hw ep]
      show [wordsL P.words] ++ [Txt.join spS [Str.ofString "state", dgS v, dgS 0]] = _
      rw [← state_join (v, 0)]
      rfl
    · rw [if_neg (by omega), hw ep]
      have hp : p = kSt := by
        rw [ep] at hh
        exact Option.some.inj hh
      subst hp
      show linesOf P.words P.kinds P.rules ++ [Txt.join spS [Str.ofString "state", dgS v, dgS hd]] = _
      rw [← state_join (v, hd), hr]
      unfold linesOf
      simp
    · rw [if_neg (by omega), hw ep]
      unfold linesOf
      rw [List.map_append]
      show (wordsL P.words :: (P.kinds.map stateL ++ P.rules.map ruleL)) ++ [ruleL ([.inl s, .inl w, t], g, src)] = _
      simp
theorem sortP_strict {R : List PRule} (hK : ∀ a ∈ R.map (·.1), KB a) (nd : (R.map (·.1)).Nodup) (st : Strict (R.map (·.1))) : sortP R = R := by
  unfold sortP
  rw [srt_sorted (strict_le hK st), List.map_map]
  conv => rhs; rw [← List.map_id R]
  refine List.map_congr_left fun r hr => ?_
  show (r.1, (lookP R r.1).getD (0, [])) = r
  rw [lookP_mem nd (v := r.2) hr]
  rfl
theorem page_back {z : Str} {P : Plan} (h : Parsed z P) : pageOf (linesOf P.words P.kinds (sortP P.rules)) = z := by
  obtain ⟨ends, he, n0, n1, r, hl⟩ := h
  obtain ⟨ok, _, _⟩ := r.ok
  have st := (dueL_to r).2
  have hK : ∀ a ∈ P.rules.map (·.1), KB a := fun a ha => by
    obtain ⟨x, hx, rfl⟩ := List.mem_map.mp ha
    exact kb_of ok.k (ok.r x hx)
  have el := lines_to r
  rw [if_neg (by omega)] at el
  rw [sortP_strict hK ok.nd st, page_join]
  have e : linesOf P.words P.kinds P.rules ++ [Str.empty] = Txt.split z nlS := by
    rw [← el]
    conv => rhs; rw [← List.take_append_drop ends (Txt.split z nlS)]
    congr 1
    rw [List.drop_eq_getElem_cons (by omega), List.drop_eq_nil_of_le (by omega), (List.getElem?_eq_some_iff.mp hl).2]
  rw [e, join_eq, PySem.StrLaws.join_split]

open TL
/-! ### what is raised -/
def sp_law_raised : Sp := fun us H Q _ => ∃ z : Str, us = [.str z] ∧ z.length ≤ 100000 ∧ ∀ H', Same H H' → Q (optN (dueM z)) H'
section
variable {P : Program} {w : World} {K : PySem.W.Frag} {mg : Str → Option Value} {base : Heap}
abbrev N_law_raised : List Str := ["text", "found", "tool", "e"]
theorem sc_law_raised : FnScope N_law_raised ["text"] (defScope s_law_raised) := ⟨rfl, rfl, rfl, by decide +kernel, rfl, by decide +kernel, by decide +kernel⟩
theorem G_law_raised (T : Tx K mg) (hw : T.pr = w.params) : FnG P w K mg base CX0 10 T.law_raised.f T.law_raised.fd ["text"] sp_law_raised := by
  refine okG T.law_raised.F sc_law_raised (fun vs H Q E h => ?_) (fun cdv A outer s H vs Q E gd hr h => ?_)
  · obtain ⟨z, rfl, _⟩ := h
    rfl
  · obtain ⟨z, rfl, hz, q⟩ := h
    have L5 := line5
    refine ⟨_,
      (pss_cons (ps_set (i := 1) sc_law_raised.nd rfl (.inl rfl) pe_non) -- found = None
      (pss_cons (ps_try_as (i := 3) (Wout := fun _ _ _ _ => False) rfl rfl sc_law_raised.nd rfl rfl ⟨rfl, by decide, Or.inl T.ParseError.e.T.gC⟩ takes0
        (fun W pn xe tk _ => pss_cons (ps_set (i := 2) sc_law_raised.nd rfl (.inl rfl) (by exact (pe_callGS (G_parse_watcher T hw) gd (hr.mono (by decide)) rfl T.parse_watcher.g T.parse_watcher.F.kp T.parse_watcher.b (fun σ => passAt tk σ) (pa_cons (pv 0) pa_nil)))) (pss_one (ps_set (i := 1) sc_law_raised.nd rfl (.inl rfl) (by exact (pe_ifExp (pt_cmpR op_eq (pe_callG (G_format_watcher T) gd (hr.mono (by decide)) rfl T.format_watcher.g T.format_watcher.F.kp T.format_watcher.b .nil pass0 (pa_cons (pv 2) pa_nil)) (pv 0) (nomark _)) pe_non pe_str)))))
        (fun a oe cls d pn hz hf => pss_one (ps_set (i := 1) sc_law_raised.nd rfl (.inl rfl) (by exact (L2.pe_byE T.ParseError.e hz hf (pv 3)))))) -- try
      (pss_one (ps_ret (pv 1))) -- return found
      )), ?_⟩
    refine ⟨.str z, rfl, z, rfl, hz, fun P' pr x lv lh d H1 F1 W1 => ?_, fun k pe e H1 s1 he => ?_⟩
    · refine ⟨.ref x, rfl, x, lv, lh, d, P', rfl, W1, fun H2 s2 => ⟨.str z, rfl, rfl, _, rfl, ?_⟩⟩
      rw [page_back pr, decide_eq_true rfl]
      have q := q _ (F1.sm.trans s2)
      rw [due_parsed pr] at q
      exact iteT ⟨.non, rfl, q⟩
    · refine ⟨true, T.ParseError.e.T.te, fun _ a0 na0 => ?_, fun z => Bool.noConfusion z⟩
      have s2 : Same H (upd H1 e (.xd [(("line" : Str), .int (k : Int))])) := s1.trans (same_new he)
      have q := q _ s2
      rw [due_err pe] at q
      refine ⟨.ref a0, rfl, rfl, rfl, e, .int (k : Int), rfl, upd_same, ?_⟩
      exact ⟨.int (k : Int), rfl, q⟩
end

open TL
/-! ### lines spoilt -/
theorem fold_app (k c : Nat) : ∀ acc : Array Nat, ((List.replicate k #[c]).foldl (· ++ ·) acc).toList = acc.toList ++ List.replicate k c := by
  induction k with
  | zero => intro acc; simp
  | succ k ih =>
    intro acc
    rw [List.replicate_succ, List.foldl_cons, ih, List.replicate_succ]
    simp
theorem tl_mul {c : Nat} {n : Nat} (h : 2 ≤ n) : tl (Txt.mul ⟨#[c]⟩ (n : Int)) = List.replicate n c := by
  unfold Txt.mul
  rw [if_neg (by omega), if_neg (by
    have : ((n : Int) == 1) = false := beq_eq_false_iff_ne.mpr (by omega)
    rw [this]
    exact Bool.false_ne_true)]
  show ((List.replicate n #[c]).foldl (· ++ ·) #[]).toList = _
  rw [fold_app]
  rfl
theorem mul_ok {z : Str} {n : Int} (hz : z.length = 1) (h1 : n = 60 ∨ n = 61 ∨ n = 4400) : MulOk z n := by
  unfold MulOk
  rw [hz]
  rcases h1 with rfl | rfl | rfl <;> exact ⟨by decide, fun _ _ => by decide, fun _ _ => by decide⟩
theorem mul_len {z : Str} (hz : ∃ c, z = ⟨#[c]⟩) {n : Nat} (h : 2 ≤ n) : (Txt.mul z (n : Int)).length = n := by
  obtain ⟨c, rfl⟩ := hz
  rw [len_tl, tl_mul h, List.length_replicate]
def sumL (ls : List Str) : Nat := (ls.map fun z => z.length + 1).sum
theorem sumL_nil : sumL [] = 0 := rfl
theorem sumL_cons (z : Str) (r : List Str) : sumL (z :: r) = z.length + 1 + sumL r := by
  unfold sumL
  rw [List.map_cons, List.sum_cons]
theorem sumL_app (a b : List Str) : sumL (a ++ b) = sumL a + sumL b := by
  unfold sumL
  rw [List.map_append, List.sum_append]
theorem sumL_at {ls : List Str} {i : Nat} {z : Str} (h : ls[i]? = some z) : sumL (ls.take i) + (z.length + 1) + sumL (ls.drop (i + 1)) = sumL ls := by
  have hi := (List.getElem?_eq_some_iff.mp h).1
  conv => rhs; rw [← List.take_append_drop i ls, List.drop_eq_getElem_cons hi, (List.getElem?_eq_some_iff.mp h).2]
  rw [sumL_app, sumL_cons]
  omega
theorem sumL_set : ∀ {ls : List Str} {i : Nat} {x a : Str}, ls[i]? = some x → sumL (ls.set i a) + x.length = sumL ls + a.length
  | [], _, _, _, h => by cases h
  | z :: r, 0, x, a, h => by
    cases Option.some.inj h
    rw [List.set_cons_zero, sumL_cons, sumL_cons]
    omega
  | z :: r, i + 1, x, a, h => by
    have := sumL_set (ls := r) (i := i) (x := x) (a := a) h
    rw [List.set_cons_succ, sumL_cons, sumL_cons]
    omega
theorem joinL_ge (S : List Nat) : ∀ ps : List (List Nat), (ps.map (·.length)).sum + ps.length * S.length ≤ (joinL S ps).length + S.length
  | [] => by simp
  | [x] => by
    show _ ≤ x.length + _
    simp only [List.map_cons, List.map_nil, List.sum_cons, List.sum_nil, List.length_cons, List.length_nil]
    omega
  | x :: y :: r => by
    show _ ≤ (x ++ (S ++ joinL S (y :: r))).length + _
    have := joinL_ge S (y :: r)
    simp only [List.length_append, List.map_cons, List.sum_cons, List.length_cons, Nat.succ_mul] at this ⊢
    omega
theorem sum_eq (ls : List Str) : sumL ls = (ls.map (·.length)).sum + ls.length := by
  induction ls with
  | nil => rfl
  | cons z r ih =>
    rw [sumL_cons, ih, List.map_cons, List.sum_cons, List.length_cons]
    omega
theorem tl_map_len (ps : List Str) : (ps.map tl).map (·.length) = ps.map (·.length) := by
  rw [List.map_map]
  exact List.map_congr_left fun z _ => (len_tl z).symm
theorem sumL_split (z : Str) : sumL (Txt.split z spS) ≤ z.length + 1 := by
  have h := joinL_ge (tl spS) ((Txt.split z spS).map tl)
  rw [← tl_join, ← join_eq, join_parts, tl_map_len, List.length_map, tl_sp, ← len_tl] at h
  rw [sum_eq]
  simp only [List.length_cons, List.length_nil] at h
  omega
theorem join_sp_len (ws : List Str) : (Txt.join spS ws).length ≤ sumL ws := by
  have h := join_len spS ws
  rw [sum_eq]
  have e : spS.length = 1 := by decide +kernel
  rw [e] at h
  omega
def SM : List Str := ["state 0 0", "state 0 4", "state 4 0", "words 2", "", "rule 0 0 new 0", "rule 0 0 0 0", "rule 0 0 new 9", "rule 1 0 new 1 value", "rule 1 0 0 1 value", "rule 1 0 new 1 0 0", "rule 0 0 old 0", "Words 1", "word 1"]
def WM : List Str := [Txt.mul "1" 4400, "01", "", "new", "value"]
theorem WM_len : ∀ z ∈ WM, z.length ≤ 4400 := fun z h => by
  unfold WM at h
  simp only [List.mem_cons, List.not_mem_nil, or_false] at h
  rcases h with rfl | rfl | rfl | rfl | rfl
  · exact Nat.le_of_eq (mul_len (n := 4400) ⟨49, by decide +kernel⟩ (by decide))
  all_goals decide +kernel
theorem SM_len : ∀ z ∈ SM, z.length ≤ 30 := by decide +kernel
def sp_law_lines_spoilt : Sp := fun us H Q _ => ∃ (p c l : Addr) (ls : List Str), us = [.ref p, .ref l] ∧ Pen H p c ∧ H l = some (.lst (ls.map V.str)) ∧ ls ≠ [] ∧ sumL ls ≤ 45000 ∧
  ∀ l' ls' H', Keep p H H' → Pen H' p c → H l' = none → H' l' = some (.lst (ls'.map V.str)) → sumL ls' ≤ 2 * sumL ls + 5000 → Q (.ref l') H'
theorem len_sumL (ls : List Str) : ls.length ≤ sumL ls := by
  rw [sum_eq]
  omega
theorem at_sumL {ls : List Str} {i : Nat} {z : Str} (h : ls[i]? = some z) : z.length + 1 ≤ sumL ls := by
  have := sumL_at h
  omega
section
variable {P : Program} {w : World} {K : PySem.W.Frag} {mg : Str → Option Value} {base : Heap}
abbrev N_law_lines_spoilt : List Str := ["pen", "lines", "at", "option", "some", "words"]
theorem sc_law_lines_spoilt : FnScope N_law_lines_spoilt ["pen", "lines"] (defScope s_law_lines_spoilt) := ⟨rfl, rfl, rfl, by decide +kernel, rfl, by decide +kernel, by decide +kernel⟩
theorem G_law_lines_spoilt (T : Tx K mg) : FnG P w K mg base CX0 3 T.law_lines_spoilt.f T.law_lines_spoilt.fd ["pen", "lines"] sp_law_lines_spoilt := by
  refine okG T.law_lines_spoilt.F sc_law_lines_spoilt (fun vs H Q E h => ?_) (fun cdv A outer s H vs Q E gd hr h => ?_)
  · obtain ⟨p, c, l, ls, rfl, _⟩ := h
    rfl
  · obtain ⟨p, c, l, ls, rfl, hP, hl, hne, hS, q⟩ := h
    have L5 := line5
    refine ⟨_, 
      (pss_cons (ps_set (i := 1) sc_law_lines_spoilt.nd rfl (.inl rfl) (pe_callTy call_list_of (by rfl) T.m_list (by decide +kernel) (pa_cons (pv 1) pa_nil))) -- lines = list(lines)
      (pss_cons (ps_par (i := 2) (j := 3) rfl sc_law_lines_spoilt.nd rfl rfl (by decide) rfl rfl (pa_cons (pe_callG (G_law_draw T) gd (hr.mono (by decide)) rfl T.law_draw.g T.law_draw.F.kp T.law_draw.b .nil pass0 (pa_cons (pv 0) (pa_cons (pe_callB call_len_seq (by rfl) T.m_len PySem.boot_len (pa_cons (pv 1) pa_nil)) pa_nil))) (pa_cons (pe_callG (G_law_draw T) gd (hr.mono (by decide)) rfl T.law_draw.g T.law_draw.F.kp T.law_draw.b .nil pass0 (pa_cons (pv 0) (pa_cons pe_int pa_nil))) pa_nil)) rfl) -- at, option = (_law_draw(pen, len(lines)), _law_draw(pen, 5))
      (C8.pss_cut (ps_if (pt_cmpR op_eq (pv 3) pe_int (nomark _)) 
        (pss_one (ps_expr (pe_bm PySem.F.plainAttrs_list PySem.F.slot_list_insert PySem.F.type_list_insert mt_insert (pv 1) (pa_cons (pv 2) (pa_cons (pe_ix ix_list (pv 1) (pv 2) (fun _ _ => rfl)) pa_nil))))) -- lines.insert(at, lines[at])
         
        (pss_one (ps_if (pt_cmpR op_eq (pv 3) pe_int (nomark _)) 
          (pss_one (ps_expr (pe_bm PySem.F.plainAttrs_list PySem.F.slot_list_pop PySem.F.type_list_pop mt_popAt (pv 1) (pa_cons (pv 2) pa_nil)))) -- lines.pop(at)
           
          (pss_one (ps_if (PW.pt (pw_and (pt_cmpR op_eq (pv 3) pe_int (nomark _)) (pw_and1 (pt_cmpR op_gt (pv 2) pe_int (nomark _))))) 
            (pss_one (ps_asg (pe_tup (pa_cons (pe_ix ix_list (pv 1) (pv 2) (fun _ _ => rfl)) (pa_cons (pe_ix ix_list (pv 1) (pe_op op_sub (pv 2) pe_int) (fun _ _ => rfl)) pa_nil))) (pg_tup rfl (pgs_cons (pg_sub (pv 1) (pe_op op_sub (pv 2) pe_int) set_list) (pgs_cons (pg_sub (pv 1) (pv 2) set_list) pgs_nil))))) -- lines[at - 1], lines[at] = (lines[at], lines[at - 1])
             
            (pss_one (ps_if (pt_cmpR op_eq (pv 3) pe_int (nomark _)) 
              (pss_cons (ps_set (i := 4) sc_law_lines_spoilt.nd rfl (.inl rfl) (pe_lst (pa_cons pe_str (pa_cons pe_str (pa_cons pe_str (pa_cons pe_str (pa_cons pe_str (pa_cons pe_str (pa_cons pe_str pa_nil))))))))) -- some = ['state 0 0', 'state 0 4', 'state 4 0', 'words 2', '', 'rule 0 0 new 0', 'rule 0 0 0 0']
              (pss_cons (ps_set (i := 4) sc_law_lines_spoilt.nd rfl (.inl rfl) (pe_op op_cat (pv 4) (pe_lst (pa_cons pe_str (pa_cons pe_str (pa_cons pe_str pa_nil)))))) -- some = some + ['rule 0 0 new 9', 'rule 1 0 new 1 value', 'rule 1 0 0 1 value']
              (pss_cons (ps_set (i := 4) sc_law_lines_spoilt.nd rfl (.inl rfl) (pe_op op_cat (pv 4) (pe_lst (pa_cons pe_str (pa_cons pe_str (pa_cons pe_str (pa_cons pe_str pa_nil))))))) -- some = some + ['rule 1 0 new 1 0 0', 'rule 0 0 old 0', 'Words 1', 'word 1']
              (pss_one (ps_asg (pe_ix ix_list (pv 4) (pe_callG (G_law_draw T) gd (hr.mono (by decide)) rfl T.law_draw.g T.law_draw.F.kp T.law_draw.b .nil pass0 (pa_cons (pv 0) (pa_cons pe_int pa_nil))) (fun _ _ => rfl)) (pg_sub (pv 1) (pv 2) set_list))) -- lines[at] = some[_law_draw(pen, 14)]
              ))) 
              (pss_cons (ps_set (i := 5) sc_law_lines_spoilt.nd rfl (.inl rfl) (pe_split (pe_ix ix_list (pv 1) (pv 2) (fun _ _ => rfl)) pe_str)) -- words = lines[at].split(' ')
              (pss_cons (ps_asg (pe_ix ix_list (pe_lst (pa_cons (pe_op op_mulS pe_str pe_int) (pa_cons pe_str (pa_cons pe_str (pa_cons pe_str (pa_cons pe_str pa_nil)))))) (pe_callG (G_law_draw T) gd (hr.mono (by decide)) rfl T.law_draw.g T.law_draw.F.kp T.law_draw.b .nil pass0 (pa_cons (pv 0) (pa_cons pe_int pa_nil))) (fun _ _ => rfl)) (pg_sub (pv 5) (pe_callG (G_law_draw T) gd (hr.mono (by decide)) rfl T.law_draw.g T.law_draw.F.kp T.law_draw.b .nil pass0 (pa_cons (pv 0) (pa_cons (pe_callB call_len_seq (by rfl) T.m_len PySem.boot_len (pa_cons (pv 5) pa_nil)) pa_nil))) set_list)) -- words[_law_draw(pen, len(words))] = ['1' * 4400, '01', '', 'new', 'value'][_law_draw(pen, 5)]
              (pss_one (ps_asg (pe_join pe_str (pv 5)) (pg_sub (pv 1) (pv 2) set_list))) -- lines[at] = ' '.join(words)
              )))) -- if option == 3:
            )) -- if option == 2 and at > 0:
          )) -- if option == 1:
        ) -- if option == 0:
      (pss_one (ps_ret (pv 1))) -- return lines
      ))) , ?_⟩
    refine ⟨.ref l, rfl, l, _, rfl, .inl (SqL.of hl), fun l2 nl2 => ?_⟩
    have s1 := same_new (o := .lst (ls.map V.str)) nl2
    have hl2 : (upd H l2 (.lst (ls.map V.str))) l2 = some (.lst (ls.map V.str)) := upd_same
    have hP1 := hP.mono s1
    generalize upd H l2 (.lst (ls.map V.str)) = H1 at *
    have np2 : l2 ≠ p := Ne.symm (hP.free nl2).1
    have nc2 : l2 ≠ c := Ne.symm (hP.free nl2).2
    have hlen := len_sumL ls
    have hpos : 0 < ls.length := List.length_pos_iff.mpr hne
    refine ⟨.ref p, rfl, .ref l2, rfl, l2, _, rfl, .inl (SqL.of hl2), p, c, _, rfl, hP1, ?_, ?_, fun d0 H2 d00 d01 k2 hP2 => ?_⟩
    · rw [List.length_map]
      omega
    · rw [List.length_map]
      have : (45000 : Int) < 2 ^ 100 := by decide
      omega
    rw [List.length_map] at d01
    refine ⟨.ref p, rfl, p, c, 5, rfl, hP2, by decide, by decide, fun d1 H3 d10 d11 k3 hP3 => ⟨_, _, rfl, ?_⟩⟩
    obtain ⟨k, rfl⟩ : ∃ k : Nat, d0 = k := ⟨d0.toNat, by omega⟩
    have hk : k < ls.length := by omega
    obtain ⟨z, hz⟩ : ∃ z, ls[k]? = some z := ⟨ls[k], List.getElem?_eq_getElem hk⟩
    have hat : atI (ls.map V.str) (k : Int) = some (.str z) := Words.at hz
    have hl3 := k3 _ _ (k2 _ _ hl2 np2) np2
    have hzs := at_sumL hz
    have KK : ∀ H', Keep p H3 H' → Keep p H H' := fun H' k' b o e nb => k' _ _ (k3 _ _ (k2 _ _ (s1 _ _ e) nb) nb) nb
    have Kput : ∀ {H' : Hp} {o : HO}, Keep p H3 H' → Keep p H (upd H' l2 o) := fun k' => (KK _ k').put nl2
    have Pput : ∀ {H' : Hp} {o : HO}, Pen H' p c → H' l2 ≠ none → Pen (upd H' l2 o) p c := fun h' _ => h'.put np2 nc2
    have lx : ixN (ls.map V.str).length (k : Int) = some k := ixN_at (by rw [List.length_map]; exact hk)
    refine ⟨fun σ H' => ∃ y4 y5 ls', σ = [some (.ref p), some (.ref l2), some (.int (k : Int)), some (.int d1), y4, y5] ∧ Keep p H H' ∧ Pen H' p c ∧ H' l2 = some (.lst (ls'.map V.str)) ∧ sumL ls' ≤ 2 * sumL ls + 5000, ?_, ?_⟩
    · refine ⟨.int d1, rfl, rfl, _, rfl, ?_⟩
      rw [v_int]
      by_cases o0 : d1 = 0
      · rw [decide_eq_true o0]
        refine iteT ⟨.ref l2, rfl, .inl ⟨rfl, _, SqL.of hl3⟩, .int (k : Int), rfl, .ref l2, rfl, .int (k : Int), rfl, l2, _, (k : Int), .str z, rfl, rfl, SqL.of hl3, hat, l2, _, (k : Int), .str z, rfl, rfl, hl3, ?_, by omega, ?_, ?_⟩
        · rw [List.length_map]
          omega
        · have : (45000 : Int) < 2 ^ 63 := by decide
          omega
        · refine ⟨_, _, ls.take k ++ [z] ++ ls.drop k, rfl, Kput (fun _ _ e _ => e), Pput hP3 (by rw [hl3]; exact fun z => nomatch z), ?_, ?_⟩
          · rw [upd_same, show ((k : Int)).toNat = k from rfl, ← List.map_take, ← List.map_drop, List.map_append, List.map_append]
            rfl
          · rw [sumL_app, sumL_app, sumL_cons, sumL_nil]
            have e : sumL (ls.take k) + sumL (ls.drop k) = sumL ls := by rw [← sumL_app, List.take_append_drop]
            omega
      rw [decide_eq_false o0]
      refine iteF ⟨.int d1, rfl, rfl, _, rfl, ?_⟩
      rw [v_int]
      by_cases o1 : d1 = 1
      · rw [decide_eq_true o1]
        have b63 : (45000 : Int) < 2 ^ 63 := by decide
        refine iteT ⟨.ref l2, rfl, .inl ⟨rfl, _, SqL.of hl3⟩, .int (k : Int), rfl, l2, _, (k : Int), k, .str z, rfl, rfl, hl3, by omega, by omega, seqIx (by rw [List.length_map]; exact hk), by rw [List.getElem?_map, hz]; rfl, ?_⟩
        refine ⟨_, _, ls.take k ++ ls.drop (k + 1), rfl, Kput (fun _ _ e _ => e), Pput hP3 (by rw [hl3]; exact fun z => nomatch z), ?_, ?_⟩
        · rw [upd_same, List.eraseIdx_eq_take_drop_succ, ← List.map_take, ← List.map_drop, List.map_append]
        · rw [sumL_app]
          have e := sumL_at hz
          omega
      rw [decide_eq_false o1]
      refine iteF ?_
      unfold L2.tIfS
      refine cutT (t := tAnd _ _) (decide (d1 = 2) && decide (0 < (k : Int))) (fun Q' k' => ?_) (fun H5 s5 => ?_)
      · refine ⟨.int d1, rfl, rfl, _, rfl, ?_⟩
        rw [v_int]
        cases hd : decide (d1 = 2) with
        | false =>
          rw [hd] at k'
          exact iteF (k' _ (Same.refl _))
        | true =>
          rw [hd, Bool.true_and] at k'
          exact iteT ⟨.int (k : Int), rfl, _, _, rfl, rfl, _, rfl, k' _ (Same.refl _)⟩
      have hl5 := s5 _ _ hl3
      have hP5 := hP3.mono s5
      have K5 : Keep p H3 H5 := fun b o e _ => s5 _ _ e
      clear hl3 hP3 s5
      cases hb : (decide (d1 = 2) && decide (0 < (k : Int))) with
      | true =>
        rw [Bool.and_eq_true] at hb
        have hk0 := of_decide_eq_true hb.2
        obtain ⟨km, rfl⟩ : ∃ km, k = km + 1 := ⟨k - 1, by omega⟩
        obtain ⟨z', hz'⟩ : ∃ z', ls[km]? = some z' := ⟨ls[km], List.getElem?_eq_getElem (by omega)⟩
        have ekm : (((km + 1 : Nat) : Int) - 1) = (km : Int) := by omega
        have hat' : atI (ls.map V.str) (((km + 1 : Nat) : Int) - 1) = some (.str z') := by rw [ekm]; exact Words.at hz'
        refine iteT ⟨.ref l2, rfl, .int _, rfl, l2, _, _, .str z, rfl, rfl, SqL.of hl5, hat, .ref l2, rfl, .int _, rfl, _, _, rfl, rfl, l2, _, _, .str z', rfl, rfl, SqL.of hl5, hat', by show 2 ≤ sizeLine; decide, fun tt ntt => ?_⟩
        have s6 := same_new (o := .tup [.str z, .str z']) ntt
        have ht6 : (upd H5 tt (.tup [.str z, .str z'])) tt = some (.tup [.str z, .str z']) := upd_same
        have hl6 := s6 _ _ hl5
        have hP6 := hP5.mono s6
        have K6 : Keep p H3 (upd H5 tt (.tup [.str z, .str z'])) := fun b o e n => s6 _ _ (K5 _ _ e n)
        generalize upd H5 tt (.tup [.str z, .str z']) = H6 at *
        refine ⟨tt, _, rfl, SqT.of ht6, rfl, .str z, _, rfl, .ref l2, rfl, .int _, rfl, _, _, rfl, rfl, l2, _, _, km, rfl, rfl, hl6, ?_, .str z', [], rfl, .ref l2, rfl, .int _, rfl, l2, _, _, km + 1, rfl, rfl, upd_same, ?_, rfl, ?_⟩
        · rw [ekm]
          exact ixN_at (by rw [List.length_map]; omega)
        · rw [List.length_set]
          exact lx
        · refine ⟨_, _, (ls.set km z).set (km + 1) z', rfl, ?_, (hP6.put np2 nc2).put np2 nc2, ?_, ?_⟩
          · exact ((KK _ K6).put nl2).put nl2
          · rw [upd_same, List.map_set, List.map_set]
          · have e1 := sumL_set (a := z) hz'
            have e2 := sumL_set (ls := ls.set km z) (i := km + 1) (x := z) (a := z') (by rw [List.getElem?_set_ne (by omega)]; exact hz)
            omega
      | false =>
        refine iteF ⟨.int d1, rfl, rfl, _, rfl, ?_⟩
        rw [v_int]
        by_cases o3 : d1 = 3
        · rw [decide_eq_true o3]
          refine iteT ⟨by show 7 ≤ sizeLine; decide, fun m1 nm1 => ⟨.ref m1, rfl, by show 3 ≤ sizeLine; decide, fun m2 nm2 => ⟨m1, m2, _, _, rfl, rfl, same_new nm2 _ _ upd_same, upd_same, by show 10 ≤ sizeLine; decide, fun m3 nm3 => ⟨.ref m3, rfl, by show 4 ≤ sizeLine; decide, fun m4 nm4 => ⟨m3, m4, _, _, rfl, rfl, same_new nm4 _ _ upd_same, upd_same, by show 14 ≤ sizeLine; decide, fun m5 nm5 => ?_⟩⟩⟩⟩⟩
          generalize hX : upd _ m5 _ = H9
          have hm5 : H9 m5 = some (.lst (SM.map V.str)) := by
            rw [← hX]
            exact upd_same
          have s9 : Same H5 H9 := by
            rw [← hX]
            exact ((((same_new nm1).trans (same_new nm2)).trans (same_new nm3)).trans (same_new nm4)).trans (same_new nm5)
          have nm5p : m5 ≠ p := fun e => by
            have := s9.trans (Same.refl _)
            obtain ⟨xs, hxp⟩ := (hP5.mono (((same_new nm1).trans (same_new nm2)).trans ((same_new nm3).trans (same_new nm4)))).at
            rw [e, hxp] at nm5
            cases nm5
          clear hX nm1 nm2 nm3 nm4 nm5
          have hP9 := hP5.mono s9
          have hl9 := s9 _ _ hl5
          have K9 : Keep p H3 H9 := fun b o e n => s9 _ _ (K5 _ _ e n)
          refine ⟨.ref m5, rfl, .ref p, rfl, p, c, 14, rfl, hP9, by decide, by decide, fun dd H10 e0 e1 k10 hP10 => ?_⟩
          obtain ⟨kk, rfl⟩ : ∃ kk : Nat, dd = kk := ⟨dd.toNat, by omega⟩
          have hkk : kk < SM.length := by show kk < 14; omega
          have hx : SM[kk]? = some SM[kk] := List.getElem?_eq_getElem hkk
          have lx2 := SM_len _ (List.getElem_mem hkk)
          refine ⟨m5, _, (kk : Int), .str SM[kk], rfl, rfl, SqL.of (k10 _ _ hm5 nm5p), Words.at hx, .ref l2, rfl, .int _, rfl, l2, _, _, k, rfl, rfl, k10 _ _ hl9 np2, lx, ?_⟩
          refine ⟨_, _, ls.set k SM[kk], rfl, Kput (fun b o e n => k10 _ _ (K9 _ _ e n) n), hP10.put np2 nc2, ?_, ?_⟩
          · rw [upd_same, List.map_set]
          · have e2 := sumL_set (a := SM[kk]) hz
            omega
        · rw [decide_eq_false o3]
          refine iteF ⟨.ref l2, rfl, .int _, rfl, l2, _, _, .str z, rfl, rfl, SqL.of hl5, hat, ⟨_, rfl⟩, z, spS, rfl, rfl, by rfl, by omega, fun wl nwl => ?_⟩
          obtain ⟨wl1, wl2, wl3⟩ := split_len (x := z) (y := spS) (by rw [tl_sp]; simp) sp_kind
          have hsw := sumL_split z
          generalize Txt.split z spS = ws at *
          have s6 := same_new (o := .lst (ws.map V.str)) nwl
          have hw6 : (upd H5 wl (.lst (ws.map V.str))) wl = some (.lst (ws.map V.str)) := upd_same
          have nwp : wl ≠ p := Ne.symm (hP5.free nwl).1
          have fwl : H wl = none := (KK _ K5).free hP5.some' nwl
          have nw2 : wl ≠ l2 := fun e => by rw [e, hl5] at nwl; cases nwl
          have hP6 := hP5.mono s6
          have hl6 := s6 _ _ hl5
          have K6 : Keep p H3 (upd H5 wl (.lst (ws.map V.str))) := fun b o e n => s6 _ _ (K5 _ _ e n)
          generalize upd H5 wl (.lst (ws.map V.str)) = H6 at *
          refine ⟨_, 4400, rfl, rfl, mul_ok (by decide +kernel) (.inr (.inr rfl)), by show 5 ≤ sizeLine; decide, fun m nm => ?_⟩
          have s7 := same_new (o := .lst ((WM).map V.str)) nm
          have hm7 : (upd H6 m (.lst (WM.map V.str))) m = some (.lst (WM.map V.str)) := upd_same
          have nmp : m ≠ p := Ne.symm (hP6.free nm).1
          have hP7 := hP6.mono s7
          have hl7 := s7 _ _ hl6
          have hw7 := s7 _ _ hw6
          have K7 : Keep p H3 (upd H6 m (.lst (WM.map V.str))) := fun b o e n => s7 _ _ (K6 _ _ e n)
          refine ⟨.ref p, rfl, p, c, 5, rfl, hP7, by decide, by decide, fun de H8 e0 e1 k8 hP8 => ?_⟩
          obtain ⟨ke, rfl⟩ : ∃ ke : Nat, de = ke := ⟨de.toNat, by omega⟩
          have hke : ke < WM.length := by show ke < 5; omega
          have hx : WM[ke]? = some WM[ke] := List.getElem?_eq_getElem hke
          have lx2 := WM_len _ (List.getElem_mem hke)
          generalize WM[ke] = x at hx lx2
          have hw8 := k8 _ _ hw7 nwp
          refine ⟨m, _, (ke : Int), .str x, rfl, rfl, SqL.of (k8 _ _ hm7 nmp), Words.at hx, .ref wl, rfl, .ref p, rfl, .ref wl, rfl, wl, _, rfl, .inl (SqL.of hw8), p, c, _, rfl, hP8, ?_, ?_, fun dj H9 j0 j1 k9 hP9 => ?_⟩
          · rw [List.length_map]
            omega
          · rw [List.length_map]
            have : (50000 : Int) < 2 ^ 100 := by decide
            omega
          rw [List.length_map] at j1
          obtain ⟨kj, rfl⟩ : ∃ kj : Nat, dj = kj := ⟨dj.toNat, by omega⟩
          have hj : kj < ws.length := by omega
          have hwj : ws[kj]? = some ws[kj] := List.getElem?_eq_getElem hj
          have e2 := sumL_set (a := x) hwj
          have ejl := join_sp_len (ws.set kj x)
          have hw9 := k9 _ _ hw8 nwp
          have hl9 := k9 _ _ (k8 _ _ hl7 np2) np2
          refine ⟨wl, _, (kj : Int), kj, rfl, rfl, hw9, ixN_at (by rw [List.length_map]; exact hj), ?_⟩
          refine ⟨⟨_, rfl⟩, .ref wl, rfl, _, wl, ws.set kj x, rfl, rfl, .inl (SqL.of (by rw [upd_same, List.map_set])), ?_, .ref l2, rfl, .int _, rfl, l2, _, _, k, rfl, rfl, by rw [upd_ne (Ne.symm nw2)]; exact hl9, lx, ?_⟩
          · have e3 := sum_eq (ws.set kj x)
            have e4 : spS.length = 1 := by decide +kernel
            have e5 := len_sumL (ws.set kj x)
            rw [e4]
            omega
          · refine ⟨_, _, ls.set k (Txt.join spS (ws.set kj x)), rfl, ?_, ?_, ?_, ?_⟩
            · exact ((KK _ (fun b o e n => k9 _ _ (k8 _ _ (K7 _ _ e n) n) n)).put fwl).put nl2
            · exact (hP9.put nwp (Ne.symm (hP5.free nwl).2)).put np2 nc2
            · rw [upd_same, List.map_set]
            · have e6 := sumL_set (a := Txt.join spS (ws.set kj x)) hz
              omega
    rintro σ H4 ⟨y4, y5, ls', rfl, k4, hP4, h4, hs4⟩
    exact ⟨.ref l2, rfl, q l2 ls' H4 k4 hP4 nl2 h4 hs4⟩
end

open TL
/-! ### texts spoilt -/
def NL8 : List Int := [1, 1, 1, 2, 0, 0, 0, 1]
def SG : Str := Str.ofString " 012349newval-\ntE\t+_W"
theorem SG_len : SG.length = 21 := by decide +kernel
def bnd : Nat → Nat
  | 0 => 16080
  | 1 => 37160
  | _ => 79320
theorem page_sumL (ls : List Str) : (Txt.join Str.empty (ls.map (· ++ nlS))).length ≤ sumL ls := by
  have h := join_len Str.empty (ls.map (· ++ nlS))
  have e1 : Str.empty.length = 0 := rfl
  have e2 : (ls.map (· ++ nlS)).map (·.length) = ls.map fun z => z.length + 1 := by
    rw [List.map_map]
    refine List.map_congr_left fun z _ => ?_
    show (z ++ nlS).length = _
    rw [len_tl, tl_append, List.length_append, tl_nl, ← len_tl]
    rfl
  rw [e1, e2, Nat.mul_zero, Nat.add_zero] at h
  exact h
def sp_law_spoilt : Sp := fun us H Q _ => ∃ (p c l : Addr) (ls : List Str), us = [.ref p, .ref l] ∧ Pen H p c ∧ H l = some (.lst (ls.map V.str)) ∧ sumL ls ≤ 16080 ∧
  ∀ z H', Keep p H H' → Pen H' p c → z.length ≤ 100000 → Q (.str z) H'
section
variable {P : Program} {w : World} {K : PySem.W.Frag} {mg : Str → Option Value} {base : Heap}
abbrev N_law_spoilt : List Str := ["pen", "lines", "option", "lap", "text", "line", "place", "sign"]
theorem sc_law_spoilt : FnScope N_law_spoilt ["pen", "lines"] (defScope s_law_spoilt) := ⟨rfl, rfl, rfl, by decide +kernel, rfl, by decide +kernel, by decide +kernel⟩
theorem G_law_spoilt (T : Tx K mg) : FnG P w K mg base CX0 4 T.law_spoilt.f T.law_spoilt.fd ["pen", "lines"] sp_law_spoilt := by
  refine okG T.law_spoilt.F sc_law_spoilt (fun vs H Q E h => ?_) (fun cdv A outer s H vs Q E gd hr h => ?_)
  · obtain ⟨p, c, l, ls, rfl, _⟩ := h
    rfl
  · obtain ⟨p, c, l, ls, rfl, hP, hl, hS, q⟩ := h
    have L5 := line5
    refine ⟨_, 
      (pss_cons (ps_par (i := 1) (j := 2) rfl sc_law_spoilt.nd rfl rfl (by decide) rfl rfl (pa_cons (pe_callTy call_list_of (by rfl) T.m_list (by decide +kernel) (pa_cons (pv 1) pa_nil)) (pa_cons (pe_callG (G_law_draw T) gd (hr.mono (by decide)) rfl T.law_draw.g T.law_draw.F.kp T.law_draw.b .nil pass0 (pa_cons (pv 0) (pa_cons pe_int pa_nil))) pa_nil)) rfl) -- lines, option = (list(lines), _law_draw(pen, 8))
      (C8.pss_cut (ps_for PassesOwn.never rfl (pi_range1 rfl T.m_range (pa_cons (pe_ix ix_list (pe_lst (pa_cons pe_int (pa_cons pe_int (pa_cons pe_int (pa_cons pe_int (pa_cons pe_int (pa_cons pe_int (pa_cons pe_int (pa_cons pe_int pa_nil))))))))) (pv 2) (fun _ _ => rfl)) pa_nil)) (pg_name (i := 3) sc_law_spoilt.nd rfl (.inl rfl)) 
        (pss_one (ps_if (pt_cmpR (op_neL0 hr.units) (pv 1) (pe_lst pa_nil) (nomark _)) 
          (pss_one (ps_set (i := 1) sc_law_spoilt.nd rfl (.inl rfl) (pe_callG (G_law_lines_spoilt T) gd (hr.mono (by decide)) rfl T.law_lines_spoilt.g T.law_lines_spoilt.F.kp T.law_lines_spoilt.b .nil pass0 (pa_cons (pv 0) (pa_cons (pv 1) pa_nil))))) -- lines = _law_lines_spoilt(pen, lines)
           pss_nil)) -- if lines != []:
        ) -- for lap in range([1, 1, 1, 2, 0, 0, 0, 1][option]):
      (C8.pss_cut (ps_set (i := 4) sc_law_spoilt.nd rfl (.inl rfl) (pe_join pe_str (pe_lc (own := [("line", 5)]) (g := gName 5) rfl sc_law_spoilt.nd (pi_list (pv 1)) (blkOk_by (N := N_law_spoilt) (sc := defScope s_law_spoilt) (by decide +kernel)) (fun _ _ _ _ _ => (pg_name (i := 5) sc_law_spoilt.nd rfl (.inl rfl))) (fun _ _ _ _ _ => pts_nil) (fun _ _ _ _ _ => (pe_op op_add_str (pv 5) pe_str))))) -- text = ''.join([line + '\n' for line in lines])
      (C8.pss_cut (ps_if (pt_cmpR op_gt (pv 2) pe_int (nomark _)) 
        (pss_cons (ps_par (i := 6) (j := 7) rfl sc_law_spoilt.nd rfl rfl (by decide) rfl rfl (pa_cons (pe_callG (G_law_draw T) gd (hr.mono (by decide)) rfl T.law_draw.g T.law_draw.F.kp T.law_draw.b .nil pass0 (pa_cons (pv 0) (pa_cons (pe_op op_add (pe_callB call_len (by rfl) T.m_len PySem.boot_len (pa_cons (pv 4) pa_nil)) pe_int) pa_nil))) (pa_cons (pe_ix ix_str pe_str (pe_callG (G_law_draw T) gd (hr.mono (by decide)) rfl T.law_draw.g T.law_draw.F.kp T.law_draw.b .nil pass0 (pa_cons (pv 0) (pa_cons pe_int pa_nil))) (fun _ _ => rfl)) pa_nil)) rfl) -- place, sign = (_law_draw(pen, len(text) + 1), ' 012349newval-\ntE\t+_W'[_law_draw(pen, 21)])
        (pss_cons (ps_set (i := 7) sc_law_spoilt.nd rfl (.inl rfl) (pe_ifExp (pt_cmpR op_eq (pe_callG (G_law_draw T) gd (hr.mono (by decide)) rfl T.law_draw.g T.law_draw.F.kp T.law_draw.b .nil pass0 (pa_cons (pv 0) (pa_cons pe_int pa_nil))) pe_int (nomark _)) pe_str (pv 7))) -- sign = '' if _law_draw(pen, 6) == 0 else sign
        (pss_one (ps_set (i := 4) sc_law_spoilt.nd rfl (.inl rfl) (pe_op op_add_str (pe_op op_add_str (pe_slice sl_str (pv 4) po_none (po_some (pv 6))) (pv 7)) (pe_slice sl_str (pv 4) (po_some (pe_op op_add (pv 6) (pe_callG (G_law_draw T) gd (hr.mono (by decide)) rfl T.law_draw.g T.law_draw.F.kp T.law_draw.b .nil pass0 (pa_cons (pv 0) (pa_cons pe_int pa_nil))))) po_none)))) -- text = text[:place] + sign + text[place + _law_draw(pen, 2):]
        )) pss_nil) -- if option > 4:
      (C8.pss_cut (ps_if (pt_cmpR op_eq (pv 2) pe_int (nomark _)) 
        (pss_one (ps_set (i := 4) sc_law_spoilt.nd rfl (.inl rfl) (pe_slice sl_str (pv 4) po_none (po_some (pe_callG (G_law_draw T) gd (hr.mono (by decide)) rfl T.law_draw.g T.law_draw.F.kp T.law_draw.b .nil pass0 (pa_cons (pv 0) (pa_cons (pe_op op_add (pe_callB call_len (by rfl) T.m_len PySem.boot_len (pa_cons (pv 4) pa_nil)) pe_int) pa_nil))))))) -- text = text[:_law_draw(pen, len(text) + 1)]
         pss_nil) -- if option == 4:
      (pss_one (ps_ret (pv 4))) -- return text
      ))))) , ?_⟩
    refine ⟨.ref l, rfl, l, _, rfl, .inl (SqL.of hl), fun l2 nl2 => ?_⟩
    have s1 := same_new (o := .lst (ls.map V.str)) nl2
    have hl2 : (upd H l2 (.lst (ls.map V.str))) l2 = some (.lst (ls.map V.str)) := upd_same
    have hP1 := hP.mono s1
    generalize upd H l2 (.lst (ls.map V.str)) = H1 at *
    have np2 : l2 ≠ p := Ne.symm (hP.free nl2).1
    refine ⟨.ref p, rfl, p, c, 8, rfl, hP1, by decide, by decide, fun op H2 op0 op1 k2 hP2 => ⟨_, _, rfl, ?_⟩⟩
    have K2 : Keep p H H2 := fun b o e n => k2 _ _ (s1 _ _ e) n
    refine ⟨fun σ H' => ∃ l' ls' y3, σ = [some (.ref p), some (.ref l'), some (.int op), y3, none, none, none, none] ∧ Keep p H H' ∧ Pen H' p c ∧ l' ≠ p ∧ H' l' = some (.lst (ls'.map V.str)) ∧ sumL ls' ≤ 79320, ?_, ?_⟩
    · refine ⟨by show 8 ≤ sizeLine; decide, fun m nm => ?_⟩
      have s3 := same_new (o := .lst (NL8.map V.int)) nm
      have hm : (upd H2 m (.lst (NL8.map V.int))) m = some (.lst (NL8.map V.int)) := upd_same
      obtain ⟨ko, rfl⟩ : ∃ ko : Nat, op = ko := ⟨op.toNat, by omega⟩
      have hko : ko < NL8.length := by show ko < 8; omega
      have hx : NL8[ko]? = some NL8[ko] := List.getElem?_eq_getElem hko
      have hx2 : 0 ≤ NL8[ko] ∧ NL8[ko] ≤ 2 := (by decide : ∀ v ∈ NL8, 0 ≤ v ∧ v ≤ 2) _ (List.getElem_mem hko)
      generalize NL8[ko] = v at hx hx2
      refine ⟨.int (ko : Int), rfl, m, _, (ko : Int), .int v, rfl, rfl, SqL.of hm, atI_nat (j := ko) (by rw [List.getElem?_map, hx]; rfl), v, rfl, by omega, by omega, ?_⟩
      have b62 : (2 : Nat) = 2 := rfl
      have hn : v.toNat ≤ 2 := by omega
      generalize v.toNat = nn at hn
      have hP3 := hP2.mono s3
      have K3 : Keep p H (upd H2 m (.lst (NL8.map V.int))) := fun b o e n => s3 _ _ (K2 _ _ e n)
      have hl3 := s3 _ _ (k2 _ _ hl2 np2)
      refine for_range (n := nn) (fun i σ H' => ∃ l' ls' y3, σ = [some (.ref p), some (.ref l'), some (.int (ko : Int)), y3, none, none, none, none] ∧ Keep p H H' ∧ Pen H' p c ∧ l' ≠ p ∧ H' l' = some (.lst (ls'.map V.str)) ∧ sumL ls' ≤ bnd i) ?_ ?_ ?_
      · exact ⟨l2, ls, none, rfl, K3, hP3, np2, hl3, hS⟩
      · rintro i σ H4 hi ⟨l', ls', y3, rfl, k4, hP4, np, h4, hs4⟩
        have hb : bnd i ≤ 45000 ∧ 2 * bnd i + 5000 ≤ bnd (i + 1) ∧ bnd i ≤ bnd (i + 1) := by
          have : i = 0 ∨ i = 1 := by omega
          rcases this with rfl | rfl <;> decide
        refine ⟨.ref l', rfl, by show 0 ≤ sizeLine; decide, fun e ne => ⟨l', e, _, rfl, rfl, same_new ne _ _ h4, upd_same, _, rfl, ?_⟩⟩
        have s5 := same_new (o := .lst []) ne
        have hP5 := hP4.mono s5
        have h5 := s5 _ _ h4
        have k5 : Keep p H (upd H4 e (.lst [])) := fun b o e n => s5 _ _ (k4 _ _ e n)
        generalize upd H4 e (.lst []) = H5 at *
        rw [List.isEmpty_map]
        cases hE : ls'.isEmpty with
        | true => exact iteF ⟨l', ls', _, rfl, k5, hP5, np, h5, by omega⟩
        | false =>
          refine iteT ⟨.ref p, rfl, .ref l', rfl, p, c, l', ls', rfl, hP5, h5, fun e => (by rw [e] at hE; cases hE), by omega, fun l6 ls6 H6 k6 hP6 n6 h6 hs6 => ?_⟩
          refine ⟨l6, ls6, _, rfl, fun b o e n => k6 _ _ (k5 _ _ e n) n, hP6, Ne.symm (hP5.free n6).1, h6, by omega⟩
      · rintro σ H4 ⟨l', ls', y3, rfl, k4, hP4, np, h4, hs4⟩
        refine ⟨l', ls', y3, rfl, k4, hP4, np, h4, Nat.le_trans hs4 ?_⟩
        have : nn = 0 ∨ nn = 1 ∨ nn = 2 := by omega
        rcases this with rfl | rfl | rfl <;> decide
    clear K2 hP2 k2 hl2 hP1 s1 np2 nl2 hS hl
    rintro σ H3 ⟨l', ls', y3, rfl, k3, hP3, np, h3, hs3⟩
    have hln := len_sumL ls'
    -- text
    refine ⟨fun σ H' => ∃ z y5, σ = [some (.ref p), some (.ref l'), some (.int op), y3, some (.str z), y5, none, none] ∧ Same H3 H' ∧ z.length ≤ 79320, ?_, ?_⟩
    · refine ⟨⟨_, rfl⟩, .ref l', rfl, l', rfl, ⟨_, SqL.of h3⟩, fun D nD => ?_⟩
      refine lc_list (K := K) (a := l') (xs := ls'.map V.str) (fun j H' => Same H3 H' ∧ H' D = some (.lst (((ls'.take j).map (· ++ nlS)).map V.str))) ?_ ?_ ?_ ?_
      · exact ⟨same_new nD, upd_same⟩
      · rintro j H' hj ⟨s', hD⟩
        exact SqL.of (s' _ _ h3)
      · rintro j y H' hj ⟨s', hD⟩
        rw [List.getElem?_map] at hj
        obtain ⟨z, hz, rfl⟩ := Option.map_eq_some_iff.mp hj
        have lz := at_sumL hz
        have e7 : (Str.ofString "\n").length = 1 := by decide +kernel
        refine ⟨rfl, .str z, rfl, _, _, rfl, rfl, by omega, _, hD, ?_, ?_, ?_⟩
        · rw [List.length_map, List.length_map]
          have := List.length_take_le' j ls'
          omega
        · intro b o e
          rw [upd_ne (ne_of_none e nD)]
          exact s' _ _ e
        · rw [upd_same, List.take_add_one, hz, List.map_append, List.map_append]
          rfl
      · rintro H9 ⟨s9, hD⟩
        rw [List.length_map, List.take_length] at hD
        have hpg := page_sumL ls'
        have e1 : (Str.ofString "").length = 0 := by decide +kernel
        have e2 : ((ls'.map (· ++ nlS)).map (·.length)).sum + (ls'.map (· ++ nlS)).length * (Str.ofString "").length ≤ 16777216 := by
          rw [e1, Nat.mul_zero, Nat.add_zero]
          have e3 : (ls'.map (· ++ nlS)).map (·.length) = ls'.map fun z => z.length + 1 := by
            rw [List.map_map]
            refine List.map_congr_left fun z _ => ?_
            show (z ++ nlS).length = _
            rw [len_tl, tl_append, List.length_append, tl_nl, ← len_tl]
            rfl
          rw [e3]
          exact Nat.le_trans hs3 (by decide)
        exact ⟨_, D, ls'.map (· ++ nlS), rfl, rfl, .inl (SqL.of hD), e2, _, _, rfl, s9, Nat.le_trans hpg hs3⟩
    rintro σ H4 ⟨z, y5, rfl, s4, hz⟩
    have hP4 := hP3.mono s4
    have K4 : Keep p H H4 := fun b o e n => s4 _ _ (k3 _ _ e n)
    clear k3 hP3 s4 h3 hs3 hln H3
    -- option > 4
    refine ⟨fun σ H' => ∃ z y6 y7, σ = [some (.ref p), some (.ref l'), some (.int op), y3, some (.str z), y5, y6, y7] ∧ Keep p H H' ∧ Pen H' p c ∧ z.length ≤ 79321, ?_, ?_⟩
    · refine ⟨.int op, rfl, _, _, rfl, rfl, _, rfl, ite2 (fun _ => ?_) (fun _ => ⟨z, _, _, rfl, K4, hP4, by omega⟩)⟩
      have b100 : (79330 : Int) < 2 ^ 100 := by decide
      refine ⟨.ref p, rfl, .str z, rfl, _, z.length, rfl, ⟨by omega, rfl⟩, _, _, rfl, rfl, p, c, _, rfl, hP4, by omega, by omega, fun pl H5 pl0 pl1 k5 hP5 => ?_⟩
      refine ⟨.ref p, rfl, p, c, 21, rfl, hP5, by decide, by decide, fun sg H6 sg0 sg1 k6 hP6 => ?_⟩
      obtain ⟨kp, rfl⟩ : ∃ kp : Nat, pl = kp := ⟨pl.toNat, by omega⟩
      obtain ⟨ks, rfl⟩ : ∃ ks : Nat, sg = ks := ⟨sg.toNat, by omega⟩
      have hks : ks < SG.cps.toList.length := by
        have := SG_len
        rw [len_tl] at this
        show ks < (tl SG).length
        omega
      refine ⟨SG, (ks : Int), SG.cps.toList[ks], rfl, rfl, by rw [SG_len]; omega, atI_nat (List.getElem?_eq_getElem hks), _, _, rfl, ?_⟩
      have K6 : Keep p H H6 := fun b o e n => k6 _ _ (k5 _ _ (K4 _ _ e n) n) n
      generalize SG.cps.toList[ks] = ch
      unfold L2.tSeq L2.tAsg
      dsimp only
      refine cutE (t := tIf _ _ _) (fun v H' => ∃ x : Str, v = .str x ∧ x.length ≤ 1 ∧ Keep p H H' ∧ Pen H' p c) (fun Q' k' => ?_) (fun v H7 hv => ?_)
      · refine ⟨.ref p, rfl, p, c, 6, rfl, hP6, by decide, by decide, fun dv H7 e0 e1 k7 hP7 => ⟨rfl, _, rfl, ?_⟩⟩
        have K7 : Keep p H H7 := fun b o e n => k7 _ _ (K6 _ _ e n) n
        refine ite2 (fun _ => k' _ _ ⟨_, rfl, ?_, K7, hP7⟩) (fun _ => ⟨.str ⟨#[ch]⟩, rfl, k' _ _ ⟨_, rfl, Nat.le_refl 1, K7, hP7⟩⟩)
        exact (by decide +kernel : (Str.ofString "").length ≤ 1)
      · obtain ⟨x, rfl, lx, K7, hP7⟩ := hv
        have lt1 : (cutS z none (some (kp : Int))).length ≤ kp := by
          rw [len_tl, tl_cut_to, List.length_take]
          exact Nat.min_le_left _ _
        refine ⟨.str z, rfl, .int (kp : Int), rfl, (kp : Int), rfl, z, rfl, by omega, .str x, rfl, _, _, rfl, rfl, by omega, .str z, rfl, .int (kp : Int), rfl, .ref p, rfl, p, c, 2, rfl, hP7, by decide, by decide, fun d2 H8 f0 f1 k8 hP8 => ?_⟩
        obtain ⟨kd, rfl⟩ : ∃ kd : Nat, d2 = kd := ⟨d2.toNat, by omega⟩
        have lt2 : (cutS z (some ((kp : Int) + (kd : Int))) none).length ≤ z.length - kp := by
          rw [show (kp : Int) + (kd : Int) = ((kp + kd : Nat) : Int) by omega, len_tl, tl_cut_from, List.length_drop, ← len_tl]
          omega
        have la : (cutS z none (some (kp : Int)) ++ x).length = (cutS z none (some (kp : Int))).length + x.length := by
          rw [len_tl, tl_append, List.length_append, ← len_tl, ← len_tl]
        have lb : ((cutS z none (some (kp : Int)) ++ x) ++ cutS z (some ((kp : Int) + (kd : Int))) none).length = (cutS z none (some (kp : Int)) ++ x).length + (cutS z (some ((kp : Int) + (kd : Int))) none).length := by
          rw [len_tl, tl_append, List.length_append, ← len_tl, ← len_tl]
        refine ⟨_, _, rfl, rfl, _, rfl, z, rfl, by omega, _, _, rfl, rfl, by omega, _, _, _, rfl, fun b o e n => k8 _ _ (K7 _ _ e n) n, hP8, by omega⟩
    rintro σ H5 ⟨z, y6, y7, rfl, k5, hP5, hz⟩
    refine ⟨fun σ H' => ∃ z y6 y7, σ = [some (.ref p), some (.ref l'), some (.int op), y3, some (.str z), y5, y6, y7] ∧ Keep p H H' ∧ Pen H' p c ∧ z.length ≤ 79321, ?_, ?_⟩
    · refine ⟨.int op, rfl, rfl, _, rfl, ite2 (fun _ => ?_) (fun _ => ⟨z, _, _, rfl, k5, hP5, by omega⟩)⟩
      have b100 : (79330 : Int) < 2 ^ 100 := by decide
      refine ⟨.str z, rfl, .ref p, rfl, .str z, rfl, _, z.length, rfl, ⟨by omega, rfl⟩, _, _, rfl, rfl, p, c, _, rfl, hP5, by omega, by omega, fun pl H6 pl0 pl1 k6 hP6 => ?_⟩
      obtain ⟨kp, rfl⟩ : ∃ kp : Nat, pl = kp := ⟨pl.toNat, by omega⟩
      have lt1 : (cutS z none (some (kp : Int))).length ≤ kp := by
        rw [len_tl, tl_cut_to, List.length_take]
        exact Nat.min_le_left _ _
      exact ⟨_, rfl, z, rfl, by omega, _, _, _, rfl, fun b o e n => k6 _ _ (k5 _ _ e n) n, hP6, by omega⟩
    rintro σ H6 ⟨z, y6, y7, rfl, k6, hP6, hz⟩
    exact ⟨.str z, rfl, q z H6 k6 hP6 (by omega)⟩
end

open TL
/-! ### the law -/
def optND : Option Nat → PyData
  | none => .none
  | some k => .int (k : Int)
def pairD (q : Str × Option Nat) : PyData := .tuple [.str q.1, optND q.2]
theorem td_opt {H : Hp} : ∀ a : Option Nat, TD H (optN a) (optND a)
  | none => .non
  | some k => .int (k : Int)
theorem lay2 {H : Hp} {us : List V} {ds : List PyData} {t : Addr} (q : Str × Option Nat) {o : HO} (T : TDs H us ds) (n : H t = none) (eo : o = .tup [.str q.1, optN q.2]) : TDs (upd H t o) (us ++ [.ref t]) (ds ++ [pairD q]) := by
  subst eo
  exact TDs.app (TDs.mono (Tups.new n) _ T) (.cons (.tup upd_same (.cons (.str _) (.cons (td_opt _) .nil))) .nil)
theorem td_pair {H : Hp} {u : V} {q : Str × Option Nat} (h : TD H u (pairD q)) : ∃ t, u = .ref t ∧ H t = some (.tup [.str q.1, optN q.2]) := by
  obtain ⟨z, a⟩ := q
  cases h with
  | tup ht hx =>
    cases hx with
    | cons a1 r =>
      cases r with
      | cons a2 r2 =>
        cases r2
        cases a1
        cases a with
        | none =>
          cases a2
          exact ⟨_, rfl, ht⟩
        | some k =>
          cases a2
          exact ⟨_, rfl, ht⟩
def long1 : Str := Str.ofString "words " ++ Txt.mul (Str.ofString "1") 4400
def FX1 : List (Str × Option Nat) := [("", some 0), ("words 2", some 0), ("words 4\n", some 0), ("words 02\n", some 0), ("words 2\n", some 1)]
def FX2 : List (Str × Option Nat) := [("words 2\nstate 0 1\n", some 1), (long1 ++ Str.ofString "\n", some 0)]
def FX3 : List (Str × Option Nat) := [("words 1\nstate 0 0\nx", some 2), ("words 1\nstate 9 0\nx", some 1)]
def FX4 : List (Str × Option Nat) := [(Str.ofString "words 1\n" ++ Txt.mul (Str.ofString "state 0 0\n") 6, none), (Str.ofString "words 1\n" ++ Txt.mul (Str.ofString "state 0 0\n") 7, some 7)]
def FX5 : List (Str × Option Nat) := [(Str.ofString "words 1\nstate 0 0\nstate 0 0\n" ++ Str.ofString "rule 1 0 new 0\nrule 0 0 new 1\nrule 9 0 new 1\n", some 4)]
def GoodQ (q : Str × Option Nat) : Prop := dueM q.1 = q.2 ∧ q.1.length ≤ 100000
theorem tl_ones : tl (Txt.mul (Str.ofString "1") 4400) = List.replicate 4400 49 := by
  have e : Str.ofString "1" = ⟨#[49]⟩ := by decide +kernel
  rw [e]
  exact tl_mul (n := 4400) (by decide)
theorem tl_wosp : tl (Str.ofString "words ") = [119, 111, 114, 100, 115, 32] := by decide +kernel
theorem tl_long : tl long1 = [119, 111, 114, 100, 115, 32] ++ List.replicate 4400 49 := by
  unfold long1
  rw [tl_append, tl_ones, tl_wosp]
theorem long_len : long1.length = 4406 := by
  rw [len_tl, tl_long, List.length_append, List.length_replicate]
  rfl
theorem one_page (x : Str) : pageOf [x] = x ++ nlS := by
  unfold pageOf
  refine ext_tl ?_
  rw [join_eq, tl_join]
  rfl
theorem good_long : GoodQ (long1 ++ Str.ofString "\n", some 0) := by
  have hf : ∀ l ∈ [long1], 10 ∉ tl l := fun l hl => by
    rw [List.mem_singleton.mp hl, tl_long]
    intro z
    rcases List.mem_append.mp z with z | z
    · revert z
      decide
    · have := (List.mem_replicate.mp z).2
      omega
  have hs := page_split hf
  rw [one_page] at hs
  refine ⟨due_err (.first (l := long1) (by rw [hs]; rfl) ?_), ?_⟩
  · cases e : litF lit_FIRST_LINES long1 with
    | none => rfl
    | some n =>
      have hl := long_len
      rcases first_lits e with ⟨q, _⟩ | ⟨q, _⟩ | ⟨q, _⟩ <;> (rw [q] at hl; exact absurd hl (by decide +kernel))
  · show (long1 ++ nlS).length ≤ 100000
    rw [len_tl, tl_append, List.length_append, ← len_tl, long_len, tl_nl]
    decide
theorem good1 : ∀ q ∈ FX1, GoodQ q := fun q h => by
  unfold FX1 at h
  simp only [List.mem_cons, List.not_mem_nil, or_false] at h
  rcases h with rfl | rfl | rfl | rfl | rfl <;> exact ⟨by decide +kernel, by decide +kernel⟩
theorem good2 : ∀ q ∈ FX2, GoodQ q := fun q h => by
  unfold FX2 at h
  simp only [List.mem_cons, List.not_mem_nil, or_false] at h
  rcases h with rfl | rfl
  · exact ⟨by decide +kernel, by decide +kernel⟩
  · exact good_long
theorem good3 : ∀ q ∈ FX3, GoodQ q := fun q h => by
  unfold FX3 at h
  simp only [List.mem_cons, List.not_mem_nil, or_false] at h
  rcases h with rfl | rfl <;> exact ⟨by decide +kernel, by decide +kernel⟩
theorem good4 : ∀ q ∈ FX4, GoodQ q := fun q h => by
  unfold FX4 at h
  simp only [List.mem_cons, List.not_mem_nil, or_false] at h
  rcases h with rfl | rfl <;> exact ⟨by decide +kernel, by decide +kernel⟩
theorem good5 : ∀ q ∈ FX5, GoodQ q := fun q h => by
  unfold FX5 at h
  rw [List.mem_singleton] at h
  subst h
  exact ⟨by decide +kernel, by decide +kernel⟩
def Fx (H : Hp) (fl : Addr) (F : List (Str × Option Nat)) : Prop := ∃ us, H fl = some (.lst us) ∧ TDs H us (F.map pairD)
theorem Fx.len {H : Hp} {us : List V} {F : List (Str × Option Nat)} (h : TDs H us (F.map pairD)) : us.length = F.length := by rw [TDs.length h, List.length_map]
theorem dp_opts (K : PySem.W.Frag) (H : Hp) : ∀ l : List (Option Nat), DpAll K H (l.map optN) (l.map optND)
  | [] => .nil
  | none :: r => .cons .non (dp_opts K H r)
  | some k :: r => .cons (.int _) (dp_opts K H r)
theorem plan_sumL {P : Plan} (ok : PlanOk P) : sumL (linesOf P.words P.kinds (sortP P.rules)) ≤ 16080 := by
  have h1 : ∀ z ∈ linesOf P.words P.kinds (sortP P.rules), z.length ≤ 200 := fun z hz => line_len ok hz
  have h2 := lines_len ok
  have : ∀ l : List Str, (∀ z ∈ l, z.length ≤ 200) → sumL l ≤ l.length * 201 := fun l => by
    induction l with
    | nil => exact fun _ => Nat.zero_le _
    | cons z r ih =>
      intro h
      rw [sumL_cons, List.length_cons, Nat.succ_mul]
      have := ih fun x hx => h x (List.mem_cons_of_mem _ hx)
      have := h z List.mem_cons_self
      omega
  have := this _ h1
  omega
theorem fx_cat {H : Hp} {us : List V} {F : List (Str × Option Nat)} {q1 q2 : Str × Option Nat} {t1 t2 l2 f2 : Addr} {o1 o2 o3 o4 : HO} (hus : TDs H us (F.map pairD)) (n1 : H t1 = none) (n2 : (upd H t1 o1) t2 = none) (n3 : (upd (upd H t1 o1) t2 o2) l2 = none) (n4 : (upd (upd (upd H t1 o1) t2 o2) l2 o3) f2 = none)
    (e1 : o1 = .tup [.str q1.1, optN q1.2]) (e2 : o2 = .tup [.str q2.1, optN q2.2]) (e4 : o4 = .lst (us ++ [.ref t1, .ref t2])) : Fx (upd (upd (upd (upd H t1 o1) t2 o2) l2 o3) f2 o4) f2 (F ++ [q1, q2]) := by
  subst e4
  refine ⟨_, upd_same, ?_⟩
  rw [List.map_append]
  have a := TDs.mono (Tups.new (o := .lst (us ++ [.ref t1, .ref t2])) n4) _ (TDs.mono (Tups.new (o := o3) n3) _ (TDs.mono (Tups.new (o := o2) n2) _ (TDs.mono (Tups.new (o := o1) n1) _ hus)))
  have b := TDs.mono (Tups.new (o := .lst (us ++ [.ref t1, .ref t2])) n4) _ (TDs.mono (Tups.new (o := o3) n3) _ (lay2 q2 (lay2 q1 .nil n1 e1) n2 e2))
  exact TDs.app a b
theorem mul_st {n : Int} (h : n = 6 ∨ n = 7) : MulOk (Str.ofString "state 0 0\n") n := by
  have e : (Str.ofString "state 0 0\n").length = 10 := by decide +kernel
  unfold MulOk
  rw [e]
  rcases h with rfl | rfl <;> exact ⟨by decide, fun _ _ => by decide, fun _ _ => by decide⟩
def FXA : List (Str × Option Nat) := (((FX1 ++ FX2) ++ FX3) ++ FX4) ++ FX5
theorem goodA : ∀ q ∈ FXA, GoodQ q := fun q h => by
  unfold FXA at h
  simp only [List.mem_append] at h
  rcases h with (((h | h) | h) | h) | h
  · exact good1 q h
  · exact good2 q h
  · exact good3 q h
  · exact good4 q h
  · exact good5 q h
theorem shapedA : SeqAt.shaped (.list ((FXA.map (·.2)).map optND)) = true := by decide +kernel
def sp_law (K : PySem.W.Frag) : Sp := fun vs H Q _ => ∃ (a : Addr) (ns : List Int), vs = [.ref a] ∧ SqL K H a (ns.map V.int) ∧ ns.length ≤ 63 ∧ ∀ H', Q (.bl true) H'
section
variable {P : Program} {w : World} {K : PySem.W.Frag} {mg : Str → Option Value} {base : Heap}
abbrev N_law : List Str := ["script", "pen", "turn", "text", "fixed", "three", "at"]
theorem sc_law : FnScope N_law ["script"] (defScope s_law) := ⟨rfl, rfl, rfl, by decide +kernel, rfl, by decide +kernel, by decide +kernel⟩
theorem ok_law (T : Tx K mg) (hw : T.pr = w.params) {f : Addr} {fd : FuncData} (F : Fun K "law" "law" s_law f fd) : FnG P w K mg base CX0 11 f fd ["script"] (sp_law K) := by
  refine okG F sc_law (fun vs H Q E h => ?_) (fun cdv A outer s H vs Q E gd hr h => ?_)
  · obtain ⟨a, ns, rfl, _⟩ := h
    rfl
  · obtain ⟨a, ns, rfl, hS, hl, q⟩ := h
    have L5 := line5
    refine ⟨_, 
      (pss_cons (ps_set (i := 1) sc_law.nd rfl (.inl rfl) (pe_callG (G_law_pen T) gd (hr.mono (by decide)) rfl T.law_pen.g T.law_pen.F.kp T.law_pen.b .nil pass0 (pa_cons (pv 0) pa_nil))) -- pen = _law_pen(script)
      (C8.pss_cut (ps_for PassesOwn.never rfl (pi_range1 rfl T.m_range (pa_cons pe_int pa_nil)) (pg_name (i := 2) sc_law.nd rfl (.inl rfl)) 
        (pss_cons (ps_set (i := 3) sc_law.nd rfl (.inl rfl) (pe_callG (G_law_spoilt T) gd (hr.mono (by decide)) rfl T.law_spoilt.g T.law_spoilt.F.kp T.law_spoilt.b .nil pass0 (pa_cons (pv 1) (pa_cons (pe_callG (G_law_plan_text T) gd (hr.mono (by decide)) rfl T.law_plan_text.g T.law_plan_text.F.kp T.law_plan_text.b .nil pass0 (pa_cons (pe_callG (G_law_plan T) gd (hr.mono (by decide)) rfl T.law_plan.g T.law_plan.F.kp T.law_plan.b .nil pass0 (pa_cons (pv 1) (pa_cons (pe_op op_add pe_int (pe_callG (G_law_draw T) gd (hr.mono (by decide)) rfl T.law_draw.g T.law_draw.F.kp T.law_draw.b .nil pass0 (pa_cons (pv 1) (pa_cons pe_int pa_nil)))) (pa_cons pe_int (pa_cons pe_int pa_nil))))) pa_nil)) pa_nil)))) -- text = _law_spoilt(pen, _law_plan_text(_law_plan(pen, 1 + _law_draw(pen, 3), 5, 3)))
        (pss_one (ps_if (pt_cmpR op_ne (pe_callG (G_law_raised T hw) gd (hr.mono (by decide)) rfl T.law_raised.g T.law_raised.F.kp T.law_raised.b .nil pass0 (pa_cons (pv 3) pa_nil)) (pe_callG (G_law_due T) gd (hr.mono (by decide)) rfl T.law_due.g T.law_due.F.kp T.law_due.b .nil pass0 (pa_cons (pv 3) pa_nil)) (nomark _)) 
          (pss_one (ps_ret pe_bl)) -- return False
           pss_nil)) -- if _law_raised(text) != _law_due(text):
        )) -- for turn in range(6):
      (C8.pss_cut (ps_set (i := 4) sc_law.nd rfl (.inl rfl) (pe_lst (pa_cons (pe_tup (pa_cons pe_str (pa_cons pe_int pa_nil))) (pa_cons (pe_tup (pa_cons pe_str (pa_cons pe_int pa_nil))) (pa_cons (pe_tup (pa_cons pe_str (pa_cons pe_int pa_nil))) (pa_cons (pe_tup (pa_cons pe_str (pa_cons pe_int pa_nil))) (pa_cons (pe_tup (pa_cons pe_str (pa_cons pe_int pa_nil))) pa_nil))))))) -- fixed = [('', 0), ('words 2', 0), ('words 4\n', 0), ('words 02\n', 0), ('words 2\n', 1)]
      (C8.pss_cut (ps_set (i := 4) sc_law.nd rfl (.inl rfl) (pe_op op_cat (pv 4) (pe_lst (pa_cons (pe_tup (pa_cons pe_str (pa_cons pe_int pa_nil))) (pa_cons (pe_tup (pa_cons (pe_op op_add_str (pe_op op_add_str pe_str (pe_op op_mulS pe_str pe_int)) pe_str) (pa_cons pe_int pa_nil))) pa_nil))))) -- fixed = fixed + [('words 2\nstate 0 1\n', 1), ('words ' + '1' * 4400 + '\n', 0)]
      (C8.pss_cut (ps_set (i := 4) sc_law.nd rfl (.inl rfl) (pe_op op_cat (pv 4) (pe_lst (pa_cons (pe_tup (pa_cons pe_str (pa_cons pe_int pa_nil))) (pa_cons (pe_tup (pa_cons pe_str (pa_cons pe_int pa_nil))) pa_nil))))) -- fixed = fixed + [('words 1\nstate 0 0\nx', 2), ('words 1\nstate 9 0\nx', 1)]
      (C8.pss_cut (ps_set (i := 4) sc_law.nd rfl (.inl rfl) (pe_op op_cat (pv 4) (pe_lst (pa_cons (pe_tup (pa_cons (pe_op op_add_str pe_str (pe_op op_mulS pe_str pe_int)) (pa_cons pe_non pa_nil))) (pa_cons (pe_tup (pa_cons (pe_op op_add_str pe_str (pe_op op_mulS pe_str pe_int)) (pa_cons pe_int pa_nil))) pa_nil))))) -- fixed = fixed + [('words 1\n' + 'state 0 0\n' * 6, None), ('words 1\n' + 'state 0 0\n' * 7, 7)]
      (pss_cons (ps_set (i := 5) sc_law.nd rfl (.inl rfl) pe_str) -- three = 'words 1\nstate 0 0\nstate 0 0\n'
      (pss_cons (ps_expr (pe_bm PySem.F.plainAttrs_list PySem.F.slot_list_append PySem.F.type_list_append mt_append (pv 4) (pa_cons (pe_tup (pa_cons (pe_op op_add_str (pv 5) pe_str) (pa_cons pe_int pa_nil))) pa_nil))) -- fixed.append((three + 'rule 1 0 new 0\nrule 0 0 new 1\nrule 9 0 new 1\n', 4))
      (pss_one (ps_ret (pe_cmpR (op_eqD hr.units) (pe_lc (own := [("text", 3), ("at", 6)]) (g := gTup K 2 (gCons (gName 3) (gCons (gName 6) gNil))) rfl sc_law.nd (pi_list (pv 4)) (blkOk_by (N := N_law) (sc := defScope s_law) (by decide +kernel)) (fun _ _ _ _ _ => (pg_tup rfl (pgs_cons (pg_name (i := 3) sc_law.nd rfl (.inl rfl)) (pgs_cons (pg_name (i := 6) sc_law.nd rfl (.inl rfl)) pgs_nil)))) (fun _ _ _ _ _ => pts_nil) (fun _ _ _ _ _ => (pe_callG (G_law_raised T hw) gd (hr.mono (by decide)) rfl T.law_raised.g T.law_raised.F.kp T.law_raised.b .nil pass0 (pa_cons (pv 3) pa_nil)))) (pe_lc (own := [("text", 3), ("at", 6)]) (g := gTup K 2 (gCons (gName 3) (gCons (gName 6) gNil))) rfl sc_law.nd (pi_list (pv 4)) (blkOk_by (N := N_law) (sc := defScope s_law) (by decide +kernel)) (fun _ _ _ _ _ => (pg_tup rfl (pgs_cons (pg_name (i := 3) sc_law.nd rfl (.inl rfl)) (pgs_cons (pg_name (i := 6) sc_law.nd rfl (.inl rfl)) pgs_nil)))) (fun _ _ _ _ _ => pts_nil) (fun _ _ _ _ _ => (pv 6))) (nomark _)))) -- return [_law_raised(text) for text, at in fixed] == [at for text, at in fixed]
      )))))))) , ?_⟩
    refine ⟨.ref a, rfl, a, ns, rfl, hS, hl, fun p c H1 s1 np nc hP => ?_⟩
    refine ⟨fun σ H' => ∃ y2 y3, σ = [some (.ref a), some (.ref p), y2, y3, none, none, none], ?_, ?_⟩
    · refine ⟨6, rfl, by decide, by decide, ?_⟩
      refine for_range (n := 6) (fun i σ H' => ∃ y2 y3, σ = [some (.ref a), some (.ref p), y2, y3, none, none, none] ∧ Pen H' p c) ?_ ?_ ?_
      · exact ⟨none, none, rfl, hP⟩
      · rintro i σ H2 hi ⟨y2, y3, rfl, hP⟩
        generalize 0 + (i : Int) = tn
        refine ⟨.ref p, rfl, .ref p, rfl, .ref p, rfl, p, c, 3, rfl, hP, by decide, by decide, fun d H3 d0 d1 k3 hP3 => ?_⟩
        refine ⟨1, d, rfl, rfl, p, c, 1 + d, 5, 3, rfl, hP3, by omega, by omega, by decide, by decide, by decide, by decide, fun l kl rl pl H4 ew k4 hP4 fl fk fr hp ok lk => ?_⟩
        refine ⟨l, kl, rl, pl, rfl, hp, ok, fun tl H5 s5 nt htl => ?_⟩
        refine ⟨p, c, tl, _, rfl, hP4.mono s5, htl, plan_sumL ok, fun z H6 k6 hP6 hz => ?_⟩
        refine ⟨.str z, rfl, z, rfl, hz, fun H7 s7 => ⟨.str z, rfl, z, rfl, hz, fun H8 s8 => ?_⟩⟩
        refine ⟨?_, _, rfl, ?_⟩
        · cases dueM z <;> rfl
        · exact iteNS rfl ⟨_, _, rfl, (hP6.mono s7).mono s8⟩
      · rintro σ H2 ⟨y2, y3, rfl, hP⟩
        exact ⟨y2, y3, rfl⟩
    clear hP s1 np nc hS
    rintro σ H2 ⟨y2, y3, rfl⟩
    refine ⟨fun σ H' => ∃ fl, σ = [some (.ref a), some (.ref p), y2, y3, some (.ref fl), none, none] ∧ Fx H' fl FX1, ?_, ?_⟩
    · refine ⟨by show 2 ≤ sizeLine; decide, fun t1 n1 => ⟨by show 2 ≤ sizeLine; decide, fun t2 n2 => ⟨by show 2 ≤ sizeLine; decide, fun t3 n3 => ⟨by show 2 ≤ sizeLine; decide, fun t4 n4 => ⟨by show 2 ≤ sizeLine; decide, fun t5 n5 => ⟨by show 5 ≤ sizeLine; decide, fun fl nfl => ⟨fl, rfl, ?_⟩⟩⟩⟩⟩⟩⟩
      exact ⟨_, upd_same, TDs.mono (Tups.new nfl) _ (lay2 ("words 2\n", some 1) (lay2 ("words 02\n", some 0) (lay2 ("words 4\n", some 0) (lay2 ("words 2", some 0) (lay2 ("", some 0) .nil n1 rfl) n2 rfl) n3 rfl) n4 rfl) n5 rfl)⟩
    rintro σ H3 ⟨fl, rfl, us, hfl, hus⟩
    refine ⟨fun σ H' => ∃ fl, σ = [some (.ref a), some (.ref p), y2, y3, some (.ref fl), none, none] ∧ Fx H' fl (FX1 ++ FX2), ?_, ?_⟩
    · have lus := Fx.len hus
      refine ⟨.ref fl, rfl, by show 2 ≤ sizeLine; decide, fun t1 n1 => ⟨_, 4400, rfl, rfl, mul_ok (by decide +kernel) (.inr (.inr rfl)), _, _, rfl, rfl, ?_, _, _, rfl, rfl, ?_, by show 2 ≤ sizeLine; decide, fun t2 n2 => ⟨by show 2 ≤ sizeLine; decide, fun l2 nl2 => ⟨fl, l2, us, _, rfl, rfl, same_new nl2 _ _ (same_new n2 _ _ (same_new n1 _ _ hfl)), upd_same, ?_, fun f2 nf2 => ⟨f2, rfl, fx_cat (q1 := ("words 2\nstate 0 1\n", some 1)) (q2 := (long1 ++ Str.ofString "\n", some 0)) hus n1 n2 nl2 nf2 rfl rfl rfl⟩⟩⟩⟩⟩
      · have e := mul_len (z := Str.ofString "1") ⟨49, by decide +kernel⟩ (n := 4400) (by decide)
        have e2 : (Str.ofString "words ").length = 6 := by decide +kernel
        have e3 : (Txt.mul (Str.ofString "1") 4400).length = 4400 := e
        omega
      · have e2 : (Str.ofString "\n").length = 1 := by decide +kernel
        have e3 : (Str.ofString "words " ++ Txt.mul (Str.ofString "1") 4400).length = 4406 := long_len
        omega
      · show us.length + 2 ≤ sizeLine
        have : FX1.length = 5 := rfl
        omega
    clear hus hfl
    rintro σ H4 ⟨fl, rfl, us, hfl, hus⟩
    refine ⟨fun σ H' => ∃ fl, σ = [some (.ref a), some (.ref p), y2, y3, some (.ref fl), none, none] ∧ Fx H' fl ((FX1 ++ FX2) ++ FX3), ?_, ?_⟩
    · have lus := Fx.len hus
      refine ⟨.ref fl, rfl, by show 2 ≤ sizeLine; decide, fun t1 n1 => ⟨by show 2 ≤ sizeLine; decide, fun t2 n2 => ⟨by show 2 ≤ sizeLine; decide, fun l2 nl2 => ⟨fl, l2, us, _, rfl, rfl, same_new nl2 _ _ (same_new n2 _ _ (same_new n1 _ _ hfl)), upd_same, ?_, fun f2 nf2 => ⟨f2, rfl, fx_cat (q1 := ("words 1\nstate 0 0\nx", some 2)) (q2 := ("words 1\nstate 9 0\nx", some 1)) hus n1 n2 nl2 nf2 rfl rfl rfl⟩⟩⟩⟩⟩
      show us.length + 2 ≤ sizeLine
      have : (FX1 ++ FX2).length = 7 := rfl
      omega
    clear hus hfl
    rintro σ H5 ⟨fl, rfl, us, hfl, hus⟩
    refine ⟨fun σ H' => ∃ fl, σ = [some (.ref a), some (.ref p), y2, y3, some (.ref fl), none, none] ∧ Fx H' fl (((FX1 ++ FX2) ++ FX3) ++ FX4), ?_, ?_⟩
    · have lus := Fx.len hus
      refine ⟨.ref fl, rfl, _, 6, rfl, rfl, mul_st (.inl rfl), _, _, rfl, rfl, ?_, by show 2 ≤ sizeLine; decide, fun t1 n1 => ⟨_, 7, rfl, rfl, mul_st (.inr rfl), _, _, rfl, rfl, ?_, by show 2 ≤ sizeLine; decide, fun t2 n2 => ⟨by show 2 ≤ sizeLine; decide, fun l2 nl2 => ⟨fl, l2, us, _, rfl, rfl, same_new nl2 _ _ (same_new n2 _ _ (same_new n1 _ _ hfl)), upd_same, ?_, fun f2 nf2 => ⟨f2, rfl, fx_cat (q1 := (Str.ofString "words 1\n" ++ Txt.mul (Str.ofString "state 0 0\n") 6, none)) (q2 := (Str.ofString "words 1\n" ++ Txt.mul (Str.ofString "state 0 0\n") 7, some 7)) hus n1 n2 nl2 nf2 rfl rfl rfl⟩⟩⟩⟩⟩
      · exact Nat.le_trans (by decide +kernel : (Str.ofString "words 1\n").length + (Txt.mul (Str.ofString "state 0 0\n") 6).length ≤ 200000) L5
      · exact Nat.le_trans (by decide +kernel : (Str.ofString "words 1\n").length + (Txt.mul (Str.ofString "state 0 0\n") 7).length ≤ 200000) L5
      · show us.length + 2 ≤ sizeLine
        have : ((FX1 ++ FX2) ++ FX3).length = 9 := rfl
        omega
    clear hus hfl
    rintro σ H6 ⟨fl, rfl, us, hfl, hus⟩
    have lus := Fx.len hus
    have l11 : (((FX1 ++ FX2) ++ FX3) ++ FX4).length = 11 := rfl
    refine ⟨.ref fl, rfl, .inl ⟨rfl, _, SqL.of hfl⟩, .str (Str.ofString "words 1\nstate 0 0\nstate 0 0\n"), rfl, _, _, rfl, rfl, ?_, by show 2 ≤ sizeLine; decide, fun t1 n1 => ⟨fl, us, .ref t1, rfl, rfl, same_new n1 _ _ hfl, by omega, ?_⟩⟩
    · exact Nat.le_trans (by decide +kernel : (Str.ofString "words 1\nstate 0 0\nstate 0 0\n").length + (Str.ofString "rule 1 0 new 0\nrule 0 0 new 1\nrule 9 0 new 1\n").length ≤ 200000) L5
    have hfl1 := same_new (o := .tup [.str (Str.ofString "words 1\nstate 0 0\nstate 0 0\n" ++ Str.ofString "rule 1 0 new 0\nrule 0 0 new 1\nrule 9 0 new 1\n"), .int 4]) n1 _ _ hfl
    have hfx : Fx (upd (upd H6 t1 (.tup [.str (Str.ofString "words 1\nstate 0 0\nstate 0 0\n" ++ Str.ofString "rule 1 0 new 0\nrule 0 0 new 1\nrule 9 0 new 1\n"), .int 4])) fl (.lst (us ++ [.ref t1]))) fl FXA := by
      refine ⟨_, upd_same, ?_⟩
      have b := lay2 (Str.ofString "words 1\nstate 0 0\nstate 0 0\n" ++ Str.ofString "rule 1 0 new 0\nrule 0 0 new 1\nrule 9 0 new 1\n", some 4) hus n1 rfl
      unfold FXA
      rw [List.map_append]
      exact TDs.mono (Tups.lst hfl1) _ b
    generalize upd (upd H6 t1 (.tup [.str (Str.ofString "words 1\nstate 0 0\nstate 0 0\n" ++ Str.ofString "rule 1 0 new 0\nrule 0 0 new 1\nrule 9 0 new 1\n"), .int 4])) fl (.lst (us ++ [.ref t1])) = H7 at *
    clear hus hfl hfl1 n1 lus l11
    obtain ⟨us, hfl, hus⟩ := hfx
    have lA : FXA.length = 12 := rfl
    have lus := Fx.len hus
    have hgood := goodA
    have hsh := shapedA
    generalize FXA = FX at *
    refine ⟨.ref fl, rfl, fl, rfl, ⟨_, SqL.of hfl⟩, fun D nD => ?_⟩
    refine lc_list (K := K) (a := fl) (xs := us) (fun j H' => Same H7 H' ∧ H' D = some (.lst (((FX.take j).map (·.2)).map optN))) ?_ ?_ ?_ ?_
    · exact ⟨same_new nD, upd_same⟩
    · rintro j H' hj ⟨s', hD⟩
      exact SqL.of (s' _ _ hfl)
    · rintro j x H' hj ⟨s', hD⟩
      obtain ⟨d, hd, htd⟩ := hus.get hj
      rw [List.getElem?_map] at hd
      obtain ⟨qq, hq, rfl⟩ := Option.map_eq_some_iff.mp hd
      obtain ⟨t, rfl, ht⟩ := td_pair htd
      obtain ⟨g1, g2⟩ := hgood qq (List.mem_of_getElem? hq)
      refine ⟨t, _, rfl, SqT.of (s' _ _ ht), rfl, .str qq.1, _, rfl, optN qq.2, [], rfl, rfl, rfl, .str qq.1, rfl, qq.1, rfl, g2, fun H8 s8 => ⟨_, s8 _ _ hD, ?_, ?_, ?_⟩⟩
      · rw [List.length_map, List.length_map]
        have := List.length_take_le' j FX
        omega
      · intro b o e
        rw [upd_ne (ne_of_none e nD)]
        exact s8 _ _ (s' _ _ e)
      · rw [upd_same, List.take_add_one, hq, List.map_append, List.map_append, g1]
        rfl
    rintro H8 ⟨s8, hD⟩
    rw [lus, List.take_length] at hD
    refine ⟨.ref fl, rfl, fl, rfl, ⟨_, SqL.of (s8 _ _ hfl)⟩, fun D2 nD2 => ?_⟩
    refine lc_list (K := K) (a := fl) (xs := us) (fun j H' => Same H8 H' ∧ H' D2 = some (.lst (((FX.take j).map (·.2)).map optN))) ?_ ?_ ?_ ?_
    · exact ⟨same_new nD2, upd_same⟩
    · rintro j H' hj ⟨s', hD⟩
      exact SqL.of (s' _ _ (s8 _ _ hfl))
    · rintro j x H' hj ⟨s', hD2⟩
      obtain ⟨d, hd, htd⟩ := hus.get hj
      rw [List.getElem?_map] at hd
      obtain ⟨qq, hq, rfl⟩ := Option.map_eq_some_iff.mp hd
      obtain ⟨t, rfl, ht⟩ := td_pair htd
      refine ⟨t, _, rfl, SqT.of (s' _ _ (s8 _ _ ht)), rfl, .str qq.1, _, rfl, optN qq.2, [], rfl, rfl, rfl, optN qq.2, rfl, _, hD2, ?_, ?_, ?_⟩
      · rw [List.length_map, List.length_map]
        have := List.length_take_le' j FX
        omega
      · intro b o e
        rw [upd_ne (ne_of_none e nD2)]
        exact s' _ _ e
      · rw [upd_same, List.take_add_one, hq, List.map_append, List.map_append]
        rfl
    rintro H9 ⟨s9, hD2⟩
    rw [lus, List.take_length] at hD2
    refine ⟨_, _, .lst (SqL.of (s9 _ _ hD)) (dp_opts K H9 _), .lst (SqL.of hD2) (dp_opts K H9 _), hsh, hsh, ?_⟩
    rw [SeqAt.eqv_refl _ (SeqAt.canLay_of_shaped hsh)]
    exact q H9
end

theorem all_mk {l : PySem.W.OpenLaw} {w : World} {K : PySem.W.Frag} {h : Heap} {mg : Str → Option Value} {fa f_is_integer f_is_between f_Watcher_init f_Watcher_len f_Watcher_add_state f_Watcher_set_verdict f_Watcher_add_rule f_Watcher_verdicts f_Watcher_held_counts f_Watcher_rules f_Watcher_require_state f_Watcher_require_word f_require_verdict f_is_test f_are_sources f_is_source f_rule_order f_part_order f_format_watcher f_parse_watcher f_read_line f_read_parts f_read_start f_read_state f_read_rule f_law_pen f_law_fresh f_law_draw f_law_some_sources f_law_plan f_law_rank f_law_plan_text f_law_whole f_law_kind_of f_law_sources f_law_rule f_law_due f_law_raised f_law_lines_spoilt f_law_spoilt f_law : Addr} (X : K.In h) (G : h.Ns mainGlobals mg) (hfa : mg "law" = some (.ref fa))
    {od0 an0 od1 an1 od2 an2 od3 an3 od4 an4 od5 an5 od6 an6 od7 an7 od8 an8 od9 an9 od10 an10 od11 an11 od12 an12 od13 an13 od14 an14 od15 an15 od16 an16 od17 an17 od18 an18 od19 an19 od20 an20 od21 an21 od22 an22 od23 an23 od24 an24 od25 an25 od26 an26 od27 an27 od28 an28 od29 an29 od30 an30 od31 an31 od32 an32 od33 an33 od34 an34 od35 an35 od36 an36 od37 an37 od38 an38 od39 an39 od40 an40 : Option Addr} {sl0 sl1 sl2 sl3 sl4 sl5 sl6 sl7 sl8 sl9 sl10 sl11 sl12 sl13 sl14 sl15 sl16 sl17 sl18 sl19 sl20 sl21 sl22 sl23 sl24 sl25 sl26 sl27 sl28 sl29 sl30 sl31 sl32 sl33 sl34 sl35 sl36 sl37 sl38 sl39 sl40 : Array (Option Value)} {oc0 kV0 dc0 pm0 cd0 ct0 oc1 kV1 dc1 pm1 cd1 ct1 oc2 kV2 dc2 pm2 cd2 ct2 oc3 kV3 dc3 pm3 cd3 ct3 oc4 kV4 dc4 pm4 cd4 ct4 oc5 kV5 dc5 pm5 cd5 ct5 oc6 kV6 dc6 pm6 cd6 ct6 oc7 kV7 dc7 pm7 cd7 ct7 oc8 kV8 dc8 pm8 cd8 ct8 oc9 kV9 dc9 pm9 cd9 ct9 oc10 kV10 dc10 pm10 cd10 ct10 oc11 kV11 dc11 pm11 cd11 ct11 oc12 kV12 dc12 pm12 cd12 ct12 oc13 kV13 dc13 pm13 cd13 ct13 oc14 kV14 dc14 pm14 cd14 ct14 oc15 kV15 dc15 pm15 cd15 ct15 oc16 kV16 dc16 pm16 cd16 ct16 oc17 kV17 dc17 pm17 cd17 ct17 oc18 kV18 dc18 pm18 cd18 ct18 oc19 kV19 dc19 pm19 cd19 ct19 oc20 kV20 dc20 pm20 cd20 ct20 oc21 kV21 dc21 pm21 cd21 ct21 oc22 kV22 dc22 pm22 cd22 ct22 oc23 kV23 dc23 pm23 cd23 ct23 oc24 kV24 dc24 pm24 cd24 ct24 oc25 kV25 dc25 pm25 cd25 ct25 oc26 kV26 dc26 pm26 cd26 ct26 oc27 kV27 dc27 pm27 cd27 ct27 oc28 kV28 dc28 pm28 cd28 ct28 oc29 kV29 dc29 pm29 cd29 ct29 oc30 kV30 dc30 pm30 cd30 ct30 oc31 kV31 dc31 pm31 cd31 ct31 oc32 kV32 dc32 pm32 cd32 ct32 oc33 kV33 dc33 pm33 cd33 ct33 oc34 kV34 dc34 pm34 cd34 ct34 oc35 kV35 dc35 pm35 cd35 ct35 oc36 kV36 dc36 pm36 cd36 ct36 oc37 kV37 dc37 pm37 cd37 ct37 oc38 kV38 dc38 pm38 cd38 ct38 oc39 kV39 dc39 pm39 cd39 ct39 oc40 kV40 dc40 pm40 cd40 ct40 : Value}
    {ck_MOST_WORDS ck_MOST_STATES ck_MOST_HELD ck_MOST_VERDICT ck_NEW ck_VALUE : Tok}
    {C_Watcher : Addr}
    (a0 : PySem.W.nsIn K mainGlobals "is_integer" = some (some (.ref f_is_integer)))
    (l0 : K.lookup f_is_integer = some ⟨oc0, od0, .func (PySem.W.fnOf "is_integer" "is_integer" (defArgs s_is_integer) (defBody s_is_integer) (defScope s_is_integer) .none kV0 dc0 pm0 an0 cd0 ct0), sl0⟩) (c0 : PySem.W.codeIn K cd0 "is_integer" = true) (k0 : PySem.W.keepIn K (.ref f_is_integer) = true)
    (a1 : PySem.W.nsIn K mainGlobals "is_between" = some (some (.ref f_is_between)))
    (l1 : K.lookup f_is_between = some ⟨oc1, od1, .func (PySem.W.fnOf "is_between" "is_between" (defArgs s_is_between) (defBody s_is_between) (defScope s_is_between) .none kV1 dc1 pm1 an1 cd1 ct1), sl1⟩) (c1 : PySem.W.codeIn K cd1 "is_between" = true) (k1 : PySem.W.keepIn K (.ref f_is_between) = true)
    (a2 : PySem.W.findIn K (.ref C_Watcher) "__init__" = some (some (.ref f_Watcher_init))) (i2 : PySem.W.isFn K (.ref f_Watcher_init) = true)
    (l2 : K.lookup f_Watcher_init = some ⟨oc2, od2, .func (PySem.W.fnOf "__init__" "Watcher.__init__" (defArgs s_Watcher_init) (defBody s_Watcher_init) (defScope s_Watcher_init) .none kV2 dc2 pm2 an2 cd2 ct2), sl2⟩) (c2 : PySem.W.codeIn K cd2 "Watcher.__init__" = true) (k2 : PySem.W.keepIn K (.ref f_Watcher_init) = true)
    (a3 : PySem.W.findIn K (.ref C_Watcher) "__len__" = some (some (.ref f_Watcher_len))) (i3 : PySem.W.isFn K (.ref f_Watcher_len) = true)
    (l3 : K.lookup f_Watcher_len = some ⟨oc3, od3, .func (PySem.W.fnOf "__len__" "Watcher.__len__" (defArgs s_Watcher_len) (defBody s_Watcher_len) (defScope s_Watcher_len) .none kV3 dc3 pm3 an3 cd3 ct3), sl3⟩) (c3 : PySem.W.codeIn K cd3 "Watcher.__len__" = true) (k3 : PySem.W.keepIn K (.ref f_Watcher_len) = true)
    (a4 : PySem.W.findIn K (.ref C_Watcher) "add_state" = some (some (.ref f_Watcher_add_state))) (i4 : PySem.W.isFn K (.ref f_Watcher_add_state) = true)
    (l4 : K.lookup f_Watcher_add_state = some ⟨oc4, od4, .func (PySem.W.fnOf "add_state" "Watcher.add_state" (defArgs s_Watcher_add_state) (defBody s_Watcher_add_state) (defScope s_Watcher_add_state) .none kV4 dc4 pm4 an4 cd4 ct4), sl4⟩) (c4 : PySem.W.codeIn K cd4 "Watcher.add_state" = true) (k4 : PySem.W.keepIn K (.ref f_Watcher_add_state) = true)
    (a5 : PySem.W.findIn K (.ref C_Watcher) "set_verdict" = some (some (.ref f_Watcher_set_verdict))) (i5 : PySem.W.isFn K (.ref f_Watcher_set_verdict) = true)
    (l5 : K.lookup f_Watcher_set_verdict = some ⟨oc5, od5, .func (PySem.W.fnOf "set_verdict" "Watcher.set_verdict" (defArgs s_Watcher_set_verdict) (defBody s_Watcher_set_verdict) (defScope s_Watcher_set_verdict) .none kV5 dc5 pm5 an5 cd5 ct5), sl5⟩) (c5 : PySem.W.codeIn K cd5 "Watcher.set_verdict" = true) (k5 : PySem.W.keepIn K (.ref f_Watcher_set_verdict) = true)
    (a6 : PySem.W.findIn K (.ref C_Watcher) "add_rule" = some (some (.ref f_Watcher_add_rule))) (i6 : PySem.W.isFn K (.ref f_Watcher_add_rule) = true)
    (l6 : K.lookup f_Watcher_add_rule = some ⟨oc6, od6, .func (PySem.W.fnOf "add_rule" "Watcher.add_rule" (defArgs s_Watcher_add_rule) (defBody s_Watcher_add_rule) (defScope s_Watcher_add_rule) .none kV6 dc6 pm6 an6 cd6 ct6), sl6⟩) (c6 : PySem.W.codeIn K cd6 "Watcher.add_rule" = true) (k6 : PySem.W.keepIn K (.ref f_Watcher_add_rule) = true)
    (a7 : PySem.W.findIn K (.ref C_Watcher) "verdicts" = some (some (.ref f_Watcher_verdicts))) (i7 : PySem.W.isFn K (.ref f_Watcher_verdicts) = true)
    (l7 : K.lookup f_Watcher_verdicts = some ⟨oc7, od7, .func (PySem.W.fnOf "verdicts" "Watcher.verdicts" (defArgs s_Watcher_verdicts) (defBody s_Watcher_verdicts) (defScope s_Watcher_verdicts) .none kV7 dc7 pm7 an7 cd7 ct7), sl7⟩) (c7 : PySem.W.codeIn K cd7 "Watcher.verdicts" = true) (k7 : PySem.W.keepIn K (.ref f_Watcher_verdicts) = true)
    (a8 : PySem.W.findIn K (.ref C_Watcher) "held_counts" = some (some (.ref f_Watcher_held_counts))) (i8 : PySem.W.isFn K (.ref f_Watcher_held_counts) = true)
    (l8 : K.lookup f_Watcher_held_counts = some ⟨oc8, od8, .func (PySem.W.fnOf "held_counts" "Watcher.held_counts" (defArgs s_Watcher_held_counts) (defBody s_Watcher_held_counts) (defScope s_Watcher_held_counts) .none kV8 dc8 pm8 an8 cd8 ct8), sl8⟩) (c8 : PySem.W.codeIn K cd8 "Watcher.held_counts" = true) (k8 : PySem.W.keepIn K (.ref f_Watcher_held_counts) = true)
    (a9 : PySem.W.findIn K (.ref C_Watcher) "rules" = some (some (.ref f_Watcher_rules))) (i9 : PySem.W.isFn K (.ref f_Watcher_rules) = true)
    (l9 : K.lookup f_Watcher_rules = some ⟨oc9, od9, .func (PySem.W.fnOf "rules" "Watcher.rules" (defArgs s_Watcher_rules) (defBody s_Watcher_rules) (defScope s_Watcher_rules) .none kV9 dc9 pm9 an9 cd9 ct9), sl9⟩) (c9 : PySem.W.codeIn K cd9 "Watcher.rules" = true) (k9 : PySem.W.keepIn K (.ref f_Watcher_rules) = true)
    (a10 : PySem.W.findIn K (.ref C_Watcher) "require_state" = some (some (.ref f_Watcher_require_state))) (i10 : PySem.W.isFn K (.ref f_Watcher_require_state) = true)
    (l10 : K.lookup f_Watcher_require_state = some ⟨oc10, od10, .func (PySem.W.fnOf "require_state" "Watcher.require_state" (defArgs s_Watcher_require_state) (defBody s_Watcher_require_state) (defScope s_Watcher_require_state) .none kV10 dc10 pm10 an10 cd10 ct10), sl10⟩) (c10 : PySem.W.codeIn K cd10 "Watcher.require_state" = true) (k10 : PySem.W.keepIn K (.ref f_Watcher_require_state) = true)
    (a11 : PySem.W.findIn K (.ref C_Watcher) "require_word" = some (some (.ref f_Watcher_require_word))) (i11 : PySem.W.isFn K (.ref f_Watcher_require_word) = true)
    (l11 : K.lookup f_Watcher_require_word = some ⟨oc11, od11, .func (PySem.W.fnOf "require_word" "Watcher.require_word" (defArgs s_Watcher_require_word) (defBody s_Watcher_require_word) (defScope s_Watcher_require_word) .none kV11 dc11 pm11 an11 cd11 ct11), sl11⟩) (c11 : PySem.W.codeIn K cd11 "Watcher.require_word" = true) (k11 : PySem.W.keepIn K (.ref f_Watcher_require_word) = true)
    (a12 : PySem.W.nsIn K mainGlobals "require_verdict" = some (some (.ref f_require_verdict)))
    (l12 : K.lookup f_require_verdict = some ⟨oc12, od12, .func (PySem.W.fnOf "require_verdict" "require_verdict" (defArgs s_require_verdict) (defBody s_require_verdict) (defScope s_require_verdict) .none kV12 dc12 pm12 an12 cd12 ct12), sl12⟩) (c12 : PySem.W.codeIn K cd12 "require_verdict" = true) (k12 : PySem.W.keepIn K (.ref f_require_verdict) = true)
    (a13 : PySem.W.nsIn K mainGlobals "is_test" = some (some (.ref f_is_test)))
    (l13 : K.lookup f_is_test = some ⟨oc13, od13, .func (PySem.W.fnOf "is_test" "is_test" (defArgs s_is_test) (defBody s_is_test) (defScope s_is_test) .none kV13 dc13 pm13 an13 cd13 ct13), sl13⟩) (c13 : PySem.W.codeIn K cd13 "is_test" = true) (k13 : PySem.W.keepIn K (.ref f_is_test) = true)
    (a14 : PySem.W.nsIn K mainGlobals "are_sources" = some (some (.ref f_are_sources)))
    (l14 : K.lookup f_are_sources = some ⟨oc14, od14, .func (PySem.W.fnOf "are_sources" "are_sources" (defArgs s_are_sources) (defBody s_are_sources) (defScope s_are_sources) .none kV14 dc14 pm14 an14 cd14 ct14), sl14⟩) (c14 : PySem.W.codeIn K cd14 "are_sources" = true) (k14 : PySem.W.keepIn K (.ref f_are_sources) = true)
    (a15 : PySem.W.nsIn K mainGlobals "is_source" = some (some (.ref f_is_source)))
    (l15 : K.lookup f_is_source = some ⟨oc15, od15, .func (PySem.W.fnOf "is_source" "is_source" (defArgs s_is_source) (defBody s_is_source) (defScope s_is_source) .none kV15 dc15 pm15 an15 cd15 ct15), sl15⟩) (c15 : PySem.W.codeIn K cd15 "is_source" = true) (k15 : PySem.W.keepIn K (.ref f_is_source) = true)
    (a16 : PySem.W.nsIn K mainGlobals "rule_order" = some (some (.ref f_rule_order)))
    (l16 : K.lookup f_rule_order = some ⟨oc16, od16, .func (PySem.W.fnOf "rule_order" "rule_order" (defArgs s_rule_order) (defBody s_rule_order) (defScope s_rule_order) .none kV16 dc16 pm16 an16 cd16 ct16), sl16⟩) (c16 : PySem.W.codeIn K cd16 "rule_order" = true) (k16 : PySem.W.keepIn K (.ref f_rule_order) = true)
    (a17 : PySem.W.nsIn K mainGlobals "part_order" = some (some (.ref f_part_order)))
    (l17 : K.lookup f_part_order = some ⟨oc17, od17, .func (PySem.W.fnOf "part_order" "part_order" (defArgs s_part_order) (defBody s_part_order) (defScope s_part_order) .none kV17 dc17 pm17 an17 cd17 ct17), sl17⟩) (c17 : PySem.W.codeIn K cd17 "part_order" = true) (k17 : PySem.W.keepIn K (.ref f_part_order) = true)
    (a18 : PySem.W.nsIn K mainGlobals "format_watcher" = some (some (.ref f_format_watcher)))
    (l18 : K.lookup f_format_watcher = some ⟨oc18, od18, .func (PySem.W.fnOf "format_watcher" "format_watcher" (defArgs s_format_watcher) (defBody s_format_watcher) (defScope s_format_watcher) .none kV18 dc18 pm18 an18 cd18 ct18), sl18⟩) (c18 : PySem.W.codeIn K cd18 "format_watcher" = true) (k18 : PySem.W.keepIn K (.ref f_format_watcher) = true)
    (a19 : PySem.W.nsIn K mainGlobals "parse_watcher" = some (some (.ref f_parse_watcher)))
    (l19 : K.lookup f_parse_watcher = some ⟨oc19, od19, .func (PySem.W.fnOf "parse_watcher" "parse_watcher" (defArgs s_parse_watcher) (defBody s_parse_watcher) (defScope s_parse_watcher) .none kV19 dc19 pm19 an19 cd19 ct19), sl19⟩) (c19 : PySem.W.codeIn K cd19 "parse_watcher" = true) (k19 : PySem.W.keepIn K (.ref f_parse_watcher) = true)
    (a20 : PySem.W.nsIn K mainGlobals "read_line" = some (some (.ref f_read_line)))
    (l20 : K.lookup f_read_line = some ⟨oc20, od20, .func (PySem.W.fnOf "read_line" "read_line" (defArgs s_read_line) (defBody s_read_line) (defScope s_read_line) .none kV20 dc20 pm20 an20 cd20 ct20), sl20⟩) (c20 : PySem.W.codeIn K cd20 "read_line" = true) (k20 : PySem.W.keepIn K (.ref f_read_line) = true)
    (a21 : PySem.W.nsIn K mainGlobals "read_parts" = some (some (.ref f_read_parts)))
    (l21 : K.lookup f_read_parts = some ⟨oc21, od21, .func (PySem.W.fnOf "read_parts" "read_parts" (defArgs s_read_parts) (defBody s_read_parts) (defScope s_read_parts) .none kV21 dc21 pm21 an21 cd21 ct21), sl21⟩) (c21 : PySem.W.codeIn K cd21 "read_parts" = true) (k21 : PySem.W.keepIn K (.ref f_read_parts) = true)
    (a22 : PySem.W.nsIn K mainGlobals "read_start" = some (some (.ref f_read_start)))
    (l22 : K.lookup f_read_start = some ⟨oc22, od22, .func (PySem.W.fnOf "read_start" "read_start" (defArgs s_read_start) (defBody s_read_start) (defScope s_read_start) .none kV22 dc22 pm22 an22 cd22 ct22), sl22⟩) (c22 : PySem.W.codeIn K cd22 "read_start" = true) (k22 : PySem.W.keepIn K (.ref f_read_start) = true)
    (a23 : PySem.W.nsIn K mainGlobals "read_state" = some (some (.ref f_read_state)))
    (l23 : K.lookup f_read_state = some ⟨oc23, od23, .func (PySem.W.fnOf "read_state" "read_state" (defArgs s_read_state) (defBody s_read_state) (defScope s_read_state) .none kV23 dc23 pm23 an23 cd23 ct23), sl23⟩) (c23 : PySem.W.codeIn K cd23 "read_state" = true) (k23 : PySem.W.keepIn K (.ref f_read_state) = true)
    (a24 : PySem.W.nsIn K mainGlobals "read_rule" = some (some (.ref f_read_rule)))
    (l24 : K.lookup f_read_rule = some ⟨oc24, od24, .func (PySem.W.fnOf "read_rule" "read_rule" (defArgs s_read_rule) (defBody s_read_rule) (defScope s_read_rule) .none kV24 dc24 pm24 an24 cd24 ct24), sl24⟩) (c24 : PySem.W.codeIn K cd24 "read_rule" = true) (k24 : PySem.W.keepIn K (.ref f_read_rule) = true)
    (a25 : PySem.W.nsIn K mainGlobals "_law_pen" = some (some (.ref f_law_pen)))
    (l25 : K.lookup f_law_pen = some ⟨oc25, od25, .func (PySem.W.fnOf "_law_pen" "_law_pen" (defArgs s_law_pen) (defBody s_law_pen) (defScope s_law_pen) .none kV25 dc25 pm25 an25 cd25 ct25), sl25⟩) (c25 : PySem.W.codeIn K cd25 "_law_pen" = true) (k25 : PySem.W.keepIn K (.ref f_law_pen) = true)
    (a26 : PySem.W.nsIn K mainGlobals "_law_fresh" = some (some (.ref f_law_fresh)))
    (l26 : K.lookup f_law_fresh = some ⟨oc26, od26, .func (PySem.W.fnOf "_law_fresh" "_law_fresh" (defArgs s_law_fresh) (defBody s_law_fresh) (defScope s_law_fresh) .none kV26 dc26 pm26 an26 cd26 ct26), sl26⟩) (c26 : PySem.W.codeIn K cd26 "_law_fresh" = true) (k26 : PySem.W.keepIn K (.ref f_law_fresh) = true)
    (a27 : PySem.W.nsIn K mainGlobals "_law_draw" = some (some (.ref f_law_draw)))
    (l27 : K.lookup f_law_draw = some ⟨oc27, od27, .func (PySem.W.fnOf "_law_draw" "_law_draw" (defArgs s_law_draw) (defBody s_law_draw) (defScope s_law_draw) .none kV27 dc27 pm27 an27 cd27 ct27), sl27⟩) (c27 : PySem.W.codeIn K cd27 "_law_draw" = true) (k27 : PySem.W.keepIn K (.ref f_law_draw) = true)
    (a28 : PySem.W.nsIn K mainGlobals "_law_some_sources" = some (some (.ref f_law_some_sources)))
    (l28 : K.lookup f_law_some_sources = some ⟨oc28, od28, .func (PySem.W.fnOf "_law_some_sources" "_law_some_sources" (defArgs s_law_some_sources) (defBody s_law_some_sources) (defScope s_law_some_sources) .none kV28 dc28 pm28 an28 cd28 ct28), sl28⟩) (c28 : PySem.W.codeIn K cd28 "_law_some_sources" = true) (k28 : PySem.W.keepIn K (.ref f_law_some_sources) = true)
    (a29 : PySem.W.nsIn K mainGlobals "_law_plan" = some (some (.ref f_law_plan)))
    (l29 : K.lookup f_law_plan = some ⟨oc29, od29, .func (PySem.W.fnOf "_law_plan" "_law_plan" (defArgs s_law_plan) (defBody s_law_plan) (defScope s_law_plan) .none kV29 dc29 pm29 an29 cd29 ct29), sl29⟩) (c29 : PySem.W.codeIn K cd29 "_law_plan" = true) (k29 : PySem.W.keepIn K (.ref f_law_plan) = true)
    (a30 : PySem.W.nsIn K mainGlobals "_law_rank" = some (some (.ref f_law_rank)))
    (l30 : K.lookup f_law_rank = some ⟨oc30, od30, .func (PySem.W.fnOf "_law_rank" "_law_rank" (defArgs s_law_rank) (defBody s_law_rank) (defScope s_law_rank) .none kV30 dc30 pm30 an30 cd30 ct30), sl30⟩) (c30 : PySem.W.codeIn K cd30 "_law_rank" = true) (k30 : PySem.W.keepIn K (.ref f_law_rank) = true)
    (a31 : PySem.W.nsIn K mainGlobals "_law_plan_text" = some (some (.ref f_law_plan_text)))
    (l31 : K.lookup f_law_plan_text = some ⟨oc31, od31, .func (PySem.W.fnOf "_law_plan_text" "_law_plan_text" (defArgs s_law_plan_text) (defBody s_law_plan_text) (defScope s_law_plan_text) .none kV31 dc31 pm31 an31 cd31 ct31), sl31⟩) (c31 : PySem.W.codeIn K cd31 "_law_plan_text" = true) (k31 : PySem.W.keepIn K (.ref f_law_plan_text) = true)
    (a32 : PySem.W.nsIn K mainGlobals "_law_whole" = some (some (.ref f_law_whole)))
    (l32 : K.lookup f_law_whole = some ⟨oc32, od32, .func (PySem.W.fnOf "_law_whole" "_law_whole" (defArgs s_law_whole) (defBody s_law_whole) (defScope s_law_whole) .none kV32 dc32 pm32 an32 cd32 ct32), sl32⟩) (c32 : PySem.W.codeIn K cd32 "_law_whole" = true) (k32 : PySem.W.keepIn K (.ref f_law_whole) = true)
    (a33 : PySem.W.nsIn K mainGlobals "_law_kind_of" = some (some (.ref f_law_kind_of)))
    (l33 : K.lookup f_law_kind_of = some ⟨oc33, od33, .func (PySem.W.fnOf "_law_kind_of" "_law_kind_of" (defArgs s_law_kind_of) (defBody s_law_kind_of) (defScope s_law_kind_of) .none kV33 dc33 pm33 an33 cd33 ct33), sl33⟩) (c33 : PySem.W.codeIn K cd33 "_law_kind_of" = true) (k33 : PySem.W.keepIn K (.ref f_law_kind_of) = true)
    (a34 : PySem.W.nsIn K mainGlobals "_law_sources" = some (some (.ref f_law_sources)))
    (l34 : K.lookup f_law_sources = some ⟨oc34, od34, .func (PySem.W.fnOf "_law_sources" "_law_sources" (defArgs s_law_sources) (defBody s_law_sources) (defScope s_law_sources) .none kV34 dc34 pm34 an34 cd34 ct34), sl34⟩) (c34 : PySem.W.codeIn K cd34 "_law_sources" = true) (k34 : PySem.W.keepIn K (.ref f_law_sources) = true)
    (a35 : PySem.W.nsIn K mainGlobals "_law_rule" = some (some (.ref f_law_rule)))
    (l35 : K.lookup f_law_rule = some ⟨oc35, od35, .func (PySem.W.fnOf "_law_rule" "_law_rule" (defArgs s_law_rule) (defBody s_law_rule) (defScope s_law_rule) .none kV35 dc35 pm35 an35 cd35 ct35), sl35⟩) (c35 : PySem.W.codeIn K cd35 "_law_rule" = true) (k35 : PySem.W.keepIn K (.ref f_law_rule) = true)
    (a36 : PySem.W.nsIn K mainGlobals "_law_due" = some (some (.ref f_law_due)))
    (l36 : K.lookup f_law_due = some ⟨oc36, od36, .func (PySem.W.fnOf "_law_due" "_law_due" (defArgs s_law_due) (defBody s_law_due) (defScope s_law_due) .none kV36 dc36 pm36 an36 cd36 ct36), sl36⟩) (c36 : PySem.W.codeIn K cd36 "_law_due" = true) (k36 : PySem.W.keepIn K (.ref f_law_due) = true)
    (a37 : PySem.W.nsIn K mainGlobals "_law_raised" = some (some (.ref f_law_raised)))
    (l37 : K.lookup f_law_raised = some ⟨oc37, od37, .func (PySem.W.fnOf "_law_raised" "_law_raised" (defArgs s_law_raised) (defBody s_law_raised) (defScope s_law_raised) .none kV37 dc37 pm37 an37 cd37 ct37), sl37⟩) (c37 : PySem.W.codeIn K cd37 "_law_raised" = true) (k37 : PySem.W.keepIn K (.ref f_law_raised) = true)
    (a38 : PySem.W.nsIn K mainGlobals "_law_lines_spoilt" = some (some (.ref f_law_lines_spoilt)))
    (l38 : K.lookup f_law_lines_spoilt = some ⟨oc38, od38, .func (PySem.W.fnOf "_law_lines_spoilt" "_law_lines_spoilt" (defArgs s_law_lines_spoilt) (defBody s_law_lines_spoilt) (defScope s_law_lines_spoilt) .none kV38 dc38 pm38 an38 cd38 ct38), sl38⟩) (c38 : PySem.W.codeIn K cd38 "_law_lines_spoilt" = true) (k38 : PySem.W.keepIn K (.ref f_law_lines_spoilt) = true)
    (a39 : PySem.W.nsIn K mainGlobals "_law_spoilt" = some (some (.ref f_law_spoilt)))
    (l39 : K.lookup f_law_spoilt = some ⟨oc39, od39, .func (PySem.W.fnOf "_law_spoilt" "_law_spoilt" (defArgs s_law_spoilt) (defBody s_law_spoilt) (defScope s_law_spoilt) .none kV39 dc39 pm39 an39 cd39 ct39), sl39⟩) (c39 : PySem.W.codeIn K cd39 "_law_spoilt" = true) (k39 : PySem.W.keepIn K (.ref f_law_spoilt) = true)
    (a40 : PySem.W.nsIn K mainGlobals "law" = some (some (.ref f_law)))
    (l40 : K.lookup f_law = some ⟨oc40, od40, .func (PySem.W.fnOf "law" "law" (defArgs s_law) (defBody s_law) (defScope s_law) .none kV40 dc40 pm40 an40 cd40 ct40), sl40⟩) (c40 : PySem.W.codeIn K cd40 "law" = true) (k40 : PySem.W.keepIn K (.ref f_law) = true)
    (tf_Watcher_len : PySem.W.typeIn K (.ref f_Watcher_len) = some (.type "function"))
    (wC_Watcher : PySem.W.nsIn K mainGlobals "Watcher" = some (some (.ref C_Watcher))) (pg_Watcher : PySem.W.plainGet K C_Watcher Str.empty = true) (hd_Watcher : PySem.W.hasDictIn K C_Watcher = true) (po_Watcher : PySem.W.plainOver K C_Watcher = true) (sa_Watcher : PySem.W.findIn K (.ref C_Watcher) "__setattr__" = some (some (.builtin "object.__setattr__"))) (mk_Watcher : PySem.W.makesIn K C_Watcher = true) (kc_Watcher : PySem.W.keepIn K (.ref C_Watcher) = true)
    (nf_Watcherwords : PySem.W.findIn K (.ref C_Watcher) "words" = some none)
    (nf_Watcher_verdicts : PySem.W.findIn K (.ref C_Watcher) "_verdicts" = some none)
    (nf_Watcher_held : PySem.W.findIn K (.ref C_Watcher) "_held" = some none)
    (nf_Watcher_rules : PySem.W.findIn K (.ref C_Watcher) "_rules" = some none)
    {eC0 ei0 : Addr} {nm0 eq0 : Str} {eN0 : Addr} {bs0 : List Value} {sn0 : List Str} {sub0 : List Value} {ab0 : Bool} {col0 : Option Bool} {dd0 : Option Addr} {m00 m10 m20 m30 m50 : Option Value} {eod0 ean0 : Option Addr} {esl0 : Array (Option Value)} {eoc0 edc0 epm0 ecd0 ect0 : Value}
    (eaC0 : PySem.W.nsIn K mainGlobals "NotAWord" = some (some (.ref eC0))) (exL0 : K.lookup eC0 = some (excClassObj nm0 eq0 eC0 eN0 bs0 [.type "ValueError", .type "Exception", .type "BaseException", .type "object"] true sn0 sub0 ab0 col0 dd0 m00 m10 m20 m30 m50 "ValueError.__new__"))
    (esa0 : PySem.W.findIn K (.ref eC0) "__setattr__" = some (some (.builtin "object.__setattr__"))) (ega0 : PySem.W.findIn K (.ref eC0) "__getattribute__" = some (some (.builtin "BaseException.__getattribute__"))) (egg0 : PySem.W.findIn K (.ref eC0) "__getattr__" = some none) (enb0 : PySem.W.findIn K (.ref eC0) "word" = some none)
    (ea10 : PySem.W.findIn K (.ref eC0) "__init__" = some (some (.ref ei0))) (et10 : PySem.W.typeIn K (.ref ei0) = some (.type "function"))
    (el10 : K.lookup ei0 = some ⟨eoc0, eod0, .func (PySem.W.fnOf "__init__" "NotAWord.__init__" (defArgs s_NotAWord_init) (defBody s_NotAWord_init) (defScope s_NotAWord_init) .none .none edc0 epm0 ean0 ecd0 ect0), esl0⟩) (ec10 : PySem.W.codeIn K ecd0 "NotAWord.__init__" = true)
    (ekC0 : PySem.W.keepIn K (.ref eC0) = true) (eeC0 : PySem.W.subIn K (.ref eC0) (.type "BaseException") = some true) (etC0 : PySem.W.typeIn K (.ref eC0) = some (.type "type")) (ehC0 : PySem.W.hasDictIn K eC0 = true) (eiC0 : PySem.W.isClsIn K eC0 = true) (esC0 : PySem.W.subIn K (.ref eC0) (.ref eC0) = some true)
    {eC1 ei1 : Addr} {nm1 eq1 : Str} {eN1 : Addr} {bs1 : List Value} {sn1 : List Str} {sub1 : List Value} {ab1 : Bool} {col1 : Option Bool} {dd1 : Option Addr} {m01 m11 m21 m31 m51 : Option Value} {eod1 ean1 : Option Addr} {esl1 : Array (Option Value)} {eoc1 edc1 epm1 ecd1 ect1 : Value}
    (eaC1 : PySem.W.nsIn K mainGlobals "NotAVerdict" = some (some (.ref eC1))) (exL1 : K.lookup eC1 = some (excClassObj nm1 eq1 eC1 eN1 bs1 [.type "ValueError", .type "Exception", .type "BaseException", .type "object"] true sn1 sub1 ab1 col1 dd1 m01 m11 m21 m31 m51 "ValueError.__new__"))
    (esa1 : PySem.W.findIn K (.ref eC1) "__setattr__" = some (some (.builtin "object.__setattr__"))) (ega1 : PySem.W.findIn K (.ref eC1) "__getattribute__" = some (some (.builtin "BaseException.__getattribute__"))) (egg1 : PySem.W.findIn K (.ref eC1) "__getattr__" = some none) (enb1 : PySem.W.findIn K (.ref eC1) "verdict" = some none)
    (ea11 : PySem.W.findIn K (.ref eC1) "__init__" = some (some (.ref ei1))) (et11 : PySem.W.typeIn K (.ref ei1) = some (.type "function"))
    (el11 : K.lookup ei1 = some ⟨eoc1, eod1, .func (PySem.W.fnOf "__init__" "NotAVerdict.__init__" (defArgs s_NotAVerdict_init) (defBody s_NotAVerdict_init) (defScope s_NotAVerdict_init) .none .none edc1 epm1 ean1 ecd1 ect1), esl1⟩) (ec11 : PySem.W.codeIn K ecd1 "NotAVerdict.__init__" = true)
    (ekC1 : PySem.W.keepIn K (.ref eC1) = true) (eeC1 : PySem.W.subIn K (.ref eC1) (.type "BaseException") = some true) (etC1 : PySem.W.typeIn K (.ref eC1) = some (.type "type")) (ehC1 : PySem.W.hasDictIn K eC1 = true) (eiC1 : PySem.W.isClsIn K eC1 = true) (esC1 : PySem.W.subIn K (.ref eC1) (.ref eC1) = some true)
    {eC2 ei2 : Addr} {nm2 eq2 : Str} {eN2 : Addr} {bs2 : List Value} {sn2 : List Str} {sub2 : List Value} {ab2 : Bool} {col2 : Option Bool} {dd2 : Option Addr} {m02 m12 m22 m32 m52 : Option Value} {eod2 ean2 : Option Addr} {esl2 : Array (Option Value)} {eoc2 edc2 epm2 ecd2 ect2 : Value}
    (eaC2 : PySem.W.nsIn K mainGlobals "InvalidTest" = some (some (.ref eC2))) (exL2 : K.lookup eC2 = some (excClassObj nm2 eq2 eC2 eN2 bs2 [.type "ValueError", .type "Exception", .type "BaseException", .type "object"] true sn2 sub2 ab2 col2 dd2 m02 m12 m22 m32 m52 "ValueError.__new__"))
    (esa2 : PySem.W.findIn K (.ref eC2) "__setattr__" = some (some (.builtin "object.__setattr__"))) (ega2 : PySem.W.findIn K (.ref eC2) "__getattribute__" = some (some (.builtin "BaseException.__getattribute__"))) (egg2 : PySem.W.findIn K (.ref eC2) "__getattr__" = some none) (enb2 : PySem.W.findIn K (.ref eC2) "test" = some none)
    (ea12 : PySem.W.findIn K (.ref eC2) "__init__" = some (some (.ref ei2))) (et12 : PySem.W.typeIn K (.ref ei2) = some (.type "function"))
    (el12 : K.lookup ei2 = some ⟨eoc2, eod2, .func (PySem.W.fnOf "__init__" "InvalidTest.__init__" (defArgs s_InvalidTest_init) (defBody s_InvalidTest_init) (defScope s_InvalidTest_init) .none .none edc2 epm2 ean2 ecd2 ect2), esl2⟩) (ec12 : PySem.W.codeIn K ecd2 "InvalidTest.__init__" = true)
    (ekC2 : PySem.W.keepIn K (.ref eC2) = true) (eeC2 : PySem.W.subIn K (.ref eC2) (.type "BaseException") = some true) (etC2 : PySem.W.typeIn K (.ref eC2) = some (.type "type")) (ehC2 : PySem.W.hasDictIn K eC2 = true) (eiC2 : PySem.W.isClsIn K eC2 = true) (esC2 : PySem.W.subIn K (.ref eC2) (.ref eC2) = some true)
    {eC3 ei3 : Addr} {nm3 eq3 : Str} {eN3 : Addr} {bs3 : List Value} {sn3 : List Str} {sub3 : List Value} {ab3 : Bool} {col3 : Option Bool} {dd3 : Option Addr} {m03 m13 m23 m33 m53 : Option Value} {eod3 ean3 : Option Addr} {esl3 : Array (Option Value)} {eoc3 edc3 epm3 ecd3 ect3 : Value}
    (eaC3 : PySem.W.nsIn K mainGlobals "InvalidSources" = some (some (.ref eC3))) (exL3 : K.lookup eC3 = some (excClassObj nm3 eq3 eC3 eN3 bs3 [.type "ValueError", .type "Exception", .type "BaseException", .type "object"] true sn3 sub3 ab3 col3 dd3 m03 m13 m23 m33 m53 "ValueError.__new__"))
    (esa3 : PySem.W.findIn K (.ref eC3) "__setattr__" = some (some (.builtin "object.__setattr__"))) (ega3 : PySem.W.findIn K (.ref eC3) "__getattribute__" = some (some (.builtin "BaseException.__getattribute__"))) (egg3 : PySem.W.findIn K (.ref eC3) "__getattr__" = some none) (enb3 : PySem.W.findIn K (.ref eC3) "sources" = some none)
    (ea13 : PySem.W.findIn K (.ref eC3) "__init__" = some (some (.ref ei3))) (et13 : PySem.W.typeIn K (.ref ei3) = some (.type "function"))
    (el13 : K.lookup ei3 = some ⟨eoc3, eod3, .func (PySem.W.fnOf "__init__" "InvalidSources.__init__" (defArgs s_InvalidSources_init) (defBody s_InvalidSources_init) (defScope s_InvalidSources_init) .none .none edc3 epm3 ean3 ecd3 ect3), esl3⟩) (ec13 : PySem.W.codeIn K ecd3 "InvalidSources.__init__" = true)
    (ekC3 : PySem.W.keepIn K (.ref eC3) = true) (eeC3 : PySem.W.subIn K (.ref eC3) (.type "BaseException") = some true) (etC3 : PySem.W.typeIn K (.ref eC3) = some (.type "type")) (ehC3 : PySem.W.hasDictIn K eC3 = true) (eiC3 : PySem.W.isClsIn K eC3 = true) (esC3 : PySem.W.subIn K (.ref eC3) (.ref eC3) = some true)
    {eC4 ei4 : Addr} {nm4 eq4 : Str} {eN4 : Addr} {bs4 : List Value} {sn4 : List Str} {sub4 : List Value} {ab4 : Bool} {col4 : Option Bool} {dd4 : Option Addr} {m04 m14 m24 m34 m54 : Option Value} {eod4 ean4 : Option Addr} {esl4 : Array (Option Value)} {eoc4 edc4 epm4 ecd4 ect4 : Value}
    (eaC4 : PySem.W.nsIn K mainGlobals "ParseError" = some (some (.ref eC4))) (exL4 : K.lookup eC4 = some (excClassObj nm4 eq4 eC4 eN4 bs4 [.type "ValueError", .type "Exception", .type "BaseException", .type "object"] true sn4 sub4 ab4 col4 dd4 m04 m14 m24 m34 m54 "ValueError.__new__"))
    (esa4 : PySem.W.findIn K (.ref eC4) "__setattr__" = some (some (.builtin "object.__setattr__"))) (ega4 : PySem.W.findIn K (.ref eC4) "__getattribute__" = some (some (.builtin "BaseException.__getattribute__"))) (egg4 : PySem.W.findIn K (.ref eC4) "__getattr__" = some none) (enb4 : PySem.W.findIn K (.ref eC4) "line" = some none)
    (ea14 : PySem.W.findIn K (.ref eC4) "__init__" = some (some (.ref ei4))) (et14 : PySem.W.typeIn K (.ref ei4) = some (.type "function"))
    (el14 : K.lookup ei4 = some ⟨eoc4, eod4, .func (PySem.W.fnOf "__init__" "ParseError.__init__" (defArgs s_ParseError_init) (defBody s_ParseError_init) (defScope s_ParseError_init) .none .none edc4 epm4 ean4 ecd4 ect4), esl4⟩) (ec14 : PySem.W.codeIn K ecd4 "ParseError.__init__" = true)
    (ekC4 : PySem.W.keepIn K (.ref eC4) = true) (eeC4 : PySem.W.subIn K (.ref eC4) (.type "BaseException") = some true) (etC4 : PySem.W.typeIn K (.ref eC4) = some (.type "type")) (ehC4 : PySem.W.hasDictIn K eC4 = true) (eiC4 : PySem.W.isClsIn K eC4 = true) (esC4 : PySem.W.subIn K (.ref eC4) (.ref eC4) = some true)
    {eC5 ei5 : Addr} {nm5 eq5 : Str} {eN5 : Addr} {bs5 : List Value} {sn5 : List Str} {sub5 : List Value} {ab5 : Bool} {col5 : Option Bool} {dd5 : Option Addr} {m05 m15 m25 m35 m55 : Option Value} {eod5 ean5 : Option Addr} {esl5 : Array (Option Value)} {eoc5 edc5 epm5 ecd5 ect5 : Value}
    (eaC5 : PySem.W.nsIn K mainGlobals "UnknownState" = some (some (.ref eC5))) (exL5 : K.lookup eC5 = some (excClassObj nm5 eq5 eC5 eN5 bs5 [.type "LookupError", .type "Exception", .type "BaseException", .type "object"] true sn5 sub5 ab5 col5 dd5 m05 m15 m25 m35 m55 "LookupError.__new__"))
    (esa5 : PySem.W.findIn K (.ref eC5) "__setattr__" = some (some (.builtin "object.__setattr__"))) (ega5 : PySem.W.findIn K (.ref eC5) "__getattribute__" = some (some (.builtin "BaseException.__getattribute__"))) (egg5 : PySem.W.findIn K (.ref eC5) "__getattr__" = some none) (enb5 : PySem.W.findIn K (.ref eC5) "state" = some none)
    (ea15 : PySem.W.findIn K (.ref eC5) "__init__" = some (some (.ref ei5))) (et15 : PySem.W.typeIn K (.ref ei5) = some (.type "function"))
    (el15 : K.lookup ei5 = some ⟨eoc5, eod5, .func (PySem.W.fnOf "__init__" "UnknownState.__init__" (defArgs s_UnknownState_init) (defBody s_UnknownState_init) (defScope s_UnknownState_init) .none .none edc5 epm5 ean5 ecd5 ect5), esl5⟩) (ec15 : PySem.W.codeIn K ecd5 "UnknownState.__init__" = true)
    (ekC5 : PySem.W.keepIn K (.ref eC5) = true) (eeC5 : PySem.W.subIn K (.ref eC5) (.type "BaseException") = some true) (etC5 : PySem.W.typeIn K (.ref eC5) = some (.type "type")) (ehC5 : PySem.W.hasDictIn K eC5 = true) (eiC5 : PySem.W.isClsIn K eC5 = true) (esC5 : PySem.W.subIn K (.ref eC5) (.ref eC5) = some true)
    {eC6 ei6 : Addr} {nm6 eq6 : Str} {eN6 : Addr} {bs6 : List Value} {sn6 : List Str} {sub6 : List Value} {ab6 : Bool} {col6 : Option Bool} {dd6 : Option Addr} {m06 m16 m26 m36 m56 : Option Value} {eod6 ean6 : Option Addr} {esl6 : Array (Option Value)} {eoc6 edc6 epm6 ecd6 ect6 : Value}
    (eaC6 : PySem.W.nsIn K mainGlobals "RuleExists" = some (some (.ref eC6))) (exL6 : K.lookup eC6 = some (excClassObj nm6 eq6 eC6 eN6 bs6 [.type "RuntimeError", .type "Exception", .type "BaseException", .type "object"] true sn6 sub6 ab6 col6 dd6 m06 m16 m26 m36 m56 "RuntimeError.__new__"))
    (esa6 : PySem.W.findIn K (.ref eC6) "__setattr__" = some (some (.builtin "object.__setattr__"))) (ega6 : PySem.W.findIn K (.ref eC6) "__getattribute__" = some (some (.builtin "BaseException.__getattribute__"))) (egg6 : PySem.W.findIn K (.ref eC6) "__getattr__" = some none) (enb6 : PySem.W.findIn K (.ref eC6) "rule" = some none)
    (ea16 : PySem.W.findIn K (.ref eC6) "__init__" = some (some (.ref ei6))) (et16 : PySem.W.typeIn K (.ref ei6) = some (.type "function"))
    (el16 : K.lookup ei6 = some ⟨eoc6, eod6, .func (PySem.W.fnOf "__init__" "RuleExists.__init__" (defArgs s_RuleExists_init) (defBody s_RuleExists_init) (defScope s_RuleExists_init) .none .none edc6 epm6 ean6 ecd6 ect6), esl6⟩) (ec16 : PySem.W.codeIn K ecd6 "RuleExists.__init__" = true)
    (ekC6 : PySem.W.keepIn K (.ref eC6) = true) (eeC6 : PySem.W.subIn K (.ref eC6) (.type "BaseException") = some true) (etC6 : PySem.W.typeIn K (.ref eC6) = some (.type "type")) (ehC6 : PySem.W.hasDictIn K eC6 = true) (eiC6 : PySem.W.isClsIn K eC6 = true) (esC6 : PySem.W.subIn K (.ref eC6) (.ref eC6) = some true)
    {eC7 ei7 : Addr} {nm7 eq7 : Str} {eN7 : Addr} {bs7 : List Value} {sn7 : List Str} {sub7 : List Value} {ab7 : Bool} {col7 : Option Bool} {dd7 : Option Addr} {m07 m17 m27 m37 m57 : Option Value} {eod7 ean7 : Option Addr} {esl7 : Array (Option Value)} {eoc7 edc7 epm7 ecd7 ect7 : Value}
    (eaC7 : PySem.W.nsIn K mainGlobals "LimitExceeded" = some (some (.ref eC7))) (exL7 : K.lookup eC7 = some (excClassObj nm7 eq7 eC7 eN7 bs7 [.type "OverflowError", .type "ArithmeticError", .type "Exception", .type "BaseException", .type "object"] true sn7 sub7 ab7 col7 dd7 m07 m17 m27 m37 m57 "OverflowError.__new__"))
    (esa7 : PySem.W.findIn K (.ref eC7) "__setattr__" = some (some (.builtin "object.__setattr__"))) (ega7 : PySem.W.findIn K (.ref eC7) "__getattribute__" = some (some (.builtin "BaseException.__getattribute__"))) (egg7 : PySem.W.findIn K (.ref eC7) "__getattr__" = some none) (enb7 : PySem.W.findIn K (.ref eC7) "limit" = some none)
    (ea17 : PySem.W.findIn K (.ref eC7) "__init__" = some (some (.ref ei7))) (et17 : PySem.W.typeIn K (.ref ei7) = some (.type "function"))
    (el17 : K.lookup ei7 = some ⟨eoc7, eod7, .func (PySem.W.fnOf "__init__" "LimitExceeded.__init__" (defArgs s_LimitExceeded_init) (defBody s_LimitExceeded_init) (defScope s_LimitExceeded_init) .none .none edc7 epm7 ean7 ecd7 ect7), esl7⟩) (ec17 : PySem.W.codeIn K ecd7 "LimitExceeded.__init__" = true)
    (ekC7 : PySem.W.keepIn K (.ref eC7) = true) (eeC7 : PySem.W.subIn K (.ref eC7) (.type "BaseException") = some true) (etC7 : PySem.W.typeIn K (.ref eC7) = some (.type "type")) (ehC7 : PySem.W.hasDictIn K eC7 = true) (eiC7 : PySem.W.isClsIn K eC7 = true) (esC7 : PySem.W.subIn K (.ref eC7) (.ref eC7) = some true)
    (ap_UnknownState_NotAVerdict : PySem.W.subIn K (.ref eC5) (.ref eC1) = some false)
    (ap_UnknownState_LimitExceeded : PySem.W.subIn K (.ref eC5) (.ref eC7) = some false)
    (ap_UnknownState_NotAWord : PySem.W.subIn K (.ref eC5) (.ref eC0) = some false)
    (ap_UnknownState_InvalidTest : PySem.W.subIn K (.ref eC5) (.ref eC2) = some false)
    (ap_UnknownState_InvalidSources : PySem.W.subIn K (.ref eC5) (.ref eC3) = some false)
    (ap_UnknownState_RuleExists : PySem.W.subIn K (.ref eC5) (.ref eC6) = some false)
    (ap_NotAVerdict_UnknownState : PySem.W.subIn K (.ref eC1) (.ref eC5) = some false)
    (ap_NotAVerdict_LimitExceeded : PySem.W.subIn K (.ref eC1) (.ref eC7) = some false)
    (ap_NotAVerdict_NotAWord : PySem.W.subIn K (.ref eC1) (.ref eC0) = some false)
    (ap_NotAVerdict_InvalidTest : PySem.W.subIn K (.ref eC1) (.ref eC2) = some false)
    (ap_NotAVerdict_InvalidSources : PySem.W.subIn K (.ref eC1) (.ref eC3) = some false)
    (ap_NotAVerdict_RuleExists : PySem.W.subIn K (.ref eC1) (.ref eC6) = some false)
    (ap_LimitExceeded_UnknownState : PySem.W.subIn K (.ref eC7) (.ref eC5) = some false)
    (ap_LimitExceeded_NotAVerdict : PySem.W.subIn K (.ref eC7) (.ref eC1) = some false)
    (ap_LimitExceeded_NotAWord : PySem.W.subIn K (.ref eC7) (.ref eC0) = some false)
    (ap_LimitExceeded_InvalidTest : PySem.W.subIn K (.ref eC7) (.ref eC2) = some false)
    (ap_LimitExceeded_InvalidSources : PySem.W.subIn K (.ref eC7) (.ref eC3) = some false)
    (ap_LimitExceeded_RuleExists : PySem.W.subIn K (.ref eC7) (.ref eC6) = some false)
    (ap_NotAWord_UnknownState : PySem.W.subIn K (.ref eC0) (.ref eC5) = some false)
    (ap_NotAWord_NotAVerdict : PySem.W.subIn K (.ref eC0) (.ref eC1) = some false)
    (ap_NotAWord_LimitExceeded : PySem.W.subIn K (.ref eC0) (.ref eC7) = some false)
    (ap_NotAWord_InvalidTest : PySem.W.subIn K (.ref eC0) (.ref eC2) = some false)
    (ap_NotAWord_InvalidSources : PySem.W.subIn K (.ref eC0) (.ref eC3) = some false)
    (ap_NotAWord_RuleExists : PySem.W.subIn K (.ref eC0) (.ref eC6) = some false)
    (ap_InvalidTest_UnknownState : PySem.W.subIn K (.ref eC2) (.ref eC5) = some false)
    (ap_InvalidTest_NotAVerdict : PySem.W.subIn K (.ref eC2) (.ref eC1) = some false)
    (ap_InvalidTest_LimitExceeded : PySem.W.subIn K (.ref eC2) (.ref eC7) = some false)
    (ap_InvalidTest_NotAWord : PySem.W.subIn K (.ref eC2) (.ref eC0) = some false)
    (ap_InvalidTest_InvalidSources : PySem.W.subIn K (.ref eC2) (.ref eC3) = some false)
    (ap_InvalidTest_RuleExists : PySem.W.subIn K (.ref eC2) (.ref eC6) = some false)
    (ap_InvalidSources_UnknownState : PySem.W.subIn K (.ref eC3) (.ref eC5) = some false)
    (ap_InvalidSources_NotAVerdict : PySem.W.subIn K (.ref eC3) (.ref eC1) = some false)
    (ap_InvalidSources_LimitExceeded : PySem.W.subIn K (.ref eC3) (.ref eC7) = some false)
    (ap_InvalidSources_NotAWord : PySem.W.subIn K (.ref eC3) (.ref eC0) = some false)
    (ap_InvalidSources_InvalidTest : PySem.W.subIn K (.ref eC3) (.ref eC2) = some false)
    (ap_InvalidSources_RuleExists : PySem.W.subIn K (.ref eC3) (.ref eC6) = some false)
    (ap_RuleExists_UnknownState : PySem.W.subIn K (.ref eC6) (.ref eC5) = some false)
    (ap_RuleExists_NotAVerdict : PySem.W.subIn K (.ref eC6) (.ref eC1) = some false)
    (ap_RuleExists_LimitExceeded : PySem.W.subIn K (.ref eC6) (.ref eC7) = some false)
    (ap_RuleExists_NotAWord : PySem.W.subIn K (.ref eC6) (.ref eC0) = some false)
    (ap_RuleExists_InvalidTest : PySem.W.subIn K (.ref eC6) (.ref eC2) = some false)
    (ap_RuleExists_InvalidSources : PySem.W.subIn K (.ref eC6) (.ref eC3) = some false)
    (ka_MOST_WORDS : PySem.W.nsIn K mainGlobals "MOST_WORDS" = some (some (.int 3 ck_MOST_WORDS)))
    (ka_MOST_STATES : PySem.W.nsIn K mainGlobals "MOST_STATES" = some (some (.int 6 ck_MOST_STATES)))
    (ka_MOST_HELD : PySem.W.nsIn K mainGlobals "MOST_HELD" = some (some (.int 3 ck_MOST_HELD)))
    (ka_MOST_VERDICT : PySem.W.nsIn K mainGlobals "MOST_VERDICT" = some (some (.int 3 ck_MOST_VERDICT)))
    (ka_NEW : PySem.W.nsIn K mainGlobals "NEW" = some (some (.str "new" ck_NEW)))
    (ka_VALUE : PySem.W.nsIn K mainGlobals "VALUE" = some (some (.str "value" ck_VALUE)))
    {aD_DIGITS : Addr} {es_DIGITS : Array DictEntry} {nD_DIGITS : Nat} (dA_DIGITS : PySem.W.nsIn K mainGlobals "DIGITS" = some (some (.ref aD_DIGITS))) (dL_DIGITS : K.lookup aD_DIGITS = some ⟨.type "dict", none, .dict es_DIGITS nD_DIGITS, #[]⟩) (dK_DIGITS : PySem.W.KeysLit w.params es_DIGITS.toList) (dS_DIGITS : (aD_DIGITS == sysModules) = false) (dE_DIGITS : LitD lit_DIGITS es_DIGITS.toList)
    {aD_FIRST_LINES : Addr} {es_FIRST_LINES : Array DictEntry} {nD_FIRST_LINES : Nat} (dA_FIRST_LINES : PySem.W.nsIn K mainGlobals "FIRST_LINES" = some (some (.ref aD_FIRST_LINES))) (dL_FIRST_LINES : K.lookup aD_FIRST_LINES = some ⟨.type "dict", none, .dict es_FIRST_LINES nD_FIRST_LINES, #[]⟩) (dK_FIRST_LINES : PySem.W.KeysLit w.params es_FIRST_LINES.toList) (dS_FIRST_LINES : (aD_FIRST_LINES == sysModules) = false) (dE_FIRST_LINES : LitD lit_FIRST_LINES es_FIRST_LINES.toList)
    (z0 : PySem.W.nsIn K mainGlobals "list" = some none)
    (z1 : PySem.W.nsIn K mainGlobals "len" = some none)
    (z2 : PySem.W.nsIn K mainGlobals "range" = some none)
    (z3 : PySem.W.nsIn K mainGlobals "tuple" = some none)
    (z4 : PySem.W.nsIn K mainGlobals "isinstance" = some none)
    (z5 : PySem.W.nsIn K mainGlobals "bool" = some none)
    (z6 : PySem.W.nsIn K mainGlobals "int" = some none)
    (z7 : PySem.W.nsIn K mainGlobals "sorted" = some none)
    (z8 : PySem.W.nsIn K mainGlobals "set" = some none)
    (z9 : PySem.W.nsIn K mainGlobals "str" = some none)
    (z10 : PySem.W.nsIn K mainGlobals "zip" = some none)
    (z11 : PySem.W.nsIn K mainGlobals "enumerate" = some none)
    (z12 : PySem.W.nsIn K mainGlobals "dict" = some none)
    : ∃ fd : FuncData, (∀ (s : Shared) (v : Value), BindsTo s fd ⟨[v], []⟩ [("script", v)]) ∧ ∀ base : Heap, K.In base → base.Ns mainGlobals mg → FnG l.prog w K mg base CX0 11 fa fd ["script"] (sp_law K) := by
  have e := hfa.symm.trans (PySem.W.mg_of X G a40)
  cases e
  have F_is_integer := fun_mk (st := s_is_integer) l0 c0 k0
  have b_is_integer := F_is_integer.binds (ps := ["value"]) fun _ _ _ _ _ _ us hl => match us, hl with | [_], _ => rfl
  have F_is_between := fun_mk (st := s_is_between) l1 c1 k1
  have b_is_between := F_is_between.binds (ps := ["value", "low", "high"]) fun _ _ _ _ _ _ us hl => match us, hl with | [_, _, _], _ => rfl
  have F_Watcher_init := fun_mk (st := s_Watcher_init) l2 c2 k2
  have b_Watcher_init := F_Watcher_init.binds (ps := ["self", "words"]) fun _ _ _ _ _ _ us hl => match us, hl with | [_, _], _ => rfl
  have F_Watcher_len := fun_mk (st := s_Watcher_len) l3 c3 k3
  have b_Watcher_len := F_Watcher_len.binds (ps := ["self"]) fun _ _ _ _ _ _ us hl => match us, hl with | [_], _ => rfl
  have F_Watcher_add_state := fun_mk (st := s_Watcher_add_state) l4 c4 k4
  have b_Watcher_add_state := F_Watcher_add_state.binds (ps := ["self", "verdict", "held"]) fun _ _ _ _ _ _ us hl => match us, hl with | [_, _, _], _ => rfl
  have F_Watcher_set_verdict := fun_mk (st := s_Watcher_set_verdict) l5 c5 k5
  have b_Watcher_set_verdict := F_Watcher_set_verdict.binds (ps := ["self", "state", "verdict"]) fun _ _ _ _ _ _ us hl => match us, hl with | [_, _, _], _ => rfl
  have F_Watcher_add_rule := fun_mk (st := s_Watcher_add_rule) l6 c6 k6
  have b_Watcher_add_rule := F_Watcher_add_rule.binds (ps := ["self", "state", "word", "test", "target", "sources"]) fun _ _ _ _ _ _ us hl => match us, hl with | [_, _, _, _, _, _], _ => rfl
  have F_Watcher_verdicts := fun_mk (st := s_Watcher_verdicts) l7 c7 k7
  have b_Watcher_verdicts := F_Watcher_verdicts.binds (ps := ["self"]) fun _ _ _ _ _ _ us hl => match us, hl with | [_], _ => rfl
  have F_Watcher_held_counts := fun_mk (st := s_Watcher_held_counts) l8 c8 k8
  have b_Watcher_held_counts := F_Watcher_held_counts.binds (ps := ["self"]) fun _ _ _ _ _ _ us hl => match us, hl with | [_], _ => rfl
  have F_Watcher_rules := fun_mk (st := s_Watcher_rules) l9 c9 k9
  have b_Watcher_rules := F_Watcher_rules.binds (ps := ["self"]) fun _ _ _ _ _ _ us hl => match us, hl with | [_], _ => rfl
  have F_Watcher_require_state := fun_mk (st := s_Watcher_require_state) l10 c10 k10
  have b_Watcher_require_state := F_Watcher_require_state.binds (ps := ["self", "state"]) fun _ _ _ _ _ _ us hl => match us, hl with | [_, _], _ => rfl
  have F_Watcher_require_word := fun_mk (st := s_Watcher_require_word) l11 c11 k11
  have b_Watcher_require_word := F_Watcher_require_word.binds (ps := ["self", "word"]) fun _ _ _ _ _ _ us hl => match us, hl with | [_, _], _ => rfl
  have F_require_verdict := fun_mk (st := s_require_verdict) l12 c12 k12
  have b_require_verdict := F_require_verdict.binds (ps := ["verdict"]) fun _ _ _ _ _ _ us hl => match us, hl with | [_], _ => rfl
  have F_is_test := fun_mk (st := s_is_test) l13 c13 k13
  have b_is_test := F_is_test.binds (ps := ["test", "held"]) fun _ _ _ _ _ _ us hl => match us, hl with | [_, _], _ => rfl
  have F_are_sources := fun_mk (st := s_are_sources) l14 c14 k14
  have b_are_sources := F_are_sources.binds (ps := ["sources", "wanted", "held", "test"]) fun _ _ _ _ _ _ us hl => match us, hl with | [_, _, _, _], _ => rfl
  have F_is_source := fun_mk (st := s_is_source) l15 c15 k15
  have b_is_source := F_is_source.binds (ps := ["source", "held", "test"]) fun _ _ _ _ _ _ us hl => match us, hl with | [_, _, _], _ => rfl
  have F_rule_order := fun_mk (st := s_rule_order) l16 c16 k16
  have b_rule_order := F_rule_order.binds (ps := ["rule"]) fun _ _ _ _ _ _ us hl => match us, hl with | [_], _ => rfl
  have F_part_order := fun_mk (st := s_part_order) l17 c17 k17
  have b_part_order := F_part_order.binds (ps := ["part"]) fun _ _ _ _ _ _ us hl => match us, hl with | [_], _ => rfl
  have F_format_watcher := fun_mk (st := s_format_watcher) l18 c18 k18
  have b_format_watcher := F_format_watcher.binds (ps := ["watcher"]) fun _ _ _ _ _ _ us hl => match us, hl with | [_], _ => rfl
  have F_parse_watcher := fun_mk (st := s_parse_watcher) l19 c19 k19
  have b_parse_watcher := F_parse_watcher.binds (ps := ["text"]) fun _ _ _ _ _ _ us hl => match us, hl with | [_], _ => rfl
  have F_read_line := fun_mk (st := s_read_line) l20 c20 k20
  have b_read_line := F_read_line.binds (ps := ["watcher", "index", "line"]) fun _ _ _ _ _ _ us hl => match us, hl with | [_, _, _], _ => rfl
  have F_read_parts := fun_mk (st := s_read_parts) l21 c21 k21
  have b_read_parts := F_read_parts.binds (ps := ["watcher", "index", "parts"]) fun _ _ _ _ _ _ us hl => match us, hl with | [_, _, _], _ => rfl
  have F_read_start := fun_mk (st := s_read_start) l22 c22 k22
  have b_read_start := F_read_start.binds (ps := ["watcher", "parts"]) fun _ _ _ _ _ _ us hl => match us, hl with | [_, _], _ => rfl
  have F_read_state := fun_mk (st := s_read_state) l23 c23 k23
  have b_read_state := F_read_state.binds (ps := ["watcher", "parts"]) fun _ _ _ _ _ _ us hl => match us, hl with | [_, _], _ => rfl
  have F_read_rule := fun_mk (st := s_read_rule) l24 c24 k24
  have b_read_rule := F_read_rule.binds (ps := ["watcher", "parts"]) fun _ _ _ _ _ _ us hl => match us, hl with | [_, _], _ => rfl
  have F_law_pen := fun_mk (st := s_law_pen) l25 c25 k25
  have b_law_pen := F_law_pen.binds (ps := ["script"]) fun _ _ _ _ _ _ us hl => match us, hl with | [_], _ => rfl
  have F_law_fresh := fun_mk (st := s_law_fresh) l26 c26 k26
  have b_law_fresh := F_law_fresh.binds (ps := ["pen"]) fun _ _ _ _ _ _ us hl => match us, hl with | [_], _ => rfl
  have F_law_draw := fun_mk (st := s_law_draw) l27 c27 k27
  have b_law_draw := F_law_draw.binds (ps := ["pen", "many"]) fun _ _ _ _ _ _ us hl => match us, hl with | [_, _], _ => rfl
  have F_law_some_sources := fun_mk (st := s_law_some_sources) l28 c28 k28
  have b_law_some_sources := F_law_some_sources.binds (ps := ["pen", "held", "test", "many"]) fun _ _ _ _ _ _ us hl => match us, hl with | [_, _, _, _], _ => rfl
  have F_law_plan := fun_mk (st := s_law_plan) l29 c29 k29
  have b_law_plan := F_law_plan.binds (ps := ["pen", "words", "states", "held"]) fun _ _ _ _ _ _ us hl => match us, hl with | [_, _, _, _], _ => rfl
  have F_law_rank := fun_mk (st := s_law_rank) l30 c30 k30
  have b_law_rank := F_law_rank.binds (ps := ["rule"]) fun _ _ _ _ _ _ us hl => match us, hl with | [_], _ => rfl
  have F_law_plan_text := fun_mk (st := s_law_plan_text) l31 c31 k31
  have b_law_plan_text := F_law_plan_text.binds (ps := ["plan"]) fun _ _ _ _ _ _ us hl => match us, hl with | [_], _ => rfl
  have F_law_whole := fun_mk (st := s_law_whole) l32 c32 k32
  have b_law_whole := F_law_whole.binds (ps := ["word", "most"]) fun _ _ _ _ _ _ us hl => match us, hl with | [_, _], _ => rfl
  have F_law_kind_of := fun_mk (st := s_law_kind_of) l33 c33 k33
  have b_law_kind_of := F_law_kind_of.binds (ps := ["words", "is_first"]) fun _ _ _ _ _ _ us hl => match us, hl with | [_, _], _ => rfl
  have F_law_sources := fun_mk (st := s_law_sources) l34 c34 k34
  have b_law_sources := F_law_sources.binds (ps := ["words", "held", "test", "many"]) fun _ _ _ _ _ _ us hl => match us, hl with | [_, _, _, _], _ => rfl
  have F_law_rule := fun_mk (st := s_law_rule) l35 c35 k35
  have b_law_rule := F_law_rule.binds (ps := ["words", "many", "kinds"]) fun _ _ _ _ _ _ us hl => match us, hl with | [_, _, _], _ => rfl
  have F_law_due := fun_mk (st := s_law_due) l36 c36 k36
  have b_law_due := F_law_due.binds (ps := ["text"]) fun _ _ _ _ _ _ us hl => match us, hl with | [_], _ => rfl
  have F_law_raised := fun_mk (st := s_law_raised) l37 c37 k37
  have b_law_raised := F_law_raised.binds (ps := ["text"]) fun _ _ _ _ _ _ us hl => match us, hl with | [_], _ => rfl
  have F_law_lines_spoilt := fun_mk (st := s_law_lines_spoilt) l38 c38 k38
  have b_law_lines_spoilt := F_law_lines_spoilt.binds (ps := ["pen", "lines"]) fun _ _ _ _ _ _ us hl => match us, hl with | [_, _], _ => rfl
  have F_law_spoilt := fun_mk (st := s_law_spoilt) l39 c39 k39
  have b_law_spoilt := F_law_spoilt.binds (ps := ["pen", "lines"]) fun _ _ _ _ _ _ us hl => match us, hl with | [_, _], _ => rfl
  have F_law := fun_mk (st := s_law) l40 c40 k40
  have T_NotAWord : L2.ErrOk OwnE.bVE "NotAWord" "word" "NotAWord.__init__" K mg eC0 ei0 := ⟨OwnE.bVE_ok, { gC := PySem.W.mg_of X G eaC0, cls := ⟨nm0, eq0, eN0, bs0, _, sn0, sub0, ab0, col0, dd0, m00, m10, m20, m30, m50, exL0, by decide +kernel⟩, sa := esa0, ga := ega0, gg := egg0, noN := enb0, iC := ea10, tC := et10, kC := ekC0, exC := eeC0, tyC := etC0, hdC := ehC0, te := OwnE.exm_own eeC0 eiC0 etC0 esC0, fn := ⟨eoc0, eod0, edc0, epm0, ean0, ecd0, ect0, esl0, _, _, _, _, _, _, defScope s_NotAWord_init, el10, ec10, rfl, by decide +kernel, by decide +kernel, rfl, rfl⟩ }, by decide, by decide, fun _ _ _ _ _ _ _ _ _ _ _ _ _ _ _ _ => by first | rfl | with_unfolding_all rfl⟩
  have T_NotAVerdict : L2.ErrOk OwnE.bVE "NotAVerdict" "verdict" "NotAVerdict.__init__" K mg eC1 ei1 := ⟨OwnE.bVE_ok, { gC := PySem.W.mg_of X G eaC1, cls := ⟨nm1, eq1, eN1, bs1, _, sn1, sub1, ab1, col1, dd1, m01, m11, m21, m31, m51, exL1, by decide +kernel⟩, sa := esa1, ga := ega1, gg := egg1, noN := enb1, iC := ea11, tC := et11, kC := ekC1, exC := eeC1, tyC := etC1, hdC := ehC1, te := OwnE.exm_own eeC1 eiC1 etC1 esC1, fn := ⟨eoc1, eod1, edc1, epm1, ean1, ecd1, ect1, esl1, _, _, _, _, _, _, defScope s_NotAVerdict_init, el11, ec11, rfl, by decide +kernel, by decide +kernel, rfl, rfl⟩ }, by decide, by decide, fun _ _ _ _ _ _ _ _ _ _ _ _ _ _ _ _ => by first | rfl | with_unfolding_all rfl⟩
  have T_InvalidTest : L2.ErrOk OwnE.bVE "InvalidTest" "test" "InvalidTest.__init__" K mg eC2 ei2 := ⟨OwnE.bVE_ok, { gC := PySem.W.mg_of X G eaC2, cls := ⟨nm2, eq2, eN2, bs2, _, sn2, sub2, ab2, col2, dd2, m02, m12, m22, m32, m52, exL2, by decide +kernel⟩, sa := esa2, ga := ega2, gg := egg2, noN := enb2, iC := ea12, tC := et12, kC := ekC2, exC := eeC2, tyC := etC2, hdC := ehC2, te := OwnE.exm_own eeC2 eiC2 etC2 esC2, fn := ⟨eoc2, eod2, edc2, epm2, ean2, ecd2, ect2, esl2, _, _, _, _, _, _, defScope s_InvalidTest_init, el12, ec12, rfl, by decide +kernel, by decide +kernel, rfl, rfl⟩ }, by decide, by decide, fun _ _ _ _ _ _ _ _ _ _ _ _ _ _ _ _ => by first | rfl | with_unfolding_all rfl⟩
  have T_InvalidSources : L2.ErrOk OwnE.bVE "InvalidSources" "sources" "InvalidSources.__init__" K mg eC3 ei3 := ⟨OwnE.bVE_ok, { gC := PySem.W.mg_of X G eaC3, cls := ⟨nm3, eq3, eN3, bs3, _, sn3, sub3, ab3, col3, dd3, m03, m13, m23, m33, m53, exL3, by decide +kernel⟩, sa := esa3, ga := ega3, gg := egg3, noN := enb3, iC := ea13, tC := et13, kC := ekC3, exC := eeC3, tyC := etC3, hdC := ehC3, te := OwnE.exm_own eeC3 eiC3 etC3 esC3, fn := ⟨eoc3, eod3, edc3, epm3, ean3, ecd3, ect3, esl3, _, _, _, _, _, _, defScope s_InvalidSources_init, el13, ec13, rfl, by decide +kernel, by decide +kernel, rfl, rfl⟩ }, by decide, by decide, fun _ _ _ _ _ _ _ _ _ _ _ _ _ _ _ _ => by first | rfl | with_unfolding_all rfl⟩
  have T_ParseError : L2.ErrOk OwnE.bVE "ParseError" "line" "ParseError.__init__" K mg eC4 ei4 := ⟨OwnE.bVE_ok, { gC := PySem.W.mg_of X G eaC4, cls := ⟨nm4, eq4, eN4, bs4, _, sn4, sub4, ab4, col4, dd4, m04, m14, m24, m34, m54, exL4, by decide +kernel⟩, sa := esa4, ga := ega4, gg := egg4, noN := enb4, iC := ea14, tC := et14, kC := ekC4, exC := eeC4, tyC := etC4, hdC := ehC4, te := OwnE.exm_own eeC4 eiC4 etC4 esC4, fn := ⟨eoc4, eod4, edc4, epm4, ean4, ecd4, ect4, esl4, _, _, _, _, _, _, defScope s_ParseError_init, el14, ec14, rfl, by decide +kernel, by decide +kernel, rfl, rfl⟩ }, by decide, by decide, fun _ _ _ _ _ _ _ _ _ _ _ _ _ _ _ _ => by first | rfl | with_unfolding_all rfl⟩
  have T_UnknownState : L2.ErrOk OwnE.bLE "UnknownState" "state" "UnknownState.__init__" K mg eC5 ei5 := ⟨OwnE.bLE_ok, { gC := PySem.W.mg_of X G eaC5, cls := ⟨nm5, eq5, eN5, bs5, _, sn5, sub5, ab5, col5, dd5, m05, m15, m25, m35, m55, exL5, by decide +kernel⟩, sa := esa5, ga := ega5, gg := egg5, noN := enb5, iC := ea15, tC := et15, kC := ekC5, exC := eeC5, tyC := etC5, hdC := ehC5, te := OwnE.exm_own eeC5 eiC5 etC5 esC5, fn := ⟨eoc5, eod5, edc5, epm5, ean5, ecd5, ect5, esl5, _, _, _, _, _, _, defScope s_UnknownState_init, el15, ec15, rfl, by decide +kernel, by decide +kernel, rfl, rfl⟩ }, by decide, by decide, fun _ _ _ _ _ _ _ _ _ _ _ _ _ _ _ _ => by first | rfl | with_unfolding_all rfl⟩
  have T_RuleExists : L2.ErrOk OwnE.bRE "RuleExists" "rule" "RuleExists.__init__" K mg eC6 ei6 := ⟨OwnE.bRE_ok, { gC := PySem.W.mg_of X G eaC6, cls := ⟨nm6, eq6, eN6, bs6, _, sn6, sub6, ab6, col6, dd6, m06, m16, m26, m36, m56, exL6, by decide +kernel⟩, sa := esa6, ga := ega6, gg := egg6, noN := enb6, iC := ea16, tC := et16, kC := ekC6, exC := eeC6, tyC := etC6, hdC := ehC6, te := OwnE.exm_own eeC6 eiC6 etC6 esC6, fn := ⟨eoc6, eod6, edc6, epm6, ean6, ecd6, ect6, esl6, _, _, _, _, _, _, defScope s_RuleExists_init, el16, ec16, rfl, by decide +kernel, by decide +kernel, rfl, rfl⟩ }, by decide, by decide, fun _ _ _ _ _ _ _ _ _ _ _ _ _ _ _ _ => by first | rfl | with_unfolding_all rfl⟩
  have T_LimitExceeded : L2.ErrOk OwnE.bOE "LimitExceeded" "limit" "LimitExceeded.__init__" K mg eC7 ei7 := ⟨OwnE.bOE_ok, { gC := PySem.W.mg_of X G eaC7, cls := ⟨nm7, eq7, eN7, bs7, _, sn7, sub7, ab7, col7, dd7, m07, m17, m27, m37, m57, exL7, by decide +kernel⟩, sa := esa7, ga := ega7, gg := egg7, noN := enb7, iC := ea17, tC := et17, kC := ekC7, exC := eeC7, tyC := etC7, hdC := ehC7, te := OwnE.exm_own eeC7 eiC7 etC7 esC7, fn := ⟨eoc7, eod7, edc7, epm7, ean7, ecd7, ect7, esl7, _, _, _, _, _, _, defScope s_LimitExceeded_init, el17, ec17, rfl, by decide +kernel, by decide +kernel, rfl, rfl⟩ }, by decide, by decide, fun _ _ _ _ _ _ _ _ _ _ _ _ _ _ _ _ => by first | rfl | with_unfolding_all rfl⟩
  obtain ⟨T, hwT⟩ : ∃ T : Tx K mg, T.pr = w.params := ⟨{
    Watcher := ⟨C_Watcher, ⟨pg_Watcher, hd_Watcher, po_Watcher, sa_Watcher⟩, PySem.W.mg_of X G wC_Watcher⟩
    nf_Watcherwords := nf_Watcherwords
    nf_Watcher_verdicts := nf_Watcher_verdicts
    nf_Watcher_held := nf_Watcher_held
    nf_Watcher_rules := nf_Watcher_rules
    is_integer := ⟨f_is_integer, _, F_is_integer, b_is_integer, PySem.W.mg_of X G a0⟩
    is_between := ⟨f_is_between, _, F_is_between, b_is_between, PySem.W.mg_of X G a1⟩
    Watcher_init := ⟨f_Watcher_init, _, F_Watcher_init, b_Watcher_init, ⟨a2, i2, k2⟩⟩
    Watcher_len := ⟨f_Watcher_len, _, F_Watcher_len, b_Watcher_len, ⟨a3, i3, k3⟩⟩
    Watcher_add_state := ⟨f_Watcher_add_state, _, F_Watcher_add_state, b_Watcher_add_state, ⟨a4, i4, k4⟩⟩
    Watcher_set_verdict := ⟨f_Watcher_set_verdict, _, F_Watcher_set_verdict, b_Watcher_set_verdict, ⟨a5, i5, k5⟩⟩
    Watcher_add_rule := ⟨f_Watcher_add_rule, _, F_Watcher_add_rule, b_Watcher_add_rule, ⟨a6, i6, k6⟩⟩
    Watcher_verdicts := ⟨f_Watcher_verdicts, _, F_Watcher_verdicts, b_Watcher_verdicts, ⟨a7, i7, k7⟩⟩
    Watcher_held_counts := ⟨f_Watcher_held_counts, _, F_Watcher_held_counts, b_Watcher_held_counts, ⟨a8, i8, k8⟩⟩
    Watcher_rules := ⟨f_Watcher_rules, _, F_Watcher_rules, b_Watcher_rules, ⟨a9, i9, k9⟩⟩
    Watcher_require_state := ⟨f_Watcher_require_state, _, F_Watcher_require_state, b_Watcher_require_state, ⟨a10, i10, k10⟩⟩
    Watcher_require_word := ⟨f_Watcher_require_word, _, F_Watcher_require_word, b_Watcher_require_word, ⟨a11, i11, k11⟩⟩
    require_verdict := ⟨f_require_verdict, _, F_require_verdict, b_require_verdict, PySem.W.mg_of X G a12⟩
    is_test := ⟨f_is_test, _, F_is_test, b_is_test, PySem.W.mg_of X G a13⟩
    are_sources := ⟨f_are_sources, _, F_are_sources, b_are_sources, PySem.W.mg_of X G a14⟩
    is_source := ⟨f_is_source, _, F_is_source, b_is_source, PySem.W.mg_of X G a15⟩
    rule_order := ⟨f_rule_order, _, F_rule_order, b_rule_order, PySem.W.mg_of X G a16⟩
    part_order := ⟨f_part_order, _, F_part_order, b_part_order, PySem.W.mg_of X G a17⟩
    format_watcher := ⟨f_format_watcher, _, F_format_watcher, b_format_watcher, PySem.W.mg_of X G a18⟩
    parse_watcher := ⟨f_parse_watcher, _, F_parse_watcher, b_parse_watcher, PySem.W.mg_of X G a19⟩
    read_line := ⟨f_read_line, _, F_read_line, b_read_line, PySem.W.mg_of X G a20⟩
    read_parts := ⟨f_read_parts, _, F_read_parts, b_read_parts, PySem.W.mg_of X G a21⟩
    read_start := ⟨f_read_start, _, F_read_start, b_read_start, PySem.W.mg_of X G a22⟩
    read_state := ⟨f_read_state, _, F_read_state, b_read_state, PySem.W.mg_of X G a23⟩
    read_rule := ⟨f_read_rule, _, F_read_rule, b_read_rule, PySem.W.mg_of X G a24⟩
    law_pen := ⟨f_law_pen, _, F_law_pen, b_law_pen, PySem.W.mg_of X G a25⟩
    law_fresh := ⟨f_law_fresh, _, F_law_fresh, b_law_fresh, PySem.W.mg_of X G a26⟩
    law_draw := ⟨f_law_draw, _, F_law_draw, b_law_draw, PySem.W.mg_of X G a27⟩
    law_some_sources := ⟨f_law_some_sources, _, F_law_some_sources, b_law_some_sources, PySem.W.mg_of X G a28⟩
    law_plan := ⟨f_law_plan, _, F_law_plan, b_law_plan, PySem.W.mg_of X G a29⟩
    law_rank := ⟨f_law_rank, _, F_law_rank, b_law_rank, PySem.W.mg_of X G a30⟩
    law_plan_text := ⟨f_law_plan_text, _, F_law_plan_text, b_law_plan_text, PySem.W.mg_of X G a31⟩
    law_whole := ⟨f_law_whole, _, F_law_whole, b_law_whole, PySem.W.mg_of X G a32⟩
    law_kind_of := ⟨f_law_kind_of, _, F_law_kind_of, b_law_kind_of, PySem.W.mg_of X G a33⟩
    law_sources := ⟨f_law_sources, _, F_law_sources, b_law_sources, PySem.W.mg_of X G a34⟩
    law_rule := ⟨f_law_rule, _, F_law_rule, b_law_rule, PySem.W.mg_of X G a35⟩
    law_due := ⟨f_law_due, _, F_law_due, b_law_due, PySem.W.mg_of X G a36⟩
    law_raised := ⟨f_law_raised, _, F_law_raised, b_law_raised, PySem.W.mg_of X G a37⟩
    law_lines_spoilt := ⟨f_law_lines_spoilt, _, F_law_lines_spoilt, b_law_lines_spoilt, PySem.W.mg_of X G a38⟩
    law_spoilt := ⟨f_law_spoilt, _, F_law_spoilt, b_law_spoilt, PySem.W.mg_of X G a39⟩
    mk_Watcher := ⟨mk_Watcher, a2, i2, kc_Watcher⟩
    bt_rule_order := fun s v => .of_eq rfl
    bt_part_order := fun s v => .of_eq rfl
    tf_Watcher_len := tf_Watcher_len
    NotAWord := ⟨eC0, ei0, T_NotAWord⟩
    NotAVerdict := ⟨eC1, ei1, T_NotAVerdict⟩
    InvalidTest := ⟨eC2, ei2, T_InvalidTest⟩
    InvalidSources := ⟨eC3, ei3, T_InvalidSources⟩
    ParseError := ⟨eC4, ei4, T_ParseError⟩
    UnknownState := ⟨eC5, ei5, T_UnknownState⟩
    RuleExists := ⟨eC6, ei6, T_RuleExists⟩
    LimitExceeded := ⟨eC7, ei7, T_LimitExceeded⟩
    ap_UnknownState_NotAVerdict := ap_UnknownState_NotAVerdict
    ap_UnknownState_LimitExceeded := ap_UnknownState_LimitExceeded
    ap_UnknownState_NotAWord := ap_UnknownState_NotAWord
    ap_UnknownState_InvalidTest := ap_UnknownState_InvalidTest
    ap_UnknownState_InvalidSources := ap_UnknownState_InvalidSources
    ap_UnknownState_RuleExists := ap_UnknownState_RuleExists
    ap_NotAVerdict_UnknownState := ap_NotAVerdict_UnknownState
    ap_NotAVerdict_LimitExceeded := ap_NotAVerdict_LimitExceeded
    ap_NotAVerdict_NotAWord := ap_NotAVerdict_NotAWord
    ap_NotAVerdict_InvalidTest := ap_NotAVerdict_InvalidTest
    ap_NotAVerdict_InvalidSources := ap_NotAVerdict_InvalidSources
    ap_NotAVerdict_RuleExists := ap_NotAVerdict_RuleExists
    ap_LimitExceeded_UnknownState := ap_LimitExceeded_UnknownState
    ap_LimitExceeded_NotAVerdict := ap_LimitExceeded_NotAVerdict
    ap_LimitExceeded_NotAWord := ap_LimitExceeded_NotAWord
    ap_LimitExceeded_InvalidTest := ap_LimitExceeded_InvalidTest
    ap_LimitExceeded_InvalidSources := ap_LimitExceeded_InvalidSources
    ap_LimitExceeded_RuleExists := ap_LimitExceeded_RuleExists
    ap_NotAWord_UnknownState := ap_NotAWord_UnknownState
    ap_NotAWord_NotAVerdict := ap_NotAWord_NotAVerdict
    ap_NotAWord_LimitExceeded := ap_NotAWord_LimitExceeded
    ap_NotAWord_InvalidTest := ap_NotAWord_InvalidTest
    ap_NotAWord_InvalidSources := ap_NotAWord_InvalidSources
    ap_NotAWord_RuleExists := ap_NotAWord_RuleExists
    ap_InvalidTest_UnknownState := ap_InvalidTest_UnknownState
    ap_InvalidTest_NotAVerdict := ap_InvalidTest_NotAVerdict
    ap_InvalidTest_LimitExceeded := ap_InvalidTest_LimitExceeded
    ap_InvalidTest_NotAWord := ap_InvalidTest_NotAWord
    ap_InvalidTest_InvalidSources := ap_InvalidTest_InvalidSources
    ap_InvalidTest_RuleExists := ap_InvalidTest_RuleExists
    ap_InvalidSources_UnknownState := ap_InvalidSources_UnknownState
    ap_InvalidSources_NotAVerdict := ap_InvalidSources_NotAVerdict
    ap_InvalidSources_LimitExceeded := ap_InvalidSources_LimitExceeded
    ap_InvalidSources_NotAWord := ap_InvalidSources_NotAWord
    ap_InvalidSources_InvalidTest := ap_InvalidSources_InvalidTest
    ap_InvalidSources_RuleExists := ap_InvalidSources_RuleExists
    ap_RuleExists_UnknownState := ap_RuleExists_UnknownState
    ap_RuleExists_NotAVerdict := ap_RuleExists_NotAVerdict
    ap_RuleExists_LimitExceeded := ap_RuleExists_LimitExceeded
    ap_RuleExists_NotAWord := ap_RuleExists_NotAWord
    ap_RuleExists_InvalidTest := ap_RuleExists_InvalidTest
    ap_RuleExists_InvalidSources := ap_RuleExists_InvalidSources
    ck_MOST_WORDS := ck_MOST_WORDS
    g_MOST_WORDS := PySem.W.mg_of X G ka_MOST_WORDS
    ck_MOST_STATES := ck_MOST_STATES
    g_MOST_STATES := PySem.W.mg_of X G ka_MOST_STATES
    ck_MOST_HELD := ck_MOST_HELD
    g_MOST_HELD := PySem.W.mg_of X G ka_MOST_HELD
    ck_MOST_VERDICT := ck_MOST_VERDICT
    g_MOST_VERDICT := PySem.W.mg_of X G ka_MOST_VERDICT
    ck_NEW := ck_NEW
    g_NEW := PySem.W.mg_of X G ka_NEW
    ck_VALUE := ck_VALUE
    g_VALUE := PySem.W.mg_of X G ka_VALUE
    pr := w.params
    aDIGITS := aD_DIGITS
    g_DIGITS := PySem.W.mg_of X G dA_DIGITS
    dg_DIGITS := fun w' e => digD_of dL_DIGITS (by rw [← e]; exact dK_DIGITS) dS_DIGITS dE_DIGITS
    aFIRST_LINES := aD_FIRST_LINES
    g_FIRST_LINES := PySem.W.mg_of X G dA_FIRST_LINES
    dg_FIRST_LINES := fun w' e => digD_of dL_FIRST_LINES (by rw [← e]; exact dK_FIRST_LINES) dS_FIRST_LINES dE_FIRST_LINES
    m_list := PySem.W.mg_none_of X G z0
    m_len := PySem.W.mg_none_of X G z1
    m_range := PySem.W.mg_none_of X G z2
    m_tuple := PySem.W.mg_none_of X G z3
    m_isinstance := PySem.W.mg_none_of X G z4
    m_bool := PySem.W.mg_none_of X G z5
    m_int := PySem.W.mg_none_of X G z6
    m_sorted := PySem.W.mg_none_of X G z7
    m_set := PySem.W.mg_none_of X G z8
    m_str := PySem.W.mg_none_of X G z9
    m_zip := PySem.W.mg_none_of X G z10
    m_enumerate := PySem.W.mg_none_of X G z11
    m_dict := PySem.W.mg_none_of X G z12 }, rfl⟩
  exact ⟨PySem.W.fnOf "law" "law" (defArgs s_law) (defBody s_law) (defScope s_law) .none kV40 dc40 pm40 an40 cd40 ct40, fun s v => .of_eq rfl, fun base _ _ => ok_law T hwT F_law⟩
theorem walk {l : PySem.W.OpenLaw} {q : Program} {loose : List Str} {XP : (Str → Option Value) → Heap → Prop} {YP : World → Heap → Prop} {d : DefRec} {K : Params → PySem.W.Frag} (hn : l.most = some 63) (hdf : d.params.defaults = [])
    (hY : ∀ (w : World) (h : Heap), YP w h → (K w.params).In h)
    (F : ∀ (w : World) (mg : Str → Option Value) (fa : Addr) (h : Heap), (K w.params).In h → h.Ns mainGlobals mg → mg d.name = some (.ref fa) →
      ∃ fd : FuncData, (∀ (s : Shared) (u : Value), BindsTo s fd ⟨[u], []⟩ [("script", u)]) ∧ ∀ base : Heap, (K w.params).In base → base.Ns mainGlobals mg → FnG l.prog w (K w.params) mg base CX0 11 fa fd ["script"] (sp_law (K w.params))) :
    PySem.W.WalkO q loose XP YP l.row.toRowW d [] (fun f vs => PySem.call f vs) :=
  walk_ofG (n := 63) (k := 11) (x := "script") (sp := sp_law) hn (by decide) hdf ⟨rfl, by decide, by decide⟩ hY F fun _ _ a ns hl hb _ hS => ⟨a, ns, rfl, hS, hl, fun _ => rfl⟩
end Sb
open PySem PySem.W PyProof.Rows
set_option maxRecDepth 100000 in
set_option maxHeartbeats 0 in
theorem PySem.Challenge.cw_seenbefore_k76_texts_that_are_no_watcher_holds : PySem.Challenge.rw_seenbefore_k76_texts_that_are_no_watcher.Holds := by
  w_on; o_law; k_head; (case hw => w_witness2)
  k_fill
  refine Sb.walk (l := PySem.Challenge.rw_seenbefore_k76_texts_that_are_no_watcher) rfl rfl (fun w h Y => PySem.W.kIn_of Y) ?F
  case F =>
    intro w mg fa h KX G hmg
    refine' Sb.all_mk KX G hmg ?a0 ?l0 ?c0 ?k0 ?a1 ?l1 ?c1 ?k1 ?a2 ?i2 ?l2 ?c2 ?k2 ?a3 ?i3 ?l3 ?c3 ?k3 ?a4 ?i4 ?l4 ?c4 ?k4 ?a5 ?i5 ?l5 ?c5 ?k5 ?a6 ?i6 ?l6 ?c6 ?k6 ?a7 ?i7 ?l7 ?c7 ?k7 ?a8 ?i8 ?l8 ?c8 ?k8 ?a9 ?i9 ?l9 ?c9 ?k9 ?a10 ?i10 ?l10 ?c10 ?k10 ?a11 ?i11 ?l11 ?c11 ?k11 ?a12 ?l12 ?c12 ?k12 ?a13 ?l13 ?c13 ?k13 ?a14 ?l14 ?c14 ?k14 ?a15 ?l15 ?c15 ?k15 ?a16 ?l16 ?c16 ?k16 ?a17 ?l17 ?c17 ?k17 ?a18 ?l18 ?c18 ?k18 ?a19 ?l19 ?c19 ?k19 ?a20 ?l20 ?c20 ?k20 ?a21 ?l21 ?c21 ?k21 ?a22 ?l22 ?c22 ?k22 ?a23 ?l23 ?c23 ?k23 ?a24 ?l24 ?c24 ?k24 ?a25 ?l25 ?c25 ?k25 ?a26 ?l26 ?c26 ?k26 ?a27 ?l27 ?c27 ?k27 ?a28 ?l28 ?c28 ?k28 ?a29 ?l29 ?c29 ?k29 ?a30 ?l30 ?c30 ?k30 ?a31 ?l31 ?c31 ?k31 ?a32 ?l32 ?c32 ?k32 ?a33 ?l33 ?c33 ?k33 ?a34 ?l34 ?c34 ?k34 ?a35 ?l35 ?c35 ?k35 ?a36 ?l36 ?c36 ?k36 ?a37 ?l37 ?c37 ?k37 ?a38 ?l38 ?c38 ?k38 ?a39 ?l39 ?c39 ?k39 ?a40 ?l40 ?c40 ?k40 ?tf_Watcher_len ?wC_Watcher ?pg_Watcher ?hd_Watcher ?po_Watcher ?sa_Watcher ?mk_Watcher ?kc_Watcher ?nf_Watcherwords ?nf_Watcher_verdicts ?nf_Watcher_held ?nf_Watcher_rules ?eaC0 ?exL0 ?esa0 ?ega0 ?egg0 ?enb0 ?ea10 ?et10 ?el10 ?ec10 ?ekC0 ?eeC0 ?etC0 ?ehC0 ?eiC0 ?esC0 ?eaC1 ?exL1 ?esa1 ?ega1 ?egg1 ?enb1 ?ea11 ?et11 ?el11 ?ec11 ?ekC1 ?eeC1 ?etC1 ?ehC1 ?eiC1 ?esC1 ?eaC2 ?exL2 ?esa2 ?ega2 ?egg2 ?enb2 ?ea12 ?et12 ?el12 ?ec12 ?ekC2 ?eeC2 ?etC2 ?ehC2 ?eiC2 ?esC2 ?eaC3 ?exL3 ?esa3 ?ega3 ?egg3 ?enb3 ?ea13 ?et13 ?el13 ?ec13 ?ekC3 ?eeC3 ?etC3 ?ehC3 ?eiC3 ?esC3 ?eaC4 ?exL4 ?esa4 ?ega4 ?egg4 ?enb4 ?ea14 ?et14 ?el14 ?ec14 ?ekC4 ?eeC4 ?etC4 ?ehC4 ?eiC4 ?esC4 ?eaC5 ?exL5 ?esa5 ?ega5 ?egg5 ?enb5 ?ea15 ?et15 ?el15 ?ec15 ?ekC5 ?eeC5 ?etC5 ?ehC5 ?eiC5 ?esC5 ?eaC6 ?exL6 ?esa6 ?ega6 ?egg6 ?enb6 ?ea16 ?et16 ?el16 ?ec16 ?ekC6 ?eeC6 ?etC6 ?ehC6 ?eiC6 ?esC6 ?eaC7 ?exL7 ?esa7 ?ega7 ?egg7 ?enb7 ?ea17 ?et17 ?el17 ?ec17 ?ekC7 ?eeC7 ?etC7 ?ehC7 ?eiC7 ?esC7 ?ap_UnknownState_NotAVerdict ?ap_UnknownState_LimitExceeded ?ap_UnknownState_NotAWord ?ap_UnknownState_InvalidTest ?ap_UnknownState_InvalidSources ?ap_UnknownState_RuleExists ?ap_NotAVerdict_UnknownState ?ap_NotAVerdict_LimitExceeded ?ap_NotAVerdict_NotAWord ?ap_NotAVerdict_InvalidTest ?ap_NotAVerdict_InvalidSources ?ap_NotAVerdict_RuleExists ?ap_LimitExceeded_UnknownState ?ap_LimitExceeded_NotAVerdict ?ap_LimitExceeded_NotAWord ?ap_LimitExceeded_InvalidTest ?ap_LimitExceeded_InvalidSources ?ap_LimitExceeded_RuleExists ?ap_NotAWord_UnknownState ?ap_NotAWord_NotAVerdict ?ap_NotAWord_LimitExceeded ?ap_NotAWord_InvalidTest ?ap_NotAWord_InvalidSources ?ap_NotAWord_RuleExists ?ap_InvalidTest_UnknownState ?ap_InvalidTest_NotAVerdict ?ap_InvalidTest_LimitExceeded ?ap_InvalidTest_NotAWord ?ap_InvalidTest_InvalidSources ?ap_InvalidTest_RuleExists ?ap_InvalidSources_UnknownState ?ap_InvalidSources_NotAVerdict ?ap_InvalidSources_LimitExceeded ?ap_InvalidSources_NotAWord ?ap_InvalidSources_InvalidTest ?ap_InvalidSources_RuleExists ?ap_RuleExists_UnknownState ?ap_RuleExists_NotAVerdict ?ap_RuleExists_LimitExceeded ?ap_RuleExists_NotAWord ?ap_RuleExists_InvalidTest ?ap_RuleExists_InvalidSources ?ka_MOST_WORDS ?ka_MOST_STATES ?ka_MOST_HELD ?ka_MOST_VERDICT ?ka_NEW ?ka_VALUE ?dA_DIGITS ?dL_DIGITS ?dK_DIGITS ?dS_DIGITS ?dE_DIGITS ?dA_FIRST_LINES ?dL_FIRST_LINES ?dK_FIRST_LINES ?dS_FIRST_LINES ?dE_FIRST_LINES ?z0 ?z1 ?z2 ?z3 ?z4 ?z5 ?z6 ?z7 ?z8 ?z9 ?z10 ?z11 ?z12
    case wC_Watcher => k_is
    case dA_DIGITS => k_is
    case dL_DIGITS => k_is
    case dA_FIRST_LINES => k_is
    case dL_FIRST_LINES => k_is
    case a0 => k_is
    case l0 => k_is
    case c0 => k_is
    case k0 => k_is
    case a1 => k_is
    case l1 => k_is
    case c1 => k_is
    case k1 => k_is
    case a2 => k_is
    case i2 => k_is
    case l2 => k_is
    case c2 => k_is
    case k2 => k_is
    case a3 => k_is
    case i3 => k_is
    case l3 => k_is
    case c3 => k_is
    case k3 => k_is
    case a4 => k_is
    case i4 => k_is
    case l4 => k_is
    case c4 => k_is
    case k4 => k_is
    case a5 => k_is
    case i5 => k_is
    case l5 => k_is
    case c5 => k_is
    case k5 => k_is
    case a6 => k_is
    case i6 => k_is
    case l6 => k_is
    case c6 => k_is
    case k6 => k_is
    case a7 => k_is
    case i7 => k_is
    case l7 => k_is
    case c7 => k_is
    case k7 => k_is
    case a8 => k_is
    case i8 => k_is
    case l8 => k_is
    case c8 => k_is
    case k8 => k_is
    case a9 => k_is
    case i9 => k_is
    case l9 => k_is
    case c9 => k_is
    case k9 => k_is
    case a10 => k_is
    case i10 => k_is
    case l10 => k_is
    case c10 => k_is
    case k10 => k_is
    case a11 => k_is
    case i11 => k_is
    case l11 => k_is
    case c11 => k_is
    case k11 => k_is
    case a12 => k_is
    case l12 => k_is
    case c12 => k_is
    case k12 => k_is
    case a13 => k_is
    case l13 => k_is
    case c13 => k_is
    case k13 => k_is
    case a14 => k_is
    case l14 => k_is
    case c14 => k_is
    case k14 => k_is
    case a15 => k_is
    case l15 => k_is
    case c15 => k_is
    case k15 => k_is
    case a16 => k_is
    case l16 => k_is
    case c16 => k_is
    case k16 => k_is
    case a17 => k_is
    case l17 => k_is
    case c17 => k_is
    case k17 => k_is
    case a18 => k_is
    case l18 => k_is
    case c18 => k_is
    case k18 => k_is
    case a19 => k_is
    case l19 => k_is
    case c19 => k_is
    case k19 => k_is
    case a20 => k_is
    case l20 => k_is
    case c20 => k_is
    case k20 => k_is
    case a21 => k_is
    case l21 => k_is
    case c21 => k_is
    case k21 => k_is
    case a22 => k_is
    case l22 => k_is
    case c22 => k_is
    case k22 => k_is
    case a23 => k_is
    case l23 => k_is
    case c23 => k_is
    case k23 => k_is
    case a24 => k_is
    case l24 => k_is
    case c24 => k_is
    case k24 => k_is
    case a25 => k_is
    case l25 => k_is
    case c25 => k_is
    case k25 => k_is
    case a26 => k_is
    case l26 => k_is
    case c26 => k_is
    case k26 => k_is
    case a27 => k_is
    case l27 => k_is
    case c27 => k_is
    case k27 => k_is
    case a28 => k_is
    case l28 => k_is
    case c28 => k_is
    case k28 => k_is
    case a29 => k_is
    case l29 => k_is
    case c29 => k_is
    case k29 => k_is
    case a30 => k_is
    case l30 => k_is
    case c30 => k_is
    case k30 => k_is
    case a31 => k_is
    case l31 => k_is
    case c31 => k_is
    case k31 => k_is
    case a32 => k_is
    case l32 => k_is
    case c32 => k_is
    case k32 => k_is
    case a33 => k_is
    case l33 => k_is
    case c33 => k_is
    case k33 => k_is
    case a34 => k_is
    case l34 => k_is
    case c34 => k_is
    case k34 => k_is
    case a35 => k_is
    case l35 => k_is
    case c35 => k_is
    case k35 => k_is
    case a36 => k_is
    case l36 => k_is
    case c36 => k_is
    case k36 => k_is
    case a37 => k_is
    case l37 => k_is
    case c37 => k_is
    case k37 => k_is
    case a38 => k_is
    case l38 => k_is
    case c38 => k_is
    case k38 => k_is
    case a39 => k_is
    case l39 => k_is
    case c39 => k_is
    case k39 => k_is
    case a40 => k_is
    case l40 => k_is
    case c40 => k_is
    case k40 => k_is
    case tf_Watcher_len => k_is
    case pg_Watcher => k_is
    case hd_Watcher => k_is
    case po_Watcher => k_is
    case sa_Watcher => k_is
    case mk_Watcher => k_is
    case kc_Watcher => k_is
    case nf_Watcherwords => k_is
    case nf_Watcher_verdicts => k_is
    case nf_Watcher_held => k_is
    case nf_Watcher_rules => k_is
    case eaC0 => k_is
    case exL0 => k_is
    case esa0 => k_is
    case ega0 => k_is
    case egg0 => k_is
    case enb0 => k_is
    case ea10 => k_is
    case et10 => k_is
    case el10 => k_is
    case ec10 => k_is
    case ekC0 => k_is
    case eeC0 => k_is
    case etC0 => k_is
    case ehC0 => k_is
    case eiC0 => k_is
    case esC0 => first | rfl | k_is
    case eaC1 => k_is
    case exL1 => k_is
    case esa1 => k_is
    case ega1 => k_is
    case egg1 => k_is
    case enb1 => k_is
    case ea11 => k_is
    case et11 => k_is
    case el11 => k_is
    case ec11 => k_is
    case ekC1 => k_is
    case eeC1 => k_is
    case etC1 => k_is
    case ehC1 => k_is
    case eiC1 => k_is
    case esC1 => first | rfl | k_is
    case eaC2 => k_is
    case exL2 => k_is
    case esa2 => k_is
    case ega2 => k_is
    case egg2 => k_is
    case enb2 => k_is
    case ea12 => k_is
    case et12 => k_is
    case el12 => k_is
    case ec12 => k_is
    case ekC2 => k_is
    case eeC2 => k_is
    case etC2 => k_is
    case ehC2 => k_is
    case eiC2 => k_is
    case esC2 => first | rfl | k_is
    case eaC3 => k_is
    case exL3 => k_is
    case esa3 => k_is
    case ega3 => k_is
    case egg3 => k_is
    case enb3 => k_is
    case ea13 => k_is
    case et13 => k_is
    case el13 => k_is
    case ec13 => k_is
    case ekC3 => k_is
    case eeC3 => k_is
    case etC3 => k_is
    case ehC3 => k_is
    case eiC3 => k_is
    case esC3 => first | rfl | k_is
    case eaC4 => k_is
    case exL4 => k_is
    case esa4 => k_is
    case ega4 => k_is
    case egg4 => k_is
    case enb4 => k_is
    case ea14 => k_is
    case et14 => k_is
    case el14 => k_is
    case ec14 => k_is
    case ekC4 => k_is
    case eeC4 => k_is
    case etC4 => k_is
    case ehC4 => k_is
    case eiC4 => k_is
    case esC4 => first | rfl | k_is
    case eaC5 => k_is
    case exL5 => k_is
    case esa5 => k_is
    case ega5 => k_is
    case egg5 => k_is
    case enb5 => k_is
    case ea15 => k_is
    case et15 => k_is
    case el15 => k_is
    case ec15 => k_is
    case ekC5 => k_is
    case eeC5 => k_is
    case etC5 => k_is
    case ehC5 => k_is
    case eiC5 => k_is
    case esC5 => first | rfl | k_is
    case eaC6 => k_is
    case exL6 => k_is
    case esa6 => k_is
    case ega6 => k_is
    case egg6 => k_is
    case enb6 => k_is
    case ea16 => k_is
    case et16 => k_is
    case el16 => k_is
    case ec16 => k_is
    case ekC6 => k_is
    case eeC6 => k_is
    case etC6 => k_is
    case ehC6 => k_is
    case eiC6 => k_is
    case esC6 => first | rfl | k_is
    case eaC7 => k_is
    case exL7 => k_is
    case esa7 => k_is
    case ega7 => k_is
    case egg7 => k_is
    case enb7 => k_is
    case ea17 => k_is
    case et17 => k_is
    case el17 => k_is
    case ec17 => k_is
    case ekC7 => k_is
    case eeC7 => k_is
    case etC7 => k_is
    case ehC7 => k_is
    case eiC7 => k_is
    case esC7 => first | rfl | k_is
    case ap_UnknownState_NotAVerdict => first | rfl | k_is
    case ap_UnknownState_LimitExceeded => first | rfl | k_is
    case ap_UnknownState_NotAWord => first | rfl | k_is
    case ap_UnknownState_InvalidTest => first | rfl | k_is
    case ap_UnknownState_InvalidSources => first | rfl | k_is
    case ap_UnknownState_RuleExists => first | rfl | k_is
    case ap_NotAVerdict_UnknownState => first | rfl | k_is
    case ap_NotAVerdict_LimitExceeded => first | rfl | k_is
    case ap_NotAVerdict_NotAWord => first | rfl | k_is
    case ap_NotAVerdict_InvalidTest => first | rfl | k_is
    case ap_NotAVerdict_InvalidSources => first | rfl | k_is
    case ap_NotAVerdict_RuleExists => first | rfl | k_is
    case ap_LimitExceeded_UnknownState => first | rfl | k_is
    case ap_LimitExceeded_NotAVerdict => first | rfl | k_is
    case ap_LimitExceeded_NotAWord => first | rfl | k_is
    case ap_LimitExceeded_InvalidTest => first | rfl | k_is
    case ap_LimitExceeded_InvalidSources => first | rfl | k_is
    case ap_LimitExceeded_RuleExists => first | rfl | k_is
    case ap_NotAWord_UnknownState => first | rfl | k_is
    case ap_NotAWord_NotAVerdict => first | rfl | k_is
    case ap_NotAWord_LimitExceeded => first | rfl | k_is
    case ap_NotAWord_InvalidTest => first | rfl | k_is
    case ap_NotAWord_InvalidSources => first | rfl | k_is
    case ap_NotAWord_RuleExists => first | rfl | k_is
    case ap_InvalidTest_UnknownState => first | rfl | k_is
    case ap_InvalidTest_NotAVerdict => first | rfl | k_is
    case ap_InvalidTest_LimitExceeded => first | rfl | k_is
    case ap_InvalidTest_NotAWord => first | rfl | k_is
    case ap_InvalidTest_InvalidSources => first | rfl | k_is
    case ap_InvalidTest_RuleExists => first | rfl | k_is
    case ap_InvalidSources_UnknownState => first | rfl | k_is
    case ap_InvalidSources_NotAVerdict => first | rfl | k_is
    case ap_InvalidSources_LimitExceeded => first | rfl | k_is
    case ap_InvalidSources_NotAWord => first | rfl | k_is
    case ap_InvalidSources_InvalidTest => first | rfl | k_is
    case ap_InvalidSources_RuleExists => first | rfl | k_is
    case ap_RuleExists_UnknownState => first | rfl | k_is
    case ap_RuleExists_NotAVerdict => first | rfl | k_is
    case ap_RuleExists_LimitExceeded => first | rfl | k_is
    case ap_RuleExists_NotAWord => first | rfl | k_is
    case ap_RuleExists_InvalidTest => first | rfl | k_is
    case ap_RuleExists_InvalidSources => first | rfl | k_is
    case ka_MOST_WORDS => k_is
    case ka_MOST_STATES => k_is
    case ka_MOST_HELD => k_is
    case ka_MOST_VERDICT => k_is
    case ka_NEW => k_is
    case ka_VALUE => k_is
    case dK_DIGITS => first | k_is | exact ⟨⟨_, _, rfl, rfl⟩, ⟨⟨_, _, rfl, rfl⟩, ⟨⟨_, _, rfl, rfl⟩, ⟨⟨_, _, rfl, rfl⟩, ⟨⟨_, _, rfl, rfl⟩, ⟨⟨_, _, rfl, rfl⟩, True.intro⟩⟩⟩⟩⟩⟩
    case dS_DIGITS => first | rfl | decide +kernel | k_is
    case dE_DIGITS => first | k_is | exact ⟨⟨_, rfl⟩, ⟨_, rfl⟩, ⟨⟨_, rfl⟩, ⟨_, rfl⟩, ⟨⟨_, rfl⟩, ⟨_, rfl⟩, ⟨⟨_, rfl⟩, ⟨_, rfl⟩, ⟨⟨_, rfl⟩, ⟨_, rfl⟩, ⟨⟨_, rfl⟩, ⟨_, rfl⟩, True.intro⟩⟩⟩⟩⟩⟩
    case dK_FIRST_LINES => first | k_is | exact ⟨⟨_, _, rfl, rfl⟩, ⟨⟨_, _, rfl, rfl⟩, ⟨⟨_, _, rfl, rfl⟩, True.intro⟩⟩⟩
    case dS_FIRST_LINES => first | rfl | decide +kernel | k_is
    case dE_FIRST_LINES => first | k_is | exact ⟨⟨_, rfl⟩, ⟨_, rfl⟩, ⟨⟨_, rfl⟩, ⟨_, rfl⟩, ⟨⟨_, rfl⟩, ⟨_, rfl⟩, True.intro⟩⟩⟩
    case z0 => k_is
    case z1 => k_is
    case z2 => k_is
    case z3 => k_is
    case z4 => k_is
    case z5 => k_is
    case z6 => k_is
    case z7 => k_is
    case z8 => k_is
    case z9 => k_is
    case z10 => k_is
    case z11 => k_is
    case z12 => k_is
