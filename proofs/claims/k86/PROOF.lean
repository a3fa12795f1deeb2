import PyProof.Rows.All
import Wide.All
import OpenK.AllK
import Wide.FinOn
import HandS.ForMost
import HandS.ExcOwn
import HandS.EndBits
import HandS.Codes
import HandS.Wide
import HandS.TupAny
import HandS.ForExc
import HandS.IsInst
import HandS.Strs
import HandS.SetKeys
import HandS.TupMul
import HandS.TryMany
import HandS.DictComp
import HandS.Conv
import HandS.SortKw
import KE.KExcInit
import KE.SortKeyHeap
import KE.KDictSum
import PyProof.NeData
import PyProof.EqKinds
import OpenK.KMake
import HandS.TupLen
import HandS.Walk
import HandS.Iter
import KE.KDictDisplayH
import HandS.DictTup
import HandS.ListItems
import KE.KDictItemsList
import HandS.SortInts
import HandS.More
import HandS.ExcIs
import KE.KExcIs
import HandS.DictEq
import KE.KEqNest
import KE.DataEq
import HandS.Flow
import KE.SortData
import PyProof.Rows.SortWalk
import KE.KNestM
import HandS.Zip
import KE.GoesMore
import KE.GoesEnum
import HandS.Style
import HandS.StrMore
import KE.IntTextLaws
import HandS.WrittenGet
import HandS.FStr
import PyProof.StrBlock2
import HandS.Star
import HandS.RaiseMore
import HandS.TryOnly
import KE.KUnpackStar
import KE.KTryMore
import KE.KDictPairs
import KE.KDictCopyH
import HandS.TupLe
import HandS.Defaults
import HandS.MakeKwOnly
import PySem.Challenge.RW_seenbefore_k86_errors_and_names
set_option Elab.async false
set_option linter.all false
set_option maxRecDepth 100000
set_option maxHeartbeats 4000000

/-! Promises of defs where no repr is under way (guards = []): so the repr of made data is known to the sign. -/
namespace Sb
open PySem PySem.Spec PyProof.Rows L2
/-- as FnOk, for calls around which no repr is under way -/
structure FnG (P : Program) (w : World) (K : PySem.W.Frag) (mg : Str → Option Value) (base : Heap) (CX : CXT) (k : Nat) (f : Addr)
    (fd : FuncData) (ps : List Str) (sp : Sp) : Prop where
  len : ∀ vs H Q E, sp vs H Q E → vs.length = ps.length
  run : ∀ (A : Around) (outer : List Env) (s : Shared) (H : Hp) (args : Args) (us : List Value) (vs : List V) (Q : VK) (E : XK),
    A.guards = some [] → Room k A → Env0 P w K mg base A outer s H → BindsTo s fd args (ps.zip us) → Vals vs us → sp vs H Q E →
    codeAny (model P w) A (.call (.ref f) args) (CR CX outer P w H s Q E) s
section
variable {P : Program} {w : World} {K : PySem.W.Frag} {mg : Str → Option Value} {base : Heap} {CX : CXT} {k : Nat} {f : Addr}
theorem FnG.mono {j : Nat} {fd : FuncData} {ps : List Str} {sp : Sp} (F : FnG P w K mg base CX j f fd ps sp) (h : j ≤ k) : FnG P w K mg base CX k f fd ps sp :=
  { len := F.len, run := fun A o s H a us vs Q E g r => F.run A o s H a us vs Q E g (r.mono h) }
theorem FnG.imp {fd : FuncData} {ps : List Str} {sp sp' : Sp} (F : FnG P w K mg base CX k f fd ps sp) (h : ∀ vs H Q E, sp' vs H Q E → sp vs H Q E) :
    FnG P w K mg base CX k f fd ps sp' :=
  { len := fun vs H Q E z => F.len vs H Q E (h _ _ _ _ z), run := fun A o s H a us vs Q E g r e b v z => F.run A o s H a us vs Q E g r e b v (h _ _ _ _ z) }
theorem FnG.of {fd : FuncData} {ps : List Str} {sp : Sp} (F : FnOk P w K mg base CX k f fd ps sp) : FnG P w K mg base CX k f fd ps sp :=
  { len := F.len, run := fun A o s H a us vs Q E _ r => F.run A o s H a us vs Q E r }
/-- from a body to its def -/
theorem fnG_body {name qual : Str} {params : Arguments} {body : List Stmt} {sc : Scope} {dV kV doc pm cdv ct oc : Value} {an od : Option Addr} {osl : Array (Option Value)} {N ps : List Str} {sp : Sp}
    (lk : K.lookup f = some ⟨oc, od, .func (PySem.W.fnOf name qual params body sc dV kV doc pm an cdv ct), osl⟩) (hcd : PySem.W.codeIn K cdv qual = true) (S : FnScope N ps sc)
    (len : ∀ vs H Q E, sp vs H Q E → vs.length = ps.length)
    (walk : ∀ (A : Around) (outer : List Env) (s : Shared) (H : Hp) (vs : List V) (Q : VK) (E : XK), A.guards = some [] →
      Room k (A.deeper (envOfC qual sc s.heap.objs.size f cdv)) → sp vs H Q E →
      ∃ t, PSs (cxOf CX P w K mg base N qual sc f cdv A outer s H E) body t ∧ t { nx := fun _ H' => Q .non H', rt := Q } (start N vs) H) :
    FnG P w K mg base CX (k + 1) f (PySem.W.fnOf name qual params body sc dV kV doc pm an cdv ct) ps sp := by
  constructor
  · exact len
  intro A outer s H args us vs Q E gd room e0 bd rv want
  have inK : K.In s.heap := e0.mod.kin.keeps fun b o q => (e0.bs b o q).1
  have noLim : s.heap.NoLimit := e0.mod.nolimit.keeps fun b o q => (e0.bs b o q).1
  have kinds : ∀ y ∈ ps.zip us, sc.names.lookup y.1 = some .local ∨
      (sc.names.lookup y.1 = some .cell ∧ ((cellsFrom (s.heap.objs.size + 1) sc.names []).lookup y.1).isSome = true) := by
    rintro ⟨n, v⟩ hy
    cases S.par n (List.of_mem_zip hy).1 with
    | inl q => exact Or.inl q
    | inr q => exact Or.inr ⟨q, PySem.W.cellsFrom_some _ _ _ (Or.inl q)⟩
  apply codeAny_call_function room.depth (inK _ _ lk) rfl S.co S.gen rfl (PySem.W.codeRec_of inK hcd)
  apply bd
  apply wpAny_newFunctionEnv_cells S.kind kinds
  intro env he s1 x
  subst he
  refine ⟨noLim.keeps x.toInCall.keep, ?_⟩
  apply codeAny_func
  obtain ⟨t, ht, hq⟩ := walk A outer s H vs Q E gd (room.deeper _) want
  have I := inv_start (CX := CX) (E := E) S room.hd e0 (len _ _ _ _ want) rv x
  refine wpAny_mono (ht.run [] s1 (start N vs) H _ I hq) (fun fl s' hs => ?_) (fun _ _ hs => hs)
  match fl, hs with
  | .ret u, ⟨v, σ', H', J, r', q⟩ => exact ⟨v, H', J.os, J.bare, J.base, J.hok, r', q⟩
  | .next, ⟨σ', H', J, q⟩ => exact ⟨V.non, H', J.os, J.bare, J.base, J.hok, rfl, q⟩
  | .brk, ⟨_, _, _, q⟩ => exact q.elim
  | .cont, ⟨_, _, _, q⟩ => exact q.elim
/-- a def of the text; its walk may use that no repr is under way -/
theorem okG {x qual : Str} {st : Stmt} {fd : FuncData} {N ps : List Str} {sp : Sp} (F : Fun K x qual st f fd) (S : FnScope N ps (defScope st)) (len : ∀ vs H Q E, sp vs H Q E → vs.length = ps.length)
    (walk : ∀ (cdv : Value) (A : Around) (outer : List Env) (s : Shared) (H : Hp) (vs : List V) (Q : VK) (E : XK), A.guards = some [] →
      Room k (A.deeper (envOfC qual (defScope st) s.heap.objs.size f cdv)) → sp vs H Q E →
      ∃ t, PSs (cxOf CX0 P w K mg base N qual (defScope st) f cdv A outer s H E).nox (defBody st) t ∧ t { nx := fun _ H' => Q .non H', rt := Q } (start N vs) H) :
    FnG P w K mg base CX0 (k + 1) f fd ps sp := by
  obtain ⟨oc, od, kV, doc, pm, an, cdv, ct, osl, e, lk, hcd⟩ := F.ex
  subst e
  apply fnG_body lk hcd S len
  intro A outer s H vs Q E gd room want
  obtain ⟨t, h, q⟩ := walk cdv A outer s H vs Q E gd room want
  exact ⟨t, h.nox, q⟩
/-- the same for a def that may raise -/
theorem okGX {x qual : Str} {st : Stmt} {fd : FuncData} {N ps : List Str} {sp : Sp} (F : Fun K x qual st f fd) (S : FnScope N ps (defScope st)) (len : ∀ vs H Q E, sp vs H Q E → vs.length = ps.length)
    (walk : ∀ (cdv : Value) (A : Around) (outer : List Env) (s : Shared) (H : Hp) (vs : List V) (Q : VK) (E : XK), A.guards = some [] →
      Room k (A.deeper (envOfC qual (defScope st) s.heap.objs.size f cdv)) → sp vs H Q E →
      ∃ t, PSs (cxOf (L2.CX P w) P w K mg base N qual (defScope st) f cdv A outer s H E) (defBody st) t ∧ t { nx := fun _ H' => Q .non H', rt := Q } (start N vs) H) :
    FnG P w K mg base (L2.CX P w) (k + 1) f fd ps sp := by
  obtain ⟨oc, od, kV, doc, pm, an, cdv, ct, osl, e, lk, hcd⟩ := F.ex
  subst e
  exact fnG_body lk hcd S len fun A outer s H vs Q E gd room want => walk cdv A outer s H vs Q E gd room want
end

section
variable {X : Cx} {CX : CXT} {k : Nat} {f C : Addr} {fd : FuncData} {ps : List Str} {sp : Sp} {dvs : List V} {ds : List Value} {x m : Str} {p pos apos : Pos} {e o : Expr} {es : List Expr} {ta : TE} {t : TA}
/-- the callee runs; E hangs on the slots -/
theorem runG {pins : List (Addr × Obj)} {σ : L2.St} {H : Hp} {s : Shared} {Q : VK} {E : XK} {us : List Value} {vs : List V} (F : FnG X.prog X.w X.K X.mg X.base CX k f fd ps sp) (gd : X.A.guards = some []) (hr : Room k X.A)
    (hb : Binds X.K fd ps ds) (hd : Vals dvs ds) (hx : ∀ (e : Value) (s' : Shared), CX X.stack H s E e s' → X.xe e s') (I : Inv X pins σ H s) (r : Vals vs us) (h : sp (vs ++ dvs) H Q E) :
    wpAny (model X.prog X.w) X.A (call (.ref f) us) (EP X pins σ Q) X.xe s := by
  have rr := r.append hd
  have nl : (us ++ ds).length = ps.length := rr.length ▸ F.len _ _ _ _ h
  apply wpAny_call
  refine codeAny_mono (F.run X.A X.stack s H ⟨us, []⟩ _ _ Q E gd hr I.env0 (hb s us I.kIn nl) rr h) ?_
  intro res s' hres
  match res, hres with
  | .error er, z => exact hx er s' z
  | .ok (.ret u), z => exact I.after z
  | .ok .next, z => exact z.elim
  | .ok .brk, z => exact z.elim
  | .ok .cont, z => exact z.elim
/-- f(e, ..) -/
theorem pe_callG {E : XK} (F : FnG X.prog X.w X.K X.mg X.base CX k f fd ps sp) (gd : X.A.guards = some []) (hr : Room k X.A) (hg : Gl X x) (hm : X.mg x = some (.ref f)) (hk : PySem.W.keepIn X.K (.ref f) = true)
    (hb : Binds X.K fd ps ds) (hd : Vals dvs ds) (hx : Passes CX X E) (ha : PA X (e :: es) t) (hdb : (x == ("__debug__" : Str)) = false := by decide)
    (he : starEach (e :: es) X.env = (false, eval e X.env) :: starEach es X.env := by rfl)
    (hpl : (backTo pos (starEach es X.env)).any (·.1) = false := by rfl) : PE X (.Call (.Name x p) (e :: es) [] pos) (tCall sp dvs E t) := by
  constructor
  intro pins s σ H Q I h
  apply wpAny_Call_Name_kw
  apply ld_glob I hg hm _ hdb
  apply PySem.W.callWith_K (h₀ := X.base) I.ok.mod.kin hk _ he hpl
  refine thn (ha.run pos pins s σ H _ I h) ?_
  rintro us s1 ⟨vs, H1, I1, r, q⟩
  exact ⟨I1.kIn, runG F gd hr hb hd (fun er s' z => hx pins σ H1 s1 er s' I1 z) I1 r q⟩
/-- f(e, ..), what is raised wished for at the slots -/
theorem pe_callGS {E : L2.St → XK} (F : FnG X.prog X.w X.K X.mg X.base CX k f fd ps sp) (gd : X.A.guards = some []) (hr : Room k X.A) (hg : Gl X x) (hm : X.mg x = some (.ref f)) (hk : PySem.W.keepIn X.K (.ref f) = true)
    (hb : Binds X.K fd ps []) (hx : ∀ σ, PassesAt CX X σ (E σ)) (ha : PA X (e :: es) t) (hdb : (x == ("__debug__" : Str)) = false := by decide)
    (he : starEach (e :: es) X.env = (false, eval e X.env) :: starEach es X.env := by rfl)
    (hpl : (backTo pos (starEach es X.env)).any (·.1) = false := by rfl) : PE X (.Call (.Name x p) (e :: es) [] pos) (tCallS sp E t) := by
  constructor
  intro pins s σ H Q I h
  apply wpAny_Call_Name_kw
  apply ld_glob I hg hm _ hdb
  apply PySem.W.callWith_K (h₀ := X.base) I.ok.mod.kin hk _ he hpl
  refine thn (ha.run pos pins s σ H _ I h) ?_
  rintro us s1 ⟨vs, H1, I1, r, q⟩
  have q' : sp (vs ++ []) H1 Q (E σ) := by rw [List.append_nil]; exact q
  exact ⟨I1.kIn, runG F gd hr hb .nil (fun er s' z => hx σ pins H1 s1 er s' I1 z) I1 r q'⟩
/-- repr of data -/
theorem call_reprD (gd : X.A.guards = some []) (hu : X.A.units + 64 < cLine) : CallR X (.builtin "repr") (fun xs H Q => ∃ v d, xs = [v] ∧ Dp X.K H v d ∧ d.showable = true ∧ d.hasDict = false ∧ d.depth ≤ 60 ∧ d.shown.length ≤ sizeLine ∧ Q (.str d.shown) H) := by
  rintro pins s σ H xs us Q I r ⟨v, d, rfl, hd, hs, hnd, hdp, hz, q⟩
  obtain ⟨u, rfl, ru⟩ := vals1 r
  obtain ⟨as, rd⟩ := Dp.reads I d v u hd ru
  cases v with
  | ref a =>
    obtain rfl : u = Value.ref a := ru
    refine repr_of_reads' rd hs (PyData.noDict_hsm hnd) gd (by omega) (fun _ _ z => z) (fun h' u' tk hk => ?_) hz
    exact ⟨.str d.shown, H, I.kept (fun b o z => hk b o z), ⟨_, rfl⟩, q⟩
  | non =>
    cases hd
    obtain rfl : u = Value.none := ru
    exact PySem.P.repr_of_none ⟨.str _, H, I.tok _, ⟨_, rfl⟩, q⟩
  | bl b =>
    cases hd
    obtain rfl : u = Value.bool b := ru
    exact PySem.P.repr_of_bool ⟨.str _, H, I.tok _, ⟨_, rfl⟩, q⟩
  | int i =>
    cases hd
    obtain ⟨tk, rfl⟩ := ru
    have hi : i.natAbs.log2 < 1920 := by simpa [PyData.showable] using hs
    exact PySem.P.repr_of_int hi ⟨.str _, H, I.tok _, ⟨_, rfl⟩, q⟩
  | str z =>
    cases hd
    obtain ⟨tk, rfl⟩ := ru
    exact PySem.P.repr_of_str (hsz := by simpa only [PyData.shown] using hz) ⟨.str _, H, I.tok _, ⟨_, rfl⟩, q⟩
  | byt b => cases hd
  | flt b => cases hd
  | ty n => cases hd
end
end Sb

namespace Sb
open PySem PySem.Spec PyProof.Rows L2
section
variable {P : Program} {w : World} {K : PySem.W.Frag} {mg mb : Str → Option Value} {k : Nat} {fa a : Addr} {fd : FuncData} {x : Str} {sp : Sp} {s1 : Shared} {vs : List Value} {ns : List Int}
/-- what the row asks of the law's call -/
abbrev Done (P : Program) (w : World) (fa a : Addr) (s1 : Shared) : Prop := codeAny (model P w) callerA (.call (.ref fa) ⟨[.ref a], []⟩)
  (fun r s' => r = .ok (.ret (.bool true)) ∧ OldK s1.heap s'.heap ∧ s'.os = s1.os ∧ AllBare s'.gens) s1
/-- the law's call over an abstract heap that tracks the script at most -/
theorem overH {H : Hp} (KX : K.In s1.heap) (hns : s1.heap.Ns mainGlobals mg) (hb : s1.heap.Ns builtinsNs mb) (hbb : ∀ x : Str, x ≠ "__name__" → mb x = bootBuiltins x) (hlim : s1.heap.NoLimit) (hg : s1.gens = #[])
    (ha : s1.heap.get? a = some { cls := .type "list", data := .seq vs.toArray }) (hr : Room k callerA)
    (F : ∀ base : Heap, K.In base → base.Ns mainGlobals mg → FnG P w K mg base CX0 k fa fd [x] sp) (bd : ∀ (s : Shared) (u : Value), BindsTo s fd ⟨[u], []⟩ [(x, u)])
    (hO : Only H) (ok : HOk P w H s1.heap) (onlyA : ∀ b, H b ≠ none → b = a) (notK : H a ≠ none → K.lookup a = none)
    (want : sp [.ref a] H (fun v _ => v = .bl true) fun _ _ _ => False) : Done P w fa a s1 := by
  have free : ∀ {b : Addr} {o : Obj}, s1.heap.get? b = some o → (b = a → H b = none) → H b = none := by
    intro b o _ z
    cases q : H b with
    | none => rfl
    | some u =>
      have e : b = a := onlyA b (by simp [q])
      rw [z e] at q
      cases q
  have dict : ∀ {b : Addr} {o : Obj} {es : Array DictEntry} {ep : Nat}, s1.heap.get? b = some o → o.data = .dict es ep → H b = none := by
    intro b o es ep e d
    apply free e
    intro z
    subst z
    rw [ha] at e
    cases e
    cases (show Data.seq vs.toArray _ = Data.dict es ep from d)
  have spaces : ∀ {b : Addr} {m : Str → Option Value}, s1.heap.Ns b m → (hidT s1.heap H).Ns b m := by
    rintro b m ⟨o, es, ep, e, d, r⟩
    exact ⟨o, es, ep, hidT_get e (dict e d), d, r⟩
  have inB : K.In (hidT s1.heap H) := by
    intro b o e
    refine hidT_get (KX b o e) (free (KX b o e) fun z => ?_)
    subst z
    cases q : H b with
    | none => rfl
    | some u =>
      rw [notK (by simp [q])] at e
      cases e
  obtain ⟨mc, c1, c2⟩ := hlim
  have md : Mod K mg (hidT s1.heap H) := ⟨inB, spaces hns, ⟨mb, spaces hb, hbb⟩, ⟨mc, spaces c1, c2⟩⟩
  have e0 : Env0 P w K mg (hidT s1.heap H) callerA [] s1 H :=
    { frames := rfl, mod := md, bs := fun b o e => of_hidT e, bsz := Nat.le_of_eq (hidT_size _ _), funs := trivial, frf := (fun b z => (by cases z)), hok := ok, bare := .of_eq hg }
  have run := (F _ inB (spaces hns)).run callerA [] s1 H ⟨[.ref a], []⟩ [.ref a] [.ref a] _ _ rfl hr e0 (bd s1 (.ref a)) (.cons rfl .nil) want
  refine codeAny_mono run ?_
  intro r s' z
  match r, z with
  | .error e, z =>
    exact False.elim z
  | .ok .next, z => exact False.elim z
  | .ok .brk, z => exact False.elim z
  | .ok .cont, z => exact False.elim z
  | .ok (.ret u), ⟨v, H', os, bare, un, ok', rel, q⟩ =>
    subst q
    obtain rfl : u = Value.bool true := rel
    refine ⟨rfl, OldK.of_keep ?_, os, bare⟩
    intro b o e
    cases q : H b with
    | none => exact un.keep b o e q (fun z => by cases z) (fun z => by cases z)
    | some u =>
      cases hO b with
      | inl z =>
        rw [q] at z
        cases z
      | inr z =>
        obtain ⟨ob, xs, z⟩ := z
        have e1 := (ok b _ z).1
        have e2 := (ok' b _ (un.frzs b ob _ z)).1
        rw [e] at e1
        cases e1
        exact e2
/-- the law's call -/
theorem law_callG (KX : K.In s1.heap) (hns : s1.heap.Ns mainGlobals mg) (hb : s1.heap.Ns builtinsNs mb) (hbb : ∀ x : Str, x ≠ "__name__" → mb x = bootBuiltins x) (hlim : s1.heap.NoLimit) (hg : s1.gens = #[])
    (ha : s1.heap.get? a = some { cls := .type "list", data := .seq vs.toArray }) (hi : IntsAre vs ns) (hl : ns.length ≤ sizeLine) (hr : Room k callerA)
    (F : ∀ base : Heap, K.In base → base.Ns mainGlobals mg → FnG P w K mg base CX0 k fa fd [x] sp) (bd : ∀ (s : Shared) (u : Value), BindsTo s fd ⟨[u], []⟩ [(x, u)])
    (want : ∀ H : Hp, Only H → SqL K H a (ns.map V.int) → sp [.ref a] H (fun v _ => v = .bl true) fun _ _ _ => False) : Done P w fa a s1 := by
  have rv := vals_ints hi
  have nv := hi.length
  by_cases hk : K.lookup a = none
  · let H : Hp := fun b => if b = a then some (.frz { cls := .type "list", data := .seq vs.toArray } (.lst (ns.map V.int))) else none
    have at_a : H a = some (.frz { cls := .type "list", data := .seq vs.toArray } (.lst (ns.map V.int))) := if_pos rfl
    have off : ∀ b, b ≠ a → H b = none := fun b z => if_neg z
    have hO : Only H := by
      intro b
      by_cases e : b = a
      · subst e
        exact Or.inr ⟨_, _, at_a⟩
      · exact Or.inl (off b e)
    refine overH (H := H) KX hns hb hbb hlim hg ha hr F bd hO ?_ ?_ (fun _ => hk) (want H hO (Or.inl (Or.inr ⟨_, at_a⟩)))
    · intro b u z
      by_cases e : b = a
      · subst e
        rw [at_a] at z
        cases z
        exact ⟨ha, by rw [List.length_map]; exact hl, vs, _, rv, ha⟩
      · rw [off b e] at z
        cases z
    · intro b z
      by_cases e : b = a
      · exact e
      · exact absurd (off b e) z
  · cases q : K.lookup a with
    | none => exact absurd q hk
    | some o =>
      have e := KX a o q
      rw [ha] at e
      cases e
      have hO : Only fun _ => none := fun _ => Or.inl rfl
      refine overH (H := fun _ => none) KX hns hb hbb hlim hg ha hr F bd hO (fun b u z => by cases z) (fun b z => absurd rfl z) (fun z => absurd rfl z) (want _ hO (Or.inr ?_))
      exact ⟨_, vs.toArray, _, q, rfl, rfl, rfl, by rw [List.size_toArray, nv]; exact hl, by simpa using rv⟩
end
/-- the row's end, from the law's promise -/
theorem walk_ofG {l : PySem.W.OpenLaw} {n k : Nat} {q : Program} {loose : List Str} {XP : (Str → Option Value) → Heap → Prop} {YP : World → Heap → Prop} {d : DefRec} {K : Params → PySem.W.Frag} {sp : PySem.W.Frag → Sp} {x : Str}
    (hn : l.most = some n) (hn2 : n ≤ sizeLine) (hdf : d.params.defaults = []) (hr : Room k callerA) (hY : ∀ (w : World) (h : Heap), YP w h → (K w.params).In h)
    (F : ∀ (w : World) (mg : Str → Option Value) (fa : Addr) (h : Heap), (K w.params).In h → h.Ns mainGlobals mg → mg d.name = some (.ref fa) →
      ∃ fd : FuncData, (∀ (s : Shared) (u : Value), BindsTo s fd ⟨[u], []⟩ [(x, u)]) ∧
        ∀ base : Heap, (K w.params).In base → base.Ns mainGlobals mg → FnG l.prog w (K w.params) mg base CX0 k fa fd [x] (sp (K w.params)))
    (want : ∀ (K : PySem.W.Frag) (H : Hp) (a : Addr) (ns : List Int), ns.length ≤ n → (∀ z ∈ ns, Builtin.Int.intBits z ≤ 1048576) → Only H → SqL K H a (ns.map V.int) →
      sp K [.ref a] H (fun v _ => v = .bl true) fun _ _ _ => False) : PySem.W.WalkO q loose XP YP l.row.toRowW d [] (fun f vs => PySem.call f vs) := by
  apply Att.attach_callB hn hdf
  intro w s0 s1 mg mb fa o pm cd doc a vs ns G Y ho hd hcd hmg hobj hints hlen hbits hg
  obtain ⟨fd, bd, hF⟩ := F w mg fa _ (hY w _ Y) G.T.g hmg
  exact law_callG (hY w _ Y) G.T.g G.T.b G.T.builtins G.T.nolimit hg hobj hints (Nat.le_trans hlen hn2) hr hF bd (fun H hO hS => want _ H a ns hlen hbits hO hS)
end Sb

/-! Data that is small enough to be shown and compared. -/
namespace Sb
open PySem PySem.Spec PyProof.Rows L2
structure Nice (n m : Nat) (d : PyData) : Prop where
  lay : d.canLay0 = true
  dep : d.depth ≤ n
  sho : d.showable = true
  nod : d.hasDict = false
  len : d.shown.length ≤ m
theorem Nice.mono {n m n' m' : Nat} {d : PyData} (h : Nice n m d) (hn : n ≤ n') (hm : m ≤ m') : Nice n' m' d :=
  { h with dep := Nat.le_trans h.dep hn, len := Nat.le_trans h.len hm }
theorem Nice.shaped {n m : Nat} {d : PyData} (h : Nice n m d) (hn : n ≤ 64) : SeqAt.shaped d = true := by
  unfold SeqAt.shaped
  rw [h.lay, decide_eq_true (Nat.le_trans h.dep hn)]
  rfl
theorem log_small {i : Int} (h : i.natAbs < 10 ^ 99) : i.natAbs.log2 < 400 :=
  PySem.Flt.log2_lt_of (by decide) (Nat.lt_of_lt_of_le h (by decide +kernel))
theorem Nice.int {i : Int} (h : i.natAbs < 10 ^ 99) : Nice 0 100 (.int i) := by
  refine ⟨rfl, Nat.le_refl _, ?_, rfl, ?_⟩
  · have := log_small h
    simp only [PyData.showable, decide_eq_true_eq]
    omega
  · have e := int_text_length_le10 (k := 99) (by decide) h
    show (Str.ofString (toString i)).length ≤ 100
    rw [PySem.ofString_length]
    exact e
theorem Nice.bool (b : Bool) : Nice 0 5 (.bool b) := by
  refine ⟨rfl, Nat.le_refl _, rfl, rfl, ?_⟩
  cases b <;> decide
theorem Nice.none : Nice 0 4 .none := ⟨rfl, Nat.le_refl _, rfl, rfl, by decide⟩
theorem niceAll {n m : Nat} : ∀ {ds : List PyData}, (∀ d ∈ ds, Nice n m d) → PyData.canLayAll0 ds = true ∧ PyData.depthAll ds ≤ n ∧ PyData.showableAll ds = true ∧ PyData.hasDictAll ds = false ∧
    ((PyData.shownAll ds).map (·.length)).sum ≤ ds.length * m ∧ (PyData.shownAll ds).length = ds.length
  | [], _ => ⟨rfl, Nat.zero_le _, rfl, rfl, by simp [PyData.shownAll], rfl⟩
  | d :: ds, h => by
    have hd := h d List.mem_cons_self
    obtain ⟨a, b, c, e, f, g⟩ := niceAll (ds := ds) fun x hx => h x (List.mem_cons_of_mem _ hx)
    refine ⟨?_, ?_, ?_, ?_, ?_, ?_⟩
    · simp only [PyData.canLayAll0, hd.lay, a, Bool.and_self]
    · simp only [PyData.depthAll]
      exact Nat.max_le.mpr ⟨hd.dep, b⟩
    · simp only [PyData.showableAll, hd.sho, c, Bool.and_self]
    · simp only [PyData.hasDictAll, hd.nod, e, Bool.or_self]
    · simp only [PyData.shownAll, List.map_cons, List.sum_cons, List.length_cons]
      have := hd.len
      rw [Nat.succ_mul]
      omega
    · simp only [PyData.shownAll, List.length_cons, g]
theorem Nice.tuple {n m k : Nat} {ds : List PyData} (h : ∀ d ∈ ds, Nice n m d) (hk : ds.length ≤ k) : Nice (n + 1) (k * m + 2 * k + 3) (.tuple ds) := by
  obtain ⟨a, b, c, e, f, g⟩ := niceAll h
  refine ⟨a, by simp only [PyData.depth]; omega, c, e, ?_⟩
  have l := tupleText_len_le (PyData.shownAll ds)
  simp only [PyData.shown]
  rw [g] at l
  have l2 : ds.length * m ≤ k * m := Nat.mul_le_mul_right _ hk
  omega
theorem Nice.list {n m k : Nat} {ds : List PyData} (h : ∀ d ∈ ds, Nice n m d) (hk : ds.length ≤ k) : Nice (n + 1) (k * m + 2 * k + 3) (.list ds) := by
  obtain ⟨a, b, c, e, f, g⟩ := niceAll h
  refine ⟨a, by simp only [PyData.depth]; omega, c, e, ?_⟩
  have l := listText_len_le (PyData.shownAll ds)
  simp only [PyData.shown]
  rw [g] at l
  have l2 : ds.length * m ≤ k * m := Nat.mul_le_mul_right _ hk
  omega
theorem shaped_ints (l : List Int) : SeqAt.shaped (.list (l.map PyData.int)) = true := by
  unfold SeqAt.shaped
  have h : PyData.canLayAll0 (l.map PyData.int) = true ∧ PyData.depthAll (l.map PyData.int) = 0 := by
    induction l with
    | nil => exact ⟨rfl, rfl⟩
    | cons x r ih => exact ⟨by simp only [List.map_cons, PyData.canLayAll0, PyData.canLay0, ih.1, Bool.and_self], by simp only [List.map_cons, PyData.depthAll, PyData.depth, ih.2, Nat.max_self]⟩
  simp only [PyData.canLay0, PyData.depth, h.1, h.2, Bool.true_and, decide_eq_true_eq]
  decide
theorem dp_ints (K : PySem.W.Frag) (H : Hp) : ∀ l : List Int, DpAll K H (l.map V.int) (l.map PyData.int)
  | [] => .nil
  | x :: r => .cons (.int x) (dp_ints K H r)
theorem eqv_ints : ∀ l m : List Int, PyData.eqvAll (l.map PyData.int) (m.map PyData.int) = decide (l = m)
  | [], [] => rfl
  | [], _ :: _ => rfl
  | _ :: _, [] => rfl
  | x :: r, y :: t => by
    simp only [List.map_cons, PyData.eqvAll, PyData.eqv, eqv_ints r t, List.cons.injEq]
    by_cases h : x = y <;> simp [h]
theorem div_wide {i j : Int} (h : 0 < j) (h2 : j < 2 ^ 100) : CDivW i j := wide_div (b := 100) h (by omega) (by decide) (by decide)
end Sb

/-! Data that never changes: scalars and tuples of them, at any depth. -/
namespace Sb
open PySem PySem.Spec PyProof.Rows L2
mutual
inductive TD (H : Hp) : V → PyData → Prop
  | non : TD H .non .none
  | bl (b : Bool) : TD H (.bl b) (.bool b)
  | int (i : Int) : TD H (.int i) (.int i)
  | str (x : Str) : TD H (.str x) (.str x)
  | tup {a : Addr} {xs : List V} {ds : List PyData} : H a = some (.tup xs) → TDs H xs ds → TD H (.ref a) (.tuple ds)
inductive TDs (H : Hp) : List V → List PyData → Prop
  | nil : TDs H [] []
  | cons {v : V} {vs : List V} {d : PyData} {ds : List PyData} : TD H v d → TDs H vs ds → TDs H (v :: vs) (d :: ds)
end
/-- tuples stay -/
def Tups (H H' : Hp) : Prop := ∀ a xs, H a = some (.tup xs) → H' a = some (.tup xs)
theorem Tups.refl {H : Hp} : Tups H H := fun _ _ h => h
theorem Tups.trans {H H1 H2 : Hp} (a : Tups H H1) (b : Tups H1 H2) : Tups H H2 := fun x y h => b x y (a x y h)
theorem Tups.same {H H' : Hp} (h : Same H H') : Tups H H' := fun a xs e => h a _ e
theorem Tups.new {H : Hp} {a : Addr} {o : HO} (h : H a = none) : Tups H (upd H a o) := fun b xs e => by
  rw [upd_ne (ne_of_none e h)]
  exact e
theorem Tups.put {H : Hp} {a : Addr} {o u : HO} (h : H a = some u) (hu : ∀ xs, u ≠ .tup xs) : Tups H (upd H a o) := fun b xs e => by
  rw [upd_ne (ne_of e h (hu xs).symm)]
  exact e
theorem Tups.lst {H : Hp} {a : Addr} {o : HO} {l : List V} (h : H a = some (.lst l)) : Tups H (upd H a o) := Tups.put h (fun _ z => by cases z)
mutual
theorem TD.mono {H H' : Hp} (t : Tups H H') : ∀ {v : V} (d : PyData), TD H v d → TD H' v d
  | _, .none, h => by cases h; exact .non
  | _, .bool b, h => by cases h; exact .bl b
  | _, .int i, h => by cases h; exact .int i
  | _, .str x, h => by cases h; exact .str x
  | _, .tuple ds, h => by
    cases h with
    | tup e r => exact .tup (t _ _ e) (TDs.mono t ds r)
  | _, .list _, h => by cases h
  | _, .dict _, h => by cases h
theorem TDs.mono {H H' : Hp} (t : Tups H H') : ∀ {vs : List V} (ds : List PyData), TDs H vs ds → TDs H' vs ds
  | _, [], h => by cases h; exact .nil
  | _, d :: ds, h => by
    cases h with
    | cons a r => exact .cons (TD.mono t d a) (TDs.mono t ds r)
end
mutual
theorem TD.dp {K : PySem.W.Frag} {H : Hp} : ∀ {v : V} (d : PyData), TD H v d → Dp K H v d
  | _, .none, h => by cases h; exact .non
  | _, .bool b, h => by cases h; exact .bl b
  | _, .int i, h => by cases h; exact .int i
  | _, .str x, h => by cases h; exact .str x
  | _, .tuple ds, h => by
    cases h with
    | tup e r => exact .tup (SqT.of e) (TDs.dp ds r)
  | _, .list _, h => by cases h
  | _, .dict _, h => by cases h
theorem TDs.dp {K : PySem.W.Frag} {H : Hp} : ∀ {vs : List V} (ds : List PyData), TDs H vs ds → DpAll K H vs ds
  | _, [], h => by cases h; exact .nil
  | _, d :: ds, h => by
    cases h with
    | cons a r => exact .cons (TD.dp d a) (TDs.dp ds r)
end
theorem TDs.length {H : Hp} : ∀ {vs : List V} {ds : List PyData}, TDs H vs ds → vs.length = ds.length
  | _, _, .nil => rfl
  | _, _, .cons _ r => congrArg (· + 1) r.length
theorem TDs.get {H : Hp} : ∀ {vs : List V} {ds : List PyData} {i : Nat} {v : V}, TDs H vs ds → vs[i]? = some v → ∃ d, ds[i]? = some d ∧ TD H v d
  | _, _, _, _, .nil, e => by simp at e
  | _, _, 0, _, .cons a _, e => by
    simp at e
    subst e
    exact ⟨_, rfl, a⟩
  | _, _, i + 1, v, .cons _ r, e => by
    obtain ⟨d, h1, h2⟩ := TDs.get (i := i) (v := v) r (by simpa using e)
    exact ⟨d, by simpa using h1, h2⟩
theorem TDs.at {H : Hp} : ∀ {vs : List V} {ds : List PyData} {i : Nat} {d : PyData}, TDs H vs ds → ds[i]? = some d → ∃ v, vs[i]? = some v ∧ TD H v d
  | _, _, _, _, .nil, e => by simp at e
  | _, _, 0, _, .cons a _, e => by
    simp at e
    subst e
    exact ⟨_, rfl, a⟩
  | _, _, i + 1, v, .cons _ r, e => by
    obtain ⟨d, h1, h2⟩ := TDs.at (i := i) (d := v) r (by simpa using e)
    exact ⟨d, by simpa using h1, h2⟩
theorem TDs.app {H : Hp} : ∀ {vs us : List V} {ds es : List PyData}, TDs H vs ds → TDs H us es → TDs H (vs ++ us) (ds ++ es)
  | _, _, _, _, .nil, s => s
  | _, _, _, _, .cons a r, s => .cons a (r.app s)
theorem TDs.take {H : Hp} : ∀ {vs : List V} {ds : List PyData} (n : Nat), TDs H vs ds → TDs H (vs.take n) (ds.take n)
  | _, _, 0, _ => .nil
  | _, _, _ + 1, .nil => .nil
  | _, _, n + 1, .cons a r => .cons a (r.take n)
theorem TDs.drop {H : Hp} : ∀ {vs : List V} {ds : List PyData} (n : Nat), TDs H vs ds → TDs H (vs.drop n) (ds.drop n)
  | _, _, 0, r => r
  | _, _, _ + 1, .nil => .nil
  | _, _, n + 1, .cons _ r => r.drop n
theorem TDs.ints {H : Hp} : ∀ {vs : List V} {ns : List Int}, TDs H vs (ns.map PyData.int) → vs = ns.map V.int
  | _, [], h => by cases h; rfl
  | _, n :: ns, h => by
    cases h with
    | cons a r =>
      cases a
      rw [List.map_cons, r.ints]
theorem TDs.ofInts {H : Hp} : ∀ {ns : List Int}, TDs H (ns.map V.int) (ns.map PyData.int)
  | [] => .nil
  | n :: ns => .cons (.int n) TDs.ofInts
/-- a tuple at v -/
theorem TD.isTup {H : Hp} {v : V} {ds : List PyData} (h : TD H v (.tuple ds)) : ∃ a xs, v = .ref a ∧ H a = some (.tup xs) ∧ TDs H xs ds := by
  cases h with
  | tup e r => exact ⟨_, _, rfl, e, r⟩
theorem TD.isInt {H : Hp} {v : V} {i : Int} (h : TD H v (.int i)) : v = .int i := by cases h; rfl
/-- a pair of ints -/
theorem TD.pair {H : Hp} {v : V} {i j : Int} (h : TD H v (.tuple [.int i, .int j])) : ∃ a, v = .ref a ∧ H a = some (.tup [.int i, .int j]) := by
  obtain ⟨a, xs, rfl, e, r⟩ := h.isTup
  cases r with
  | cons h1 r =>
    cases r with
    | cons h2 r =>
      cases r
      cases h1
      cases h2
      exact ⟨a, rfl, e⟩
theorem TD.ofPair {H : Hp} {a : Addr} {i j : Int} (h : H a = some (.tup [.int i, .int j])) : TD H (.ref a) (.tuple [.int i, .int j]) := .tup h (.cons (.int i) (.cons (.int j) .nil))

/-! ### streams -/
def msgD (m : Int × Int) : PyData := .tuple [.int m.1, .int m.2]
def strmD (ms : List (Int × Int)) : PyData := .tuple (ms.map msgD)
theorem msgD_inj {a b : Int × Int} (h : PyData.eqv (msgD a) (msgD b) = true) : a = b := by
  obtain ⟨a1, a2⟩ := a
  obtain ⟨b1, b2⟩ := b
  simp only [msgD, PyData.eqv, PyData.eqvAll, Bool.and_true, Bool.and_eq_true, beq_iff_eq] at h
  rw [h.1, h.2]
theorem eqv_msgs : ∀ a b : List (Int × Int), PyData.eqvAll (a.map msgD) (b.map msgD) = decide (a = b)
  | [], [] => rfl
  | [], _ :: _ => rfl
  | _ :: _, [] => rfl
  | x :: r, y :: t => by
    have ih := eqv_msgs r t
    by_cases h : x = y
    · subst h
      have e : PyData.eqv (msgD x) (msgD x) = true := by simp [msgD, PyData.eqv, PyData.eqvAll]
      simp only [List.map_cons, PyData.eqvAll, e, ih, Bool.true_and, List.cons.injEq, true_and]
    · have e : PyData.eqv (msgD x) (msgD y) = false := by
        cases q : PyData.eqv (msgD x) (msgD y) with
        | false => rfl
        | true => exact absurd (msgD_inj q) h
      simp only [List.map_cons, PyData.eqvAll, e, Bool.false_and, List.cons.injEq, h, false_and, decide_false]
theorem eqv_strm (a b : List (Int × Int)) : PyData.eqv (strmD a) (strmD b) = decide (a = b) := by
  simp only [strmD, PyData.eqv]
  exact eqv_msgs a b
/-- a stream of ints that are not too long -/
def Short (ms : List (Int × Int)) : Prop := ∀ m ∈ ms, m.1.natAbs < 10 ^ 99 ∧ m.2.natAbs < 10 ^ 99
theorem nice_msg {m : Int × Int} (h : m.1.natAbs < 10 ^ 99 ∧ m.2.natAbs < 10 ^ 99) : Nice 1 207 (msgD m) := by
  refine Nice.tuple (n := 0) (m := 100) (k := 2) (fun d hd => ?_) (Nat.le_refl 2)
  simp only [List.mem_cons, List.not_mem_nil, or_false] at hd
  rcases hd with rfl | rfl
  · exact Nice.int h.1
  · exact Nice.int h.2
theorem nice_strm {ms : List (Int × Int)} {k : Nat} (h : Short ms) (hk : ms.length ≤ k) : Nice 2 (k * 207 + 2 * k + 3) (strmD ms) := by
  refine Nice.tuple (n := 1) (m := 207) (k := k) (fun d hd => ?_) (by rw [List.length_map]; exact hk)
  obtain ⟨m, hm, rfl⟩ := List.mem_map.mp hd
  exact nice_msg (h m hm)
theorem TDs.msg {H : Hp} {vs : List V} {ms : List (Int × Int)} {i : Nat} {v : V} (r : TDs H vs (ms.map msgD)) (h : vs[i]? = some v) : ∃ m a, ms[i]? = some m ∧ v = .ref a ∧ H a = some (.tup [.int m.1, .int m.2]) := by
  obtain ⟨d, h1, h2⟩ := r.get h
  rw [List.getElem?_map] at h1
  cases e : ms[i]? with
  | none => rw [e] at h1; cases h1
  | some m =>
    rw [e] at h1
    cases h1
    obtain ⟨a, h3, h4⟩ := TD.pair h2
    exact ⟨m, a, rfl, h3, h4⟩
theorem TDs.msgs_len {H : Hp} {vs : List V} {ms : List (Int × Int)} (r : TDs H vs (ms.map msgD)) : vs.length = ms.length := by
  rw [r.length, List.length_map]
end Sb

/-! Operators over data that never changes. -/
namespace Sb
open PySem PySem.Spec PyProof.Rows L2
theorem same_new {H : Hp} {p : Addr} {o : HO} (h : H p = none) : Same H (upd H p o) := fun b u e => by
  rw [upd_ne (ne_of_none e h)]
  exact e
section
variable {X : Cx}
theorem opImp {f : Value → Value → Sem Value} {r r' : R2} (h : OpR X f r) (i : ∀ x y H Q, r' x y H Q → r x y H Q) : OpR X f r' :=
  fun pins s σ H x y v u Q I rx ry z => h pins s σ H x y v u Q I rx ry (i x y H Q z)
/-- t + u -/
def rCatD : R2 := fun x y H Q => ∃ ds es, TD H x (.tuple ds) ∧ TD H y (.tuple es) ∧ ds.length + es.length ≤ 100000 ∧
  ∀ p H', Same H H' → TD H' (.ref p) (.tuple (ds ++ es)) → Q (.ref p) H'
theorem op_catD : OpR X (binaryOp .Add) rCatD := opImp op_catA fun x y H Q h => by
  obtain ⟨ds, es, h1, h2, hl, q⟩ := h
  obtain ⟨a, xs, rfl, ha, hx⟩ := h1.isTup
  obtain ⟨b, ys, rfl, hb, hy⟩ := h2.isTup
  have lx := hx.length
  have ly := hy.length
  refine ⟨a, b, xs, ys, rfl, rfl, SqT.of ha, SqT.of hb, ?_, ?_, ?_, ?_⟩
  · rw [lx, ly]
    exact Nat.le_trans hl (by decide)
  · intro e
    subst e
    cases hx
    exact q b H (Same.refl H) h2
  · intro _ e
    subst e
    cases hy
    exact q a H (Same.refl H) (by rw [List.append_nil]; exact h1)
  · intro _ _ p np
    exact q p _ (same_new np) (.tup upd_same (TDs.mono (Tups.new np) _ (hx.app hy)))
/-- a part of a list, by its bounds -/
def cutA {α : Type} (xs : List α) (lo hi : Option Int) : List α := (xs.drop (HT.sIx xs.length 0 lo)).take (HT.sIx xs.length xs.length hi - HT.sIx xs.length 0 lo)
theorem cutA_to {α : Type} (xs : List α) {k : Nat} (h : k ≤ xs.length) : cutA xs none (some (k : Int)) = xs.take k := by
  unfold cutA
  rw [HT.sIx_none, HT.sIx_nat, List.drop_zero, Nat.sub_zero, Nat.min_eq_left h]
theorem cutA_from {α : Type} (xs : List α) {k : Nat} (h : k ≤ xs.length) : cutA xs (some (k : Int)) none = xs.drop k := by
  unfold cutA
  rw [HT.sIx_none, HT.sIx_nat, Nat.min_eq_left h]
  exact List.take_of_length_le (by rw [List.length_drop]; exact Nat.le_refl _)
theorem TDs.cut {H : Hp} {xs : List V} {ds : List PyData} (h : TDs H xs ds) (lo hi : Option Int) : TDs H (cutV xs lo hi) (cutA ds lo hi) := by
  unfold cutV cutA
  rw [h.length]
  exact (h.drop _).take _
/-- t[lo:hi] -/
def rSlD : V → Option Int → Option Int → Hp → VK → Prop := fun x lo hi H Q => ∃ ds, TD H x (.tuple ds) ∧ ∀ p H', Same H H' → TD H' (.ref p) (.tuple (cutA ds lo hi)) → Q (.ref p) H'
theorem sl_D : SlR X rSlD := by
  intro pins s σ H x v vl vu lo hi sl Q I rx hs pl pu h
  refine sl_tupA pins s σ H x v vl vu lo hi sl Q I rx hs pl pu ?_
  obtain ⟨ds, hT, q⟩ := h
  obtain ⟨a, xs, rfl, ha, hx⟩ := hT.isTup
  refine ⟨a, xs, rfl, SqT.of ha, ?_, ?_⟩
  · rintro ⟨e1, e2⟩
    refine q a H (Same.refl H) ?_
    have e : cutA ds lo hi = ds := by
      unfold cutA
      rw [← hx.length, e1, e2, List.drop_zero, Nat.sub_zero]
      exact List.take_of_length_le (by rw [hx.length]; exact Nat.le_refl _)
    rw [e]
    exact hT
  · intro _ p np
    exact q p _ (same_new np) (.tup upd_same (TDs.mono (Tups.new np) _ (hx.cut lo hi)))
/-- x == y, x != y over data that never changes -/
def rEqT : R2 := fun x y H Q => ∃ d e, TD H x d ∧ TD H y e ∧ SeqAt.shaped d = true ∧ SeqAt.shaped e = true ∧ Q (.bl (PyData.eqv d e)) H
def rNeT : R2 := fun x y H Q => ∃ d e, TD H x d ∧ TD H y e ∧ SeqAt.shaped d = true ∧ SeqAt.shaped e = true ∧ Q (.bl (!PyData.eqv d e)) H
theorem op_eqT (hu : X.A.units + 64 < cLine) : OpR X (compareOp .Eq) rEqT := opImp (op_eqD hu) fun x y H Q ⟨d, e, h1, h2, r⟩ => ⟨d, e, h1.dp _, h2.dp _, r⟩
theorem op_neT (hu : X.A.units + 64 < cLine) : OpR X (compareOp .NotEq) rNeT := opImp (op_neD hu) fun x y H Q ⟨d, e, h1, h2, r⟩ => ⟨d, e, h1.dp _, h2.dp _, r⟩
end
theorem shaped_strm (ms : List (Int × Int)) : SeqAt.shaped (strmD ms) = true := by
  have h : PyData.canLayAll0 (ms.map msgD) = true ∧ PyData.depthAll (ms.map msgD) ≤ 1 := by
    induction ms with
    | nil => exact ⟨rfl, Nat.zero_le _⟩
    | cons x r ih => exact ⟨by simp only [List.map_cons, PyData.canLayAll0, ih.1, Bool.and_true]; rfl, by simp only [List.map_cons, PyData.depthAll]; exact Nat.max_le.mpr ⟨Nat.le_refl _, ih.2⟩⟩
  unfold SeqAt.shaped
  simp only [strmD, PyData.canLay0, PyData.depth, h.1, Bool.true_and, decide_eq_true_eq]
  have := h.2
  omega
end Sb

/-! An own error class over a built-in one, its __init__ storing its one argument under the argument's name. -/
namespace PySem
namespace OwnE
open PySem.W PySem.Calls PyProof.Rows PySem.HandSPX Builtin Builtin.ObjectAttr
/-- the base: its name, its __new__, its __init__, its mro -/
structure Base where
  B : String
  newId : String
  initId : String
  bm : List Value
structure Base.Ok (b : Base) : Prop where
  fb : ExcBaseFacts b.B b.newId b.initId b.bm
  sb : StoreFacts b.B b.bm "object.__setattr__" "object"
  ne : b.bm.isEmpty = false
section
variable {prog : Program} {w : World} {A : Around} {R : Result → Shared → Prop} {hp : Heap} {g : Array GenState} {d : Drawn} {t : Nat} {os : OsState}
theorem tail_some {b : Base} (ok : b.Ok) : ∀ l : List Value, excTail b.bm l = true → l.isEmpty = false
  | [], e => by
    have z : b.bm = [] := (beq_iff_eq.mp e).symm
    have n := ok.ne
    rw [z] at n
    exact absurd n (by decide)
  | _ :: _, _ => rfl
/-- x.name = v, x a new error -/
theorem stored {b : Base} (ok : b.Ok) {K : W.Frag} {name : Str} {tk : Tok} {v : Value} {x C : Addr} {fv : Array Value} {cd : ClassData} (inK : K.In hp)
    (at_x : hp.get? x = some { cls := .ref C, data := .fields fv }) (at_C : W.clsIn K C = some cd) (tail : excTail b.bm cd.mro = true) (own : cd.hasDict = true) (free : W.findIn K (.ref C) name = some none)
    (want : ∀ h' tk' dx, (∀ c o, c ≠ x → hp.get? c = some o → h'.get? c = some o) → hp.objs.size ≤ dx → dx ≠ x →
      h'.get? x = some { cls := .ref C, dict := some dx, data := .fields fv } → h'.Ns1 dx (fun y => if y = name then some v else none) →
      R (.ok (.ret .none)) ⟨h', g, d, tk', os⟩) :
    codeAny (model prog w) A (.call (.builtin "object.__setattr__") ⟨[.ref x, .str name tk, v], []⟩) R ⟨hp, g, d, t, os⟩ := by
  have inst : W.InstAt hp x { cls := .ref C, data := .fields fv } C none := ⟨at_x, rfl, rfl, trivial⟩
  have so := F.store_object
  have some_ := tail_some ok _ tail
  have object : cd.mro.contains (.type "object") = true := by rw [excTail_contains "object" _ tail]; exact ok.sb.hasOwner
  have apart : x ≠ hp.objs.size := Nat.ne_of_lt (Heap.lt_size at_x)
  have under : W.Looks (model prog w) hp (isInstance (.ref x) (.type "object")) true := by
    refine inst.type.andThen (W.looks_mroIn inK ?_)
    unfold W.mroIn
    rw [at_C, Option.bind_some, if_neg (by rw [some_]; decide), object]
  have data : W.Looks (model prog w) hp (classData C) cd := W.looks_clsIn inK at_C
  have order : W.Looks (model prog w) hp (mroOf (.ref C)) cd.mro := data.andThen .now
  have nobody : W.Looks (model prog w) hp (storeTaker? none) none := .now
  apply codeAny_call_builtin so.slot.plain so.entry
  apply @W.check_slot (model prog w) _ _ ⟨hp, g, d, t, os⟩ "object.__setattr__" "object" "__setattr__" (.ref x) [.str name tk, v] [] _ so.kind so.split under (so.args (.ref x) (.str name tk) v)
  rw [W.osa_eq, refuse_eq]
  apply wpAny_bind
  apply wpAny_bind
  apply inst.type.at
  apply wpAny_bind
  apply order.at
  rw [excTail_pass _ (ok.sb.passes _) _ tail]
  apply wpAny_pure
  apply wpAny_bind
  apply inst.type.at
  apply wpAny_bind
  apply (W.looks_findIn inK free).at
  apply wpAny_bind
  apply nobody.at
  show wpAny _ _ (storeInOwnDict (.ref x) (.ref C) (.str name tk) name v false) _ _ _
  obtain ⟨nm, bs, mro, ns, qn, hd, sn, sb, ab, col, del⟩ := cd
  dsimp only at own
  subst own
  unfold storeInOwnDict ownDictForStores
  repeat (first
    | with_reducible refine store_in_new ?_ ?_
    | with_reducible refine wpAny_loadPart_at at_x ?_
    | with_reducible refine data.at ?_
    | wp_step)
  · exact ⟨_, #[], _, (Heap.get?_update_ne _ _ _ _ apart.symm).trans (Heap.get?_push_at rfl rfl), rfl, (fun e he => absurd he (by simp)), (fun _ => rfl)⟩
  · intro h' tk' ns1 but
    have still : (hp.push { cls := .type "dict", data := .dict #[] }).get? x = some { cls := .ref C, data := .fields fv } := Heap.get?_push_of_some _ at_x
    refine want h' tk' hp.objs.size ?_ (Nat.le_refl _) apart.symm ?_ ns1
    · intro c o hc ho
      rw [but.2 c (Nat.ne_of_lt (Heap.lt_size ho)), Heap.get?_update_ne _ _ _ _ hc]
      exact Heap.get?_push_of_some _ ho
    · rw [but.2 x apart]
      exact Heap.get?_update_self _ still rfl
end
/-! the text of __init__ -/
def iA (f : Str) (p1 p2 : Pos) : Arguments := { posonlyargs := [], args := [{ arg := "self", annotation := none, pos := p1 }, { arg := f, annotation := none, pos := p2 }], vararg := none, kwonlyargs := [], kw_defaults := [], kwarg := none, defaults := [] }
def iB (f : Str) (q1 q2 q3 q4 : Pos) : List Stmt := [.Assign [.Attribute (.Name "self" q1) f q2] (.Name f q3) q4]
/-- what the written part says of the class x, at C, and of its __init__, at fI -/
structure ErrTxt (b : Base) (x f qual : Str) (K : Frag) (mg : Str → Option Value) (C fI : Addr) : Prop where
  gC : mg x = some (.ref C)
  cls : ∃ nm q N bs bm sn sub ab col dd k0 k1 k2 k3 k5, K.lookup C = some (excClassObj nm q C N bs bm true sn sub ab col dd k0 k1 k2 k3 k5 b.newId) ∧ excTail b.bm bm = true
  sa : findIn K (.ref C) "__setattr__" = some (some (.builtin "object.__setattr__"))
  ga : findIn K (.ref C) "__getattribute__" = some (some (.builtin "BaseException.__getattribute__"))
  gg : findIn K (.ref C) "__getattr__" = some none
  noN : findIn K (.ref C) f = some none
  iC : findIn K (.ref C) "__init__" = some (some (.ref fI))
  tC : typeIn K (.ref fI) = some (.type "function")
  kC : keepIn K (.ref C) = true
  exC : subIn K (.ref C) (.type "BaseException") = some true
  tyC : typeIn K (.ref C) = some (.type "type")
  hdC : hasDictIn K C = true
  te : exmOne K (.ref C) (.ref C) = some true
  fn : ∃ (oc : Value) (od : Option Addr) (doc pm : Value) (an : Option Addr) (cdv ct : Value) (osl : Array (Option Value)) (p1 p2 q1 q2 q3 q4 : Pos) (iS : Scope),
    K.lookup fI = some ⟨oc, od, .func (fnOf "__init__" qual (iA f p1 p2) (iB f q1 q2 q3 q4) iS .none .none doc pm an cdv ct), osl⟩ ∧ codeIn K cdv qual = true ∧
    iS.kind = .function ∧ iS.names.lookup ("self" : Str) = some .local ∧ iS.names.lookup f = some .local ∧ iS.isCoroutine = false ∧ iS.isGenerator = false
theorem one_le_line (v : Value) : [v].length ≤ sizeLine := by
  show 1 ≤ sizeLine
  decide
theorem ldE {M : Model} {s : Shared} {name : Str} {scope : Scope} {L a : Addr} {cd : Value} {m : Str → Option Value} {x : Str} {pos : Pos} {v : Value} {Q : Value → Shared → Prop} {A : Around} {E : Value → Shared → Prop} (hn : s.heap.Ns L m) (hv : m x = some v) (h : Q v s)
    (hk : scope.kind = .function) (hl : scope.names.lookup x = some .local) (hd : (x == ("__debug__" : Str)) = false) :
    wpAny M A (eval (.Name x pos) (envOfC name scope L a cd)) Q E s := wpAny_Name (wpAny_loadName_local hk hl hn hv h) hd
/-- what __init__ leaves of a fresh exception at x -/
structure Left (h h' : Heap) (x C dx t1 : Addr) (f : Str) (v : Value) : Prop where
  keep : ∀ b o, b ≠ x → h.get? b = some o → h'.get? b = some o
  obj : h'.get? x = some { cls := .ref C, dict := some dx, data := .fields #[.ref t1, .none, .none, .none, .bool false, .none] }
  dbig : h.objs.size ≤ dx
  dne : dx ≠ x
  ns : h'.Ns1 dx (fun y => if y = f then some v else none)
/-- a made error -/
structure Made1 (h h' : Heap) (e C d : Addr) (f : Str) (v : Value) : Prop where
  keep : ∀ b o, h.get? b = some o → h'.get? b = some o
  new : h.objs.size ≤ e
  obj : ∃ oe vs, h'.get? e = some oe ∧ oe.cls = .ref C ∧ oe.dict = some d ∧ oe.data = .fields vs ∧ vs[1]? = some .none
  dbig : h.objs.size ≤ d
  dne : d ≠ e
  ns : h'.Ns1 d (fun y => if y = f then some v else none)
section
variable {prog : Program} {w : World} {A : Around} {E : Value → Shared → Prop} {R : Result → Shared → Prop} {s : Shared} {b : Base} {x f qual : Str} {K : Frag} {mg : Str → Option Value} {C fI : Addr}
theorem run_init (ok : b.Ok) (T : ErrTxt b x f qual K mg C fI) (hf1 : ¬ f = ("self" : Str)) (hf2 : (f == ("__debug__" : Str)) = false)
    (bind : ∀ (oc : Value) (od : Option Addr) (doc pm : Value) (an : Option Addr) (cdv ct : Value) (p1 p2 q1 q2 q3 q4 : Pos) (iS : Scope) (u v : Value),
      bindArgs (fnOf "__init__" qual (iA f p1 p2) (iB f q1 q2 q3 q4) iS .none .none doc pm an cdv ct) ⟨[u, v], []⟩ = pure [(("self" : Str), u), (f, v)])
    {e t0 : Addr} {v : Value} (X : K.In s.heap) (hlim : s.heap.NoLimit) (he : s.heap.get? e = some (excO C t0)) (hnx : K.lookup e = none) (hroom : A.depth < recursionLimit)
    (want : ∀ h' tk dx, Left s.heap h' e C dx t0 f v → R (.ok (.ret .none)) { s with heap := h', toks := tk }) :
    codeAny (model prog w) A (.call (.ref fI) ⟨[.ref e, v], []⟩) R s := by
  obtain ⟨oc, od, doc, pm, an, cdv, ct, osl, p1, p2, q1, q2, q3, q4, iS, ho, hcd, sk, s1, s2, s3, s4⟩ := T.fn
  obtain ⟨nm, q, N, bs, bm, sn, sub, ab, col, dd, k0, k1, k2, k3, k5, hC, hbm⟩ := T.cls
  have hcl : clsIn K C = some { name := nm, bases := bs, mro := .ref C :: bm, ns := N, qualname := q, hasDict := true, slotNames := sn, subclasses := sub, abstract := ab, collection := col, hasDel := false } := by
    unfold clsIn
    rw [hC] <;> rfl
  refine Att.call_fn (binds := [(("self" : Str), .ref e), (f, v)]) X hlim ho hcd hroom (BindsTo.of_eq (bind oc od doc pm an cdv ct p1 p2 q1 q2 q3 q4 iS _ _)) ?_ (fun z IC => ?_) s3 s4 sk
  · simp [s1, s2]
  obtain ⟨hh, tk1, rfl⟩ := IC.toInCall.same
  have keep := IC.toInCall.keep
  have ns := IC.toInCall.ns
  have X1 : K.In hh := X.keeps keep
  have at_e := keep _ _ he
  have of_f : bindL (envOfC qual iS s.heap.objs.size fI cdv).kindOf [(("self" : Str), .ref e), (f, v)] (fun _ => none) f = some v := by
    have a1 : (envOfC qual iS s.heap.objs.size fI cdv).kindOf f = some .local := s2
    simp only [bindL, a1, if_true]
  have of_s : bindL (envOfC qual iS s.heap.objs.size fI cdv).kindOf [(("self" : Str), .ref e), (f, v)] (fun _ => none) ("self" : Str) = some (.ref e) := by
    have a1 : (envOfC qual iS s.heap.objs.size fI cdv).kindOf f = some .local := s2
    have a2 : (envOfC qual iS s.heap.objs.size fI cdv).kindOf ("self" : Str) = some .local := s1
    simp only [bindL, a1, a2, if_true]
    rw [if_neg (fun z => hf1 z.symm)]
  show wpAny _ _ (execs _ _) _ _ _
  refine wpAny_execs_cons (plainObj_wpAny_Assign_Attribute ?_)
  apply ldE (v := v) ns of_f _ sk s2 hf2
  apply ldE (v := .ref e) ns of_s _ sk s1 (by decide)
  refine set_plain X1 (ox := excO C t0) (od := none) ⟨at_e, rfl, rfl, trivial⟩ T.sa ?_
  refine stored ok X1 at_e hcl (show excTail b.bm (.ref C :: bm) = true from hbm) rfl T.noN ?_
  intro h3 tk3 dx keep3 dn dne at3 ns3
  show wpAny _ _ (execs _ _) _ _ _
  have z : s.heap.objs.size < hh.objs.size := ns.lt
  refine wpAny_execs_nil (want h3 tk3 dx ?_)
  exact { keep := fun c o hc q => keep3 c o hc (keep c o q), obj := at3, dbig := Nat.le_of_lt (Nat.lt_of_lt_of_le z dn), dne := dne, ns := ns3 }
theorem run_made (ok : b.Ok) (T : ErrTxt b x f qual K mg C fI) (hf1 : ¬ f = ("self" : Str)) (hf2 : (f == ("__debug__" : Str)) = false)
    (bind : ∀ (oc : Value) (od : Option Addr) (doc pm : Value) (an : Option Addr) (cdv ct : Value) (p1 p2 q1 q2 q3 q4 : Pos) (iS : Scope) (u v : Value),
      bindArgs (fnOf "__init__" qual (iA f p1 p2) (iB f q1 q2 q3 q4) iS .none .none doc pm an cdv ct) ⟨[u, v], []⟩ = pure [(("self" : Str), u), (f, v)])
    {v : Value} (X : K.In s.heap) (hlim : s.heap.NoLimit) (hroom : A.depth + 1 < recursionLimit)
    (want : ∀ h' tk e d, Made1 s.heap h' e C d f v → R (.ok (.ret (.ref e))) { s with heap := h', toks := tk }) :
    codeAny (model prog w) A (.call (.ref C) ⟨[v], []⟩) R s := by
  obtain ⟨nm, q, N, bs, bm, sn, sub, ab, col, dd, k0, k1, k2, k3, k5, hC, hbm⟩ := T.cls
  obtain ⟨hp, g, dr, tk, os⟩ := s
  have keep : ∀ c o, hp.get? c = some o → ((hp.push (kdv_tup [v])).push (excO C hp.objs.size)).get? c = some o := by
    intro c o z
    exact Heap.get?_push_of_some _ (Heap.get?_push_of_some _ z)
  have there : ((hp.push (kdv_tup [v])).push (excO C hp.objs.size)).get? (hp.objs.size + 1) = some (excO C hp.objs.size) := by heap_get
  have new : K.lookup (hp.objs.size + 1) = none := by
    cases e : K.lookup (hp.objs.size + 1) with
    | none => rfl
    | some o => exact absurd (Nat.lt_of_succ_lt (Heap.lt_size (X _ _ e))) (Nat.lt_irrefl _)
  apply call_own ok.fb (fun X => excTail_contains X bm hbm) (X _ _ hC) (looks_findIn X T.iC) (fun self => bind_fn X self T.tC) (one_le_line v)
  refine run_init (s := ⟨(hp.push (kdv_tup [v])).push (excO C hp.objs.size), g, dr, tk, os⟩) ok T hf1 hf2 bind (X.keeps keep) (hlim.keeps keep) there new hroom ?_
  rintro h' tk' dx ⟨keep2, at2, dn, dne, ns2⟩
  have z : hp.objs.size + 1 + 1 ≤ dx := by
    have q := dn
    rw [Heap.size_push, Heap.size_push] at q
    exact q
  refine ⟨rfl, want h' tk' (hp.objs.size + 1) dx ?_⟩
  refine { keep := fun c o q => keep2 c o ?_ (keep c o q), new := Nat.le_succ _, obj := ⟨_, _, at2, rfl, rfl, rfl, rfl⟩, dbig := (by show hp.objs.size ≤ dx; omega), dne := dne, ns := ns2 }
  exact Nat.ne_of_lt (Nat.lt_succ_of_lt (Heap.lt_size q))
end
end OwnE
end PySem
namespace L2
open PySem PySem.Spec PyProof.Rows
theorem relO_one {f : Str} {v : V} {v' : Value} (r : RelV v v') (y : Str) : RelO (List.lookup y [(f, v)]) (if y = f then some v' else none) := by
  by_cases h : y = f
  · subst h
    rw [if_pos rfl]
    have q : List.lookup y [(y, v)] = some v := by simp [List.lookup]
    rw [q]
    exact r
  · rw [if_neg h]
    have q1 : (y == f) = false := by simpa using h
    have q : List.lookup y [(f, v)] = none := by simp [List.lookup, q1]
    rw [q]
    trivial
section
variable {X : Cx} {b : OwnE.Base} {x f qual : Str} {C fI : Addr}
/-- what an error class's text gives, at any state -/
structure ErrOk (b : OwnE.Base) (x f qual : Str) (K : PySem.W.Frag) (mg : Str → Option Value) (C fI : Addr) : Prop where
  ok : b.Ok
  T : PySem.OwnE.ErrTxt b x f qual K mg C fI
  hf1 : ¬ f = ("self" : Str)
  hf2 : (f == ("__debug__" : Str)) = false
  bind : ∀ (oc : Value) (od : Option Addr) (doc pm : Value) (an : Option Addr) (cdv ct : Value) (p1 p2 q1 q2 q3 q4 : Pos) (iS : Scope) (u v : Value),
      bindArgs (PySem.W.fnOf "__init__" qual (OwnE.iA f p1 p2) (OwnE.iB f q1 q2 q3 q4) iS .none .none doc pm an cdv ct) ⟨[u, v], []⟩ = pure [(("self" : Str), u), (f, v)]
/-- x(e) -/
def tMkE (C : Addr) (f : Str) (ta : TA) : St → Hp → XK → Prop := fun σ H Q => ta σ H fun vs H1 => ∃ v, vs = [v] ∧ ∀ d, H1 d = none → Q (.ref C) (some d) (upd H1 d (.xd [(f, v)]))
theorem pmk_E {a : Expr} {ta : TA} {p pos : Pos} {k : Nat} (T : ErrOk b x f qual X.K X.mg C fI) (hr : Room k X.A) (ha : PA X [a] ta) (hg : Gl X x := by rfl) (hdb : (x == ("__debug__" : Str)) = false := by decide)
    (he : starEach (a :: []) X.env = (false, eval a X.env) :: starEach [] X.env := by rfl) (hpl : (backTo pos (starEach [] X.env)).any (·.1) = false := by rfl) :
    PMk X (.Call (.Name x p) [a] [] pos) (tMkE C f ta) := by
  intro pins s σ H Q I h
  apply wpAny_Call_Name_kw
  apply ld_glob I hg T.T.gC _ hdb
  apply PySem.W.callWith_K (h₀ := X.base) I.ok.mod.kin T.T.kC _ he hpl
  refine thn (ha.run pos pins s σ H _ I h) ?_
  rintro us s1 ⟨vs, H1, I1, r1, v, ev, q1⟩
  subst ev
  refine ⟨I1.kIn, ?_⟩
  match us, r1 with
  | [v'], .cons rv .nil =>
    show wpAny _ _ (call (.ref C) [v']) _ _ _
    have hlim := I1.nolimit
    obtain ⟨hp, g, dr, tk, os⟩ := s1
    apply wpAny_call
    refine PySem.OwnE.run_made T.ok T.T T.hf1 T.hf2 T.bind I1.kIn hlim (by have := hr.dp; omega) ?_
    intro h' tk' e d M
    show MkP X pins σ Q (.ref e) ⟨h', g, dr, tk', os⟩
    obtain ⟨oe, fv, hoe, hc, hd, hdat, h1⟩ := M.obj
    have hns := M.ns
    obtain ⟨G', g1, g2⟩ := restrict h' fun c => decide (c ≠ e)
    have gk : ∀ c, c ≠ e → G'.get? c = h'.get? c := fun c hc => g1 c (decide_eq_true hc)
    have ge : G'.get? e = none := g2 e (by simp)
    have old : ∀ c o, hp.get? c = some o → G'.get? c = some o := by
      intro c o q
      rw [gk c (Nat.ne_of_lt (Nat.lt_of_lt_of_le (Heap.lt_size q) M.new))]
      exact M.keep c o q
    have ob : ObjOk X.prog X.w (upd H1 d (.xd [(f, v)])) G' d (.xd [(f, v)]) := ⟨_, hns.at (fun o q => (gk d M.dne).trans q), fun y => relO_one rv y⟩
    have J : Inv X pins σ (upd H1 d (.xd [(f, v)])) ⟨G', g, dr, tk', os⟩ := I1.laid (t' := tk') old M.dbig ob
    refine ⟨e, oe, fv, ⟨G', g, dr, tk', os⟩, _, .ref C, some d, rfl, J, ?_, ge, hoe, ⟨hc, hd⟩, hdat, h1, ?_, rfl, I1.bare, raises_own T.T.exC T.T.tyC, q1 d (I1.hok.fresh M.dbig)⟩
    · intro c o q
      by_cases hc : c = e
      · have q' : G'.get? c = some o := q
        rw [hc, ge] at q'
        cases q'
      · exact (gk c hc).symm.trans q
    · rw [upd_ne (Ne.symm M.dne)]
      exact I1.hok.fresh M.new
/-- raise x(e) -/
def tRaiseE (C : Addr) (f : Str) (W : WX) (ta : TA) : TS := fun _ σ H => tMkE C f ta σ H fun cls d H' => W cls d σ H'
theorem ps_raiseE {a : Expr} {ta : TA} {W : WX} {p pos pos2 : Pos} {k : Nat} (hc : X.calm = true) (T : ErrOk b x f qual X.K X.mg C fI) (hr : Room k X.A) (tk : Takes X W) (ha : PA X [a] ta) (hg : Gl X x := by rfl) (hdb : (x == ("__debug__" : Str)) = false := by decide)
    (he : starEach (a :: []) X.env = (false, eval a X.env) :: starEach [] X.env := by rfl) (hpl : (backTo pos (starEach [] X.env)).any (·.1) = false := by rfl) :
    PS X (.Raise (some (.Call (.Name x p) [a] [] pos)) none pos2) (tRaiseE C f W ta) := ps_raise hc tk (pmk_E T hr ha hg hdb he hpl)
/-- e.f, e the error that the suite holds (at a; its class cls, its dict d) -/
def tByE (C : Addr) (f : Str) (a : Addr) (cls : Value) (d : Option Addr) (te : TE) : TE := fun σ H Q => te σ H fun y H1 => y = .ref a ∧ cls = .ref C ∧ ∃ (dd : Addr) (v : V), d = some dd ∧ H1 dd = some (.xd [(f, v)]) ∧ Q v H1
theorem pe_byE {a : Addr} {oe : Obj} {cls : Value} {d : Option Addr} {pn : List (Addr × Obj)} {e : Expr} {te : TE} {pos : Pos} (T : ErrOk b x f qual X.K X.mg C fI) (hz : Zc cls d oe) (hf : ∃ vs, oe.data = .fields vs) (he : PE (X.suite a ((a, oe) :: pn)) e te)
    (hb : attributeBase e f X.env (eval e X.env) = eval e X.env := by rfl) :
    PE (X.suite a ((a, oe) :: pn)) (.Attribute e f pos) (tByE C f a cls d te) := by
  constructor
  intro pins s σ H Q I h
  refine attr_of hb (thn (he.run pins s σ H _ I h) ?_)
  rintro u s1 ⟨y, H1, I1, ry, ey, ec, dd, v, ed, ea, q⟩
  subst ey ec ed
  obtain rfl : u = Value.ref a := ry
  have ha := (I1.pin (a, oe) (List.mem_append_left _ List.mem_cons_self)).1
  obtain ⟨vs, hd⟩ := hf
  obtain ⟨mA, hns, hr⟩ := (I1.hok dd _ ea : ObjOk X.prog X.w H1 s1.heap dd (.xd [(f, v)]))
  obtain ⟨od, ho, hl⟩ := lookIn_ns hns
  have l : List.lookup f [(f, v)] = some v := by simp [List.lookup]
  obtain ⟨u, hu, ru⟩ := RelO.some_of (v := v) (o := mA f) (by rw [← l]; exact hr f)
  have J : PySem.W.InstAt s1.heap a oe C (some od) := by
    refine ⟨ha, hz.1, ?_, ?_⟩
    · unfold PySem.W.notCls
      rw [hd] <;> rfl
    · rw [hz.2]
      exact ho
  exact HandSPX.exc_get I1.kIn J T.T.ga T.T.gg T.T.exC (PySem.W.findObj_own T.T.hdC T.T.noN rfl (by rw [hl, hu])) (handed_of ru) ⟨v, H1, I1.tok _, ru, q⟩
end
end L2
namespace PySem.OwnE
def bVE : Base := ⟨"ValueError", "ValueError.__new__", "ValueError.__init__", [Value.type "ValueError", Value.type "Exception", Value.type "BaseException", Value.type "object"]⟩
def bLE : Base := ⟨"LookupError", "LookupError.__new__", "LookupError.__init__", [Value.type "LookupError", Value.type "Exception", Value.type "BaseException", Value.type "object"]⟩
def bRE : Base := ⟨"RuntimeError", "RuntimeError.__new__", "RuntimeError.__init__", [Value.type "RuntimeError", Value.type "Exception", Value.type "BaseException", Value.type "object"]⟩
def bOE : Base := ⟨"OverflowError", "OverflowError.__new__", "OverflowError.__init__", [Value.type "OverflowError", Value.type "ArithmeticError", Value.type "Exception", Value.type "BaseException", Value.type "object"]⟩
theorem bVE_ok : bVE.Ok := ⟨F.excBase_ValueError, F.store_ValueError, rfl⟩
theorem bLE_ok : bLE.Ok := ⟨F.excBase_LookupError, F.store_LookupError, rfl⟩
theorem bRE_ok : bRE.Ok := ⟨F.excBase_RuntimeError, F.store_RuntimeError, rfl⟩
theorem bOE_ok : bOE.Ok := ⟨F.excBase_OverflowError, F.store_OverflowError, rfl⟩
/-- an error of its own class is what the class's clause names -/
theorem exm_own {K : W.Frag} {S : Addr} (h1 : W.subIn K (.ref S) (.type "BaseException") = some true) (h2 : W.isClsIn K S = true) (h3 : W.typeIn K (.ref S) = some (.type "type")) (h4 : W.subIn K (.ref S) (.ref S) = some true) : W.exmOne K (.ref S) (.ref S) = some true := by
  have e1 : (W.subIn K (.ref S) (.type "BaseException") == some true) = true := by
    rw [h1]
    rfl
  have e2 : ((W.clsIn K S).isSome && W.typeIn K (.ref S) == some (.type "type")) = true := by
    rw [show (W.clsIn K S).isSome = true from h2, h3]
    rfl
  unfold W.exmOne
  rw [if_pos e1]
  show (if ((W.clsIn K S).isSome && W.typeIn K (.ref S) == some (.type "type")) = true then W.subIn K (.ref S) (.ref S) else none) = some true
  rw [if_pos e2]
  exact h4
/-- what a clause of the class S says of an error of the class R -/
theorem exm_to {K : W.Frag} {R S : Addr} {b : Bool} (h1 : W.subIn K (.ref S) (.type "BaseException") = some true) (h2 : W.isClsIn K S = true) (h3 : W.typeIn K (.ref S) = some (.type "type")) (h4 : W.subIn K (.ref R) (.ref S) = some b) : W.exmOne K (.ref R) (.ref S) = some b := by
  have e1 : (W.subIn K (.ref S) (.type "BaseException") == some true) = true := by
    rw [h1]
    rfl
  have e2 : ((W.clsIn K S).isSome && W.typeIn K (.ref S) == some (.type "type")) = true := by
    rw [show (W.clsIn K S).isSome = true from h2, h3]
    rfl
  unfold W.exmOne
  rw [if_pos e1]
  show (if ((W.clsIn K S).isSome && W.typeIn K (.ref S) == some (.type "type")) = true then W.subIn K (.ref R) (.ref S) else none) = some b
  rw [if_pos e2]
  exact h4
end PySem.OwnE

/-! Where the text's defs, methods, classes and errors stand. -/
namespace Sb
open PySem PySem.Spec PyProof.Rows L2
structure Dn (K : PySem.W.Frag) (mg : Str → Option Value) (nm : Str) (st : Stmt) (ps : List Str) where
  f : Addr
  fd : FuncData
  F : Fun K nm nm st f fd
  b : Binds K fd ps []
  g : mg nm = some (.ref f)
structure Mn (K : PySem.W.Frag) (C : Addr) (nm qual : Str) (st : Stmt) (ps : List Str) where
  f : Addr
  fd : FuncData
  F : Fun K nm qual st f fd
  b : Binds K fd ps []
  M : Meth K C nm f
structure Cn (K : PySem.W.Frag) (mg : Str → Option Value) (nm : Str) where
  C : Addr
  cl : Cls K C
  g : mg nm = some (.ref C)
structure En (K : PySem.W.Frag) (mg : Str → Option Value) (bs : OwnE.Base) (nm fld qual : Str) where
  C : Addr
  i : Addr
  e : L2.ErrOk bs nm fld qual K mg C i
end Sb

/-! Data of any kind: scalars, tuples, lists, the empty dict; none of it lies at p. -/
namespace Sb
open PySem PySem.Spec PyProof.Rows L2
mutual
inductive LD (p : Addr) (H : Hp) : V → PyData → Prop
  | non : LD p H .non .none
  | bl (b : Bool) : LD p H (.bl b) (.bool b)
  | int (i : Int) : LD p H (.int i) (.int i)
  | str (x : Str) : LD p H (.str x) (.str x)
  | tup {a : Addr} {xs : List V} {ds : List PyData} : a ≠ p → H a = some (.tup xs) → LDs p H xs ds → LD p H (.ref a) (.tuple ds)
  | lst {a : Addr} {xs : List V} {ds : List PyData} : a ≠ p → a ≠ sysModules → H a = some (.lst xs) → LDs p H xs ds → LD p H (.ref a) (.list ds)
  | dic {a : Addr} : a ≠ p → H a = some (.dK []) → LD p H (.ref a) (.dict [])
  | dct {a : Addr} : a ≠ p → H a = some (.dT []) → LD p H (.ref a) (.dict [])
inductive LDs (p : Addr) (H : Hp) : List V → List PyData → Prop
  | nil : LDs p H [] []
  | cons {v : V} {vs : List V} {d : PyData} {ds : List PyData} : LD p H v d → LDs p H vs ds → LDs p H (v :: vs) (d :: ds)
end
/-- all but p stands -/
abbrev But (p : Addr) (H H' : Hp) : Prop := ∀ b o, H b = some o → b ≠ p → H' b = some o
theorem But.same {p : Addr} {H H' : Hp} (h : Same H H') : But p H H' := fun b o e _ => h b o e
mutual
theorem LD.mono {p : Addr} {H H' : Hp} (t : But p H H') : ∀ {v : V} (d : PyData), LD p H v d → LD p H' v d
  | _, .none, h => by cases h; exact .non
  | _, .bool b, h => by cases h; exact .bl b
  | _, .int i, h => by cases h; exact .int i
  | _, .str x, h => by cases h; exact .str x
  | _, .tuple ds, h => by
    cases h with
    | tup n e r => exact .tup n (t _ _ e n) (LDs.mono t ds r)
  | _, .list ds, h => by
    cases h with
    | lst n m e r => exact .lst n m (t _ _ e n) (LDs.mono t ds r)
  | _, .dict _, h => by
    cases h with
    | dic n e => exact .dic n (t _ _ e n)
    | dct n e => exact .dct n (t _ _ e n)
theorem LDs.mono {p : Addr} {H H' : Hp} (t : But p H H') : ∀ {vs : List V} (ds : List PyData), LDs p H vs ds → LDs p H' vs ds
  | _, [], h => by cases h; exact .nil
  | _, d :: ds, h => by
    cases h with
    | cons a r => exact .cons (LD.mono t d a) (LDs.mono t ds r)
end
theorem LDs.length {p : Addr} {H : Hp} : ∀ {vs : List V} {ds : List PyData}, LDs p H vs ds → vs.length = ds.length
  | _, _, .nil => rfl
  | _, _, .cons _ r => congrArg (· + 1) r.length
theorem LDs.get {p : Addr} {H : Hp} : ∀ {vs : List V} {ds : List PyData} {i : Nat} {v : V}, LDs p H vs ds → vs[i]? = some v → ∃ d, ds[i]? = some d ∧ LD p H v d
  | _, _, _, _, .nil, e => by simp at e
  | _, _, 0, _, .cons a _, e => by
    simp at e
    subst e
    exact ⟨_, rfl, a⟩
  | _, _, i + 1, v, .cons _ r, e => by
    obtain ⟨d, h1, h2⟩ := LDs.get (i := i) (v := v) r (by simpa using e)
    exact ⟨d, by simpa using h1, h2⟩
theorem LDs.at {p : Addr} {H : Hp} : ∀ {vs : List V} {ds : List PyData} {i : Nat} {d : PyData}, LDs p H vs ds → ds[i]? = some d → ∃ v, vs[i]? = some v ∧ LD p H v d
  | _, _, _, _, .nil, e => by simp at e
  | _, _, 0, _, .cons a _, e => by
    simp at e
    subst e
    exact ⟨_, rfl, a⟩
  | _, _, i + 1, v, .cons _ r, e => by
    obtain ⟨d, h1, h2⟩ := LDs.at (i := i) (d := v) r (by simpa using e)
    exact ⟨d, by simpa using h1, h2⟩
theorem LDs.app {p : Addr} {H : Hp} : ∀ {vs us : List V} {ds es : List PyData}, LDs p H vs ds → LDs p H us es → LDs p H (vs ++ us) (ds ++ es)
  | _, _, _, _, .nil, s => s
  | _, _, _, _, .cons a r, s => .cons a (r.app s)
theorem LDs.take {p : Addr} {H : Hp} : ∀ {vs : List V} {ds : List PyData} (n : Nat), LDs p H vs ds → LDs p H (vs.take n) (ds.take n)
  | _, _, 0, _ => .nil
  | _, _, _ + 1, .nil => .nil
  | _, _, n + 1, .cons a r => .cons a (r.take n)
theorem LDs.drop {p : Addr} {H : Hp} : ∀ {vs : List V} {ds : List PyData} (n : Nat), LDs p H vs ds → LDs p H (vs.drop n) (ds.drop n)
  | _, _, 0, r => r
  | _, _, _ + 1, .nil => .nil
  | _, _, n + 1, .cons _ r => r.drop n
mutual
theorem TD.ld {p : Addr} {H : Hp} (hp : ∀ xs, H p ≠ some (.tup xs)) : ∀ {v : V} (d : PyData), TD H v d → LD p H v d
  | _, .none, h => by cases h; exact .non
  | _, .bool b, h => by cases h; exact .bl b
  | _, .int i, h => by cases h; exact .int i
  | _, .str x, h => by cases h; exact .str x
  | _, .tuple ds, h => by
    cases h with
    | tup e r => exact .tup (fun z => hp _ (z ▸ e)) e (TDs.ld hp ds r)
  | _, .list _, h => by cases h
  | _, .dict _, h => by cases h
theorem TDs.ld {p : Addr} {H : Hp} (hp : ∀ xs, H p ≠ some (.tup xs)) : ∀ {vs : List V} (ds : List PyData), TDs H vs ds → LDs p H vs ds
  | _, [], h => by cases h; exact .nil
  | _, d :: ds, h => by
    cases h with
    | cons a r => exact .cons (TD.ld hp d a) (TDs.ld hp ds r)
end
/-! it is read off the heap -/
section
variable {X : Cx} {pins : List (Addr × Obj)} {σ : L2.St} {H : Hp} {s : Shared} {p : Addr}
mutual
theorem LD.reads (I : L2.Inv X pins σ H s) : ∀ (d : PyData) (v : V) (u : Value), LD p H v d → RelV v u → ∃ as, Reads s.heap u d as ∧ sysModules ∉ as
  | .none, _, _, h, r => by cases h; cases r; exact ⟨_, Reads.none, List.not_mem_nil⟩
  | .bool b, _, _, h, r => by cases h; cases r; exact ⟨_, Reads.bool b, List.not_mem_nil⟩
  | .int i, _, _, h, r => by cases h; obtain ⟨t, rfl⟩ := r; exact ⟨_, Reads.int i t, List.not_mem_nil⟩
  | .str x, _, _, h, r => by cases h; obtain ⟨t, rfl⟩ := r; exact ⟨_, Reads.str x t, List.not_mem_nil⟩
  | .list ds, _, _, h, r => by
    cases h with
    | lst n m e hs =>
      cases r
      obtain ⟨its, rv, ⟨o, k, ho, hc, _, hd⟩, _⟩ := I.list (SqL.of e)
      obtain ⟨as, hr, hn⟩ := LDs.reads I ds _ its hs rv
      refine ⟨_, Reads.list ho hc hd hr, fun z => ?_⟩
      rcases List.mem_cons.mp z with z | z
      · exact m z.symm
      · exact hn z
  | .tuple ds, _, _, h, r => by
    cases h with
    | tup n e hs =>
      cases r
      obtain ⟨its, rv, ⟨o, ho, hc, k, hd⟩, _⟩ := I.tuple (SqT.of e)
      obtain ⟨as, hr, hn⟩ := LDs.reads I ds _ its hs rv
      exact ⟨_, Reads.tuple ho hc hd hr, hn⟩
  | .dict _, _, _, h, r => by
    cases h with
    | @dic a n e =>
      cases r
      obtain ⟨_, low, vs, rel, o, es, ep, ho, ex, hd, _, pr, _⟩ := dk_of I.hok e
      cases rel
      have hes : es.toList = [] := List.eq_nil_of_length_eq_zero (Pairs.length pr)
      refine ⟨_, Reads.dict (kvs := []) ho ex.1 hd (by rw [hes]; exact .nil) (by rw [hes]; exact .nil), fun z => ?_⟩
      have z' : sysModules = a := by simpa using z
      rw [← z'] at low
      simp at low
    | @dct a n e =>
      cases r
      obtain ⟨_, low, xs, rel, o, es, ep, ho, ex, hd, pr, _⟩ := dt_of I.hok e
      cases rel
      have hes : es.toList = [] := pr
      refine ⟨_, Reads.dict (kvs := []) ho ex.1 hd (by rw [hes]; exact .nil) (by rw [hes]; exact .nil), fun z => ?_⟩
      have z' : sysModules = a := by simpa using z
      rw [← z'] at low
      simp at low
theorem LDs.reads (I : L2.Inv X pins σ H s) : ∀ (ds : List PyData) (vs : List V) (us : List Value), LDs p H vs ds → Vals vs us → ∃ as, ReadsAll s.heap us ds as ∧ sysModules ∉ as
  | [], _, _, h, r => by cases h; cases r; exact ⟨_, ReadsAll.nil, List.not_mem_nil⟩
  | d :: ds, _, _, h, r => by
    cases h with
    | cons h1 h2 =>
      cases r with
      | cons r1 r2 =>
        obtain ⟨as, q1, n1⟩ := LD.reads I d _ _ h1 r1
        obtain ⟨bs, q2, n2⟩ := LDs.reads I ds _ _ h2 r2
        refine ⟨_, ReadsAll.cons q1 q2, fun z => ?_⟩
        rcases List.mem_append.mp z with z | z
        · exact n1 z
        · exact n2 z
end
end
/-- its type -/
def tyN : PyData → String
  | .none => "NoneType"
  | .bool _ => "bool"
  | .int _ => "int"
  | .str _ => "str"
  | .list _ => "list"
  | .tuple _ => "tuple"
  | .dict _ => "dict"
theorem LD.ty {K : PySem.W.Frag} {p : Addr} {H : Hp} {v : V} {d : PyData} (h : LD p H v d) : TyX K H v (.type (tyN d)) := by
  cases h with
  | non => exact .base .non
  | bl b => exact .base (.bl b)
  | int i => exact .base (.int i)
  | str x => exact .base (.str x)
  | tup n e r => exact .base (.tup e)
  | lst n m e r => exact .base (.lst e)
  | dic n e => exact .base (.dK e)
  | dct n e => exact .base (.dT e)
def isIntD : PyData → Bool
  | .int _ => true
  | .bool _ => true
  | _ => false
def isBoolD : PyData → Bool
  | .bool _ => true
  | _ => false
def isTupD : PyData → Bool
  | .tuple _ => true
  | _ => false
theorem kit_int (K : PySem.W.Frag) (d : PyData) : PySem.W.kitOne K (.type (tyN d)) (.type "int") = some (isIntD d) := by
  cases d <;> first | rfl | decide +kernel | kernel_rfl
theorem kit_bool (K : PySem.W.Frag) (d : PyData) : PySem.W.kitOne K (.type (tyN d)) (.type "bool") = some (isBoolD d) := by
  cases d <;> first | rfl | decide +kernel | kernel_rfl
theorem kit_tup (K : PySem.W.Frag) (d : PyData) : PySem.W.kitOne K (.type (tyN d)) (.type "tuple") = some (isTupD d) := by
  cases d <;> first | rfl | decide +kernel | kernel_rfl
section
variable {X : Cx}
/-- isinstance(x, T) -/
def rIsL (T : String) (f : PyData → Bool) : List V → Hp → VK → Prop := fun xs H Q => ∃ p v d, xs = [v, .ty T] ∧ LD p H v d ∧ Q (.bl (f d)) H
theorem call_isL {T : String} {f : PyData → Bool} (hf : ∀ K d, PySem.W.kitOne K (.type (tyN d)) (.type T) = some (f d)) : CallR X (.builtin "isinstance") (rIsL T f) := by
  intro pins s σ H xs us Q I r h
  obtain ⟨p, v, d, rfl, hv, q⟩ := h
  exact call_isi pins s σ H _ us Q I r ⟨v, .ty T, _, _, _, rfl, .ty T, hv.ty, hf _ d, q⟩
/-- repr -/
def rReprL : List V → Hp → VK → Prop := fun xs H Q => ∃ p v d, xs = [v] ∧ LD p H v d ∧ d.showable = true ∧ d.depth ≤ 60 ∧ d.shown.length ≤ sizeLine ∧ Q (.str d.shown) H
theorem call_reprL (gd : X.A.guards = some []) (hu : X.A.units + 64 < cLine) : CallR X (.builtin "repr") rReprL := by
  intro pins s σ H xs us Q I r h
  obtain ⟨p, v, d, rfl, hv, hs, hd, hz, q⟩ := h
  by_cases hn : d.hasDict = false ∧ ∀ a, v ≠ .ref a
  · have dp : Dp X.K H v d := by
      cases hv with
      | non => exact .non
      | bl b => exact .bl b
      | int i => exact .int i
      | str x => exact .str x
      | tup n e r => exact absurd rfl (hn.2 _)
      | lst n m e r => exact absurd rfl (hn.2 _)
      | dic n e => exact absurd rfl (hn.2 _)
      | dct n e => exact absurd rfl (hn.2 _)
    exact call_reprD gd hu pins s σ H _ us Q I r ⟨v, d, rfl, dp, hs, hn.1, hd, hz, q⟩
  · obtain ⟨a, rfl⟩ : ∃ a, v = .ref a := by
      cases hv with
      | non => exact absurd ⟨rfl, fun _ z => by cases z⟩ hn
      | bl b => exact absurd ⟨rfl, fun _ z => by cases z⟩ hn
      | int i => exact absurd ⟨rfl, fun _ z => by cases z⟩ hn
      | str x => exact absurd ⟨rfl, fun _ z => by cases z⟩ hn
      | tup n e r => exact ⟨_, rfl⟩
      | lst n m e r => exact ⟨_, rfl⟩
      | dic n e => exact ⟨_, rfl⟩
      | dct n e => exact ⟨_, rfl⟩
    obtain ⟨u, rfl, ru⟩ := vals1 r
    obtain rfl : u = Value.ref a := ru
    obtain ⟨as, rd, low⟩ := LD.reads I d _ _ hv rfl
    exact repr_of_reads' rd hs (fun _ => low) gd (by omega) (fun _ _ z => z) (fun h' u' tk hk => ⟨.str d.shown, H, I.kept (fun b o z => hk b o z), ⟨_, rfl⟩, q⟩) hz
/-- list(t), where it lies -/
def rLstL : List V → Hp → VK → Prop := fun xs H Q => ∃ a ys, xs = [.ref a] ∧ H a = some (.tup ys) ∧ ∀ l, H l = none → l ≠ sysModules → Q (.ref l) (upd H l (.lst ys))
theorem call_lstL : CallR X (.type "list") rLstL := by
  intro pins s σ H xs us Q I r h
  obtain ⟨a, ys, rfl, ha, q⟩ := h
  obtain ⟨u, rfl, rx⟩ := vals1 r
  obtain rfl : u = Value.ref a := rx
  obtain ⟨its, rv, ⟨o, ho, hc, n, hd⟩, hz⟩ := I.tuple (SqT.of ha)
  have hl := rv.length
  refine call_list_seq a (.inr rfl) ho hc hd (fun h' c' kp e => ?_) (by simp only [List.size_toArray] <;> omega)
  exact ⟨.ref s.heap.objs.size, _, I.laid (t' := s.toks) kp (Nat.le_refl _) (show ObjOk X.prog X.w _ h' _ (.lst ys) from ⟨hz, its, c', rv, e⟩), rfl, q _ (I.hok.fresh (Nat.le_refl _)) (Nat.ne_of_gt I.big)⟩
/-- t != () -/
def rNe0 : R2 := fun x y H Q => ∃ a b xs, x = .ref a ∧ y = .ref b ∧ H a = some (.tup xs) ∧ H b = some (.tup []) ∧ Q (.bl (!xs.isEmpty)) H
theorem op_ne0 (hu : X.A.units + 64 < cLine) : OpR X (compareOp .NotEq) rNe0 := by
  intro pins s σ H x y v u Q I rx ry h
  obtain ⟨a, b, xs, rfl, rfl, ha, hb, q⟩ := h
  cases rx
  cases ry
  obtain ⟨its, r1, t1, _⟩ := I.tuple (SqT.of ha)
  obtain ⟨its2, r2, t2, _⟩ := I.tuple (SqT.of hb)
  cases r2
  have l1 := r1.length
  refine SeqAt.RcNeAt.tuples (e := fun _ => true) t1 t2 (by omega) (fun j _ h2 => absurd h2 (Nat.not_lt_zero _)) X.prog X.w X.xe (EP X pins σ Q) ⟨.bl _, H, I, rfl, ?_⟩
  have e : (!((List.range (min its.toArray.size ([] : List Value).toArray.size)).all (fun _ => true) && its.toArray.size == ([] : List Value).toArray.size)) = !xs.isEmpty := by
    cases xs with
    | nil => cases r1; rfl
    | cons z zs => cases r1; simp
  rw [e]
  exact q
/-- two pairs of texts, != -/
def rNeS : R2 := fun x y H Q => ∃ a b s1 s2 t1 t2, x = .ref a ∧ y = .ref b ∧ H a = some (.tup [.str s1, .str s2]) ∧ H b = some (.tup [.str t1, .str t2]) ∧ Q (.bl (!(s1 == t1 && s2 == t2))) H
theorem op_neS (hu : X.A.units + 64 < cLine) : OpR X (compareOp .NotEq) rNeS := by
  intro pins s σ H x y v u Q I rx ry h
  obtain ⟨a, b, s1, s2, t1, t2, rfl, rfl, ha, hb, q⟩ := h
  cases rx
  cases ry
  obtain ⟨its, r1, T1, _⟩ := I.tuple (SqT.of ha)
  obtain ⟨its2, r2, T2, _⟩ := I.tuple (SqT.of hb)
  obtain ⟨a1, a2, rfl, ra1, ra2⟩ := vals2 r1
  obtain ⟨b1, b2, rfl, rb1, rb2⟩ := vals2 r2
  obtain ⟨k1, rfl⟩ := ra1
  obtain ⟨k2, rfl⟩ := ra2
  obtain ⟨k3, rfl⟩ := rb1
  obtain ⟨k4, rfl⟩ := rb2
  refine SeqAt.RcNeAt.tuples (e := fun j => if j = 0 then s1 == t1 else s2 == t2) T1 T2 (by omega) (fun j h1 h2 => ?_) X.prog X.w X.xe (EP X pins σ Q) ⟨.bl _, H, I, rfl, ?_⟩
  · match j, h1, h2 with
    | 0, _, _ => exact SeqAt.EqAt.str_str _ _ _ _
    | 1, _, _ => exact SeqAt.EqAt.str_str _ _ _ _
  · have e : ((List.range (min 2 2)).all (fun j => if j = 0 then s1 == t1 else s2 == t2) && (2 == 2 : Bool)) = (s1 == t1 && s2 == t2) := by
      simp [List.range, List.range.loop]
    show Q (.bl (!((List.range (min 2 2)).all (fun j => if j = 0 then s1 == t1 else s2 == t2) && (2 == 2 : Bool)))) H
    rw [e]
    exact q
/-- t[lo:hi], t + u -/
def rSlL (p : Addr) : V → Option Int → Option Int → Hp → VK → Prop := fun x lo hi H Q => ∃ ds, LD p H x (.tuple ds) ∧ H p ≠ none ∧ ∀ a H', Same H H' → LD p H' (.ref a) (.tuple (cutA ds lo hi)) → Q (.ref a) H'
theorem LDs.cut {p : Addr} {H : Hp} {xs : List V} {ds : List PyData} (h : LDs p H xs ds) (lo hi : Option Int) : LDs p H (cutV xs lo hi) (cutA ds lo hi) := by
  unfold cutV cutA
  rw [h.length]
  exact (h.drop _).take _
theorem LD.isTup {p : Addr} {H : Hp} {v : V} {ds : List PyData} (h : LD p H v (.tuple ds)) : ∃ a xs, v = .ref a ∧ a ≠ p ∧ H a = some (.tup xs) ∧ LDs p H xs ds := by
  cases h with
  | tup n e r => exact ⟨_, _, rfl, n, e, r⟩
theorem ne_at {p q : Addr} {H : Hp} (hp : H p ≠ none) (hq : H q = none) : q ≠ p := fun e => hp (e ▸ hq)
theorem sl_L {p : Addr} : SlR X (rSlL p) := by
  intro pins s σ H x v vl vu lo hi sl Q I rx hs pl pu h
  refine sl_tupA pins s σ H x v vl vu lo hi sl Q I rx hs pl pu ?_
  obtain ⟨ds, hT, hp, q⟩ := h
  obtain ⟨a, xs, rfl, n, ha, hx⟩ := hT.isTup
  refine ⟨a, xs, rfl, SqT.of ha, ?_, ?_⟩
  · rintro ⟨e1, e2⟩
    refine q a H (Same.refl H) ?_
    have e : cutA ds lo hi = ds := by
      unfold cutA
      rw [← hx.length, e1, e2, List.drop_zero, Nat.sub_zero]
      exact List.take_of_length_le (by rw [hx.length]; exact Nat.le_refl _)
    rw [e]
    exact hT
  · intro _ t nt
    exact q t _ (same_new nt) (.tup (ne_at hp nt) upd_same (LDs.mono (But.same (same_new nt)) _ (hx.cut lo hi)))
def rCatL (p : Addr) : R2 := fun x y H Q => ∃ ds es, LD p H x (.tuple ds) ∧ LD p H y (.tuple es) ∧ H p ≠ none ∧ ds.length + es.length ≤ 100000 ∧ ∀ a H', Same H H' → LD p H' (.ref a) (.tuple (ds ++ es)) → Q (.ref a) H'
theorem op_catL {p : Addr} : OpR X (binaryOp .Add) (rCatL p) := opImp op_catA fun x y H Q h => by
  obtain ⟨ds, es, h1, h2, hp, hl, q⟩ := h
  obtain ⟨a, xs, rfl, n1, ha, hx⟩ := h1.isTup
  obtain ⟨b, ys, rfl, n2, hb, hy⟩ := h2.isTup
  have lx := hx.length
  have ly := hy.length
  refine ⟨a, b, xs, ys, rfl, rfl, SqT.of ha, SqT.of hb, ?_, ?_, ?_, ?_⟩
  · rw [lx, ly]
    exact Nat.le_trans hl (by decide)
  · intro e
    subst e
    cases hx
    exact q b H (Same.refl H) h2
  · intro _ e
    subst e
    cases hy
    exact q a H (Same.refl H) (by rw [List.append_nil]; exact h1)
  · intro _ _ t nt
    exact q t _ (same_new nt) (.tup (ne_at hp nt) upd_same (LDs.mono (But.same (same_new nt)) _ (hx.app hy)))
end
/-! small enough to be shown -/
mutual
def wt : PyData → Nat
  | .list xs => wts xs + 1
  | .tuple xs => wts xs + 1
  | .dict _ => 1
  | _ => 1
def wts : List PyData → Nat
  | [] => 0
  | x :: r => wt x + wts r
end
mutual
def Sm : PyData → Prop
  | .int i => i.natAbs < 10 ^ 99
  | .str x => (reprText x).length ≤ 100
  | .list xs => Sms xs
  | .tuple xs => Sms xs
  | .dict kvs => kvs = []
  | _ => True
def Sms : List PyData → Prop
  | [] => True
  | x :: r => Sm x ∧ Sms r
end
theorem Sms.get : ∀ {ds : List PyData} {i : Nat} {d : PyData}, Sms ds → ds[i]? = some d → Sm d
  | _ :: _, 0, _, h, e => by simp at e; exact e ▸ h.1
  | _ :: r, i + 1, _, h, e => Sms.get (ds := r) (i := i) h.2 (by simpa using e)
theorem Sms.app : ∀ {ds es : List PyData}, Sms ds → Sms es → Sms (ds ++ es)
  | [], _, _, h => h
  | _ :: _, _, h, g => ⟨h.1, Sms.app h.2 g⟩
theorem Sms.take : ∀ {ds : List PyData} (n : Nat), Sms ds → Sms (ds.take n)
  | _, 0, _ => trivial
  | [], _ + 1, _ => trivial
  | _ :: _, n + 1, h => ⟨h.1, Sms.take n h.2⟩
theorem Sms.drop : ∀ {ds : List PyData} (n : Nat), Sms ds → Sms (ds.drop n)
  | _, 0, h => h
  | [], _ + 1, _ => trivial
  | _ :: _, n + 1, h => Sms.drop n h.2
theorem wts_app : ∀ (ds es : List PyData), wts (ds ++ es) = wts ds + wts es
  | [], es => by simp [wts]
  | d :: r, es => by
    simp only [List.cons_append, wts, wts_app r es]
    omega
theorem wts_take_drop (ds : List PyData) (n : Nat) : wts (ds.take n) + wts (ds.drop n) = wts ds := by
  rw [← wts_app, List.take_append_drop]
theorem wts_get : ∀ {ds : List PyData} {i : Nat} {d : PyData}, ds[i]? = some d → wt d ≤ wts ds
  | _ :: _, 0, _, e => by
    simp at e
    subst e
    simp only [wts]
    omega
  | _ :: r, i + 1, _, e => by
    have := wts_get (ds := r) (i := i) (by simpa using e)
    simp only [wts]
    omega
theorem depthAll_app : ∀ (ds es : List PyData), PyData.depthAll (ds ++ es) = max (PyData.depthAll ds) (PyData.depthAll es)
  | [], es => by simp [PyData.depthAll]
  | d :: r, es => by
    simp only [List.cons_append, PyData.depthAll, depthAll_app r es]
    omega
theorem depth_get : ∀ {ds : List PyData} {i : Nat} {d : PyData}, ds[i]? = some d → d.depth ≤ PyData.depthAll ds
  | _ :: _, 0, _, e => by
    simp at e
    subst e
    simp only [PyData.depthAll]
    omega
  | _ :: r, i + 1, _, e => by
    have := depth_get (ds := r) (i := i) (by simpa using e)
    simp only [PyData.depthAll]
    omega
theorem depth_cut (ds : List PyData) (n : Nat) : PyData.depthAll (ds.take n) ≤ PyData.depthAll ds ∧ PyData.depthAll (ds.drop n) ≤ PyData.depthAll ds := by
  have h := depthAll_app (ds.take n) (ds.drop n)
  rw [List.take_append_drop] at h
  omega
mutual
theorem sm_shown : ∀ d : PyData, Sm d → d.showable = true ∧ d.shown.length + 2 ≤ 110 * wt d
  | .none, _ => ⟨rfl, by decide⟩
  | .bool b, _ => ⟨rfl, by cases b <;> decide⟩
  | .int i, h => by
    have n := Nice.int h
    refine ⟨n.sho, ?_⟩
    have := n.len
    show _ ≤ 110 * 1
    omega
  | .str x, h => by
    refine ⟨rfl, ?_⟩
    have h' : (reprText x).length ≤ 100 := h
    show (reprText x).length + 2 ≤ 110 * 1
    omega
  | .list xs, h => by
    obtain ⟨a, b, c⟩ := sms_shown xs h
    refine ⟨a, ?_⟩
    have l := listText_len_le (PyData.shownAll xs)
    simp only [PyData.shown, wt]
    omega
  | .tuple xs, h => by
    obtain ⟨a, b, c⟩ := sms_shown xs h
    refine ⟨a, ?_⟩
    have l := tupleText_len_le (PyData.shownAll xs)
    simp only [PyData.shown, wt]
    omega
  | .dict kvs, h => by
    have h' : kvs = [] := h
    subst h'
    exact ⟨rfl, by decide⟩
theorem sms_shown : ∀ ds : List PyData, Sms ds → PyData.showableAll ds = true ∧ ((PyData.shownAll ds).map (·.length)).sum + 2 * (PyData.shownAll ds).length ≤ 110 * wts ds ∧ (PyData.shownAll ds).length = ds.length
  | [], _ => ⟨rfl, by decide, rfl⟩
  | d :: ds, h => by
    obtain ⟨a, b⟩ := sm_shown d h.1
    obtain ⟨c, e, f⟩ := sms_shown ds h.2
    refine ⟨by simp only [PyData.showableAll, a, c, Bool.and_self], ?_, by simp only [PyData.shownAll, List.length_cons, f]⟩
    simp only [PyData.shownAll, List.map_cons, List.sum_cons, List.length_cons, wts]
    omega
end
end Sb

/-! o.m(..), C(..): calls of promises that know that no repr is under way. -/
namespace Sb
open PySem PySem.Spec PyProof.Rows L2
/-- how a method's call is read -/
abbrev MethForm (X : Cx) (o : Expr) (m : Str) (es : List Expr) (pos apos : Pos) (pl : Sem Bool) : Prop :=
  eval (.Call (.Attribute o m apos) es [] pos) X.env = (do let ov ← eval o X.env; standAt apos.atName; let (f, first) ← holding [ov] (getMethod ov m pl); callWith pos f first (backTo pos (starEach es X.env)) (backToKw pos (keywordEach [] X.env)))
section
variable {X : Cx} {CX : CXT} {k : Nat} {f C : Addr} {fd : FuncData} {ps : List Str} {sp : Sp} {dvs : List V} {ds : List Value} {x m : Str} {p pos apos : Pos} {e o : Expr} {es : List Expr} {ta : TE} {t : TA} {E : XK}
/-- o.m(e, ..) -/
theorem pe_methG {pl : Sem Bool} (ho : PE X o ta) (c : Cls X.K C) (hm : Meth X.K C m f) (F : FnG X.prog X.w X.K X.mg X.base CX k f fd ps sp) (gd : X.A.guards = some []) (hr : Room k X.A) (hb : Binds X.K fd ps ds) (hd : Vals dvs ds) (hx : Passes CX X E) (ha : PA X (e :: es) t)
    (hst : starEach (e :: es) X.env = (false, eval e X.env) :: starEach es X.env := by rfl) (hpl : (backTo pos (starEach es X.env)).any (·.1) = false := by rfl)
    (ht : MethForm X o m (e :: es) pos apos pl := by rfl) : PE X (.Call (.Attribute o m apos) (e :: es) [] pos) (tMeth C m sp dvs E ta t) := by
  constructor
  intro pins s σ H Q I h
  refine PySem.W.methodCall_KW (pl := pl) (thn (ho.run pins s σ H _ I h) ?_) ht
  rintro u s1 ⟨y, H1, I1, ry, a, dx, fs, rfl, ea, l, q⟩
  obtain rfl : u = Value.ref a := ry
  refine getmeth_ok I1 ea c hm l ?_
  refine PySem.W.callWith_K (first := [.ref a]) (h₀ := X.base) I.ok.mod.kin hm.kp (thn (ha.run pos pins s1 σ H1 _ I1 q) ?_) hst hpl
  rintro us s2 ⟨vs, H2, I2, r, q2⟩
  exact ⟨I2.kIn, runG (us := .ref a :: us) (vs := .ref a :: vs) F gd hr hb hd (fun er s' z => hx pins σ H2 s2 er s' I2 z) I2 (.cons rfl r) q2⟩
/-- o.m() -/
theorem pe_meth0G {pl : Sem Bool} (ho : PE X o ta) (c : Cls X.K C) (hm : Meth X.K C m f) (F : FnG X.prog X.w X.K X.mg X.base CX k f fd ps sp) (gd : X.A.guards = some []) (hr : Room k X.A) (hb : Binds X.K fd ps ds) (hd : Vals dvs ds) (hx : Passes CX X E)
    (ht : MethForm X o m [] pos apos pl := by rfl) : PE X (.Call (.Attribute o m apos) [] [] pos) (tMeth C m sp dvs E ta tNil) := by
  constructor
  intro pins s σ H Q I h
  refine PySem.W.methodCall_KW (pl := pl) (thn (ho.run pins s σ H _ I h) ?_) ht
  rintro u s1 ⟨y, H1, I1, ry, a, dx, fs, rfl, ea, l, q⟩
  obtain rfl : u = Value.ref a := ry
  refine getmeth_ok I1 ea c hm l ?_
  exact PySem.W.callWith_K0 (first := [.ref a]) I1.kIn hm.kp (runG (us := [.ref a]) (vs := [.ref a]) F gd hr hb hd (fun er s' z => hx pins σ H1 s1 er s' I1 z) I1 (.cons rfl .nil) q)
/-- the same, what is raised wished for at the slots -/
theorem pe_methGS {pl : Sem Bool} {E : L2.St → XK} (ho : PE X o ta) (c : Cls X.K C) (hm : Meth X.K C m f) (F : FnG X.prog X.w X.K X.mg X.base CX k f fd ps sp) (gd : X.A.guards = some []) (hr : Room k X.A) (hb : Binds X.K fd ps []) (hx : ∀ σ, PassesAt CX X σ (E σ)) (ha : PA X (e :: es) t)
    (hst : starEach (e :: es) X.env = (false, eval e X.env) :: starEach es X.env := by rfl) (hpl : (backTo pos (starEach es X.env)).any (·.1) = false := by rfl)
    (ht : MethForm X o m (e :: es) pos apos pl := by rfl) : PE X (.Call (.Attribute o m apos) (e :: es) [] pos) (fun σ H Q => tMeth C m sp [] (E σ) ta t σ H Q) := by
  constructor
  intro pins s σ H Q I h
  refine PySem.W.methodCall_KW (pl := pl) (thn (ho.run pins s σ H _ I h) ?_) ht
  rintro u s1 ⟨y, H1, I1, ry, a, dx, fs, rfl, ea, l, q⟩
  obtain rfl : u = Value.ref a := ry
  refine getmeth_ok I1 ea c hm l ?_
  refine PySem.W.callWith_K (first := [.ref a]) (h₀ := X.base) I.ok.mod.kin hm.kp (thn (ha.run pos pins s1 σ H1 _ I1 q) ?_) hst hpl
  rintro us s2 ⟨vs, H2, I2, r, q2⟩
  exact ⟨I2.kIn, runG (us := .ref a :: us) (vs := .ref a :: vs) F gd hr hb .nil (fun er s' z => hx σ pins H2 s2 er s' I2 z) I2 (.cons rfl r) q2⟩
/-- C(e, ..) -/
theorem make_runG {pins : List (Addr × Obj)} {σ : L2.St} {H : Hp} {s : Shared} {Q : VK} {us : List Value} {vs : List V} (M : Mk X.K C f) (F : FnG X.prog X.w X.K X.mg X.base CX k f fd ps sp) (gd : X.A.guards = some []) (hr : Room (k + 1) X.A) (hb : Binds X.K fd ps ds) (hd : Vals dvs ds)
    (hx : ∀ (e : Value) (s' : Shared) (H0 : Hp) (s0 : Shared), L2.Inv X pins σ H0 s0 → CX X.stack H0 s0 E e s' → X.xe e s') (I : L2.Inv X pins σ H s) (r : Vals vs us)
    (h : ∀ x dx, H x = none → H dx = none → dx ≠ x → sp (.ref x :: (vs ++ dvs)) (upd (upd H dx (.own x)) x (.ins C dx [])) (fun v H2 => v = .non ∧ Q (.ref x) H2) E) : wpAny (model X.prog X.w) X.A (call (.ref C) us) (EP X pins σ Q) X.xe s := by
  have q := h (s.heap.objs.size + 1) s.heap.objs.size (I.hok.fresh (Nat.le_succ _)) (I.hok.fresh (Nat.le_refl _)) (Nat.ne_of_lt (Nat.lt_succ_self _))
  have J := Inv.made (C := C) I
  have rr : Vals (V.ref (s.heap.objs.size + 1) :: (vs ++ dvs)) (Value.ref (s.heap.objs.size + 1) :: (us ++ ds)) := .cons rfl (r.append hd)
  have nl : (Value.ref (s.heap.objs.size + 1) :: us ++ ds).length = ps.length := rr.length ▸ F.len _ _ _ _ q
  apply wpAny_call
  refine make_map (f := f) I.kIn M.makes M.init (beq_iff_eq.mp M.fn) ?_
  refine codeAny_mono (F.run _ X.stack _ _ ⟨Value.ref (s.heap.objs.size + 1) :: us, []⟩ (Value.ref (s.heap.objs.size + 1) :: (us ++ ds)) _ _ E gd (hr.make C us []) (J.env0.make C us []) (hb _ (Value.ref (s.heap.objs.size + 1) :: us) J.kIn nl) rr q) ?_
  intro res s' z
  match res, z with
  | .error er, z => exact hx er s' _ _ J z
  | .ok (.ret u), z =>
    obtain ⟨v, H', J', rv, rfl, q'⟩ := J.after z
    exact ⟨rv, V.ref (s.heap.objs.size + 1), H', J', rfl, q'⟩
  | .ok .next, z => exact z.elim
  | .ok .brk, z => exact z.elim
  | .ok .cont, z => exact z.elim
theorem pe_makeG (M : Mk X.K C f) (F : FnG X.prog X.w X.K X.mg X.base CX k f fd ps sp) (gd : X.A.guards = some []) (hr : Room (k + 1) X.A) (hg : Gl X x) (hm : X.mg x = some (.ref C)) (hb : Binds X.K fd ps ds) (hd : Vals dvs ds) (hx : Passes CX X E) (ha : PA X (e :: es) t)
    (hdb : (x == ("__debug__" : Str)) = false := by decide) (he : starEach (e :: es) X.env = (false, eval e X.env) :: starEach es X.env := by rfl) (hpl : (backTo pos (starEach es X.env)).any (·.1) = false := by rfl) : PE X (.Call (.Name x p) (e :: es) [] pos) (tMake C sp dvs E t) := by
  constructor
  intro pins s σ H Q I h
  apply wpAny_Call_Name_kw
  apply ld_glob I hg hm _ hdb
  apply PySem.W.callWith_K (h₀ := X.base) I.ok.mod.kin M.kp _ he hpl
  refine thn (ha.run pos pins s σ H _ I h) ?_
  rintro us s1 ⟨vs, H1, I1, r, q⟩
  exact ⟨I1.kIn, make_runG M F gd hr hb hd (fun er s' H0 s0 J z => hx pins σ H0 s0 er s' J z) I1 r q⟩
/-- the same, what is raised wished for at the slots -/
def tMakeS (C : Addr) (sp : Sp) (E : L2.St → XK) (t : TA) : TE := fun σ H Q => tMake C sp [] (E σ) t σ H Q
theorem pe_makeGS {E : L2.St → XK} (M : Mk X.K C f) (F : FnG X.prog X.w X.K X.mg X.base CX k f fd ps sp) (gd : X.A.guards = some []) (hr : Room (k + 1) X.A) (hg : Gl X x) (hm : X.mg x = some (.ref C)) (hb : Binds X.K fd ps []) (hx : ∀ σ, PassesAt CX X σ (E σ)) (ha : PA X (e :: es) t)
    (hdb : (x == ("__debug__" : Str)) = false := by decide) (he : starEach (e :: es) X.env = (false, eval e X.env) :: starEach es X.env := by rfl) (hpl : (backTo pos (starEach es X.env)).any (·.1) = false := by rfl) : PE X (.Call (.Name x p) (e :: es) [] pos) (tMakeS C sp E t) := by
  constructor
  intro pins s σ H Q I h
  apply wpAny_Call_Name_kw
  apply ld_glob I hg hm _ hdb
  apply PySem.W.callWith_K (h₀ := X.base) I.ok.mod.kin M.kp _ he hpl
  refine thn (ha.run pos pins s σ H _ I h) ?_
  rintro us s1 ⟨vs, H1, I1, r, q⟩
  exact ⟨I1.kIn, make_runG M F gd hr hb .nil (fun er s' H0 s0 J z => hx σ pins H0 s0 er s' J z) I1 r q⟩
/-- len(x), x's class has its own __len__ -/
def rLenG (C : Addr) (sp : Sp) : List V → Hp → VK → Prop := fun xs H Q => ∃ (a dx : Addr) (fs : List (Str × V)), xs = [.ref a] ∧ H a = some (.ins C dx fs) ∧
  sp [.ref a] H (fun v H2 => ∃ n : Nat, v = .int n ∧ n ≤ 1000 ∧ Q (.int n) H2) fun _ _ _ => False
theorem call_lenG {sp : Sp} (at_ : PySem.W.findIn X.K (.ref C) "__len__" = some (some (.ref f))) (tf : PySem.W.typeIn X.K (.ref f) = some (.type "function")) (F : FnG X.prog X.w X.K X.mg X.base CX0 k f fd ps sp) (gd : X.A.guards = some []) (hr : Room (k + 1) X.A) (hb : Binds X.K fd ps []) :
    CallR X (.builtin "len") (rLenG C sp) := by
  intro pins s σ H xs us Q I r h
  obtain ⟨a, dx, fs, rfl, ha, want⟩ := h
  obtain ⟨u, rfl, ru⟩ := vals1 r
  obtain rfl : u = Value.ref a := ru
  obtain ⟨mA, O, _⟩ := ins_get I.hok ha
  obtain ⟨od, J, _⟩ := O.look
  refine PySem.Calls.call_function_entry kind_len plain_len entry_len (args_len1 _) ?_
  unfold Builtin.«len»
  refine wpAny_bind (m := oneArg "len" _) ?_
  apply wpAny_pure
  have nl : ([.ref a] : List Value).length = ps.length := by
    have z := F.len _ _ _ _ want
    exact z
  have run := F.run X.A.in1 X.stack s H ⟨[.ref a], []⟩ [.ref a] [.ref a] _ _ gd hr.in1 I.env0.in1 (hb s [.ref a] I.kIn (by rw [List.append_nil]; exact nl)) (.cons rfl .nil) want
  refine wpAny_bind (m := callSpecial? (.ref a) (Str.ofString "__len__")) (PySem.W.special_fn I.kIn J at_ tf (wpAny_call (codeAny_mono run ?_)))
  intro res s' z
  match res, z with
  | .error er, z => exact z.elim
  | .ok .next, z => exact z.elim
  | .ok .brk, z => exact z.elim
  | .ok .cont, z => exact z.elim
  | .ok (.ret u), z =>
    obtain ⟨v, H', J', rv, n, rfl, hn, q⟩ := I.after z
    obtain ⟨t, rfl⟩ := rv
    show wpAny _ _ (holding [Value.int (n : Int) t] (asIndex (Value.int (n : Int) t)) >>= _) _ _ s'
    refine wpAny_bind (wpAny_holding (wpAny_pure ?_))
    refine wpAny_bind (wpAny_letGo ?_)
    have e1 : ¬ ((n : Nat) : Int) < 0 := by omega
    have e2 : ¬ ((n : Nat) : Int) ≥ 2 ^ 63 := by omega
    show wpAny _ _ (if ((n : Nat) : Int) < 0 then _ else _) _ _ _
    rw [if_neg e1]
    show wpAny _ _ (if ((n : Nat) : Int) ≥ 2 ^ 63 then _ else _) _ _ _
    rw [if_neg e2]
    refine wpAny_bind (wpAny_mkInt ?_)
    apply wpAny_pure
    exact ⟨_, rfl, .int n, H', J'.tok _, ⟨_, rfl⟩, q⟩
end
end Sb

/-! try with several clauses, each with a name or without. -/
namespace Sb
open PySem PySem.Spec PyProof.Rows L2
abbrev TSx := Addr → Value → Option Addr → TS
/-- behind a named clause its name is gone -/
def gone (i : Nat) (D : Ends) : Ends := { nx := fun σ H => D.nx (σ.set i none) H, rt := D.rt, bk := fun σ H => D.bk (σ.set i none) H, ct := fun σ H => D.ct (σ.set i none) H }
/-- what a clause asks once it is the one -/
def onCl (nm : Option Nat) (ts : TSx) (D : Ends) : WX := fun cls d σ H => match nm with
  | none => ∀ a, H a = none → ts a cls d D σ H
  | some i => ∀ a, H a = none → ts a cls d (gone i D) (σ.set i (some (.ref a))) H
def wMix (K : PySem.W.Frag) (Wout : WX) (D : Ends) : List (Value × Option Nat × TSx) → WX
  | [] => Wout
  | (c, nm, ts) :: r => fun cls d σ H => ∃ b, PySem.W.exmOne K cls c = some b ∧ (b = true → onCl nm ts D cls d σ H) ∧ (b = false → wMix K Wout D r cls d σ H)
/-- a clause's suite, read in the suite's context -/
abbrev Suite (X : Cx) (b : List Stmt) (ts : TSx) : Prop := ∀ (a : Addr) (oe : Obj) (cls : Value) (d : Option Addr) (pn : List (Addr × Obj)), Zc cls d oe → (∃ vs, oe.data = .fields vs) → PSs (X.suite a ((a, oe) :: pn)) b (ts a cls d)
inductive MixOk (X : Cx) : List ExceptHandler → List (Value × Option Nat × TSx) → Prop
  | nil : MixOk X [] []
  | plain {x : Str} {c : Value} {ts : TSx} {b0 : Stmt} {b : List Stmt} {np p : Pos} {hds : List ExceptHandler} {l : List (Value × Option Nat × TSx)} (hc : Names X x c) (hsu : Suite X (b0 :: b) ts) (r : MixOk X hds l) :
      MixOk X (.ExceptHandler (some (.Name x np)) none (b0 :: b) p :: hds) ((c, none, ts) :: l)
  | named {x n : Str} {i : Nat} {c : Value} {ts : TSx} {b0 : Stmt} {b : List Stmt} {np p : Pos} {hds : List ExceptHandler} {l : List (Value × Option Nat × TSx)} (hi : X.N[i]? = some n) (hln : X.env.kindOf n = some .local) (hc : Names X x c) (hsu : Suite X (b0 :: b) ts) (r : MixOk X hds l) :
      MixOk X (.ExceptHandler (some (.Name x np)) (some n) (b0 :: b) p :: hds) ((c, some i, ts) :: l)
section
variable {X : Cx} {body : List Stmt} {h0 : ExceptHandler} {hds : List ExceptHandler} {l : List (Value × Option Nat × TSx)} {pos : Pos} {tb : WX → TS} {Wout : WX}
theorem ps_try_mix (hs : X.stack = X.env :: X.outer) (hf : X.env.frame = some X.env.locals) (hN : X.N.Nodup) (tk : L2.Takes X Wout)
    (hb : ∀ (W : WX) (pn : List (Addr × Obj)) (xe : Value → Shared → Prop), L2.Takes (X.tr pn xe) W → PassesOwn (model X.prog X.w) X.A X.env xe → PSs (X.tr pn xe) body (tb W)) (hh : MixOk X (h0 :: hds) l) :
    PS X (.Try body (h0 :: hds) [] [] pos) (fun D σ H => tb (wMix X.K Wout D l) D σ H) := by
  constructor
  intro pins s σ H D I h
  have ok := I.ok
  have hfr : X.A.frames = some (X.env :: X.outer) := hs ▸ ok.frames
  let XE : Value → Shared → Prop := fun e s1 => wpAny (model X.prog X.w) X.A (noteFrame e X.env) (fun _ s2 => wpAny (model X.prog X.w) X.A (setFlight e none) (fun _ s3 => wpAny (model X.prog X.w) X.A (handleBy e X.env (h0 :: hds)) (SP X pins D) X.xe s3) X.xe s2) X.xe s1
  have takes : L2.Takes (X.tr (X.pn ++ pins) XE) (wMix X.K Wout D l) := by
    rintro u s' ⟨a, B, sI, pins', σ', H', cls, d, rfl, J', nb, up, sky, na, os, ag, w⟩
    have J : L2.Inv X pins σ' H' sI := J'.ofTry ok
    replace sky : Sky B (X.env :: X.outer) a (Zc cls d) X.env.locals s'.heap := hs ▸ sky
    show wpAny (model X.prog X.w) X.A (noteFrame (.ref a) X.env) _ _ _
    refine Sky.land Zc.steady hfr hf sky fun h3 fl3 up3 => ?_
    have J3 : L2.Inv X pins σ' H' { s' with heap := h3 } := J.landed nb fl3.1 (up.trans up3) os ag
    obtain ⟨oe3, vs3, he3, hz3, hd3⟩ := fl3.there
    have off : a ∉ frs (X.env :: X.outer) := fun hm => by
      obtain ⟨_, o', e', hn⟩ := fl3.2.2.1.mem hm
      rw [he3] at e'
      cases e'
      exact hn _ hd3
    have nL : a ≠ X.env.locals := fun z => off (List.mem_filterMap.mpr ⟨X.env, List.mem_cons_self, z ▸ hf⟩)
    have nF : a ∉ X.fs := fun hm => by
      obtain ⟨e, he, q⟩ := List.mem_filterMap.mp hm
      exact off (List.mem_filterMap.mpr ⟨e, List.mem_cons_of_mem _ he, q⟩)
    have S3 := J3.suite he3 hd3 na nL nF
    have LT : PySem.W.Looks (model X.prog X.w) h3 (typeOf (.ref a)) cls := fun A Q E s k q => wpAny_typeOf_ref (k _ _ he3) (hz3.1 ▸ q)
    -- the clause's class is read
    have test : ∀ {x : Str} {c : Value} {np : Pos} {Q : Value → Shared → Prop} {E : Value → Shared → Prop}, Names X x c → Q c { s' with heap := h3 } → wpAny (model X.prog X.w) (X.A.mark (some (.ref a))) (eval (.Name x np) X.env) Q E { s' with heap := h3 } := by
      rintro x c np Q E ⟨hg, hdb, hm | ⟨hm, hv, hnn⟩⟩ q
      · exact ld_glob (X := X.suite a ((a, oe3) :: (X.pn ++ pins))) S3 hg hm q hdb
      · exact ld_blt (X := X.suite a ((a, oe3) :: (X.pn ++ pins))) S3 hg hm hv q hnn hdb
    have go : ∀ {hds' : List ExceptHandler} {l' : List (Value × Option Nat × TSx)}, MixOk X hds' l' → wMix X.K Wout D l' cls d σ' H' → wpAny (model X.prog X.w) X.A (handleBy (.ref a) X.env hds') (SP X pins D) X.xe { s' with heap := h3 } := by
      intro hds' l' hk
      induction hk with
      | nil =>
        intro w
        apply wpAny_handleBy_nil
        obtain ⟨k1, k2, k3, oe, vs, T, oT, ts', he, hz, hd, h1, hr⟩ := id fl3
        unfold PySem.passOn
        refine wpAny_bind (wpAny_field he hd h1 ?_)
        rw [if_neg (show ¬ ((Value.ref T == Value.none) = true) by simp)]
        have out : wpAny (model X.prog X.w) X.A (setFlight (.ref a) X.env.frame) (fun _ s4 => wpAny (model X.prog X.w) X.A (throw (.ref a) : Sem Flow) (SP X pins D) X.xe s4) X.xe { s' with heap := h3 } := by
          rw [hf]
          refine HandSPX.setFlight_upZ fl3 fun h4 hh4 up4 => wpAny_throw (tk _ _ ⟨a, B, sI, pins, σ', H', cls, d, rfl, J, nb, (up.trans up3).trans up4, .inr (.inr ?_), na, os, ag, w⟩)
          rw [hs]
          exact hh4
        first | exact wpAny_bind (wpAny_pure (wpAny_bind out)) | exact wpAny_bind out
      | @plain x c ts b0 b np p hds2 l2 hc hsu r ih =>
        rintro ⟨k, hk1, yes, no⟩
        refine wpAny_handleBy_cons (codeAny_handlers_test ?_) (fun q => by cases q)
        refine test hc ((PySem.W.exm_one (M := model X.prog X.w) J3.kIn LT hk1).here ?_)
        cases k with
        | false => exact ih (no rfl)
        | true =>
          refine codeAny_handlers_suite (HandSPX.lands_againZ fl3 fun h4 fl4 up4 => ?_)
          have J4 : L2.Inv X pins σ' H' { s' with heap := h4 } := J.landed nb fl4.1 ((up.trans up3).trans up4) os ag
          obtain ⟨oe4, vs4, he4, hz4, hd4⟩ := fl4.there
          refine wpAny_mono ((hsu a oe4 cls d (X.pn ++ pins) hz4 ⟨_, hd4⟩).run [] _ _ H' _ (J4.suite he4 hd4 na nL nF) (yes rfl a na)) ?_ (fun _ _ z => z.elim)
          intro f s6 hsp
          match f, hsp with
          | .next, ⟨σ6, H6, S6, q6⟩ => exact ⟨_, _, S6.unsuite ok, q6⟩
          | .brk, ⟨σ6, H6, S6, q6⟩ => exact ⟨_, _, S6.unsuite ok, q6⟩
          | .cont, ⟨σ6, H6, S6, q6⟩ => exact ⟨_, _, S6.unsuite ok, q6⟩
          | .ret u, ⟨v6, σ6, H6, S6, r6, q6⟩ => exact ⟨_, _, _, S6.unsuite ok, r6, q6⟩
      | @named x n i c ts b0 b np p hds2 l2 hi hln hc hsu r ih =>
        rintro ⟨k, hk1, yes, no⟩
        refine wpAny_handleBy_cons (codeAny_handlers_test ?_) (fun q => by cases q)
        refine test hc ((PySem.W.exm_one (M := model X.prog X.w) J3.kIn LT hk1).here ?_)
        cases k with
        | false => exact ih (no rfl)
        | true =>
          refine codeAny_handlers_suite_as (HandSPX.lands_againZ fl3 fun h4 fl4 up4 => ?_)
          have J4 : L2.Inv X pins σ' H' { s' with heap := h4 } := J.landed nb fl4.1 ((up.trans up3).trans up4) os ag
          obtain ⟨oe4, vs4, he4, hz4, hd4⟩ := fl4.there
          refine store_ok (X := X.suite a ((a, oe4) :: (X.pn ++ pins))) (v := .ref a) (J4.suite he4 hd4 na nL nF) hN hi (.inl hln) rfl (fun s5 S5 => ?_) (.inr hln)
          refine wpAny_mono ((hsu a oe4 cls d (X.pn ++ pins) hz4 ⟨_, hd4⟩).run [] s5 _ H' _ S5 (yes rfl a na)) ?_ (fun _ _ z => z.elim)
          intro f s6 hsp
          match f, hsp with
          | .next, ⟨σ6, H6, S6, q6⟩ => exact gone_ok (S6.unsuite ok) hN hi hln fun s7 J7 => ⟨_, _, J7, q6⟩
          | .brk, ⟨σ6, H6, S6, q6⟩ => exact gone_ok (S6.unsuite ok) hN hi hln fun s7 J7 => ⟨_, _, J7, q6⟩
          | .cont, ⟨σ6, H6, S6, q6⟩ => exact gone_ok (S6.unsuite ok) hN hi hln fun s7 J7 => ⟨_, _, J7, q6⟩
          | .ret u, ⟨v6, σ6, H6, S6, r6, q6⟩ => exact gone_ok (S6.unsuite ok) hN hi hln fun s7 J7 => ⟨_, _, _, J7, r6, q6⟩
    exact go hh w
  refine wpAny_Try_except (wpAny_mono ((hb (wMix X.K Wout D l) (X.pn ++ pins) XE takes PassesOwn.looking).run [] s σ H D (I.toTry _) h) ?_ (fun e s1 he => he))
  intro f s1 hsp
  match f, hsp with
  | .next, ⟨σ', H', J', q⟩ => exact wpAny_execs_nil ⟨σ', H', J'.ofTry ok, q⟩
  | .brk, ⟨σ', H', J', q⟩ => exact ⟨σ', H', J'.ofTry ok, q⟩
  | .cont, ⟨σ', H', J', q⟩ => exact ⟨σ', H', J'.ofTry ok, q⟩
  | .ret u, ⟨v, σ', H', J', r, q⟩ => exact ⟨v, σ', H', J'.ofTry ok, r, q⟩
end
end Sb

/-! sorted(d, key=f) over a dict whose keys are tuples; f gives rows of ints. -/
namespace Sb
open PySem PySem.Spec PyProof.Rows L2
open PySem.W (EachIs KeyPure KeepsBut dataLe AllAlike Sortable)
abbrev KRow := List Key × Addr × Value
/-- the keys in the order of their ranks -/
def srt (rank : List Key → List Int) (ks : List (List Key)) : List (List Key) := ks.mergeSort fun a b => decide (rank a ≤ rank b)
/-- key tuples, at these addresses -/
def IsKs (H : Hp) (ks : List (List Key)) (bs : List Addr) : Prop := Paired (fun k b => H b = some (.tup (k.map kV))) ks bs
/-- f is a function that gives a key tuple its rank -/
structure KeyFn (X : Cx) (f : Addr) (rank : List Key → List Int) (ok : List Key → Prop) : Prop where
  run : ∀ (s : Shared) (A : Around) (a : Addr) (its : List Value) (k : List Key), X.K.In s.heap → s.heap.Ns mainGlobals X.mg → s.heap.NoLimit → A.depth + 1 < recursionLimit → A.handled = none → ok k → Vals (k.map kV) its →
    IsTup s.heap a its.toArray → wpAny (model X.prog X.w) A (call (.ref f) [.ref a]) (KeyPure (.tuple ((rank k).map .int)) s) (fun _ _ => False) s
  some_ : ∀ k, ∃ x r, rank k = x :: r
  same : ∀ a b, (rank a).length = (rank b).length
theorem each_refs : ∀ ks : List KRow, EachIs (fun (v : Value) (x : KRow) => v = .ref x.2.1) (ks.map fun x => Value.ref x.2.1) ks
  | [] => .nil
  | _ :: r => .cons rfl (each_refs r)
theorem refs_each : ∀ {out : List Value} {ks : List KRow}, EachIs (fun (v : Value) (x : KRow) => v = .ref x.2.1) out ks → out = (ks.map fun x => x.2.1).map Value.ref
  | _, _, .nil => rfl
  | _, _, .cons h t => by
    rw [List.map_cons, List.map_cons, ← refs_each t, h]
theorem isKs_of {H : Hp} : ∀ {ks : List KRow}, (∀ x ∈ ks, H x.2.1 = some (.tup (x.1.map kV))) → IsKs H (ks.map (·.1)) (ks.map fun x => x.2.1)
  | [], _ => .nil
  | x :: r, h => .cons (h x List.mem_cons_self) (isKs_of fun y hy => h y (List.mem_cons_of_mem _ hy))
theorem kt_mem {H : Hp} {kvs : List (List Key × V)} {xs : List KRow} (r : KT H kvs xs) : kvs.map (·.1) = xs.map (·.1) ∧ ∀ x ∈ xs, H x.2.1 = some (.tup (x.1.map kV)) := by
  induction r with
  | nil => exact ⟨rfl, fun _ h => by cases h⟩
  | @cons a b l1 l2 h t ih =>
    refine ⟨by rw [List.map_cons, List.map_cons, h.1, ih.1], fun x hx => ?_⟩
    rcases List.mem_cons.mp hx with rfl | hx
    · rw [← h.1]
      exact h.2.1
    · exact ih.2 x hx
theorem alike_rows : ∀ (xs ys : List Int), PySem.W.alike (.tuple (xs.map .int)) (.tuple (ys.map .int)) = true := fun xs ys => PySem.W.alike_ints xs ys
theorem le_rows (rank : List Key → List Int) : dataLe false (fun x : KRow => PyData.tuple ((rank x.1).map .int)) = fun p q => decide (rank p.1 ≤ rank q.1) := by
  have e := PySem.W.dataLe_rows (β := KRow) (fun x => rank x.1)
  rw [← e]
  funext p q
  rfl
/-- sorted(d, key=f) -/
def rSortT (f : Addr) (rank : List Key → List Int) (ok : List Key → Prop) : List V → List V → Hp → VK → Prop := fun xs zs H Q => ∃ (d : Addr) (kvs : List (List Key × V)), xs = [.ref d] ∧ zs = [.ref f] ∧ H d = some (.dT kvs) ∧ (∀ k ∈ kvs.map (·.1), ok k) ∧
  ∀ p bs, H p = none → IsKs H (srt rank (kvs.map (·.1))) bs → Q (.ref p) (upd H p (.lst (bs.map V.ref)))
theorem call_sortT {X : Cx} {f : Addr} {rank : List Key → List Int} {ok : List Key → Prop} {k0 : Nat} (hc : X.calm = true) (hr : Room (k0 + 1) X.A) (F : KeyFn X f rank ok) : CallRK X (.builtin "sorted") ["key"] (rSortT f rank ok) := by
  intro pins s σ H xs zs us ws Q I r rz h
  obtain ⟨d, kvs, rfl, rfl, hd, hok, q⟩ := h
  obtain ⟨u, rfl, rx⟩ := vals1 r
  obtain ⟨u2, rfl, rx2⟩ := vals1 rz
  obtain rfl : u = Value.ref d := rx
  obtain rfl : u2 = Value.ref f := rx2
  obtain ⟨z, lo, ks, pr, o, es, ep, ho, hx, hdt, he, hn⟩ := (show ObjOk X.prog X.w H s.heap d (.dT kvs) from I.hok d _ hd)
  have l1 : es.size = ks.length := size_of_entries he
  obtain ⟨ek, hks⟩ := kt_mem pr
  have l2 : kvs.length = ks.length := Paired.length pr
  show wpAny _ _ (call (.builtin "sorted") [.ref d] [(Str.ofString "key", .ref f)]) _ _ _
  refine PyProof.Rows.call_function_entry_kw PyProof.Rows.kind_sorted PyProof.Rows.plain_sorted PyProof.Rows.entry_sorted (PyProof.Rows.ksk_s1 _ _) ?_
  unfold Builtin.«sorted»
  refine wpAny_bind (m := checkCount "sorted" 1 1 _) ?_
  apply wpAny_pure
  refine wpAny_bind (PySem.W.kdu_collect (A := X.A.in1) (kdl_raw lo hx hdt) (I.ok.hd hc) ho (by omega) fun h' tk acc kp it => ?_)
  have ea : acc.toList = ks.map fun x => Value.ref x.2.1 := by
    apply List.ext_getElem?
    intro j
    have la : acc.toList.length = ks.length := by
      rw [Array.length_toList, it.1, l1]
    rw [List.getElem?_map]
    by_cases hj : j < ks.length
    · have e1 : acc.toList[j]? = some acc.toList[j] := List.getElem?_eq_getElem (by omega)
      obtain ⟨en, hen, hv⟩ := it.2 j _ ((Array.getElem?_toList).symm.trans e1)
      have e2 := entry_at he j
      rw [hen, List.getElem?_eq_getElem hj] at e2
      have e3 : en = entryOfKey (tupleKind (mixKind X.prog X.w)) ks[j] := Option.some.inj e2
      rw [e1, hv, e3, List.getElem?_eq_getElem hj]
      rfl
    · rw [List.getElem?_eq_none (by omega), List.getElem?_eq_none (by omega)]
      rfl
  have la : acc.toList.length = ks.length := by rw [ea, List.length_map]
  have I1 : Inv X pins σ H { s with heap := h', toks := tk } := I.kept kp
  refine wpAny_bind (wpAny_newList ?_ (by omega))
  have hoL : (h'.push (seqObj "list" acc.toList.toArray 0)).get? h'.objs.size = some (seqObj "list" acc.toList.toArray 0) := Heap.get?_push_size _ rfl
  have up : ∀ c o, h'.get? c = some o → (h'.push (seqObj "list" acc.toList.toArray 0)).get? c = some o := fun c o e => Heap.get?_push_of_some _ e
  show wpAny _ _ _ _ _ { s with heap := h'.push (seqObj "list" acc.toList.toArray 0), toks := tk }
  refine wpAny_bind (wpAny_holding (wpAny_call_entry_kw PyProof.Rows.slot_list_sort ⟨_, hoL, rfl⟩ PyProof.Rows.entry_list_sort ?body (PyProof.Rows.ksk_l1 _ _)))
  rw [PyProof.Rows.ksk_t1]
  have each : EachIs (fun (v : Value) (x : KRow) => v = .ref x.2.1) acc.toList ks := by rw [ea]; exact each_refs ks
  have ne : ∀ {c : Addr} {o : Obj}, h'.get? c = some o → c ≠ h'.objs.size := fun e => Nat.ne_of_lt (Heap.lt_size e)
  refine PySem.W.keyH_tree (kz := ks.map fun x => PyData.tuple ((rank x.1).map .int)) (s := { s with heap := h'.push (seqObj "list" acc.toList.toArray 0), toks := tk }) hoL (by rw [List.length_map, la]) (by omega)
    (AllAlike.of fun a b => alike_rows _ _) (Sortable.tuples fun b => ?_) ?_ (PySem.W.keyH_turns (s := { s with heap := h'.push (seqObj "list" acc.toList.toArray 0), toks := tk }) each fun v x hR hxk h2 tk2 kp2 => ?_) fun h3 tk3 out c kp3 hD ko => ?_
  · obtain ⟨x, r, e⟩ := F.some_ b.1
    exact ⟨_, _, by rw [e]; rfl⟩
  · intro dd hdd
    obtain ⟨x, _, rfl⟩ := List.mem_map.mp hdd
    have dp : PyData.depth (.tuple ((rank x.1).map PyData.int)) = 1 := by
      show PyData.depthAll _ + 1 = 1
      rw [PySem.W.depth_ints]
    rw [dp]
    have := hr.un
    show X.A.units + 1 + 1 + 1 < cLine
    omega
  · rw [hR]
    obtain ⟨_, its, rv, it1⟩ := (show ObjOk X.prog X.w H h' x.2.1 (.tup (x.1.map kV)) from I1.hok _ _ (hks x hxk))
    have k2 : ∀ c o, h'.get? c = some o → h2.get? c = some o := fun c o e => kp2 c o (ne e) (up c o e)
    refine F.run { s with heap := h2, toks := tk2 } _ x.2.1 its x.1 (I1.kIn.keeps k2) ((I1.mod.glob.keeps I1.bk).keeps k2) (I1.nolimit.keeps k2) ?_ ?_ (hok _ (by rw [ek]; exact List.mem_map.mpr ⟨x, hxk, rfl⟩)) rv ?_
    · have := hr.dp
      show X.A.depth + 1 < recursionLimit
      omega
    · exact I.ok.hd hc
    · obtain ⟨ob, h1, r⟩ := it1
      exact ⟨ob, k2 _ _ h1, r⟩
  · have eo := PySem.W.keyedOut_each (fun x : KRow => PyData.tuple ((rank x.1).map .int)) ko each
    have lo2 := ko.length (by rw [List.length_map, la])
    rw [le_rows] at eo
    have er := refs_each eo
    have hmem : ∀ x ∈ ks.mergeSort (fun p q => decide (rank p.1 ≤ rank q.1)), H x.2.1 = some (.tup (x.1.map kV)) := fun x hx => hks x ((List.mergeSort_perm ks _).mem_iff.mp hx)
    have em : (ks.mergeSort (fun p q => decide (rank p.1 ≤ rank q.1))).map (·.1) = srt rank (kvs.map (·.1)) := by
      unfold srt
      rw [ek]
      exact List.map_mergeSort fun a _ b _ => rfl
    have isk := isKs_of hmem
    rw [em] at isk
    have keep3 : ∀ b o, h'.get? b = some o → h3.get? b = some o := fun b o e => kp3 b o (ne e) (up b o e)
    have rv : Vals (((ks.mergeSort (fun p q => decide (rank p.1 ≤ rank q.1))).map fun x => x.2.1).map V.ref) out := by
      rw [er]
      exact vals_refs _
    have hz : (((ks.mergeSort (fun p q => decide (rank p.1 ≤ rank q.1))).map fun x => x.2.1).map V.ref).length ≤ sizeLine := by
      rw [rv.length]
      omega
    refine ⟨_, rfl, ?_⟩
    apply wpAny_pure
    refine ⟨_, rfl, .ref h'.objs.size, _, I1.laid (t' := tk3) (o := .lst (((ks.mergeSort (fun p q => decide (rank p.1 ≤ rank q.1))).map fun x => x.2.1).map V.ref)) keep3 (Nat.le_refl _) ⟨hz, out, c, rv, hD⟩, rfl, q _ _ (I1.hok.fresh (Nat.le_refl _)) isk⟩
end Sb

/-! {k: v for x in ..} with tuples for keys. -/
namespace Sb
open PySem PySem.Spec PyProof.Rows L2
section
variable {X : Cx} {pins : List (Addr × Obj)} {σ : L2.St} {H : Hp}
/-- D[k] = v, k the tuple at b -/
theorem putT_ok {s : Shared} {E : Value → Shared → Prop} {D b : Addr} {kvs : List (List Key × V)} {k : List Key} {v : V} {r : Value} {Q : Unit → Shared → Prop} (hu : X.A.units + 1 < cLine) (I : L2.Inv X pins σ H s) (hD : H D = some (.dT kvs)) (hb : H b = some (.tup (k.map kV))) (hz : kvs.length < sizeLine)
    (rv : RelV v r) (want : ∀ s', L2.Inv X pins σ (upd H D (.dT (putK kvs k v))) s' → Q () s') : wpAny (model X.prog X.w) X.A (dictSet D (.ref b) r) Q E s := by
  obtain ⟨z, low, xs, rel, dd⟩ := dt_of I.hok hD
  have l1 : xs.length ≤ sizeLine := Paired.length rel ▸ z
  have l2 := length_putK kvs k v
  refine wpAny_dictSet_heap (hsz := l1) ?room (key_of I.hok hb) dd fun h' dd' but => want _ ?_
  case room => show X.A.units < cLine; omega
  obtain ⟨q, es, ep, g1, g2, g3, g4, _, g5⟩ := dd'
  refine d_write I (by rw [hD]; trivial) but ⟨q, g1⟩ ⟨by omega, low, _, (rel.put k hb rv).keeps fun c ys ec => ?_, q, es, ep, g1, g2, g3, g4, g5⟩
  rw [upd_ne (ne_of ec hD fun z => nomatch z)]
  exact ec
end
/-- what the turns are to show; D: the new dict -/
def DcW (J : It) (g : TG) (tt : TT) (tk tv : TE) (vs : List Nat) (σ : L2.St) (D : Addr) (Qd : Hp → Prop) (H0 : Hp) : Prop := ∃ W : Nat → Nat → Hp → Prop, (∃ m, W 0 m H0) ∧ ∀ i m H, W i m H →
  (J.stop i H ∧ Qd H) ∨ (J.go i H ∧ ∃ Nx : Hp → Prop, (∀ H', Nx H' → ∃ m', m' < m ∧ W (i + 1) m' H') ∧ ∀ x H', J.yld i H x H' → g x (wipe σ vs) H' fun σ2 H2 => wipe σ2 vs = wipe σ vs ∧ tt σ2 H2 fun b H3 =>
    if b = true then tk σ2 H3 fun y H4 => tv σ2 H4 fun z H5 => ∃ kvs k t, y = .ref t ∧ H5 t = some (.tup (k.map kV)) ∧ H5 D = some (.dT kvs) ∧ kvs.length < sizeLine ∧ Nx (upd H5 D (.dT (putK kvs k z))) else Nx H3)
def tDcT (wi : TI) (g : TG) (tt : TT) (tk tv : TE) (vs : List Nat) : TE := fun σ H Q => wi σ H fun J H1 => ∀ D, H1 D = none → DcW J g tt tk tv vs σ D (Q (.ref D)) (upd H1 D (.dT []))
section
variable {X : Cx} {kx vx tg iter : Expr} {ifs : List Expr} {scope : Scope} {own : List (Str × Nat)} {pos : Pos} {wi : TI} {g : TG} {tt : TT} {tk tv : TE}
theorem pe_dcT (hc : X.calm = true) (hN : X.N.Nodup) (hu : X.A.units + 1 < cLine) (hi : PI X tg iter wi) (ok : BlkOk X.N X.env.scope scope own) (hg : ∀ (s : Shared) (H : Hp) (C : Addr) (cl : List (Str × Addr)) (fp : List Addr), PG (X.blk s H scope (compEnvC scope cl C X.env) fp) tg g) (ht : ∀ (s : Shared) (H : Hp) (C : Addr) (cl : List (Str × Addr)) (fp : List Addr), PTs (X.blk s H scope (compEnvC scope cl C X.env) fp) ifs tt) (hk : ∀ (s : Shared) (H : Hp) (C : Addr) (cl : List (Str × Addr)) (fp : List Addr), PE (X.blk s H scope (compEnvC scope cl C X.env) fp) kx tk)
    (hv : ∀ (s : Shared) (H : Hp) (C : Addr) (cl : List (Str × Addr)) (fp : List Addr), PE (X.blk s H scope (compEnvC scope cl C X.env) fp) vx tv) (hs : ∀ x, foldedSetIterable iter X.env x = pure x := by intro _; rfl) : PE X (.DictComp kx vx [⟨tg, iter, ifs, 0⟩] scope pos) (tDcT wi g tt tk tv (own.map (·.2))) := by
  constructor
  intro pins s σ H Q I h
  rw [arm_eval_DictComp]
  have closed : ∀ y ∈ scope.names, y.2 = .free → ∃ c, X.env.cells.lookup y.1 = some c := by
    intro y hy e
    exact (ok.free y hy e).elim (fun k => I.ok.has _ (.inl k)) (fun k => I.ok.has _ (.inr k))
  refine wpAny_comprehension_free rfl hs (closure_ok closed) ok.kind (fun y hy e => by rw [ok.uniq y hy, e]) ?_
  refine thn (hi.run pins s σ H _ I h) fun xv s1 hx => thn hx ?_
  rintro itv s2 ⟨it, fp, tn, J, H2, rfl, I2, T, st2, f2, q⟩
  refine wpAny_newObj_type (newEnv_comp ?_)
  generalize eD : s2.heap.objs.size = D
  have nD : H2 D = none := I2.hok.fresh (Nat.le_of_eq eD)
  obtain ⟨W, ⟨m0, w0⟩, turn⟩ := q D nD
  -- D is laid
  generalize es3 : ({ s2 with heap := s2.heap.push { cls := .type "dict", data := .dict #[] } } : Shared) = s3
  have h3 : s3.heap = s2.heap.push { cls := .type "dict", data := .dict #[] } := by
    rw [← es3]
  generalize eH3 : upd H2 D (.dT []) = H3 at w0
  have I3 : L2.Inv X pins σ H3 s3 := by
    have lay := I2.laid (t' := s2.toks) (h' := s2.heap.push { cls := .type "dict", data := .dict #[] }) (fun b o e => Heap.get?_push_of_some _ e) (Nat.le_of_eq eD) (eD ▸ dt_empty s2.heap I2.big)
    rw [← es3, ← eH3]
    exact lay
  have small : ∀ b ∈ fp, b < s2.heap.objs.size := by
    intro b hb
    obtain ⟨o, e, _⟩ := T.obj _ _ st2 b hb
    exact Heap.lt_size e
  have f3 : ∀ b ∈ fp, FpOk X pins H3 b ∧ b < s3.heap.objs.size := by
    intro b hb
    have lt := small b hb
    constructor
    · refine ⟨?_, (f2 b hb).2⟩
      rw [← eH3, upd_ne (eD ▸ Nat.ne_of_lt lt)]
      exact (f2 b hb).1
    · rw [h3, Heap.size_push]
      exact Nat.lt_succ_of_lt lt
  have n3 : ∀ b ∈ fp, H3 b = none := fun b hb => (f3 b hb).1.1
  have st3 : tn 0 s3.heap := by
    refine T.keep _ _ _ st2 ?_
    rw [h3]
    exact fun b _ o e => Heap.get?_push_of_some _ e
  have I4 := block_start I3 ok hN f3
  show codeAny _ _ (.compStart (.DictComp kx vx [⟨tg, iter, ifs, 0⟩] scope pos) 0 (.ref it) (.ref D) (compEnvC scope (cellsFrom (s3.heap.objs.size + 1) scope.names (cloFrom X.env.cells scope.names [])) s3.heap.objs.size X.env)) (compPost (model X.prog X.w) X.A X.xe none _ (.ref D) s3.heap.objs.size) { s3 with heap := pushCells (s3.heap.push { cls := .type "dict", data := .dict #[] }) scope.names }
  have bg := hg s3 H3 s3.heap.objs.size (cellsFrom (s3.heap.objs.size + 1) scope.names (cloFrom X.env.cells scope.names [])) fp
  have bt := ht s3 H3 s3.heap.objs.size (cellsFrom (s3.heap.objs.size + 1) scope.names (cloFrom X.env.cells scope.names [])) fp
  have bk := hk s3 H3 s3.heap.objs.size (cellsFrom (s3.heap.objs.size + 1) scope.names (cloFrom X.env.cells scope.names [])) fp
  have bv := hv s3 H3 s3.heap.objs.size (cellsFrom (s3.heap.objs.size + 1) scope.names (cloFrom X.env.cells scope.names [])) fp
  generalize ece : compEnvC scope (cellsFrom (s3.heap.objs.size + 1) scope.names (cloFrom X.env.cells scope.names [])) s3.heap.objs.size X.env = ce at I4 bg bt bk bv ⊢
  have cL : ce.locals = s3.heap.objs.size := ece ▸ rfl
  generalize es4 : ({ s3 with heap := pushCells (s3.heap.push { cls := .type "dict", data := .dict #[] }) scope.names } : Shared) = s4 at I4 ⊢
  have st4 : tn 0 s4.heap := by
    refine T.keep _ _ _ st3 fun b _ o e => ?_
    rw [← es4]
    exact pushCells_keeps _ _ _ _ (Heap.get?_push_of_some _ e)
  have stat : ∀ {σ' : L2.St} {H' : Hp} {s' : Shared}, L2.Inv (X.blk s3 H3 scope ce fp) [] σ' H' s' → (∀ b ∈ fp, H' b = none) → ∀ b ∈ fp, FpOk (X.blk s3 H3 scope ce fp) [] H' b := by
    intro σ' H' s' J' hn b hb
    refine ⟨hn b hb, (J'.ok.exf b hb).1, J'.ok.exfs b hb, .inl hb, (J'.ok.exf b hb).2, fun p hp => ?_⟩
    have z : p ∈ ([] : List (Addr × Obj)) ++ [] := hp
    simp at z
  -- the loop's state
  let At : Nat → Shared → Prop := fun n s' => ∃ i H', L2.Inv (X.blk s3 H3 scope ce fp) [] (wipe σ (own.map (·.2))) H' s' ∧ tn i s'.heap ∧ (∀ b ∈ fp, H' b = none) ∧ W i n H'
  have loop : codeAny (model X.prog X.w) X.A (.compLoop (.DictComp kx vx [⟨tg, iter, ifs, 0⟩] scope pos) 0 (.ref it) (.ref D) ce) (compPost (model X.prog X.w) X.A X.xe none (EP X pins σ Q) (.ref D) s3.heap.objs.size) s4 := by
    refine compLoop_anyD At ?_ m0 ⟨0, H3, I4, st4, n3, w0⟩
    rintro n s5 ⟨i, H5, I5, st5, n5, w5⟩
    rcases turn i n H5 w5 with ⟨stop, done⟩ | ⟨go, Nx, hNx, step⟩
    · refine thnF (T.done (X.blk s3 H3 scope ce fp) rfl rfl rfl hc i [] s5 _ H5 (fun _ _ => False) I5 (stat I5 n5) st5 stop) ?_
      rintro r s6 ⟨rfl, I6⟩
      have I7 : L2.Inv X pins σ H5 s6 := by
        refine I3.call' (ch := fp) I6.os I6.base I6.hok I6.bare fun b hb => ?_
        have z := (f3 b hb).1.2
        exact ⟨z.2.2.1, z.1, z.2.2.2.1, z.2.2.2.2⟩
      have free := I6.free
      rw [show (X.blk s3 H3 scope ce fp).env.locals = s3.heap.objs.size from cL] at free
      obtain ⟨m, hn, _⟩ := I6.loc
      have hn : s6.heap.Ns ce.locals m := hn
      rw [cL] at hn
      refine ⟨m, hn, fun h'' sb => ?_⟩
      obtain ⟨g0, g1, g2, g3, g4, g5⟩ := I3.fpOk (Nat.le_refl _) free
      exact ⟨.ref D, H5, I7.turned (t' := s6.toks) (fun b o hb e => (sb.2 b hb).trans e) g0 g1 g3 g4 g5, rfl, done⟩
    · refine thnF (T.item (X.blk s3 H3 scope ce fp) rfl rfl rfl hc i [] s5 _ H5 (fun _ _ => False) I5 (stat I5 n5) st5 go) ?_
      rintro r s6 ⟨u, rfl, go6⟩
      refine thnF go6 ?_
      rintro _ s7 ⟨x, H7, I7, r7, y7, st7, n7⟩
      refine thnF (bg.run _ s7 _ H7 x u _ (I7.pinned (stat I7 n7) (T.obj _ _ st7)) r7 (step x H7 y7)) ?_
      rintro _ s8 ⟨σ8, H8, I8, hw8, q8⟩
      refine thnF (bt.run _ s8 σ8 H8 _ I8 q8) ?_
      rintro b s9 ⟨H9, I9, q9⟩
      have next : ∀ {s' : Shared} {H' : Hp}, L2.Inv (X.blk s3 H3 scope ce fp) ([] ++ pinsAt fp s7.heap) σ8 H' s' → Nx H' → ∃ m, m < n ∧ At m s' := by
        intro s' H' J' nx
        obtain ⟨m', lt, w'⟩ := hNx H' nx
        have pinned : ∀ b ∈ fp, ∀ o, s7.heap.get? b = some o → s'.heap.get? b = some o ∧ H' b = none := by
          intro b hb o e
          have z := J'.pin (b, o) (List.mem_append_right _ (List.mem_append_right _ (mem_pinsAt hb e)))
          exact ⟨z.1, z.2.1⟩
        refine ⟨m', lt, i + 1, H', (J'.unpinned (pins := [])).weak ?_ ?_, T.keep _ _ _ st7 fun b hb o e => (pinned b hb o e).1, ?_, w'⟩
        · rw [← hw8, wipe_length]
        · intro j v e
          rw [← hw8] at e
          exact (wipe_some e).1
        · intro b hb
          obtain ⟨o, e, _⟩ := T.obj _ _ st7 b hb
          exact (pinned b hb o e).2
      cases b with
      | false => exact next I9 q9
      | true =>
        refine thnF (bk.run _ s9 σ8 H9 _ I9 q9) ?_
        rintro z1 s10 ⟨yk, H10, I10, r10, q10⟩
        refine thnF (bv.run _ s10 σ8 H10 _ I10 q10) ?_
        rintro z2 s11 ⟨yv, H11, I11, r11, kvs, k, t, rfl, ht11, hD11, lt11, nx⟩
        obtain rfl : z1 = Value.ref t := r10
        exact putT_ok (X := X.blk s3 H3 scope ce fp) hu I11 hD11 ht11 lt11 r11 fun s12 I12 => next I12 nx
  exact codeAny_compStart_dict loop (T.self X.A 0 _ _ _ st4 loop)
end
theorem dcT_list {K : PySem.W.Frag} {a : Addr} {xs : List V} {g : TG} {tt : TT} {tk tv : TE} {vs : List Nat} {σ : L2.St} {H0 : Hp} {D : Addr} {Qd : Hp → Prop} (Pv : Nat → Hp → Prop) (h0 : Pv 0 H0) (hl : ∀ i H, Pv i H → SqL K H a xs)
    (hs : ∀ i x H, xs[i]? = some x → Pv i H → g x (wipe σ vs) H fun σ2 H2 => wipe σ2 vs = wipe σ vs ∧ tt σ2 H2 fun b H3 =>
      if b = true then tk σ2 H3 fun y H4 => tv σ2 H4 fun z H5 => ∃ kvs k t, y = .ref t ∧ H5 t = some (.tup (k.map kV)) ∧ H5 D = some (.dT kvs) ∧ kvs.length < sizeLine ∧ Pv (i + 1) (upd H5 D (.dT (putK kvs k z))) else Pv (i + 1) H3) (hd : ∀ H, Pv xs.length H → Qd H) :
    DcW (Itl K a) g tt tk tv vs σ D Qd H0 := by
  refine ⟨fun i m H => m + i = xs.length ∧ Pv i H, ⟨xs.length, rfl, h0⟩, fun i m H ⟨hm, p⟩ => ?_⟩
  have q := hl i H p
  cases m with
  | zero =>
    have e : i = xs.length := by omega
    subst e
    exact .inl ⟨⟨xs, q, Nat.le_refl _⟩, hd H p⟩
  | succ m =>
    have h1 : i < xs.length := by omega
    have hx := List.getElem?_eq_getElem h1
    refine .inr ⟨⟨xs, _, q, hx⟩, Pv (i + 1), fun H' p' => ⟨m, Nat.lt_succ_self m, by omega, p'⟩, ?_⟩
    rintro v H' ⟨rfl, f1⟩
    exact hs i v _ (f1 xs q) p
end Sb

/-! x == text, x of any kind but a dict. -/
namespace Sb
open PySem PySem.Spec PyProof.Rows L2
def isStrD (d : PyData) (z : Str) : Bool := match d with
  | .str y => y == z
  | _ => false
def isDctD : PyData → Bool
  | .dict _ => true
  | _ => false
def rEqS : R2 := fun x y H Q => ∃ p d z, LD p H x d ∧ isDctD d = false ∧ y = .str z ∧ Q (.bl (isStrD d z)) H
theorem op_eqS {X : Cx} (hu : X.A.units + 64 < cLine) : OpR X (compareOp .Eq) rEqS := by
  intro pins s σ H x y v u Q I rx ry h
  obtain ⟨p, d, z, hx, hd, rfl, q⟩ := h
  obtain ⟨tz, rfl⟩ := ry
  have fin : ∀ {b : Bool}, SeqAt.RcAt X.A s v (.str z tz) b → Q (.bl b) H → wpAny (model X.prog X.w) X.A (compareOp .Eq v (.str z tz)) (EP X pins σ Q) X.xe s := fun r g => r X.prog X.w X.xe _ ⟨.bl _, H, I, rfl, g⟩
  cases hx with
  | non =>
    cases rx
    exact fin (SeqAt.RcAt.none_str _ _) q
  | bl b =>
    cases rx
    exact fin (SeqAt.RcAt.bool_str _ _ _) q
  | int i =>
    obtain ⟨t, rfl⟩ := rx
    exact fin (SeqAt.RcAt.int_str _ _ _ _) q
  | str y =>
    obtain ⟨t, rfl⟩ := rx
    exact fin (SeqAt.RcAt.str_str _ _ _ _) q
  | tup n e r =>
    cases rx
    obtain ⟨its, rv, pl, _⟩ := I.tuple (SqT.of e)
    exact fin (SeqAt.RcAt.tuple_str _ _ pl (by omega)) q
  | lst n m e r =>
    cases rx
    obtain ⟨its, rv, pl, _⟩ := I.list (SqL.of e)
    exact fin (SeqAt.RcAt.list_str _ _ pl.isList (by omega)) q
  | dic n e => cases hd
  | dct n e => cases hd
/-- [e, ..], where it lies -/
def tLstB (t : TA) : TE := fun σ H Q => t σ H fun xs H1 => xs.length ≤ sizeLine ∧ ∀ p, H1 p = none → p ≠ sysModules → Q (.ref p) (upd H1 p (.lst xs))
theorem pe_lstB {X : Cx} {es : List Expr} {pos : Pos} {t : TA} (h : PA X es t) : PE X (.List es pos) (tLstB t) := by
  constructor
  intro pins s σ H Q I hq
  refine wpAny_List_spliced (thn (h.run pos pins s σ H _ I hq) ?_)
  rintro us s1 ⟨xs, H1, I1, r, z, q⟩
  refine ⟨r.length ▸ z, .ref s1.heap.objs.size, _, I1.laid (t' := s1.toks) (o := .lst xs) (fun b u e => Heap.get?_push_of_some _ e) (Nat.le_refl _) ⟨z, us, 0, r, Heap.get?_push_size _ rfl⟩, rfl, q _ (I1.hok.fresh (Nat.le_refl _)) (Nat.ne_of_gt I1.big)⟩
end Sb

/-! len(set(t)), t a tuple of ints and texts; t.index(n), t a tuple of ints. -/
namespace Sb
open PySem PySem.Spec PyProof.Rows L2
instance memKey (k : Key) (l : List Key) : Decidable (k ∈ l) := @List.instDecidableMemOfLawfulBEq Key instBEqOfDecidableEq inferInstance k l
theorem setOfK_congr {prog : Program} {w : World} {h : Heap} {a : Addr} {S S' : Key → Bool} {n n' : Nat} (hS : h.SetOf (mixKind prog w) a S n) (e : ∀ k, S k = S' k) (en : n = n') : h.SetOf (mixKind prog w) a S' n' := by
  have : S = S' := funext e
  subst this
  subst en
  exact hS
def uniqK (l : List Key) : List Key := l.foldl (fun acc k => if k ∈ acc then acc else acc ++ [k]) []
theorem uniqK_snoc (l : List Key) (x : Key) : uniqK (l ++ [x]) = if x ∈ uniqK l then uniqK l else uniqK l ++ [x] := by
  unfold uniqK
  rw [List.foldl_append]
  rfl
theorem uniqK_len : ∀ (n : Nat) (l : List Key), l.length = n → (uniqK l).length ≤ l.length ∧ (∀ k, k ∈ uniqK l ↔ k ∈ l) ∧ (l.Nodup → uniqK l = l) ∧ ((uniqK l).length = l.length → l.Nodup)
  | 0, l, h => by
    obtain rfl := List.eq_nil_of_length_eq_zero h
    exact ⟨Nat.le_refl _, fun k => Iff.rfl, fun _ => rfl, fun _ => List.nodup_nil⟩
  | n + 1, l, h => by
    have hl : l ≠ [] := by intro e; subst e; cases h
    obtain ⟨r, x, rfl⟩ : ∃ r x, l = r ++ [x] := ⟨l.dropLast, l.getLast hl, (List.dropLast_concat_getLast hl).symm⟩
    have hr : r.length = n := by rw [List.length_append] at h; simpa using h
    obtain ⟨a, b, c, d⟩ := uniqK_len n r hr
    rw [uniqK_snoc]
    by_cases hx : x ∈ uniqK r
    · rw [if_pos hx]
      have hx' := (b x).mp hx
      refine ⟨by rw [List.length_append]; exact Nat.le_trans a (Nat.le_add_right _ _), fun k => ?_, fun nd => ?_, fun e => ?_⟩
      · rw [b k, List.mem_append]
        constructor
        · exact .inl
        · rintro (z | z)
          · exact z
          · rw [List.mem_singleton] at z
            exact z ▸ hx'
      · exact absurd hx' (fun z => (List.nodup_append.mp nd).2.2 x z x List.mem_cons_self rfl)
      · rw [List.length_append, List.length_singleton] at e
        omega
    · rw [if_neg hx]
      have hx' : x ∉ r := fun z => hx ((b x).mpr z)
      refine ⟨by rw [List.length_append, List.length_append]; exact Nat.add_le_add_right a _, fun k => ?_, fun nd => ?_, fun e => ?_⟩
      · rw [List.mem_append, List.mem_append, b k]
      · rw [c (List.nodup_append.mp nd).1]
      · rw [List.length_append, List.length_append] at e
        have nd := d (Nat.add_right_cancel e)
        refine List.nodup_append.mpr ⟨nd, by simp, fun a ha b hb => ?_⟩
        rw [List.mem_singleton] at hb
        subst hb
        rintro rfl
        exact hx' ha
section
variable {prog : Program} {w : World} {A : Around} {R : Result → Shared → Prop} {I : Addr} {fp wr : List Addr} {G : Array GenState → Array GenState → Prop} {n : Nat} {P : Nat → Value → Prop} {St : Nat → Shared → Prop}
theorem loopMix (W : WalksS prog w A.in1 I fp wr G n P St) (S : Addr) (hSf : S ∉ fp) (xs : List Key) (hsz : xs.length = n) (hn1 : n ≤ 50)
    (hval : ∀ i v, P i v → ∃ k, xs[i]? = some k ∧ RelV (kV k) v) :
    ∀ (k i : Nat) (s : Shared), n - i = k → i ≤ n → St i s →
      s.heap.SetOf (mixKind prog w) S (fun k' => decide (k' ∈ uniqK (xs.take i))) (uniqK (xs.take i)).length →
      (∀ s', Moved (S :: wr) G s s' → s'.heap.SetOf (mixKind prog w) S (fun k' => decide (k' ∈ uniqK (xs.take n))) (uniqK (xs.take n)).length → R (.ok (.ret .none)) s') →
      codeAny (model prog w) A (.builtin "set.update.loop" ⟨[.ref S, .ref I], []⟩) R s := by
  have hSw : S ∉ wr := fun h => hSf (W.sub _ h)
  have hsub : ∀ b ∈ wr, b ∈ S :: wr := fun b hb => List.mem_cons_of_mem _ hb
  intro k
  induction k with
  | zero =>
    intro i s hk hi hst hS hR
    have hin : i = n := by omega
    subst hin
    refine codeAny_builtin PyProof.Rows.F.entry_set_update_loop ?_
    rw [Around.under_plainId PyProof.Rows.F.plain_set_update_loop _]
    show wpAny _ A.in1 (pyNext (.ref I) >>= _) _ _ s
    refine wpAny_bind (W.done s _ _ hst fun s' hm => ?_)
    show wpAny _ A.in1 (ret Value.none) _ _ s'
    exact wpAny_pure (hR s' (hm.mono hsub) (by
      obtain ⟨o, es, ep, t, ho, rest⟩ := hS
      exact ⟨o, es, ep, t, hm.heap S _ hSw ho, rest⟩))
  | succ k ih =>
    intro i s hk hi hst hS hR
    have hlt : i < n := by omega
    refine codeAny_builtin PyProof.Rows.F.entry_set_update_loop ?_
    rw [Around.under_plainId PyProof.Rows.F.plain_set_update_loop _]
    show wpAny _ A.in1 (pyNext (.ref I) >>= _) _ _ s
    refine wpAny_bind (W.item i s _ _ hlt hst fun v s' hP hst' hm => ?_)
    obtain ⟨x, hx, rv⟩ := hval i v hP
    have hS' : s'.heap.SetOf (mixKind prog w) S (fun k' => decide (k' ∈ uniqK (xs.take i))) (uniqK (xs.take i)).length := by
      obtain ⟨o, es, ep, tb, ho, rest⟩ := hS
      exact ⟨o, es, ep, tb, hm.heap S _ hSw ho, rest⟩
    show wpAny _ A.in1 (holding [v] (setAdd S v) >>= _) _ _ s'
    refine wpAny_bind (wpAny_holding ?_)
    unfold setAdd
    refine wpAny_holding ?_
    refine wpAny_bind ((mixKind prog w).pyHash (k := x) (kV_is rv) ?_)
    have lu : (uniqK (xs.take i)).length ≤ i := Nat.le_trans (uniqK_len _ _ rfl).1 (by rw [List.length_take]; exact Nat.min_le_left _ _)
    refine wpAny_setAddHashed_of (knd := mixKind prog w) (s := { s' with toks := s'.toks + 1 }) (kV_is rv) (key_scan rv) hS' (by unfold scanBound; omega) fun h' hsb hS2 => ?_
    have hSi : h'.SetOf (mixKind prog w) S (fun k' => decide (k' ∈ uniqK (xs.take (i + 1)))) (uniqK (xs.take (i + 1))).length := by
      have e : xs.take (i + 1) = xs.take i ++ [x] := by rw [List.take_add_one, hx]; rfl
      rw [e, uniqK_snoc]
      refine setOfK_congr hS2 (fun k' => ?_) ?_
      · by_cases h : x ∈ uniqK (xs.take i)
        · rw [if_pos h]
          by_cases e2 : k' = x
          · subst e2; simp [h]
          · simp [e2]
        · rw [if_neg h]
          simp [List.mem_append]
      · by_cases h : x ∈ uniqK (xs.take i)
        · rw [if_pos h, decide_eq_true h]; rfl
        · rw [if_neg h, decide_eq_false h, List.length_append]; rfl
    refine wpAny_pure ⟨plainId_quiet PyProof.Rows.F.plain_set_update_loop _, ih (i + 1) _ (by omega) hlt (W.frame _ s' _ _ hst' (Nat.le_succ _) fun b hb o e => ?_) hSi fun s'' hm'' hS'' => ?_⟩
    · rw [hsb.2 b (fun h : b = S => hSf (by rw [← h]; exact hb))]; exact e
    · refine hR s'' (Moved.trans W.gtrans ((hm.mono hsub).then_heap (Nat.le_succ _) fun b o hb e => ?_) hm'') hS''
      rw [hsb.2 b (fun h : b = S => hb (by rw [h]; exact List.mem_cons_self))]; exact e
end
section
variable {prog : Program} {w : World} {A : Around} {E : Value → Shared → Prop} {s : Shared}
theorem call_set_tupleM {l : Addr} {items : Array Value} {xs : List Key} {Q : Value → Shared → Prop}
    (hh : A.handled = none) (hl : s.heap.IsTuple l items) (hi : Vals (xs.map kV) items.toList) (hn1 : xs.length ≤ 50)
    (h : ∀ (h' : Heap) (tk : Nat), h'.SetOf (mixKind prog w) s.heap.objs.size (fun k' => decide (k' ∈ uniqK (xs.take items.size))) (uniqK (xs.take items.size)).length →
      (∀ b o, b < s.heap.objs.size → s.heap.get? b = some o → h'.get? b = some o) → Q (.ref s.heap.objs.size) { s with heap := h', toks := tk }) :
    wpAny (model prog w) A (call (.type "set") [.ref l]) Q E s := by
  obtain ⟨c, tl, hmro⟩ := PySem.F.called_set.mro
  have hmade := PySem.F.called_set.made
  have hsub := PySem.F.called_set.sub
  refine wpAny_call (codeAny_of_tree ?_)
  show wpAny _ _ (callAny (.type "set") _) _ _ _
  refine wpAny_pure ⟨Code.quiet_builtin _ (by decide +kernel), codeAny_builtin PySem.F.entry_type_call ?_⟩
  rw [Around.under_plain (weight_type_call_type "set" [.ref l] []) rfl]
  have h1 := PySem.F.called_set.notType
  have h2 := PySem.F.called_set.canCreate
  have hct := PySem.F.typeCall_set_1 (.ref l)
  repeat (any_goals (first | assumption | wp_step))
  refine codeAny_mono (code_set_new_1 (.ref l) (E := E) (Q₁ := fun obj s₁ => ∃ led : Bool, obj = .ref s.heap.objs.size ∧ s₁ = { s with heap := s.heap.push { cls := .type "set", dict := none, data := .set #[] 0 (.fresh 0 0 led) } }) fun led => ⟨led, rfl, rfl⟩) fun r s₁ hr => ?_
  cases r with
  | error e => exact hr
  | ok fl =>
    cases fl with
    | ret obj =>
      obtain ⟨led, rfl, rfl⟩ := hr
      have hS : (s.heap.push { cls := .type "set", dict := none, data := .set #[] 0 (.fresh 0 0 led) }).get? s.heap.objs.size = some { cls := .type "set", dict := none, data := .set #[] 0 (.fresh 0 0 led) } := Heap.get?_push_size _ rfl
      have hT : Shared.TypeIs { s with heap := s.heap.push { cls := .type "set", dict := none, data := .set #[] 0 (.fresh 0 0 led) } } (.ref s.heap.objs.size) "set" := ⟨_, hS, rfl⟩
      have hli := PySem.F.called_set.init.lookup
      have hbi := PySem.F.called_set.init.bind (.ref s.heap.objs.size)
      repeat (any_goals (first | assumption | wp_step))
      refine codeAny_mono (codeAny_call_builtin (R := wants (fun r s₂ => r = .none ∧ ∃ h' tk, s₂ = { s with heap := h', toks := tk } ∧
          h'.SetOf (mixKind prog w) s.heap.objs.size (fun k' => decide (k' ∈ uniqK (xs.take items.size))) (uniqK (xs.take items.size)).length ∧
          (∀ b o, b < s.heap.objs.size → s.heap.get? b = some o → h'.get? b = some o)) E) PySem.F.called_set.init.plain PySem.F.entry_set_init (check_set_init_1 hT ?_)) fun r₂ s₂ hr₂ => ?_
      · obtain ⟨ol, hol, hcl, nl, hdl⟩ := hl
        obtain ⟨ocls, odict, odata, oslots⟩ := ol
        simp only at hcl hdl
        subst hcl; subst hdl
        have hol' : (s.heap.push { cls := .type "set", dict := none, data := .set #[] 0 (.fresh 0 0 led) }).get? l = some { cls := .type "tuple", dict := odict, data := .seq items nl, slots := oslots } := Heap.get?_push_of_some _ hol
        have hsls := PySem.F.sub_tuple_set
        have hslf := PySem.F.sub_tuple_frozenset
        have hne : (Value.type "tuple" == Value.type "dict") = false := by decide
        have hl1 : (s.heap.push { cls := .type "set", dict := none, data := .set #[] 0 (.fresh 0 0 led) }).IsTuple l items := ⟨_, hol', rfl, nl, rfl⟩
        unfold Builtin.«set.__init__» noKeywords Builtin.Frozenset.updateFrom
        generalize hPI : pyIter = PI
        wp_walk
        subst hPI
        refine wpAny_pyIter_tuple hl1 ?_
        refine wpAny_bind (wpAny_runValue ?_)
        have hlS : l < s.heap.objs.size := Heap.lt_size hol
        have hh3 : A.in1.in1.in1.handled = none := by simp [hh]
        have hneI : l ≠ (s.heap.push { cls := .type "set", dict := none, data := .set #[] 0 (.fresh 0 0 led) }).objs.size := by
          rw [Heap.size_push]; exact Nat.ne_of_lt (Nat.lt_succ_of_lt hlS)
        have hSf : s.heap.objs.size ∉ [(s.heap.push { cls := .type "set", dict := none, data := .set #[] 0 (.fresh 0 0 led) }).objs.size, l] := by
          rw [Heap.size_push]; simp only [List.mem_cons, List.mem_singleton, List.not_mem_nil, or_false, not_or]
          exact ⟨Nat.ne_of_lt (Nat.lt_succ_self _), Nat.ne_of_gt hlS⟩
        have hsz : xs.length = items.size := by rw [← Array.length_toList, ← hi.length, List.length_map]
        have hval : ∀ (i : Nat) (v : Value), items[i]? = some v → ∃ k, xs[i]? = some k ∧ RelV (kV k) v := fun i v hv => by
          have hlt : i < items.size := (Array.getElem?_eq_some_iff.mp hv).1
          have hlx : i < xs.length := by omega
          refine ⟨xs[i], List.getElem?_eq_getElem hlx, ?_⟩
          obtain ⟨w', hw, rw'⟩ := hi.get (i := i) (x := kV xs[i]) (by rw [List.getElem?_map, List.getElem?_eq_getElem hlx]; rfl)
          rw [Array.getElem?_toList] at hw
          rw [hv] at hw
          cases hw
          exact rw'
        refine loopMix ((Walks.tuple hh3 _ l hneI items).toS) s.heap.objs.size
          hSf xs hsz (by rw [← hsz]; exact hn1) hval (items.size - 0) 0 _ (by omega) (Nat.zero_le _)
          ⟨⟨_, Heap.get?_push_size _ rfl, rfl, rfl⟩, (hl1.push _)⟩ ?hS0 ?hR
        case hS0 =>
          have hget : ((s.heap.push { cls := .type "set", dict := none, data := .set #[] 0 (.fresh 0 0 led) }).push { cls := .type "tuple_iterator", data := .fields #[.ref l, .int 0 0] }).get? s.heap.objs.size
              = some { cls := .type "set", dict := none, data := .set #[] 0 (.fresh 0 0 led) } := Heap.get?_push_of_some _ hS
          exact ⟨_, #[], 0, _, hget, ⟨rfl, rfl, rfl⟩, rfl, (fun e he => by simp at he), (fun k => by simp [uniqK]), (by decide), (by rfl), rfl⟩
        case hR =>
          intro s' hm hS'
          obtain ⟨h', g', d', tk', os'⟩ := s'
          have eg : g' = s.gens := hm.gens
          have ed : d' = s.drawn := hm.drawn
          have eo : os' = s.os := hm.os
          subst eg; subst ed; subst eo
          show wpAny _ _ _ _ _ _
          refine wpAny_pure ?_
          show wpAny _ _ (ret Value.none) _ _ _
          refine wpAny_pure ⟨rfl, h', tk', rfl, hS', fun b o hb e => ?_⟩
          have hb1 : b ≠ s.heap.objs.size := Nat.ne_of_lt hb
          have hb2 : b ≠ (s.heap.push { cls := .type "set", dict := none, data := .set #[] 0 (.fresh 0 0 led) }).objs.size := by
            rw [Heap.size_push]; exact Nat.ne_of_lt (Nat.lt_succ_of_lt hb)
          exact hm.heap b o (by simp only [List.mem_cons, List.mem_singleton, List.not_mem_nil, or_false, not_or]; exact ⟨hb1, hb2⟩) (Heap.get?_push_of_some _ (Heap.get?_push_of_some _ e))
      · cases r₂ with
        | error e => exact hr₂
        | ok fl₂ =>
          cases fl₂ with
          | ret r =>
            obtain ⟨rfl, h', tk, rfl, hS', hk'⟩ := hr₂
            repeat (any_goals (first | assumption | wp_step))
            exact h _ _ hS' hk'
          | _ => exact hr₂.elim
    | _ => exact hr.elim
end
section
variable {X : Cx}
def tLenSetM (ta : TE) : TE := fun σ H Q => ta σ H fun x H1 => ∃ (l : Addr) (xs : List Key), x = .ref l ∧ H1 l = some (.tup (xs.map kV)) ∧ xs.length ≤ 50 ∧ Q (.int (uniqK xs).length) H1
theorem pe_lenSetM {a : Expr} {ta : TE} {p p2 q pos : Pos} (hc : X.calm = true) (hg : Gl X "len") (hm : X.mg "len" = none) (hg2 : Gl X "set") (hm2 : X.mg "set" = none) (ha : PE X a ta)
    (na : starEach [a] X.env = (false, eval a X.env) :: starEach [] X.env := by rfl) : PE X (.Call (.Name "len" p) [.Call (.Name "set" p2) [a] [] q] [] pos) (tLenSetM ta) := by
  refine ⟨fun pins s σ H Q I h => ?_⟩
  refine Call_ (ld_blt I hg hm boot_len ?_)
  refine PyProof.Rows.callWith_builtin1 (PyProof.Rows.args_cons ?_ rfl) rfl rfl
  refine Call_ (ld_blt I hg2 hm2 boot_set ?_)
  refine PyProof.Rows.callWith_type1 (PyProof.Rows.args_cons (thn (ha.run pins s σ H _ I h) fun v s1 ⟨x, H1, I1, r1, q1⟩ => PyProof.Rows.args_nil ?_) na) na rfl
  obtain ⟨l, xs, rfl, hq, h1, q1⟩ := q1
  cases r1
  obtain ⟨its, r, pl, hz⟩ := I1.tuple (SqT.of hq)
  refine call_set_tupleM (I1.ok.hd hc) pl (by simpa using r) h1 fun h' tk hS hk => ?_
  refine PyProof.Rows.args_nil ?_
  have hl : its.toArray.size = xs.length := by rw [List.size_toArray, ← r.length, List.length_map]
  rw [hl, List.take_length] at hS
  obtain ⟨o, es, ep, t, ho, hex, hd, _, _, _, hf, hn⟩ := hS
  have I2 : L2.Inv X pins σ H1 { s1 with heap := h', toks := tk } := I1.kept fun b o e => hk b o (Heap.lt_size e) e
  have lu := (uniqK_len _ xs rfl).1
  refine call_len_set ho hex hd hf (by rw [hn] <;> omega) ⟨.int (uniqK xs).length, H1, I2.tok _, ⟨_, by rw [hn]⟩, q1⟩
/-- t.index(n), the first place -/
def rIdxI (K : PySem.W.Frag) : V → List V → Hp → VK → Prop := fun x xs H Q => ∃ (p : Addr) (ys : List Int) (z : Int) (j : Nat), x = .ref p ∧ xs = [.int z] ∧ SqT K H p (ys.map V.int) ∧ ys[j]? = some z ∧ (∀ m, m < j → ys[m]? ≠ some z) ∧ Q (.int (j : Nat)) H
theorem flat_ints (ys : List Int) : (ys.map V.int).all flatV = true := by
  rw [List.all_map]
  exact List.all_eq_true.mpr fun _ _ => rfl
theorem mt_tup_indexI : MtR X "tuple.index" (rIdxI X.K) := by
  intro pins s σ H x xs v us Q I rx rs h
  obtain ⟨p, ys, z, j, rfl, rfl, hq, hy, hno, q⟩ := h
  cases rx
  obtain ⟨u, rfl, t, rfl⟩ := vals1 rs
  obtain ⟨its, r, pl, hz⟩ := I.tuple hq
  obtain ⟨⟨cls, dd, dt, sl⟩, ho, hc, n, hd⟩ := pl
  simp only at hc hd
  subst hc
  subst hd
  have hl : its.toArray.size = ys.length := by rw [List.size_toArray, ← r.length, List.length_map]
  have hj : j < its.toArray.size := by rw [hl]; exact (List.getElem?_eq_some_iff.mp hy).1
  have at' : ∀ (m : Nat) (hm : m < its.toArray.size), ∃ y t', ys[m]? = some y ∧ its.toArray[m] = Value.int y t' := fun m hm => by
    have hm' : m < ys.length := by rw [← hl]; exact hm
    obtain ⟨w, hw, t', hw'⟩ := r.get (i := m) (x := .int ys[m]) (by simp [hm'])
    refine ⟨ys[m], t', List.getElem?_eq_getElem hm', ?_⟩
    have e := (List.getElem?_eq_some_iff.mp hw).2
    rw [← hw', ← e]
    simp
  refine call_meets PySem.F.slot_tuple_index ⟨_, ho, rfl⟩ PySem.F.entry_tuple_index (PySem.F.args_tuple_index_2 _ _) (TI.tuple_indexAt p its.toArray n dd sl (.int z t) (eqU (.int z)) j hj ?_ ?_)
    ⟨ho, fun w hw => mem_eqAt (x := .int z) ⟨t, rfl⟩ rfl r (flat_ints ys) w (by simpa using hw), ⟨.int (j : Nat), H, I.tok _, ⟨_, rfl⟩, q⟩⟩
  · obtain ⟨y, t', h1, h2⟩ := at' j hj
    rw [hy] at h1
    cases h1
    rw [h2]
    show (z == z) = true
    exact beq_self_eq_true z
  · intro m hm hmj
    obtain ⟨y, t', h1, h2⟩ := at' m hm
    rw [h2]
    show (y == z) = false
    have : y ≠ z := fun e => hno m hmj (by rw [h1, e])
    exact beq_eq_false_iff_ne.mpr this
end
end Sb

/-! t * k for tuples of data, the empty one too. -/
namespace Sb
open PySem PySem.Spec PyProof.Rows L2
theorem tuple_mul0 (l : Addr) (n : Nat) (dd : Option Addr) (sl : Array (Option Value)) (x : Int) (u : Tok) (hx : -(2 ^ 63) ≤ x ∧ x < 2 ^ 63) :
    Meets (Builtin.«tuple.__mul__» ⟨[.ref l, .int x u], []⟩) (fun _ R s => s.heap.get? l = some { cls := .type "tuple", dict := dd, data := .seq #[] n, slots := sl } ∧ R (.ok (.ret (Value.ref l))) s) :=
  .of_wp fun P w A R s h => by
    obtain ⟨hp, g, d, tk, os⟩ := s
    obtain ⟨hl, h⟩ := h
    have f1 := AutoSeq1.idx_int
    have c0 : (decide (x < -(2 ^ 63)) || decide (x ≥ 2 ^ 63)) = false := by
      rw [decide_eq_false (by omega), decide_eq_false (by omega)] <;> rfl
    wp_walk using wpAny_loadPart' hl
    refine wpAny_ite_false (decide_eq_false (by rw [c0]; exact Bool.false_ne_true)) ?_
    wp_walk using wpAny_loadPart' hl
    exact ⟨_, rfl, h⟩
theorem TDs.flat {H : Hp} {xs : List V} {ds : List PyData} (h : TDs H xs ds) : ∀ k, TDs H (List.replicate k xs).flatten (List.replicate k ds).flatten
  | 0 => .nil
  | k + 1 => h.app (h.flat k)
def rMulD : R2 := fun x y H Q => ∃ ds k, TD H x (.tuple ds) ∧ y = .int k ∧ 2 ≤ k ∧ k ≤ 1000 ∧ ds.length ≤ 1000 ∧ ∀ p H', Same H H' → TD H' (.ref p) (.tuple (List.replicate k.toNat ds).flatten) → Q (.ref p) H'
section
variable {X : Cx}
theorem op_mulD : OpR X (binaryOp .Mult) rMulD := by
  intro pins s σ H x y v u Q I rx ry h
  obtain ⟨ds, k, hT, rfl, h1, h2, hz, q⟩ := h
  obtain ⟨l, xs, rfl, hl, hx⟩ := hT.isTup
  have lx := hx.length
  by_cases hne : xs = []
  · subst hne
    cases hx
    cases rx
    obtain ⟨t, rfl⟩ := ry
    obtain ⟨its, r, ⟨⟨cls, dd, data, sl⟩, ho, hc, n, hd⟩, hs⟩ := I.tuple (SqT.of hl)
    cases r
    simp only at hc hd
    subst hc hd
    refine wpAny_binaryOp_repeat_ref (T := "tuple") (U := "int") (by decide) ⟨_, ho, rfl⟩ (fun s' => typeIs_int s' k t) noFill_tuple_mul PySem.F.fills_int_mul PySem.F.slot_int_rmul repeat_tuple PySem.F.slot_int_index.lookup
      (call_meets PySem.F.slot_int_rmul (typeIs_int s k t) PySem.F.entry_int_rmul (PySem.F.args_int_rmul_2 _ _) (int_rmul_tuple k t l #[] n dd sl)
        ⟨ho, rfl, ⟨_, ho, rfl⟩, call_meets PySem.F.slot_tuple_mul ⟨_, ho, rfl⟩ PySem.F.entry_tuple_mul (PySem.F.args_tuple_mul_2 _ _) (tuple_mul0 l n dd sl k t (by omega)) ⟨ho, ?_⟩⟩)
    refine ⟨.ref l, H, I, rfl, q l H (Same.refl H) ?_⟩
    have e : (List.replicate k.toNat ([] : List PyData)).flatten = [] := by simp
    rw [e]
    exact hT
  · exact op_repT pins s σ H _ _ v u Q I rx ry ⟨l, k, xs, rfl, rfl, SqT.of hl, hne, h1, h2, by omega, fun p np => q p _ (same_new np) (.tup upd_same (TDs.mono (Tups.new np) _ (hx.flat k.toNat)))⟩
end
end Sb

/-! t * 0 and t * 1, t a tuple that is not empty. -/
namespace Sb
open PySem PySem.Spec PyProof.Rows L2
theorem tuple_mul1 (l : Addr) (items : Array Value) (n : Nat) (sl : Array (Option Value)) (dd : Option Addr) (x : Int) (u : Tok) (hx : x = 1) :
    Meets (Builtin.«tuple.__mul__» ⟨[.ref l, .int x u], []⟩) (fun _ R s => s.heap.get? l = some { cls := .type "tuple", dict := dd, data := .seq items n, slots := sl } ∧ R (.ok (.ret (Value.ref l))) s) :=
  .of_wp fun P w A R s h => by
    obtain ⟨hp, g, d, tk, os⟩ := s
    obtain ⟨hl, h⟩ := h
    have f1 := AutoSeq1.idx_int
    have c1 : (items.isEmpty || x == 1) = true := by rw [show (x == 1) = true by rw [hx]; rfl, Bool.or_true]
    have c0 : (decide (x < -(2 ^ 63)) || decide (x ≥ 2 ^ 63)) = false := by subst hx; decide
    wp_walk using wpAny_loadPart' hl
    exact ⟨_, rfl, h⟩
theorem tuple_mulZ (l : Addr) (items : Array Value) (n : Nat) (sl : Array (Option Value)) (dd : Option Addr) (x : Int) (u : Tok) (hx : x = 0) (he : items.isEmpty = false) :
    Meets (Builtin.«tuple.__mul__» ⟨[.ref l, .int x u], []⟩) (fun _ R s => s.heap.get? l = some { cls := .type "tuple", dict := dd, data := .seq items n, slots := sl } ∧ R (.ok (.ret (Value.ref s.heap.objs.size))) { s with heap := s.heap.push { cls := Value.type "tuple", data := Data.seq #[] }, toks := s.toks }) :=
  .of_wp fun P w A R s h => by
    obtain ⟨hp, g, d, tk, os⟩ := s
    obtain ⟨hl, h⟩ := h
    have f1 := AutoSeq1.idx_int
    have c1 : (items.isEmpty || x == 1) = false := by rw [he, hx]; rfl
    have c2 : (decide (x ≤ 0) || items.isEmpty) = true := by rw [hx]; rfl
    have c0 : (decide (x < -(2 ^ 63)) || decide (x ≥ 2 ^ 63)) = false := by subst hx; decide
    wp_walk using wpAny_loadPart' hl
    exact ⟨_, rfl, h⟩
def rMul01 (K : PySem.W.Frag) : R2 := fun x y H Q => ∃ l xs k, x = .ref l ∧ y = .int k ∧ SqT K H l xs ∧ xs ≠ [] ∧ (k = 0 ∨ k = 1) ∧ (k = 1 → Q (.ref l) H) ∧ (k = 0 → ∀ p, H p = none → Q (.ref p) (upd H p (.tup [])))
section
variable {X : Cx}
theorem op_mul01 : OpR X (binaryOp .Mult) (rMul01 X.K) := by
  intro pins s σ H x y v u Q I rx ry h
  obtain ⟨l, xs, k, rfl, rfl, hT, hne, hk, q1, q0⟩ := h
  cases rx
  obtain ⟨t, rfl⟩ := ry
  obtain ⟨its, r, ⟨⟨cls, dd, data, sl⟩, ho, hc, n, hd⟩, hs⟩ := I.tuple hT
  simp only at hc hd
  subst hc hd
  have hi : its.toArray.isEmpty = false := by
    cases its with
    | nil => exact absurd (List.eq_nil_of_length_eq_zero r.length) hne
    | cons a b => rfl
  rcases hk with rfl | rfl
  · refine wpAny_binaryOp_repeat_ref (T := "tuple") (U := "int") (by decide) ⟨_, ho, rfl⟩ (fun s' => typeIs_int s' 0 t) noFill_tuple_mul PySem.F.fills_int_mul PySem.F.slot_int_rmul repeat_tuple PySem.F.slot_int_index.lookup
      (call_meets PySem.F.slot_int_rmul (typeIs_int s 0 t) PySem.F.entry_int_rmul (PySem.F.args_int_rmul_2 _ _) (int_rmul_tuple 0 t l its.toArray n dd sl)
        ⟨ho, rfl, ⟨_, ho, rfl⟩, call_meets PySem.F.slot_tuple_mul ⟨_, ho, rfl⟩ PySem.F.entry_tuple_mul (PySem.F.args_tuple_mul_2 _ _) (tuple_mulZ l its.toArray n sl dd 0 t rfl hi) ⟨ho, ?_⟩⟩)
    exact ⟨.ref s.heap.objs.size, _, I.laid (t' := s.toks) (o := .tup []) (fun b o e => Heap.get?_push_of_some _ e) (Nat.le_refl _) ⟨by show 0 ≤ sizeLine; decide, [], .nil, _, Heap.get?_push_size _ rfl, rfl, _, rfl⟩, rfl, q0 rfl _ (I.hok.fresh (Nat.le_refl _))⟩
  · refine wpAny_binaryOp_repeat_ref (T := "tuple") (U := "int") (by decide) ⟨_, ho, rfl⟩ (fun s' => typeIs_int s' 1 t) noFill_tuple_mul PySem.F.fills_int_mul PySem.F.slot_int_rmul repeat_tuple PySem.F.slot_int_index.lookup
      (call_meets PySem.F.slot_int_rmul (typeIs_int s 1 t) PySem.F.entry_int_rmul (PySem.F.args_int_rmul_2 _ _) (int_rmul_tuple 1 t l its.toArray n dd sl)
        ⟨ho, rfl, ⟨_, ho, rfl⟩, call_meets PySem.F.slot_tuple_mul ⟨_, ho, rfl⟩ PySem.F.entry_tuple_mul (PySem.F.args_tuple_mul_2 _ _) (tuple_mul1 l its.toArray n sl dd 1 t rfl) ⟨ho, ?_⟩⟩)
    exact ⟨.ref l, H, I, rfl, q1 rfl⟩
end
end Sb

/-! Tuples whose object is known to have no dict: their methods may be called. -/
namespace Sb
open PySem PySem.Spec PyProof.Rows L2
section
variable {X : Cx}
/-- (e, ..), its object known -/
def tTupF (t : TA) : TE := fun σ H Q => t σ H fun xs H1 => xs.length ≤ sizeLine ∧ ∀ p ob, H1 p = none → ob.dict = none → Q (.ref p) (upd H1 p (.frz ob (.tup xs)))
theorem pe_tupF {es : List Expr} {x1} {pos : Pos} {t : TA} (h : PA X es t) : PE X (.Tuple es x1 pos) (tTupF t) := by
  refine ⟨fun pins s σ H Q I hq => ?_⟩
  refine wpAny_Tuple_spliced (thn (h.run pos pins s σ H _ I hq) fun us s1 ⟨xs, H1, I1, r, z, q⟩ => ⟨by rw [← r.length]; exact z, ?_⟩)
  have hf : H1 s1.heap.objs.size = none := I1.hok.fresh (Nat.le_refl _)
  refine ⟨.ref s1.heap.objs.size, upd H1 s1.heap.objs.size (.frz { cls := .type "tuple", data := .seq us.toArray } (.tup xs)), I1.laid (t' := s1.toks) (fun b u e => Heap.get?_push_of_some _ e) (Nat.le_refl _) ?_, rfl, q _ _ hf rfl⟩
  exact ⟨Heap.get?_push_size _ rfl, z, us, r, ⟨_, Heap.get?_push_size _ rfl, rfl, _, rfl⟩⟩
/-- tuple(xs) -/
def rTupF (K : PySem.W.Frag) : List V → Hp → VK → Prop := fun xs H Q => ∃ p ys, xs = [.ref p] ∧ SqL K H p ys ∧ ∀ l ob, H l = none → ob.dict = none → Q (.ref l) (upd H l (.frz ob (.tup ys)))
theorem call_tupleF : CallR X (.type "tuple") (rTupF X.K) := by
  intro pins s σ H xs us Q I r h
  obtain ⟨p, ys, rfl, hq, q⟩ := h
  obtain ⟨u, rfl, rx⟩ := vals1 r
  cases rx
  obtain ⟨its, r', pl, hz⟩ := I.list hq
  have hlen := r'.length
  refine call_tuple_list pl.isList (fun h' kp => ?_) (by simp only [List.size_toArray] <;> omega)
  have I1 : L2.Inv X pins σ H { s with heap := h' } := I.kept (t' := s.toks) kp
  have I2 : L2.Inv X pins σ (upd H h'.objs.size (.frz { cls := .type "tuple", data := .seq its.toArray } (.tup ys))) { s with heap := h'.push { cls := .type "tuple", data := .seq its.toArray } } :=
    I1.laid (t' := s.toks) (fun b o e => Heap.get?_push_of_some _ e) (Nat.le_refl _) (show ObjOk X.prog X.w _ _ _ (.frz _ (.tup ys)) from ⟨Heap.get?_push_size _ rfl, hz, its, r', IsTup.new _ _⟩)
  exact ⟨.ref h'.objs.size, _, I2, rfl, q _ _ (I1.hok.fresh (Nat.le_refl _)) rfl⟩
/-- t.m(e, ..) -/
def tBMT (r : V → List V → Hp → VK → Prop) (to : TE) (t : TA) : TE := fun σ H Q => to σ H fun x H1 => (∃ p ob xs, x = V.ref p ∧ H1 p = some (.frz ob (.tup xs)) ∧ ob.dict = none) ∧ t σ H1 fun xs H2 => r x xs H2 Q
variable {o e : Expr} {es : List Expr} {to : TE} {t : TA} {name : Str} {apos cpos : Pos} {id : String} {r : V → List V → Hp → VK → Prop}
theorem pe_bmT (pa : PlainAttrs "tuple") (slot : Slot "tuple" name id) (hty : typeOf (.builtin id) = pure (.type "method_descriptor")) (hm : MtR X id r) (ho : PE X o to) (ha : PA X (e :: es) t)
    (hbase : attributeBase o name X.env (eval o X.env) = eval o X.env := by rfl)
    (hfew : ((backTo cpos (starEach (e :: es) X.env)).all (fun x => !x.1) && (backToKw cpos (keywordEach [] X.env)).all (fun x => x.1.isSome)
      && decide ((e :: es).length + ([] : List Keyword).length + (if ([] : List Keyword).isEmpty then 0 else 1) < 30)) = true := by rfl)
    (hline : (apos.endLine == cpos.line) = true := by rfl) (hs : starEach (e :: es) X.env = (false, eval e X.env) :: starEach es X.env := by rfl) (hplain : (backTo cpos (starEach es X.env)).any (·.1) = false := by rfl) :
    PE X (.Call (.Attribute o name apos) (e :: es) [] cpos) (tBMT r to t) := by
  refine ⟨fun pins s σ H Q I h => ?_⟩
  refine wpAny_Call_method_late hbase hfew hline rfl (thn (ho.run pins s σ H _ I h) fun v s1 ⟨x, H1, I1, r1, ⟨p, ob, xs, ex, hp, hd⟩, q1⟩ => ?_)
  subst ex
  obtain rfl : v = Value.ref p := r1
  obtain ⟨g, z, its, rv, o', ho', hc, n, hdat⟩ := (show ObjOk X.prog X.w H1 s1.heap p (.frz ob (.tup xs)) from I1.hok p _ hp)
  have eo : o' = ob := by
    rw [g] at ho'
    exact (Option.some.inj ho').symm
  subst eo
  refine ⟨"tuple", id, pa, slot, hty, ⟨o', g, hc⟩, fun a e2 => ?_, ?_⟩
  · cases e2
    exact ⟨o', g, hd⟩
  have hA := ha.run cpos pins s1 σ H1 _ I1 q1
  rw [hs] at hA ⊢
  refine Calls.callWith_builtin (by show (false || (backTo cpos (starEach es X.env)).any (·.1)) = false; rw [hplain] <;> rfl) (Calls.evalArgs_plain ?_)
  exact thn hA fun us s2 ⟨vs, H2, I2, r2, q2⟩ => hm pins s2 σ H2 (.ref p) vs (.ref p) us Q I2 rfl r2 q2
end
/-- held values, in order, at a -/
def HT (H : Hp) (a : Addr) (ns : List Int) : Prop := ∃ ob, H a = some (.frz ob (.tup (ns.map V.int))) ∧ ob.dict = none
theorem HT.sq {K : PySem.W.Frag} {H : Hp} {a : Addr} {ns : List Int} (h : HT H a ns) : SqT K H a (ns.map V.int) := by
  obtain ⟨ob, e, _⟩ := h
  exact .inl (.inr ⟨ob, e⟩)
theorem HT.mono {H H' : Hp} {a : Addr} {ns : List Int} (h : HT H a ns) (s : Same H H') : HT H' a ns := by
  obtain ⟨ob, e, d⟩ := h
  exact ⟨ob, s _ _ e, d⟩
theorem HT.ty {H : Hp} {a : Addr} {ns : List Int} (h : HT H a ns) : ∃ p ob xs, V.ref a = V.ref p ∧ H p = some (.frz ob (.tup xs)) ∧ ob.dict = none := by
  obtain ⟨ob, e, d⟩ := h
  exact ⟨a, ob, _, rfl, e, d⟩
theorem inV_ints (v : Int) : ∀ ns : List Int, inV (.int v) (ns.map V.int) = decide (v ∈ ns)
  | [] => rfl
  | n :: r => by
    have ih := inV_ints v r
    unfold inV at ih ⊢
    rw [List.map_cons, List.any_cons, ih]
    by_cases h : n = v
    · subst h
      simp [eqV]
    · have h' : ¬ v = n := fun e => h e.symm
      simp [eqV, h, h', List.mem_cons]
end Sb

/-! Numbered streams: the mathematics. -/
namespace Sb
open PySem PySem.Spec PyProof.Rows L2
def grow (names : List Int) (v : Int) : List Int := if v ∈ names then names else names ++ [v]
def numGo : List Int → List (Int × Int) → List (Int × Int)
  | _, [] => []
  | names, m :: r => (m.1, ((grow names m.2).idxOf m.2 : Nat)) :: numGo (grow names m.2) r
def numb (ms : List (Int × Int)) : List (Int × Int) := numGo [] ms
def seen (names : List Int) (ms : List (Int × Int)) : List Int := ms.foldl (fun n m => grow n m.2) names
theorem numGo_len : ∀ (ms : List (Int × Int)) (names : List Int), (numGo names ms).length = ms.length
  | [], _ => rfl
  | m :: r, names => by simp only [numGo, List.length_cons, numGo_len r]
theorem numb_len (ms : List (Int × Int)) : (numb ms).length = ms.length := numGo_len ms []
theorem numGo_snoc : ∀ (ms : List (Int × Int)) (names : List Int) (m : Int × Int), numGo names (ms ++ [m]) = numGo names ms ++ [(m.1, (((grow (seen names ms) m.2).idxOf m.2 : Nat) : Int))]
  | [], _, _ => rfl
  | x :: r, names, m => by
    simp only [List.cons_append, numGo, numGo_snoc r (grow names x.2) m]
    rfl
theorem numGo_take : ∀ (ms : List (Int × Int)) (names : List Int) (n : Nat), numGo names (ms.take n) = (numGo names ms).take n
  | [], _, n => by simp [numGo]
  | x :: r, names, 0 => by simp [numGo]
  | x :: r, names, n + 1 => by simp only [List.take_succ_cons, numGo, numGo_take r]
theorem numb_take (ms : List (Int × Int)) (n : Nat) : numb (ms.take n) = (numb ms).take n := numGo_take ms [] n
theorem seen_snoc (ms : List (Int × Int)) (names : List Int) (m : Int × Int) : seen names (ms ++ [m]) = grow (seen names ms) m.2 := by
  unfold seen
  rw [List.foldl_append]
  rfl
theorem grow_len (names : List Int) (v : Int) : (grow names v).length ≤ names.length + 1 := by
  unfold grow
  split
  · omega
  · simp
theorem seen_len : ∀ (ms : List (Int × Int)) (names : List Int), (seen names ms).length ≤ names.length + ms.length
  | [], names => Nat.le_refl _
  | m :: r, names => by
    have h := seen_len r (grow names m.2)
    have g := grow_len names m.2
    show (seen (grow names m.2) r).length ≤ _
    rw [List.length_cons]
    omega
theorem mem_grow (names : List Int) (v : Int) : v ∈ grow names v := by
  unfold grow
  split
  · assumption
  · simp
theorem idx_append {names : List Int} {v : Int} (h : v ∈ names) (t : List Int) : (names ++ t).idxOf v = names.idxOf v := by
  induction names with
  | nil => cases h
  | cons x r ih =>
    simp only [List.cons_append, List.idxOf_cons]
    by_cases e : x == v
    · simp [e]
    · rcases List.mem_cons.mp h with rfl | h
      · simp at e
      · simp [e, ih h]
theorem idx_new {names : List Int} {v : Int} (h : v ∉ names) : (names ++ [v]).idxOf v = names.length := by
  induction names with
  | nil => simp
  | cons x r ih =>
    have hx : ¬ x = v := fun e => h (by rw [e]; exact List.mem_cons_self)
    have hr : v ∉ r := fun e => h (List.mem_cons_of_mem _ e)
    simp only [List.cons_append, List.idxOf_cons, List.length_cons]
    rw [ih hr]
    have e1 : (x == v) = false := by simpa using hx
    rw [e1]
    rfl
theorem idx_lt {names : List Int} {v : Int} (h : v ∈ names) : names.idxOf v < names.length := List.idxOf_lt_length_iff.mpr h
/-! renaming -/
theorem idx_map {f : Int → Int} (hf : ∀ x y, f x = f y → x = y) (v : Int) : ∀ names : List Int, (names.map f).idxOf (f v) = names.idxOf v
  | [] => by simp
  | x :: r => by
    simp only [List.map_cons, List.idxOf_cons, idx_map hf v r]
    by_cases e : x = v
    · subst e; simp
    · have : ¬ f x = f v := fun z => e (hf _ _ z)
      have e1 : (x == v) = false := by simpa using e
      have e2 : (f x == f v) = false := by simpa using this
      rw [e1, e2]
theorem mem_map_inj {f : Int → Int} (hf : ∀ x y, f x = f y → x = y) {v : Int} {names : List Int} : f v ∈ names.map f ↔ v ∈ names := by
  constructor
  · intro h
    obtain ⟨u, hu, e⟩ := List.mem_map.mp h
    rw [← hf _ _ e]
    exact hu
  · intro h
    exact List.mem_map.mpr ⟨v, h, rfl⟩
theorem grow_map {f : Int → Int} (hf : ∀ x y, f x = f y → x = y) (names : List Int) (v : Int) : grow (names.map f) (f v) = (grow names v).map f := by
  unfold grow
  by_cases h : v ∈ names
  · rw [if_pos h, if_pos ((mem_map_inj hf).mpr h)]
  · rw [if_neg h, if_neg (fun z => h ((mem_map_inj hf).mp z)), List.map_append]
    rfl
theorem numGo_map {f : Int → Int} (hf : ∀ x y, f x = f y → x = y) : ∀ (ms : List (Int × Int)) (names : List Int), numGo (names.map f) (ms.map fun m => (m.1, f m.2)) = numGo names ms
  | [], _ => rfl
  | m :: r, names => by
    simp only [List.map_cons, numGo, grow_map hf, idx_map hf, numGo_map hf r]
theorem numb_map {f : Int → Int} (hf : ∀ x y, f x = f y → x = y) (ms : List (Int × Int)) : numb (ms.map fun m => (m.1, f m.2)) = numb ms := numGo_map hf ms []
/-! numbered twice -/
def iot (k : Nat) : List Int := (List.range k).map (fun i : Nat => (i : Int))
theorem iot_succ (k : Nat) : iot (k + 1) = iot k ++ [(k : Int)] := by
  unfold iot
  rw [List.range_succ, List.map_append]
  rfl
theorem mem_iot {j k : Nat} : (j : Int) ∈ iot k ↔ j < k := by
  unfold iot
  rw [List.mem_map]
  constructor
  · rintro ⟨a, ha, e⟩
    have := List.mem_range.mp ha
    omega
  · intro h
    exact ⟨j, List.mem_range.mpr h, rfl⟩
theorem idx_iot : ∀ {k j : Nat}, j < k → (iot k).idxOf (j : Int) = j
  | 0, _, h => absurd h (Nat.not_lt_zero _)
  | k + 1, j, h => by
    rw [iot_succ]
    by_cases e : j < k
    · rw [idx_append (mem_iot.mpr e), idx_iot e]
    · have : j = k := by omega
      subst this
      rw [idx_new (fun z => Nat.lt_irrefl _ (mem_iot.mp z))]
      simp [iot]
theorem iot_len (k : Nat) : (iot k).length = k := by simp [iot]
theorem numGo_idem : ∀ (ms : List (Int × Int)) (names : List Int), numGo (iot names.length) (numGo names ms) = numGo names ms
  | [], _ => rfl
  | m :: r, names => by
    by_cases h : m.2 ∈ names
    · have e : grow names m.2 = names := if_pos h
      have hl := idx_lt h
      have g : grow (iot names.length) (names.idxOf m.2 : Nat) = iot names.length := if_pos (mem_iot.mpr hl)
      simp only [numGo, e, g, idx_iot hl, numGo_idem r names]
    · have e : grow names m.2 = names ++ [m.2] := if_neg h
      have g : grow (iot names.length) ((names.length : Nat) : Int) = iot (names.length + 1) := by
        rw [iot_succ]
        exact if_neg (fun z => Nat.lt_irrefl _ (mem_iot.mp z))
      have ih := numGo_idem r (names ++ [m.2])
      rw [List.length_append] at ih
      simp only [numGo, e, idx_new h, g, idx_iot (Nat.lt_succ_self _)]
      exact congrArg _ ih
theorem numb_idem (ms : List (Int × Int)) : numb (numb ms) = numb ms := by
  have h := numGo_idem ms []
  exact h
theorem numGo_mem : ∀ (ms : List (Int × Int)) (names : List Int) (m : Int × Int), m ∈ numGo names ms → 0 ≤ m.2 ∧ m.2 < names.length + ms.length ∧ ∃ x ∈ ms, x.1 = m.1
  | [], _, _, h => by cases h
  | x :: r, names, m, h => by
    rcases List.mem_cons.mp h with rfl | h
    · refine ⟨by omega, ?_, x, List.mem_cons_self, rfl⟩
      have := idx_lt (mem_grow names x.2)
      have := grow_len names x.2
      rw [List.length_cons]
      show ((List.idxOf x.2 (grow names x.2) : Nat) : Int) < _
      omega
    · obtain ⟨a, b, y, hy, e⟩ := numGo_mem r (grow names x.2) m h
      have := grow_len names x.2
      refine ⟨a, ?_, y, List.mem_cons_of_mem _ hy, e⟩
      rw [List.length_cons]
      omega
theorem numb_short {ms : List (Int × Int)} (h : Short ms) (hl : ms.length ≤ 100000) : Short (numb ms) := by
  intro m hm
  obtain ⟨a, b, x, hx, e⟩ := numGo_mem ms [] m hm
  refine ⟨?_, ?_⟩
  · rw [← e]
    exact (h x hx).1
  · have : m.2 < 100000 + 1 := by simp at b; omega
    omega
/-! the dict of numbers -/
def DN (kvs : List (Key × V)) (names : List Int) : Prop := kvs.length = names.length ∧ ∀ v : Int, valV kvs (Sum.inl v : Key) = if v ∈ names then some (.int (names.idxOf v : Nat)) else none
theorem DN.nil : DN [] [] := ⟨rfl, fun v => by rw [if_neg (by simp)]; rfl⟩
theorem DN.in {kvs : List (Key × V)} {names : List Int} (h : DN kvs names) {v : Int} (hv : v ∈ names) : valV kvs (Sum.inl v : Key) = some (.int (names.idxOf v : Nat)) := by rw [h.2, if_pos hv]
theorem DN.out {kvs : List (Key × V)} {names : List Int} (h : DN kvs names) {v : Int} (hv : v ∉ names) : valV kvs (Sum.inl v : Key) = none := by rw [h.2, if_neg hv]
theorem DN.put {kvs : List (Key × V)} {names : List Int} (h : DN kvs names) {v : Int} (hv : v ∉ names) : DN (putK kvs (Sum.inl v : Key) (.int (kvs.length : Nat))) (names ++ [v]) := by
  refine ⟨?_, fun u => ?_⟩
  · rw [putK_new _ (h.out hv), List.length_append, List.length_append, h.1]
    rfl
  · rw [valV_put]
    by_cases e : u = v
    · subst e
      rw [if_pos rfl, if_pos (by simp), idx_new hv, h.1]
    · rw [if_neg (fun z => e (Sum.inl.inj z)), h.2]
      by_cases hu : u ∈ names
      · rw [if_pos hu, if_pos (List.mem_append_left _ hu), idx_append hu]
      · rw [if_neg hu, if_neg]
        intro z
        rcases List.mem_append.mp z with z | z
        · exact hu z
        · simp at z
          exact e z
end Sb

/-! len(set(xs)), xs a list of ints and texts. -/
namespace Sb
open PySem PySem.Spec PyProof.Rows L2
section
variable {prog : Program} {w : World} {A : Around} {E : Value → Shared → Prop} {s : Shared}
theorem call_set_listM {l : Addr} {items : Array Value} {xs : List Key} {Q : Value → Shared → Prop}
    (hh : A.handled = none) (hl : s.heap.IsList l items) (hi : Vals (xs.map kV) items.toList) (hn1 : xs.length ≤ 50)
    (h : ∀ (h' : Heap) (tk : Nat), h'.SetOf (mixKind prog w) s.heap.objs.size (fun k' => decide (k' ∈ uniqK (xs.take items.size))) (uniqK (xs.take items.size)).length →
      (∀ b o, b < s.heap.objs.size → s.heap.get? b = some o → h'.get? b = some o) → Q (.ref s.heap.objs.size) { s with heap := h', toks := tk }) :
    wpAny (model prog w) A (call (.type "set") [.ref l]) Q E s := by
  obtain ⟨c, tl, hmro⟩ := PySem.F.called_set.mro
  have hmade := PySem.F.called_set.made
  have hsub := PySem.F.called_set.sub
  refine wpAny_call (codeAny_of_tree ?_)
  show wpAny _ _ (callAny (.type "set") _) _ _ _
  refine wpAny_pure ⟨Code.quiet_builtin _ (by decide +kernel), codeAny_builtin PySem.F.entry_type_call ?_⟩
  rw [Around.under_plain (weight_type_call_type "set" [.ref l] []) rfl]
  have h1 := PySem.F.called_set.notType
  have h2 := PySem.F.called_set.canCreate
  have hct := PySem.F.typeCall_set_1 (.ref l)
  repeat (any_goals (first | assumption | wp_step))
  refine codeAny_mono (code_set_new_1 (.ref l) (E := E) (Q₁ := fun obj s₁ => ∃ led : Bool, obj = .ref s.heap.objs.size ∧ s₁ = { s with heap := s.heap.push { cls := .type "set", dict := none, data := .set #[] 0 (.fresh 0 0 led) } }) fun led => ⟨led, rfl, rfl⟩) fun r s₁ hr => ?_
  cases r with
  | error e => exact hr
  | ok fl =>
    cases fl with
    | ret obj =>
      obtain ⟨led, rfl, rfl⟩ := hr
      have hS : (s.heap.push { cls := .type "set", dict := none, data := .set #[] 0 (.fresh 0 0 led) }).get? s.heap.objs.size = some { cls := .type "set", dict := none, data := .set #[] 0 (.fresh 0 0 led) } := Heap.get?_push_size _ rfl
      have hT : Shared.TypeIs { s with heap := s.heap.push { cls := .type "set", dict := none, data := .set #[] 0 (.fresh 0 0 led) } } (.ref s.heap.objs.size) "set" := ⟨_, hS, rfl⟩
      have hli := PySem.F.called_set.init.lookup
      have hbi := PySem.F.called_set.init.bind (.ref s.heap.objs.size)
      repeat (any_goals (first | assumption | wp_step))
      refine codeAny_mono (codeAny_call_builtin (R := wants (fun r s₂ => r = .none ∧ ∃ h' tk, s₂ = { s with heap := h', toks := tk } ∧
          h'.SetOf (mixKind prog w) s.heap.objs.size (fun k' => decide (k' ∈ uniqK (xs.take items.size))) (uniqK (xs.take items.size)).length ∧
          (∀ b o, b < s.heap.objs.size → s.heap.get? b = some o → h'.get? b = some o)) E) PySem.F.called_set.init.plain PySem.F.entry_set_init (check_set_init_1 hT ?_)) fun r₂ s₂ hr₂ => ?_
      · obtain ⟨ol, hol, hcl, nl, hdl⟩ := hl
        obtain ⟨ocls, odict, odata, oslots⟩ := ol
        simp only at hcl hdl
        subst hcl; subst hdl
        have hol' : (s.heap.push { cls := .type "set", dict := none, data := .set #[] 0 (.fresh 0 0 led) }).get? l = some { cls := .type "list", dict := odict, data := .seq items nl, slots := oslots } := Heap.get?_push_of_some _ hol
        have hsls := PySem.F.sub_list_set
        have hslf := PySem.F.sub_list_frozenset
        have hne : (Value.type "list" == Value.type "dict") = false := by decide
        have hl1 : (s.heap.push { cls := .type "set", dict := none, data := .set #[] 0 (.fresh 0 0 led) }).IsList l items := ⟨_, hol', rfl, nl, rfl⟩
        unfold Builtin.«set.__init__» noKeywords Builtin.Frozenset.updateFrom
        generalize hPI : pyIter = PI
        wp_walk
        subst hPI
        refine wpAny_pyIter_list hl1 ?_
        refine wpAny_bind (wpAny_runValue ?_)
        have hlS : l < s.heap.objs.size := Heap.lt_size hol
        have hh3 : A.in1.in1.in1.handled = none := by simp [hh]
        have hneI : l ≠ (s.heap.push { cls := .type "set", dict := none, data := .set #[] 0 (.fresh 0 0 led) }).objs.size := by
          rw [Heap.size_push]; exact Nat.ne_of_lt (Nat.lt_succ_of_lt hlS)
        have hSf : s.heap.objs.size ∉ [(s.heap.push { cls := .type "set", dict := none, data := .set #[] 0 (.fresh 0 0 led) }).objs.size, l] := by
          rw [Heap.size_push]; simp only [List.mem_cons, List.mem_singleton, List.not_mem_nil, or_false, not_or]
          exact ⟨Nat.ne_of_lt (Nat.lt_succ_self _), Nat.ne_of_gt hlS⟩
        have hsz : xs.length = items.size := by rw [← Array.length_toList, ← hi.length, List.length_map]
        have hval : ∀ (i : Nat) (v : Value), items[i]? = some v → ∃ k, xs[i]? = some k ∧ RelV (kV k) v := fun i v hv => by
          have hlt : i < items.size := (Array.getElem?_eq_some_iff.mp hv).1
          have hlx : i < xs.length := by omega
          refine ⟨xs[i], List.getElem?_eq_getElem hlx, ?_⟩
          obtain ⟨w', hw, rw'⟩ := hi.get (i := i) (x := kV xs[i]) (by rw [List.getElem?_map, List.getElem?_eq_getElem hlx]; rfl)
          rw [Array.getElem?_toList] at hw
          rw [hv] at hw
          cases hw
          exact rw'
        refine loopMix ((Walks.list hh3 _ l hneI items).toS) s.heap.objs.size
          hSf xs hsz (by rw [← hsz]; exact hn1) hval (items.size - 0) 0 _ (by omega) (Nat.zero_le _)
          ⟨⟨_, Heap.get?_push_size _ rfl, rfl, rfl⟩, (hl1.push _)⟩ ?hS0 ?hR
        case hS0 =>
          have hget : ((s.heap.push { cls := .type "set", dict := none, data := .set #[] 0 (.fresh 0 0 led) }).push { cls := .type "list_iterator", data := .fields #[.ref l, .int 0 0] }).get? s.heap.objs.size
              = some { cls := .type "set", dict := none, data := .set #[] 0 (.fresh 0 0 led) } := Heap.get?_push_of_some _ hS
          exact ⟨_, #[], 0, _, hget, ⟨rfl, rfl, rfl⟩, rfl, (fun e he => by simp at he), (fun k => by simp [uniqK]), (by decide), (by rfl), rfl⟩
        case hR =>
          intro s' hm hS'
          obtain ⟨h', g', d', tk', os'⟩ := s'
          have eg : g' = s.gens := hm.gens
          have ed : d' = s.drawn := hm.drawn
          have eo : os' = s.os := hm.os
          subst eg; subst ed; subst eo
          show wpAny _ _ _ _ _ _
          refine wpAny_pure ?_
          show wpAny _ _ (ret Value.none) _ _ _
          refine wpAny_pure ⟨rfl, h', tk', rfl, hS', fun b o hb e => ?_⟩
          have hb1 : b ≠ s.heap.objs.size := Nat.ne_of_lt hb
          have hb2 : b ≠ (s.heap.push { cls := .type "set", dict := none, data := .set #[] 0 (.fresh 0 0 led) }).objs.size := by
            rw [Heap.size_push]; exact Nat.ne_of_lt (Nat.lt_succ_of_lt hb)
          exact hm.heap b o (by simp only [List.mem_cons, List.mem_singleton, List.not_mem_nil, or_false, not_or]; exact ⟨hb1, hb2⟩) (Heap.get?_push_of_some _ (Heap.get?_push_of_some _ e))
      · cases r₂ with
        | error e => exact hr₂
        | ok fl₂ =>
          cases fl₂ with
          | ret r =>
            obtain ⟨rfl, h', tk, rfl, hS', hk'⟩ := hr₂
            repeat (any_goals (first | assumption | wp_step))
            exact h _ _ hS' hk'
          | _ => exact hr₂.elim
    | _ => exact hr.elim
end
section
variable {X : Cx}
def tLenSetL (K : PySem.W.Frag) (ta : TE) : TE := fun σ H Q => ta σ H fun x H1 => ∃ (l : Addr) (xs : List Key), x = .ref l ∧ SqL K H1 l (xs.map kV) ∧ xs.length ≤ 50 ∧ Q (.int (uniqK xs).length) H1
theorem pe_lenSetL {a : Expr} {ta : TE} {p p2 q pos : Pos} (hc : X.calm = true) (hg : Gl X "len") (hm : X.mg "len" = none) (hg2 : Gl X "set") (hm2 : X.mg "set" = none) (ha : PE X a ta)
    (na : starEach [a] X.env = (false, eval a X.env) :: starEach [] X.env := by rfl) : PE X (.Call (.Name "len" p) [.Call (.Name "set" p2) [a] [] q] [] pos) (tLenSetL X.K ta) := by
  refine ⟨fun pins s σ H Q I h => ?_⟩
  refine Call_ (ld_blt I hg hm boot_len ?_)
  refine PyProof.Rows.callWith_builtin1 (PyProof.Rows.args_cons ?_ rfl) rfl rfl
  refine Call_ (ld_blt I hg2 hm2 boot_set ?_)
  refine PyProof.Rows.callWith_type1 (PyProof.Rows.args_cons (thn (ha.run pins s σ H _ I h) fun v s1 ⟨x, H1, I1, r1, q1⟩ => PyProof.Rows.args_nil ?_) na) na rfl
  obtain ⟨l, xs, rfl, hq, h1, q1⟩ := q1
  cases r1
  obtain ⟨its, r, pl, hz⟩ := I1.list hq
  refine call_set_listM (I1.ok.hd hc) pl.isList (by simpa using r) h1 fun h' tk hS hk => ?_
  refine PyProof.Rows.args_nil ?_
  have hl : its.toArray.size = xs.length := by rw [List.size_toArray, ← r.length, List.length_map]
  rw [hl, List.take_length] at hS
  obtain ⟨o, es, ep, t, ho, hex, hd, _, _, _, hf, hn⟩ := hS
  have I2 : L2.Inv X pins σ H1 { s1 with heap := h', toks := tk } := I1.kept fun b o e => hk b o (Heap.lt_size e) e
  have lu := (uniqK_len _ xs rfl).1
  refine call_len_set ho hex hd hf (by rw [hn] <;> omega) ⟨.int (uniqK xs).length, H1, I2.tok _, ⟨_, by rw [hn]⟩, q1⟩
end
end Sb

/-! Dicts with tuple keys: against the empty one, shown, displayed; a dict against a text. -/
namespace Sb
open PySem PySem.Spec PyProof.Rows L2
section
variable {prog : Program} {w : World} {A : Around} {E : Value → Shared → Prop} {s : Shared}
theorem samePairs_empty {nm : String} {a b : Addr} {oa ob : Obj} {es es' : Array DictEntry} {ep ep' : Nat} {Q : Bool → Shared → Prop} (ha : (a == sysModules) = false) (hb : (b == sysModules) = false)
    (hoa : s.heap.get? a = some oa) (hda : oa.data = .dict es ep) (hob : s.heap.get? b = some ob) (hdb : ob.data = .dict es' ep') (h0 : es'.size = 0) (h : Q (decide (es.size = 0)) s) :
    wpAny (model prog w) A (Builtin.Dict.samePairs nm a b) Q E s := by
  unfold Builtin.Dict.samePairs Builtin.Dict.showsAll
  rw [if_neg (show ¬ (a == sysModules) = true by rw [ha]; exact Bool.false_ne_true), if_neg (show ¬ (b == sysModules) = true by rw [hb]; exact Bool.false_ne_true)]
  refine wpAny_bind (wpAny_pure (wpAny_bind (wpAny_pure ?_)))
  refine wpAny_bind (wpAny_dictEntries hoa hda ?_)
  dsimp only
  refine wpAny_bind (wpAny_dictEntries hob hdb ?_)
  by_cases hsz : es.size = 0
  case neg =>
    rw [if_pos (by simp [h0, hsz])]
    rw [decide_eq_false hsz] at h
    exact wpAny_bind (wpAny_rule (wpAny_pure h))
  case pos =>
    rw [decide_eq_true hsz] at h
    rw [if_neg (by rw [hsz, h0]; simp)]
    refine wpAny_bind (wpAny_dictEpoch hoa hda ?_)
    refine wpAny_bind ?_
    rw [Std.Legacy.Range.forIn_eq_forIn_range']
    simp only [Std.Legacy.Range.size, Nat.sub_zero, Nat.add_sub_cancel, Nat.div_one]
    rw [hsz]
    exact wpAny_pure (wpAny_pure h)
theorem rc_dictE {neg : Bool} {a b : Addr} {oa ob : Obj} {es es' : Array DictEntry} {ep ep' : Nat} {Q : Value → Shared → Prop} (ha : (a == sysModules) = false) (hb : (b == sysModules) = false)
    (hoa : s.heap.get? a = some oa) (hca : oa.ExactDict) (hda : oa.data = .dict es ep) (hob : s.heap.get? b = some ob) (hcb : ob.ExactDict) (hdb : ob.data = .dict es' ep') (h0 : es'.size = 0) (hu : A.units < cLine) (h : Q (.bool (if neg then !decide (es.size = 0) else decide (es.size = 0))) s) :
    wpAny (model prog w) A (compareOp (if neg then .NotEq else .Eq) (.ref a) (.ref b)) Q E s := by
  have ta : s.TypeIs (.ref a) "dict" := ⟨oa, hoa, hca.1⟩
  have tb : s.TypeIs (.ref b) "dict" := ⟨ob, hob, hcb.1⟩
  cases neg with
  | false =>
    refine wpAny_richCompare_same_room (op := .Eq) ta tb PySem.F.slot_dict_eq (wpAny_call_entry PySem.F.slot_dict_eq ta PySem.F.entry_dict_eq ?_ (PySem.F.args_dict_eq_2 _ _)) hu
    show wpAny _ _ (Builtin.Dict.dictSlotArgs "__eq__" ⟨[.ref a, .ref b], []⟩ >>= _) _ _ s
    refine wpAny_bind ?_
    unfold Builtin.Dict.dictSlotArgs
    refine wpAny_bind (wpAny_notOrdered_dict ta ?_)
    show wpAny _ _ (pure (Value.ref a, Value.ref b)) _ _ s
    refine wpAny_pure ?_
    refine wpAny_bind (wpAny_isInstance (T := "dict") tb PySem.F.sub_dict_dict ?_)
    simp only [Bool.not_true, Bool.false_eq_true, if_false]
    refine wpAny_bind (wpAny_pure (wpAny_bind (wpAny_pure ?_)))
    refine wpAny_bind (samePairs_empty ha hb hoa hda hob hdb h0 ?_)
    refine wpAny_pure ⟨_, rfl, ?_, ?_⟩
    · exact fun x => nomatch x
    · simpa using h
  | true =>
    refine wpAny_richCompare_same_room (op := .NotEq) ta tb PySem.F.slot_dict_ne (wpAny_call_entry PySem.F.slot_dict_ne ta PySem.F.entry_dict_ne ?_ (PySem.F.args_dict_ne_2 _ _)) hu
    show wpAny _ _ (Builtin.Dict.dictSlotArgs "__ne__" ⟨[.ref a, .ref b], []⟩ >>= _) _ _ s
    refine wpAny_bind ?_
    unfold Builtin.Dict.dictSlotArgs
    refine wpAny_bind (wpAny_notOrdered_dict ta ?_)
    show wpAny _ _ (pure (Value.ref a, Value.ref b)) _ _ s
    refine wpAny_pure ?_
    refine wpAny_bind (wpAny_isInstance (T := "dict") tb PySem.F.sub_dict_dict ?_)
    simp only [Bool.not_true, Bool.false_eq_true, if_false]
    refine wpAny_bind (wpAny_pure (wpAny_bind (wpAny_pure ?_)))
    refine wpAny_bind (samePairs_empty ha hb hoa hda hob hdb h0 ?_)
    refine wpAny_pure ⟨_, rfl, ?_, ?_⟩
    · exact fun x => nomatch x
    · simpa using h
theorem dict_eq_str (l : Addr) (o : Obj) (b : Str) (u : Tok) {Q : Value → Shared → Prop} (ho : s.heap.get? l = some o) (hc : o.ExactDict) (hq : Q .notImplemented s) : wpAny (model prog w) A (call (.builtin "dict.__eq__") [.ref l, .str b u]) Q E s := by
  have ta : s.TypeIs (.ref l) "dict" := ⟨o, ho, hc.1⟩
  refine wpAny_call_entry PySem.F.slot_dict_eq ta PySem.F.entry_dict_eq ?_ (PySem.F.args_dict_eq_2 _ _)
  show wpAny _ _ (Builtin.Dict.dictSlotArgs "__eq__" ⟨[.ref l, .str b u], []⟩ >>= _) _ _ s
  refine wpAny_bind ?_
  unfold Builtin.Dict.dictSlotArgs
  refine wpAny_bind (wpAny_notOrdered_dict ta ?_)
  show wpAny _ _ (pure (Value.ref l, Value.str b u)) _ _ s
  refine wpAny_pure ?_
  refine wpAny_bind (wpAny_isInstance (T := "str") (typeIs_str s b u) PySem.F.sub_str_dict ?_)
  exact wpAny_bind (wpAny_rule (wpAny_pure ⟨_, rfl, hq⟩))
theorem str_eq_obj (b : Str) (u : Tok) (l : Addr) (c : Value) (es : Array DictEntry) (ep : Nat) (dd : Option Addr) (sl : Array (Option Value)) :
    Meets (Builtin.«str.__eq__» ⟨[.str b u, .ref l], []⟩) (fun _ R s => s.heap.get? l = some { cls := c, dict := dd, data := .dict es ep, slots := sl } ∧ R (.ok (.ret .notImplemented)) s) :=
  .of_wp fun prog w A R s h => by obtain ⟨hp, g, d, tk, os⟩ := s; obtain ⟨hl, h⟩ := h; wp_walk using wpAny_loadPart' hl, wpAny_load hl; exact ⟨_, rfl, h⟩
theorem rc_dict_str {l : Addr} {o : Obj} {es : Array DictEntry} {ep : Nat} (b : Str) (u : Tok) (ho : s.heap.get? l = some o) (hc : o.ExactDict) (hd : o.data = .dict es ep) (hu : A.units < cLine) {Q : Value → Shared → Prop} (h : Q (.bool false) s) : wpAny (model prog w) A (compareOp .Eq (.ref l) (.str b u)) Q E s := by
  obtain ⟨cls, dd, data, sl⟩ := o
  simp only at hd
  subst hd
  exact SeqAt.rc_eq_decline_or (k := false) ⟨_, ho, hc.1⟩ (typeIs_str s b u) (by decide) PySem.F.sub_str_dict PySem.F.slot_dict_eq PySem.F.slot_str_eq_refl
    (fun _ hq => dict_eq_str l _ b u ho hc hq)
    (fun _ hq => call_meets PySem.F.slot_str_eq_refl (typeIs_str s b u) PySem.F.entry_str_eq (PySem.F.args_str_eq_2 _ _) (str_eq_obj b u l cls es ep dd sl) ⟨ho, hq⟩)
    (fun _ hq => wpAny_of_eq (rfl : isSame (.ref l) (.str b u) = pure false) hq) (.inr hu) h
end
section
variable {X : Cx}
/-- x == {}, x != {} -/
def rDE (neg : Bool) : R2 := fun x y H Q => ∃ a b kvs, x = .ref a ∧ y = .ref b ∧ H a = some (.dT kvs) ∧ (H b = some (.dK []) ∨ H b = some (.dT [])) ∧ Q (.bl (if neg then !decide (kvs.length = 0) else decide (kvs.length = 0))) H
theorem op_dE {neg : Bool} (hu : X.A.units + 64 < cLine) : OpR X (compareOp (if neg then .NotEq else .Eq)) (rDE neg) := by
  intro pins s σ H x y v u Q I rx ry h
  obtain ⟨a, b, kvs, rfl, rfl, ha, hb, q⟩ := h
  cases rx
  cases ry
  obtain ⟨z, low, xs, rel, o, es, ep, ho, ex, hd, pr, _⟩ := dt_of I.hok ha
  have l1 : es.size = kvs.length := by
    have : es.toList.length = xs.length := by rw [pr, List.length_map]
    rw [Array.length_toList] at this
    rw [this, ← Paired.length rel]
  obtain ⟨lowb, ob, es', ep', hob, exb, hdb, l2⟩ : (b == sysModules) = false ∧ ∃ ob es' ep', s.heap.get? b = some ob ∧ ob.ExactDict ∧ ob.data = .dict es' ep' ∧ es'.size = 0 := by
    rcases hb with hb | hb
    · obtain ⟨_, low, vs, rel, o, es, ep, ho, ex, hd, _, pr, _⟩ := dk_of I.hok hb
      cases rel
      have hes : es.toList = [] := List.eq_nil_of_length_eq_zero (Pairs.length pr)
      exact ⟨low, o, es, ep, ho, ex, hd, by rw [← Array.length_toList, hes]; rfl⟩
    · obtain ⟨_, low, xs, rel, o, es, ep, ho, ex, hd, pr, _⟩ := dt_of I.hok hb
      cases rel
      have hes : es.toList = [] := pr
      exact ⟨low, o, es, ep, ho, ex, hd, by rw [← Array.length_toList, hes]; rfl⟩
  refine rc_dictE low lowb ho ex hd hob exb hdb l2 (by omega) ⟨.bl _, H, I, rfl, ?_⟩
  rw [l1]
  exact q
/-- x == text, x of any kind -/
def rEqS' : R2 := fun x y H Q => ∃ p d z, LD p H x d ∧ y = .str z ∧ Q (.bl (isStrD d z)) H
theorem op_eqS' (hu : X.A.units + 64 < cLine) : OpR X (compareOp .Eq) rEqS' := by
  intro pins s σ H x y v u Q I rx ry h
  obtain ⟨p, d, z, hx, rfl, q⟩ := h
  by_cases hd : isDctD d = false
  · exact op_eqS hu pins s σ H _ _ v u Q I rx ry ⟨p, d, z, hx, hd, rfl, q⟩
  · obtain ⟨tz, rfl⟩ := ry
    cases hx with
    | @dic a n e =>
      cases rx
      obtain ⟨_, low, vs, rel, o, es, ep, ho, ex, hdt, _⟩ := dk_of I.hok e
      exact rc_dict_str z tz ho ex hdt (by omega) ⟨.bl _, H, I, rfl, q⟩
    | @dct a n e =>
      cases rx
      obtain ⟨_, low, xs, rel, o, es, ep, ho, ex, hdt, _⟩ := dt_of I.hok e
      exact rc_dict_str z tz ho ex hdt (by omega) ⟨.bl _, H, I, rfl, q⟩
    | _ => exact absurd rfl hd
end
end Sb

/-! Dicts with tuple keys: shown; a display of one pair. -/
namespace Sb
open PySem PySem.Spec PyProof.Rows L2
def keyD : Key → PyData
  | .inl n => .int n
  | .inr s => .str s
theorem ld_keys {p : Addr} {H : Hp} : ∀ ks : List Key, LDs p H (ks.map kV) (ks.map keyD)
  | [] => .nil
  | .inl n :: r => .cons (.int n) (ld_keys r)
  | .inr s :: r => .cons (.str s) (ld_keys r)
def rowsD (R : List (List Key × PyData)) : List (PyData × PyData) := R.map fun p => (.tuple (p.1.map keyD), p.2)
section
variable {X : Cx} {pins : List (Addr × Obj)} {σ : L2.St} {H : Hp} {s : Shared}
theorem reads_rows (I : L2.Inv X pins σ H s) {p : Addr} (hp : ∀ xs, H p ≠ some (.tup xs)) : ∀ {kvs : List (List Key × V)} {R : List (List Key × PyData)} {xs : List KRow}, Paired (fun p q => p.1 = q.1 ∧ TD H p.2 q.2) kvs R → KT H kvs xs →
    (∃ as, ReadsAll s.heap (xs.map fun x => Value.ref x.2.1) ((rowsD R).map (·.1)) as ∧ sysModules ∉ as) ∧ ∃ bs, ReadsAll s.heap (xs.map fun x => x.2.2) ((rowsD R).map (·.2)) bs ∧ sysModules ∉ bs
  | _, _, _, .nil, h => by
    cases h
    exact ⟨⟨_, .nil, List.not_mem_nil⟩, ⟨_, .nil, List.not_mem_nil⟩⟩
  | _, _, _, .cons (a := u) (b := w) ab r, h => by
    cases h with
    | @cons _ x _ _ c t =>
      obtain ⟨⟨as, h1, n1⟩, ⟨bs, h2, n2⟩⟩ := reads_rows I hp r t
      have hx : H x.2.1 = some (.tup (u.1.map kV)) := c.2.1
      have nx : x.2.1 ≠ p := fun e => hp _ (e ▸ hx)
      obtain ⟨as', q1, m1⟩ := LD.reads I (.tuple (u.1.map keyD)) (.ref x.2.1) (.ref x.2.1) (.tup nx hx (ld_keys u.1)) rfl
      obtain ⟨bs', q2, m2⟩ := LD.reads I w.2 u.2 x.2.2 (TD.ld hp _ ab.2) c.2.2
      rw [ab.1] at q1
      refine ⟨⟨_, .cons q1 h1, fun z => ?_⟩, ⟨_, .cons q2 h2, fun z => ?_⟩⟩
      · rcases List.mem_append.mp z with z | z
        · exact m1 z
        · exact n1 z
      · rcases List.mem_append.mp z with z | z
        · exact m2 z
        · exact n2 z
theorem reads_dT (I : L2.Inv X pins σ H s) {a : Addr} {kvs : List (List Key × V)} {R : List (List Key × PyData)} (hd : H a = some (.dT kvs)) (hk : Paired (fun p q => p.1 = q.1 ∧ TD H p.2 q.2) kvs R) : ∃ as, Reads s.heap (.ref a) (.dict (rowsD R)) as ∧ sysModules ∉ as := by
  obtain ⟨_, low, xs, rel, o, es, ep, ho, ex, hdt, pr, _⟩ := dt_of I.hok hd
  obtain ⟨⟨as, h1, n1⟩, ⟨bs, h2, n2⟩⟩ := reads_rows I (p := a) (fun xs z => by rw [hd] at z; cases z) hk rel
  refine ⟨_, Reads.dict ho ex.1 hdt (as := as) (bs := bs) ?_ ?_, fun z => ?_⟩
  · rw [pr, List.map_map]
    exact h1
  · rw [pr, List.map_map]
    exact h2
  · have z' : sysModules = a ∨ sysModules ∈ as ∨ sysModules ∈ bs := by simpa using z
    rcases z' with z' | z' | z'
    · rw [← z'] at low
      simp at low
    · exact n1 z'
    · exact n2 z'
end
section
variable {X : Cx}
/-- repr of a dict with tuple keys -/
def rReprT : List V → Hp → VK → Prop := fun xs H Q => ∃ (a : Addr) (kvs : List (List Key × V)) (R : List (List Key × PyData)), xs = [.ref a] ∧ H a = some (.dT kvs) ∧ Paired (fun p q => p.1 = q.1 ∧ TD H p.2 q.2) kvs R ∧
  (PyData.dict (rowsD R)).showable = true ∧ (PyData.dict (rowsD R)).depth ≤ 60 ∧ (PyData.dict (rowsD R)).shown.length ≤ sizeLine ∧ Q (.str (PyData.dict (rowsD R)).shown) H
theorem call_reprT (gd : X.A.guards = some []) (hu : X.A.units + 64 < cLine) : CallR X (.builtin "repr") rReprT := by
  intro pins s σ H xs us Q I r h
  obtain ⟨a, kvs, R, rfl, ha, hk, hs, hd, hz, q⟩ := h
  obtain ⟨u, rfl, ru⟩ := vals1 r
  obtain rfl : u = Value.ref a := ru
  obtain ⟨as, rd, low⟩ := reads_dT I ha hk
  exact repr_of_reads' rd hs (fun _ => low) gd (by omega) (fun _ _ z => z) (fun h' u' tk hk => ⟨.str _, H, I.kept (fun b o z => hk b o z), ⟨_, rfl⟩, q⟩) hz
/-- {k: v}, k a tuple -/
def tDispT (tk tv : TE) : TE := fun σ H Q => ∀ p, H p = none → tk σ (upd H p (.dT [])) fun x H1 => tv σ H1 fun y H2 => ∃ k b, x = .ref b ∧ H2 b = some (.tup (k.map kV)) ∧ H2 p = some (.dT []) ∧ Q (.ref p) (upd H2 p (.dT [(k, y)]))
theorem pe_dispT {k v : Expr} {pos : Pos} {tk tv : TE} (hu : X.A.units + 1 < cLine) (hk : PE X k tk) (hv : PE X v tv) : PE X (.Dict [some k] [v] pos) (tDispT tk tv) := by
  refine ⟨fun pins s σ H Q I q => ?_⟩
  have hn := I.hok.fresh (Nat.le_refl s.heap.objs.size)
  have I1 := I.laid (a := s.heap.objs.size) (o := .dT []) (h' := s.heap.push { cls := .type "dict", data := .dict #[] }) (t' := s.toks) (fun _ _ q => Heap.get?_push_of_some _ q) (Nat.le_refl _) (dt_empty s.heap I.big)
  rw [arm_eval_Dict, zip_pairTrees [some k] [v] X.env pos rfl rfl, dictDisplay_pairs (pairTrees [some k] [v] X.env pos) (by intro z; cases z) (by rw [pairTrees_length [some k] [v] X.env pos rfl rfl]; show 1 < 17; decide)]
  refine wpAny_bind (wpAny_standAt (wpAny_bind (wpAny_subDictH (knd := tupleKind (mixKind X.prog X.w)) (Q := fun d s' => wpAny (model X.prog X.w) X.A (pure (Value.ref d)) _ _ s') (show X.A.units < cLine by omega) (by rw [pairTrees_length [some k] [v] X.env pos rfl rfl]; show 1 ≤ 15; decide) ?_)))
  refine pairTrees_cons_walk (thn (hk.run pins _ σ _ _ I1 (q _ hn)) fun u s1 ⟨x, H1, I2, rx, q1⟩ => thn (hv.run pins s1 σ H1 _ I2 q1) fun w2 s2 ⟨y, H2, I3, ry, kk, b, ex, hb, hd, q2⟩ => pairTrees_nil_walk ?_)
  subst ex
  obtain rfl : u = Value.ref b := rx
  obtain ⟨z, low, xs, rel, dd⟩ := dt_of I3.hok hd
  cases rel
  refine ⟨[(kk, b, w2)], ⟨rfl, rfl, key_of I3.hok hb, trivial⟩, dd, fun h' tk' dd' hs => wpAny_pure ⟨.ref s.heap.objs.size, _, ?_, rfl, q2⟩⟩
  obtain ⟨qo, es, ep, g1, g2, g3, g4, _, g5⟩ := dd'
  refine d_write I3 (by rw [hd]; trivial) hs ⟨qo, g1⟩ ⟨by show 1 ≤ sizeLine; decide, low, [(kk, b, w2)], .cons ⟨rfl, ?_, ry⟩ .nil, qo, es, ep, g1, g2, g3, g4, g5⟩
  rw [upd_ne (ne_of hb hd fun z => nomatch z)]
  exact hb
end
end Sb

/-! A list's display whose list is no module's table. -/
namespace Sb
open PySem PySem.Spec PyProof.Rows L2
section
variable {X : Cx}
def tLstS (t : TA) : TE := fun σ H Q => t σ H fun xs H1 => xs.length ≤ sizeLine ∧ ∀ (p : Addr), H1 p = none → p ≠ sysModules → Q (V.ref p) (upd H1 p (HO.lst xs))
theorem pe_lstS {es : List Expr} {t : TA} {pos : Pos} (h : PA X es t) : PE X (.List es pos) (tLstS t) := by
  refine ⟨fun pins s σ H Q I q => ?_⟩
  rw [arm_eval_List]
  refine wpAny_bind (wpAny_standAt (wpAny_bind (thn (h.run pos pins s σ H _ I q) fun vs s1 ⟨xs, H1, I1, r1, hz, q1⟩ => ?_)))
  have lv : vs.toArray.size = xs.length := by rw [List.size_toArray, r1.length]
  show wpAny _ _ (if vs.toArray.size > sizeLine then _ else newObjAsIs (Value.type "list") (Data.seq vs.toArray)) _ _ _
  rw [if_neg (by rw [lv]; omega)]
  unfold newObjAsIs
  refine wpAny_bind (wpAny_alloc ?_)
  refine wpAny_pure ?_
  have kp : ∀ b o, s1.heap.get? b = some o → (s1.heap.push { cls := .type "list", data := .seq vs.toArray }).get? b = some o := fun _ _ e => Heap.get?_push_of_some _ e
  exact ⟨.ref s1.heap.objs.size, _, I1.laid (t' := s1.toks) kp (Nat.le_refl _) (show ObjOk X.prog X.w _ _ _ (.lst xs) from ⟨hz, vs, _, r1, by first | rfl | exact Heap.get?_push_size _ rfl⟩), rfl, q1 _ (I1.hok.fresh (Nat.le_refl _)) (Nat.ne_of_gt I1.big)⟩
/-- l != [] -/
def rNeL0 : R2 := fun x y H Q => ∃ a b xs, x = .ref a ∧ y = .ref b ∧ H a = some (.lst xs) ∧ H b = some (.lst []) ∧ Q (.bl (!xs.isEmpty)) H
theorem op_neL0 (hu : X.A.units + 64 < cLine) : OpR X (compareOp .NotEq) rNeL0 := by
  intro pins s σ H x y v u Q I rx ry h
  obtain ⟨a, b, xs, rfl, rfl, ha, hb, q⟩ := h
  cases rx
  cases ry
  obtain ⟨its, r1, t1, _⟩ := I.list (SqL.of (K := X.K) ha)
  obtain ⟨its2, r2, t2, _⟩ := I.list (SqL.of (K := X.K) hb)
  cases r2
  cases xs with
  | nil =>
    cases r1
    refine SeqAt.RcNeAt.lists (e := fun _ => true) t1.isList t2.isList rfl (by omega) (fun j _ h2 => absurd h2 (Nat.not_lt_zero _)) X.prog X.w X.xe (EP X pins σ Q) ⟨.bl _, H, I, rfl, q⟩
  | cons z zs =>
    cases r1
    refine SeqAt.RcNeAt.lists_lengths t1.isList t2.isList (by rfl) (by omega) X.prog X.w X.xe (EP X pins σ Q) ⟨.bl _, H, I, rfl, q⟩
end
end Sb

/-! Dicts with tuple keys: del, pop, clear. -/
namespace Sb
open PySem PySem.Spec PyProof.Rows L2
theorem meetsDelT {K : Type} [DecidableEq K] {prog : Program} {w : World} {knd : HeapKind prog w K} {d b : Addr} {k : K} :
    MeetsIn prog w (Builtin.«dict.__delitem__» ⟨[.ref d, .ref b], []⟩) fun A R s => ∃ xs p, knd.room A.in1 ∧ knd.is s.heap k b ∧ Heap.DictOfH knd s.heap d xs ∧ xs.length ≤ sizeLine ∧ atKey xs k = some p ∧
      ∀ (h' : Heap) (tk : Nat), Heap.DictOfH knd h' d (DT.dropH xs k) → Heap.SameBut d s.heap h' → R (.ok (.ret .none)) { s with heap := h', toks := tk } :=
  MeetsIn.of_wp fun A R s ⟨xs, p, hu, hk, hm, hz, hp, q⟩ => by
    show wpAny _ _ (Builtin.Dict.dictSlotArgs "__delitem__" ⟨[.ref d, .ref b], []⟩ >>= _) _ _ s
    refine wpAny_bind ?_
    unfold Builtin.Dict.dictSlotArgs
    refine wpAny_bind (wpAny_notOrdered_dict (Heap.DictOfH.typeIs hm) ?_)
    show wpAny _ _ (pure (Value.ref d, Value.ref b)) _ _ s
    refine wpAny_pure ?_
    refine wpAny_bind (wpAny_pure ?_)
    refine wpAny_bind (DT.takeH hu hk hm hz (fun z => by rw [hp] at z; cases z) fun p' e hp' ev h' dd sb => ?_)
    refine wpAny_bind (wpAny_letGo ?_)
    exact wpAny_pure ⟨_, rfl, q _ _ dd sb⟩
theorem meetsPop1 {K : Type} [DecidableEq K] {prog : Program} {w : World} {knd : HeapKind prog w K} {d b : Addr} {k : K} :
    MeetsIn prog w (Builtin.«dict.pop» ⟨[.ref d, .ref b], []⟩) fun A R s => ∃ xs p, (d == sysModules) = false ∧ knd.room A.in1 ∧ knd.is s.heap k b ∧ Heap.DictOfH knd s.heap d xs ∧ xs.length ≤ sizeLine ∧ atKey xs k = some p ∧
      ∀ (h' : Heap) (tk : Nat), Heap.DictOfH knd h' d (DT.dropH xs k) → Heap.SameBut d s.heap h' → R (.ok (.ret p.2)) { s with heap := h', toks := tk } :=
  MeetsIn.of_wp fun A R s ⟨xs, p, hd, hu, hk, hm, hz, hp, q⟩ => by
    show wpAny _ _ (Builtin.Dict.keyAndDefault "pop" ⟨[.ref d, .ref b], []⟩ >>= _) _ _ s
    refine wpAny_bind ?_
    unfold Builtin.Dict.keyAndDefault
    refine wpAny_bind (wpAny_notOrdered_dict (Heap.DictOfH.typeIs hm) ?_)
    show wpAny _ _ (pure (d, Value.ref b, none)) _ _ s
    refine wpAny_pure ?_
    have hm2 := hm
    obtain ⟨o, es, ep, ho, hc, hdat, he, _, hn⟩ := hm2
    have hes := size_of_entries he
    have hx : xs ≠ [] := fun z => by
      rw [z] at hp
      cases hp
    have hne : es.isEmpty = false := by
      have : 0 < xs.length := List.length_pos_iff.mpr hx
      rw [Array.isEmpty_eq_false_iff]
      intro z
      rw [z] at hes
      simp at hes
      omega
    show wpAny _ _ (dictEntries d >>= _) _ _ s
    refine wpAny_bind (wpAny_dictEntries ho hdat (wpAny_bind (wpAny_pure ?_)))
    simp only [hne, Bool.false_eq_true, if_false]
    refine wpAny_bind (DT.takeH hu hk hm hz (fun z => by rw [hp] at z; cases z) fun p' e hp' ev h' dd sb => ?_)
    have ep' : p = p' := Option.some.inj (hp.symm.trans hp')
    subst ep'
    simp only [Option.isNone_some, Bool.false_eq_true, if_false]
    refine wpAny_bind (wpAny_letGo ?_)
    exact wpAny_pure ⟨_, rfl, by rw [ev]; exact q _ _ dd sb⟩
theorem meetsClearT {K : Type} [DecidableEq K] {prog : Program} {w : World} {knd : HeapKind prog w K} {d : Addr} :
    MeetsIn prog w (Builtin.«dict.clear» ⟨[.ref d], []⟩) fun A R s => ∃ xs, Heap.DictOfH knd s.heap d xs ∧
      ∀ (h' : Heap), Heap.DictOfH knd h' d [] → Heap.SameBut d s.heap h' → R (.ok (.ret .none)) { s with heap := h' } :=
  MeetsIn.of_wp fun A R s ⟨xs, hm, q⟩ => by
    show wpAny _ _ (Builtin.Dict.noArgs "clear" ⟨[.ref d], []⟩ >>= _) _ _ s
    refine wpAny_bind ?_
    unfold Builtin.Dict.noArgs
    refine wpAny_bind (wpAny_notOrdered_dict (Heap.DictOfH.typeIs hm) ?_)
    show wpAny _ _ (pure d) _ _ s
    refine wpAny_pure ?_
    obtain ⟨o, es, ep, ho, hc, hdat, he, hk, hn⟩ := hm
    refine wpAny_bind (wpAny_dictEntries ho hdat ?_)
    unfold bearsInstanceDictMark
    refine wpAny_bind (wpAny_bind (wpAny_load ho (wpAny_pure ?_)))
    refine wpAny_bind (wpAny_updateDictKeysTo ho hdat ?_ (Nat.zero_le _))
    have fin : R (.ok (.ret .none)) { s with heap := s.heap.update d (Obj.mapDictKeys fun _ => #[]) } := by
      obtain ⟨cls, dd, data, sl⟩ := o
      have e : data = .dict es ep := hdat
      subst e
      refine q _ ⟨Obj.mapDictKeys (fun _ => #[]) ⟨cls, dd, .dict es ep, sl⟩, #[], ep + 1, Heap.get?_update_self _ ho rfl, hc, rfl, rfl, (fun x z => by cases z), List.nodup_nil⟩ ⟨?_, fun b nb => Heap.get?_update_other _ _ (fun e => nb e.symm)⟩
      exact Heap.size_update _ _ _
    dsimp only
    split
    · exact wpAny_bind (wpAny_letGo (wpAny_pure ⟨_, rfl, fin⟩))
    · exact wpAny_pure ⟨_, rfl, fin⟩
section
variable {X : Cx}
/-- del d[k], k a tuple -/
def sDDelT (td ty : TE) : TS := fun D σ H => td σ H fun x H1 => ty σ H1 fun y H2 => ∃ a kvs k b, x = .ref a ∧ H2 a = some (.dT kvs) ∧ y = .ref b ∧ H2 b = some (.tup (k.map kV)) ∧ (valV kvs k).isSome = true ∧ D.nx σ (upd H2 a (.dT (dropK kvs k)))
theorem dt_drop {pins : List (Addr × Obj)} {σ : L2.St} {H : Hp} {s : Shared} {a : Addr} {kvs : List (List Key × V)} {k : List Key} {xs : List KRow} {h' : Heap} {tk : Nat} (I : L2.Inv X pins σ H s) (e : H a = some (.dT kvs)) (rel : KT H kvs xs) (dd : Heap.DictOfH (tupleKind (mixKind X.prog X.w)) h' a (DT.dropH xs k)) (hs : Heap.SameBut a s.heap h') :
    L2.Inv X pins σ (upd H a (.dT (dropK kvs k))) { s with heap := h', toks := tk } := by
  obtain ⟨z, hd, _, _, _⟩ := dt_of I.hok e
  have hq := dd
  obtain ⟨o, es, ep, h1, h2, h3, h4, h5, h6⟩ := hq
  refine d_write I (by rw [e]; trivial) hs ⟨o, h1⟩ ⟨Nat.le_trans (dropK_le kvs k) z, hd, DT.dropH xs k, KT.keeps (DX.KT_drop k rel) fun c ys ec => ?_, o, es, ep, h1, h2, h3, h4, h6⟩
  rw [upd_ne (ne_of ec e fun z => nomatch z)]
  exact ec
theorem at_of {H : Hp} {kvs : List (List Key × V)} {k : List Key} {xs : List KRow} (rel : KT H kvs xs) (h : (valV kvs k).isSome = true) : ∃ p v, atKey xs k = some p ∧ valV kvs k = some v ∧ L2.RelV v p.2 := by
  have r := KT.val rel k
  cases ev : valV kvs k with
  | none => rw [ev] at h; cases h
  | some v =>
    rw [ev] at r
    cases hp : atKey xs k with
    | none => rw [hp] at r; exact r.elim
    | some p =>
      rw [hp] at r
      exact ⟨p, v, rfl, rfl, r⟩
theorem ps_ddelT {o i : Expr} {pos tpos : Pos} {td ty : TE} (hu : X.A.units + 1 < cLine) (ho : PE X o td) (hi : PE X i ty) : PS X (.Delete [.Subscript o i tpos] pos) (sDDelT td ty) := by
  refine ⟨fun pins s σ H D I h => ?_⟩
  refine wpAny_Delete (wpAny_deleteEach_cons (wpAny_delete_Subscript (thn (ho.run pins s σ H _ I h) fun u s1 ⟨x, H1, I1, rx, q1⟩ => thn (hi.run pins s1 σ H1 _ I1 q1) fun iv s2 ⟨y, H2, I2, ry, a, kvs, k, b, ex, e, ey, eb, l, q2⟩ => ?_)))
  subst ex ey
  obtain rfl : u = Value.ref a := rx
  obtain rfl : iv = Value.ref b := ry
  obtain ⟨z, hd, xs, rel, dd⟩ := dt_of I2.hok e
  obtain ⟨p, v, hp, ev, rv⟩ := at_of rel l
  refine wpAny_delItem_slot (Heap.DictOfH.typeIs dd) (by decide) PySem.F.slot_dict_delitem (call_meetsIn PySem.F.slot_dict_delitem (Heap.DictOfH.typeIs dd) PySem.F.entry_dict_delitem (PySem.F.args_dict_delitem_2 _ _) meetsDelT ⟨xs, p, tupleKind_room_in1 hu, key_of I2.hok eb, dd, by rw [← Paired.length rel]; exact z, hp, fun h' tk dd' hs => ?_⟩)
  exact wpAny_deleteEach_nil ⟨σ, _, dt_drop I2 e rel dd' hs, q2⟩
/-- d.pop(k), k a tuple that is there -/
def rPop1 : V → List V → Hp → VK → Prop := fun x xs H Q => ∃ (a : Addr) (kvs : List (List Key × V)) (k : List Key) (b : Addr) (v : V), x = .ref a ∧ xs = [.ref b] ∧ H a = some (.dT kvs) ∧ H b = some (.tup (k.map kV)) ∧ valV kvs k = some v ∧ Q v (upd H a (.dT (dropK kvs k)))
theorem mt_pop1T (hu : X.A.units + 1 < cLine) : MtR X "dict.pop" rPop1 := by
  intro pins s σ H x xs v us Q I rx rxs h
  obtain ⟨a, kvs, k, b, v0, rfl, rfl, ha, hb, ev, q⟩ := h
  obtain ⟨u, rfl, ru⟩ := vals1 rxs
  obtain rfl : u = Value.ref b := ru
  obtain rfl : v = Value.ref a := rx
  obtain ⟨z, hd, xs', rel, dd⟩ := dt_of I.hok ha
  obtain ⟨p, v1, hp, ev1, rv⟩ := at_of rel (by rw [ev]; rfl)
  rw [ev] at ev1
  obtain rfl : v0 = v1 := Option.some.inj ev1
  refine call_meetsIn PySem.F.slot_dict_pop (Heap.DictOfH.typeIs dd) PySem.F.entry_dict_pop (PySem.F.args_dict_pop_2 _ _) meetsPop1 ⟨xs', p, hd, tupleKind_room_in1 hu, key_of I.hok hb, dd, by rw [← Paired.length rel]; exact z, hp, fun h' tk dd' hs => ?_⟩
  exact ⟨v0, _, dt_drop I ha rel dd' hs, rv, q⟩
/-- d.clear() -/
def rClearT : V → List V → Hp → VK → Prop := fun x xs H Q => ∃ (a : Addr) (kvs : List (List Key × V)), x = .ref a ∧ xs = [] ∧ H a = some (.dT kvs) ∧ Q .non (upd H a (.dT []))
theorem mtd_clearT : MtR X "dict.clear" rClearT := by
  intro pins s σ H x xs v us Q I rx rxs h
  obtain ⟨a, kvs, rfl, rfl, ha, q⟩ := h
  cases rxs
  obtain rfl : v = Value.ref a := rx
  obtain ⟨z, hd, xs', rel, dd⟩ := dt_of I.hok ha
  refine call_meetsIn PySem.F.slot_dict_clear (Heap.DictOfH.typeIs dd) PySem.F.entry_dict_clear (PySem.F.args_dict_clear_1 _) meetsClearT ⟨xs', dd, fun h' dd' hs => ?_⟩
  obtain ⟨o, es, ep, h1, h2, h3, h4, _, h6⟩ := dd'
  exact ⟨.non, _, d_write (ob := .dT []) I (by rw [ha]; trivial) hs ⟨o, h1⟩ ⟨Nat.zero_le _, hd, [], .nil, o, es, ep, h1, h2, h3, h4, h6⟩, rfl, q⟩
end
end Sb

/-! sorted(keys, key=f), the keys tuples in a list. -/
namespace Sb
open PySem PySem.Spec PyProof.Rows L2
open PySem.W (EachIs KeyPure KeepsBut dataLe AllAlike Sortable)
theorem vals_refs' : ∀ {bs : List Addr} {its : List Value}, Vals (bs.map V.ref) its → its = bs.map Value.ref
  | [], _, h => by cases h; rfl
  | b :: r, _, h => by
    cases h with
    | cons a t =>
      rw [vals_refs' t]
      have : _ = Value.ref b := a
      rw [this]
      rfl
theorem ks_rows {H : Hp} : ∀ {kk : List (List Key)} {bs : List Addr}, IsKs H kk bs → ∃ ks : List KRow, ks.map (·.1) = kk ∧ (ks.map fun x => x.2.1) = bs ∧ ∀ x ∈ ks, H x.2.1 = some (.tup (x.1.map kV))
  | _, _, .nil => ⟨[], rfl, rfl, fun _ z => by cases z⟩
  | _, _, .cons (a := k) (b := b) h r => by
    obtain ⟨ks, e1, e2, e3⟩ := ks_rows r
    refine ⟨(k, b, Value.none) :: ks, by rw [List.map_cons, e1], by rw [List.map_cons, e2], fun x hx => ?_⟩
    rcases List.mem_cons.mp hx with rfl | hx
    · exact h
    · exact e3 x hx
def rSortTL (f : Addr) (rank : List Key → List Int) (ok : List Key → Prop) : List V → List V → Hp → VK → Prop := fun xs zs H Q => ∃ (l : Addr) (kk : List (List Key)) (bs : List Addr), xs = [.ref l] ∧ zs = [.ref f] ∧ H l = some (.lst (bs.map V.ref)) ∧ IsKs H kk bs ∧ (∀ k ∈ kk, ok k) ∧
  ∀ p cs, H p = none → IsKs H (srt rank kk) cs → Q (.ref p) (upd H p (.lst (cs.map V.ref)))
theorem call_sortTL {X : Cx} {f : Addr} {rank : List Key → List Int} {ok : List Key → Prop} {k0 : Nat} (hc : X.calm = true) (hr : Room (k0 + 1) X.A) (F : KeyFn X f rank ok) : CallRK X (.builtin "sorted") ["key"] (rSortTL f rank ok) := by
  intro pins s σ H xs zs us ws Q I r rz h
  obtain ⟨d, kk, bs, rfl, rfl, hd, hik, hok, q⟩ := h
  obtain ⟨u, rfl, rx⟩ := vals1 r
  obtain ⟨u2, rfl, rx2⟩ := vals1 rz
  obtain rfl : u = Value.ref d := rx
  obtain rfl : u2 = Value.ref f := rx2
  obtain ⟨ks, ek, eb, hks⟩ := ks_rows hik
  obtain ⟨its, rv0, pl, hz⟩ := I.list (SqL.of (K := X.K) hd)
  have lk : ks.length = bs.length := by rw [← eb, List.length_map]
  have hz0 : bs.length ≤ sizeLine := by
    rw [List.length_map] at hz
    exact hz
  have hz1 : ks.length ≤ sizeLine := lk ▸ hz0
  show wpAny _ _ (call (.builtin "sorted") [.ref d] [(Str.ofString "key", .ref f)]) _ _ _
  refine PyProof.Rows.call_function_entry_kw PyProof.Rows.kind_sorted PyProof.Rows.plain_sorted PyProof.Rows.entry_sorted (PyProof.Rows.ksk_s1 _ _) ?_
  unfold Builtin.«sorted»
  refine wpAny_bind (m := checkCount "sorted" 1 1 _) ?_
  apply wpAny_pure
  have ea : its.toArray.toList = ks.map fun x => Value.ref x.2.1 := by
    have : its = bs.map Value.ref := vals_refs' rv0
    rw [this, ← eb, List.map_map]
    rfl
  obtain ⟨o, ho, hcl, n, hdt⟩ := pl.isList
  refine wpAny_bind (wpAny_collect_seq (A := X.A.in1) d (.inl rfl) ho hcl hdt (fun h' kp => ?_) (by rw [← Array.length_toList, ea, List.length_map, lk]; exact hz0))
  generalize its.toArray = acc at ea ⊢
  generalize s.toks = tk
  have la : acc.toList.length = ks.length := by rw [ea, List.length_map]
  have I1 : Inv X pins σ H { s with heap := h', toks := tk } := I.kept kp
  refine wpAny_bind (wpAny_newList ?_ (by omega))
  have hoL : (h'.push (seqObj "list" acc.toList.toArray 0)).get? h'.objs.size = some (seqObj "list" acc.toList.toArray 0) := Heap.get?_push_size _ rfl
  have up : ∀ c o, h'.get? c = some o → (h'.push (seqObj "list" acc.toList.toArray 0)).get? c = some o := fun c o e => Heap.get?_push_of_some _ e
  show wpAny _ _ _ _ _ { s with heap := h'.push (seqObj "list" acc.toList.toArray 0), toks := tk }
  refine wpAny_bind (wpAny_holding (wpAny_call_entry_kw PyProof.Rows.slot_list_sort ⟨_, hoL, rfl⟩ PyProof.Rows.entry_list_sort ?body (PyProof.Rows.ksk_l1 _ _)))
  rw [PyProof.Rows.ksk_t1]
  have each : EachIs (fun (v : Value) (x : KRow) => v = .ref x.2.1) acc.toList ks := by rw [ea]; exact each_refs ks
  have ne : ∀ {c : Addr} {o : Obj}, h'.get? c = some o → c ≠ h'.objs.size := fun e => Nat.ne_of_lt (Heap.lt_size e)
  refine PySem.W.keyH_tree (kz := ks.map fun x => PyData.tuple ((rank x.1).map .int)) (s := { s with heap := h'.push (seqObj "list" acc.toList.toArray 0), toks := tk }) hoL (by rw [List.length_map, la]) (by omega)
    (AllAlike.of fun a b => alike_rows _ _) (Sortable.tuples fun b => ?_) ?_ (PySem.W.keyH_turns (s := { s with heap := h'.push (seqObj "list" acc.toList.toArray 0), toks := tk }) each fun v x hR hxk h2 tk2 kp2 => ?_) fun h3 tk3 out c kp3 hD ko => ?_
  · obtain ⟨x, r, e⟩ := F.some_ b.1
    exact ⟨_, _, by rw [e]; rfl⟩
  · intro dd hdd
    obtain ⟨x, _, rfl⟩ := List.mem_map.mp hdd
    have dp : PyData.depth (.tuple ((rank x.1).map PyData.int)) = 1 := by
      show PyData.depthAll _ + 1 = 1
      rw [PySem.W.depth_ints]
    rw [dp]
    have := hr.un
    show X.A.units + 1 + 1 + 1 < cLine
    omega
  · rw [hR]
    obtain ⟨_, its, rv, it1⟩ := (show ObjOk X.prog X.w H h' x.2.1 (.tup (x.1.map kV)) from I1.hok _ _ (hks x hxk))
    have k2 : ∀ c o, h'.get? c = some o → h2.get? c = some o := fun c o e => kp2 c o (ne e) (up c o e)
    refine F.run { s with heap := h2, toks := tk2 } _ x.2.1 its x.1 (I1.kIn.keeps k2) ((I1.mod.glob.keeps I1.bk).keeps k2) (I1.nolimit.keeps k2) ?_ ?_ (hok _ (by rw [← ek]; exact List.mem_map.mpr ⟨x, hxk, rfl⟩)) rv ?_
    · have := hr.dp
      show X.A.depth + 1 < recursionLimit
      omega
    · exact I.ok.hd hc
    · obtain ⟨ob, h1, r⟩ := it1
      exact ⟨ob, k2 _ _ h1, r⟩
  · have eo := PySem.W.keyedOut_each (fun x : KRow => PyData.tuple ((rank x.1).map .int)) ko each
    have lo2 := ko.length (by rw [List.length_map, la])
    rw [le_rows] at eo
    have er := refs_each eo
    have hmem : ∀ x ∈ ks.mergeSort (fun p q => decide (rank p.1 ≤ rank q.1)), H x.2.1 = some (.tup (x.1.map kV)) := fun x hx => hks x ((List.mergeSort_perm ks _).mem_iff.mp hx)
    have em : (ks.mergeSort (fun p q => decide (rank p.1 ≤ rank q.1))).map (·.1) = srt rank kk := by
      unfold srt
      rw [← ek]
      exact List.map_mergeSort fun a _ b _ => rfl
    have isk := isKs_of hmem
    rw [em] at isk
    have keep3 : ∀ b o, h'.get? b = some o → h3.get? b = some o := fun b o e => kp3 b o (ne e) (up b o e)
    have rv : Vals (((ks.mergeSort (fun p q => decide (rank p.1 ≤ rank q.1))).map fun x => x.2.1).map V.ref) out := by
      rw [er]
      exact vals_refs _
    have hz : (((ks.mergeSort (fun p q => decide (rank p.1 ≤ rank q.1))).map fun x => x.2.1).map V.ref).length ≤ sizeLine := by
      rw [rv.length]
      omega
    refine ⟨_, rfl, ?_⟩
    apply wpAny_pure
    refine ⟨_, rfl, .ref h'.objs.size, _, I1.laid (t' := tk3) (o := .lst (((ks.mergeSort (fun p q => decide (rank p.1 ≤ rank q.1))).map fun x => x.2.1).map V.ref)) keep3 (Nat.le_refl _) ⟨hz, out, c, rv, hD⟩, rfl, q _ _ (I1.hok.fresh (Nat.le_refl _)) isk⟩
end Sb

/-! list(d.items()), the keys tuples. -/
namespace Sb
open PySem PySem.Spec PyProof.Rows L2
theorem tds_get {H : Hp} : ∀ {as : List Addr} {R : List PyData}, as.length = R.length → (∀ (j : Nat) (a : Addr) (d : PyData), as[j]? = some a → R[j]? = some d → TD H (.ref a) d) → TDs H (as.map V.ref) R
  | [], [], _, _ => .nil
  | [], _ :: _, h, _ => by cases h
  | _ :: _, [], h, _ => by cases h
  | a :: as, d :: R, h, g => .cons (g 0 a d rfl rfl) (tds_get (Nat.succ.inj h) fun j a d h1 h2 => g (j + 1) a d h1 h2)
theorem tds_keys {H : Hp} : ∀ ks : List Key, TDs H (ks.map kV) (ks.map keyD)
  | [] => .nil
  | .inl n :: r => .cons (.int n) (tds_keys r)
  | .inr s :: r => .cons (.str s) (tds_keys r)
def itemD (r : List Key × PyData) : PyData := .tuple [.tuple (r.1.map keyD), r.2]
section
variable {X : Cx}
def rListItT : List V → Hp → VK → Prop := fun xs H Q => ∃ (p a : Addr) (kvs : List (List Key × V)) (R : List (List Key × PyData)), xs = [.ref p] ∧ H p = some (DX.itemsO p a) ∧ H a = some (.dT kvs) ∧ Paired (fun p q => p.1 = q.1 ∧ TD H p.2 q.2) kvs R ∧
  ∀ (l : Addr) (as : List Addr) H', Same H H' → H l = none → H' l = some (.lst (as.map V.ref)) → TDs H' (as.map V.ref) (R.map itemD) → Q (.ref l) H'
theorem call_listItT (hc : X.calm = true) : CallR X (.type "list") rListItT := by
  intro pins s σ H xs us Q I r h
  obtain ⟨p, a, kvs, R, rfl, hp, ha, hkv, q⟩ := h
  obtain ⟨u, rfl, ru⟩ := vals1 r
  obtain rfl : u = Value.ref p := ru
  have view : s.heap.IsItemsView p a := (show ObjOk X.prog X.w H s.heap p (DX.itemsO p a) from I.hok p _ hp).1
  obtain ⟨z, hd, xs', rel, o, es, ep, ho, hx, hdat, hes, his, hn⟩ := dt_of I.hok ha
  have l1 : kvs.length = xs'.length := Paired.length rel
  have l2 : es.size = xs'.length := size_of_entries hes
  have l3 : kvs.length = R.length := Paired.length hkv
  refine PySem.W.dil_call (I.ok.hd hc) view ⟨o, ho, hx, hdat⟩ (by rw [l2, ← l1]; exact z) fun h' tk acc c as hk hl las G eacc => ?_
  have lak : as.length = kvs.length := by omega
  have nd : as.Nodup := G.rise.imp fun h => Nat.ne_of_lt h
  have hz : (as.map V.ref).length ≤ sizeLine := by rw [List.length_map, lak]; exact z
  have I1 : L2.Inv X pins σ (upd H s.heap.objs.size (.lst (as.map V.ref))) { s with heap := h', toks := tk } := I.laid (t' := tk) hk (Nat.le_refl _) (show ObjOk X.prog X.w _ h' _ (.lst (as.map V.ref)) from ⟨hz, as.map Value.ref, c, vals_refs _, by
    rw [hl]
    have : acc = (as.map Value.ref).toArray := by
      apply Array.ext'
      rw [eacc]
    rw [this]⟩)
  have nS : H s.heap.objs.size = none := I.hok.fresh (Nat.le_refl _)
  have row : ∀ (j : Nat) (b : Addr), as[j]? = some b → ∃ (kv : List Key × V) (r : List Key × PyData) (x : KRow), kvs[j]? = some kv ∧ R[j]? = some r ∧ xs'[j]? = some x ∧ kv.1 = r.1 ∧ TD H kv.2 r.2 ∧ kv.1 = x.1 ∧ H x.2.1 = some (.tup (kv.1.map kV)) ∧ L2.RelV kv.2 x.2.2 ∧ h'.get? b = some { cls := .type "tuple", data := .seq #[.ref x.2.1, x.2.2] } := by
    intro j b hj
    obtain ⟨hj1, hg⟩ := G.pairs j b hj
    have hx1 : j < xs'.length := by omega
    have hxj := List.getElem?_eq_getElem hx1
    obtain ⟨kv, hkj, e1, e2, e3⟩ := DX.pget rel hxj
    have hrj : j < R.length := by omega
    have hR := List.getElem?_eq_getElem hrj
    obtain ⟨kv', hkj', e4, e5⟩ := DX.pget hkv hR
    have : kv' = kv := Option.some.inj (hkj'.symm.trans hkj)
    subst this
    have e6 := entry_at hes j
    rw [hxj, Array.getElem?_eq_getElem hj1] at e6
    have e7 : es[j] = entryOfKey (tupleKind (mixKind X.prog X.w)) xs'[j] := Option.some.inj e6
    rw [e7] at hg
    exact ⟨kv', R[j], xs'[j], hkj, hR, hxj, e4, e5, e1, e2, e3, hg⟩
  obtain ⟨H2, I2, k2, t2⟩ := DX.takeT (P := fun b vs => ∃ (j : Nat) (kv : List Key × V) (r : List Key × PyData) (x : Addr), as[j]? = some b ∧ kvs[j]? = some kv ∧ R[j]? = some r ∧ kv.1 = r.1 ∧ TD H kv.2 r.2 ∧ H x = some (.tup (kv.1.map kV)) ∧ vs = [V.ref x, kv.2]) I as _ I1 nd (fun b hb => by
    obtain ⟨j, hj⟩ := List.mem_iff_getElem?.mp hb
    have lt : s.heap.objs.size < b := G.above b hb
    obtain ⟨kv, r, x, e1, e2, e3, e4, e5, e6, e7, e8, e9⟩ := row j b hj
    refine ⟨Nat.le_of_lt lt, ?_, [V.ref x.2.1, kv.2], ⟨j, kv, r, x.2.1, hj, e1, e2, e4, e5, e7, rfl⟩, fun H2 => ⟨by show 2 ≤ sizeLine; decide, [.ref x.2.1, x.2.2], .cons rfl (.cons e8 .nil), _, e9, rfl, _, rfl⟩⟩
    rw [upd_ne (Nat.ne_of_gt lt)]
    exact I.hok.fresh (Nat.le_of_lt lt))
  have sm : Same H H2 := fun b o e => k2 b o (by rw [upd_ne (ne_of_none e nS)]; exact e)
  refine ⟨.ref s.heap.objs.size, H2, I2, rfl, q _ as H2 sm nS (k2 _ _ upd_same) (tds_get (by rw [List.length_map, lak, l3]) fun j b d hj hd => ?_)⟩
  obtain ⟨vs, ⟨j', kv, r, x, f1, f2, f3, f4, f5, f6, rfl⟩, hb2⟩ := t2 b (List.mem_of_getElem? hj)
  have ej : j' = j := by
    have h1 := (List.getElem?_eq_some_iff.mp f1)
    have h2 := (List.getElem?_eq_some_iff.mp hj)
    obtain ⟨a1, a2⟩ := h1
    obtain ⟨b1, b2⟩ := h2
    exact (List.getElem_inj nd).mp (a2.trans b2.symm)
  subst ej
  rw [List.getElem?_map, f3] at hd
  obtain rfl : itemD r = d := Option.some.inj hd
  refine .tup hb2 (.cons (.tup (sm _ _ f6) ?_) (.cons (f5.mono (Tups.same sm)) .nil))
  rw [f4]
  exact tds_keys _
end
end Sb

/-! for k, v in d.items(), the keys tuples. -/
namespace Sb
open PySem PySem.Spec PyProof.Rows L2
def Itit (d : Addr) (o : Obj) (kvs : List (List Key × V)) : It where
  go i H := H d = some (.frz o (.dT kvs)) ∧ i < kvs.length
  yld i H x H' := ∃ T k v q, kvs[i]? = some (k, v) ∧ x = V.ref T ∧ H q = some (.tup (k.map kV)) ∧ H T = none ∧ H' = upd H T (.tup [.ref q, v])
  stop i H := H d = some (.frz o (.dT kvs)) ∧ kvs.length ≤ i
theorem frzT' {X : Cx} {pins : List (Addr × Obj)} {σ : L2.St} {H : Hp} {s : Shared} {d : Addr} {o : Obj} {kvs : List (List Key × V)} (I : L2.Inv X pins σ H s) (hd : H d = some (.frz o (.dT kvs))) :
    s.heap.get? d = some o ∧ o.ExactDict ∧ (d == sysModules) = false ∧ ∃ es ep, o.data = .dict es ep ∧ es.size = kvs.length ∧ ∀ (i : Nat) (k : List Key) (v : V), kvs[i]? = some (k, v) → ∃ en q, es[i]? = some en ∧ en.key = Value.ref q ∧ H q = some (.tup (k.map kV)) ∧ L2.RelV v en.val := by
  have x : ObjOk X.prog X.w H s.heap d (.frz o (.dT kvs)) := I.hok d _ hd
  simp only [ObjOk] at x
  obtain ⟨h1, z, h2, xs, rel, o', es, ep, h3, h4, h5, h6, h7⟩ := x
  have eo : o' = o := Option.some.inj (h3.symm.trans h1)
  subst eo
  have l1 : kvs.length = xs.length := Paired.length rel
  refine ⟨h1, h4, h2, es, ep, h5, by rw [size_of_entries h6, l1], fun i k v hi => ?_⟩
  have lt : i < xs.length := by
    have := (List.getElem?_eq_some_iff.mp hi).1
    omega
  have hx := List.getElem?_eq_getElem lt
  obtain ⟨kv, hk, e1, e2, e3⟩ := DX.pget rel hx
  have ek : kv = (k, v) := Option.some.inj (hk.symm.trans hi)
  subst ek
  have e6 := entry_at h6 i
  rw [hx] at e6
  exact ⟨_, xs[i].2.1, e6, rfl, e2, e3⟩
theorem turn_itemsT {P : Program} {w : World} {K : PySem.W.Frag} {d : Addr} {o : Obj} {es : Array DictEntry} {ep : Nat} {kvs : List (List Key × V)} {elts : List Expr} {kk : Nat} {tpos : Pos} (it : Addr) (hod : o.data = .dict es ep) :
    Turn P w K (.Tuple elts kk tpos) (Itit d o kvs) [it] it fun i h => ∃ ok ov, IsItemIter h it d i kvs.length ep ok ov where
  mem := List.mem_cons_self
  obj := fun i h ⟨ok, ov, e⟩ b hb => by
    obtain rfl : b = it := by simpa using hb
    exact ⟨_, e, fun v z => nomatch z⟩
  keep := fun i h h' ⟨ok, ov, e⟩ k => ⟨ok, ov, k it List.mem_cons_self _ e⟩
  item := by
    intro X hP hw hK hc i pins s σ H E I hf st hg
    subst hP hw
    obtain ⟨hd, hi⟩ := hg
    obtain ⟨hgd, hx, hs, es', ep', hdt, hsz, ent⟩ := frzT' I hd
    obtain ⟨e1, e2⟩ := dict_ep hod hdt
    subst e1 e2
    obtain ⟨⟨k, v⟩, hkv⟩ : ∃ p, kvs[i]? = some p := ⟨_, List.getElem?_eq_getElem hi⟩
    obtain ⟨en, q, hen, hkey, hq, rv⟩ := ent i k v hkv
    obtain ⟨ok, ov, he⟩ := st
    rw [← hsz] at he
    have hlt := Heap.lt_size he
    have hlt' : i < es'.size := by omega
    have een : es'[i] = en := Option.some.inj ((Array.getElem?_eq_getElem hlt').symm.trans hen)
    refine wpAny_pyNext_items_item_raw he ⟨o, hgd, hx, hdt⟩ hlt' fun h' ho hT hz hk => ⟨_, rfl, ?_⟩
    rw [een] at ho hT
    refine wpAny_letOwnedTupleGo_items ho fun h'' he' sb => ?_
    have hT2 : h''.get? s.heap.objs.size = some { cls := .type "tuple", data := .seq #[en.key, en.val] } := (sb.2 _ (Nat.ne_of_gt hlt)).trans hT
    have new : ObjOk X.prog X.w (upd H s.heap.objs.size (.tup [.ref q, v])) h'' s.heap.objs.size (.tup [.ref q, v]) := ⟨by show 2 ≤ sizeLine; decide, [en.key, en.val], .cons hkey (.cons rv .nil), _, hT2, rfl, _, rfl⟩
    have I1 := Inv.turnedNew (t' := s.toks) I (ch := [it]) (fun b ob hb e => by
      have nb : b ≠ it := fun z => hb (z ▸ List.mem_cons_self)
      exact (sb.2 b nb).trans (hk b ob nb e)) hf (Nat.le_refl _) new
    refine ⟨.ref s.heap.objs.size, _, I1, rfl, ⟨_, k, v, q, hkv, rfl, hq, I.hok.fresh (Nat.le_refl _), rfl⟩, ⟨_, _, by rw [hsz] at he'; exact he'⟩, fun b hb => ?_⟩
    obtain rfl : b = it := by simpa using hb
    rw [upd_ne (Nat.ne_of_lt hlt)]
    exact (hf b List.mem_cons_self).1
  done := by
    intro X hP hw hK hc i pins s σ H E I hf st hg
    subst hP hw
    obtain ⟨hd, hi⟩ := hg
    obtain ⟨hgd, hx, hs, es', ep', hdt, hsz, ent⟩ := frzT' I hd
    obtain ⟨e1, e2⟩ := dict_ep hod hdt
    subst e1 e2
    obtain ⟨f0, f1, f2, f3, f4, f5⟩ := hf it List.mem_cons_self
    obtain ⟨ok, ov, he⟩ := st
    rw [← hsz] at he
    exact wpAny_pyNext_items_end_raw (I.ok.hd hc) he ⟨o, hgd, hx, hdt⟩ (by omega) fun h' eb => ⟨rfl, Inv.turned I (fun b ob hb e => eb b ob hb e) f0 f1 f3 f4 f5⟩
  self := fun A i s Q E ⟨_, _, e⟩ h => PySem.W.kcp_self e h
section
variable {X : Cx}
def iItemsT (td : TE) : TI := fun σ H R => td σ H fun x H1 => ∃ d o kvs, x = V.ref d ∧ H1 d = some (.frz o (.dT kvs)) ∧ R (Itit d o kvs) H1
theorem pi_itemsT {e : Expr} {td : TE} {apos cpos : Pos} {elts : List Expr} {kk : Nat} {tpos : Pos} (he : PE X e td) (hbase : attributeBase e (Str.ofString "items") X.env (eval e X.env) = eval e X.env := by rfl) (hline : (apos.endLine == cpos.line) = true := by rfl) :
    PI X (.Tuple elts kk tpos) (.Call (.Attribute e (Str.ofString "items") apos) [] [] cpos) (iItemsT td) := by
  refine ⟨fun pins s σ H R I h => ?_⟩
  refine wpAny_Call_method hbase rfl hline PySem.F.plainAttrs_dict PySem.F.slot_dict_items PySem.F.type_dict_items (thn (he.run pins s σ H _ I h) fun u s1 ⟨x, H1, I1, rx, d, o, kvs, ex, hd, q⟩ => ?_)
  subst ex
  obtain rfl : u = Value.ref d := rx
  obtain ⟨hgd, hx, hs, es, ep, hdt, hsz, ent⟩ := frzT' I1 hd
  have raw : DT.Raw s1.heap d es ep := ⟨o, hgd, hx, hdt⟩
  refine ⟨DT.Raw.typeIs raw, fun a e => by cases e; exact ⟨o, hgd, hx.2.1⟩, ?_⟩
  have I2 : L2.Inv X pins σ H1 { s1 with heap := s1.heap.push { cls := .type "dict_items", data := .fields #[.ref d] } } := Inv.kept I1 fun b ob q => Heap.get?_push_of_some _ q
  have fin := DT.iterI (prog := X.prog) (w := X.w) (A := X.A) (E := X.xe) (Q := PIE X pins σ (.Tuple elts kk tpos) R) (s := { s1 with heap := s1.heap.push { cls := .type "dict_items", data := .fields #[.ref d] } }) (v := s1.heap.objs.size) ⟨_, Heap.get?_push_size _ rfl, rfl, rfl⟩ (DT.Raw.push raw _) (pi_one I2 _ (turn_itemsT _ hdt) ⟨.none, .none, by rw [← hsz]; exact Heap.get?_push_size _ rfl⟩ q)
  refine method_meetsIn PySem.F.slot_dict_items PySem.F.entry_dict_items rfl (PySem.evalArgs_none ⟨rfl, DT.Raw.typeIs raw, PySem.F.args_dict_items_1 _, _, DT.meetsItems hs, raw, fin⟩)
end
theorem walk_itemsT {d : Addr} {o : Obj} {kvs : List (List Key × V)} : Walk (Itit d o kvs) kvs.length (fun H => H d = some (.frz o (.dT kvs))) (fun i H x H' => ∃ T k v q, kvs[i]? = some (k, v) ∧ x = V.ref T ∧ H q = some (.tup (k.map kV)) ∧ H T = none ∧ H' = upd H T (.tup [.ref q, v])) where
  goes := fun _ _ hi q => ⟨q, hi⟩
  stops := fun _ q => ⟨q, Nat.le_refl _⟩
  yields := fun _ _ _ _ _ _ y => y
end Sb

/-! Dicts with tuple keys that are equal, also within tuples. -/
namespace Sb
open PySem PySem.Spec PyProof.Rows L2
open PySem.SeqAt (EqIn EqAt)
section
variable {prog : Program} {w : World} {K : Type} [DecidableEq K] {knd : HeapKind prog w K} {A : Around} {E : Value → Shared → Prop} {s : Shared}
theorem samePairsH {nm : String} {a b : Addr} {xs ys : List (K × Addr × Value)} {Q : Bool → Shared → Prop} (ha : (a == sysModules) = false) (hb : (b == sysModules) = false) (hu : knd.room A)
    (da : s.heap.DictOfH knd a xs) (db : s.heap.DictOfH knd b ys) (hl : xs.length = ys.length) (hit : ∀ x ∈ xs, ∃ (j : Nat) (p : Addr × Value), ys[j]? = some (x.1, p) ∧ EqIn prog w A s x.2.2 p.2 true) (h : Q true s) :
    wpAny (model prog w) A (Builtin.Dict.samePairs nm a b) Q E s := by
  obtain ⟨oa, es, ep, hoa, _, hda, hea, hia, hna⟩ := da
  obtain ⟨ob, es', ep', hob, _, hdb, heb, hib, hnb⟩ := db
  have hla : es.size = xs.length := size_of_entries hea
  have hlb : es'.size = ys.length := size_of_entries heb
  have hsz : es.size = es'.size := by omega
  unfold Builtin.Dict.samePairs Builtin.Dict.showsAll
  rw [if_neg (show ¬ (a == sysModules) = true by rw [ha]; exact Bool.false_ne_true), if_neg (show ¬ (b == sysModules) = true by rw [hb]; exact Bool.false_ne_true)]
  refine wpAny_bind (wpAny_pure (wpAny_bind (wpAny_pure ?_)))
  refine wpAny_bind (wpAny_dictEntries hoa hda ?_)
  dsimp only
  refine wpAny_bind (wpAny_dictEntries hob hdb ?_)
  rw [if_neg (by rw [hsz]; simp)]
  refine wpAny_bind (wpAny_dictEpoch hoa hda ?_)
  refine wpAny_bind ?_
  rw [Std.Legacy.Range.forIn_eq_forIn_range']
  simp only [Std.Legacy.Range.size, Nat.sub_zero, Nat.add_sub_cancel, Nat.div_one]
  refine wpAny_forIn_list _ (fun rest q s' => s' = s ∧ q = (none, ()) ∧ ∃ i, rest = List.range' i (es.size - i) ∧ i ≤ es.size) _ ?_ ?_ _ _ ⟨rfl, rfl, 0, by simp, Nat.zero_le _⟩
  · rintro x rest q s' ⟨rfl, rfl, i, hr, hi⟩
    have hlt : i < es.size := by
      rcases Nat.lt_or_ge i es.size with h | h
      · exact h
      · rw [Nat.sub_eq_zero_of_le h] at hr; simp at hr
    obtain ⟨rfl, hrest⟩ : x = i ∧ rest = List.range' (i + 1) (es.size - (i + 1)) := by
      have e : es.size - i = (es.size - (i + 1)) + 1 := by omega
      rw [e, List.range'_succ] at hr
      injection hr with h1 h2
      exact ⟨h1, h2⟩
    refine wpAny_bind (wpAny_dictEntries hoa hda ?_)
    have hlt' : x < xs.length := by omega
    obtain ⟨⟨k, ka, v⟩, hkv⟩ : ∃ y, xs[x]? = some y := ⟨_, List.getElem?_eq_getElem hlt'⟩
    have hex : es[x]? = some ⟨knd.hash k, .ref ka, v⟩ := by rw [entry_at hea x, hkv]; rfl
    rw [hex]
    have hmem := List.mem_of_getElem? hkv
    have hka : knd.is s'.heap k ka := hia _ hmem
    obtain ⟨j, p, hj, he⟩ := hit _ hmem
    show wpAny _ _ (holding [Value.ref ka, v] _ >>= _) _ _ _
    refine wpAny_bind (wpAny_holding (wpAny_bind (wpAny_dictFind_heap hu hka hob hdb heb hib hnb (fun no => absurd hj (no j p)) (fun j' p' hj' => ?_))))
    have ejj : p' = p := by
      have i1 := (List.getElem?_eq_some_iff.mp hj).1
      have i2 := (List.getElem?_eq_some_iff.mp hj').1
      have e1 : (ys.map (·.1))[j]? = some k := by rw [List.getElem?_map, hj]; rfl
      have e2 : (ys.map (·.1))[j']? = some k := by rw [List.getElem?_map, hj']; rfl
      have ee : j' = j := by
        rw [List.getElem?_eq_getElem (by rw [List.length_map]; exact i1)] at e1
        rw [List.getElem?_eq_getElem (by rw [List.length_map]; exact i2)] at e2
        have same := (Option.some.inj e2).trans (Option.some.inj e1).symm
        have pw := List.pairwise_iff_getElem.mp (show (ys.map (·.1)).Pairwise (· ≠ ·) from hnb)
        rcases Nat.lt_trichotomy j' j with z | z | z
        · exact absurd same (pw _ _ _ _ z)
        · exact z
        · exact absurd same.symm (pw _ _ _ _ z)
      subst ee
      rw [hj] at hj'
      exact ((Prod.mk.inj (Option.some.inj hj')).2).symm
    subst ejj
    have hex' : es'[j']? = some ⟨knd.hash k, .ref p'.1, p'.2⟩ := by rw [entry_at heb j', hj']; rfl
    refine wpAny_bind (wpAny_dictEntries hob hdb ?_)
    rw [hex']
    refine wpAny_holding (he _ _ ?_)
    show wpAny _ _ (if (!true) = true then _ else _) _ _ _
    rw [if_neg (by decide)]
    refine wpAny_bind (wpAny_dictEpoch hoa hda ?_)
    rw [if_neg (by simp)]
    exact wpAny_pure ⟨rfl, rfl, x + 1, hrest, hlt⟩
  · rintro q s' ⟨rfl, rfl, i, hr, hi⟩
    exact wpAny_pure h
theorem rc_dictsH {a b : Addr} {xs ys : List (K × Addr × Value)} (ha : (a == sysModules) = false) (hb : (b == sysModules) = false) (hr : knd.room A.in1)
    (da : s.heap.DictOfH knd a xs) (db : s.heap.DictOfH knd b ys) (hu : A.units < cLine) (hl : xs.length = ys.length) (hit : ∀ x ∈ xs, ∃ (j : Nat) (p : Addr × Value), ys[j]? = some (x.1, p) ∧ EqIn prog w A.in1 s x.2.2 p.2 true)
    (E Q : Value → Shared → Prop) (h : Q (.bool true) s) : wpAny (model prog w) A (richCompare .Eq (.ref a) (.ref b)) Q E s := by
  refine wpAny_richCompare_same_room (op := .Eq) (Heap.DictOfH.typeIs da) (Heap.DictOfH.typeIs db) PySem.F.slot_dict_eq (wpAny_call_entry PySem.F.slot_dict_eq (Heap.DictOfH.typeIs da) PySem.F.entry_dict_eq ?_ (PySem.F.args_dict_eq_2 _ _)) hu
  show wpAny _ _ (Builtin.Dict.dictSlotArgs "__eq__" ⟨[.ref a, .ref b], []⟩ >>= _) _ _ s
  refine wpAny_bind ?_
  unfold Builtin.Dict.dictSlotArgs
  refine wpAny_bind (wpAny_notOrdered_dict (Heap.DictOfH.typeIs da) ?_)
  show wpAny _ _ (pure (Value.ref a, Value.ref b)) _ _ s
  refine wpAny_pure ?_
  refine wpAny_bind (wpAny_isInstance (T := "dict") (Heap.DictOfH.typeIs db) PySem.F.sub_dict_dict ?_)
  simp only [Bool.not_true, Bool.false_eq_true, if_false]
  refine wpAny_bind (wpAny_pure (wpAny_bind (wpAny_pure ?_)))
  refine wpAny_bind (samePairsH ha hb hr da db hl hit ?_)
  refine wpAny_pure ⟨_, rfl, ?_, ?_⟩
  · exact fun x => nomatch x
  · exact h
end
end Sb

namespace PySem
namespace SeqAt
open AutoSeq1 (wpAny_loadPart')
open MeetsSeq MeetsSeq2 MeetsSeq3 SeqRoads2
section
variable {prog : Program} {w : World} {A : Around} {E : Value → Shared → Prop} {s : Shared}
/-- (x0, x1) != (y0, y1) where both items are equal -/
theorem pairs_same {l b : Addr} {x0 x1 y0 y1 : Value} (n n2 : Nat) (dd dd2 : Option Addr) (sl sl2 : Array (Option Value)) :
    MeetsIn prog w (Builtin.«tuple.__ne__» ⟨[.ref l, .ref b], []⟩)
      (fun A R s => s.heap.get? l = some { cls := .type "tuple", dict := dd, data := .seq #[x0, x1] n, slots := sl } ∧ s.heap.get? b = some { cls := .type "tuple", dict := dd2, data := .seq #[y0, y1] n2, slots := sl2 } ∧
        EqIn prog w A.in1 s x0 y0 true ∧ EqIn prog w A.in1 s x1 y1 true ∧ R (.ok (.ret (.bool false))) s) :=
  MeetsIn.of_wp fun A R s h => by
    obtain ⟨hp, g, d, tk, os⟩ := s
    obtain ⟨hl, hb, h0, h1, h⟩ := h
    have f2 := AutoSeq1.sub_tuple_tuple
    wp_walk using wpAny_loadPart' hl, wpAny_loadPart' hb, wpAny_forIn_list _ (fun rest q s' => q.1 = none ∧ s' = (⟨hp, g, d, tk, os⟩ : Shared) ∧ ∀ z ∈ rest, z = (x0, y0) ∨ z = (x1, y1)) _
    case turn =>
      rintro ⟨y, x⟩ rest q s' ⟨e1, rfl, al⟩
      have go : EqIn prog w A.in1 ⟨hp, g, d, tk, os⟩ y x true := by
        rcases al _ List.mem_cons_self with z | z
        · rw [(Prod.mk.inj z).1, (Prod.mk.inj z).2]
          exact h0
        · rw [(Prod.mk.inj z).1, (Prod.mk.inj z).2]
          exact h1
      refine wpAny_bind (go _ _ ?_)
      wp_walk
      exact ⟨rfl, rfl, fun z hz => al z (List.mem_cons_of_mem _ hz)⟩
    case fin =>
      rintro ⟨q1, q2⟩ s' ⟨e1, rfl, al⟩
      simp only at e1
      subst e1
      wp_walk
      exact ⟨_, rfl, by simpa [Builtin.Tuple.tupleCompareSizes] using h⟩
    case h =>
      exact ⟨rfl, rfl, fun z hz => by simpa using hz⟩
/-- the comparison itself -/
theorem rc_pairs_same {l b : Addr} {x0 x1 y0 y1 : Value} {Q : Value → Shared → Prop} (hl : s.heap.IsTuple l #[x0, x1]) (hb : s.heap.IsTuple b #[y0, y1]) (hu : A.units < cLine)
    (h0 : EqIn prog w A.in1 s x0 y0 true) (h1 : EqIn prog w A.in1 s x1 y1 true) (h : Q (.bool false) s) : wpAny (model prog w) A (compareOp .NotEq (.ref l) (.ref b)) Q E s := by
  obtain ⟨⟨cls, dd, data, sl⟩, ho, hc, n, hd⟩ := id hl
  obtain ⟨⟨cls2, dd2, data2, sl2⟩, ho2, hc2, n2, hd2⟩ := id hb
  simp only at hc hd hc2 hd2
  subst hc hd hc2 hd2
  refine wpAny_richCompare_same_room (T := "tuple") (op := .NotEq) ⟨_, ho, rfl⟩ ⟨_, ho2, rfl⟩ F.slot_tuple_ne (call_meetsIn F.slot_tuple_ne ⟨_, ho, rfl⟩ F.entry_tuple_ne (F.args_tuple_ne_2 _ _) (pairs_same n n2 dd dd2 sl sl2) ⟨ho, ho2, ?_, ?_, ?_⟩) hu
  · exact h0
  · exact h1
  · exact ⟨(fun x => nomatch x), h⟩
end
end SeqAt
end PySem
namespace Sb
open PySem PySem.Spec PyProof.Rows L2
open PySem.SeqAt (EqIn EqAt)
theorem atKey_ix {ys : List (List Key × Addr × Value)} {k : List Key} {q : Addr × Value} (h : atKey ys k = some q) : ∃ j : Nat, ys[j]? = some (k, q) := by
  unfold atKey at h
  cases e : ys.find? (fun p => decide (p.1 = k)) with
  | none =>
    rw [e] at h
    cases h
  | some y =>
    rw [e] at h
    obtain ⟨y1, y2⟩ := y
    have z := List.find?_some e
    have m := List.mem_of_find?_eq_some e
    have e1 : y1 = k := of_decide_eq_true z
    have e2 : y2 = q := Option.some.inj h
    subst e1 e2
    obtain ⟨j, hj, ej⟩ := List.getElem_of_mem m
    exact ⟨j, by rw [List.getElem?_eq_getElem hj, ej]⟩
theorem paired_right {α β : Type} {F : α → β → Prop} : ∀ {l₁ : List α} {l₂ : List β} {y : β}, Paired F l₁ l₂ → y ∈ l₂ → ∃ x ∈ l₁, F x y
  | _, _, _, .nil, h => by cases h
  | _, _, y, .cons (a := a) (b := b) h t, m => by
    rcases List.mem_cons.mp m with rfl | m
    · exact ⟨a, List.mem_cons_self, h⟩
    · obtain ⟨x, hx, r⟩ := paired_right t m
      exact ⟨x, List.mem_cons_of_mem _ hx, r⟩
section
variable {X : Cx}
/-- (d, n) != (d', n), the dicts with tuple keys and equal rows -/
def rNeDn : R2 := fun x y H Q => ∃ (t1 t2 a b : Addr) (n : Int) (kvs kvs' : List (List Key × V)), x = .ref t1 ∧ y = .ref t2 ∧ H t1 = some (.tup [.ref a, .int n]) ∧ H t2 = some (.tup [.ref b, .int n]) ∧ a ≠ b ∧ H a = some (.dT kvs) ∧ H b = some (.dT kvs') ∧
  kvs.length = kvs'.length ∧ (∀ p ∈ kvs, ∃ v d, valV kvs' p.1 = some v ∧ TD H p.2 d ∧ TD H v d ∧ d.canLay0 = true ∧ d.depth ≤ 10) ∧ Q (.bl false) H
theorem op_neDn (hu : X.A.units + 64 < cLine) : OpR X (compareOp .NotEq) rNeDn := by
  intro pins s σ H x y v u Q I rx ry h
  obtain ⟨t1, t2, a, b, n, kvs, kvs', rfl, rfl, h1, h2, hne, ha, hb, hl, al, q⟩ := h
  obtain rfl : v = Value.ref t1 := rx
  obtain rfl : u = Value.ref t2 := ry
  obtain ⟨i1, r1, p1, _⟩ := I.tuple (SqT.of h1)
  obtain ⟨i2, r2, p2, _⟩ := I.tuple (SqT.of h2)
  obtain ⟨z1, lo1, xs, rel1, dd1⟩ := dt_of I.hok ha
  obtain ⟨z2, lo2, ys, rel2, dd2⟩ := dt_of I.hok hb
  cases r1 with
  | cons ra t =>
    cases t with
    | cons rn t =>
      cases t
      cases r2 with
      | cons rb t =>
        cases t with
        | cons rm t =>
          cases t
          obtain rfl : _ = Value.ref a := ra
          obtain rfl : _ = Value.ref b := rb
          obtain ⟨k1, rfl⟩ := rn
          obtain ⟨k2, rfl⟩ := rm
          refine SeqAt.rc_pairs_same p1 p2 (by omega) (EqIn.of_refs hne fun E Q hq => ?_) ((by rw [show true = (n == n) by simp]; exact (EqAt.int_int n k1 n k2).inModel _ _)) ⟨.bl false, H, I, rfl, q⟩
          refine rc_dictsH lo1 lo2 (tupleKind_room_in1 (by show X.A.units + 1 + 1 < cLine; omega)) dd1 dd2 (by show X.A.units + 1 < cLine; omega) (by rw [← Paired.length rel1, ← Paired.length rel2]; exact hl) (fun x hx => ?_) E Q hq
          obtain ⟨p, hp, e1, _, rp⟩ := paired_right rel1 hx
          obtain ⟨v, d, ev, td1, td2, cl, dp⟩ := al p hp
          have rv := KT.val rel2 p.1
          rw [ev] at rv
          cases hq : atKey ys p.1 with
          | none => rw [hq] at rv; exact rv.elim
          | some w =>
            rw [hq] at rv
            obtain ⟨j, hj⟩ := atKey_ix hq
            obtain ⟨as, ra⟩ := Dp.reads I d p.2 x.2.2 (td1.dp _) rp
            obtain ⟨bs, rb⟩ := Dp.reads I d v w.2 (td2.dp _) rv
            refine ⟨j, w, by rw [← e1]; exact hj, ?_⟩
            have sh : SeqAt.shaped d = true := by
              unfold SeqAt.shaped
              rw [cl, decide_eq_true (Nat.le_trans dp (by decide))]
              rfl
            have z := SeqAt.eqAt_reads d d X.A.in1.in1 s x.2.2 w.2 as bs ra rb cl cl (by show X.A.units + 1 + 1 + min d.depth d.depth < cLine; omega)
            rw [SeqAt.eqv_refl d cl] at z
            exact z.inModel _ _
end
end Sb

/-! del xs[a:] of a list. -/
namespace Sb
open PySem PySem.Spec PyProof.Rows L2
open PySem.F
theorem bounds_from {a n : Nat} (h : a ≤ n) : sliceBounds (some (a : Int)) none none n = ((a : Int), (n : Int), 1) := by
  simp only [sliceBounds, Option.getD_none]
  have h1 : ¬ ((a : Int) < 0) := by omega
  simp only [h1, if_false, show (1 : Int) > 0 by decide, if_true]
  congr 1
  omega
theorem keep_below {n : Nat} (f : Nat → Bool) (a : Nat) (hf : ∀ i : Nat, i < n → f i = decide (a ≤ i)) : ∀ (xs : List Value) (k : Nat), k + xs.length ≤ n →
    (xs.zipIdx k).filterMap (fun p => if f p.2 then none else some p.1) = xs.take (a - k)
  | [], _, _ => by simp
  | x :: r, k, h => by
    have hk : k < n := by
      rw [List.length_cons] at h
      omega
    have ih := keep_below f a hf r (k + 1) (by rw [List.length_cons] at h; omega)
    rw [List.zipIdx_cons, List.filterMap_cons]
    by_cases z : a ≤ k
    · have e : f k = true := by rw [hf k hk]; exact decide_eq_true z
      rw [show (if f (x, k).2 = true then none else some (x, k).1) = (none : Option Value) by show (if f k = true then none else some x) = none; rw [e]; rfl]
      dsimp only
      rw [ih, show a - (k + 1) = 0 by omega, show a - k = 0 by omega]
      rfl
    · have e : f k = false := by rw [hf k hk]; exact decide_eq_false z
      rw [show (if f (x, k).2 = true then none else some (x, k).1) = some x by show (if f k = true then none else some x) = some x; rw [e]; rfl]
      dsimp only
      rw [ih, show a - k = (a - (k + 1)) + 1 by omega]
      rfl
section
variable {prog : Program} {w : World} {A : Around} {E : Value → Shared → Prop} {s : Shared}
theorem delItem_from {l sl : Addr} {items : List Value} {n : Nat} {vl : Value} {a : Nat} {Q : Unit → Shared → Prop}
    (e : s.heap.get? l = some { cls := .type "list", data := .seq items.toArray n }) (hs : s.heap.IsSliceOf sl vl .none .none) (pl : IsPart vl (some (a : Int))) (ha : a ≤ items.length) (hsz : items.length ≤ sizeLine)
    (h : ∀ f : Array Value → Array Value, f items.toArray = (items.take a).toArray → Q () { s with heap := s.heap.update l (Obj.mapSeq f) }) : wpAny (model prog w) A (delItem (.ref l) (.ref sl)) Q E s := by
  have hl : s.heap.IsList l items.toArray := PySem.IsL.isList e
  obtain ⟨os, hos, hcs, hds⟩ := id hs
  have hTs : s.TypeIs (.ref sl) "slice" := ⟨os, hos, hcs⟩
  have hstep : ¬ ((rawPart none == rawInt 0) = true) := Bool.false_ne_true
  refine wpAny_delItem_slot hl.typeIs (by decide) slot_list_delitem (wpAny_call_entry slot_list_delitem hl.typeIs entry_list_delitem ?_ (args_list_delitem_2 _ _))
  show wpAny _ _ (Builtin.List.listSubscript? (.ref sl) >>= _) _ _ s
  refine wpAny_bind ?_
  unfold Builtin.List.listSubscript?
  refine wpAny_bind (wpAny_specialOf hTs slice_no_index ?_)
  simp only [Option.isNone_none, if_true]
  refine wpAny_pure ?_
  show wpAny _ _ (typeOf (.ref sl) >>= _) _ _ s
  refine wpAny_bind (wpAny_typeOf hTs ?_)
  first
    | rw [if_neg (by decide)]
    | refine PySem.W.KFB.if_not (by decide) ?_
  rw [listSliceParts_eq]
  refine wpAny_bind (wpAny_bind (wpAny_field hos hds (x := .none) rfl (wpAny_bind (wpAny_listPart .none ?_))))
  rw [if_neg hstep]
  refine wpAny_bind (wpAny_field hos hds (x := vl) rfl (wpAny_bind (wpAny_listPart pl ?_)))
  refine wpAny_bind (wpAny_field hos hds (x := .none) rfl (wpAny_bind (wpAny_listPart .none (wpAny_pure ?_))))
  refine wpAny_bind (m := Builtin.List.listItems (.ref l)) ?_
  unfold Builtin.List.listItems
  refine wpAny_bind (wpAny_seqItems e rfl (wpAny_pure ?_))
  refine wpAny_bind (wpAny_of_eq ((sliceIndices_raw (some (a : Int)) none none items.toArray.size (by simp)).trans (congrArg (pure : Int × Int × Int → Sem (Int × Int × Int)) (bounds_from (by simpa using ha)))) ?_)
  refine wpAny_bind (wpAny_rule ?_)
  have hf : ∀ f : Nat → Bool, (∀ i : Nat, i < items.length → f i = decide (a ≤ i)) → (List.filterMap (fun x : Value × Nat => if f x.2 = true then none else some x.1) items.toArray.toList.zipIdx).toArray = (items.take a).toArray := fun f hf =>
    congrArg List.toArray (keep_below (n := items.length) f a hf items 0 (by omega))
  unfold Builtin.List.listUpdate
  dsimp only
  refine wpAny_bind (wpAny_updateSeq (hz := by simpa using hsz) (_hz' := ?_) e rfl ?_)
  · refine wpAny_bind (wpAny_letGo ?_)
    refine wpAny_pure ⟨.none, rfl, ?_⟩
    refine h _ ?_
    refine hf _ fun i hi => ?_
    show ((decide ((a : Int) ≤ (i : Int)) && decide ((i : Int) < (items.toArray.size : Int))) && (((i : Int) - a) % 1 == 0)) = decide (a ≤ i)
    simp
    omega
  · refine Nat.le_trans (Nat.le_of_eq (congrArg Array.size (hf _ fun i hi => ?_))) ?_
    · show ((decide ((a : Int) ≤ (i : Int)) && decide ((i : Int) < (items.toArray.size : Int))) && (((i : Int) - a) % 1 == 0)) = decide (a ≤ i)
      simp
      omega
    · simp
      omega
end
section
variable {X : Cx}
/-- del o[lo:] of a list -/
def tDelFrom (to : TE) (tl : TO) : TS := fun D σ H => to σ H fun x H1 => tl σ H1 fun lo H2 => ∃ (l : Addr) (xs : List V) (a : Nat), x = .ref l ∧ lo = some (a : Int) ∧ H2 l = some (.lst xs) ∧ a ≤ xs.length ∧ D.nx σ (upd H2 l (.lst (xs.take a)))
theorem vals_take : ∀ {xs : List V} {us : List Value} (k : Nat), Vals xs us → Vals (xs.take k) (us.take k)
  | _, _, 0, _ => by simp only [List.take_zero]; exact .nil
  | _, _, _ + 1, .nil => by simp only [List.take_nil]; exact .nil
  | _, _, k + 1, .cons h t => .cons h (vals_take k t)
theorem ps_delFrom {o lo : Expr} {to : TE} {tl : TO} {pos tpos p2 : Pos} (ho : PE X o to) (hi : PO X (some lo) tl) : PS X (.Delete [.Subscript o (.Slice (some lo) none none p2) tpos] pos) (tDelFrom to tl) := by
  refine ⟨fun pins s σ H D I h => ?_⟩
  refine wpAny_Delete (wpAny_deleteEach_cons (wpAny_delete_Subscript (thn (ho.run pins s σ H _ I h) fun u s1 ⟨x, H1, I1, rx, q1⟩ => ?_)))
  refine wpAny_Slice (thn (hi.run pins s1 σ H1 _ I1 q1) fun vl s2 ⟨l', H2, I2, pl, q2⟩ => ?_)
  rw [evalPart_none]
  refine wpAny_pure ?_
  refine wpAny_pure ?_
  obtain ⟨l, xs, a, ex, el, hH, ha, q3⟩ := q2
  subst ex el
  obtain rfl : u = Value.ref l := rx
  have I3 : L2.Inv X pins σ H2 { s2 with heap := s2.heap.push { cls := .type "slice", data := .fields #[vl, .none, .none] } } := I2.kept (t' := s2.toks) fun b ob q => Heap.get?_push_of_some _ q
  obtain ⟨z, its, n, r, hl, e⟩ := I3.lstM hH
  refine delItem_from e (Heap.IsSliceOf.new ..) pl (by rw [← hl]; exact ha) (by omega) fun f hf => ?_
  refine wpAny_deleteEach_nil ⟨σ, _, ?_, q3⟩
  refine I3.lset (its' := its.take a) (t' := s2.toks) hH e hf (vals_take a r) ?_
  rw [List.length_take]
  omega
end
end Sb

/-! sorted(a list of data), by the data's own order. -/
namespace Sb
open PySem PySem.Spec PyProof.Rows L2
open PySem.W (EachIs dataLe AllAlike Sortable)
/-- an item beside what it stands for -/
def rSortDd (K : PySem.W.Frag) {δ : Type} (enc : δ → PyData) : List V → Hp → VK → Prop := fun xs H Q => ∃ (l : Addr) (bs : List (V × δ)), xs = [.ref l] ∧ SqL K H l (bs.map (·.1)) ∧ (∀ b ∈ bs, Dp K H b.1 (enc b.2)) ∧ (∀ b b' : δ, PySem.W.alike (enc b) (enc b') = true) ∧ (∀ b : δ, ∃ x r, enc b = .tuple (x :: r)) ∧ (∀ b ∈ bs, (enc b.2).depth ≤ 8) ∧
  ∀ p, H p = none → Q (.ref p) (upd H p (.lst ((bs.mergeSort (dataLe false fun b => enc b.2)).map (·.1))))
theorem each_vals {δ : Type} : ∀ {bs : List (V × δ)} {us : List Value}, Vals (bs.map (·.1)) us → EachIs (fun u b => RelV b.1 u) us bs
  | [], _, h => by cases h; exact .nil
  | b :: bs, _, h => by
    cases h with
    | cons a t => exact .cons a (each_vals t)
theorem vals_each {δ : Type} : ∀ {bs : List (V × δ)} {us : List Value}, EachIs (fun u b => RelV b.1 u) us bs → Vals (bs.map (·.1)) us
  | [], _, h => by cases h; exact .nil
  | b :: bs, _, h => by
    cases h with
    | cons a t => exact .cons a (vals_each t)
theorem call_sortDd {X : Cx} {δ : Type} {enc : δ → PyData} (hu : X.A.units + 64 < cLine) : CallR X (.builtin "sorted") (rSortDd X.K enc) := by
  intro pins s σ H xs us Q I r h
  obtain ⟨l, bs, rfl, hl, hD, hal, hk, hdp, q⟩ := h
  obtain ⟨u, rfl, rx⟩ := vals1 r
  obtain rfl : u = Value.ref l := rx
  obtain ⟨its, rv, pl, hz⟩ := I.list hl
  have each := each_vals rv
  have le : its.length = bs.length := each.length
  have reads : EachIs (fun v b => ∃ as, Reads s.heap v (enc b.2) as) its bs := by
    have : ∀ {bs : List (V × δ)} {us : List Value}, (∀ b ∈ bs, Dp X.K H b.1 (enc b.2)) → EachIs (fun u b => RelV b.1 u) us bs → EachIs (fun v b => ∃ as, Reads s.heap v (enc b.2) as) us bs := by
      intro bs
      induction bs with
      | nil => intro us _ h; cases h; exact .nil
      | cons b bs ih =>
        intro us hd h
        cases h with
        | cons a t => exact .cons (Dp.reads I _ _ _ (hd b List.mem_cons_self) a) (ih (fun x hx => hd x (List.mem_cons_of_mem _ hx)) t)
    exact this hD each
  rw [List.length_map] at hz
  refine PySem.W.sorted_data (R := fun u b => RelV b.1 u) (enc := fun b : V × δ => enc b.2) pl.isList each reads (AllAlike.of fun a b => hal _ _) (Sortable.tuples fun b => hk _) hz (fun b hb => ?_) fun out lo ho => ?_
  · have := hdp b hb
    omega
  · obtain ⟨e, ee⟩ := sortedAll_at s.heap its (List.toArray out)
    have vo := vals_each ho
    have k : ∀ c o, s.heap.get? c = some o → (sortedAll s.heap its (List.toArray out)).get? c = some o := fun c o hc => sortedAll_old hc
    have hz2 : ((bs.mergeSort (dataLe false fun b => enc b.2)).map (·.1)).length ≤ sizeLine := by
      rw [List.length_map, (List.mergeSort_perm _ _).length_eq]
      exact hz
    exact ⟨.ref (s.heap.objs.size + 1), _, I.laid (o := .lst ((bs.mergeSort (dataLe false fun b => enc b.2)).map (·.1))) (t' := s.toks) k (Nat.le_succ _) ⟨hz2, out, e, vo, ee⟩, rfl, q _ (I.hok.fresh (Nat.le_succ _))⟩
end Sb

/-! Texts of streams: written, cut, read back. -/
namespace Sb
open PySem PySem.Spec PyProof.Rows L2 TL
/-! ### a number's signs -/
def intL (v : Int) : List Nat := if v < 0 then 45 :: numL v.natAbs else numL v.natAbs
theorem tl_int (v : Int) : tl (Str.ofString (toString v)) = intL v := by
  unfold intL
  by_cases h : v < 0
  · rw [if_pos h]
    obtain ⟨n, rfl⟩ : ∃ n : Nat, v = -((n + 1 : Nat) : Int) := ⟨v.natAbs - 1, by omega⟩
    rw [tl_ofString]
    have e : (toString (-((n + 1 : Nat) : Int))) = "-" ++ toString (((n + 1 : Nat) : Int)) := rfl
    rw [e, String.toList_append, List.map_append]
    have e2 := tl_num (n + 1)
    rw [tl_ofString] at e2
    rw [e2]
    have e3 : (-((n + 1 : Nat) : Int)).natAbs = n + 1 := by omega
    rw [e3]
    rfl
  · rw [if_neg h]
    obtain ⟨n, rfl⟩ : ∃ n : Nat, v = (n : Int) := ⟨v.natAbs, by omega⟩
    rw [tl_num]
    rfl
theorem numL_head0 : ∀ n : Nat, n ≠ 0 → ∃ c r, numL n = c :: r ∧ c ≠ 48 := by
  intro n
  induction n using Nat.strongRecOn with
  | _ n ih =>
    intro h0
    by_cases h : n < 10
    · exact ⟨48 + n, [], numL_lt h, by omega⟩
    · obtain ⟨c, r, e, hc⟩ := ih (n / 10) (by omega) (by omega)
      exact ⟨c, r ++ [48 + n % 10], by rw [numL_step (by omega), e]; rfl, hc⟩
theorem digitsVal_snoc (l : List Nat) (c : Nat) : NumText.digitsVal (l ++ [c]) = NumText.digitsVal l * 10 + (c - 48) := by
  unfold NumText.digitsVal
  rw [List.foldl_append]
  rfl
theorem digitsVal_pos : ∀ (l : List Nat) (a : Nat), 0 < a → 0 < l.foldl (fun acc c => acc * 10 + (c - 48)) a
  | [], _, h => h
  | c :: r, a, h => digitsVal_pos r (a * 10 + (c - 48)) (Nat.lt_of_lt_of_le (by omega : 0 < a * 10) (Nat.le_add_right _ _))
/-- signs that are a number's own -/
def Canon (l : List Nat) : Prop := NumText.AllDigits l ∧ l ≠ [] ∧ (l.head? ≠ some 48 ∨ l = [48])
theorem canon_numL (n : Nat) : Canon (numL n) := by
  refine ⟨numL_digits n, numL_ne n, ?_⟩
  by_cases h : n = 0
  · subst h
    exact .inr (numL_lt (by decide))
  · obtain ⟨c, r, e, hc⟩ := numL_head0 n h
    rw [e]
    exact .inl (fun z => hc (Option.some.inj z))
theorem canon_back : ∀ (k : Nat) (l : List Nat), l.length = k → Canon l → numL (NumText.digitsVal l) = l := by
  intro k
  induction k with
  | zero =>
    intro l hl h
    exact absurd (List.length_eq_zero_iff.mp hl) h.2.1
  | succ k ih =>
    intro l hl h
    obtain ⟨h1, h2, h3⟩ := h
    obtain ⟨r, c, rfl⟩ : ∃ r c, l = r ++ [c] := by
      rcases List.eq_nil_or_concat l with e | ⟨r, c, e⟩
      · exact absurd e h2
      · exact ⟨r, c, by rw [e, List.concat_eq_append]⟩
    have hc := h1 c (List.mem_append_right _ (List.mem_singleton.mpr rfl))
    rw [digitsVal_snoc]
    by_cases hr : r = []
    · subst hr
      show numL (0 * 10 + (c - 48)) = [c]
      rw [Nat.zero_mul, Nat.zero_add, numL_lt (by omega)]
      congr 1
      omega
    · have hr3 : r.head? ≠ some 48 := by
        rcases h3 with h3 | h3
        · intro z
          apply h3
          rw [List.head?_append, z]
          rfl
        · exfalso
          have := congrArg List.length h3
          rw [List.length_append] at this
          cases r with
          | nil => exact hr rfl
          | cons a b => simp at this
      have hcan : Canon r := ⟨fun d hd => h1 d (List.mem_append_left _ hd), hr, .inl hr3⟩
      have er := ih r (by rw [List.length_append] at hl; simp only [List.length_cons, List.length_nil] at hl; omega) hcan
      have hpos : 0 < NumText.digitsVal r := by
        cases r with
        | nil => exact absurd rfl hr
        | cons a b =>
          have ha := hcan.1 a List.mem_cons_self
          have : a ≠ 48 := fun z => hr3 (by rw [z]; rfl)
          show 0 < List.foldl (fun acc c => acc * 10 + (c - 48)) (0 * 10 + (a - 48)) b
          exact digitsVal_pos b _ (by omega)
      rw [numL_step (by omega)]
      have e1 : (NumText.digitsVal r * 10 + (c - 48)) / 10 = NumText.digitsVal r := by omega
      have e2 : (NumText.digitsVal r * 10 + (c - 48)) % 10 = c - 48 := by omega
      rw [e1, e2, er]
      congr 2
      omega
/-- the number that signs tell, with a minus ahead or not -/
def valOf : List Nat → Int
  | 45 :: r => -((NumText.digitsVal r : Nat) : Int)
  | l => ((NumText.digitsVal l : Nat) : Int)
/-- the digits of a value's signs -/
def digOf : List Nat → List Nat
  | 45 :: r => r
  | l => l
def allDig (l : List Nat) : Bool := l.all fun c => decide (48 ≤ c) && decide (c ≤ 57)
theorem allDig_iff {l : List Nat} : allDig l = true ↔ NumText.AllDigits l := by
  unfold allDig NumText.AllDigits
  rw [List.all_eq_true]
  constructor
  · intro h c hc
    have := h c hc
    simp only [Bool.and_eq_true, decide_eq_true_eq] at this
    exact this
  · intro h c hc
    have := h c hc
    simp only [Bool.and_eq_true, decide_eq_true_eq]
    exact this
/-- signs of a value as it is written -/
def goodVal (l : List Nat) : Bool := decide ((digOf l).length ≤ 60) && allDig (digOf l) && ((match digOf l with | [] => false | c :: _ => !decide (c = 48)) || decide (l = [48]))
theorem goodVal_ne {l : List Nat} (h : goodVal l = true) : digOf l ≠ [] := by
  intro z
  unfold goodVal at h
  rw [z] at h
  simp only [Bool.and_eq_true, Bool.or_eq_true, decide_eq_true_eq, Bool.false_eq_true, false_or] at h
  rw [h.2] at z
  cases z
theorem digOf_minus (r : List Nat) : digOf (45 :: r) = r := rfl
theorem valOf_minus (r : List Nat) : valOf (45 :: r) = -((NumText.digitsVal r : Nat) : Int) := rfl
theorem digOf_else {l : List Nat} (h : l.head? ≠ some 45) : digOf l = l := by
  unfold digOf
  split
  · exact absurd rfl h
  · rfl
theorem valOf_else {l : List Nat} (h : l.head? ≠ some 45) : valOf l = ((NumText.digitsVal l : Nat) : Int) := by
  unfold valOf
  split
  · exact absurd rfl h
  · rfl
theorem minus_or (l : List Nat) : (∃ r, l = 45 :: r) ∨ l.head? ≠ some 45 := by
  cases l with
  | nil => exact .inr (fun z => by cases z)
  | cons c r =>
    by_cases h : c = 45
    · exact .inl ⟨r, by rw [h]⟩
    · exact .inr (fun z => h (Option.some.inj z))
theorem goodVal_back {l : List Nat} (h : goodVal l = true) : intL (valOf l) = l := by
  have hne := goodVal_ne h
  unfold goodVal at h
  simp only [Bool.and_eq_true, Bool.or_eq_true, decide_eq_true_eq] at h
  obtain ⟨⟨h1, h2⟩, h3⟩ := h
  have h2 := allDig_iff.mp h2
  rcases minus_or l with ⟨r, rfl⟩ | hm
  · rw [digOf_minus] at h1 h2 h3 hne
    have h4 : r.head? ≠ some 48 := by
      rcases h3 with h3 | h3
      · cases r with
        | nil => exact absurd rfl hne
        | cons c s =>
          intro z
          cases Option.some.inj z
          simp at h3
      · cases h3
    have hc : Canon r := ⟨h2, hne, .inl h4⟩
    have e := canon_back _ r rfl hc
    have hp : 0 < NumText.digitsVal r := by
      rcases Nat.eq_zero_or_pos (NumText.digitsVal r) with z | z
      · exfalso
        rw [z, numL_lt (by decide)] at e
        rw [← e] at h4
        exact h4 rfl
      · exact z
    rw [valOf_minus]
    unfold intL
    rw [if_pos (by omega)]
    have : (-((NumText.digitsVal r : Nat) : Int)).natAbs = NumText.digitsVal r := by omega
    rw [this, e]
  · rw [digOf_else hm] at h1 h2 h3 hne
    have hc : Canon l := by
      refine ⟨h2, hne, ?_⟩
      rcases h3 with h3 | h3
      · cases l with
        | nil => exact absurd rfl hne
        | cons c s =>
          refine .inl fun z => ?_
          cases Option.some.inj z
          simp at h3
      · exact .inr h3
    rw [valOf_else hm]
    unfold intL
    rw [if_neg (by omega)]
    exact canon_back _ l rfl hc
theorem intL_head (n : Nat) : (numL n).head? ≠ some 45 := by
  intro z
  cases e : numL n with
  | nil => exact numL_ne n e
  | cons c r =>
    rw [e] at z
    cases Option.some.inj z
    have := numL_digits n 45 (by rw [e]; exact List.mem_cons_self)
    omega
theorem goodVal_int {v : Int} (h : v.natAbs < 10 ^ 60) : goodVal (intL v) = true ∧ valOf (intL v) = v := by
  have hl := numL_len (n := v.natAbs) (k := 60) (by decide) h
  have hc := canon_numL v.natAbs
  unfold intL
  by_cases hv : v < 0
  · rw [if_pos hv]
    constructor
    · unfold goodVal
      rw [digOf_minus]
      simp only [Bool.and_eq_true, Bool.or_eq_true, decide_eq_true_eq]
      refine ⟨⟨hl, allDig_iff.mpr hc.1⟩, .inl ?_⟩
      obtain ⟨c, r, e, h48⟩ := numL_head0 v.natAbs (by omega)
      rw [e]
      simp only [Bool.not_eq_true', decide_eq_false_iff_not]
      exact h48
    · rw [valOf_minus, numL_val]
      omega
  · rw [if_neg hv]
    constructor
    · unfold goodVal
      rw [digOf_else (intL_head _)]
      simp only [Bool.and_eq_true, Bool.or_eq_true, decide_eq_true_eq]
      refine ⟨⟨hl, allDig_iff.mpr hc.1⟩, ?_⟩
      rcases hc.2.2 with h3 | h3
      · left
        cases e : numL v.natAbs with
        | nil => exact absurd e hc.2.1
        | cons c r =>
          rw [e] at h3
          simp only [Bool.not_eq_true', decide_eq_false_iff_not]
          exact fun z => h3 (by rw [z]; rfl)
      · exact .inr h3
    · rw [valOf_else (intL_head _), numL_val]
      omega
theorem goodVal_free {l : List Nat} (h : goodVal l = true) {s : Nat} (hs : s < 45 ∨ s = 46 ∨ s = 47 ∨ 57 < s) : s ∉ l := by
  unfold goodVal at h
  simp only [Bool.and_eq_true, Bool.or_eq_true, decide_eq_true_eq] at h
  have h2 := allDig_iff.mp h.1.2
  rcases minus_or l with ⟨r, rfl⟩ | hm
  · rw [digOf_minus] at h2
    intro z
    rcases List.mem_cons.mp z with e | z
    · omega
    · have := h2 s z
      omega
  · rw [digOf_else hm] at h2
    intro z
    have := h2 s z
    omega
/-! ### messages -/
abbrev cS : Str := Str.ofString ":"
abbrev spS : Str := Str.ofString " "
abbrev miS : Str := Str.ofString "-"
def msgS (m : Int × Int) : Str := Str.ofString (toString m.1) ++ cS ++ Str.ofString (toString m.2)
def textOf (ms : List (Int × Int)) : Str := if ms = [] then miS else Txt.join spS (ms.map msgS)
/-- a part of a text that is a message -/
def goodPart (many : Int) : List Nat → Bool
  | c :: 58 :: v => decide (48 ≤ c) && decide (c ≤ 53) && decide ((c : Int) - 48 < many) && goodVal v
  | _ => false
def msgOf : List Nat → Int × Int
  | c :: 58 :: v => ((c : Int) - 48, valOf v)
  | _ => (0, 0)
def goodText (many : Int) (z : Str) : Bool := decide (z = miS) || (Txt.split z spS).all fun p => goodPart many (tl p)
def msgsOf (z : Str) : List (Int × Int) := if z = miS then [] else (Txt.split z spS).map fun p => msgOf (tl p)
theorem tl_msg (m : Int × Int) : tl (msgS m) = intL m.1 ++ 58 :: intL m.2 := by
  unfold msgS
  rw [tl_append, tl_append, tl_int, tl_int, List.append_assoc]
  rfl
theorem intL_word {w : Int} (h0 : 0 ≤ w) (h1 : w < 10) : intL w = [48 + w.toNat] := by
  unfold intL
  rw [if_neg (by omega), numL_lt (by omega)]
  congr 2
  omega
theorem goodPart_msg {many : Int} {m : Int × Int} (h0 : 0 ≤ m.1) (h1 : m.1 < many) (h2 : m.1 < 6) (hv : m.2.natAbs < 10 ^ 60) : goodPart many (tl (msgS m)) = true ∧ msgOf (tl (msgS m)) = m := by
  have g := goodVal_int hv
  rw [tl_msg, intL_word h0 (by omega)]
  show (decide (48 ≤ 48 + m.1.toNat) && decide (48 + m.1.toNat ≤ 53) && decide (((48 + m.1.toNat : Nat) : Int) - 48 < many) && goodVal (intL m.2)) = true ∧ ((((48 + m.1.toNat : Nat) : Int) - 48, valOf (intL m.2)) : Int × Int) = m
  constructor
  · rw [g.1, decide_eq_true (by omega), decide_eq_true (by omega), decide_eq_true (by omega)]
    rfl
  · rw [g.2]
    have : (((48 + m.1.toNat : Nat) : Int) - 48) = m.1 := by omega
    rw [this]
theorem goodPart_form {many : Int} {l : List Nat} (h : goodPart many l = true) : ∃ c v, l = c :: 58 :: v ∧ 48 ≤ c ∧ c ≤ 53 ∧ (c : Int) - 48 < many ∧ goodVal v = true := by
  unfold goodPart at h
  split at h
  · rename_i c v
    simp only [Bool.and_eq_true, decide_eq_true_eq] at h
    exact ⟨c, v, rfl, h.1.1.1, h.1.1.2, h.1.2, h.2⟩
  · cases h
theorem msg_back {many : Int} {p : Str} (h : goodPart many (tl p) = true) : msgS (msgOf (tl p)) = p := by
  obtain ⟨c, v, e, h1, h2, h3, h4⟩ := goodPart_form h
  refine ext_tl ?_
  rw [tl_msg, e]
  show intL ((c : Int) - 48) ++ 58 :: intL (valOf v) = c :: 58 :: v
  rw [intL_word (by omega) (by omega), goodVal_back h4]
  have : 48 + ((c : Int) - 48).toNat = c := by omega
  rw [this]
  rfl
theorem msg_free {m : Int × Int} (h0 : 0 ≤ m.1) (h2 : m.1 < 6) (hv : m.2.natAbs < 10 ^ 60) : 32 ∉ tl (msgS m) := by
  have g := goodVal_int hv
  rw [tl_msg, intL_word h0 (by omega)]
  intro z
  rcases List.mem_append.mp z with z | z
  · have := List.mem_singleton.mp z
    omega
  · rcases List.mem_cons.mp z with z | z
    · omega
    · exact goodVal_free g.1 (.inl (by decide)) z
theorem sp_kind : spS.cps.all (· < 256) = true := by decide +kernel
theorem c_kind : cS.cps.all (· < 256) = true := by decide +kernel
theorem tl_sp : tl spS = 32 :: [] := by decide +kernel
theorem tl_c : tl cS = 58 :: [] := by decide +kernel
theorem tl_mi : tl miS = 45 :: [] := by decide +kernel
def InRange (many : Int) (ms : List (Int × Int)) : Prop := ∀ m ∈ ms, 0 ≤ m.1 ∧ m.1 < many ∧ m.2.natAbs < 10 ^ 60
theorem split_text {many : Int} {ms : List (Int × Int)} (hm : many ≤ 6) (h : InRange many ms) (hne : ms ≠ []) : Txt.split (Txt.join spS (ms.map msgS)) spS = ms.map msgS := by
  refine split_join tl_sp sp_kind (fun z => hne (List.map_eq_nil_iff.mp z)) fun p hp => ?_
  obtain ⟨m, hm', rfl⟩ := List.mem_map.mp hp
  obtain ⟨a, b, c⟩ := h m hm'
  exact msg_free a (by omega) c
theorem join_ne {many : Int} {ms : List (Int × Int)} (hm : many ≤ 6) (h : InRange many ms) (hne : ms ≠ []) : Txt.join spS (ms.map msgS) ≠ miS := by
  intro z
  have e := split_text hm h hne
  have e2 : Txt.split miS spS = [miS] := by decide +kernel
  rw [z, e2] at e
  cases ms with
  | nil => exact hne rfl
  | cons m r =>
    simp only [List.map_cons, List.cons.injEq] at e
    have := congrArg tl e.1
    rw [tl_mi, tl_msg] at this
    obtain ⟨a, b, c⟩ := h m List.mem_cons_self
    rw [intL_word a (by omega)] at this
    simp at this
theorem text_good {many : Int} {ms : List (Int × Int)} (hm : many ≤ 6) (h : InRange many ms) : goodText many (textOf ms) = true ∧ msgsOf (textOf ms) = ms := by
  unfold textOf goodText msgsOf
  by_cases hne : ms = []
  · subst hne
    exact ⟨by rw [if_pos rfl, decide_eq_true rfl]; rfl, by rw [if_pos rfl, if_pos rfl]⟩
  · rw [if_neg hne, if_neg (join_ne hm h hne), split_text hm h hne]
    constructor
    · rw [List.all_map, Bool.or_eq_true]
      right
      rw [List.all_eq_true]
      intro m hm'
      obtain ⟨a, b, c⟩ := h m hm'
      exact (goodPart_msg a b (by omega) c).1
    · rw [List.map_map]
      conv => rhs; rw [← List.map_id ms]
      refine List.map_congr_left fun m hm' => ?_
      obtain ⟨a, b, c⟩ := h m hm'
      exact (goodPart_msg a b (by omega) c).2
theorem spl_len (S : List Nat) : ∀ (l : List Nat) (k : Nat) (acc : List Nat), (spl S k acc l).length ≤ l.length + 1 ∧ 1 ≤ (spl S k acc l).length ∧ ∀ p ∈ spl S k acc l, p.length ≤ acc.length + l.length
  | [], k, acc => by
    rw [spl_nil]
    refine ⟨Nat.le_refl _, Nat.le_refl _, fun p hp => ?_⟩
    rw [List.mem_singleton.mp hp]
    exact Nat.le_add_right _ _
  | c :: r, 0, acc => by
    by_cases h : pre S (c :: r) = true
    · rw [spl_hit h]
      obtain ⟨a, b, d⟩ := spl_len S r (S.length - 1) []
      simp only [List.length_cons]
      refine ⟨by omega, by omega, fun p hp => ?_⟩
      rcases List.mem_cons.mp hp with e | hp
      · rw [e]
        omega
      · have := d p hp
        simp only [List.length_nil] at this
        omega
    · rw [spl_miss (by cases e : pre S (c :: r) with | true => exact absurd e h | false => rfl)]
      obtain ⟨a, b, d⟩ := spl_len S r 0 (acc ++ [c])
      simp only [List.length_cons]
      refine ⟨by omega, by omega, fun p hp => ?_⟩
      have := d p hp
      simp only [List.length_append, List.length_cons, List.length_nil] at this
      omega
  | c :: r, k + 1, acc => by
    show (spl S k acc r).length ≤ _ ∧ 1 ≤ (spl S k acc r).length ∧ ∀ p ∈ spl S k acc r, _
    obtain ⟨a, b, d⟩ := spl_len S r k acc
    simp only [List.length_cons]
    refine ⟨by omega, by omega, fun p hp => ?_⟩
    have := d p hp
    omega
theorem split_len {x y : Str} (hy : tl y ≠ []) (hk : y.cps.all (· < 256) = true) : (Txt.split x y).length ≤ x.length + 1 ∧ 1 ≤ (Txt.split x y).length ∧ ∀ p ∈ Txt.split x y, p.length ≤ x.length := by
  have e := split_spl x y hy (kind_ok hk)
  obtain ⟨a, b, d⟩ := spl_len (tl y) (tl x) 0 []
  rw [← e, List.length_map] at a b
  rw [← len_tl] at a
  refine ⟨a, b, fun p hp => ?_⟩
  have := d (tl p) (by rw [← e]; exact List.mem_map.mpr ⟨p, hp, rfl⟩)
  rw [← len_tl, ← len_tl] at this
  simpa using this
theorem split_ne (x : Str) : Txt.split x spS ≠ [] := by
  intro z
  have := (split_len (x := x) (y := spS) (by rw [tl_sp]; simp) sp_kind).2.1
  rw [z] at this
  exact absurd this (by decide)
theorem fold_lt : ∀ (l : List Nat) (a k : Nat), NumText.AllDigits l → a < 10 ^ k → l.foldl (fun acc c => acc * 10 + (c - 48)) a < 10 ^ (k + l.length)
  | [], _, _, _, h => h
  | c :: r, a, k, h, ha => by
    have hc := h.head
    have e : 10 ^ (k + (c :: r).length) = 10 ^ (k + 1 + r.length) := by
      congr 1
      simp only [List.length_cons]
      omega
    rw [e]
    refine fold_lt r (a * 10 + (c - 48)) (k + 1) h.tail ?_
    rw [Nat.pow_succ]
    omega
theorem goodVal_lt {l : List Nat} (h : goodVal l = true) : (valOf l).natAbs < 10 ^ 60 := by
  unfold goodVal at h
  simp only [Bool.and_eq_true, Bool.or_eq_true, decide_eq_true_eq] at h
  obtain ⟨⟨h1, h2⟩, h3⟩ := h
  have h2 := allDig_iff.mp h2
  have key : ∀ d : List Nat, d.length ≤ 60 → NumText.AllDigits d → NumText.digitsVal d < 10 ^ 60 := fun d hd ha => by
    have := fold_lt d 0 0 ha (by decide)
    unfold NumText.digitsVal
    rw [Nat.zero_add] at this
    exact Nat.lt_of_lt_of_le this (Nat.pow_le_pow_right (by decide) hd)
  rcases minus_or l with ⟨r, rfl⟩ | hm
  · rw [digOf_minus] at h1 h2
    rw [valOf_minus]
    have := key r h1 h2
    omega
  · rw [digOf_else hm] at h1 h2
    rw [valOf_else hm]
    have := key l h1 h2
    omega
theorem good_back {many : Int} {z : Str} (h : goodText many z = true) : textOf (msgsOf z) = z := by
  unfold goodText at h
  unfold textOf msgsOf
  by_cases hz : z = miS
  · rw [if_pos hz, if_pos rfl, hz]
  · rw [if_neg hz, if_neg (fun e => split_ne z (List.map_eq_nil_iff.mp e)), List.map_map]
    rw [decide_eq_false hz, Bool.false_or, List.all_eq_true] at h
    have : (Txt.split z spS).map (msgS ∘ fun p => msgOf (tl p)) = Txt.split z spS := by
      conv => rhs; rw [← List.map_id (Txt.split z spS)]
      exact List.map_congr_left fun p hp => msg_back (h p hp)
    rw [this, join_eq, PySem.StrLaws.join_split]
theorem good_range {many : Int} {z : Str} (h : goodText many z = true) : InRange many (msgsOf z) := by
  unfold goodText at h
  unfold msgsOf
  by_cases hz : z = miS
  · rw [if_pos hz]
    exact fun _ z => by cases z
  · rw [if_neg hz]
    rw [decide_eq_false hz, Bool.false_or, List.all_eq_true] at h
    intro m hm
    obtain ⟨p, hp, rfl⟩ := List.mem_map.mp hm
    obtain ⟨c, v, e, h1, h2, h3, h4⟩ := goodPart_form (h p hp)
    rw [e]
    show 0 ≤ (c : Int) - 48 ∧ (c : Int) - 48 < many ∧ (valOf v).natAbs < 10 ^ 60
    exact ⟨by omega, h3, goodVal_lt h4⟩
end Sb

/-! What the parts of a text are asked. -/
namespace Sb
open PySem PySem.Spec PyProof.Rows L2 TL
theorem starts_minus (z : Str) : Txt.startswith z miS = decide ((tl z).head? = some 45) := by
  have hl : miS.length = 1 := by decide +kernel
  unfold Txt.startswith
  rw [PySem.StrLaws.subAt_eq, hl, List.drop_zero, show miS.cps.toList = [45] from tl_mi]
  have e : z.length = (tl z).length := len_tl z
  rw [e]
  show (decide (0 + 1 ≤ (tl z).length) && ((tl z).take 1 == [45])) = _
  cases tl z with
  | nil => rfl
  | cons c r =>
    simp only [List.length_cons, List.take_succ_cons, List.take_zero, List.head?_cons, Option.some.injEq]
    rw [decide_eq_true (by omega), Bool.true_and]
    by_cases h : c = 45
    · subst h; rfl
    · rw [decide_eq_false h]
      exact beq_eq_false_iff_ne.mpr (fun z => h (List.cons.inj z).1)
theorem tl_cut_from (z : Str) (k : Nat) : tl (cutS z (some (k : Int)) none) = (tl z).drop k := by
  unfold cutS
  rw [HT.sIx_nat, HT.sIx_none]
  show ((tl z).drop (min k z.length)).take (z.length - min k z.length) = (tl z).drop k
  rw [len_tl]
  by_cases h : k ≤ (tl z).length
  · rw [Nat.min_eq_left h]
    exact List.take_of_length_le (by rw [List.length_drop]; exact Nat.le_refl _)
  · rw [Nat.min_eq_right (by omega), List.drop_eq_nil_of_le (Nat.le_refl _), List.drop_eq_nil_of_le (by omega), List.take_nil]
theorem tl_cut_to (z : Str) (k : Nat) : tl (cutS z none (some (k : Int))) = (tl z).take k := by
  unfold cutS
  rw [HT.sIx_nat, HT.sIx_none]
  show ((tl z).drop 0).take (min k z.length - 0) = (tl z).take k
  rw [len_tl, List.drop_zero, Nat.sub_zero]
  by_cases h : k ≤ (tl z).length
  · rw [Nat.min_eq_left h]
  · rw [Nat.min_eq_right (by omega), List.take_of_length_le (Nat.le_refl _), List.take_of_length_le (by omega)]
theorem digit_low : ∀ c : Nat, c < 128 → Unicode.isDigit c = (decide (48 ≤ c) && decide (c ≤ 57)) := by decide +kernel
theorem asc_dig (z : Str) (h : Txt.isascii z = true) : Txt.isdigit z = (!decide (tl z = []) && allDig (tl z)) := by
  unfold Txt.isascii at h
  unfold Txt.isdigit allDig
  rw [← Array.all_toList] at h ⊢
  rw [len_tl]
  have e : ∀ l : List Nat, l.all (fun c => decide (c < 128)) = true → l.all Unicode.isDigit = l.all fun c => decide (48 ≤ c) && decide (c ≤ 57) := by
    intro l hl
    induction l with
    | nil => rfl
    | cons c r ih =>
      simp only [List.all_cons, Bool.and_eq_true, decide_eq_true_eq] at hl ⊢
      rw [ih (by exact hl.2), digit_low c hl.1]
  rw [e _ h]
  show (decide ((tl z).length > 0) && (tl z).all fun c => decide (48 ≤ c) && decide (c ≤ 57)) = (!decide (tl z = []) && (tl z).all fun c => decide (48 ≤ c) && decide (c ≤ 57))
  generalize tl z = l
  cases l with
  | nil => rfl
  | cons c r => congr 1
theorem dig_asc (z : Str) (h : allDig (tl z) = true) : Txt.isascii z = true := by
  unfold Txt.isascii
  rw [← Array.all_toList, List.all_eq_true]
  intro c hc
  have := allDig_iff.mp h c hc
  exact decide_eq_true (by omega)
/-- what is_written_value asks of the digits -/
theorem written_iff {z d : Str} (ed : tl d = digOf (tl z)) : goodVal (tl z) = (if d.length > 60 ∨ Txt.isascii d = false ∨ Txt.isdigit d = false then false else (!decide ((tl d).head? = some 48) || decide (tl z = [48]))) := by
  unfold goodVal
  rw [← ed, len_tl]
  by_cases h1 : (tl d).length > 60
  · rw [if_pos (.inl h1), decide_eq_false (by omega)]
    rfl
  · rw [decide_eq_true (show (tl d).length ≤ 60 by omega), Bool.true_and]
    by_cases h2 : Txt.isascii d = true
    · rw [asc_dig d h2]
      by_cases h3 : tl d = []
      · rw [if_pos (.inr (.inr (by rw [decide_eq_true h3]; rfl))), h3]
        have : tl z ≠ [48] := by
          intro e
          rw [e] at ed
          rw [h3] at ed
          cases ed
        rw [decide_eq_false this]
        rfl
      · by_cases h4 : allDig (tl d) = true
        · rw [if_neg (by rintro (z | z | z) <;> first | omega | (rw [h2] at z; cases z) | (rw [decide_eq_false h3, h4] at z; cases z)), h4, Bool.true_and]
          cases e : tl d with
          | nil => exact absurd e h3
          | cons c r =>
            simp only [List.head?_cons, Option.some.injEq]
        · have h4 : allDig (tl d) = false := by cases e : allDig (tl d) with | true => exact absurd e h4 | false => rfl
          rw [if_pos (.inr (.inr (by rw [h4, Bool.and_false]))), h4, Bool.false_and]
    · have h2' : Txt.isascii d = false := by cases e : Txt.isascii d with | true => exact absurd e h2 | false => rfl
      rw [if_pos (.inr (.inl h2'))]
      have : allDig (tl d) = false := by
        cases e : allDig (tl d) with
        | false => rfl
        | true => exact absurd (dig_asc d e) h2
      rw [this]
      rfl
theorem goodVal_int? {z : Str} (h : goodVal (tl z) = true) : intText? z = some (valOf (tl z)) ∧ z.length ≤ 61 := by
  have hne := goodVal_ne h
  unfold goodVal at h
  simp only [Bool.and_eq_true, Bool.or_eq_true, decide_eq_true_eq] at h
  obtain ⟨⟨h1, h2⟩, h3⟩ := h
  have h2 := allDig_iff.mp h2
  rcases minus_or (tl z) with ⟨r, e⟩ | hm
  · rw [e] at h1 h2 hne ⊢
    rw [digOf_minus] at h1 h2 hne
    have hl : z.length = r.length + 1 := by rw [len_tl, e]; rfl
    exact ⟨intText_neg e h2 hne (by omega), by omega⟩
  · rw [digOf_else hm] at h1 h2 hne
    rw [valOf_else hm]
    have hl := len_tl z
    exact ⟨intText_digits h2 hne (by omega), by omega⟩
/-! ### the law's own questions -/
def isNum (k : Int) (l : List Nat) : Bool := !decide (l = []) && !decide ((l.length : Int) > k) && allDig l && (decide (l = [48]) || !decide (l.head? = some 48))
theorem goodVal_num (l : List Nat) : goodVal l = (if l.head? = some 45 then !decide (l.drop 1 = [48]) && isNum 60 (l.drop 1) else isNum 60 l) := by
  have key : ∀ d : List Nat, decide (d.length ≤ 60) = !decide ((d.length : Int) > 60) := fun d => by
    by_cases h : d.length ≤ 60
    · rw [decide_eq_true h, decide_eq_false (by omega)]; rfl
    · rw [decide_eq_false h, decide_eq_true (by omega)]; rfl
  rcases minus_or l with ⟨r, rfl⟩ | hm
  · rw [if_pos (show (45 :: r).head? = some 45 from rfl)]
    show goodVal (45 :: r) = (!decide (r = [48]) && isNum 60 r)
    unfold goodVal isNum
    rw [digOf_minus, key]
    cases r with
    | nil => rfl
    | cons c s =>
      simp only [List.head?_cons, Option.some.injEq]
      rw [decide_eq_false (show ¬ (45 :: c :: s = [48]) by intro z; cases z), Bool.or_false, decide_eq_false (show ¬ (c :: s = []) by intro z; cases z)]
      by_cases h48 : c = 48
      · subst h48
        rw [decide_eq_true rfl]
        by_cases hs : s = []
        · subst hs
          simp
        · rw [decide_eq_false (show ¬ (48 :: s = [48]) by intro z; exact hs (List.cons.inj z).2)]
          simp
      · rw [decide_eq_false h48, decide_eq_false (show ¬ (c :: s = [48]) by intro z; exact h48 (List.cons.inj z).1)]
        simp
  · rw [if_neg hm]
    unfold goodVal isNum
    rw [digOf_else hm, key]
    cases l with
    | nil => rfl
    | cons c s =>
      simp only [List.head?_cons, Option.some.injEq]
      rw [decide_eq_false (show ¬ (c :: s = []) by intro z; cases z), Bool.not_false, Bool.true_and, Bool.or_comm]
/-- a part by the law's cut at the colons -/
theorem goodPart_cut {many : Int} (hm : many ≤ 6) (p : Str) : goodPart many (tl p) = (match Txt.split p cS with | [a, b] => isNum 1 (tl a) && decide (valOf (tl a) < many) && goodVal (tl b) | _ => false) := by
  have e := split_spl p cS (by rw [tl_c]; simp) (kind_ok c_kind)
  rw [tl_c] at e
  cases h : goodPart many (tl p) with
  | true =>
    obtain ⟨c, v, el, h1, h2, h3, h4⟩ := goodPart_form h
    have hf : 58 ∉ v := goodVal_free h4 (.inr (.inr (.inr (by decide))))
    have e2 : spl [58] 0 [] (tl p) = [[c], v] := by
      rw [el]
      show spl (58 :: []) 0 [] ([c] ++ (58 :: [] ++ v)) = _
      rw [spl_part1 (by intro z; have := List.mem_singleton.mp z; omega), spl_last1 hf]
      rfl
    rw [e2] at e
    cases es : Txt.split p cS with
    | nil => rw [es] at e; simp at e
    | cons a r =>
      cases r with
      | nil => rw [es] at e; simp at e
      | cons b r =>
        cases r with
        | cons _ _ => rw [es] at e; simp at e
        | nil =>
          rw [es] at e
          simp only [List.map_cons, List.map_nil, List.cons.injEq, and_true] at e
          obtain ⟨ea, eb⟩ := e
          show true = (isNum 1 (tl a) && decide (valOf (tl a) < many) && goodVal (tl b))
          rw [ea, eb, h4]
          have hv : valOf [c] = (c : Int) - 48 := by
            rw [valOf_else (by intro z; have := Option.some.inj z; omega)]
            show ((0 * 10 + (c - 48) : Nat) : Int) = _
            omega
          rw [hv, decide_eq_true h3]
          unfold isNum
          have ad : allDig [c] = true := allDig_iff.mpr fun d hd => by rw [List.mem_singleton.mp hd]; omega
          rw [ad]
          by_cases h48 : c = 48
          · subst h48; rfl
          · rw [show decide (([c] : List Nat).head? = some 48) = false from decide_eq_false (fun z => h48 (Option.some.inj z))]
            simp
  | false =>
    split
    · rename_i a b es
      rw [es] at e
      simp only [List.map_cons, List.map_nil] at e
      have ep : p = a ++ cS ++ b := by
        have := PySem.StrLaws.join_split p cS
        rw [es] at this
        exact this.symm
      symm
      rw [Bool.eq_false_iff]
      intro hh
      simp only [Bool.and_eq_true, decide_eq_true_eq] at hh
      obtain ⟨⟨h1, h2⟩, h3⟩ := hh
      unfold isNum at h1
      simp only [Bool.and_eq_true, Bool.not_eq_true', decide_eq_false_iff_not] at h1
      obtain ⟨⟨⟨g1, g2⟩, g3⟩, g4⟩ := h1
      have hc : ∃ c, tl a = [c] := by
        match hta : tl a, g1, g2 with
        | [], g1, _ => exact absurd rfl g1
        | [c], _, _ => exact ⟨c, rfl⟩
        | _ :: _ :: r, _, g2 => simp only [List.length_cons] at g2; omega
      obtain ⟨c, ec⟩ := hc
      rw [ec] at g3 h2
      have hc2 := allDig_iff.mp g3 c (List.mem_singleton.mpr rfl)
      have hv : valOf [c] = (c : Int) - 48 := by
        rw [valOf_else (by intro z; have := Option.some.inj z; omega)]
        show ((0 * 10 + (c - 48) : Nat) : Int) = _
        omega
      rw [hv] at h2
      have : goodPart many (tl p) = true := by
        rw [ep, tl_append, tl_append, ec, tl_c]
        show (decide (48 ≤ c) && decide (c ≤ 53) && decide ((c : Int) - 48 < many) && goodVal (tl b)) = true
        rw [h3, decide_eq_true (by omega), decide_eq_true (by omega), decide_eq_true h2]
        rfl
      rw [this] at h
      cases h
    · rfl
/-- the digit that a word of one sign tells -/
def wordVal (l : List Nat) : Option Int := match l with
  | [c] => if 48 ≤ c ∧ c ≤ 53 then some ((c : Int) - 48) else none
  | _ => none
def ltO (many : Int) : Option Int → Bool
  | some d => decide (d < many)
  | none => false
/-- a part by the program's cut at the first colon -/
theorem goodPart_par {many : Int} (p : Str) : goodPart many (tl p) = (ltO many (wordVal (tl (Txt.partition p cS).1)) && goodVal (tl (Txt.partition p cS).2.2))
    ∧ (goodPart many (tl p) = true → ∃ d, wordVal (tl (Txt.partition p cS).1) = some d ∧ msgOf (tl p) = (d, valOf (tl (Txt.partition p cS).2.2))) := by
  have e := partition_par p cS (by rw [tl_c]; simp)
  rw [tl_c] at e
  have form : ∀ (l acc : List Nat), (58 ∉ l ∧ par [58] acc l = none) ∨ ∃ a b, l = a ++ 58 :: b ∧ 58 ∉ a ∧ par [58] acc l = some (acc ++ a, b) := by
    intro l
    induction l with
    | nil => exact fun _ => .inl ⟨by simp, rfl⟩
    | cons c r ih =>
      intro acc
      by_cases h : c = 58
      · subst h
        exact .inr ⟨[], r, rfl, by simp, by rw [par_hit (by rfl), List.append_nil]; rfl⟩
      · rw [par_miss (pre_of_head [] r h)]
        rcases ih (acc ++ [c]) with ⟨h1, h2⟩ | ⟨a, b, h1, h2, h3⟩
        · refine .inl ⟨fun z => ?_, h2⟩
          rcases List.mem_cons.mp z with z | z
          · exact h z.symm
          · exact h1 z
        · refine .inr ⟨c :: a, b, by rw [h1]; rfl, fun z => ?_, by rw [h3, List.append_assoc]; rfl⟩
          rcases List.mem_cons.mp z with z | z
          · exact h z.symm
          · exact h2 z
  rcases form (tl p) [] with ⟨hn, hp⟩ | ⟨a, b, ep, ha, hp⟩
  · rw [hp] at e
    rw [e]
    have hg : goodPart many (tl p) = false := by
      cases h : goodPart many (tl p) with
      | false => rfl
      | true =>
        obtain ⟨c, v, el, _⟩ := goodPart_form h
        exact absurd (by rw [el]; simp) hn
    have hv : goodVal (tl Str.empty) = false := by decide +kernel
    rw [hg]
    exact ⟨by show false = (_ && goodVal (tl Str.empty)); rw [hv, Bool.and_false], fun z => by cases z⟩
  · rw [hp] at e
    rw [e]
    show goodPart many (tl p) = (ltO many (wordVal a) && goodVal b) ∧ (goodPart many (tl p) = true → ∃ d, wordVal a = some d ∧ msgOf (tl p) = (d, valOf b))
    rw [ep]
    match a, ha with
    | [], _ =>
      have hg : goodPart many (([] : List Nat) ++ 58 :: b) = false := by
        cases h : goodPart many (([] : List Nat) ++ 58 :: b) with
        | false => rfl
        | true =>
          obtain ⟨c, v, el, h1, h2, _⟩ := goodPart_form h
          simp only [List.nil_append, List.cons.injEq] at el
          omega
      rw [hg]
      exact ⟨rfl, fun z => by cases z⟩
    | [c], _ =>
      show (decide (48 ≤ c) && decide (c ≤ 53) && decide ((c : Int) - 48 < many) && goodVal b) = _ ∧ _
      have hw : wordVal [c] = if 48 ≤ c ∧ c ≤ 53 then some ((c : Int) - 48) else none := rfl
      rw [hw]
      by_cases h : 48 ≤ c ∧ c ≤ 53
      · rw [if_pos h, decide_eq_true h.1, decide_eq_true h.2]
        exact ⟨rfl, fun _ => ⟨_, rfl, rfl⟩⟩
      · rw [if_neg h]
        have : (decide (48 ≤ c) && decide (c ≤ 53)) = false := by
          rw [Bool.eq_false_iff]
          intro z
          simp only [Bool.and_eq_true, decide_eq_true_eq] at z
          exact h z
        rw [this]
        refine ⟨rfl, fun z => ?_⟩
        have z2 : (decide (48 ≤ c) && decide (c ≤ 53) && decide ((c : Int) - 48 < many) && goodVal b) = true := z
        rw [this] at z2
        cases z2
    | x :: y :: r, ha =>
      have hy : y ≠ 58 := fun z => ha (by rw [z]; simp)
      have hg : goodPart many (x :: y :: r ++ 58 :: b) = false := by
        cases h : goodPart many (x :: y :: r ++ 58 :: b) with
        | false => rfl
        | true =>
          obtain ⟨c, v, el, _⟩ := goodPart_form h
          simp only [List.cons_append, List.cons.injEq] at el
          exact absurd el.2.1 hy
      rw [hg]
      exact ⟨rfl, fun z => by cases z⟩
end Sb

/-! A written table of words asked by get, a text many times. -/
namespace Sb
open PySem PySem.Spec PyProof.Rows L2 TL
/-- at a the module's table: f z the number of the word z -/
def DigD (K : PySem.W.Frag) (w : World) (a : Addr) (f : Str → Option Int) : Prop := ∃ es n, K.lookup a = some ⟨.type "dict", none, .dict es n, #[]⟩ ∧ PySem.W.KeysLit w.params es.toList ∧ (a == sysModules) = false ∧
  ∀ z, (∃ i t, f z = some i ∧ PySem.W.nsIn K a z = some (some (.int i t))) ∨ (f z = none ∧ PySem.W.nsIn K a z = some none)
/-- a table as it is written -/
def litF (l : List (Str × Int)) (z : Str) : Option Int := (l.find? fun p => p.1 == z).map (·.2)
def optV : Option Int → V
  | some i => .int i
  | none => .non
def tKGet (K : PySem.W.Frag) (w : World) (td ty : TE) : TE := fun σ H Q => td σ H fun x H1 => ∃ a f, x = .ref a ∧ DigD K w a f ∧ ty σ H1 fun y H2 => ∃ z, y = .str z ∧ Q (optV (f z)) H2
section
variable {X : Cx} {o e : Expr} {td ty : TE} {apos cpos : Pos}
theorem pe_kget (ho : PE X o td) (he : PE X e ty) (m : M1 X o "get" apos e cpos) : PE X (.Call (.Attribute o "get" apos) [e] [] cpos) (tKGet X.K X.w td ty) := by
  refine ⟨fun pins s σ H Q I h => ?_⟩
  refine wpAny_Call_method m.base m.few m.line PySem.F.plainAttrs_dict PySem.F.slot_dict_get PySem.F.type_dict_get (thn (ho.run pins s σ H _ I h) fun u s1 ⟨x, H1, I1, rx, a, f, ex, ⟨es, n, hl, hk, low, hf⟩, q1⟩ => ?_)
  subst ex
  obtain rfl : u = Value.ref a := rx
  have hm := PySem.W.mapOf_K (prog := X.prog) (w := X.w) I1.kIn hl hk
  refine ⟨hm.typeIs, hm.noDict, ?_⟩
  rw [m.trees]
  refine Calls.callWith_builtin rfl (Calls.evalArgs_plain (Calls.spliced_cons (thn (he.run pins s1 σ H1 _ I1 q1) fun iv s2 ⟨y, H2, I2, ry, z, ey, q2⟩ => Calls.spliced_nil ?_)))
  subst ey
  obtain ⟨t, rfl⟩ := (show ∃ t, iv = Value.str z t from ry)
  have hm2 := PySem.W.mapOf_K (prog := X.prog) (w := X.w) I2.kIn hl hk
  refine call_meetsIn PySem.F.slot_dict_get hm2.typeIs PySem.F.entry_dict_get (PySem.F.args_dict_get_2 _ _) (meets_dict_get (strKind X.prog X.w) a (strKind_is X.prog X.w z t) low) ⟨_, hm2, ?_⟩
  rcases hf z with ⟨i, t', ef, en⟩ | ⟨ef, en⟩
  · rw [PySem.W.find_K hl en]
    rw [ef] at q2
    exact ⟨.int i, H2, I2.tok _, ⟨t', rfl⟩, q2⟩
  · rw [PySem.W.find_K hl en]
    rw [ef] at q2
    exact ⟨.non, H2, I2.tok _, rfl, q2⟩
/-- f'..' of two parts or more -/
def tJoin (ts : List TE) : TE := fun σ H Q => tJs ts Str.empty σ H fun out H1 => Q (.str out) H1
theorem pe_joinF {v1 v2 : Expr} {rest : List Expr} {ts : List TE} {pos : Pos} (h : PJ X (v1 :: v2 :: rest) ts) : PE X (.JoinedStr (v1 :: v2 :: rest) pos) (tJoin ts) := pe_joined h
theorem DigD.kd {K : PySem.W.Frag} {w : World} {a : Addr} {f : Str → Option Int} {z : Str} {i : Int} (h : DigD K w a f) (e : f z = some i) : KDct K w a z (.int i) := by
  obtain ⟨es, n, hl, hk, low, hf⟩ := h
  rcases hf z with ⟨j, t, ej, en⟩ | ⟨ej, en⟩
  · rw [e] at ej
    cases ej
    exact ⟨es, n, _, hl, hk, en, ⟨t, rfl⟩⟩
  · rw [e] at ej
    cases ej
theorem op_mulS : OpR X (binaryOp .Mult) (fun x y H Q => ∃ z k, x = .str z ∧ y = .int k ∧ MulOk z k ∧ Q (.str (Txt.mul z k)) H) := by
  intro pins s σ H x y v u Q I rx ry h
  obtain ⟨z, k, rfl, rfl, hz, q⟩ := h
  obtain ⟨t, rfl⟩ := rx
  obtain ⟨t', rfl⟩ := ry
  exact PySem.SB.mul hz fun t' tk => ⟨.str (Txt.mul z k), H, I.tok _, ⟨_, rfl⟩, q⟩
end
end Sb
namespace Sb
open PySem PySem.Spec PyProof.Rows L2 TL
/-- the entries of a table are those that are written -/
def LitD : List (Str × Int) → List DictEntry → Prop
  | [], [] => True
  | p :: l, e :: r => (∃ t, e.key = .str p.1 t) ∧ (∃ u, e.val = .int p.2 u) ∧ LitD l r
  | _, _ => False
theorem LitD.find {z : Str} : ∀ {l : List (Str × Int)} {es : List DictEntry}, LitD l es → es.any (·.refKey) = false ∧
    ((∃ i t e, litF l z = some i ∧ es.find? (·.key.isStr z) = some e ∧ e.val = .int i t) ∨ (litF l z = none ∧ es.find? (·.key.isStr z) = none))
  | [], [], _ => ⟨rfl, .inr ⟨rfl, rfl⟩⟩
  | [], _ :: _, h => h.elim
  | _ :: _, [], h => h.elim
  | p :: l, e :: r, ⟨⟨t, hk⟩, ⟨u, hv⟩, h⟩ => by
    obtain ⟨h1, h2⟩ := LitD.find (z := z) h
    have e1 : e.refKey = false := by unfold DictEntry.refKey; rw [hk]
    have e2 : e.key.isStr z = (p.1 == z) := by rw [hk]; rfl
    refine ⟨by rw [List.any_cons, e1, h1]; rfl, ?_⟩
    unfold litF at h2 ⊢
    rw [List.find?_cons, List.find?_cons, e2]
    cases hz : p.1 == z with
    | true => exact .inl ⟨p.2, u, e, rfl, rfl, hv⟩
    | false => exact h2
theorem digD_of {K : PySem.W.Frag} {w : World} {a : Addr} {es : Array DictEntry} {n : Nat} {l : List (Str × Int)} (hl : K.lookup a = some ⟨.type "dict", none, .dict es n, #[]⟩) (hk : PySem.W.KeysLit w.params es.toList) (hs : (a == sysModules) = false) (he : LitD l es.toList) :
    DigD K w a (litF l) := by
  refine ⟨es, n, hl, hk, hs, fun z => ?_⟩
  obtain ⟨h1, h2⟩ := LitD.find (z := z) he
  have e : PySem.W.nsIn K a z = (match es.toList.find? (·.key.isStr z) with
      | some e => some (some e.val)
      | none => if es.toList.any (·.refKey) then none else some none) := by
    unfold PySem.W.nsIn
    rw [hl]
    rfl
  rw [e]
  rcases h2 with ⟨i, t, e, h3, h4, h5⟩ | ⟨h3, h4⟩
  · exact .inl ⟨i, t, h3, by rw [h4, ← h5]⟩
  · refine .inr ⟨h3, ?_⟩
    rw [h4, h1]
    rfl
end Sb

/-! Lines cut into words, words into what they tell; a star among targets. -/
namespace Sb
open PySem PySem.Spec PyProof.Rows L2 TL
/-! ### a, .., *rest = a list -/
/-- the last target takes what is left, as a new list -/
def gLstStar (K : PySem.W.Frag) (n : Nat) (t : TGs) : TG := fun v σ H Q => ∃ a xs, v = .ref a ∧ SqL K H a xs ∧ n ≤ xs.length ∧ ∀ D, H D = none → t (xs.take n ++ [.ref D]) σ (upd H D (.lst (xs.drop n))) Q
section
variable {X : Cx}
theorem pgs_starLast {e : Expr} {p : Pos} {g : TG} (h1 : PG X e g) : PGs X [.Starred e p] (gCons g gNil) := by
  refine ⟨fun pins s σ H vs us Q I r h => ?_⟩
  obtain ⟨v, vr, rfl, h⟩ := h
  cases r with
  | cons r rr =>
    have hs : (assignEach [.Starred e p] X.env).map (·.2) = [assign e X.env] := rfl
    rw [hs]
    refine assignInOrder_cons (thn (h1.run pins s σ H _ _ _ I r h) fun _ s1 ⟨σ1, H1, I1, q1⟩ => ?_)
    exact pgs_nil.run pins s1 σ1 H1 _ _ Q I1 rr q1
theorem vals_takeS : ∀ {vs : List V} {us : List Value} (n : Nat), Vals vs us → Vals (vs.take n) (us.take n)
  | _, _, 0, _ => by rw [List.take_zero, List.take_zero]; exact .nil
  | [], _, n + 1, h => by cases h; exact .nil
  | v :: vs, _, n + 1, h => by
    cases h with
    | cons a t => exact .cons a (vals_takeS n t)
theorem vals_dropS : ∀ {vs : List V} {us : List Value} (n : Nat), Vals vs us → Vals (vs.drop n) (us.drop n)
  | _, _, 0, h => h
  | [], _, n + 1, h => by cases h; exact .nil
  | v :: vs, _, n + 1, h => by
    cases h with
    | cons a t => exact vals_dropS n t
theorem pg_lstStar {es : List Expr} {k : Nat} {t : TGs} {n : Nat} {pos : Pos} (hc : X.calm = true) (h : PGs X es t) (hn : (assignEach es X.env).length = n + 1 := by rfl) (hst : (assignEach es X.env).findIdx? (·.1) = some n := by rfl) :
    PG X (.Tuple es k pos) (gLstStar X.K n t) := by
  refine ⟨fun pins s σ H v u Q I r hw => ?_⟩
  obtain ⟨a, xs, rfl, hq, hl, hw⟩ := hw
  cases r
  obtain ⟨its, rv, pl, hz⟩ := I.list hq
  have lx := rv.length
  have hL := pl.isList
  have hin : a < s.heap.objs.size := by
    obtain ⟨o, ho, _⟩ := hL
    exact Heap.lt_size ho
  have hlt : a ≠ s.heap.objs.size := Nat.ne_of_lt hin
  have sz : its.toArray.size = xs.length := by simp [lx]
  rw [PyProof.Rows.assign_Tuple]
  refine wpAny_bind (wpAny_standAt ?_)
  unfold unpack
  rw [hn, hst]
  refine wpAny_bind (wpAny_holding ?_)
  unfold unpackItems
  apply wpAny_bind
  unfold notIterableAtAll
  apply wpAny_bind
  refine wpAny_specialOf hL.typeIs PySem.slot_list_iter.lookup ?_
  apply wpAny_pure
  simp only [Bool.false_eq_true, if_false]
  refine wpAny_bind (wpAny_holding (wpAny_pyIter_list hL ?_))
  refine wpAny_bind (wpAny_holding (PySem.W.kun_draw hlt n 0 _ _ ⟨_, Heap.get?_push_size _ rfl, rfl, rfl⟩ (hL.push _) (by omega) fun hA itA sbA => ?_))
  have lA : hA.IsList a its.toArray := (hL.push _).extBut sbA.extBut hlt
  rw [Nat.zero_add] at itA
  obtain ⟨oI, hoI, _⟩ := id itA
  obtain ⟨oL, hoL, _⟩ := id lA
  rw [List.drop_zero]
  have lf : (its.toArray.toList.take n).length = n := by rw [List.length_take, Array.length_toList]; omega
  rw [if_neg (show ¬ ((its.toArray.toList.take n).length < n) by rw [lf]; omega)]
  refine wpAny_bind (wpAny_holding (PySem.W.kun_collect (s := { s with heap := hA }) (T := "list_iterator") (.inr (.inr (.inl rfl))) (Walks.list (A := X.A.in1) (I.ok.hd hc) s.heap.objs.size a hlt its.toArray) (fun _ _ st => st.1.typeIs) (k := n) (by omega) ⟨itA, lA⟩
    (Heap.lt_size hoI) (Heap.lt_size hoL) (fun hB tk kB => ?_) (by rw [sz]; exact hz)))
  dsimp only
  have e1 : n + 1 - 1 - n = 0 := by omega
  rw [e1, if_neg (Nat.not_lt_zero _), Nat.sub_zero]
  have up : ∀ b o, s.heap.get? b = some o → hB.get? b = some o := fun b o e => kB b o (Nat.ne_of_lt (Heap.lt_size e)) (sbA.extBut b o (Nat.ne_of_lt (Heap.lt_size e)) (Heap.get?_push_of_some _ e))
  have I1 : Inv X pins σ H { s with heap := hB, toks := tk } := I.kept up
  have eT : (its.toArray.toList.drop n).take (its.toArray.toList.drop n).length = its.drop n := List.take_of_length_le (Nat.le_refl _)
  have eD : (its.toArray.toList.drop n).drop (its.toArray.toList.drop n).length = [] := List.drop_eq_nil_of_le (Nat.le_refl _)
  rw [eT, eD]
  refine wpAny_bind (wpAny_newList ?_ (by rw [List.length_drop]; omega))
  refine wpAny_pure ?_
  have rv2 := vals_dropS n rv
  have lv2 : (xs.drop n).length ≤ sizeLine := by rw [List.length_drop]; omega
  have hf : H hB.objs.size = none := I1.hok.fresh (Nat.le_refl _)
  have I2 : Inv X pins σ (upd H hB.objs.size (.lst (xs.drop n))) { s with heap := hB.push { cls := .type "list", data := .seq (its.drop n).toArray }, toks := tk } :=
    I1.laid (t' := tk) (fun b o q => Heap.get?_push_of_some _ q) (Nat.le_refl _) ⟨lv2, _, 0, rv2, Heap.get?_push_size _ rfl⟩
  refine h.run pins _ σ _ (xs.take n ++ [.ref hB.objs.size]) _ Q I2 ?_ (hw _ hf)
  rw [List.append_nil]
  exact (vals_takeS n rv).append (.cons rfl .nil)
end
/-! ### the table asked with an answer of one's own -/
def optW (d : V) : Option Int → V
  | some i => .int i
  | none => d
def tKGet2 (K : PySem.W.Frag) (w : World) (td ty tx : TE) : TE := fun σ H Q => td σ H fun x H1 => ∃ a f, x = .ref a ∧ DigD K w a f ∧ ty σ H1 fun y H2 => tx σ H2 fun d H3 => ∃ z, y = .str z ∧ Q (optW d (f z)) H3
def tKNotIn (K : PySem.W.Frag) (w : World) (ty td : TE) : TE := fun σ H Q => ty σ H fun y H1 => td σ H1 fun x H2 => ∃ a f z, x = .ref a ∧ y = .str z ∧ DigD K w a f ∧ Q (.bl (!(f z).isSome)) H2
section
variable {X : Cx} {o e g : Expr} {td ty tx : TE} {apos cpos : Pos}
theorem pe_kget2 (ho : PE X o td) (he : PE X e ty) (hg : PE X g tx) (m : M2 X o "get" apos e g cpos) : PE X (.Call (.Attribute o "get" apos) [e, g] [] cpos) (tKGet2 X.K X.w td ty tx) := by
  refine ⟨fun pins s σ H Q I h => ?_⟩
  refine wpAny_Call_method m.base m.few m.line PySem.F.plainAttrs_dict PySem.F.slot_dict_get PySem.F.type_dict_get (thn (ho.run pins s σ H _ I h) fun u s1 ⟨x, H1, I1, rx, a, f, ex, ⟨es, n, hl, hk, low, hf⟩, q1⟩ => ?_)
  subst ex
  obtain rfl : u = Value.ref a := rx
  have hm := PySem.W.mapOf_K (prog := X.prog) (w := X.w) I1.kIn hl hk
  refine ⟨hm.typeIs, hm.noDict, ?_⟩
  rw [m.trees]
  refine Calls.callWith_builtin rfl (Calls.evalArgs_plain (Calls.spliced_cons (thn (he.run pins s1 σ H1 _ I1 q1) fun iv s2 ⟨y, H2, I2, ry, q2⟩ =>
    Calls.spliced_cons (thn (hg.run pins s2 σ H2 _ I2 q2) fun fv s3 ⟨d, H3, I3, rd, z, ey, q3⟩ => Calls.spliced_nil ?_))))
  subst ey
  obtain ⟨t, rfl⟩ := (show ∃ t, iv = Value.str z t from ry)
  have hm2 := PySem.W.mapOf_K (prog := X.prog) (w := X.w) I3.kIn hl hk
  refine call_meetsIn PySem.F.slot_dict_get hm2.typeIs PySem.F.entry_dict_get (PySem.F.args_dict_get_3 _ _ _) (meets_dict_get_default (strKind X.prog X.w) a (strKind_is X.prog X.w z t) low fv) ⟨_, hm2, ?_⟩
  rcases hf z with ⟨i, t', ef, en⟩ | ⟨ef, en⟩
  · rw [PySem.W.find_K hl en]
    rw [ef] at q3
    exact ⟨.int i, H3, I3.tok _, ⟨t', rfl⟩, q3⟩
  · rw [PySem.W.find_K hl en]
    rw [ef] at q3
    exact ⟨d, H3, I3.tok _, rd, q3⟩
end
end Sb


/-! except (A, B, ..): one clause for several classes. -/
namespace Sb
open PySem PySem.Spec PyProof.Rows L2
open PySem.W (Frag exmAny exmOne exmAny_cons exm_cls Looks)
section
variable {M : Model} {A : Around} {E : Value → Shared → Prop} {s : Shared}
theorem forIn_unit {f : Value → PUnit → Sem (ForInStep PUnit)} : ∀ (cs : List Value), (∀ c ∈ cs, ∀ (Q : ForInStep PUnit → Shared → Prop), Q (.yield PUnit.unit) s → wpAny M A (f c PUnit.unit) Q E s) → ∀ {Q : PUnit → Shared → Prop}, Q PUnit.unit s → wpAny M A (forIn cs PUnit.unit f) Q E s
  | [], _, Q, q => by
    rw [List.forIn_nil]
    exact wpAny_pure q
  | c :: r, h, Q, q => by
    rw [List.forIn_cons]
    refine wpAny_bind (h c List.mem_cons_self _ ?_)
    exact forIn_unit r (fun x hx => h x (List.mem_cons_of_mem _ hx)) q
theorem forIn_any {K : Frag} {cls : Value} {f : Value → Option Bool × Unit → Sem (ForInStep (Option Bool × Unit))} : ∀ (cs : List Value) {b : Bool}, exmAny K cls cs = some b →
    (∀ c ∈ cs, ∀ v, exmOne K cls c = some v → ∀ (Q : ForInStep (Option Bool × Unit) → Shared → Prop), Q (if v = true then .done (some true, ()) else .yield (none, ())) s → wpAny M A (f c (none, ())) Q E s) →
    ∀ {Q : Option Bool × Unit → Shared → Prop}, Q (if b = true then (some true, ()) else (none, ())) s → wpAny M A (forIn cs (none, ()) f) Q E s
  | [], b, hx, _, Q, q => by
    have : some false = some b := hx
    cases this
    rw [List.forIn_nil]
    exact wpAny_pure q
  | c :: r, b, hx, h, Q, q => by
    obtain ⟨b1, d1, x1, y1, z1⟩ := exmAny_cons hx
    rw [List.forIn_cons]
    refine wpAny_bind (h c List.mem_cons_self b1 x1 _ ?_)
    cases b1 with
    | true =>
      rw [Bool.true_or] at z1
      subst z1
      exact wpAny_pure q
    | false =>
      rw [Bool.false_or] at z1
      subst z1
      exact forIn_any r y1 (fun x hx => h x (List.mem_cons_of_mem _ hx)) q
end
theorem exmAny_mem {K : Frag} {cls : Value} : ∀ {cs : List Value} {b : Bool}, exmAny K cls cs = some b → ∀ c ∈ cs, ∃ v, exmOne K cls c = some v
  | [], _, _, _, hc => by cases hc
  | c :: r, b, hx, c', hc => by
    obtain ⟨b1, d1, x1, y1, z1⟩ := exmAny_cons hx
    rcases List.mem_cons.mp hc with rfl | hc
    · exact ⟨b1, x1⟩
    · exact exmAny_mem y1 c' hc
theorem exm_list {M : Model} {K : Frag} {cs : List Value} {cls : Value} {tp e : Addr} {b : Bool} {h : Heap} (X : K.In h) (LT : Looks M h (typeOf (.ref e)) cls) (hp : h.get? tp = some { cls := .type "tuple", data := .seq cs.toArray }) (hx : exmAny K cls cs = some b) :
    Looks M h (excMatches (.ref e) (.ref tp)) b := by
  intro A Q E s k₀ q
  obtain ⟨hh, g, d, tk, os⟩ := s
  have k : ∀ b o, h.get? b = some o → hh.get? b = some o := k₀
  have LT0 : Looks M h (isInstance (.ref tp) (.type "tuple")) true := ((Looks.ld hp).andThen .now).andThen (Looks.of_pure isSubtype_tuple_tuple)
  have LT0 := LT0.keeps k
  have LT := LT.keeps k
  have hp' := k _ _ hp
  have X' := X.keeps k
  unfold excMatches
  refine wpAny_bind (LT0.at ?_)
  dsimp only
  rw [if_pos rfl]
  refine wpAny_bind (wpAny_seqItems hp' rfl ?_)
  refine wpAny_bind (wpAny_pure ?_)
  dsimp only [Option.getD_some, Option.getD]
  refine wpAny_bind (forIn_unit cs (fun c hc Q q => ?_) ?_)
  · obtain ⟨v, hv⟩ := exmAny_mem hx c hc
    refine wpAny_bind ((exm_cls (M := M) X' hv).1.at ?_)
    rw [if_neg (by simp)]
    exact wpAny_pure q
  · refine wpAny_bind (LT.at ?_)
    refine wpAny_bind (forIn_any (K := K) (cls := cls) cs hx (fun c hc v hv Q q => ?_) ?_)
    · refine wpAny_bind ((exm_cls (M := M) X' hv).2.at ?_)
      cases v with
      | true =>
        rw [if_pos rfl] at q ⊢
        exact wpAny_pure q
      | false =>
        rw [if_neg Bool.false_ne_true] at q ⊢
        exact wpAny_pure q
    · cases b with
      | true => exact wpAny_pure q
      | false => exact wpAny_pure q
/-- names read one after the other -/
inductive NamesAll (X : Cx) : List Expr → List Value → Prop
  | nil : NamesAll X [] []
  | cons {x : Str} {c : Value} {p : Pos} {es : List Expr} {cs : List Value} (hc : Names X x c) (r : NamesAll X es cs) : NamesAll X (.Name x p :: es) (c :: cs)
def wTup (K : PySem.W.Frag) (cs : List Value) (ts : Addr → Value → Option Addr → TS) (Wout : WX) (D : Ends) : WX := fun cls d σ H =>
  ∃ b, exmAny K cls cs = some b ∧ (b = true → ∀ a, H a = none → ts a cls d D σ H) ∧ (b = false → Wout cls d σ H)
theorem flyZ_keeps {base h h' : Heap} {l : List Env} {e : Addr} {Z : Obj → Prop} (f : HandSPX.FlyingZ base l e Z h) (k : ∀ b o, h.get? b = some o → h'.get? b = some o) : HandSPX.FlyingZ base l e Z h' := by
  obtain ⟨f1, f2, f3, ⟨oe, vs, T, oT, ts, a1, a2, a3, a4, a5, a6, a7, a8, a9⟩⟩ := f
  exact ⟨fun b o e => k _ _ (f1 b o e), f2, f3.of_keeps fun b o hb _ => ⟨o, k _ _ hb, rfl⟩, oe, vs, T, oT, ts, k _ _ a1, a2, a3, a4, a5, a6, k _ _ a7, a8, a9⟩
theorem names_spl {X : Cx} {A : Around} {env : Env} {s : Shared} {pos : Pos} {Q : List Value → Shared → Prop} {E : Value → Shared → Prop} : ∀ {es : List Expr} {cs : List Value}, NamesAll X es cs →
    (∀ (x : Str) (c : Value) (p : Pos), Names X x c → ∀ (Q : Value → Shared → Prop) (E : Value → Shared → Prop), Q c s → wpAny (model X.prog X.w) A (eval (.Name x p) env) Q E s) → Q cs s →
    wpAny (model X.prog X.w) A (spliced (backTo pos (starEach es env))) Q E s
  | _, _, .nil, _, q => Calls.spliced_nil q
  | _, _, .cons (p := p) hc r, h, q => by
    refine Calls.spliced_cons (h _ _ p hc _ _ ?_)
    exact names_spl (Q := fun vs s2 => Q (_ :: vs) s2) r h q
theorem tup_read {X0 X : Cx} {A : Around} {s : Shared} {np : Pos} {kk : Nat} {Q : Value → Shared → Prop} {E : Value → Shared → Prop} {es : List Expr} {cs : List Value} {pins : List (Addr × Obj)} {σ : L2.St} {H : Hp} (_ : L2.Inv X pins σ H s) (hc : NamesAll X0 es cs)
    (h : ∀ (x : Str) (c : Value) (p : Pos), Names X0 x c → ∀ (Q : Value → Shared → Prop) (E : Value → Shared → Prop), Q c s → wpAny (model X0.prog X0.w) A (eval (.Name x p) X0.env) Q E s) (hz : cs.length ≤ sizeLine)
    (q : Q (.ref s.heap.objs.size) { s with heap := s.heap.push { cls := .type "tuple", data := .seq cs.toArray } }) : wpAny (model X0.prog X0.w) A (eval (.Tuple es kk np) X0.env) Q E s := by
  refine wpAny_Tuple_spliced (names_spl hc h ⟨hz, q⟩)
section
variable {X : Cx} {es : List Expr} {cs : List Value} {kk : Nat} {body suite : List Stmt} {b₀ : Stmt} {np pos pos' : Pos} {tb : WX → TS} {ts : Addr → Value → Option Addr → TS} {Wout : WX}
theorem ps_try_tup (hs : X.stack = X.env :: X.outer) (hf : X.env.frame = some X.env.locals) (hc : NamesAll X es cs) (hz : cs.length ≤ sizeLine) (tk : L2.Takes X Wout)
    (hb : ∀ (W : WX) (pn : List (Addr × Obj)) (xe : Value → Shared → Prop), L2.Takes (X.tr pn xe) W → PassesOwn (model X.prog X.w) X.A X.env xe → PSs (X.tr pn xe) body (tb W))
    (hsu : ∀ (a : Addr) (oe : Obj) (cls : Value) (d : Option Addr) (pn : List (Addr × Obj)), Zc cls d oe → (∃ vs, oe.data = .fields vs) → PSs (X.suite a ((a, oe) :: pn)) (b₀ :: suite) (ts a cls d)) :
    PS X (.Try body [.ExceptHandler (some (.Tuple es kk np)) none (b₀ :: suite) pos'] [] [] pos) (fun D σ H => tb (wTup X.K cs ts Wout D) D σ H) := by
  refine ⟨fun pins s σ H D I h => ?_⟩
  have ok := I.ok
  have hfr : X.A.frames = some (X.env :: X.outer) := by rw [ok.frames, hs]
  refine wpAny_Try_except ?_
  refine wpAny_mono ((hb (wTup X.K cs ts Wout D) (X.pn ++ pins) (fun e s₁ => wpAny (model X.prog X.w) X.A (noteFrame e X.env) (fun _ s₂ => wpAny (model X.prog X.w) X.A (setFlight e none) (fun _ s₃ =>
    wpAny (model X.prog X.w) X.A (handleBy e X.env [.ExceptHandler (some (.Tuple es kk np)) none (b₀ :: suite) pos']) (SP X pins D) X.xe s₃) X.xe s₂) X.xe s₁) (fun u s' xx => ?_) PassesOwn.looking).run [] s σ H D (I.toTry _) h) (fun f s1 hsp => ?_) (fun e s1 he => he)
  · -- the catch
    obtain ⟨a, B, sI, pins', σ', H', cls, d, rfl, J', nb, up, sky, na, os, ag, b, hb1, hyes, hno⟩ := xx
    have J : Inv X pins σ' H' sI := J'.ofTry ok
    have sky' : Sky B (X.env :: X.outer) a (Zc cls d) X.env.locals s'.heap := by rw [← hs]; exact sky
    show wpAny (model X.prog X.w) X.A (noteFrame (.ref a) X.env) _ _ _
    refine Sky.land Zc.steady hfr hf sky' fun h3 fl3 up3 => ?_
    have J3 : Inv X pins σ' H' { s' with heap := h3 } := J.landed nb fl3.1 (up.trans up3) os ag
    obtain ⟨oe3, vs3, he3, hz3, hd3⟩ := fl3.there
    have notFr : ∀ {h : Heap} {o : Obj} {vs : Array Value}, h.FunFrames B (X.env :: X.outer) → h.get? a = some o → o.data = .fields vs → a ∉ frs (X.env :: X.outer) := fun {h o vs} ff e dd hm => by
      obtain ⟨_, o', e', hnf⟩ := ff.mem hm
      rw [e] at e'; cases e'
      exact hnf _ dd
    have nfr := notFr fl3.2.2.1 he3 hd3
    have nL : a ≠ X.env.locals := fun z => nfr (List.mem_filterMap.mpr ⟨X.env, List.mem_cons_self, by rw [hf, z]⟩)
    have nF : a ∉ X.fs := fun hm => by
      obtain ⟨e, he, q⟩ := List.mem_filterMap.mp hm
      exact nfr (List.mem_filterMap.mpr ⟨e, List.mem_cons_of_mem _ he, q⟩)
    have S3 := J3.suite he3 hd3 na nL nF
    refine wpAny_handleBy_cons (codeAny_handlers_test ?_) (by intro q; cases q)
    have LT : PySem.W.Looks (model X.prog X.w) h3 (typeOf (.ref a)) cls := fun A Q E s k q => wpAny_typeOf_ref (k _ _ he3) (by rw [hz3.1]; exact q)
    refine tup_read (X := X.suite a ((a, oe3) :: (X.pn ++ pins))) S3 hc (fun x c p hc Q E q => ?_) hz ?_
    · obtain ⟨hg, hdbg, hm | ⟨hm, hv, hnn⟩⟩ := hc
      · exact ld_glob (X := X.suite a ((a, oe3) :: (X.pn ++ pins))) S3 hg hm q hdbg
      · exact ld_blt (X := X.suite a ((a, oe3) :: (X.pn ++ pins))) S3 hg hm hv q hnn hdbg
    have kp : ∀ b o, h3.get? b = some o → (h3.push { cls := .type "tuple", data := .seq cs.toArray }).get? b = some o := fun b o z => Heap.get?_push_of_some _ z
    have LM := exm_list (M := model X.prog X.w) (J3.kIn.keeps kp) (LT.keeps kp) (tp := h3.objs.size) (Heap.get?_push_size _ rfl) hb1
    have fl3 := flyZ_keeps fl3 kp
    have up3 := up3.trans (Heap.UpToSlots.of_keeps kp)
    have he3 := kp _ _ he3
    generalize h3.push { cls := .type "tuple", data := .seq cs.toArray } = h3 at *
    refine LM.here ?_
    cases b with
    | true =>
      refine codeAny_handlers_suite ?_
      refine HandSPX.lands_againZ fl3 fun h4 fl4 up4 => ?_
      have J4 : Inv X pins σ' H' { s' with heap := h4 } := J.landed nb fl4.1 ((up.trans up3).trans up4) os ag
      obtain ⟨oe4, vs4, he4, hz4, hd4⟩ := fl4.there
      have S4 := J4.suite he4 hd4 na nL nF
      refine wpAny_mono ((hsu a oe4 cls d (X.pn ++ pins) hz4 ⟨_, hd4⟩).run [] _ _ H' _ S4 (hyes rfl a na)) (fun f s6 hsp => ?_) (fun _ _ z => False.elim z)
      cases f with
      | next =>
        obtain ⟨σ6, H6, S6, q6⟩ := hsp
        exact ⟨_, _, S6.unsuite ok, q6⟩
      | brk =>
        obtain ⟨σ6, H6, S6, q6⟩ := hsp
        exact ⟨_, _, S6.unsuite ok, q6⟩
      | cont =>
        obtain ⟨σ6, H6, S6, q6⟩ := hsp
        exact ⟨_, _, S6.unsuite ok, q6⟩
      | ret u =>
        obtain ⟨v6, σ6, H6, S6, r6, q6⟩ := hsp
        exact ⟨_, _, _, S6.unsuite ok, r6, q6⟩
    | false =>
      show wpAny _ X.A (handleBy (.ref a) X.env []) _ _ _
      refine wpAny_handleBy_nil ?_
      obtain ⟨k1, k2, k3, oe, vs, T, oT, ts', he, hz, hd, h1, hr⟩ := id fl3
      unfold PySem.passOn
      refine wpAny_bind (wpAny_field he hd h1 ?_)
      rw [if_neg (show ¬ ((Value.ref T == Value.none) = true) from by simp)]
      have fin : wpAny (model X.prog X.w) X.A (setFlight (.ref a) X.env.frame) (fun _ s4 => wpAny (model X.prog X.w) X.A (throw (.ref a) : Sem Flow) (SP X pins D) X.xe s4) X.xe { s' with heap := h3 } := by
        rw [hf]
        refine HandSPX.setFlight_upZ fl3 fun h4 hh4 up4 => wpAny_throw (tk _ _ ?_)
        exact ⟨a, B, sI, pins, σ', H', cls, d, rfl, J, nb, (up.trans up3).trans up4, .inr (.inr (by rw [hs]; exact hh4)), na, os, ag, hno rfl⟩
      first
        | exact wpAny_bind (wpAny_pure (wpAny_bind fin))
        | exact wpAny_bind fin
  · cases f with
    | next =>
      obtain ⟨σ', H', J', q⟩ := hsp
      exact wpAny_execs_nil ⟨σ', H', J'.ofTry ok, q⟩
    | brk =>
      obtain ⟨σ', H', J', q⟩ := hsp
      exact ⟨σ', H', J'.ofTry ok, q⟩
    | cont =>
      obtain ⟨σ', H', J', q⟩ := hsp
      exact ⟨σ', H', J'.ofTry ok, q⟩
    | ret u =>
      obtain ⟨v, σ', H', J', r, q⟩ := hsp
      exact ⟨v, σ', H', J'.ofTry ok, r, q⟩
end
end Sb

/-! not in a written table; str of an int or a text. -/
namespace Sb
open PySem PySem.Spec PyProof.Rows L2 TL
section
variable {X : Cx} {i o : Expr} {ty td : TE}
theorem pc_knotin (hi : PE X i ty) (ho : PE X o td) : PC X .NotIn i o (tKNotIn X.K X.w ty td) := by
  refine ⟨fun pins s σ H Q I h => ?_⟩
  refine thn (hi.run pins s σ H _ I h) fun iv s1 ⟨y, H1, I1, ry, q1⟩ => thn (ho.run pins s1 σ H1 _ I1 q1) fun u s2 ⟨x, H2, I2, rx, a, f, z, ex, ey, ⟨es, n, hl, hk, low, hf⟩, q2⟩ => ?_
  subst ex ey
  obtain rfl : u = Value.ref a := rx
  obtain ⟨t, rfl⟩ := (show ∃ t, iv = Value.str z t from ry)
  have hm := PySem.W.mapOf_K (prog := X.prog) (w := X.w) I2.kIn hl hk
  refine wpAny_notIn_of (strKind_is X.prog X.w z t) low hm ?_
  rcases hf z with ⟨j, t', ef, en⟩ | ⟨ef, en⟩
  · rw [PySem.W.find_K hl en]
    rw [ef] at q2
    exact ⟨.bl false, H2, I2.tok _, rfl, q2⟩
  · rw [PySem.W.find_K hl en]
    rw [ef] at q2
    exact ⟨.bl true, H2, I2.tok _, rfl, q2⟩
theorem callR_or {f : Value} {r1 r2 : List V → Hp → VK → Prop} (h1 : CallR X f r1) (h2 : CallR X f r2) : CallR X f (fun xs H Q => r1 xs H Q ∨ r2 xs H Q) := by
  intro pins s σ H xs us Q I r h
  rcases h with h | h
  · exact h1 pins s σ H xs us Q I r h
  · exact h2 pins s σ H xs us Q I r h
theorem call_strK : CallR X (.type "str") (fun xs H Q => (∃ i, xs = [.int i] ∧ i.natAbs.log2 < 1920 ∧ Q (.str (toString i)) H) ∨ (∃ a, xs = [.str a] ∧ Q (.str a) H)) := callR_or call_str_int SkE.call_str_str
/-- d.items() of a dict that is just made -/
def iItemsL (td : TE) : TI := fun σ H R => td σ H fun x H1 => ∃ d kvs, x = V.ref d ∧ H1 d = some (.dT kvs) ∧ ∀ o, R (Itit d o kvs) (upd H1 d (.frz o (.dT kvs)))
theorem pi_itemsL {e : Expr} {td : TE} {apos cpos : Pos} {elts : List Expr} {kk : Nat} {tpos : Pos} (he : PE X e td) (hbase : attributeBase e (Str.ofString "items") X.env (eval e X.env) = eval e X.env := by rfl) (hline : (apos.endLine == cpos.line) = true := by rfl) :
    PI X (.Tuple elts kk tpos) (.Call (.Attribute e (Str.ofString "items") apos) [] [] cpos) (iItemsL td) := by
  refine ⟨fun pins s σ H R I h => ?_⟩
  refine wpAny_Call_method hbase rfl hline PySem.F.plainAttrs_dict PySem.F.slot_dict_items PySem.F.type_dict_items (thn (he.run pins s σ H _ I h) fun u s1 ⟨x, H0, I0, rx, d, kvs, ex, hd0, q⟩ => ?_)
  subst ex
  obtain rfl : u = Value.ref d := rx
  obtain ⟨o, I1⟩ := I0.lock hd0 trivial
  have hd : (upd H0 d (.frz o (.dT kvs))) d = some (.frz o (.dT kvs)) := upd_same
  have q := q o
  generalize upd H0 d (.frz o (.dT kvs)) = H1 at *
  obtain ⟨hgd, hx, hs, es, ep, hdt, hsz, ent⟩ := frzT' I1 hd
  have raw : DT.Raw s1.heap d es ep := ⟨o, hgd, hx, hdt⟩
  refine ⟨DT.Raw.typeIs raw, fun a e => by cases e; exact ⟨o, hgd, hx.2.1⟩, ?_⟩
  have I2 : L2.Inv X pins σ H1 { s1 with heap := s1.heap.push { cls := .type "dict_items", data := .fields #[.ref d] } } := Inv.kept I1 fun b ob q => Heap.get?_push_of_some _ q
  have fin := DT.iterI (prog := X.prog) (w := X.w) (A := X.A) (E := X.xe) (Q := PIE X pins σ (.Tuple elts kk tpos) R) (s := { s1 with heap := s1.heap.push { cls := .type "dict_items", data := .fields #[.ref d] } }) (v := s1.heap.objs.size) ⟨_, Heap.get?_push_size _ rfl, rfl, rfl⟩ (DT.Raw.push raw _) (pi_one I2 _ (turn_itemsT _ hdt) ⟨.none, .none, by rw [← hsz]; exact Heap.get?_push_size _ rfl⟩ q)
  refine method_meetsIn PySem.F.slot_dict_items PySem.F.entry_dict_items rfl (PySem.evalArgs_none ⟨rfl, DT.Raw.typeIs raw, PySem.F.args_dict_items_1 _, _, DT.meetsItems hs, raw, fin⟩)
/-- t + u, both known -/
def rCatB : R2 := fun x y H Q => ∃ a b xs ys, x = .ref a ∧ y = .ref b ∧ H a = some (.tup xs) ∧ H b = some (.tup ys) ∧ xs.length + ys.length ≤ sizeLine ∧ ∀ p H', Same H H' → H' p = some (.tup (xs ++ ys)) → Q (.ref p) H'
theorem op_catB : OpR X (binaryOp .Add) rCatB := opImp op_catA fun x y H Q ⟨a, b, xs, ys, ex, ey, ha, hb, hl, q⟩ => ⟨a, b, xs, ys, ex, ey, SqT.of ha, SqT.of hb, hl,
  fun e => by subst e; exact q b H (Same.refl H) hb, fun _ e => by subst e; exact q a H (Same.refl H) (by rw [List.append_nil]; exact ha), fun _ _ p np => q p _ (same_new np) upd_same⟩
end
end Sb

/-! dict(a list of pairs), the keys tuples. -/
namespace Sb
open PySem PySem.Spec PyProof.Rows L2
/-- pairs of a key tuple and a value, at these addresses -/
abbrev PairsT (H : Hp) : List Addr → List (List Key × Addr × V) → Prop := Paired fun t p => H t = some (.tup [.ref p.2.1, p.2.2]) ∧ H p.2.1 = some (.tup (p.1.map kV))
section
variable {X : Cx}
theorem pairsT_of {pins : List (Addr × Obj)} {σ : L2.St} {H : Hp} {s : Shared} (I : L2.Inv X pins σ H s) : ∀ {ts : List Addr} {ps : List (List Key × Addr × V)}, PairsT H ts ps →
    ∃ xs : List (List Key × Addr × Value), KT H (ps.map fun p => (p.1, p.2.2)) xs ∧ xs.map (·.1) = ps.map (·.1) ∧ ts.length = xs.length ∧ ∀ (j : Nat) (x : List Key × Addr × Value), xs[j]? = some x → ∃ t : Addr, ts[j]? = some t ∧ IsTup s.heap t #[.ref x.2.1, x.2.2] ∧ H x.2.1 = some (.tup (x.1.map kV))
  | _, _, .nil => ⟨[], .nil, rfl, rfl, fun j q e => by simp at e⟩
  | _, _, .cons (a := t) (b := p) h r => by
    obtain ⟨xs, h1, h2, h3, h4⟩ := pairsT_of I r
    obtain ⟨its, rv, ht, _⟩ := I.tuple (SqT.of h.1)
    obtain ⟨u, y, ei, ru, ry⟩ := vals2 rv
    subst ei
    obtain rfl : u = Value.ref p.2.1 := ru
    refine ⟨(p.1, p.2.1, y) :: xs, .cons ⟨rfl, h.2, ry⟩ h1, by rw [List.map_cons, List.map_cons, h2], by rw [List.length_cons, List.length_cons, h3], fun j q e => ?_⟩
    cases j with
    | zero =>
      have e' : (p.1, p.2.1, y) = q := Option.some.inj e
      subst e'
      exact ⟨t, rfl, ht, h.2⟩
    | succ j =>
      obtain ⟨t', e1, e2⟩ := h4 j q (by simpa using e)
      exact ⟨t', by simpa using e1, e2⟩
def rDictPT : List V → Hp → VK → Prop := fun xs H Q => ∃ (a : Addr) (ts : List Addr) (ps : List (List Key × Addr × V)), xs = [.ref a] ∧ H a = some (.lst (ts.map V.ref)) ∧ PairsT H ts ps ∧ (ps.map (·.1)).Nodup ∧
  ∀ d, H d = none → Q (.ref d) (upd H d (.dT (ps.map fun p => (p.1, p.2.2))))
theorem call_dictPT (hc : X.calm = true) (hu : X.A.units + 64 < cLine) : CallR X (.type "dict") rDictPT := by
  intro pins s σ H xs us Q I r h
  obtain ⟨a, ts, ps, rfl, ha, hp, nd, q⟩ := h
  obtain ⟨u, rfl, rx⟩ := vals1 r
  obtain rfl : u = Value.ref a := rx
  obtain ⟨its, rv, pl, hz⟩ := I.list (SqL.of ha)
  have ei := refs_at rv
  subst ei
  rw [List.length_map] at hz
  obtain ⟨xH, kt, k1, l1, hpr⟩ := pairsT_of I hp
  obtain ⟨o, n, ho, hcl, hd, hdat⟩ := pl
  have prs : ∀ {j : Nat} {k v : Value}, (xH.map fun x => (Value.ref x.2.1, x.2.2))[j]? = some (k, v) → ∃ x, xH[j]? = some x ∧ k = .ref x.2.1 ∧ v = x.2.2 := fun {j k v} e => by
    rw [List.getElem?_map] at e
    obtain ⟨x, e1, e2⟩ := Option.map_eq_some_iff.mp e
    cases e2
    exact ⟨x, e1, rfl, rfl⟩
  refine call_dict_pairsH (knd := tupleKind (mixKind X.prog X.w)) (ps := xH) (PairArg.list a (ts.map Value.ref).toArray (fun j => (ts[j]?).getD 0) (xH.map fun x => (Value.ref x.2.1, x.2.2))) (I.ok.hd hc) ?_ ⟨⟨o, n, ho, hcl, hd, hdat⟩, ?_, fun j k v e => ?_⟩ ⟨by rw [List.length_map], fun j k v e => ?_⟩ (fun h' k' x hx => ?_) ?_ fun h' tk hd' k => ?_
  · show X.A.in1.in1.units < cLine
    show X.A.units + 1 + 1 < cLine
    omega
  · simp [l1]
  · obtain ⟨x, e1, rfl, rfl⟩ := prs e
    obtain ⟨t, e2, e3, _⟩ := hpr j x e1
    refine ⟨by simp [e2], .inl ?_⟩
    show IsTup s.heap ((ts[j]?).getD 0) _
    rw [e2]
    exact e3
  · obtain ⟨x, e1, rfl, rfl⟩ := prs e
    exact ⟨x.1, x.2.1, e1, rfl⟩
  · obtain ⟨j, hj⟩ := List.mem_iff_getElem?.mp hx
    obtain ⟨t, e2, e3, e4⟩ := hpr j x hj
    obtain ⟨oo, its, n, h1, h2, h3⟩ := key_of I.hok e4
    refine ⟨oo, its, n, k' _ _ ?_ (fun z => nomatch z) h1, h2, h3⟩
    exact Nat.ne_of_lt (Heap.lt_size h1)
  · rw [List.length_map, ← l1]
    exact hz
  · have hm : (s.heap.objs.size == sysModules) = false := beq_eq_false_iff_ne.mpr (Nat.ne_of_gt I.big)
    rw [storedAllH_nil_of_nodup xH (by rw [k1]; exact nd)] at hd'
    have kp : ∀ b o, s.heap.get? b = some o → h'.get? b = some o := fun b o e => k b o (fun z => nomatch z) e
    have hlen : (ps.map fun p => (p.1, p.2.2)).length ≤ sizeLine := by
      rw [Paired.length kt, ← l1]
      exact hz
    refine ⟨.ref s.heap.objs.size, upd H s.heap.objs.size (.dT (ps.map fun p => (p.1, p.2.2))), I.laid (t' := tk) kp (Nat.le_refl _) ?_, rfl, q _ (I.hok.fresh (Nat.le_refl _))⟩
    obtain ⟨o', es, ep, g1, g2, g3, g4, g5, g6⟩ := hd'
    refine ⟨hlen, hm, xH, Paired.mapP kt fun a b z => ⟨z.1, ?_, z.2.2⟩, o', es, ep, g1, g2, g3, g4, g6⟩
    have hf := I.hok.fresh (Nat.le_refl s.heap.objs.size)
    rw [upd_ne (ne_of_none z.2.1 hf)]
    exact z.2.1
/-- d.update(e), both with tuple keys, e's not in d -/
def rUpdT : V → List V → Hp → VK → Prop := fun x xs H Q => ∃ (d o : Addr) (kvs more : List (List Key × V)), x = .ref d ∧ xs = [.ref o] ∧ H d = some (.dT kvs) ∧ H o = some (.dT more) ∧ d ≠ o ∧ more.length ≤ 1 ∧ kvs.length ≤ 1000 ∧ ((kvs ++ more).map (·.1)).Nodup ∧ Q .non (upd H d (.dT (kvs ++ more)))
theorem paired_app {α β : Type} {R : α → β → Prop} : ∀ {a c : List α} {b d : List β}, Paired R a b → Paired R c d → Paired R (a ++ c) (b ++ d)
  | _, _, _, _, .nil, h => h
  | _, _, _, _, .cons x r, h => .cons x (paired_app r h)
theorem mt_updT (hu : X.A.units + 64 < cLine) : MtR X "dict.update" rUpdT := by
  intro pins s σ H x xs v us Q I rx rxs h
  obtain ⟨d, o, kvs, more, rfl, rfl, hd, ho, ne, lm, lk, nd, q⟩ := h
  obtain ⟨u, rfl, ru⟩ := vals1 rxs
  obtain rfl : u = Value.ref o := ru
  obtain rfl : v = Value.ref d := rx
  obtain ⟨z1, hd1, xd, reld, dd⟩ := dt_of I.hok hd
  obtain ⟨z2, hd2, xo, relo, od⟩ := dt_of I.hok ho
  have e1 : xd.map (·.1) = kvs.map (·.1) := by
    have : ∀ {l : List (List Key × V)} {m : List (List Key × Addr × Value)}, KT H l m → m.map (·.1) = l.map (·.1) := by
      intro l m q
      induction q with
      | nil => rfl
      | cons a _ ih => rw [List.map_cons, List.map_cons, ih, a.1]
    exact this reld
  have e2 : xo.map (·.1) = more.map (·.1) := by
    have : ∀ {l : List (List Key × V)} {m : List (List Key × Addr × Value)}, KT H l m → m.map (·.1) = l.map (·.1) := by
      intro l m q
      induction q with
      | nil => rfl
      | cons a _ ih => rw [List.map_cons, List.map_cons, ih, a.1]
    exact this relo
  have lo : xo.length = more.length := (Paired.length relo).symm
  have ld : xd.length = kvs.length := (Paired.length reld).symm
  refine call_update_dictH (knd := tupleKind (mixKind X.prog X.w)) (tupleKind_room_in1 (by omega)) ne hd2 dd od ?_ ?_ fun h' dd' _ hs => ?_
  · right
    refine ⟨fun x hx => ?_, ?_⟩
    · obtain ⟨j, hj⟩ := List.mem_iff_getElem?.mp hx
      have hb : ∃ k : List Key, H x.2.1 = some (.tup (k.map kV)) := by
        have : ∀ {l : List (List Key × V)} {m : List (List Key × Addr × Value)}, KT H l m → ∀ x ∈ m, ∃ k : List Key, H x.2.1 = some (.tup (k.map kV)) := by
          intro l m q
          induction q with
          | nil => intro x hx; cases hx
          | cons a _ ih =>
            intro x hx
            rcases List.mem_cons.mp hx with e | hx
            · exact ⟨_, by rw [e]; exact a.2.1⟩
            · exact ih x hx
        exact this relo x hx
      obtain ⟨k, hk⟩ := hb
      obtain ⟨oo, its, n, h1, h2, h3⟩ := key_of I.hok hk
      exact ⟨oo, h1, h2⟩
    · have : xo.length ≤ 1 := by omega
      match xo, this with
      | [], _ => exact List.nodup_nil
      | [a], _ => exact List.nodup_cons.mpr ⟨by simp, List.nodup_nil⟩
  · rw [ld, lo]
    exact Nat.le_trans (show kvs.length + more.length ≤ 1001 by omega) (by decide)
  · have nd' : ((xd ++ xo).map (·.1)).Nodup := by
      rw [List.map_append, e1, e2, ← List.map_append]
      exact nd
    rw [storedAllH_append_of_fresh xd xo nd'] at dd'
    obtain ⟨o', es, ep, g1, g2, g3, g4, g5, g6⟩ := dd'
    refine ⟨.non, _, d_write (ob := .dT (kvs ++ more)) I (by rw [hd]; trivial) hs ⟨o', g1⟩ ⟨?_, hd1, xd ++ xo, ?_, o', es, ep, g1, g2, g3, g4, g6⟩, rfl, q⟩
    · rw [List.length_append]
      exact Nat.le_trans (show kvs.length + more.length ≤ 1001 by omega) (by decide)
    · refine Paired.mapP (paired_app reld relo) fun a b z => ⟨z.1, ?_, z.2.2⟩
      rw [upd_ne (ne_of z.2.1 hd (fun z => nomatch z))]
      exact z.2.1
end
end Sb

/-! l == [] -/
namespace Sb
open PySem PySem.Spec PyProof.Rows L2
section
variable {X : Cx}
def rEqL0 : R2 := fun x y H Q => ∃ a b xs, x = .ref a ∧ y = .ref b ∧ H a = some (.lst xs) ∧ H b = some (.lst []) ∧ Q (.bl xs.isEmpty) H
theorem op_eqL0 (hu : X.A.units + 64 < cLine) : OpR X (compareOp .Eq) rEqL0 := by
  intro pins s σ H x y v u Q I rx ry h
  obtain ⟨a, b, xs, rfl, rfl, ha, hb, q⟩ := h
  cases rx
  cases ry
  obtain ⟨its, r1, t1, _⟩ := I.list (SqL.of (K := X.K) ha)
  obtain ⟨its2, r2, t2, _⟩ := I.list (SqL.of (K := X.K) hb)
  cases r2
  cases xs with
  | nil =>
    cases r1
    refine SeqAt.RcAt.lists (e := fun _ => true) t1.isList t2.isList rfl (by omega) (fun j _ h2 => absurd h2 (Nat.not_lt_zero _)) X.prog X.w X.xe (EP X pins σ Q) ⟨.bl _, H, I, rfl, q⟩
  | cons z zs =>
    cases r1
    refine SeqAt.RcAt.lists_lengths t1.isList t2.isList (by rfl) (by omega) X.prog X.w X.xe (EP X pins σ Q) ⟨.bl _, H, I, rfl, q⟩
end
end Sb

/-! f(k = v, ..), o.m(k = v, ..), C(k = v, ..): all arguments by name, under no repr. -/
namespace Sb
open PySem PySem.Spec PyProof.Rows L2
/-- the values in another order -/
def kperm (ix : List Nat) (zs : List V) : List V := ix.map fun i => zs.getD i .non
def kpermV (ix : List Nat) (ws : List Value) : List Value := ix.map fun i => ws.getD i .none
theorem vals_getD : ∀ {zs : List V} {ws : List Value} (i : Nat), Vals zs ws → RelV (zs.getD i .non) (ws.getD i .none)
  | _, _, i, .nil => by simp; rfl
  | _, _, 0, .cons a r => a
  | _, _, i + 1, .cons a r => vals_getD i r
theorem vals_perm {zs : List V} {ws : List Value} (h : Vals zs ws) : ∀ ix : List Nat, Vals (kperm ix zs) (kpermV ix ws)
  | [] => .nil
  | i :: r => .cons (vals_getD i h) (vals_perm h r)
theorem vals_app : ∀ {a c : List V} {b d : List Value}, Vals a b → Vals c d → Vals (a ++ c) (b ++ d)
  | _, _, _, _, .nil, h => h
  | _, _, _, _, .cons x r, h => .cons x (vals_app r h)
/-- a def called by names behind n values -/
theorem Fun.kb {K : PySem.W.Frag} {x qual : Str} {st : Stmt} {f : Addr} {fd : FuncData} (F : Fun K x qual st f fd) (ps ks : List Str) (n : Nat) (ix : List Nat)
    (h : ∀ (kV doc pm : Value) (an : Option Addr) (cdv ct : Value) (us ws : List Value), us.length = n → ws.length = ks.length → bindArgs (PySem.W.fnOf x qual (defArgs st) (defBody st) (defScope st) .none kV doc pm an cdv ct) ⟨us, ks.zip ws⟩ = pure (ps.zip (us ++ kpermV ix ws))) :
    KBn K fd ps n ks (fun us ws => us ++ kpermV ix ws) (fun vs zs => vs ++ kperm ix zs) := by
  obtain ⟨oc, od, kV, doc, pm, an, cdv, ct, osl, rfl, lk, hcd⟩ := F.ex
  exact ⟨fun s us ws X l1 l2 => .of_eq (h kV doc pm an cdv ct us ws l1 l2), fun r1 r2 => vals_app r1 (vals_perm r2 ix)⟩
section
variable {X : Cx} {CX : CXT} {k n : Nat} {f C : Addr} {fd : FuncData} {ps ks : List Str} {sp : Sp} {E : XK} {x m : Str} {p pos apos : Pos} {o : Expr} {kws : List Keyword} {ta : TE} {tk : TA} {g : List Value → List Value → List Value} {gV : List V → List V → List V}
theorem runGK {pins : List (Addr × Obj)} {σ : L2.St} {H : Hp} {s : Shared} {Q : VK} {us ws : List Value} {vs zs : List V} (F : FnG X.prog X.w X.K X.mg X.base CX k f fd ps sp) (gd : X.A.guards = some []) (hr : Room k X.A) (hb : KBn X.K fd ps n ks g gV)
    (hx : ∀ (e : Value) (s' : Shared), CX X.stack H s E e s' → X.xe e s') (I : L2.Inv X pins σ H s) (r : Vals vs us) (rz : Vals zs ws) (l1 : vs.length = n) (l2 : zs.length = ks.length) (h : sp (gV vs zs) H Q E) :
    wpAny (model X.prog X.w) X.A (call (.ref f) us (ks.zip ws)) (EP X pins σ Q) X.xe s := by
  apply wpAny_call
  refine codeAny_mono (F.run X.A X.stack s H ⟨us, ks.zip ws⟩ (g us ws) (gV vs zs) Q E gd hr I.env0 (hb.to s us ws I.kIn (r.length.symm.trans l1) (rz.length.symm.trans l2)) (hb.rel r rz) h) ?_
  intro res s' hres
  match res, hres with
  | .error er, z => exact hx er s' z
  | .ok (.ret u), z => exact I.after z
  | .ok .next, z => exact z.elim
  | .ok .brk, z => exact z.elim
  | .ok .cont, z => exact z.elim
/-- f(k = v, ..) -/
def tCallK (m : Nat) (sp : Sp) (gV : List V → List V → List V) (E : XK) (tk : TA) : TE := fun σ H Q => tk σ H fun zs H1 => zs.length = m ∧ sp (gV [] zs) H1 Q E
theorem pe_callGK (F : FnG X.prog X.w X.K X.mg X.base CX k f fd ps sp) (gd : X.A.guards = some []) (hr : Room k X.A) (hg : Gl X x) (hm : X.mg x = some (.ref f)) (hk : PySem.W.keepIn X.K (.ref f) = true) (hb : KBn X.K fd ps 0 ks g gV) (hx : Passes CX X E)
    (hkw : PK X kws tk) (hall : (backToKw pos (keywordEach kws X.env)).all (·.1.isSome) = true := by rfl) (hks : (backToKw pos (keywordEach kws X.env)).filterMap (·.1) = ks := by rfl)
    (hdb : (x == ("__debug__" : Str)) = false := by decide)
    (hpl : ((backTo pos (starEach [] X.env)).any (·.1) || (backToKw pos (keywordEach kws X.env)).any (·.1.isNone)) = false := by rfl) :
    PE X (.Call (.Name x p) [] kws pos) (tCallK ks.length sp gV E tk) := by
  refine ⟨fun pins s σ H Q I h => ?_⟩
  apply wpAny_Call_Name_kw
  apply ld_glob I hg hm _ hdb
  refine PySem.W.callWith_KW0 (h₀ := X.base) I.ok.mod.kin hk hall ?_ hpl
  refine thn (hkw.run pos pins s σ H _ I h) fun ws s2 ⟨zs, H2, I2, rz, l2, q2⟩ => ⟨I2.kIn, ?_⟩
  rw [hks]
  exact runGK (us := []) (vs := []) F gd hr hb (fun er s' z => hx pins σ H2 s2 er s' I2 z) I2 .nil rz rfl l2 q2
/-- how a method's call by names is read -/
abbrev MethFormK (X : Cx) (o : Expr) (m : Str) (kws : List Keyword) (pos apos : Pos) (pl : Sem Bool) : Prop :=
  eval (.Call (.Attribute o m apos) [] kws pos) X.env = (do let ov ← eval o X.env; standAt apos.atName; let (f, first) ← holding [ov] (getMethod ov m pl); callWith pos f first (backTo pos (starEach [] X.env)) (backToKw pos (keywordEach kws X.env)))
/-- o.m(k = v, ..) -/
def tMethK (C : Addr) (m : Str) (j : Nat) (sp : Sp) (gV : List V → List V → List V) (E : XK) (ta : TE) (tk : TA) : TE := fun σ H Q => ta σ H fun x H1 => ∃ a dx fs, x = .ref a ∧ H1 a = some (.ins C dx fs) ∧ fs.lookup m = none ∧
  tk σ H1 fun zs H2 => zs.length = j ∧ sp (gV [x] zs) H2 Q E
theorem pe_methGK {pl : Sem Bool} (ho : PE X o ta) (c : Cls X.K C) (hm : Meth X.K C m f) (F : FnG X.prog X.w X.K X.mg X.base CX k f fd ps sp) (gd : X.A.guards = some []) (hr : Room k X.A) (hb : KBn X.K fd ps 1 ks g gV) (hx : Passes CX X E)
    (hkw : PK X kws tk) (hall : (backToKw pos (keywordEach kws X.env)).all (·.1.isSome) = true := by rfl) (hks : (backToKw pos (keywordEach kws X.env)).filterMap (·.1) = ks := by rfl)
    (hpl : ((backTo pos (starEach [] X.env)).any (·.1) || (backToKw pos (keywordEach kws X.env)).any (·.1.isNone)) = false := by rfl) (ht : MethFormK X o m kws pos apos pl := by rfl) :
    PE X (.Call (.Attribute o m apos) [] kws pos) (tMethK C m ks.length sp gV E ta tk) := by
  constructor
  intro pins s σ H Q I h
  refine PySem.W.methodCall_KW (pl := pl) (thn (ho.run pins s σ H _ I h) ?_) ht
  rintro u s1 ⟨y, H1, I1, ry, a, dx, fs, rfl, ea, l, q⟩
  obtain rfl : u = Value.ref a := ry
  refine getmeth_ok I1 ea c hm l ?_
  refine PySem.W.callWith_KW0 (first := [.ref a]) (h₀ := X.base) I.ok.mod.kin hm.kp hall ?_ hpl
  refine thn (hkw.run pos pins s1 σ H1 _ I1 q) fun ws s2 ⟨zs, H2, I2, rz, l2, q2⟩ => ⟨I2.kIn, ?_⟩
  rw [hks]
  exact runGK (us := [.ref a]) (vs := [.ref a]) F gd hr hb (fun er s' z => hx pins σ H2 s2 er s' I2 z) I2 (.cons rfl .nil) rz rfl l2 q2
/-- C(k = v, ..) -/
def tMakeGK (C : Addr) (j : Nat) (sp : Sp) (gV : List V → List V → List V) (E : XK) (tk : TA) : TE := fun σ H Q => tk σ H fun zs H2 => zs.length = j ∧
  ∀ x dx, H2 x = none → H2 dx = none → dx ≠ x → sp (gV [.ref x] zs) (upd (upd H2 dx (.own x)) x (.ins C dx [])) (fun v H3 => v = .non ∧ Q (.ref x) H3) E
theorem pe_makeGK (M : Mk X.K C f) (F : FnG X.prog X.w X.K X.mg X.base CX k f fd ps sp) (gd : X.A.guards = some []) (hr : Room (k + 1) X.A) (hg : Gl X x) (hm : X.mg x = some (.ref C)) (hb : KBn X.K fd ps 1 ks g gV) (hx : Passes CX X E) (hkw : PK X kws tk)
    (hall : (backToKw pos (keywordEach kws X.env)).all (·.1.isSome) = true := by rfl) (hks : (backToKw pos (keywordEach kws X.env)).filterMap (·.1) = ks := by rfl) (hdb : (x == ("__debug__" : Str)) = false := by decide)
    (hpl : ((backTo pos (starEach [] X.env)).any (·.1) || (backToKw pos (keywordEach kws X.env)).any (·.1.isNone)) = false := by rfl) :
    PE X (.Call (.Name x p) [] kws pos) (tMakeGK C ks.length sp gV E tk) := by
  refine ⟨fun pins s0 σ H0 Q I0 h => ?_⟩
  apply wpAny_Call_Name_kw
  apply ld_glob I0 hg hm _ hdb
  refine PySem.W.callWith_KW0 (h₀ := X.base) I0.ok.mod.kin M.kp hall ?_ hpl
  refine thn (hkw.run pos pins s0 σ H0 _ I0 h) fun ws s ⟨zs, H, I, rz, l2, q2⟩ => ⟨I.kIn, ?_⟩
  rw [hks]
  have hq := q2 (s.heap.objs.size + 1) s.heap.objs.size (I.hok.fresh (Nat.le_succ _)) (I.hok.fresh (Nat.le_refl _)) (Nat.ne_of_lt (Nat.lt_succ_self _))
  have I2 := Inv.made (C := C) I
  have r1 : Vals [V.ref (s.heap.objs.size + 1)] [Value.ref (s.heap.objs.size + 1)] := .cons rfl .nil
  apply wpAny_call
  refine make_map (f := f) I.kIn M.makes M.init (beq_iff_eq.mp M.fn) ?_
  refine codeAny_mono (F.run _ X.stack _ _ ⟨[Value.ref (s.heap.objs.size + 1)], ks.zip ws⟩ (g [Value.ref (s.heap.objs.size + 1)] ws) _ _ E gd (hr.make C [] (ks.zip ws)) (I2.env0.make C [] (ks.zip ws)) (hb.to _ _ ws I2.kIn rfl (rz.length.symm.trans l2)) (hb.rel r1 rz) hq) ?_
  intro res s' z
  match res, z with
  | .error er, z => exact hx pins σ _ _ er s' I2 z
  | .ok (.ret u), z =>
    obtain ⟨v, H', J', rv, ev, q'⟩ := I2.after z
    subst ev
    exact ⟨rv, V.ref (s.heap.objs.size + 1), H', J', rfl, q'⟩
  | .ok .next, z => exact z.elim
  | .ok .brk, z => exact z.elim
  | .ok .cont, z => exact z.elim
end
end Sb

/-! C(f = v) of an own error class: nothing by position, all by name. The base's __new__ takes any names; only the own __init__ binds them. -/
namespace PySem
namespace OwnE
open PySem.W PySem.Calls PyProof.Rows PySem.HandSPX Builtin Builtin.ObjectAttr
/-- what of the base is used: its rows, and that the class's own order of classes holds the base's -/
structure Over (B newId initId : String) (base above : List Value) : Prop where
  facts : ExcBaseFacts B newId initId base
  same : ∀ X : String, above.contains (.type X) = base.contains (.type X)
section
variable {prog : Program} {w : World} {M : Model} {A : Around} {E : Value → Shared → Prop} {R : Result → Shared → Prop} {s : Shared} {named : List (Str × Value)}
variable {nm qn : Str} {C N fI : Addr} {bs above base : List Value} {hd : Bool} {sn : List Str} {sub : List Value} {ab : Bool} {col : Option Bool} {dd : Option Addr} {k0 k1 k2 k3 k5 : Option Value} {B newId initId : String}
theorem Over.has (o : Over B newId initId base above) {X : String} {r : Bool} (h : base.contains (.type X) = r) : (Value.ref C :: above).contains (.type X) = r := by
  have ne : (Value.type X == Value.ref C) = false := rfl
  rw [List.contains_cons, ne, Bool.false_or, o.same, h]
/-- __new__ lets every name pass -/
theorem new_lets (o : Over B newId initId base above) (at_C : s.heap.get? C = some (excClassObj nm qn C N bs above hd sn sub ab col dd k0 k1 k2 k3 k5 newId)) {Q : Unit → Shared → Prop} (q : Q () s) :
    wpAny M A (checkBuiltinCall newId ⟨[.ref C], named⟩) Q E s := by
  obtain ⟨h, g, d, t, os⟩ := s
  have under := o.has (C := C) o.facts.hasB
  have star := o.facts.noStar
  simp only [checkBuiltinCall, o.facts.newKind, o.facts.newSplit, o.facts.newRow]
  repeat (first
    | refine wpAny_loadPart_at at_C ?_
    | (refine wpAny_isSubtype_exc at_C ?_; rw [under])
    | refine wpAny_staticBase_exc at_C ?_
    | refine wpAny_madeBy_exc at_C ?_
    | simp only [bne_self_eq_false, Bool.false_eq_true, if_false]
    | wp_step)
  exact q
/-- and lays a tuple of nothing and the error -/
theorem new_lays (o : Over B newId initId base above) (at_C : s.heap.get? C = some (excClassObj nm qn C N bs above hd sn sub ab col dd k0 k1 k2 k3 k5 newId))
    (q : R (.ok (.ret (.ref (s.heap.objs.size + 1)))) { s with heap := (s.heap.push (kdv_tup [])).push (excO C s.heap.objs.size) }) : codeAny (model prog w) A (.builtin newId ⟨[.ref C], named⟩) R s := by
  obtain ⟨h, g, d, t, os⟩ := s
  have ends := o.facts.ends
  have isB := o.has (C := C) o.facts.hasB
  have noA := o.has (C := C) o.facts.noAttr
  have noN := o.has (C := C) o.facts.noName
  apply codeAny_builtinAt o.facts.entry
  unfold Builtin.«BaseException.__new__»
  apply wpAt_bind
  show wpAt _ _ _ (stack >>= _) _ _ _
  refine wpAt_bind (wpAt_stack fun p below => wpAt_of_wpAny ?_)
  wp_walk
  apply wpAt_of_wpAny
  rw [o.facts.owner]
  repeat (first
    | with_reducible refine wpAny_madeHere_exc o.facts.canon at_C ?_
    | with_reducible refine wpAny_loadPart_at at_C ?_
    | (with_reducible refine wpAny_isSubtype_exc at_C ?_; first | rw [isB] | rw [noA] | rw [noN])
    | wp_step)
  show R _ _
  rw [Heap.size_push]
  exact q
/-- type.__call__: __new__, then __init__ with the names -/
theorem typed (o : Over B newId initId base above) (at_C : s.heap.get? C = some (excClassObj nm qn C N bs above hd sn sub ab col dd k0 k1 k2 k3 k5 newId)) {Q : Fin → Shared → Prop}
    (finds : Looks (model prog w) s.heap (typeLookup (.ref C) "__init__") (some (.ref fI))) (binds : ∀ self, Looks (model prog w) s.heap (bindSpecial (.ref fI) self) (.ref fI, [self]))
    (init : codeAny (model prog w) A (.call (.ref fI) ⟨[.ref (s.heap.objs.size + 1)], named⟩) (fun r s' => match r with | .ok (.ret v) => v = .none ∧ Q (.done (.ret (.ref (s.heap.objs.size + 1)))) s' | .ok _ => False | .error e => E e s')
      { s with heap := (s.heap.push (kdv_tup [])).push (excO C s.heap.objs.size) }) : wpAny (model prog w) A (Builtin.«type.__call__» ⟨[.ref C], named⟩) Q E s := by
  have grown : ∀ b u, s.heap.get? b = some u → ((s.heap.push (kdv_tup [])).push (excO C s.heap.objs.size)).get? b = some u := fun b u z => Heap.get?_push_of_some _ (Heap.get?_push_of_some _ z)
  have at_C' := grown _ _ at_C
  have finds' := finds.keeps grown
  have binds' := (binds (.ref (s.heap.objs.size + 1))).keeps grown
  have itself : (Value.ref C :: above).contains (.ref C) = true := by simp
  obtain ⟨h, g, d, t, os⟩ := s
  have there : ((h.push (kdv_tup [])).push (excO C h.objs.size)).get? (h.objs.size + 1) = some (excO C h.objs.size) := by heap_get
  repeat (first | with_reducible refine wpAny_loadPart_at at_C ?_ | with_reducible refine wpAny_madeBy_exc at_C ?_ | wp_step)
  apply codeAny_call_builtin_code (Code.quiet_builtin _ o.facts.quiet) (new_lets o at_C _)
  apply new_lays o at_C
  show wpAny _ _ _ _ _ _
  unfold isInstance
  repeat (first | with_reducible refine wpAny_loadPart_at there ?_ | (with_reducible refine wpAny_isSubtype_exc at_C' ?_; rw [itself]) | wp_step)
  show wpAny _ _ (typeLookup (.ref C) _) _ _ _
  apply finds'.at
  apply wpAny_holding
  apply wpAny_bind
  apply binds'.at
  apply wpAny_bind
  apply wpAny_call
  refine codeAny_mono init ?_
  intro r s' z
  match r, z with
  | .error _, z => exact z
  | .ok (.ret v), z =>
    obtain ⟨ev, z⟩ := z
    subst ev
    first | exact wpAny_pure (wpAny_pure z) | (wp_walk; exact z)
  | .ok .next, z => exact z.elim
  | .ok .brk, z => exact z.elim
  | .ok .cont, z => exact z.elim
theorem by_names (o : Over B newId initId base above) (at_C : s.heap.get? C = some (excClassObj nm qn C N bs above hd sn sub ab col dd k0 k1 k2 k3 k5 newId))
    (finds : Looks (model prog w) s.heap (typeLookup (.ref C) "__init__") (some (.ref fI))) (binds : ∀ self, Looks (model prog w) s.heap (bindSpecial (.ref fI) self) (.ref fI, [self]))
    (init : codeAny (model prog w) (A.under (.builtin "type.__call__" ⟨[.ref C], named⟩)) (.call (.ref fI) ⟨[.ref (s.heap.objs.size + 1)], named⟩) (InitBack (s.heap.objs.size + 1) R) { s with heap := (s.heap.push (kdv_tup [])).push (excO C s.heap.objs.size) }) :
    codeAny (model prog w) A (.call (.ref C) ⟨[], named⟩) R s := by
  have a1 := tc_lookup
  have a2 := tc_bind (.ref C)
  have ty : s.TypeIs (.ref C) "type" := ⟨_, at_C, rfl⟩
  obtain ⟨h, g, d, t, os⟩ := s
  apply codeAny_of_tree
  show wpAny _ _ (callAny (.ref C) _) _ _ _
  repeat (any_goals (first | assumption | with_reducible refine wpAny_loadPart_at at_C ?_ | wp_step))
  refine ⟨rfl, ?_⟩
  apply codeAny_call_builtin_at (Code.quiet_builtin _ (by decide +kernel)) entry_typeCall
  apply wpAny_check_type_call_sub at_C
  apply typed o at_C finds binds
  refine codeAny_mono init ?_
  intro r s' z
  match r, z with
  | .error _, z => exact z
  | .ok (.ret _), z => exact z
  | .ok .next, z => exact z
  | .ok .brk, z => exact z
  | .ok .cont, z => exact z
end
section
variable {prog : Program} {w : World} {A : Around} {E : Value → Shared → Prop} {R : Result → Shared → Prop} {s : Shared} {b : Base} {x f qual : Str} {K : Frag} {mg : Str → Option Value} {C fI : Addr}
theorem run_initK (ok : b.Ok) (T : ErrTxt b x f qual K mg C fI) (hf1 : ¬ f = ("self" : Str)) (hf2 : (f == ("__debug__" : Str)) = false)
    (bind : ∀ (oc : Value) (od : Option Addr) (doc pm : Value) (an : Option Addr) (cdv ct : Value) (p1 p2 q1 q2 q3 q4 : Pos) (iS : Scope) (u v : Value),
      bindArgs (fnOf "__init__" qual (iA f p1 p2) (iB f q1 q2 q3 q4) iS .none .none doc pm an cdv ct) ⟨[u], [(f, v)]⟩ = pure [(("self" : Str), u), (f, v)])
    {e t0 : Addr} {v : Value} (X : K.In s.heap) (hlim : s.heap.NoLimit) (he : s.heap.get? e = some (excO C t0)) (hnx : K.lookup e = none) (hroom : A.depth < recursionLimit)
    (want : ∀ h' tk dx, Left s.heap h' e C dx t0 f v → R (.ok (.ret .none)) { s with heap := h', toks := tk }) :
    codeAny (model prog w) A (.call (.ref fI) ⟨[.ref e], [(f, v)]⟩) R s := by
  obtain ⟨oc, od, doc, pm, an, cdv, ct, osl, p1, p2, q1, q2, q3, q4, iS, ho, hcd, sk, s1, s2, s3, s4⟩ := T.fn
  obtain ⟨nm, q, N, bs, bm, sn, sub, ab, col, dd, k0, k1, k2, k3, k5, hC, hbm⟩ := T.cls
  have hcl : clsIn K C = some { name := nm, bases := bs, mro := .ref C :: bm, ns := N, qualname := q, hasDict := true, slotNames := sn, subclasses := sub, abstract := ab, collection := col, hasDel := false } := by
    unfold clsIn
    rw [hC] <;> rfl
  refine Att.call_fn (binds := [(("self" : Str), .ref e), (f, v)]) X hlim ho hcd hroom (BindsTo.of_eq (bind oc od doc pm an cdv ct p1 p2 q1 q2 q3 q4 iS _ _)) ?_ (fun z IC => ?_) s3 s4 sk
  · simp [s1, s2]
  obtain ⟨hh, tk1, rfl⟩ := IC.toInCall.same
  have keep := IC.toInCall.keep
  have ns := IC.toInCall.ns
  have X1 : K.In hh := X.keeps keep
  have at_e := keep _ _ he
  have of_f : bindL (envOfC qual iS s.heap.objs.size fI cdv).kindOf [(("self" : Str), .ref e), (f, v)] (fun _ => none) f = some v := by
    have a1 : (envOfC qual iS s.heap.objs.size fI cdv).kindOf f = some .local := s2
    simp only [bindL, a1, if_true]
  have of_s : bindL (envOfC qual iS s.heap.objs.size fI cdv).kindOf [(("self" : Str), .ref e), (f, v)] (fun _ => none) ("self" : Str) = some (.ref e) := by
    have a1 : (envOfC qual iS s.heap.objs.size fI cdv).kindOf f = some .local := s2
    have a2 : (envOfC qual iS s.heap.objs.size fI cdv).kindOf ("self" : Str) = some .local := s1
    simp only [bindL, a1, a2, if_true]
    rw [if_neg (fun z => hf1 z.symm)]
  show wpAny _ _ (execs _ _) _ _ _
  refine wpAny_execs_cons (plainObj_wpAny_Assign_Attribute ?_)
  apply ldE (v := v) ns of_f _ sk s2 hf2
  apply ldE (v := .ref e) ns of_s _ sk s1 (by decide)
  refine set_plain X1 (ox := excO C t0) (od := none) ⟨at_e, rfl, rfl, trivial⟩ T.sa ?_
  refine stored ok X1 at_e hcl (show excTail b.bm (.ref C :: bm) = true from hbm) rfl T.noN ?_
  intro h3 tk3 dx keep3 dn dne at3 ns3
  show wpAny _ _ (execs _ _) _ _ _
  have z : s.heap.objs.size < hh.objs.size := ns.lt
  refine wpAny_execs_nil (want h3 tk3 dx ?_)
  exact { keep := fun c o hc q => keep3 c o hc (keep c o q), obj := at3, dbig := Nat.le_of_lt (Nat.lt_of_lt_of_le z dn), dne := dne, ns := ns3 }
theorem run_madeK (ok : b.Ok) (T : ErrTxt b x f qual K mg C fI) (hf1 : ¬ f = ("self" : Str)) (hf2 : (f == ("__debug__" : Str)) = false)
    (bind : ∀ (oc : Value) (od : Option Addr) (doc pm : Value) (an : Option Addr) (cdv ct : Value) (p1 p2 q1 q2 q3 q4 : Pos) (iS : Scope) (u v : Value),
      bindArgs (fnOf "__init__" qual (iA f p1 p2) (iB f q1 q2 q3 q4) iS .none .none doc pm an cdv ct) ⟨[u], [(f, v)]⟩ = pure [(("self" : Str), u), (f, v)])
    {v : Value} (X : K.In s.heap) (hlim : s.heap.NoLimit) (hroom : A.depth + 1 < recursionLimit)
    (want : ∀ h' tk e d, Made1 s.heap h' e C d f v → R (.ok (.ret (.ref e))) { s with heap := h', toks := tk }) :
    codeAny (model prog w) A (.call (.ref C) ⟨[], [(f, v)]⟩) R s := by
  obtain ⟨nm, q, N, bs, bm, sn, sub, ab, col, dd, k0, k1, k2, k3, k5, hC, hbm⟩ := T.cls
  obtain ⟨hp, g, dr, tk, os⟩ := s
  have keep : ∀ c o, hp.get? c = some o → ((hp.push (kdv_tup [])).push (excO C hp.objs.size)).get? c = some o := by
    intro c o z
    exact Heap.get?_push_of_some _ (Heap.get?_push_of_some _ z)
  have there : ((hp.push (kdv_tup [])).push (excO C hp.objs.size)).get? (hp.objs.size + 1) = some (excO C hp.objs.size) := by heap_get
  have new : K.lookup (hp.objs.size + 1) = none := by
    cases e : K.lookup (hp.objs.size + 1) with
    | none => rfl
    | some o => exact absurd (Nat.lt_of_succ_lt (Heap.lt_size (X _ _ e))) (Nat.lt_irrefl _)
  apply by_names ⟨ok.fb, fun X => excTail_contains X bm hbm⟩ (X _ _ hC) (looks_findIn X T.iC) (fun self => bind_fn X self T.tC)
  refine run_initK (s := ⟨(hp.push (kdv_tup [])).push (excO C hp.objs.size), g, dr, tk, os⟩) ok T hf1 hf2 bind (X.keeps keep) (hlim.keeps keep) there new hroom ?_
  rintro h' tk' dx ⟨keep2, at2, dn, dne, ns2⟩
  have z : hp.objs.size + 1 + 1 ≤ dx := by
    have q := dn
    rw [Heap.size_push, Heap.size_push] at q
    exact q
  refine ⟨rfl, want h' tk' (hp.objs.size + 1) dx ?_⟩
  refine { keep := fun c o q => keep2 c o ?_ (keep c o q), new := Nat.le_succ _, obj := ⟨_, _, at2, rfl, rfl, rfl, rfl⟩, dbig := (by show hp.objs.size ≤ dx; omega), dne := dne, ns := ns2 }
  exact Nat.ne_of_lt (Nat.lt_succ_of_lt (Heap.lt_size q))
end
end OwnE
end PySem

/-! Errors as values: made, asked for their kind, their field read. -/
namespace L2
open PySem PySem.Spec PyProof.Rows
/-- at e: an error of the class at C, its dict (none | at d) -/
def xo (e C : Addr) (d : Option Addr) : HO := .ext fun h => ∃ (oe : Obj) (vs : Array Value), h.get? e = some oe ∧ oe.cls = .ref C ∧ oe.dict = d ∧ oe.data = .fields vs
theorem xo_ok {P : Program} {w : World} {H : Hp} {h : Heap} {e C : Addr} {d : Option Addr} {oe : Obj} {vs : Array Value} (he : h.get? e = some oe) (h1 : oe.cls = .ref C) (h2 : oe.dict = d) (h3 : oe.data = .fields vs) : ObjOk P w H h e (xo e C d) :=
  ⟨⟨oe, vs, he, h1, h2, h3⟩, ⟨_, he⟩, fun a b z k => by
    obtain ⟨o, us, q, r⟩ := z
    exact ⟨o, us, k _ q, r⟩⟩
theorem xo_at {P : Program} {w : World} {H : Hp} {h : Heap} {e C : Addr} {d : Option Addr} (hok : HOk P w H h) (he : H e = some (xo e C d)) : ∃ (oe : Obj) (vs : Array Value), h.get? e = some oe ∧ oe.cls = .ref C ∧ oe.dict = d ∧ oe.data = .fields vs := by
  have x : ObjOk P w H h e (.ext fun h => ∃ (oe : Obj) (vs : Array Value), h.get? e = some oe ∧ oe.cls = .ref C ∧ oe.dict = d ∧ oe.data = .fields vs) := hok e _ he
  exact x.1
section
variable {fs ex : List Addr} {H : Hp} {h h' : Heap} {d e : Addr} {o1 o2 : HO}
theorem Un.laid2 (k : ∀ b u, h.get? b = some u → h'.get? b = some u) (p1 : h.objs.size ≤ d) (p2 : h.objs.size ≤ e) (n1 : H d = none) (n2 : H e = none) : Un fs ex H (upd (upd H d o1) e o2) h h' where
  keep := fun b u q _ _ _ => k b u q
  slot := fun b u q _ _ _ => ⟨u.slots, k b u q⟩
  free := fun b u q n _ => by rw [upd_ne (Nat.ne_of_lt (Nat.lt_of_lt_of_le (Heap.lt_size q) p2)), upd_ne (Nat.ne_of_lt (Nat.lt_of_lt_of_le (Heap.lt_size q) p1))]; exact n
  there := fun b u q _ => ⟨u, k b u q⟩
  tups := fun b xs q => by rw [upd_ne (ne_of_none q n2), upd_ne (ne_of_none q n1)]; exact q
  frzs := fun b u xs q => by rw [upd_ne (ne_of_none q n2), upd_ne (ne_of_none q n1)]; exact q
  tbls := fun b ps q => ⟨#[], by rw [upd_ne (ne_of_none q n2), upd_ne (ne_of_none q n1), q]; simp⟩
theorem HOk.laid2 {P : Program} {w : World} (x : HOk P w H h) (k : ∀ b u, h.get? b = some u → h'.get? b = some u) (p1 : h.objs.size ≤ d) (p2 : h.objs.size ≤ e) (ne : d ≠ e) (new1 : ObjOk P w (upd (upd H d o1) e o2) h' d o1) (new2 : ObjOk P w (upd (upd H d o1) e o2) h' e o2) :
    HOk P w (upd (upd H d o1) e o2) h' := fun b u q => by
  have n1 := x.fresh p1
  have n2 := x.fresh p2
  by_cases hb : b = e
  · subst hb; rw [upd_same] at q; cases q; exact new2
  · rw [upd_ne hb] at q
    by_cases hd : b = d
    · subst hd; rw [upd_same] at q; cases q; exact new1
    · rw [upd_ne hd] at q
      exact (x b u q).stay (fun c v _ q => k c v q) (fun c q => by rw [upd_ne (ne_of_none q n2), upd_ne (ne_of_none q n1)]; exact q) fun c xs q => by rw [upd_ne (ne_of_none q n2), upd_ne (ne_of_none q n1)]; exact q
end
section
variable {X : Cx} {b : OwnE.Base} {x f qual : Str} {C fI : Addr} {a : Expr} {ta tk : TA} {p pos : Pos}
/-- x(e), x(f = e) as a value -/
def tMkX (C : Addr) (f : Str) (ta : TA) : TE := fun σ H Q => ta σ H fun vs H1 => ∃ y, vs = [y] ∧ ∀ e d, H1 e = none → H1 d = none → d ≠ e → Q (.ref e) (upd (upd H1 d (.xd [(f, y)])) e (xo e C (some d)))
theorem made_X {pins : List (Addr × Obj)} {σ : L2.St} {H1 : Hp} {Q : VK} {hp h' : Heap} {g : Array GenState} {dr : Drawn} {t tk' : Nat} {os : OsState} {y : V} {v' : Value} {e d : Addr} (I1 : Inv X pins σ H1 ⟨hp, g, dr, t, os⟩) (rv : RelV y v')
    (q1 : ∀ e d, H1 e = none → H1 d = none → d ≠ e → Q (.ref e) (upd (upd H1 d (.xd [(f, y)])) e (xo e C (some d)))) (M : OwnE.Made1 hp h' e C d f v') : EP X pins σ Q (.ref e) ⟨h', g, dr, tk', os⟩ := by
  obtain ⟨oe, fv, hoe, hc, hd, hdat, h1⟩ := M.obj
  have hns := M.ns
  have ob1 : ObjOk X.prog X.w (upd (upd H1 d (.xd [(f, y)])) e (xo e C (some d))) h' d (.xd [(f, y)]) := ⟨_, hns, fun z => relO_one rv z⟩
  have ob2 : ObjOk X.prog X.w (upd (upd H1 d (.xd [(f, y)])) e (xo e C (some d))) h' e (xo e C (some d)) := xo_ok hoe hc hd hdat
  have J : Inv X pins σ (upd (upd H1 d (.xd [(f, y)])) e (xo e C (some d))) ⟨h', g, dr, tk', os⟩ := I1.un (t' := tk') (Un.laid2 M.keep M.dbig M.new (I1.hok.fresh M.dbig) (I1.hok.fresh M.new)) (I1.hok.laid2 M.keep M.dbig M.new M.dne ob1 ob2)
  exact ⟨V.ref e, _, J, rfl, q1 e d (I1.hok.fresh M.new) (I1.hok.fresh M.dbig) M.dne⟩
theorem pe_mkX {k : Nat} (T : ErrOk b x f qual X.K X.mg C fI) (hr : Room k X.A) (ha : PA X [a] ta) (hg : Gl X x := by rfl) (hdb : (x == ("__debug__" : Str)) = false := by decide)
    (he : starEach (a :: []) X.env = (false, eval a X.env) :: starEach [] X.env := by rfl) (hpl : (backTo pos (starEach [] X.env)).any (·.1) = false := by rfl) :
    PE X (.Call (.Name x p) [a] [] pos) (tMkX C f ta) := by
  constructor
  intro pins s σ H Q I h
  apply wpAny_Call_Name_kw
  apply ld_glob I hg T.T.gC _ hdb
  apply PySem.W.callWith_K (h₀ := X.base) I.ok.mod.kin T.T.kC _ he hpl
  refine thn (ha.run pos pins s σ H _ I h) ?_
  rintro us s1 ⟨vs, H1, I1, r1, v, ev, q1⟩
  subst ev
  refine ⟨I1.kIn, ?_⟩
  match us, r1 with
  | [v'], .cons rv .nil =>
    show wpAny _ _ (call (.ref C) [v']) _ _ _
    have hlim := I1.nolimit
    obtain ⟨hp, g, dr, t, os⟩ := s1
    apply wpAny_call
    refine PySem.OwnE.run_made T.ok T.T T.hf1 T.hf2 T.bind I1.kIn hlim (by have := hr.dp; omega) ?_
    intro h' tk' e d M
    exact made_X I1 rv q1 M
theorem pe_mkXK {k : Nat} {kpos : Pos} (T : ErrOk b x f qual X.K X.mg C fI) (hr : Room k X.A)
    (bind : ∀ (oc : Value) (od : Option Addr) (doc pm : Value) (an : Option Addr) (cdv ct : Value) (p1 p2 q1 q2 q3 q4 : Pos) (iS : Scope) (u v : Value),
      bindArgs (PySem.W.fnOf "__init__" qual (OwnE.iA f p1 p2) (OwnE.iB f q1 q2 q3 q4) iS .none .none doc pm an cdv ct) ⟨[u], [(f, v)]⟩ = pure [(("self" : Str), u), (f, v)])
    (hkw : PK X [⟨some f, a, kpos⟩] tk) (hg : Gl X x := by rfl) (hdb : (x == ("__debug__" : Str)) = false := by decide)
    (hall : (backToKw pos (keywordEach [⟨some f, a, kpos⟩] X.env)).all (·.1.isSome) = true := by rfl) (hks : (backToKw pos (keywordEach [⟨some f, a, kpos⟩] X.env)).filterMap (·.1) = [f] := by rfl)
    (hpl : ((backTo pos (starEach [] X.env)).any (·.1) || (backToKw pos (keywordEach [⟨some f, a, kpos⟩] X.env)).any (·.1.isNone)) = false := by rfl) :
    PE X (.Call (.Name x p) [] [⟨some f, a, kpos⟩] pos) (tMkX C f tk) := by
  constructor
  intro pins s σ H Q I h
  apply wpAny_Call_Name_kw
  apply ld_glob I hg T.T.gC _ hdb
  refine PySem.W.callWith_KW0 (h₀ := X.base) I.ok.mod.kin T.T.kC hall ?_ hpl
  refine thn (hkw.run pos pins s σ H _ I h) ?_
  rintro us s1 ⟨vs, H1, I1, r1, v, ev, q1⟩
  subst ev
  refine ⟨I1.kIn, ?_⟩
  rw [hks]
  match us, r1 with
  | [v'], .cons rv .nil =>
    show wpAny _ _ (call (.ref C) [] [(f, v')]) _ _ _
    have hlim := I1.nolimit
    obtain ⟨hp, g, dr, t, os⟩ := s1
    apply wpAny_call
    refine PySem.OwnE.run_madeK T.ok T.T T.hf1 T.hf2 bind I1.kIn hlim (by have := hr.dp; omega) ?_
    intro h' tk' e d M
    exact made_X I1 rv q1 M
/-- e.f of an error that was made -/
def tXat (K : PySem.W.Frag) (f : Str) (te : TE) : TE := fun σ H Q => te σ H fun y H1 => ∃ (e C d : Addr) (v : V), y = .ref e ∧ H1 e = some (xo e C (some d)) ∧ H1 d = some (.xd [(f, v)]) ∧
  PySem.W.findIn K (.ref C) "__getattribute__" = some (some (.builtin "BaseException.__getattribute__")) ∧ PySem.W.findIn K (.ref C) "__getattr__" = some none ∧ PySem.W.subIn K (.ref C) (.type "BaseException") = some true ∧
  PySem.W.hasDictIn K C = true ∧ PySem.W.findIn K (.ref C) f = some none ∧ Q v H1
theorem pe_xat {e : Expr} {te : TE} {pos : Pos} (he : PE X e te) (hb : attributeBase e f X.env (eval e X.env) = eval e X.env := by rfl) : PE X (.Attribute e f pos) (tXat X.K f te) := by
  constructor
  intro pins s σ H Q I h
  refine attr_of hb (thn (he.run pins s σ H _ I h) ?_)
  rintro u s1 ⟨y, H1, I1, ry, ea, C, dd, v, ey, he1, hd1, ga, gg, exC, hdC, noN, q⟩
  subst ey
  obtain rfl : u = Value.ref ea := ry
  obtain ⟨oe, vs, hoe, hc, hdi, hdat⟩ := xo_at I1.hok he1
  obtain ⟨mA, hns, hr⟩ := (I1.hok dd _ hd1 : ObjOk X.prog X.w H1 s1.heap dd (.xd [(f, v)]))
  obtain ⟨od, ho, hl⟩ := lookIn_ns hns
  have l : List.lookup f [(f, v)] = some v := by simp [List.lookup]
  obtain ⟨u, hu, ru⟩ := RelO.some_of (v := v) (o := mA f) (by rw [← l]; exact hr f)
  have J : PySem.W.InstAt s1.heap ea oe C (some od) := by
    refine ⟨hoe, hc, ?_, ?_⟩
    · unfold PySem.W.notCls
      rw [hdat] <;> rfl
    · rw [hdi]
      exact ho
  exact HandSPX.exc_get I1.kIn J ga gg exC (PySem.W.findObj_own hdC noN rfl (by rw [hl, hu])) (handed_of ru) ⟨v, H1, I1.tok _, ru, q⟩
/-- isinstance(e, c), e an error that was made -/
def rIsX (K : PySem.W.Frag) : List V → Hp → VK → Prop := fun xs H Q => ∃ (e C : Addr) (d : Option Addr) (c : V) (u : Value) (r : Bool), xs = [.ref e, c] ∧ H e = some (xo e C d) ∧ (∀ dd, d = some dd → ∃ fs, H dd = some (.xd fs)) ∧ ExcC K C ∧ ClsV c u ∧ PySem.W.kitOne K (.ref C) u = some r ∧ Q (.bl r) H
theorem call_isX : CallR X (.builtin "isinstance") (rIsX X.K) := by
  intro pins s σ H xs us Q I r h
  obtain ⟨e, C, d, c, u, rr, rfl, he, hd, cl, kc, ek, q⟩ := h
  obtain ⟨u1, u2, rfl, r1, r2⟩ := vals2 r
  have e2 := kc.eq r2
  subst e2
  obtain rfl : u1 = Value.ref e := r1
  obtain ⟨oe, vs, hoe, hc, hdi, hdat⟩ := xo_at I.hok he
  have J : ∃ od, PySem.W.InstAt s.heap e oe C od := by
    cases d with
    | none =>
      refine ⟨none, hoe, hc, ?_, ?_⟩
      · unfold PySem.W.notCls
        rw [hdat] <;> rfl
      · rw [hdi]
        trivial
    | some dd =>
      obtain ⟨fs, hdd⟩ := hd dd rfl
      obtain ⟨mA, ⟨od, es, ep, e1, e2⟩, _⟩ := (show ObjOk X.prog X.w H s.heap dd (.xd fs) from I.hok dd _ hdd)
      refine ⟨some od, hoe, hc, ?_, ?_⟩
      · unfold PySem.W.notCls
        rw [hdat] <;> rfl
      · rw [hdi]
        exact e1
  obtain ⟨od, J⟩ := J
  obtain ⟨cdD, hcD, _⟩ := PySem.W.any_some cl.hd
  exact PySem.W.kia_one (PySem.W.kitx_exc (od := od) (by rw [hcD]; rfl) cl.hg cl.hk cl.hs cl.ha cl.hn cl.ht cl.hm) I.kIn J ek (fun z => nomatch z) fun tk => ⟨.bl rr, H, I.kept (t' := tk) fun _ _ z => z, rfl, q⟩
end
end L2

/-! An own error class without an own __init__, made with no arguments, as a value. -/
namespace L2
open PySem PySem.Spec PyProof.Rows
section
variable {fs ex : List Addr} {H : Hp} {h h' : Heap} {e : Addr} {o : HO}
theorem ne_gone (n : h.get? e = none) {b : Addr} {u : Obj} (q : h.get? b = some u) : b ≠ e := fun z => by
  rw [z, n] at q
  cases q
theorem Un.laidN (k : ∀ b u, h.get? b = some u → h'.get? b = some u) (n : h.get? e = none) (hn : H e = none) : Un fs ex H (upd H e o) h h' where
  keep := fun b u q _ _ _ => k b u q
  slot := fun b u q _ _ _ => ⟨u.slots, k b u q⟩
  free := fun b u q m _ => by rw [upd_ne (ne_gone n q)]; exact m
  there := fun b u q _ => ⟨u, k b u q⟩
  tups := fun b xs q => by rw [upd_ne (ne_of_none q hn)]; exact q
  frzs := fun b u xs q => by rw [upd_ne (ne_of_none q hn)]; exact q
  tbls := fun b ps q => ⟨#[], by rw [upd_ne (ne_of_none q hn), q]; simp⟩
theorem HOk.laidN {P : Program} {w : World} (x : HOk P w H h) (k : ∀ b u, h.get? b = some u → h'.get? b = some u) (n : h.get? e = none) (new : ObjOk P w (upd H e o) h' e o) : HOk P w (upd H e o) h' := fun b u q => by
  have hn := x.gone n
  by_cases hb : b = e
  · subst hb; rw [upd_same] at q; cases q; exact new
  · rw [upd_ne hb] at q
    exact (x b u q).stay (fun c v _ q => k c v q) (fun c q => by rw [upd_ne (ne_of_none q hn)]; exact q) fun c xs q => by rw [upd_ne (ne_of_none q hn)]; exact q
end
section
variable {X : Cx} {C : Addr} {base : List Value} {B newId initId : String}
def tMkX0 (C : Addr) : TE := fun σ H Q => ∀ e, H e = none → Q (.ref e) (upd H e (xo e C none))
/-- x() -/
theorem pe_mkX0 {x : Str} {p pos : Pos} (F : ExcBaseFacts B newId initId base) (q : PySem.W.excIn X.K C base newId = true) (gC : X.mg x = some (.ref C)) (kC : PySem.W.keepIn X.K (.ref C) = true) (hg : Gl X x)
    (hdb : (x == ("__debug__" : Str)) = false := by decide) : PE X (.Call (.Name x p) [] [] pos) (tMkX0 C) := by
  constructor
  intro pins s σ H Q I h
  apply wpAny_Call_Name_kw
  apply ld_glob I hg gC _ hdb
  refine PySem.W.callWith_K0 (first := []) I.kIn kC ?_
  show wpAny _ _ (call (.ref C) []) _ _ _
  obtain ⟨bm, N, nm, qn, bs, hd, sn, sub, ab, col, dd, k0, k1, k2, k3, k5, mN, hC, hN, hni, T⟩ := exc_obj I.kIn q
  obtain ⟨hp, g, dr, t, os⟩ := s
  refine wpAny_call_exc_subT F T hC hN hni (fun h' e M => ?_) (Nat.zero_le _)
  obtain ⟨t1, he, _, _⟩ := M.there
  have hn := I.hok.gone M.new
  have J : Inv X pins σ (upd H e (xo e C none)) ⟨h', g, dr, t, os⟩ := I.un (t' := t) (Un.laidN M.keeps M.new hn) (I.hok.laidN M.keeps M.new (xo_ok he rfl rfl rfl))
  exact ⟨V.ref e, _, J, rfl, h e hn⟩
end
end L2

namespace Sb
open PySem PySem.Spec PyProof.Rows L2
theorem ne_fr {H : Hp} {a b : Addr} {o : HO} (n : H b = none) (h : H a = some o) : a ≠ b := ne_of_none h n
theorem ne_fr' {H : Hp} {a b : Addr} {o : HO} (n : H b = none) (h : H a = some o) : b ≠ a := (ne_of_none h n).symm
theorem upd_off {H : Hp} {a b : Addr} {o u : HO} (n : b ≠ a) (h : H b = some u) : upd H a o b = some u := by rw [upd_ne n]; exact h
theorem upd_offN {H : Hp} {a b : Addr} {o : HO} (n : b ≠ a) (h : H b = none) : upd H a o b = none := by rw [upd_ne n]; exact h
theorem upd_none {H : Hp} {a b : Addr} {o : HO} (h : upd H a o b = none) : b ≠ a ∧ H b = none := by
  by_cases e : b = a
  · subst e
    rw [upd_same] at h
    cases h
  · rw [upd_ne e] at h
    exact ⟨e, h⟩
local macro_rules | `(tactic| walk_at "ne") => `(tactic| first
  | assumption
  | exact Ne.symm (by assumption)
  | exact ne_fr (by assumption) (by walk_at "hp")
  | exact ne_fr' (by assumption) (by walk_at "hp"))
local macro_rules | `(tactic| walk_at "hp") => `(tactic| first
  | assumption
  | exact upd_same
  | exact upd_off (by walk_at "ne") (by walk_at "hp"))

def top (i : Nat) : Stmt := PySem.Challenge.pw_seenbefore_k86_errors_and_names.main.body.getD i (.Pass ⟨0, 0, 0, 0⟩)
abbrev s_is_integer : Stmt := top 18
abbrev s_is_between : Stmt := top 19
abbrev s_require_stream : Stmt := top 21
abbrev s_is_stream : Stmt := top 22
abbrev s_is_message : Stmt := top 23
abbrev s_is_message_value : Stmt := top 24
abbrev s_numbered : Stmt := top 25
abbrev s_is_numbered : Stmt := top 26
abbrev s_are_alike : Stmt := top 27
abbrev s_exchanged : Stmt := top 28
abbrev s_Watcher_init : Stmt := inClass (top 36) 0
abbrev s_Watcher_len : Stmt := inClass (top 36) 1
abbrev s_Watcher_add_state : Stmt := inClass (top 36) 3
abbrev s_Watcher_set_verdict : Stmt := inClass (top 36) 4
abbrev s_Watcher_add_rule : Stmt := inClass (top 36) 5
abbrev s_Watcher_remove_rule : Stmt := inClass (top 36) 6
abbrev s_Watcher_verdicts : Stmt := inClass (top 36) 7
abbrev s_Watcher_held_counts : Stmt := inClass (top 36) 8
abbrev s_Watcher_rules : Stmt := inClass (top 36) 9
abbrev s_Watcher_twin : Stmt := inClass (top 36) 10
abbrev s_Watcher_rule_for : Stmt := inClass (top 36) 11
abbrev s_Watcher_require_state : Stmt := inClass (top 36) 12
abbrev s_Watcher_require_word : Stmt := inClass (top 36) 13
abbrev s_require_verdict : Stmt := top 37
abbrev s_is_test : Stmt := top 38
abbrev s_are_sources : Stmt := top 39
abbrev s_is_source : Stmt := top 40
abbrev s_may_be_rule : Stmt := top 41
abbrev s_rule_order : Stmt := top 42
abbrev s_part_order : Stmt := top 43
abbrev s_run : Stmt := top 45
abbrev s_verdict_of : Stmt := top 46
abbrev s_run_from : Stmt := top 47
abbrev s_after_message : Stmt := top 48
abbrev s_carried : Stmt := top 49
abbrev s_Follower_init : Stmt := inClass (top 50) 0
abbrev s_Follower_read : Stmt := inClass (top 50) 1
abbrev s_Follower_current_state : Stmt := inClass (top 50) 2
abbrev s_Follower_held_values : Stmt := inClass (top 50) 4
abbrev s_Follower_rewind : Stmt := inClass (top 50) 5
abbrev s_format_watcher : Stmt := top 56
abbrev s_format_stream : Stmt := top 57
abbrev s_parse_watcher : Stmt := top 58
abbrev s_read_line : Stmt := top 59
abbrev s_read_parts : Stmt := top 60
abbrev s_read_start : Stmt := top 61
abbrev s_read_state : Stmt := top 62
abbrev s_read_rule : Stmt := top 63
abbrev s_parse_stream : Stmt := top 64
abbrev s_is_written_value : Stmt := top 65
abbrev s_law_kinds : Stmt := top 67
abbrev s_law_built_in : Stmt := top 68
abbrev s_law_errors_right : Stmt := top 69
abbrev s_law : Stmt := top 70
abbrev s_NotAStream_init : Stmt := inClass (top 2) 0
abbrev s_NotAWord_init : Stmt := inClass (top 3) 0
abbrev s_NotAVerdict_init : Stmt := inClass (top 4) 0
abbrev s_InvalidTest_init : Stmt := inClass (top 5) 0
abbrev s_InvalidSources_init : Stmt := inClass (top 6) 0
abbrev s_ParseError_init : Stmt := inClass (top 9) 0
abbrev s_UnknownState_init : Stmt := inClass (top 10) 0
abbrev s_UnknownRule_init : Stmt := inClass (top 11) 0
abbrev s_UnknownCheckpoint_init : Stmt := inClass (top 12) 0
abbrev s_UnknownRecord_init : Stmt := inClass (top 13) 0
abbrev s_RuleExists_init : Stmt := inClass (top 14) 0
abbrev s_TooFar_init : Stmt := inClass (top 15) 0
abbrev s_LimitExceeded_init : Stmt := inClass (top 16) 0
def lit_DIGITS : List (Str × Int) := [("0", 0), ("1", 1), ("2", 2), ("3", 3), ("4", 4), ("5", 5)]
def lit_FIRST_LINES : List (Str × Int) := [("words 1", 1), ("words 2", 2), ("words 3", 3)]
/-- where all stands -/
structure Tx (K : PySem.W.Frag) (mg : Str → Option Value) where
  Watcher : Cn K mg "Watcher"
  nf_Watcherwords : NoAttr K Watcher.C "words"
  nf_Watcher_verdicts : NoAttr K Watcher.C "_verdicts"
  nf_Watcher_held : NoAttr K Watcher.C "_held"
  nf_Watcher_rules : NoAttr K Watcher.C "_rules"
  Follower : Cn K mg "Follower"
  nf_Follower_watcher : NoAttr K Follower.C "_watcher"
  nf_Follower_trail : NoAttr K Follower.C "_trail"
  is_integer : Dn K mg "is_integer" s_is_integer ["value"]
  is_between : Dn K mg "is_between" s_is_between ["value", "low", "high"]
  require_stream : Dn K mg "require_stream" s_require_stream ["value", "words"]
  is_stream : Dn K mg "is_stream" s_is_stream ["value", "words"]
  is_message : Dn K mg "is_message" s_is_message ["message", "words"]
  is_message_value : Dn K mg "is_message_value" s_is_message_value ["value"]
  numbered : Dn K mg "numbered" s_numbered ["stream"]
  is_numbered : Dn K mg "is_numbered" s_is_numbered ["stream"]
  are_alike : Dn K mg "are_alike" s_are_alike ["one", "two"]
  exchanged : Dn K mg "exchanged" s_exchanged ["stream", "one", "two"]
  Watcher_init : Mn K Watcher.C "__init__" "Watcher.__init__" s_Watcher_init ["self", "words"]
  Watcher_len : Mn K Watcher.C "__len__" "Watcher.__len__" s_Watcher_len ["self"]
  Watcher_add_state : Mn K Watcher.C "add_state" "Watcher.add_state" s_Watcher_add_state ["self", "verdict", "held"]
  Watcher_set_verdict : Mn K Watcher.C "set_verdict" "Watcher.set_verdict" s_Watcher_set_verdict ["self", "state", "verdict"]
  Watcher_add_rule : Mn K Watcher.C "add_rule" "Watcher.add_rule" s_Watcher_add_rule ["self", "state", "word", "test", "target", "sources"]
  Watcher_remove_rule : Mn K Watcher.C "remove_rule" "Watcher.remove_rule" s_Watcher_remove_rule ["self", "state", "word", "test"]
  Watcher_verdicts : Mn K Watcher.C "verdicts" "Watcher.verdicts" s_Watcher_verdicts ["self"]
  Watcher_held_counts : Mn K Watcher.C "held_counts" "Watcher.held_counts" s_Watcher_held_counts ["self"]
  Watcher_rules : Mn K Watcher.C "rules" "Watcher.rules" s_Watcher_rules ["self"]
  Watcher_twin : Mn K Watcher.C "twin" "Watcher.twin" s_Watcher_twin ["self"]
  Watcher_rule_for : Mn K Watcher.C "rule_for" "Watcher.rule_for" s_Watcher_rule_for ["self", "state", "word", "test"]
  Watcher_require_state : Mn K Watcher.C "require_state" "Watcher.require_state" s_Watcher_require_state ["self", "state"]
  Watcher_require_word : Mn K Watcher.C "require_word" "Watcher.require_word" s_Watcher_require_word ["self", "word"]
  require_verdict : Dn K mg "require_verdict" s_require_verdict ["verdict"]
  is_test : Dn K mg "is_test" s_is_test ["test", "held"]
  are_sources : Dn K mg "are_sources" s_are_sources ["sources", "wanted", "held", "test"]
  is_source : Dn K mg "is_source" s_is_source ["source", "held", "test"]
  may_be_rule : Dn K mg "may_be_rule" s_may_be_rule ["rule"]
  rule_order : Dn K mg "rule_order" s_rule_order ["rule"]
  part_order : Dn K mg "part_order" s_part_order ["part"]
  run : Dn K mg "run" s_run ["watcher", "stream"]
  verdict_of : Dn K mg "verdict_of" s_verdict_of ["watcher", "stream"]
  run_from : Dn K mg "run_from" s_run_from ["watcher", "state", "held", "stream"]
  after_message : Dn K mg "after_message" s_after_message ["watcher", "state", "held", "word", "value"]
  carried : Dn K mg "carried" s_carried ["sources", "held", "value"]
  Follower_init : Mn K Follower.C "__init__" "Follower.__init__" s_Follower_init ["self", "watcher"]
  Follower_read : Mn K Follower.C "read" "Follower.read" s_Follower_read ["self", "word", "value"]
  Follower_current_state : Mn K Follower.C "current_state" "Follower.current_state" s_Follower_current_state ["self"]
  Follower_held_values : Mn K Follower.C "held_values" "Follower.held_values" s_Follower_held_values ["self"]
  Follower_rewind : Mn K Follower.C "rewind" "Follower.rewind" s_Follower_rewind ["self", "many"]
  format_watcher : Dn K mg "format_watcher" s_format_watcher ["watcher"]
  format_stream : Dn K mg "format_stream" s_format_stream ["stream"]
  parse_watcher : Dn K mg "parse_watcher" s_parse_watcher ["text"]
  read_line : Dn K mg "read_line" s_read_line ["watcher", "index", "line"]
  read_parts : Dn K mg "read_parts" s_read_parts ["watcher", "index", "parts"]
  read_start : Dn K mg "read_start" s_read_start ["watcher", "parts"]
  read_state : Dn K mg "read_state" s_read_state ["watcher", "parts"]
  read_rule : Dn K mg "read_rule" s_read_rule ["watcher", "parts"]
  parse_stream : Dn K mg "parse_stream" s_parse_stream ["text", "words"]
  is_written_value : Dn K mg "is_written_value" s_is_written_value ["text"]
  law_kinds : Dn K mg "_law_kinds" s_law_kinds ["e"]
  law_built_in : Dn K mg "_law_built_in" s_law_built_in ["e"]
  law_errors_right : Dn K mg "_law_errors_right" s_law_errors_right ["some", "triple", "amount"]
  mk_Watcher : Mk K Watcher.C Watcher_init.f
  mk_Follower : Mk K Follower.C Follower_init.f
  bt_rule_order : ∀ (s : Shared) (v : Value), BindsTo s rule_order.fd ⟨[v], []⟩ [("rule", v)]
  bt_part_order : ∀ (s : Shared) (v : Value), BindsTo s part_order.fd ⟨[v], []⟩ [("part", v)]
  tf_Watcher_len : PySem.W.typeIn K (.ref Watcher_len.f) = some (.type "function")
  NotAStream : En K mg OwnE.bVE "NotAStream" "value" "NotAStream.__init__"
  NotAWord : En K mg OwnE.bVE "NotAWord" "word" "NotAWord.__init__"
  NotAVerdict : En K mg OwnE.bVE "NotAVerdict" "verdict" "NotAVerdict.__init__"
  InvalidTest : En K mg OwnE.bVE "InvalidTest" "test" "InvalidTest.__init__"
  InvalidSources : En K mg OwnE.bVE "InvalidSources" "sources" "InvalidSources.__init__"
  ParseError : En K mg OwnE.bVE "ParseError" "line" "ParseError.__init__"
  UnknownState : En K mg OwnE.bLE "UnknownState" "state" "UnknownState.__init__"
  UnknownRule : En K mg OwnE.bLE "UnknownRule" "rule" "UnknownRule.__init__"
  UnknownCheckpoint : En K mg OwnE.bLE "UnknownCheckpoint" "number" "UnknownCheckpoint.__init__"
  UnknownRecord : En K mg OwnE.bLE "UnknownRecord" "number" "UnknownRecord.__init__"
  RuleExists : En K mg OwnE.bRE "RuleExists" "rule" "RuleExists.__init__"
  TooFar : En K mg OwnE.bRE "TooFar" "many" "TooFar.__init__"
  LimitExceeded : En K mg OwnE.bOE "LimitExceeded" "limit" "LimitExceeded.__init__"
  ix_NotAStream : L2.ExcC K NotAStream.C
  ix_NotAWord : L2.ExcC K NotAWord.C
  ix_NotAVerdict : L2.ExcC K NotAVerdict.C
  ix_InvalidTest : L2.ExcC K InvalidTest.C
  ix_InvalidSources : L2.ExcC K InvalidSources.C
  ix_ParseError : L2.ExcC K ParseError.C
  ix_UnknownState : L2.ExcC K UnknownState.C
  ix_UnknownRule : L2.ExcC K UnknownRule.C
  ix_UnknownCheckpoint : L2.ExcC K UnknownCheckpoint.C
  ix_UnknownRecord : L2.ExcC K UnknownRecord.C
  ix_RuleExists : L2.ExcC K RuleExists.C
  ix_TooFar : L2.ExcC K TooFar.C
  ix_LimitExceeded : L2.ExcC K LimitExceeded.C
  InvalidClaimC : Addr
  InvalidClaim_q : PySem.W.excIn K InvalidClaimC OwnE.bVE.bm OwnE.bVE.newId = true
  InvalidClaim_g : mg "InvalidClaim" = some (.ref InvalidClaimC)
  InvalidClaim_k : PySem.W.keepIn K (.ref InvalidClaimC) = true
  ix_InvalidClaim : L2.ExcC K InvalidClaimC
  UnpairedC : Addr
  Unpaired_q : PySem.W.excIn K UnpairedC OwnE.bVE.bm OwnE.bVE.newId = true
  Unpaired_g : mg "Unpaired" = some (.ref UnpairedC)
  Unpaired_k : PySem.W.keepIn K (.ref UnpairedC) = true
  ix_Unpaired : L2.ExcC K UnpairedC
  kO : ∀ (i j : Nat) (a b : Addr), [NotAStream.C, NotAWord.C, NotAVerdict.C, InvalidTest.C, InvalidSources.C, InvalidClaimC, UnpairedC, ParseError.C, UnknownState.C, UnknownRule.C, UnknownCheckpoint.C, UnknownRecord.C, RuleExists.C, TooFar.C, LimitExceeded.C][i]? = some a → [NotAStream.C, NotAWord.C, NotAVerdict.C, InvalidTest.C, InvalidSources.C, InvalidClaimC, UnpairedC, ParseError.C, UnknownState.C, UnknownRule.C, UnknownCheckpoint.C, UnknownRecord.C, RuleExists.C, TooFar.C, LimitExceeded.C][j]? = some b → PySem.W.kitOne K (.ref a) (.ref b) = some (decide (i = j))
  kB : ∀ (i j g : Nat) (a : Addr) (t : String), [NotAStream.C, NotAWord.C, NotAVerdict.C, InvalidTest.C, InvalidSources.C, InvalidClaimC, UnpairedC, ParseError.C, UnknownState.C, UnknownRule.C, UnknownCheckpoint.C, UnknownRecord.C, RuleExists.C, TooFar.C, LimitExceeded.C][i]? = some a → ["ValueError", "LookupError", "RuntimeError", "OverflowError", "KeyError", "IndexError", "NotImplementedError", "ZeroDivisionError"][j]? = some t → [0, 0, 0, 0, 0, 0, 0, 0, 1, 1, 1, 1, 2, 2, 3][i]? = some g → PySem.W.kitOne K (.ref a) (.type t) = some (decide (j = g))
  ap_UnknownState_NotAVerdict : PySem.W.subIn K (.ref UnknownState.C) (.ref NotAVerdict.C) = some false
  ap_UnknownState_LimitExceeded : PySem.W.subIn K (.ref UnknownState.C) (.ref LimitExceeded.C) = some false
  ap_UnknownState_NotAWord : PySem.W.subIn K (.ref UnknownState.C) (.ref NotAWord.C) = some false
  ap_UnknownState_InvalidTest : PySem.W.subIn K (.ref UnknownState.C) (.ref InvalidTest.C) = some false
  ap_UnknownState_InvalidSources : PySem.W.subIn K (.ref UnknownState.C) (.ref InvalidSources.C) = some false
  ap_UnknownState_RuleExists : PySem.W.subIn K (.ref UnknownState.C) (.ref RuleExists.C) = some false
  ap_NotAVerdict_UnknownState : PySem.W.subIn K (.ref NotAVerdict.C) (.ref UnknownState.C) = some false
  ap_NotAVerdict_LimitExceeded : PySem.W.subIn K (.ref NotAVerdict.C) (.ref LimitExceeded.C) = some false
  ap_NotAVerdict_NotAWord : PySem.W.subIn K (.ref NotAVerdict.C) (.ref NotAWord.C) = some false
  ap_NotAVerdict_InvalidTest : PySem.W.subIn K (.ref NotAVerdict.C) (.ref InvalidTest.C) = some false
  ap_NotAVerdict_InvalidSources : PySem.W.subIn K (.ref NotAVerdict.C) (.ref InvalidSources.C) = some false
  ap_NotAVerdict_RuleExists : PySem.W.subIn K (.ref NotAVerdict.C) (.ref RuleExists.C) = some false
  ap_LimitExceeded_UnknownState : PySem.W.subIn K (.ref LimitExceeded.C) (.ref UnknownState.C) = some false
  ap_LimitExceeded_NotAVerdict : PySem.W.subIn K (.ref LimitExceeded.C) (.ref NotAVerdict.C) = some false
  ap_LimitExceeded_NotAWord : PySem.W.subIn K (.ref LimitExceeded.C) (.ref NotAWord.C) = some false
  ap_LimitExceeded_InvalidTest : PySem.W.subIn K (.ref LimitExceeded.C) (.ref InvalidTest.C) = some false
  ap_LimitExceeded_InvalidSources : PySem.W.subIn K (.ref LimitExceeded.C) (.ref InvalidSources.C) = some false
  ap_LimitExceeded_RuleExists : PySem.W.subIn K (.ref LimitExceeded.C) (.ref RuleExists.C) = some false
  ap_NotAWord_UnknownState : PySem.W.subIn K (.ref NotAWord.C) (.ref UnknownState.C) = some false
  ap_NotAWord_NotAVerdict : PySem.W.subIn K (.ref NotAWord.C) (.ref NotAVerdict.C) = some false
  ap_NotAWord_LimitExceeded : PySem.W.subIn K (.ref NotAWord.C) (.ref LimitExceeded.C) = some false
  ap_NotAWord_InvalidTest : PySem.W.subIn K (.ref NotAWord.C) (.ref InvalidTest.C) = some false
  ap_NotAWord_InvalidSources : PySem.W.subIn K (.ref NotAWord.C) (.ref InvalidSources.C) = some false
  ap_NotAWord_RuleExists : PySem.W.subIn K (.ref NotAWord.C) (.ref RuleExists.C) = some false
  ap_InvalidTest_UnknownState : PySem.W.subIn K (.ref InvalidTest.C) (.ref UnknownState.C) = some false
  ap_InvalidTest_NotAVerdict : PySem.W.subIn K (.ref InvalidTest.C) (.ref NotAVerdict.C) = some false
  ap_InvalidTest_LimitExceeded : PySem.W.subIn K (.ref InvalidTest.C) (.ref LimitExceeded.C) = some false
  ap_InvalidTest_NotAWord : PySem.W.subIn K (.ref InvalidTest.C) (.ref NotAWord.C) = some false
  ap_InvalidTest_InvalidSources : PySem.W.subIn K (.ref InvalidTest.C) (.ref InvalidSources.C) = some false
  ap_InvalidTest_RuleExists : PySem.W.subIn K (.ref InvalidTest.C) (.ref RuleExists.C) = some false
  ap_InvalidSources_UnknownState : PySem.W.subIn K (.ref InvalidSources.C) (.ref UnknownState.C) = some false
  ap_InvalidSources_NotAVerdict : PySem.W.subIn K (.ref InvalidSources.C) (.ref NotAVerdict.C) = some false
  ap_InvalidSources_LimitExceeded : PySem.W.subIn K (.ref InvalidSources.C) (.ref LimitExceeded.C) = some false
  ap_InvalidSources_NotAWord : PySem.W.subIn K (.ref InvalidSources.C) (.ref NotAWord.C) = some false
  ap_InvalidSources_InvalidTest : PySem.W.subIn K (.ref InvalidSources.C) (.ref InvalidTest.C) = some false
  ap_InvalidSources_RuleExists : PySem.W.subIn K (.ref InvalidSources.C) (.ref RuleExists.C) = some false
  ap_RuleExists_UnknownState : PySem.W.subIn K (.ref RuleExists.C) (.ref UnknownState.C) = some false
  ap_RuleExists_NotAVerdict : PySem.W.subIn K (.ref RuleExists.C) (.ref NotAVerdict.C) = some false
  ap_RuleExists_LimitExceeded : PySem.W.subIn K (.ref RuleExists.C) (.ref LimitExceeded.C) = some false
  ap_RuleExists_NotAWord : PySem.W.subIn K (.ref RuleExists.C) (.ref NotAWord.C) = some false
  ap_RuleExists_InvalidTest : PySem.W.subIn K (.ref RuleExists.C) (.ref InvalidTest.C) = some false
  ap_RuleExists_InvalidSources : PySem.W.subIn K (.ref RuleExists.C) (.ref InvalidSources.C) = some false
  ck_MOST_WORDS : Tok
  g_MOST_WORDS : mg "MOST_WORDS" = some (.int 3 ck_MOST_WORDS)
  ck_MOST_STATES : Tok
  g_MOST_STATES : mg "MOST_STATES" = some (.int 6 ck_MOST_STATES)
  ck_MOST_HELD : Tok
  g_MOST_HELD : mg "MOST_HELD" = some (.int 3 ck_MOST_HELD)
  ck_MOST_VERDICT : Tok
  g_MOST_VERDICT : mg "MOST_VERDICT" = some (.int 3 ck_MOST_VERDICT)
  ck_NEW : Tok
  g_NEW : mg "NEW" = some (.str "new" ck_NEW)
  ck_VALUE : Tok
  g_VALUE : mg "VALUE" = some (.str "value" ck_VALUE)
  ck_EMPTY : Tok
  g_EMPTY : mg "EMPTY" = some (.str "-" ck_EMPTY)
  ck_MOST_DIGITS : Tok
  g_MOST_DIGITS : mg "MOST_DIGITS" = some (.int 60 ck_MOST_DIGITS)
  pr : Params
  aDIGITS : Addr
  g_DIGITS : mg "DIGITS" = some (.ref aDIGITS)
  dg_DIGITS : ∀ w : World, pr = w.params → DigD K w aDIGITS (litF lit_DIGITS)
  aFIRST_LINES : Addr
  g_FIRST_LINES : mg "FIRST_LINES" = some (.ref aFIRST_LINES)
  dg_FIRST_LINES : ∀ w : World, pr = w.params → DigD K w aFIRST_LINES (litF lit_FIRST_LINES)
  m_abs : mg "abs" = none
  m_bool : mg "bool" = none
  m_dict : mg "dict" = none
  m_enumerate : mg "enumerate" = none
  m_int : mg "int" = none
  m_isinstance : mg "isinstance" = none
  m_len : mg "len" = none
  m_list : mg "list" = none
  m_range : mg "range" = none
  m_repr : mg "repr" = none
  m_set : mg "set" = none
  m_sorted : mg "sorted" = none
  m_str : mg "str" = none
  m_tuple : mg "tuple" = none
  m_zip : mg "zip" = none
  m_ValueError : mg "ValueError" = none
  m_LookupError : mg "LookupError" = none
  m_RuntimeError : mg "RuntimeError" = none
  m_OverflowError : mg "OverflowError" = none
  m_KeyError : mg "KeyError" = none
  m_IndexError : mg "IndexError" = none
  m_NotImplementedError : mg "NotImplementedError" = none
  m_ZeroDivisionError : mg "ZeroDivisionError" = none
/-! ### the pen: cells of the script, drawn one by one -/
def cutAll (ns : List Int) (h : ns.length ≤ 63) : cutV (ns.map V.int) none (some 63) = ns.map V.int := by
  unfold cutV
  rw [show HT.sIx (ns.map V.int).length 0 none = 0 from HT.sIx_none _ _, show HT.sIx (ns.map V.int).length (ns.map V.int).length (some 63) = min 63 (ns.map V.int).length from HT.sIx_nat _ _ 63]
  rw [List.drop_zero, Nat.sub_zero, List.length_map, Nat.min_eq_right h]
  exact List.take_of_length_le (by rw [List.length_map]; exact Nat.le_refl _)
/-- but at p, what was tracked is as it was -/
def Keep (p : Addr) (H H' : Hp) : Prop := ∀ b o, H b = some o → b ≠ p → H' b = some o
theorem Keep.refl {p : Addr} {H : Hp} : Keep p H H := fun _ _ h _ => h
theorem Keep.trans {p : Addr} {H H1 H2 : Hp} (a : Keep p H H1) (b : Keep p H1 H2) : Keep p H H2 := fun c o h n => b c o (a c o h n) n
theorem Keep.new {p q : Addr} {H : Hp} {o : HO} (h : H q = none) : Keep p H (upd H q o) := fun b u e _ => by rw [upd_ne (ne_of_none e h)]; exact e
theorem Keep.at {p : Addr} {H H1 : Hp} {o : HO} (a : Keep p H H1) : Keep p H (upd H1 p o) := fun b u e n => by rw [upd_ne n]; exact a b u e n
theorem Keep.same {p : Addr} {H H1 : Hp} (h : Same H H1) : Keep p H H1 := fun b o e _ => h b o e
/-- the pen stands at p, its cells at c -/
def PenIs (H : Hp) (p c : Addr) (ns : List Int) (at_ st : Int) : Prop := H p = some (.lst [.ref c, .int at_, .int st]) ∧ H c = some (.lst (ns.map V.int))
def Pen (H : Hp) (p c : Addr) : Prop := ∃ ns at_ st, PenIs H p c ns at_ st ∧ 0 ≤ at_ ∧ 0 ≤ st ∧ ns.length ≤ 63
theorem PenIs.ne {H : Hp} {p c : Addr} {ns : List Int} {a z : Int} (h : PenIs H p c ns a z) : p ≠ c := by
  refine ne_of h.1 h.2 ?_
  intro e
  cases ns with
  | nil => cases e
  | cons x r => cases e
theorem Pen.ne {H : Hp} {p c : Addr} (h : Pen H p c) : p ≠ c := by
  obtain ⟨_, _, _, h, _⟩ := h
  exact h.ne
theorem Pen.mono {H H' : Hp} {p c : Addr} (h : Pen H p c) (e : Same H H') : Pen H' p c := by
  obtain ⟨ns, a, z, h, r⟩ := h
  exact ⟨ns, a, z, ⟨e _ _ h.1, e _ _ h.2⟩, r⟩
theorem Pen.free {H : Hp} {p c q : Addr} (h : Pen H p c) (e : H q = none) : p ≠ q ∧ c ≠ q := by
  obtain ⟨ns, a, z, h, r⟩ := h
  exact ⟨ne_of_none h.1 e, ne_of_none h.2 e⟩
theorem Pen.tups {H H' : Hp} {p c : Addr} (h : Pen H p c) (k : Keep p H H') : Tups H H' := fun a xs e => by
  obtain ⟨ns, x, z, ⟨h1, _⟩, _⟩ := h
  exact k a _ e (ne_of e h1 (fun z => by cases z))
theorem Pen.at {H : Hp} {p c : Addr} (h : Pen H p c) : ∃ l, H p = some (.lst l) := by
  obtain ⟨ns, x, z, ⟨h1, _⟩, _⟩ := h
  exact ⟨_, h1⟩
theorem Pen.put {H : Hp} {p c a : Addr} {o : HO} (h : Pen H p c) (n1 : a ≠ p) (n2 : a ≠ c) : Pen (upd H a o) p c := by
  obtain ⟨ns, x, z, ⟨h1, h2⟩, r⟩ := h
  exact ⟨ns, x, z, ⟨by rw [upd_ne n1.symm]; exact h1, by rw [upd_ne n2.symm]; exact h2⟩, r⟩
def sp_law_pen (K : PySem.W.Frag) : Sp := fun vs H Q _ => ∃ (a : Addr) (ns : List Int), vs = [.ref a] ∧ SqL K H a (ns.map V.int) ∧ ns.length ≤ 63 ∧
  ∀ p c H', Same H H' → H p = none → H c = none → Pen H' p c → Q (.ref p) H'
def sp_law_fresh : Sp := fun vs H Q _ => ∃ (p c : Addr) (ns : List Int) (a z : Int), vs = [.ref p] ∧ PenIs H p c ns a z ∧ 0 ≤ a ∧ ns.length ≤ 63 ∧
  ∀ r H', 0 ≤ r → Keep p H H' → PenIs H' p c ns (a + 1) z → Q (.int r) H'
def sp_law_draw : Sp := fun vs H Q _ => ∃ (p c : Addr) (many : Int), vs = [.ref p, .int many] ∧ Pen H p c ∧ 0 < many ∧ many < 2 ^ 100 ∧
  ∀ d H', 0 ≤ d → d < many → Keep p H H' → Pen H' p c → Q (.int d) H'

/-! ### integers -/
/-- an integer from lo to hi -/
def btw (d : PyData) (lo hi : Int) : Bool := match d with
  | .int n => decide (lo ≤ n) && decide (n ≤ hi)
  | _ => false
def isI (d : PyData) : Bool := isIntD d && !isBoolD d
def sp_is_integer : Sp := fun vs H Q _ => ∃ (p : Addr) (v : V) (d : PyData), vs = [v] ∧ LD p H v d ∧ Q (.bl (isI d)) H
def sp_is_between : Sp := fun vs H Q _ => ∃ (p : Addr) (v : V) (d : PyData) (lo hi : Int), vs = [v, .int lo, .int hi] ∧ LD p H v d ∧ Q (.bl (btw d lo hi)) H
section
variable {P : Program} {w : World} {K : PySem.W.Frag} {mg : Str → Option Value} {base : Heap}
abbrev N_is_integer : List Str := ["value"]
theorem sc_is_integer : FnScope N_is_integer ["value"] (defScope s_is_integer) := ⟨rfl, rfl, rfl, by decide +kernel, rfl, by decide +kernel, by decide +kernel⟩
theorem ok_is_integer {f : Addr} {fd : FuncData} {k : Nat} (F : Fun K "is_integer" "is_integer" s_is_integer f fd) (m_isinstance : mg "isinstance" = none) (m_int : mg "int" = none) (m_bool : mg "bool" = none) : FnG P w K mg base CX0 (k + 1) f fd ["value"] sp_is_integer := by
  refine okG F sc_is_integer (fun vs H Q E h => ?_) (fun cdv A outer s H vs Q E gd hr h => ?_)
  · obtain ⟨p, v, d, rfl, _⟩ := h
    rfl
  · obtain ⟨p, v, d, rfl, hv, q⟩ := h
    refine ⟨_, 
      (pss_one (ps_ret (pe_and (pe_callB (call_isL kit_int) (by rfl) m_isinstance (by decide +kernel) (pa_cons (pv 0) (pa_cons (pe_bltn (v := .ty "int") (by rfl) m_int (by decide +kernel) (show RelV (.ty "int") (.type "int") from rfl)) pa_nil))) (pe_one (pe_not (pe_callB (call_isL kit_bool) (by rfl) m_isinstance (by decide +kernel) (pa_cons (pv 0) (pa_cons (pe_bltn (v := .ty "bool") (by rfl) m_bool (by decide +kernel) (show RelV (.ty "bool") (.type "bool") from rfl)) pa_nil)))))))) -- return isinstance(value, int) and (not isinstance(value, bool))
       , ?_⟩
    refine ⟨v, rfl, p, v, d, rfl, hv, _, rfl, ?_⟩
    unfold isI at q
    cases hi : isIntD d with
    | false =>
      rw [hi] at q
      exact q
    | true =>
      rw [hi] at q
      exact ⟨v, rfl, p, v, d, rfl, hv, _, rfl, q⟩
abbrev N_is_between : List Str := ["value", "low", "high"]
theorem sc_is_between : FnScope N_is_between ["value", "low", "high"] (defScope s_is_between) := ⟨rfl, rfl, rfl, by decide +kernel, rfl, by decide +kernel, by decide +kernel⟩
theorem ok_is_between {f f_is_integer : Addr} {fd fd_is_integer : FuncData} (F : Fun K "is_between" "is_between" s_is_between f fd) (F_is_integer : Fun K "is_integer" "is_integer" s_is_integer f_is_integer fd_is_integer) (b_is_integer : Binds K fd_is_integer ["value"] [])
    (g_is_integer : mg "is_integer" = some (.ref f_is_integer)) (m_isinstance : mg "isinstance" = none) (m_int : mg "int" = none) (m_bool : mg "bool" = none) : FnG P w K mg base CX0 2 f fd ["value", "low", "high"] sp_is_between := by
  have G_is_integer : FnG P w K mg base CX0 1 f_is_integer fd_is_integer ["value"] sp_is_integer := ok_is_integer F_is_integer m_isinstance m_int m_bool
  refine okG F sc_is_between (fun vs H Q E h => ?_) (fun cdv A outer s H vs Q E gd hr h => ?_)
  · obtain ⟨p, v, d, lo, hi, rfl, _⟩ := h
    rfl
  · obtain ⟨p, v, d, lo, hi, rfl, hv, q⟩ := h
    refine ⟨_, 
      (pss_one (ps_ret (pe_and (pe_callG G_is_integer gd (hr.mono (by decide)) rfl g_is_integer F_is_integer.kp b_is_integer .nil pass0 (pa_cons (pv 0) pa_nil)) (pe_one (pe_chain op_le op_le (pv 1) (pv 0) (pv 2)))))) -- return is_integer(value) and low <= value <= high
       , ?_⟩
    refine ⟨v, rfl, p, v, d, rfl, hv, _, rfl, ?_⟩
    cases hv with
    | int n => 
      refine ⟨.int lo, rfl, .int n, rfl, lo, n, rfl, rfl, _, rfl, ite2 (fun h1 => ?_) (fun h1 => ?_)⟩
      · refine ⟨.int hi, rfl, n, hi, rfl, rfl, ?_⟩
        have q' : Q (.bl (decide (lo ≤ n) && decide (n ≤ hi))) H := q
        rw [h1] at q'
        exact q'
      · have q' : Q (.bl (decide (lo ≤ n) && decide (n ≤ hi))) H := q
        rw [Bool.eq_false_iff.mpr h1] at q'
        exact q'
    | _ => exact q
end

/-! ### rule_order: called by sorted, so at the library's level -/
section
open PySem.W PySem.Calls
variable {P : Program} {w : World} {K : PySem.W.Frag} {mg : Str → Option Value} {A : Around} {E : Value → Shared → Prop} {s : Shared}
theorem asg_all {env : Env} {elts : List Expr} {k : Nat} {pos : Pos} {v : Value} {Q : Unit → Shared → Prop} (h : wpAny (model P w) A (assign (.Tuple elts k pos) env v) Q E s) :
    wpAny (model P w) A (assignAll v ((assignEach [.Tuple elts k pos] env).map (·.2))) Q E s := h
theorem spl_cons {env : Env} {e : Expr} {es : List Expr} {pos : Pos} {Q : List Value → Shared → Prop} (hs : starEach (e :: es) env = (false, eval e env) :: starEach es env)
    (h : wpAny (model P w) A (eval e env) (fun v s1 => wpAny (model P w) A (spliced (backTo pos (starEach es env))) (fun vs s2 => Q (v :: vs) s2) E s1) E s) :
    wpAny (model P w) A (spliced (backTo pos (starEach (e :: es) env))) Q E s := by
  rw [hs]
  exact Calls.spliced_cons h
theorem spl_nil {env : Env} {pos : Pos} {Q : List Value → Shared → Prop} (h : Q [] s) : wpAny (model P w) A (spliced (backTo pos (starEach [] env))) Q E s := Calls.spliced_nil h
theorem ldL {q : Str} {sc : Scope} {L f : Addr} {cd : Value} {m : Str → Option Value} {x : Str} {pos : Pos} {v : Value} {Q : Value → Shared → Prop} (hk : sc.kind = .function) (hn : s.heap.Ns L m) (hv : m x = some v) (h : Q v s)
    (hl : (envOfC q sc L f cd).kindOf x = some .local := by rfl) (hd : (x == ("__debug__" : Str)) = false := by decide) :
    wpAny (model P w) A (eval (.Name x pos) (envOfC q sc L f cd)) Q E s := wpAny_Name (wpAny_loadName_local hk hl hn hv h) hd
theorem ldG {q : Str} {sc : Scope} {L f : Addr} {cd : Value} {x : Str} {pos : Pos} {v : Value} {Q : Value → Shared → Prop} (hk : sc.kind = .function) (G : s.heap.Ns mainGlobals mg) (hv : mg x = some v) (h : Q v s)
    (hl : (envOfC q sc L f cd).kindOf x = some .globalImplicit := by rfl) (hd : (x == ("__debug__" : Str)) = false := by decide) :
    wpAny (model P w) A (eval (.Name x pos) (envOfC q sc L f cd)) Q E s :=
  Calls.Name_function_global hk hl (Calls.loadGlobal_global (show s.heap.Ns mainGlobals mg from G) hv h) hd
/-- what a test is sorted by -/
theorem part_key {f : Addr} {fd : FuncData} {tN tV tM : Tok} {u : Value} {r : Int} (F : Fun K "part_order" "part_order" s_part_order f fd) (b : ∀ (s : Shared) (v : Value), BindsTo s fd ⟨[v], []⟩ [("part", v)])
    (gN : mg "NEW" = some (.str "new" tN)) (gV : mg "VALUE" = some (.str "value" tV)) (gM : mg "MOST_HELD" = some (.int 3 tM)) (X : K.In s.heap) (G : s.heap.Ns mainGlobals mg) (hlim : s.heap.NoLimit) (hroom : A.depth < recursionLimit)
    (hu : (∃ t, u = .int r t) ∨ ((∃ t, u = .str "new" t) ∧ r = 3)) :
    wpAny (model P w) A (call (.ref f) [u]) (fun v s' => (∃ t, v = .int r t) ∧ ∃ h tk, s' = { s with heap := h, toks := tk } ∧ ∀ c o, s.heap.get? c = some o → h.get? c = some o) (fun _ _ => False) s := by
  obtain ⟨oc, od, kV, doc, pm, an, cdv, ct, osl, e, lk, hcd⟩ := F.ex
  subst e
  apply wpAny_call
  refine Att.call_fn (binds := [("part", u)]) X hlim lk hcd hroom (b s u) (by rfl) (fun s1 IC => ?_) rfl rfl rfl
  obtain ⟨h1, tk1, rfl⟩ := IC.toInCall.same
  have k1 : ∀ c o, s.heap.get? c = some o → h1.get? c = some o := IC.toInCall.keep
  have n1 := IC.toInCall.ns
  have G1 : h1.Ns mainGlobals mg := G.keeps k1
  have x1 : ∀ c o, s.heap.get? c = some o → (h1.push { cls := .type "tuple", data := .seq [Value.str "new" tN, Value.str "value" tV].toArray }).get? c = some o := fun c o z => Heap.get?_push_of_some _ (k1 c o z)
  have y1 : ∀ c o, h1.get? c = some o → (h1.push { cls := .type "tuple", data := .seq [Value.str "new" tN, Value.str "value" tV].toArray }).get? c = some o := fun c o z => Heap.get?_push_of_some _ z
  have G2 := G1.keeps y1
  have n2 := n1.keeps y1
  have tu : (h1.push { cls := .type "tuple", data := .seq [Value.str "new" tN, Value.str "value" tV].toArray }).IsTuple h1.objs.size [Value.str "new" tN, Value.str "value" tV].toArray := ⟨_, Heap.get?_push_size _ rfl, rfl, _, rfl⟩
  have vs2 : Vals [V.str "new", V.str "value"] [Value.str "new" tN, Value.str "value" tV] := .cons ⟨tN, rfl⟩ (.cons ⟨tV, rfl⟩ .nil)
  have mm : ∀ {x : V} {v : Value} {A : Around} {s : Shared}, RelV x v → flatV x = true → ∀ y, y ∈ [Value.str "new" tN, Value.str "value" tV].toArray → SeqAt.EqAt A s y v (eqU x y) := fun rx fx y hy => mem_eqAt rx fx vs2 rfl y (by simpa using hy)
  show wpAny _ _ (execs (_ :: []) _) _ _ _
  refine wpAny_execs_cons (wpAny_Return_some (wpAny_IfExp (wpAny_isTrue_Compare1 ?_ rfl)))
  refine ldL rfl n1 (v := u) (by rfl) ?_
  refine wpAny_Tuple_spliced ?_
  refine spl_cons (by rfl) (ldG (s := { s with heap := h1, toks := tk1 }) (mg := mg) rfl G1 gN ?_)
  refine spl_cons (by rfl) (ldG (s := { s with heap := h1, toks := tk1 }) (mg := mg) rfl G1 gV ?_)
  refine spl_nil ⟨by show 2 ≤ sizeLine; decide, ?_⟩
  rcases hu with ⟨t, rfl⟩ | ⟨⟨t, rfl⟩, rfl⟩
  · have e0 : ([Value.str "new" tN, Value.str "value" tV].toArray).any (eqU (.int r)) = false := by
      rw [show ([Value.str "new" tN, Value.str "value" tV].toArray).any (eqU (.int r)) = [Value.str "new" tN, Value.str "value" tV].any (eqU (.int r)) by simp, any_eqU vs2 rfl]
      rfl
    refine SeqAt.in_tupleAt (eqU (.int r)) tu (mm (x := .int r) ⟨t, rfl⟩ rfl) ?_
    rw [e0]
    refine wpAny_truthy_bool ?_
    refine ldL (s := { s with heap := _, toks := tk1 }) rfl n2 (v := .int r t) (by rfl) ?_
    exact ⟨⟨_, rfl⟩, _, _, rfl, x1⟩
  · have e0 : ([Value.str "new" tN, Value.str "value" tV].toArray).any (eqU (.str "new")) = true := by
      rw [show ([Value.str "new" tN, Value.str "value" tV].toArray).any (eqU (.str "new")) = [Value.str "new" tN, Value.str "value" tV].any (eqU (.str "new")) by simp, any_eqU vs2 rfl]
      rfl
    refine SeqAt.in_tupleAt (eqU (.str "new")) tu (mm (x := .str "new") ⟨t, rfl⟩ rfl) ?_
    rw [e0]
    refine wpAny_truthy_bool ?_
    refine ldG (s := { s with heap := _, toks := tk1 }) (mg := mg) rfl G2 gM ?_
    exact ⟨⟨_, rfl⟩, _, _, rfl, x1⟩
/-- part_order and what it reads -/
def PartOk (K : PySem.W.Frag) (mg : Str → Option Value) : Prop := ∃ (fp : Addr) (fdp : FuncData) (tN tV tM : Tok), Fun K "part_order" "part_order" s_part_order fp fdp ∧ (∀ (s : Shared) (v : Value), BindsTo s fdp ⟨[v], []⟩ [("part", v)]) ∧
  mg "part_order" = some (.ref fp) ∧ mg "NEW" = some (.str "new" tN) ∧ mg "VALUE" = some (.str "value" tV) ∧ mg "MOST_HELD" = some (.int 3 tM)
theorem order_key {f a : Addr} {fd : FuncData} {t0 t1 : Tok} {i j : Int} {u : Value} {r : Int} (F : Fun K "rule_order" "rule_order" s_rule_order f fd) (b : ∀ (s : Shared) (v : Value), BindsTo s fd ⟨[v], []⟩ [("rule", v)])
    (pk : PartOk K mg) (X : K.In s.heap) (G : s.heap.Ns mainGlobals mg) (hlim : s.heap.NoLimit) (hroom : A.depth + 1 < recursionLimit) (hh : A.handled = none)
    (ht : IsTup s.heap a #[.int i t0, .int j t1, u]) (hu : (∃ t, u = .int r t) ∨ ((∃ t, u = .str "new" t) ∧ r = 3)) :
    wpAny (model P w) A (call (.ref f) [.ref a]) (KeyPure (.tuple [.int i, .int j, .int r]) s) (fun _ _ => False) s := by
  obtain ⟨fp, fdp, tN, tV, tM, Fp, bp, gp, gN, gV, gM⟩ := pk
  obtain ⟨oc, od, kV, doc, pm, an, cdv, ct, osl, e, lk, hcd⟩ := F.ex
  subst e
  apply wpAny_call
  refine Att.call_fn (binds := [("rule", .ref a)]) X hlim lk hcd (by omega) (b s (.ref a)) (by rfl) (fun s1 IC => ?_) rfl rfl rfl
  obtain ⟨h1, tk1, rfl⟩ := IC.toInCall.same
  have k1 : ∀ c o, s.heap.get? c = some o → h1.get? c = some o := IC.toInCall.keep
  have n1 := IC.toInCall.ns
  have L0 : s.heap.get? s.heap.objs.size = none := Heap.get?_none_of_le (Nat.le_refl _)
  have kL : ∀ {h' : Heap} c o, (∀ c o, c ≠ s.heap.objs.size → h1.get? c = some o → h'.get? c = some o) → s.heap.get? c = some o → h'.get? c = some o := fun {h'} c o k z => k c o (fun q => by rw [q, L0] at z; cases z) (k1 c o z)
  have ht1 : IsTup h1 a #[.int i t0, .int j t1, u] := by
    obtain ⟨o, ho, r⟩ := ht
    exact ⟨o, k1 _ _ ho, r⟩
  show wpAny _ _ (execs _ _) _ _ _
  refine wpAny_execs_cons (wpAny_Assign_stores ?_ rfl rfl)
  refine ldL rfl n1 (by rfl) ?_
  refine asg_all ?_
  refine assign_Tuple_tuple hh ht1 (by rfl) (by rfl) fun h2 x2 => ?_
  have e2 : ∀ c o, h1.get? c = some o → h2.get? c = some o := fun c o z => x2 c o (Nat.ne_of_lt (Heap.lt_size z)) z
  have n2 := n1.keeps e2
  show wpAny _ _ (assignInOrder (_ :: _ :: _ :: []) [Value.int i t0, Value.int j t1, u]) _ _ _
  refine assignInOrder_cons (wpAny_assign_Name (wpAny_storeName_local (by rfl) n2 (fun h3 n3 s3 => ?_)))
  refine assignInOrder_cons (wpAny_assign_Name (wpAny_storeName_local (by rfl) n3 (fun h4 n4 s4 => ?_)))
  refine assignInOrder_cons (wpAny_assign_Name (wpAny_storeName_local (by rfl) n4 (fun h5 n5 s5 => ?_)))
  refine assignInOrder_nil ?_
  have k5 : ∀ c o, s.heap.get? c = some o → h5.get? c = some o := fun c o z => by
    have ne : c ≠ s.heap.objs.size := Nat.ne_of_lt (Heap.lt_size z)
    exact (s5.2 c ne).trans ((s4.2 c ne).trans ((s3.2 c ne).trans (e2 c o (k1 c o z))))
  have vu : ∀ h' : Heap, (∀ c o, h5.get? c = some o → h'.get? c = some o) → ∀ (x y z : Value) (tk : Nat), (∃ t, x = .int i t) → (∃ t, y = .int j t) → (∃ t, z = .int r t) → [x, y, z].length ≤ sizeLine ∧
      KeyPure (.tuple [.int i, .int j, .int r]) s (.ref h'.objs.size) { s with heap := h'.push { cls := .type "tuple", data := .seq [x, y, z].toArray }, toks := tk } := by
    rintro h' kp x y z tk ⟨tx, rfl⟩ ⟨ty, rfl⟩ ⟨tz, rfl⟩
    refine ⟨by show 3 ≤ sizeLine; decide, _, tk, rfl, fun c o q => Heap.get?_push_of_some _ (kp c o (k5 c o q)), ?_⟩
    exact Reads.tuple (Heap.get?_push_size _ rfl) rfl rfl (.cons (.int i tx) (.cons (.int j ty) (.cons (.int r tz) .nil)))
  have G5 : h5.Ns mainGlobals mg := G.keeps k5
  show wpAny _ _ (execs (_ :: []) _) _ _ _
  refine wpAny_execs_cons (wpAny_Return_some (wpAny_Tuple_spliced ?_))
  refine spl_cons (by rfl) (ldL rfl n5 (v := .int i t0) (by rfl) ?_)
  refine spl_cons (by rfl) (ldL rfl n5 (v := .int j t1) (by rfl) ?_)
  refine spl_cons (by rfl) ?_
  apply wpAny_Call_Name_kw
  refine ldG (s := { s with heap := h5, toks := _ }) (mg := mg) rfl G5 gp ?_
  refine PySem.W.callWith_K (h₀ := s.heap) X Fp.kp ?_ rfl rfl
  refine spl_cons (by rfl) (ldL rfl n5 (v := u) (by rfl) ?_)
  refine spl_nil ⟨X.keeps k5, ?_⟩
  refine wpAny_mono (part_key (s := { s with heap := h5, toks := _ }) Fp bp gN gV gM (X.keeps k5) G5 (hlim.keeps k5) hroom hu) ?_ (fun _ _ z => z.elim)
  rintro v s6 ⟨⟨t, rfl⟩, h6, tk6, rfl, k6⟩
  refine spl_nil ?_
  exact vu h6 k6 _ _ _ _ ⟨_, rfl⟩ ⟨_, rfl⟩ ⟨_, rfl⟩
end

/-! ### watchers -/
def wf (n : Int) (lv lh d : Addr) : List (Str × V) := [("words", .int n), ("_verdicts", .ref lv), ("_held", .ref lh), ("_rules", .ref d)]
/-- a rule's name: state, word, test -/
def RK (k : List Key) : Prop := ∃ (i j : Int) (t : Key), k = [Sum.inl i, Sum.inl j, t] ∧ ((∃ r, t = Sum.inl r) ∨ t = Sum.inr ("new" : Str))
abbrev Rows := List (List Key × PyData)
abbrev KvD (H : Hp) : List (List Key × V) → Rows → Prop := Paired fun p q => p.1 = q.1 ∧ TD H p.2 q.2
theorem KvD.mono {H H' : Hp} {kvs : List (List Key × V)} {R : Rows} (t : Tups H H') (h : KvD H kvs R) : KvD H' kvs R := Paired.mapP h fun _ _ z => ⟨z.1, TD.mono t _ z.2⟩
theorem KvD.keys {H : Hp} {kvs : List (List Key × V)} {R : Rows} (h : KvD H kvs R) : kvs.map (·.1) = R.map (·.1) := by
  induction h with
  | nil => rfl
  | cons a _ ih => rw [List.map_cons, List.map_cons, a.1, ih]
structure WAt (C : Addr) (H : Hp) (x lv lh d : Addr) (n : Int) (vs hs : List Int) (R : Rows) : Prop where
  ins : ∃ dx, H x = some (.ins C dx (wf n lv lh d))
  ver : H lv = some (.lst (vs.map V.int))
  hel : H lh = some (.lst (hs.map V.int))
  rul : ∃ kvs, H d = some (.dT kvs) ∧ KvD H kvs R
  ne : lv ≠ lh
  rk : ∀ k ∈ R.map (·.1), RK k
  nd : (R.map (·.1)).Nodup
  len : vs.length = hs.length ∧ vs.length ≤ 6 ∧ R.length ≤ 1000
theorem WAt.mono {C : Addr} {H H' : Hp} {x lv lh d : Addr} {n : Int} {vs hs : List Int} {R : Rows} (h : WAt C H x lv lh d n vs hs R) (s : Same H H') : WAt C H' x lv lh d n vs hs R := by
  obtain ⟨⟨dx, a⟩, b, c, ⟨kvs, e, f⟩, g, i, j, l⟩ := h
  exact ⟨⟨dx, s _ _ a⟩, s _ _ b, s _ _ c, ⟨kvs, s _ _ e, f.mono (Tups.same s)⟩, g, i, j, l⟩
theorem btw_int {d : PyData} {lo hi : Int} (h : btw d lo hi = true) : ∃ n, d = .int n ∧ lo ≤ n ∧ n ≤ hi := by
  cases d with
  | int n =>
    have h' : (decide (lo ≤ n) && decide (n ≤ hi)) = true := h
    simp only [Bool.and_eq_true, decide_eq_true_eq] at h'
    exact ⟨n, rfl, h'.1, h'.2⟩
  | _ => cases h
abbrev w1 (n : Int) : List (Str × V) := [("words", .int n)]
abbrev w2 (n : Int) (lv : Addr) : List (Str × V) := [("words", .int n), ("_verdicts", .ref lv)]
abbrev w3 (n : Int) (lv lh : Addr) : List (Str × V) := [("words", .int n), ("_verdicts", .ref lv), ("_held", .ref lh)]
theorem wf2 (n : Int) (lv : Addr) : putF "_verdicts" (.ref lv) (w1 n) = (w2 n lv) := by
  unfold putF
  rw [if_neg (by decide)]
  rfl
theorem wf3 (n : Int) (lv lh : Addr) : putF "_held" (.ref lh) (w2 n lv) = (w3 n lv lh) := by
  unfold putF
  rw [if_neg (by decide)]
  unfold putF
  rw [if_neg (by decide)]
  rfl
theorem wf4 (n : Int) (lv lh d : Addr) : putF "_rules" (.ref d) (w3 n lv lh) = wf n lv lh d := by
  unfold putF
  rw [if_neg (by decide)]
  unfold putF
  rw [if_neg (by decide)]
  unfold putF
  rw [if_neg (by decide)]
  rfl
def sp_W_init (C CL : Addr) : Sp := fun vs H Q E => ∃ (p x dx : Addr) (v : V) (d : PyData), vs = [.ref x, v] ∧ H x = some (.ins C dx []) ∧ LD p H v d ∧
  (∀ n, d = .int n → 1 ≤ n → n ≤ 3 → ∀ H' lv lh dd, But x H H' → H lv = none → H lh = none → H dd = none → WAt C H' x lv lh dd n [0] [0] [] → Q .non H') ∧
  (btw d 1 3 = false → ∀ e, H e = none → E (.ref CL) (some e) (upd H e (.xd [(("limit" : Str), .int 3)])))
/-- the fields' names are no names of the class -/
structure WCls (K : PySem.W.Frag) (C : Addr) : Prop where
  cl : Cls K C
  n1 : NoAttr K C "words"
  n2 : NoAttr K C "_verdicts"
  n3 : NoAttr K C "_held"
  n4 : NoAttr K C "_rules"
section
variable {P : Program} {w : World} {K : PySem.W.Frag} {mg : Str → Option Value} {base : Heap}
abbrev N_Watcher_init : List Str := ["self", "words"]
theorem sc_Watcher_init : FnScope N_Watcher_init ["self", "words"] (defScope s_Watcher_init) := ⟨rfl, rfl, rfl, by decide +kernel, rfl, by decide +kernel, by decide +kernel⟩
theorem ok_Watcher_init {f f_is_between C CL iL : Addr} {fd fd_is_between : FuncData} {t3 : Tok} (F : Fun K "__init__" "Watcher.__init__" s_Watcher_init f fd) (F_is_between : Fun K "is_between" "is_between" s_is_between f_is_between fd_is_between) (b_is_between : Binds K fd_is_between ["value", "low", "high"] [])
    (g_is_between : mg "is_between" = some (.ref f_is_between)) (G_is_between : FnG P w K mg base CX0 2 f_is_between fd_is_between ["value", "low", "high"] sp_is_between) (T_LimitExceeded : L2.ErrOk OwnE.bOE "LimitExceeded" "limit" "LimitExceeded.__init__" K mg CL iL) (g_MOST_WORDS : mg "MOST_WORDS" = some (.int 3 t3)) (W : WCls K C) :
    FnG P w K mg base (L2.CX P w) 3 f fd ["self", "words"] (sp_W_init C CL) := by
  refine okGX F sc_Watcher_init (fun vs H Q E h => ?_) (fun cdv A outer s H vs Q E gd hr h => ?_)
  · obtain ⟨p, x, dx, v, d, rfl, _⟩ := h
    rfl
  · obtain ⟨p, x, dx, v, d, rfl, hx, hv, q1, q2⟩ := h
    have hr1 : Room 1 _ := hr.mono (by decide)
    refine ⟨_, 
      (pss_cons (ps_if (pt_not (pt_val (pe_callG G_is_between gd (hr.mono (by decide)) rfl g_is_between F_is_between.kp b_is_between .nil pass0 (pa_cons (pv 1) (pa_cons pe_int (pa_cons (pe_glob (v := .int 3) rfl g_MOST_WORDS ⟨_, rfl⟩) pa_nil)))))) 
        (pss_one (L2.ps_raiseE (W := fun cls d _ H => E cls d H) rfl T_LimitExceeded hr1 (takes_of rfl rfl rfl rfl) (by exact (pa_cons (pe_glob (v := .int 3) rfl g_MOST_WORDS ⟨_, rfl⟩) pa_nil)))) -- raise LimitExceeded(MOST_WORDS)
         pss_nil) -- if not is_between(words, 1, MOST_WORDS):
      (pss_cons (ps_fld (pv 0) (pv 1) rfl) -- self.words = words
      (pss_cons (ps_fld (pv 0) (pe_lst (pa_cons pe_int pa_nil)) rfl) -- self._verdicts = [0]
      (pss_cons (ps_fld (pv 0) (pe_lst (pa_cons pe_int pa_nil)) rfl) -- self._held = [0]
      (pss_one (ps_fld (pv 0) pe_dnewT rfl)) -- self._rules = {}
      )))) , ?_⟩
    refine ⟨v, rfl, p, v, d, 1, 3, rfl, hv, _, rfl, ?_⟩
    cases hb : btw d 1 3 with
    | false => exact ⟨.int 3, rfl, fun e he => q2 hb e he⟩
    | true =>
      obtain ⟨n, rfl, n0, n1⟩ := btw_int hb
      cases hv
      -- self.words = words
      refine ⟨.int n, rfl, .ref x, rfl, x, C, dx, [], rfl, hx, W.cl, W.n1, (by show 0 < 1000; decide), ?_⟩
      rw [show putF "words" (.int n) [] = (w1 n) from rfl]
      have b1 : But x H (upd H x (.ins C dx (w1 n))) := fun b o e ne => by rw [upd_ne ne]; exact e
      have hx1 : upd H x (.ins C dx (w1 n)) x = some (.ins C dx (w1 n)) := upd_same
      have nn : ∀ a, upd H x (.ins C dx (w1 n)) a = none → H a = none ∧ a ≠ x := fun a e => ⟨(upd_none e).2, (upd_none e).1⟩
      generalize upd H x (.ins C dx (w1 n)) = H1 at b1 hx1 nn
      -- self._verdicts = [0]
      refine ⟨by show 1 ≤ sizeLine; decide, fun lv nv => ?_⟩
      have xv : x ≠ lv := ne_of_none hx1 nv
      have hx2 : upd H1 lv (.lst [.int 0]) x = some (.ins C dx (w1 n)) := by rw [upd_ne xv]; exact hx1
      refine ⟨.ref x, rfl, x, C, dx, _, rfl, hx2, W.cl, W.n2, (by show 1 < 1000; decide), ?_⟩
      rw [wf2]
      have hv3 : upd (upd H1 lv (.lst [.int 0])) x (.ins C dx (w2 n lv)) lv = some (.lst [.int 0]) := by rw [upd_ne xv.symm]; exact upd_same
      have hx3 : upd (upd H1 lv (.lst [.int 0])) x (.ins C dx (w2 n lv)) x = some (.ins C dx (w2 n lv)) := upd_same
      have b3 : But x H (upd (upd H1 lv (.lst [.int 0])) x (.ins C dx (w2 n lv))) := fun b o e ne => by
        rw [upd_ne ne, upd_ne (ne_of_none (b1 b o e ne) nv)]
        exact b1 b o e ne
      have nv0 := (nn lv nv).1
      have nn3 : ∀ a, upd (upd H1 lv (.lst [.int 0])) x (.ins C dx (w2 n lv)) a = none → H a = none := fun a e => (nn a (upd_none (upd_none e).2).2).1
      generalize upd (upd H1 lv (.lst [.int 0])) x (.ins C dx (w2 n lv)) = H3 at hv3 hx3 b3 nn3
      -- self._held = [0]
      refine ⟨by show 1 ≤ sizeLine; decide, fun lh nh => ?_⟩
      have xh : x ≠ lh := ne_of_none hx3 nh
      have vh : lv ≠ lh := ne_of_none hv3 nh
      have hx4 : upd H3 lh (.lst [.int 0]) x = some (.ins C dx (w2 n lv)) := by rw [upd_ne xh]; exact hx3
      refine ⟨.ref x, rfl, x, C, dx, _, rfl, hx4, W.cl, W.n3, (by show 2 < 1000; decide), ?_⟩
      rw [wf3]
      have xv3 : x ≠ lv := ne_of hx3 hv3 (fun z => nomatch z)
      have hv5 : upd (upd H3 lh (.lst [.int 0])) x (.ins C dx (w3 n lv lh)) lv = some (.lst [.int 0]) := by rw [upd_ne xv3.symm, upd_ne vh]; exact hv3
      have hh5 : upd (upd H3 lh (.lst [.int 0])) x (.ins C dx (w3 n lv lh)) lh = some (.lst [.int 0]) := by rw [upd_ne xh.symm]; exact upd_same
      have hx5 : upd (upd H3 lh (.lst [.int 0])) x (.ins C dx (w3 n lv lh)) x = some (.ins C dx (w3 n lv lh)) := upd_same
      have b5 : But x H (upd (upd H3 lh (.lst [.int 0])) x (.ins C dx (w3 n lv lh))) := fun b o e ne => by
        rw [upd_ne ne, upd_ne (ne_of_none (b3 b o e ne) nh)]
        exact b3 b o e ne
      have nh0 := nn3 lh nh
      have nn5 : ∀ a, upd (upd H3 lh (.lst [.int 0])) x (.ins C dx (w3 n lv lh)) a = none → H a = none := fun a e => nn3 a (upd_none (upd_none e).2).2
      generalize upd (upd H3 lh (.lst [.int 0])) x (.ins C dx (w3 n lv lh)) = H5 at hv5 hh5 hx5 b5 nn5
      -- self._rules = {}
      intro dd ndd
      have xd : x ≠ dd := ne_of_none hx5 ndd
      have hx6 : upd H5 dd (.dT []) x = some (.ins C dx (w3 n lv lh)) := by rw [upd_ne xd]; exact hx5
      refine ⟨.ref x, rfl, x, C, dx, _, rfl, hx6, W.cl, W.n4, (by show 3 < 1000; decide), ?_⟩
      rw [wf4]
      have xv5 : x ≠ lv := ne_of hx5 hv5 (fun z => nomatch z)
      have xh5 : x ≠ lh := ne_of hx5 hh5 (fun z => nomatch z)
      refine q1 n rfl n0 n1 _ lv lh dd (fun b o e ne => ?_) nv0 nh0 (nn5 dd ndd) { ins := ⟨dx, upd_same⟩, ver := ?_, hel := ?_, rul := ⟨[], ?_, .nil⟩, ne := vh, rk := (fun _ z => by cases z), nd := List.nodup_nil, len := ⟨rfl, by decide, by decide⟩ }
      · rw [upd_ne ne, upd_ne (ne_of_none (b5 b o e ne) ndd)]
        exact b5 b o e ne
      · rw [upd_ne xv5.symm, upd_ne (ne_of_none hv5 ndd)]
        exact hv5
      · rw [upd_ne xh5.symm, upd_ne (ne_of_none hh5 ndd)]
        exact hh5
      · rw [upd_ne xd.symm]
        exact upd_same
end

/-! ### plans -/
def kD : Key → PyData
  | .inl n => .int n
  | .inr s => .str s
theorem TDs.keys {H : Hp} : ∀ {ks : List Key}, TDs H (ks.map kV) (ks.map kD)
  | [] => .nil
  | .inl n :: r => .cons (.int n) TDs.keys
  | .inr s :: r => .cons (.str s) TDs.keys
abbrev PRule := List Key × (Int × List Key)
def ruleD (r : Int × List Key) : PyData := .tuple [.int r.1, .tuple (r.2.map kD)]
def rowsOf (R : List PRule) : Rows := R.map fun p => (p.1, ruleD p.2)
theorem rowsOf_keys (R : List PRule) : (rowsOf R).map (·.1) = R.map (·.1) := by
  unfold rowsOf
  rw [List.map_map]
  rfl
theorem rowsOf_snoc (R : List PRule) (r : PRule) : rowsOf (R ++ [r]) = rowsOf R ++ [(r.1, ruleD r.2)] := by
  unfold rowsOf
  rw [List.map_append]
  rfl
def heldAt (ks : List (Int × Int)) (i : Int) : Int := ((ks[i.toNat]?).getD (0, 0)).2
def TestOk (h : Int) (t : Key) : Prop := (∃ n : Int, t = Sum.inl n ∧ 0 ≤ n ∧ n < h) ∨ t = Sum.inr ("new" : Str)
def SrcAt (h : Int) (t : Key) (k : Key) : Prop := (∃ n : Int, k = Sum.inl n ∧ 0 ≤ n ∧ n < h) ∨ (k = Sum.inr ("value" : Str) ∧ t = Sum.inr ("new" : Str))
structure SrcOk (h : Int) (t : Key) (m : Int) (ks : List Key) : Prop where
  len : (ks.length : Int) = m
  nd : ks.Nodup
  all : ∀ k ∈ ks, SrcAt h t k
def RuleOk (w : Int) (kinds : List (Int × Int)) (r : PRule) : Prop := ∃ (i j : Int) (t : Key), r.1 = [Sum.inl i, Sum.inl j, t] ∧ 0 ≤ i ∧ i < kinds.length ∧ 0 ≤ j ∧ j < w ∧ TestOk (heldAt kinds i) t ∧ 0 ≤ r.2.1 ∧ r.2.1 < kinds.length ∧ SrcOk (heldAt kinds i) t (heldAt kinds r.2.1) r.2.2
structure KindsOk (kinds : List (Int × Int)) : Prop where
  len : 1 ≤ kinds.length ∧ kinds.length ≤ 6
  zero : heldAt kinds 0 = 0
  all : ∀ k ∈ kinds, 0 ≤ k.1 ∧ k.1 ≤ 3 ∧ 0 ≤ k.2 ∧ k.2 ≤ 3
structure Plan where
  words : Int
  kinds : List (Int × Int)
  rules : List PRule
structure PlanOk (P : Plan) : Prop where
  w : 1 ≤ P.words ∧ P.words ≤ 3
  k : KindsOk P.kinds
  r : ∀ r ∈ P.rules, RuleOk P.words P.kinds r
  nd : (P.rules.map (·.1)).Nodup
  len : P.rules.length ≤ 100
structure PlanAt (H : Hp) (l kl rl : Addr) (P : Plan) : Prop where
  at_ : H l = some (.lst [.int P.words, .ref kl, .ref rl])
  kin : ∃ vs, H kl = some (.lst vs) ∧ TDs H vs (P.kinds.map msgD)
  rul : ∃ kvs, H rl = some (.dT kvs) ∧ KvD H kvs (rowsOf P.rules)
theorem PlanAt.mono {H H' : Hp} {l kl rl : Addr} {P : Plan} (h : PlanAt H l kl rl P) (s : Same H H') : PlanAt H' l kl rl P := by
  obtain ⟨a, ⟨vs, b, c⟩, ⟨kvs, d, e⟩⟩ := h
  exact ⟨s _ _ a, ⟨vs, s _ _ b, c.mono (Tups.same s)⟩, ⟨kvs, s _ _ d, e.mono (Tups.same s)⟩⟩
theorem Keep.put {p a : Addr} {H H1 : Hp} {o : HO} (k : Keep p H H1) (n : H a = none) : Keep p H (upd H1 a o) := fun b u e nb => by
  rw [upd_ne (ne_of_none e n)]
  exact k b u e nb
theorem Keep.free {p a : Addr} {H H1 : Hp} (k : Keep p H H1) (hp : H1 p ≠ none) (n : H1 a = none) : H a = none := by
  cases e : H a with
  | none => rfl
  | some o =>
    by_cases q : a = p
    · subst q
      exact absurd n hp
    · rw [k a o e q] at n
      cases n
theorem Pen.some' {H : Hp} {p c : Addr} (h : Pen H p c) : H p ≠ none := by
  obtain ⟨l, e⟩ := h.at
  rw [e]
  exact fun z => nomatch z
/-- the plan stands, but for what the pen does -/
theorem PlanAt.but {H H' : Hp} {p c l kl rl : Addr} {P : Plan} (h : PlanAt H l kl rl P) (hP : Pen H p c) (b : Keep p H H') (n1 : l ≠ p) (n2 : kl ≠ p) : PlanAt H' l kl rl P := by
  obtain ⟨u, hp⟩ := hP.at
  obtain ⟨a, ⟨vs, e, f⟩, ⟨kvs, g, i⟩⟩ := h
  exact ⟨b _ _ a n1, ⟨vs, b _ _ e n2, f.mono (hP.tups b)⟩, ⟨kvs, b _ _ g (ne_of g hp (fun z => nomatch z)), i.mono (hP.tups b)⟩⟩
theorem ixN_at {n j : Nat} (hj : j < n) : ixN n (j : Int) = some j := by
  unfold ixN
  rw [if_pos (by omega), if_pos (by omega)]
  simp
theorem seqIx {n k : Nat} (h : k < n) : seqIndex? (k : Int) n = some k := (ixN_seq (ixN_at h)).1
theorem erase_perm {α : Type} : ∀ (l : List α) (k : Nat) (h : k < l.length), (l[k] :: l.eraseIdx k).Perm l
  | x :: r, 0, _ => List.Perm.refl _
  | x :: r, k + 1, h => (List.Perm.swap x (r[k]'(Nat.lt_of_succ_lt_succ h)) _).trans (List.Perm.cons x (erase_perm r k (Nat.lt_of_succ_lt_succ h)))
theorem erase_map {α β : Type} (f : α → β) : ∀ (l : List α) (k : Nat), (l.map f).eraseIdx k = (l.eraseIdx k).map f
  | [], k => by cases k <;> rfl
  | x :: r, 0 => rfl
  | x :: r, k + 1 => by simp only [List.map_cons, List.eraseIdx_cons_succ, erase_map f r k]
def sp_law_some_sources : Sp := fun vs H Q _ => ∃ (p c : Addr) (h m : Int) (t : Key), vs = [.ref p, .int h, kV t, .int m] ∧ Pen H p c ∧ 0 ≤ h ∧ h ≤ 3 ∧ 0 ≤ m ∧ m ≤ 3 ∧ TestOk h t ∧
  ∀ v H', Keep p H H' → Pen H' p c → (v = .non ∨ ∃ a ks, v = .ref a ∧ H' a = some (.tup (ks.map kV)) ∧ SrcOk h t m ks) → Q v H'
def pick (rs fs : List Key) (h : Int) (t : Key) : Prop := (rs ++ fs).Nodup ∧ ∀ k ∈ rs ++ fs, SrcAt h t k
theorem pick_step {rs fs : List Key} {h : Int} {t : Key} (hp : pick rs fs h t) {k : Nat} (hk : k < rs.length) : pick (rs.eraseIdx k) (fs ++ [rs[k]]) h t := by
  have e : (rs.eraseIdx k ++ (fs ++ [rs[k]])).Perm (rs ++ fs) := by
    have e1 : (rs.eraseIdx k ++ (fs ++ [rs[k]])).Perm ((fs ++ [rs[k]]) ++ rs.eraseIdx k) := List.perm_append_comm
    have e2 : ((fs ++ [rs[k]]) ++ rs.eraseIdx k) = fs ++ (rs[k] :: rs.eraseIdx k) := by rw [List.append_assoc]; rfl
    have e3 : (rs[k] :: rs.eraseIdx k).Perm rs := erase_perm rs k hk
    rw [e2] at e1
    exact e1.trans ((List.Perm.append_left fs e3).trans List.perm_append_comm)
  exact ⟨e.nodup_iff.mpr hp.1, fun x hx => hp.2 x (e.mem_iff.mp hx)⟩
theorem rgV_keys {h : Int} : rgV 0 h = ((List.range h.toNat).map fun i : Nat => (Sum.inl (i : Int) : Key)).map kV := by
  unfold rgV
  rw [List.map_map]
  simp only [Int.sub_zero]
  refine List.map_congr_left fun i _ => ?_
  show V.int (0 + (i : Int)) = V.int i
  rw [Int.zero_add]
theorem pick_rg {h : Int} {t : Key} (h0 : 0 ≤ h) : pick ((List.range h.toNat).map fun i : Nat => (Sum.inl (i : Int) : Key)) [] h t := by
  refine ⟨?_, fun k hk => ?_⟩
  · rw [List.append_nil]
    refine List.Pairwise.map _ (fun a b hab e => ?_) List.nodup_range
    have := Sum.inl.inj e
    omega
  · rw [List.append_nil] at hk
    obtain ⟨i, hi, rfl⟩ := List.mem_map.mp hk
    have := List.mem_range.mp hi
    exact .inl ⟨i, rfl, by omega, by omega⟩
theorem map_set_erase {rs : List Key} (k : Nat) : (rs.map kV).eraseIdx k = (rs.eraseIdx k).map kV := erase_map _ _ _
section
variable {P : Program} {w : World} {K : PySem.W.Frag} {mg : Str → Option Value} {base : Heap}
end

/-! ### plans are drawn -/
def putP (R : List PRule) (k : List Key) (v : Int × List Key) : List PRule :=
  if (R.any fun r => decide (r.1 = k)) = true then R.map (fun r => if r.1 = k then (r.1, v) else r) else R ++ [(k, v)]
theorem putP_keys (R : List PRule) (k : List Key) (v : Int × List Key) : (k ∈ R.map (·.1) → (putP R k v).map (·.1) = R.map (·.1)) ∧ (k ∉ R.map (·.1) → (putP R k v).map (·.1) = R.map (·.1) ++ [k]) := by
  unfold putP
  by_cases h : (R.any fun r => decide (r.1 = k)) = true
  · have hm : k ∈ R.map (·.1) := by
      obtain ⟨r, hr, e⟩ := List.any_eq_true.mp h
      exact List.mem_map.mpr ⟨r, hr, of_decide_eq_true e⟩
    refine ⟨fun _ => ?_, fun z => absurd hm z⟩
    rw [if_pos h, List.map_map]
    refine List.map_congr_left fun r _ => ?_
    show (if r.1 = k then (r.1, v) else r).1 = r.1
    split <;> rfl
  · have hm : k ∉ R.map (·.1) := fun z => h (by
      obtain ⟨r, hr, e⟩ := List.mem_map.mp z
      exact List.any_eq_true.mpr ⟨r, hr, decide_eq_true e⟩)
    refine ⟨fun z => absurd z hm, fun _ => ?_⟩
    rw [if_neg h, List.map_append]
    rfl
theorem putP_nodup {R : List PRule} {k : List Key} {v : Int × List Key} (h : (R.map (·.1)).Nodup) : ((putP R k v).map (·.1)).Nodup := by
  by_cases hm : k ∈ R.map (·.1)
  · rw [(putP_keys R k v).1 hm]
    exact h
  · rw [(putP_keys R k v).2 hm]
    refine List.nodup_append.mpr ⟨h, by simp, fun a ha b hb => ?_⟩
    rw [List.mem_singleton] at hb
    subst hb
    rintro rfl
    exact hm ha
theorem putP_len (R : List PRule) (k : List Key) (v : Int × List Key) : (putP R k v).length ≤ R.length + 1 := by
  unfold putP
  split
  · rw [List.length_map]
    exact Nat.le_succ _
  · rw [List.length_append]
    exact Nat.le_refl _
theorem putP_mem {R : List PRule} {k : List Key} {v : Int × List Key} {r : PRule} (h : r ∈ putP R k v) : r ∈ R ∨ r = (k, v) := by
  unfold putP at h
  split at h
  · obtain ⟨s, hs, rfl⟩ := List.mem_map.mp h
    by_cases e : s.1 = k
    · rw [if_pos e]
      exact .inr (by rw [e])
    · rw [if_neg e]
      exact .inl hs
  · rcases List.mem_append.mp h with z | z
    · exact .inl z
    · exact .inr (List.mem_singleton.mp z)
theorem kvd_map {H : Hp} {k : List Key} {x : V} {v : Int × List Key} (hx : TD H x (ruleD v)) : ∀ {R : List PRule} {kvs : List (List Key × V)}, KvD H kvs (rowsOf R) →
    KvD H (kvs.map fun kv => if kv.1 = k then (kv.1, x) else kv) (rowsOf (R.map fun r => if r.1 = k then (r.1, v) else r))
  | [], _, h => by
    cases h
    exact .nil
  | r :: R, _, h => by
    cases h with
    | @cons a _ l1 _ ab t =>
      have e1 : a.1 = r.1 := ab.1
      refine .cons ?_ (kvd_map hx (R := R) t)
      show (if a.1 = k then (a.1, x) else a).1 = (if r.1 = k then (r.1, v) else r).1 ∧ TD H (if a.1 = k then (a.1, x) else a).2 (ruleD (if r.1 = k then (r.1, v) else r).2)
      by_cases e : r.1 = k
      · rw [if_pos (e1.trans e), if_pos e]
        exact ⟨e1, hx⟩
      · rw [if_neg (fun z => e (e1.symm.trans z)), if_neg e]
        exact ab
theorem kvd_put {H : Hp} {R : List PRule} {kvs : List (List Key × V)} {k : List Key} {x : V} {v : Int × List Key} (h : KvD H kvs (rowsOf R)) (hx : TD H x (ruleD v)) : KvD H (putK kvs k x) (rowsOf (putP R k v)) := by
  have ek : kvs.map (·.1) = R.map (·.1) := by rw [h.keys, rowsOf_keys]
  have ea : (kvs.any fun kv => decide (kv.1 = k)) = (R.any fun r => decide (r.1 = k)) := by
    have e1 : (kvs.any fun kv => decide (kv.1 = k)) = (kvs.map (·.1)).any fun j => decide (j = k) := by rw [List.any_map]; rfl
    have e2 : (R.any fun r => decide (r.1 = k)) = (R.map (·.1)).any fun j => decide (j = k) := by rw [List.any_map]; rfl
    rw [e1, e2, ek]
  unfold putK putP
  rw [ea]
  split
  · exact kvd_map hx h
  · rw [rowsOf_snoc]
    exact Paired.snoc h ⟨rfl, hx⟩
/-- the plan's parts while they are made -/
structure PB (H H' : Hp) (p c kl rl : Addr) (ks : List (Int × Int)) (R : List PRule) : Prop where
  keep : Keep p H H'
  pen : Pen H' p c
  fk : H kl = none
  fr : H rl = none
  nk : kl ≠ p ∧ kl ≠ c
  nr : rl ≠ p ∧ rl ≠ c
  kin : ∃ vs, H' kl = some (.lst vs) ∧ TDs H' vs (ks.map msgD)
  rul : ∃ kvs, H' rl = some (.dT kvs) ∧ KvD H' kvs (rowsOf R)
theorem PB.draw {H H1 H2 : Hp} {p c kl rl : Addr} {ks : List (Int × Int)} {R : List PRule} (b : PB H H1 p c kl rl ks R) (k : Keep p H1 H2) (hP : Pen H2 p c) : PB H H2 p c kl rl ks R := by
  obtain ⟨a, e, f, g, n, m, ⟨vs, i, j⟩, ⟨kvs, l, o⟩⟩ := b
  exact ⟨a.trans k, hP, f, g, n, m, ⟨vs, k _ _ i n.1, j.mono (e.tups k)⟩, ⟨kvs, k _ _ l m.1, o.mono (e.tups k)⟩⟩
theorem PB.new {H H1 : Hp} {p c kl rl a : Addr} {o : HO} {ks : List (Int × Int)} {R : List PRule} (b : PB H H1 p c kl rl ks R) (n : H1 a = none) : PB H (upd H1 a o) p c kl rl ks R :=
  b.draw (Keep.new n) (b.pen.mono (same_new n))
theorem PB.push {H H1 : Hp} {p c kl rl : Addr} {ks : List (Int × Int)} {R : List PRule} (b : PB H H1 p c kl rl ks R) {vs : List V} {v : V} {m : Int × Int} (hk : H1 kl = some (.lst vs)) (ht : TDs H1 vs (ks.map msgD)) (hv : TD H1 v (msgD m)) :
    PB H (upd H1 kl (.lst (vs ++ [v]))) p c kl rl (ks ++ [m]) R := by
  obtain ⟨a, e, f, g, n, m', _, ⟨kvs, l, o⟩⟩ := b
  have tp : Tups H1 (upd H1 kl (.lst (vs ++ [v]))) := Tups.lst hk
  have nrk : rl ≠ kl := ne_of l hk (fun z => nomatch z)
  refine ⟨a.put f, e.put n.1 n.2, f, g, n, m', ⟨_, upd_same, ?_⟩, ⟨kvs, by rw [upd_ne nrk]; exact l, o.mono tp⟩⟩
  rw [List.map_append]
  exact (ht.mono tp).app (.cons (hv.mono tp) .nil)
theorem PB.rule {H H1 : Hp} {p c kl rl : Addr} {ks : List (Int × Int)} {R : List PRule} (b : PB H H1 p c kl rl ks R) {kvs : List (List Key × V)} {k : List Key} {x : V} {r : Int × List Key} (hr : H1 rl = some (.dT kvs)) (hk : KvD H1 kvs (rowsOf R)) (hx : TD H1 x (ruleD r)) :
    PB H (upd H1 rl (.dT (putK kvs k x))) p c kl rl ks (putP R k r) := by
  obtain ⟨a, e, f, g, n, m', ⟨vs, i, j⟩, _⟩ := b
  have tp : Tups H1 (upd H1 rl (.dT (putK kvs k x))) := Tups.put hr (fun _ z => nomatch z)
  have nrk : kl ≠ rl := ne_of i hr (fun z => nomatch z)
  exact ⟨a.put g, e.put m'.1 m'.2, f, g, n, m', ⟨vs, by rw [upd_ne nrk]; exact i, j.mono tp⟩, ⟨_, upd_same, kvd_put (hk.mono tp) (hx.mono tp)⟩⟩
def testsOf (u : Int) : List Key := ((List.range u.toNat).map fun i : Nat => (Sum.inl (i : Int) : Key)) ++ [Sum.inr ("new" : Str)]
theorem testsOf_len (u : Int) : (testsOf u).length = u.toNat + 1 := by
  unfold testsOf
  rw [List.length_append, List.length_map, List.length_range]
  rfl
theorem testsOf_ok {u : Int} {t : Key} (h0 : 0 ≤ u) (h : t ∈ testsOf u) : TestOk u t := by
  unfold testsOf at h
  rcases List.mem_append.mp h with z | z
  · obtain ⟨i, hi, rfl⟩ := List.mem_map.mp z
    have := List.mem_range.mp hi
    exact .inl ⟨i, rfl, by omega, by omega⟩
  · exact .inr (List.mem_singleton.mp z)
theorem testsOf_v (u : Int) : rgV 0 u ++ [V.str "new"] = (testsOf u).map kV := by
  unfold testsOf
  rw [List.map_append, rgV_keys]
  rfl
theorem kinds_at {H : Hp} {vs : List V} {ks : List (Int × Int)} (ht : TDs H vs (ks.map msgD)) {i : Int} (h0 : 0 ≤ i) (h1 : i < ks.length) : ∃ a v, atI vs i = some (.ref a) ∧ H a = some (.tup [.int v, .int (heldAt ks i)]) ∧ ks[i.toNat]? = some (v, heldAt ks i) := by
  have hl := ht.msgs_len
  obtain ⟨j, rfl⟩ : ∃ j : Nat, i = j := ⟨i.toNat, by omega⟩
  have hj : j < vs.length := by omega
  obtain ⟨m, a, e1, e2, e3⟩ := ht.msg (List.getElem?_eq_getElem hj)
  have e4 : heldAt ks (j : Int) = m.2 := by
    unfold heldAt
    rw [Int.toNat_natCast, e1]
    rfl
  refine ⟨a, m.1, atI_nat (by rw [List.getElem?_eq_getElem hj, e2]), by rw [e4]; exact e3, by rw [e4, Int.toNat_natCast]; exact e1⟩
theorem kinds_bd {ks : List (Int × Int)} (hk : ∀ k ∈ ks, 0 ≤ k.1 ∧ k.1 ≤ 3 ∧ 0 ≤ k.2 ∧ k.2 ≤ 3) {i : Nat} {m : Int × Int} (h : ks[i]? = some m) : 0 ≤ m.1 ∧ m.1 ≤ 3 ∧ 0 ≤ m.2 ∧ m.2 ≤ 3 := hk m (List.mem_of_getElem? h)
theorem kinds_push {ks : List (Int × Int)} {m : Int × Int} (h : KindsOk ks) (hl : ks.length ≤ 5) (h0 : 0 ≤ m.1) (h1 : m.1 ≤ 3) (h2 : 0 ≤ m.2) (h3 : m.2 ≤ 3) : KindsOk (ks ++ [m]) := by
  refine ⟨⟨by rw [List.length_append]; have := h.len; omega, by rw [List.length_append]; show ks.length + 1 ≤ 6; omega⟩, ?_, fun k hk => ?_⟩
  · have z := h.zero
    unfold heldAt at z ⊢
    have := h.len
    rw [show (0 : Int).toNat = 0 from rfl] at z ⊢
    rw [List.getElem?_append_left (by omega)]
    exact z
  · rcases List.mem_append.mp hk with z | z
    · exact h.all k z
    · rw [List.mem_singleton] at z
      subst z
      exact ⟨h0, h1, h2, h3⟩
/-- what is known of the rules -/
structure RB (w : Int) (ks : List (Int × Int)) (R : List PRule) (n : Nat) : Prop where
  ok : ∀ r ∈ R, RuleOk w ks r
  nd : (R.map (·.1)).Nodup
  len : R.length ≤ n
theorem RB.le {w : Int} {ks : List (Int × Int)} {R : List PRule} {n m : Nat} (h : RB w ks R n) (e : n ≤ m) : RB w ks R m := ⟨h.ok, h.nd, Nat.le_trans h.len e⟩
theorem RB.put {w : Int} {ks : List (Int × Int)} {R : List PRule} {n : Nat} (h : RB w ks R n) {k : List Key} {v : Int × List Key} (hr : RuleOk w ks (k, v)) : RB w ks (putP R k v) (n + 1) := by
  refine ⟨fun r hr' => ?_, putP_nodup h.nd, Nat.le_trans (putP_len R k v) (Nat.succ_le_succ h.len)⟩
  rcases putP_mem hr' with z | rfl
  · exact h.ok r z
  · exact hr
def sp_law_plan : Sp := fun vs H Q _ => ∃ (p c : Addr) (w st h : Int), vs = [.ref p, .int w, .int st, .int h] ∧ Pen H p c ∧ 1 ≤ w ∧ w ≤ 3 ∧ 1 ≤ st ∧ st ≤ 6 ∧ 0 ≤ h ∧ h ≤ 3 ∧
  ∀ l kl rl pl H', pl.words = w → Keep p H H' → Pen H' p c → H l = none → H kl = none → H rl = none → PlanAt H' l kl rl pl → PlanOk pl → (pl.kinds.length : Int) ≤ st → Q (.ref l) H'

/-! ### rules in order -/
def lookR (R : Rows) (k : List Key) : PyData := ((R.find? fun p => decide (p.1 = k)).map (·.2)).getD .none
def rankK : List Key → List Int
  | [Sum.inl i, Sum.inl j, Sum.inl r] => [i, j, r]
  | [Sum.inl i, Sum.inl j, Sum.inr _] => [i, j, 3]
  | _ => [0, 0, 0]
theorem rankK_cons (k : List Key) : ∃ x r, rankK k = x :: r := by
  unfold rankK
  split <;> exact ⟨_, _, rfl⟩
theorem rankK_len (k : List Key) : (rankK k).length = 3 := by
  unfold rankK
  split <;> rfl
def sortR (R : Rows) : Rows := (srt rankK (R.map (·.1))).map fun k => (k, lookR R k)
theorem KvD.val {H : Hp} {kvs : List (List Key × V)} {R : Rows} {k : List Key} (h : KvD H kvs R) (hk : k ∈ R.map (·.1)) : ∃ v, valV kvs k = some v ∧ TD H v (lookR R k) := by
  induction h with
  | nil => cases hk
  | @cons a b l1 l2 ab _ ih =>
    unfold valV lookR
    by_cases e : a.1 = k
    · have e2 : b.1 = k := ab.1 ▸ e
      refine ⟨a.2, ?_, ?_⟩
      · rw [List.find?_cons_of_pos (by simpa using e)]
        rfl
      · rw [List.find?_cons_of_pos (by simpa using e2)]
        exact ab.2
    · have e2 : ¬ b.1 = k := ab.1 ▸ e
      rw [List.find?_cons_of_neg (by simpa using e), List.find?_cons_of_neg (by simpa using e2)]
      refine ih ?_
      rcases List.mem_cons.mp hk with z | z
      · exact absurd z.symm e2
      · exact z
theorem kvd_of {H : Hp} {kvs : List (List Key × V)} {R : Rows} (h : KvD H kvs R) : ∀ {ks : List (List Key)}, (∀ k ∈ ks, k ∈ R.map (·.1)) → KvD H (ks.map fun k => (k, (valV kvs k).getD .non)) (ks.map fun k => (k, lookR R k))
  | [], _ => .nil
  | k :: r, hk => by
    obtain ⟨v, e, t⟩ := h.val (hk k List.mem_cons_self)
    refine .cons ⟨rfl, ?_⟩ (kvd_of h fun x hx => hk x (List.mem_cons_of_mem _ hx))
    show TD H ((valV kvs k).getD .non) _
    rw [e]
    exact t
theorem srt_mem {rank : List Key → List Int} {ks : List (List Key)} {k : List Key} : k ∈ srt rank ks ↔ k ∈ ks := (List.mergeSort_perm ks _).mem_iff
theorem srt_nodup {rank : List Key → List Int} {ks : List (List Key)} (h : ks.Nodup) : (srt rank ks).Nodup := (List.mergeSort_perm ks _).nodup_iff.mpr h
theorem srt_len {rank : List Key → List Int} {ks : List (List Key)} : (srt rank ks).length = ks.length := (List.mergeSort_perm ks _).length_eq
theorem isKs_at {H : Hp} {ks : List (List Key)} {bs : List Addr} (h : IsKs H ks bs) : ∀ {i : Nat} {b : Addr}, bs[i]? = some b → ∃ k, ks[i]? = some k ∧ H b = some (.tup (k.map kV)) := by
  induction h with
  | nil => intro i b e; simp at e
  | cons a _ ih =>
    intro i b e
    cases i with
    | zero =>
      simp at e
      subst e
      exact ⟨_, rfl, a⟩
    | succ i =>
      obtain ⟨k, h1, h2⟩ := ih (i := i) (b := b) (by simpa using e)
      exact ⟨k, by simpa using h1, h2⟩
theorem valV_map_none {f : List Key → V} {ks : List (List Key)} {k : List Key} (h : k ∉ ks) : valV (ks.map fun k => (k, f k)) k = none := by
  unfold valV
  rw [List.find?_eq_none.mpr]
  · rfl
  · intro x hx
    obtain ⟨y, hy, rfl⟩ := List.mem_map.mp hx
    simp only [decide_eq_true_eq]
    rintro rfl
    exact h hy
/-- a watcher is asked -/
def sp_W_len (C : Addr) : Sp := fun us H Q _ => ∃ (x lv lh d : Addr) (n : Int) (vs hs : List Int) (R : Rows), us = [.ref x] ∧ WAt C H x lv lh d n vs hs R ∧ Q (.int vs.length) H
def sp_W_ver (C : Addr) : Sp := fun us H Q _ => ∃ (x lv lh d : Addr) (n : Int) (vs hs : List Int) (R : Rows), us = [.ref x] ∧ WAt C H x lv lh d n vs hs R ∧ ∀ t, H t = none → Q (.ref t) (upd H t (.tup (vs.map V.int)))
def sp_W_hel (C : Addr) : Sp := fun us H Q _ => ∃ (x lv lh d : Addr) (n : Int) (vs hs : List Int) (R : Rows), us = [.ref x] ∧ WAt C H x lv lh d n vs hs R ∧ ∀ t, H t = none → Q (.ref t) (upd H t (.tup (hs.map V.int)))
def sp_W_rules (C : Addr) : Sp := fun us H Q _ => ∃ (x lv lh d : Addr) (n : Int) (vs hs : List Int) (R : Rows), us = [.ref x] ∧ WAt C H x lv lh d n vs hs R ∧
  ∀ t H' kvs, Same H H' → H t = none → H' t = some (.dT kvs) → KvD H' kvs (sortR R) → Q (.ref t) H'

theorem kf_of {X : Cx} {f : Addr} {fd : FuncData} (F : Fun X.K "rule_order" "rule_order" s_rule_order f fd) (b : ∀ (s : Shared) (v : Value), BindsTo s fd ⟨[v], []⟩ [("rule", v)]) (pk : PartOk X.K X.mg) : KeyFn X f rankK RK := by
  refine ⟨fun s A a its k kin ns nl dp hd hk hv it => ?_, rankK_cons, fun a b => by rw [rankK_len, rankK_len]⟩
  obtain ⟨i, j, t, rfl, ht⟩ := hk
  obtain ⟨u0, us, rfl, r0, hv⟩ : ∃ u0 us, its = u0 :: us ∧ RelV (.int i) u0 ∧ Vals [.int j, kV t] us := by
    cases hv with
    | cons r rr => exact ⟨_, _, rfl, r, rr⟩
  obtain ⟨u1, u2, rfl, r1, r2⟩ := vals2 hv
  obtain ⟨t0, rfl⟩ := r0
  obtain ⟨t1, rfl⟩ := r1
  rcases ht with ⟨r, rfl⟩ | rfl
  · obtain ⟨t2, rfl⟩ := r2
    exact order_key F b pk kin ns nl dp hd it (.inl ⟨t2, rfl⟩)
  · obtain ⟨t2, rfl⟩ := r2
    exact order_key F b pk kin ns nl dp hd it (.inr ⟨⟨t2, rfl⟩, rfl⟩)

section
variable {P : Program} {w : World} {K : PySem.W.Frag} {mg : Str → Option Value} {base : Heap}
abbrev N_Watcher_len : List Str := ["self"]
theorem sc_Watcher_len : FnScope N_Watcher_len ["self"] (defScope s_Watcher_len) := ⟨rfl, rfl, rfl, by decide +kernel, rfl, by decide +kernel, by decide +kernel⟩
theorem ok_Watcher_len {f C : Addr} {fd : FuncData} {k : Nat} (F : Fun K "__len__" "Watcher.__len__" s_Watcher_len f fd) (W : WCls K C) (m_len : mg "len" = none) : FnG P w K mg base CX0 (k + 1) f fd ["self"] (sp_W_len C) := by
  refine okG F sc_Watcher_len (fun vs H Q E h => ?_) (fun cdv A outer s H vs Q E gd hr h => ?_)
  · obtain ⟨x, lv, lh, d, n, vs, hs, R, rfl, _⟩ := h
    rfl
  · obtain ⟨x, lv, lh, d, n, vs, hs, R, rfl, hW, q⟩ := h
    refine ⟨_, 
      (pss_one (ps_ret (pe_callB call_len_seq (by rfl) m_len PySem.boot_len (pa_cons (pe_fld (pv 0) rfl) pa_nil)))) -- return len(self._verdicts)
       , ?_⟩
    obtain ⟨dx, hx⟩ := hW.ins
    refine ⟨.ref x, rfl, x, C, dx, _, .ref lv, rfl, hx, W.cl, W.n2, rfl, lv, _, rfl, .inl (SqL.of hW.ver), ?_⟩
    rw [List.length_map]
    exact q
end

section
variable {P : Program} {w : World} {K : PySem.W.Frag} {mg : Str → Option Value} {base : Heap}
abbrev N_Watcher_verdicts : List Str := ["self"]
theorem sc_Watcher_verdicts : FnScope N_Watcher_verdicts ["self"] (defScope s_Watcher_verdicts) := ⟨rfl, rfl, rfl, by decide +kernel, rfl, by decide +kernel, by decide +kernel⟩
theorem ok_Watcher_verdicts {f C : Addr} {fd : FuncData} {k : Nat} (F : Fun K "verdicts" "Watcher.verdicts" s_Watcher_verdicts f fd) (W : WCls K C) (m_tuple : mg "tuple" = none) : FnG P w K mg base CX0 (k + 1) f fd ["self"] (sp_W_ver C) := by
  refine okG F sc_Watcher_verdicts (fun vs H Q E h => ?_) (fun cdv A outer s H vs Q E gd hr h => ?_)
  · obtain ⟨x, lv, lh, d, n, vs, hs, R, rfl, _⟩ := h
    rfl
  · obtain ⟨x, lv, lh, d, n, vs, hs, R, rfl, hW, q⟩ := h
    refine ⟨_, 
      (pss_one (ps_ret (pe_callTy call_tuple_of (by rfl) m_tuple (by decide +kernel) (pa_cons (pe_fld (pv 0) rfl) pa_nil)))) -- return tuple(self._verdicts)
       , ?_⟩
    obtain ⟨dx, hx⟩ := hW.ins
    exact ⟨.ref x, rfl, x, C, dx, _, .ref lv, rfl, hx, W.cl, W.n2, rfl, lv, _, rfl, .inl ⟨SqL.of hW.ver, q⟩⟩
end

section
variable {P : Program} {w : World} {K : PySem.W.Frag} {mg : Str → Option Value} {base : Heap}
abbrev N_Watcher_held_counts : List Str := ["self"]
theorem sc_Watcher_held_counts : FnScope N_Watcher_held_counts ["self"] (defScope s_Watcher_held_counts) := ⟨rfl, rfl, rfl, by decide +kernel, rfl, by decide +kernel, by decide +kernel⟩
theorem ok_Watcher_held_counts {f C : Addr} {fd : FuncData} {k : Nat} (F : Fun K "held_counts" "Watcher.held_counts" s_Watcher_held_counts f fd) (W : WCls K C) (m_tuple : mg "tuple" = none) : FnG P w K mg base CX0 (k + 1) f fd ["self"] (sp_W_hel C) := by
  refine okG F sc_Watcher_held_counts (fun vs H Q E h => ?_) (fun cdv A outer s H vs Q E gd hr h => ?_)
  · obtain ⟨x, lv, lh, d, n, vs, hs, R, rfl, _⟩ := h
    rfl
  · obtain ⟨x, lv, lh, d, n, vs, hs, R, rfl, hW, q⟩ := h
    refine ⟨_, 
      (pss_one (ps_ret (pe_callTy call_tuple_of (by rfl) m_tuple (by decide +kernel) (pa_cons (pe_fld (pv 0) rfl) pa_nil)))) -- return tuple(self._held)
       , ?_⟩
    obtain ⟨dx, hx⟩ := hW.ins
    exact ⟨.ref x, rfl, x, C, dx, _, .ref lh, rfl, hx, W.cl, W.n3, rfl, lh, _, rfl, .inl ⟨SqL.of hW.hel, q⟩⟩
end

section
variable {P : Program} {w : World} {K : PySem.W.Frag} {mg : Str → Option Value} {base : Heap}
abbrev N_Watcher_rules : List Str := ["self", "rule"]
theorem sc_Watcher_rules : FnScope N_Watcher_rules ["self"] (defScope s_Watcher_rules) := ⟨rfl, rfl, rfl, by decide +kernel, rfl, by decide +kernel, by decide +kernel⟩
theorem ok_Watcher_rules {f C f_rule_order : Addr} {fd fd_rule_order : FuncData} (F : Fun K "rules" "Watcher.rules" s_Watcher_rules f fd) (F_rule_order : Fun K "rule_order" "rule_order" s_rule_order f_rule_order fd_rule_order) (b_rule_order : ∀ (s : Shared) (v : Value), BindsTo s fd_rule_order ⟨[v], []⟩ [("rule", v)])
    (g_rule_order : mg "rule_order" = some (.ref f_rule_order)) (pk : PartOk K mg) (W : WCls K C) (m_sorted : mg "sorted" = none) : FnG P w K mg base CX0 2 f fd ["self"] (sp_W_rules C) := by
  refine okG F sc_Watcher_rules (fun vs H Q E h => ?_) (fun cdv A outer s H vs Q E gd hr h => ?_)
  · obtain ⟨x, lv, lh, d, n, vs, hs, R, rfl, _⟩ := h
    rfl
  · obtain ⟨x, lv, lh, d, n, vs, hs, R, rfl, hW, q⟩ := h
    have KF : KeyFn (cxOf CX0 P w K mg base N_Watcher_rules "Watcher.rules" (defScope s_Watcher_rules) f cdv A outer s H E).nox f_rule_order rankK RK := kf_of F_rule_order b_rule_order pk
    refine ⟨_, 
      (pss_one (ps_ret (pe_dcT (own := [("rule", 1)]) (g := gName 1) rfl sc_Watcher_rules.nd (hu_of hr) (pi_list (pe_callBK (call_sortT rfl hr KF) (by rfl) m_sorted PyProof.Rows.boot_sorted (pa_cons (pe_fld (pv 0) rfl) pa_nil) (pk_cons (pe_glob (v := .ref f_rule_order) rfl g_rule_order rfl) pk_nil))) (blkOk_by (N := N_Watcher_rules) (sc := defScope s_Watcher_rules) (by decide +kernel)) (fun _ _ _ _ _ => (pg_name (i := 1) sc_Watcher_rules.nd rfl (.inl rfl))) (fun _ _ _ _ _ => pts_nil) (fun _ _ _ _ _ => (pv 1)) (fun _ _ _ _ _ => (show PE _ _ (tDGet (tFld K (tVar 0) "_rules") (tVar 1)) from (pe_dget (hu_of hr) (pe_fld (pv 0) rfl) (pv 1) (fun _ _ => rfl))))))) -- return {rule: self._rules[rule] for rule in sorted(self._rules, key=rule_order)}
       , ?_⟩
    obtain ⟨dx, hx⟩ := hW.ins
    obtain ⟨kvs, hd, hkv⟩ := hW.rul
    have ek := hkv.keys
    refine ⟨.ref x, rfl, x, C, dx, _, .ref d, rfl, hx, W.cl, W.n4, rfl, d, kvs, rfl, rfl, hd, by rw [ek]; exact hW.rk, fun p bs np isk => ?_⟩
    rw [ek] at isk
    refine ⟨p, rfl, ⟨_, SqL.of upd_same⟩, fun D nD => ?_⟩
    have sp_ : Same H (upd H p (.lst (bs.map V.ref))) := same_new np
    have hp0 : upd H p (.lst (bs.map V.ref)) p = some (.lst (bs.map V.ref)) := upd_same
    have nDH := sp_.free nD
    generalize upd H p (.lst (bs.map V.ref)) = H0 at sp_ hp0 nD
    have nds := srt_nodup (rank := rankK) hW.nd
    have lk : (srt rankK (R.map (·.1))).length ≤ 1000 := by rw [srt_len, List.length_map]; exact hW.len.2.2
    refine dcT_list (K := K) (a := p) (xs := bs.map V.ref) (fun i H' => Same H0 H' ∧ H' D = some (.dT (((srt rankK (R.map (·.1))).take i).map fun k => (k, (valV kvs k).getD .non)))) ?_ ?_ ?_ ?_
    · exact ⟨same_new nD, upd_same⟩
    · rintro i H' ⟨sm, hD⟩
      exact SqL.of (sm _ _ hp0)
    · rintro i y H' hi ⟨sm, hD⟩
      rw [List.getElem?_map] at hi
      obtain ⟨b, hb, rfl⟩ := Option.map_eq_some_iff.mp hi
      obtain ⟨k, ek2, hbk⟩ := isKs_at isk hb
      have hkR : k ∈ R.map (·.1) := srt_mem.mp (List.mem_of_getElem? ek2)
      obtain ⟨v, ev, tv⟩ := hkv.val hkR
      have hb' := sm _ _ (sp_ _ _ hbk)
      refine ⟨rfl, .ref b, rfl, .ref x, rfl, x, C, dx, _, .ref d, rfl, sm _ _ (sp_ _ _ hx), W.cl, W.n4, rfl, .ref b, rfl, d, v, rfl, ?_, ?_⟩
      · have g := DGet.t (k := k) (sm _ _ (sp_ _ _ hd)) hb'
        rw [ev] at g
        exact g
      · have kn : k ∉ (srt rankK (R.map (·.1))).take i := by
          intro z
          obtain ⟨j, hj, e⟩ := List.getElem_of_mem z
          rw [List.length_take] at hj
          rw [List.getElem_take] at e
          have hii := (List.getElem?_eq_some_iff.mp ek2).1
          have e2 := (List.getElem?_eq_some_iff.mp ek2).2
          exact absurd (e.trans e2.symm) (List.pairwise_iff_getElem.mp nds j i (by omega) hii (by omega))
        refine ⟨_, k, b, rfl, hb', hD, by rw [List.length_map, List.length_take]; exact small1000 (by omega), fun c o e => ?_, ?_⟩
        · have : c ≠ D := ne_of_none e nD
          rw [upd_ne this]
          exact sm _ _ e
        · rw [upd_same, putK_new _ (valV_map_none kn), List.take_add_one, ek2, List.map_append]
          show some (HO.dT (_ ++ [(k, v)])) = some (HO.dT (_ ++ [(k, (valV kvs k).getD .non)]))
          rw [ev]
          rfl
    · rintro H' ⟨sm, hD⟩
      have lb : (bs.map V.ref).length = (srt rankK (R.map (·.1))).length := by rw [List.length_map]; exact (Paired.length isk).symm
      rw [lb, List.take_length] at hD
      refine q D H' _ (fun b o e => sm _ _ (sp_ _ _ e)) nDH hD ?_
      exact kvd_of (KvD.mono (Tups.same fun b o e => sm _ _ (sp_ _ _ e)) hkv) fun k hk => srt_mem.mp hk
end

/-! ### the parts of rules; states are added -/
theorem passNo {X : Cx} : Passes (L2.CX X.prog X.w) X fun _ _ _ => False := L2.passes_call (W := fun _ _ _ _ => False) L2.takes_none5 (fun _ _ _ _ h => h)
def sp_require_verdict (C : Addr) : Sp := fun us H Q E => ∃ (p : Addr) (v : V) (d : PyData), us = [v] ∧ LD p H v d ∧ (btw d 0 3 = true → Q .non H) ∧ (btw d 0 3 = false → ∀ e, H e = none → E (.ref C) (some e) (upd H e (.xd [(("verdict" : Str), v)])))
def sp_require_state (C CU : Addr) : Sp := fun us H Q E => ∃ (x lv lh d : Addr) (n : Int) (vs hs : List Int) (R : Rows) (p : Addr) (v : V) (dd : PyData), us = [.ref x, v] ∧ WAt C H x lv lh d n vs hs R ∧ LD p H v dd ∧
  (btw dd 0 ((vs.length : Int) - 1) = true → Q .non H) ∧ (btw dd 0 ((vs.length : Int) - 1) = false → ∀ e, H e = none → E (.ref CU) (some e) (upd H e (.xd [(("state" : Str), v)])))
def isTest (d : PyData) (h : Int) : Bool := isStrD d "new" || btw d 0 (h - 1)
def sp_is_test : Sp := fun us H Q _ => ∃ (p : Addr) (v : V) (d : PyData) (h : Int), us = [v, .int h] ∧ LD p H v d ∧ isDctD d = false ∧ Q (.bl (isTest d h)) H
def sp_no_sources : Sp := fun us H Q _ => ∃ (a : Addr) (wn h : Int) (t : V), us = [.ref a, .int wn, .int h, t] ∧ H a = some (.tup []) ∧ Q (.bl (decide (wn = 0))) H
def sp_add_state (C CV CL : Addr) : Sp := fun us H Q E => ∃ (x lv lh d : Addr) (n : Int) (vs hs : List Int) (R : Rows) (p : Addr) (v1 v2 : V) (d1 d2 : PyData), us = [.ref x, v1, v2] ∧ WAt C H x lv lh d n vs hs R ∧ LD p H v1 d1 ∧ LD p H v2 d2 ∧
  (btw d1 0 3 = false → ∀ e, H e = none → E (.ref CV) (some e) (upd H e (.xd [(("verdict" : Str), v1)]))) ∧
  (btw d1 0 3 = true → btw d2 0 3 = false → ∀ e, H e = none → E (.ref CL) (some e) (upd H e (.xd [(("limit" : Str), .int 3)]))) ∧
  (btw d1 0 3 = true → btw d2 0 3 = true → vs.length = 6 → ∀ e, H e = none → E (.ref CL) (some e) (upd H e (.xd [(("limit" : Str), .int 6)]))) ∧
  (∀ a b, d1 = .int a → d2 = .int b → btw d1 0 3 = true → btw d2 0 3 = true → vs.length < 6 → ∀ H', (∀ c o, H c = some o → c ≠ lv → c ≠ lh → H' c = some o) → WAt C H' x lv lh d n (vs ++ [a]) (hs ++ [b]) R → Q (.int vs.length) H')

section
variable {P : Program} {w : World} {K : PySem.W.Frag} {mg : Str → Option Value} {base : Heap}
abbrev N_require_verdict : List Str := ["verdict"]
theorem sc_require_verdict : FnScope N_require_verdict ["verdict"] (defScope s_require_verdict) := ⟨rfl, rfl, rfl, by decide +kernel, rfl, by decide +kernel, by decide +kernel⟩
theorem ok_require_verdict {f f_is_between C iC : Addr} {fd fd_is_between : FuncData} {t3 : Tok} (F : Fun K "require_verdict" "require_verdict" s_require_verdict f fd) (F_is_between : Fun K "is_between" "is_between" s_is_between f_is_between fd_is_between) (b_is_between : Binds K fd_is_between ["value", "low", "high"] [])
    (g_is_between : mg "is_between" = some (.ref f_is_between)) (G_is_between : FnG P w K mg base CX0 2 f_is_between fd_is_between ["value", "low", "high"] sp_is_between) (T_NotAVerdict : L2.ErrOk OwnE.bVE "NotAVerdict" "verdict" "NotAVerdict.__init__" K mg C iC) (g_MOST_VERDICT : mg "MOST_VERDICT" = some (.int 3 t3)) :
    FnG P w K mg base (L2.CX P w) 3 f fd ["verdict"] (sp_require_verdict C) := by
  refine okGX F sc_require_verdict (fun vs H Q E h => ?_) (fun cdv A outer s H vs Q E gd hr h => ?_)
  · obtain ⟨p, v, d, rfl, _⟩ := h
    rfl
  · obtain ⟨p, v, d, rfl, hv, q1, q2⟩ := h
    have hr1 : Room 1 _ := hr.mono (by decide)
    refine ⟨_, 
      (pss_one (ps_if (pt_not (pt_val (pe_callG G_is_between gd (hr.mono (by decide)) rfl g_is_between F_is_between.kp b_is_between .nil pass0 (pa_cons (pv 0) (pa_cons pe_int (pa_cons (pe_glob (v := .int 3) rfl g_MOST_VERDICT ⟨_, rfl⟩) pa_nil)))))) 
        (pss_one (L2.ps_raiseE (W := fun cls d _ H => E cls d H) rfl T_NotAVerdict hr1 (takes_of rfl rfl rfl rfl) (by exact (pa_cons (pv 0) pa_nil)))) -- raise NotAVerdict(verdict)
         pss_nil)) -- if not is_between(verdict, 0, MOST_VERDICT):
       , ?_⟩
    refine ⟨v, rfl, p, v, d, 0, 3, rfl, hv, _, rfl, ?_⟩
    cases hb : btw d 0 3 with
    | false => exact ⟨v, rfl, v, rfl, fun e he => q2 hb e he⟩
    | true => exact q1 hb
end

section
variable {P : Program} {w : World} {K : PySem.W.Frag} {mg : Str → Option Value} {base : Heap}
abbrev N_Watcher_require_state : List Str := ["self", "state"]
theorem sc_Watcher_require_state : FnScope N_Watcher_require_state ["self", "state"] (defScope s_Watcher_require_state) := ⟨rfl, rfl, rfl, by decide +kernel, rfl, by decide +kernel, by decide +kernel⟩
theorem ok_require_state {f f_is_between C CU iU : Addr} {fd fd_is_between : FuncData} (F : Fun K "require_state" "Watcher.require_state" s_Watcher_require_state f fd) (F_is_between : Fun K "is_between" "is_between" s_is_between f_is_between fd_is_between) (b_is_between : Binds K fd_is_between ["value", "low", "high"] [])
    (g_is_between : mg "is_between" = some (.ref f_is_between)) (G_is_between : FnG P w K mg base CX0 2 f_is_between fd_is_between ["value", "low", "high"] sp_is_between) (T_UnknownState : L2.ErrOk OwnE.bLE "UnknownState" "state" "UnknownState.__init__" K mg CU iU) (W : WCls K C) (m_len : mg "len" = none) :
    FnG P w K mg base (L2.CX P w) 3 f fd ["self", "state"] (sp_require_state C CU) := by
  refine okGX F sc_Watcher_require_state (fun vs H Q E h => ?_) (fun cdv A outer s H vs Q E gd hr h => ?_)
  · obtain ⟨x, lv, lh, d, n, vs, hs, R, p, v, dd, rfl, _⟩ := h
    rfl
  · obtain ⟨x, lv, lh, d, n, vs, hs, R, p, v, dd, rfl, hW, hv, q1, q2⟩ := h
    have hr1 : Room 1 _ := hr.mono (by decide)
    refine ⟨_, 
      (pss_one (ps_if (pt_not (pt_val (pe_callG G_is_between gd (hr.mono (by decide)) rfl g_is_between F_is_between.kp b_is_between .nil pass0 (pa_cons (pv 1) (pa_cons pe_int (pa_cons (pe_op op_sub (pe_callB call_len_seq (by rfl) m_len PySem.boot_len (pa_cons (pe_fld (pv 0) rfl) pa_nil)) pe_int) pa_nil)))))) 
        (pss_one (L2.ps_raiseE (W := fun cls d _ H => E cls d H) rfl T_UnknownState hr1 (takes_of rfl rfl rfl rfl) (by exact (pa_cons (pv 1) pa_nil)))) -- raise UnknownState(state)
         pss_nil)) -- if not is_between(state, 0, len(self._verdicts) - 1):
       , ?_⟩
    obtain ⟨dx, hx⟩ := hW.ins
    refine ⟨v, rfl, .ref x, rfl, x, C, dx, _, .ref lv, rfl, hx, W.cl, W.n2, rfl, lv, _, rfl, .inl (SqL.of hW.ver), _, 1, rfl, rfl, p, v, dd, 0, _, rfl, hv, _, rfl, ?_⟩
    rw [List.length_map]
    cases hb : btw dd 0 ((vs.length : Int) - 1) with
    | false => exact ⟨v, rfl, v, rfl, fun e he => q2 hb e he⟩
    | true => exact q1 hb
end

section
variable {P : Program} {w : World} {K : PySem.W.Frag} {mg : Str → Option Value} {base : Heap}
abbrev N_is_test : List Str := ["test", "held"]
theorem sc_is_test : FnScope N_is_test ["test", "held"] (defScope s_is_test) := ⟨rfl, rfl, rfl, by decide +kernel, rfl, by decide +kernel, by decide +kernel⟩
theorem ok_is_test {f f_is_between : Addr} {fd fd_is_between : FuncData} {tN : Tok} (F : Fun K "is_test" "is_test" s_is_test f fd) (F_is_between : Fun K "is_between" "is_between" s_is_between f_is_between fd_is_between) (b_is_between : Binds K fd_is_between ["value", "low", "high"] [])
    (g_is_between : mg "is_between" = some (.ref f_is_between)) (G_is_between : FnG P w K mg base CX0 2 f_is_between fd_is_between ["value", "low", "high"] sp_is_between) (g_NEW : mg "NEW" = some (.str "new" tN)) : FnG P w K mg base CX0 3 f fd ["test", "held"] sp_is_test := by
  refine okG F sc_is_test (fun vs H Q E h => ?_) (fun cdv A outer s H vs Q E gd hr h => ?_)
  · obtain ⟨p, v, d, h', rfl, _⟩ := h
    rfl
  · obtain ⟨p, v, d, h', rfl, hv, nd, q⟩ := h
    refine ⟨_, 
      (pss_one (ps_ret (pe_or (pe_cmpR (op_eqS hr.units) (pv 0) (pe_glob (v := .str "new") rfl g_NEW ⟨_, rfl⟩) (nomark _)) (pe_one (pe_callG G_is_between gd (hr.mono (by decide)) rfl g_is_between F_is_between.kp b_is_between .nil pass0 (pa_cons (pv 0) (pa_cons pe_int (pa_cons (pe_op op_sub (pv 1) pe_int) pa_nil)))))))) -- return test == NEW or is_between(test, 0, held - 1)
       , ?_⟩
    refine ⟨v, rfl, p, d, "new", hv, nd, rfl, _, rfl, ?_⟩
    unfold isTest at q
    cases hb : isStrD d "new" with
    | true =>
      rw [hb] at q
      exact q
    | false =>
      rw [hb] at q
      exact ⟨v, rfl, .int h', rfl, h', 1, rfl, rfl, p, v, d, 0, h' - 1, rfl, hv, q⟩
end

section
variable {P : Program} {w : World} {K : PySem.W.Frag} {mg : Str → Option Value} {base : Heap}
abbrev N_Watcher_add_state : List Str := ["self", "verdict", "held"]
theorem sc_Watcher_add_state : FnScope N_Watcher_add_state ["self", "verdict", "held"] (defScope s_Watcher_add_state) := ⟨rfl, rfl, rfl, by decide +kernel, rfl, by decide +kernel, by decide +kernel⟩
theorem ok_Watcher_add_state {f f_is_between f_require_verdict C CV CL iL : Addr} {fd fd_is_between fd_require_verdict : FuncData} {t3 t6 : Tok} (F : Fun K "add_state" "Watcher.add_state" s_Watcher_add_state f fd) (F_is_between : Fun K "is_between" "is_between" s_is_between f_is_between fd_is_between) (b_is_between : Binds K fd_is_between ["value", "low", "high"] [])
    (g_is_between : mg "is_between" = some (.ref f_is_between)) (G_is_between : FnG P w K mg base CX0 2 f_is_between fd_is_between ["value", "low", "high"] sp_is_between) (F_require_verdict : Fun K "require_verdict" "require_verdict" s_require_verdict f_require_verdict fd_require_verdict) (b_require_verdict : Binds K fd_require_verdict ["verdict"] [])
    (g_require_verdict : mg "require_verdict" = some (.ref f_require_verdict)) (G_require_verdict : FnG P w K mg base (L2.CX P w) 3 f_require_verdict fd_require_verdict ["verdict"] (sp_require_verdict CV)) (T_LimitExceeded : L2.ErrOk OwnE.bOE "LimitExceeded" "limit" "LimitExceeded.__init__" K mg CL iL)
    (g_MOST_HELD : mg "MOST_HELD" = some (.int 3 t3)) (g_MOST_STATES : mg "MOST_STATES" = some (.int 6 t6)) (W : WCls K C) (m_len : mg "len" = none) : FnG P w K mg base (L2.CX P w) 4 f fd ["self", "verdict", "held"] (sp_add_state C CV CL) := by
  refine okGX F sc_Watcher_add_state (fun vs H Q E h => ?_) (fun cdv A outer s H vs Q E gd hr h => ?_)
  · obtain ⟨x, lv, lh, d, n, vs, hs, R, p, v1, v2, d1, d2, rfl, _⟩ := h
    rfl
  · obtain ⟨x, lv, lh, d, n, vs, hs, R, p, v1, v2, d1, d2, rfl, hW, h1, h2, q1, q2, q3, q4⟩ := h
    have hr1 : Room 1 _ := hr.mono (by decide)
    refine ⟨_, 
      (pss_cons (ps_expr (pe_callG G_require_verdict gd (hr.mono (by decide)) rfl g_require_verdict F_require_verdict.kp b_require_verdict .nil (L2.passes_call (W := fun cls d _ H => E cls d H) (takes_of rfl rfl rfl rfl) (fun _ _ _ _ h => h)) (pa_cons (pv 1) pa_nil))) -- require_verdict(verdict)
      (pss_cons (ps_if (pt_not (pt_val (pe_callG G_is_between gd (hr.mono (by decide)) rfl g_is_between F_is_between.kp b_is_between .nil pass0 (pa_cons (pv 2) (pa_cons pe_int (pa_cons (pe_glob (v := .int 3) rfl g_MOST_HELD ⟨_, rfl⟩) pa_nil)))))) 
        (pss_one (L2.ps_raiseE (W := fun cls d _ H => E cls d H) rfl T_LimitExceeded hr1 (takes_of rfl rfl rfl rfl) (by exact (pa_cons (pe_glob (v := .int 3) rfl g_MOST_HELD ⟨_, rfl⟩) pa_nil)))) -- raise LimitExceeded(MOST_HELD)
         pss_nil) -- if not is_between(held, 0, MOST_HELD):
      (pss_cons (ps_if (pt_cmpR op_eq (pe_callB call_len_seq (by rfl) m_len PySem.boot_len (pa_cons (pe_fld (pv 0) rfl) pa_nil)) (pe_glob (v := .int 6) rfl g_MOST_STATES ⟨_, rfl⟩) (nomark _)) 
        (pss_one (L2.ps_raiseE (W := fun cls d _ H => E cls d H) rfl T_LimitExceeded hr1 (takes_of rfl rfl rfl rfl) (by exact (pa_cons (pe_glob (v := .int 6) rfl g_MOST_STATES ⟨_, rfl⟩) pa_nil)))) -- raise LimitExceeded(MOST_STATES)
         pss_nil) -- if len(self._verdicts) == MOST_STATES:
      (pss_cons (ps_expr (pe_bm PySem.F.plainAttrs_list PySem.F.slot_list_append PySem.F.type_list_append mt_append (pe_fld (pv 0) rfl) (pa_cons (pv 1) pa_nil))) -- self._verdicts.append(verdict)
      (pss_cons (ps_expr (pe_bm PySem.F.plainAttrs_list PySem.F.slot_list_append PySem.F.type_list_append mt_append (pe_fld (pv 0) rfl) (pa_cons (pv 2) pa_nil))) -- self._held.append(held)
      (pss_one (ps_ret (pe_op op_sub (pe_callB call_len_seq (by rfl) m_len PySem.boot_len (pa_cons (pe_fld (pv 0) rfl) pa_nil)) pe_int))) -- return len(self._verdicts) - 1
      ))))) , ?_⟩
    obtain ⟨dx, hx⟩ := hW.ins
    have hv := hW.ver
    have hh := hW.hel
    have ne := hW.ne
    have ll := hW.len
    refine ⟨v1, rfl, p, v1, d1, rfl, h1, fun o1 => ?_, q1⟩
    refine ⟨v2, rfl, p, v2, d2, 0, 3, rfl, h2, _, rfl, ?_⟩
    cases hb : btw d2 0 3 with
    | false => exact ⟨.int 3, rfl, fun e he => q2 o1 hb e he⟩
    | true =>
      refine ⟨.ref x, rfl, x, C, dx, _, .ref lv, rfl, hx, W.cl, W.n2, rfl, lv, _, rfl, .inl (SqL.of hv), rfl, _, rfl, ?_⟩
      rw [List.length_map]
      by_cases h6 : vs.length = 6
      · rw [h6]
        exact ⟨.int 6, rfl, fun e he => q3 o1 hb h6 e he⟩
      · have h6' : ¬ (V.int ((vs.length : Nat) : Int)) = V.int 6 := fun z => h6 (by have := V.int.inj z; omega)
        rw [decide_eq_false h6']
        obtain ⟨a, rfl, _⟩ := btw_int o1
        obtain ⟨b, rfl, _⟩ := btw_int hb
        cases h1
        cases h2
        have xv : x ≠ lv := ne_of hx hv (fun z => nomatch z)
        have xh : x ≠ lh := ne_of hx hh (fun z => nomatch z)
        refine ⟨.ref x, rfl, x, C, dx, _, .ref lv, rfl, hx, W.cl, W.n2, rfl, .inl ⟨rfl, _, SqL.of hv⟩, .int a, rfl, lv, _, .int a, rfl, rfl, hv, by rw [List.length_map]; exact small1000 (by omega), ?_⟩
        have hx1 : upd H lv (.lst (vs.map V.int ++ [V.int a])) x = some (.ins C dx (wf n lv lh d)) := by rw [upd_ne xv]; exact hx
        have hh1 : upd H lv (.lst (vs.map V.int ++ [V.int a])) lh = some (.lst (hs.map V.int)) := by rw [upd_ne ne.symm]; exact hh
        refine ⟨.ref x, rfl, x, C, dx, _, .ref lh, rfl, hx1, W.cl, W.n3, rfl, .inl ⟨rfl, _, SqL.of hh1⟩, .int b, rfl, lh, _, .int b, rfl, rfl, hh1, by rw [List.length_map]; exact small1000 (by omega), ?_⟩
        have hx2 : upd (upd H lv (.lst (vs.map V.int ++ [V.int a]))) lh (.lst (hs.map V.int ++ [V.int b])) x = some (.ins C dx (wf n lv lh d)) := by rw [upd_ne xh]; exact hx1
        have hv2 : upd (upd H lv (.lst (vs.map V.int ++ [V.int a]))) lh (.lst (hs.map V.int ++ [V.int b])) lv = some (.lst (vs.map V.int ++ [V.int a])) := by rw [upd_ne ne]; exact upd_same
        refine ⟨.ref x, rfl, x, C, dx, _, .ref lv, rfl, hx2, W.cl, W.n2, rfl, lv, _, rfl, .inl (SqL.of hv2), _, 1, rfl, rfl, ?_⟩
        have el : (((vs.map V.int ++ [V.int a]).length : Nat) : Int) - 1 = (vs.length : Int) := by
          rw [List.length_append, List.length_map]
          show ((vs.length + 1 : Nat) : Int) - 1 = _
          omega
        dsimp only
        rw [el]
        obtain ⟨kvs, hd, hkv⟩ := hW.rul
        have dv : d ≠ lv := ne_of hd hv (fun z => nomatch z)
        have dh : d ≠ lh := ne_of hd hh (fun z => nomatch z)
        have tp : Tups H (upd (upd H lv (.lst (vs.map V.int ++ [V.int a]))) lh (.lst (hs.map V.int ++ [V.int b]))) := (Tups.lst hv).trans (Tups.lst hh1)
        refine q4 a b rfl rfl o1 hb (by omega) _ (fun c o e n1 n2 => ?_) { ins := ⟨dx, hx2⟩, ver := ?_, hel := ?_, rul := ⟨kvs, ?_, hkv.mono tp⟩, ne := ne, rk := hW.rk, nd := hW.nd, len := ⟨by rw [List.length_append, List.length_append, ll.1]; rfl, by rw [List.length_append]; show vs.length + 1 ≤ 6; omega, ll.2.2⟩ }
        · rw [upd_ne n2, upd_ne n1]
          exact e
        · rw [hv2, List.map_append]
          rfl
        · rw [upd_same, List.map_append]
          rfl
        · rw [upd_ne dh, upd_ne dv]
          exact hd
end

/-! ### sources, words, rules -/
theorem Tx.W {K : PySem.W.Frag} {mg : Str → Option Value} (T : Tx K mg) : WCls K T.Watcher.C := ⟨T.Watcher.cl, T.nf_Watcherwords, T.nf_Watcher_verdicts, T.nf_Watcher_held, T.nf_Watcher_rules⟩
theorem ldK {p : Addr} {H : Hp} : ∀ t : Key, LD p H (kV t) (kD t)
  | .inl n => .int n
  | .inr s => .str s
theorem kD_nd : ∀ t : Key, isDctD (kD t) = false
  | .inl _ => rfl
  | .inr _ => rfl
def isSrc (d : PyData) (h : Int) (t : Key) : Bool := if isStrD d "value" = true then isStrD (kD t) "new" else btw d 0 (h - 1)
/-- the data are sources of a rule -/
structure AreSrc (d : PyData) (wn h : Int) (t : Key) (ks : List Key) : Prop where
  d : d = .tuple (ks.map kD)
  len : (ks.length : Int) = wn
  all : ∀ k ∈ ks, isSrc (kD k) h t = true
  nd : ks.Nodup
/-- a tuple of the wanted length is short -/
def SmallT (d : PyData) (wn : Int) : Prop := ∀ ds, d = .tuple ds → (ds.length : Int) = wn → ds.length ≤ 50
theorem isSrc_key {p : Addr} {H : Hp} {v : V} {d : PyData} {h : Int} {t : Key} (hv : LD p H v d) (hs : isSrc d h t = true) : ∃ k : Key, d = kD k ∧ v = kV k := by
  unfold isSrc at hs
  cases hv with
  | int i => exact ⟨.inl i, rfl, rfl⟩
  | str x => exact ⟨.inr x, rfl, rfl⟩
  | _ => cases hs
theorem srcs_of {p : Addr} {H : Hp} {h : Int} {t : Key} : ∀ {xs : List V} {ds : List PyData}, LDs p H xs ds → (∀ e ∈ ds, isSrc e h t = true) → ∃ ks : List Key, ds = ks.map kD ∧ xs = ks.map kV
  | _, _, .nil, _ => ⟨[], rfl, rfl⟩
  | _, _, .cons a r, hs => by
    obtain ⟨k, rfl, rfl⟩ := isSrc_key a (hs _ List.mem_cons_self)
    obtain ⟨ks, rfl, rfl⟩ := srcs_of r fun e he => hs e (List.mem_cons_of_mem _ he)
    exact ⟨k :: ks, rfl, rfl⟩
theorem kD_inj {a b : Key} (h : kD a = kD b) : a = b := by
  cases a <;> cases b <;> simp_all [kD]
theorem map_kD_inj : ∀ {a b : List Key}, a.map kD = b.map kD → a = b
  | [], [], _ => rfl
  | [], _ :: _, h => by cases h
  | _ :: _, [], h => by cases h
  | x :: a, y :: b, h => by
    simp only [List.map_cons, List.cons.injEq] at h
    rw [kD_inj h.1, map_kD_inj h.2]
def hAt (hs : List Int) (i : Int) : Int := (hs[i.toNat]?).getD 0
def sp_is_source : Sp := fun us H Q _ => ∃ (p : Addr) (v : V) (d : PyData) (h : Int) (t : Key), us = [v, .int h, kV t] ∧ LD p H v d ∧ Q (.bl (isSrc d h t)) H
def sp_are_sources : Sp := fun us H Q _ => ∃ (p : Addr) (v : V) (d : PyData) (wn h : Int) (t : Key), us = [v, .int wn, .int h, kV t] ∧ LD p H v d ∧ SmallT d wn ∧ ((∃ ks, AreSrc d wn h t ks) → Q (.bl true) H) ∧ ((¬ ∃ ks, AreSrc d wn h t ks) → Q (.bl false) H)
def sp_require_word (C CW : Addr) : Sp := fun us H Q E => ∃ (x lv lh d : Addr) (n : Int) (vs hs : List Int) (R : Rows) (p : Addr) (v : V) (dd : PyData), us = [.ref x, v] ∧ WAt C H x lv lh d n vs hs R ∧ LD p H v dd ∧
  (btw dd 0 (n - 1) = true → Q .non H) ∧ (btw dd 0 (n - 1) = false → ∀ e, H e = none → E (.ref CW) (some e) (upd H e (.xd [(("word" : Str), v)])))
def sp_set_verdict (C CU CV : Addr) : Sp := fun us H Q E => ∃ (x lv lh d : Addr) (n : Int) (vs hs : List Int) (R : Rows) (p : Addr) (v1 v2 : V) (d1 d2 : PyData), us = [.ref x, v1, v2] ∧ WAt C H x lv lh d n vs hs R ∧ LD p H v1 d1 ∧ LD p H v2 d2 ∧
  (btw d1 0 ((vs.length : Int) - 1) = false → ∀ e, H e = none → E (.ref CU) (some e) (upd H e (.xd [(("state" : Str), v1)]))) ∧
  (btw d1 0 ((vs.length : Int) - 1) = true → btw d2 0 3 = false → ∀ e, H e = none → E (.ref CV) (some e) (upd H e (.xd [(("verdict" : Str), v2)]))) ∧
  (∀ s v : Int, d1 = .int s → d2 = .int v → 0 ≤ s → s < vs.length → 0 ≤ v → v ≤ 3 → ∀ H', (∀ c o, H c = some o → c ≠ lv → H' c = some o) → WAt C H' x lv lh d n (vs.set s.toNat v) hs R → Q .non H')
def sp_rule_for (C : Addr) : Sp := fun us H Q _ => ∃ (x lv lh d : Addr) (n : Int) (vs hs : List Int) (R : Rows) (s w : Int) (t : Key), us = [.ref x, .int s, .int w, kV t] ∧ WAt C H x lv lh d n vs hs R ∧
  ([Sum.inl s, Sum.inl w, t] ∉ R.map (·.1) → ∀ H', Same H H' → Q .non H') ∧ ([Sum.inl s, Sum.inl w, t] ∈ R.map (·.1) → ∀ v H', Same H H' → TD H' v (lookR R [Sum.inl s, Sum.inl w, t]) → Q v H')
structure ErrA where
  (U W T S R : Addr)
def sp_add_rule (C : Addr) (X : ErrA) : Sp := fun us H Q E => ∃ (x lv lh d : Addr) (n : Int) (vs hs : List Int) (R : Rows) (p : Addr) (v1 v2 v3 v4 v5 : V) (d1 d2 d3 d4 d5 : PyData), us = [.ref x, v1, v2, v3, v4, v5] ∧
  WAt C H x lv lh d n vs hs R ∧ LD p H v1 d1 ∧ LD p H v2 d2 ∧ LD p H v3 d3 ∧ LD p H v4 d4 ∧ LD p H v5 d5 ∧ isDctD d3 = false ∧ (∀ i : Int, SmallT d5 (hAt hs i)) ∧ R.length < 1000 ∧
  (btw d1 0 ((vs.length : Int) - 1) = false → ∀ e, H e = none → E (.ref X.U) (some e) (upd H e (.xd [(("state" : Str), v1)]))) ∧
  (btw d1 0 ((vs.length : Int) - 1) = true → btw d4 0 ((vs.length : Int) - 1) = false → ∀ e, H e = none → E (.ref X.U) (some e) (upd H e (.xd [(("state" : Str), v4)]))) ∧
  (btw d1 0 ((vs.length : Int) - 1) = true → btw d4 0 ((vs.length : Int) - 1) = true → btw d2 0 (n - 1) = false → ∀ e, H e = none → E (.ref X.W) (some e) (upd H e (.xd [(("word" : Str), v2)]))) ∧
  ∀ s tg w : Int, d1 = .int s → d4 = .int tg → d2 = .int w → 0 ≤ s → s < vs.length → 0 ≤ tg → tg < vs.length → 0 ≤ w → w < n →
    (isTest d3 (hAt hs s) = false → ∀ e, H e = none → E (.ref X.T) (some e) (upd H e (.xd [(("test" : Str), v3)]))) ∧
    ∀ t : Key, v3 = kV t → d3 = kD t → isTest (kD t) (hAt hs s) = true →
      ((¬ ∃ ks, AreSrc d5 (hAt hs tg) (hAt hs s) t ks) → ∀ e, H e = none → E (.ref X.S) (some e) (upd H e (.xd [(("sources" : Str), v5)]))) ∧
      ∀ ks, AreSrc d5 (hAt hs tg) (hAt hs s) t ks →
        ([Sum.inl s, Sum.inl w, t] ∈ R.map (·.1) → ∀ T, H T = none → ∀ e, upd H T (.tup [.int s, .int w, v3]) e = none → E (.ref X.R) (some e) (upd (upd H T (.tup [.int s, .int w, v3])) e (.xd [(("rule" : Str), .ref T)]))) ∧
        ([Sum.inl s, Sum.inl w, t] ∉ R.map (·.1) → ∀ H', (∀ c o, H c = some o → c ≠ d → H' c = some o) → WAt C H' x lv lh d n vs hs (R ++ [([Sum.inl s, Sum.inl w, t], ruleD (tg, ks))]) → Q .non H')
theorem test_key' {p : Addr} {H : Hp} {v : V} {d : PyData} {h : Int} (hv : LD p H v d) (ht : isTest d h = true) : ∃ t : Key, v = kV t ∧ d = kD t ∧ ((∃ r, t = Sum.inl r) ∨ t = Sum.inr ("new" : Str)) := by
  cases hv with
  | int i => exact ⟨Sum.inl i, rfl, rfl, .inl ⟨i, rfl⟩⟩
  | str x =>
    have e : (x == ("new" : Str)) = true := by
      have z : ((x == ("new" : Str)) || false) = true := ht
      rwa [Bool.or_false] at z
    exact ⟨Sum.inr x, rfl, rfl, .inr (by rw [beq_iff_eq.mp e])⟩
  | _ => cases ht
theorem hs_at {hs : List Int} {i : Int} (h0 : 0 ≤ i) (h1 : i < hs.length) : atI (hs.map V.int) i = some (.int (hAt hs i)) := by
  obtain ⟨j, rfl⟩ : ∃ j : Nat, i = j := ⟨i.toNat, by omega⟩
  have hj : j < hs.length := by omega
  refine atI_nat ?_
  unfold hAt
  rw [Int.toNat_natCast, List.getElem?_map, List.getElem?_eq_getElem hj]
  rfl
theorem btw_true {n lo hi : Int} (h0 : lo ≤ n) (h1 : n ≤ hi) : btw (.int n) lo hi = true := by
  show (decide (lo ≤ n) && decide (n ≤ hi)) = true
  rw [decide_eq_true h0, decide_eq_true h1]
  rfl
section
variable {P : Program} {w : World} {K : PySem.W.Frag} {mg : Str → Option Value} {base : Heap}
theorem G_is_between (T : Tx K mg) : FnG P w K mg base CX0 2 T.is_between.f T.is_between.fd ["value", "low", "high"] sp_is_between := ok_is_between T.is_between.F T.is_integer.F T.is_integer.b T.is_integer.g T.m_isinstance T.m_int T.m_bool
theorem G_require_verdict (T : Tx K mg) : FnG P w K mg base (L2.CX P w) 3 T.require_verdict.f T.require_verdict.fd ["verdict"] (sp_require_verdict T.NotAVerdict.C) := ok_require_verdict T.require_verdict.F T.is_between.F T.is_between.b T.is_between.g (G_is_between T) T.NotAVerdict.e T.g_MOST_VERDICT
theorem G_Watcher_require_state (T : Tx K mg) : FnG P w K mg base (L2.CX P w) 3 T.Watcher_require_state.f T.Watcher_require_state.fd ["self", "state"] (sp_require_state T.Watcher.C T.UnknownState.C) := ok_require_state T.Watcher_require_state.F T.is_between.F T.is_between.b T.is_between.g (G_is_between T) T.UnknownState.e T.W T.m_len
theorem G_is_test (T : Tx K mg) : FnG P w K mg base CX0 3 T.is_test.f T.is_test.fd ["test", "held"] sp_is_test := ok_is_test T.is_test.F T.is_between.F T.is_between.b T.is_between.g (G_is_between T) T.g_NEW
theorem G_Watcher_add_state (T : Tx K mg) : FnG P w K mg base (L2.CX P w) 4 T.Watcher_add_state.f T.Watcher_add_state.fd ["self", "verdict", "held"] (sp_add_state T.Watcher.C T.NotAVerdict.C T.LimitExceeded.C) :=
  ok_Watcher_add_state T.Watcher_add_state.F T.is_between.F T.is_between.b T.is_between.g (G_is_between T) T.require_verdict.F T.require_verdict.b T.require_verdict.g (G_require_verdict T) T.LimitExceeded.e T.g_MOST_HELD T.g_MOST_STATES T.W T.m_len
theorem G_Watcher_init (T : Tx K mg) : FnG P w K mg base (L2.CX P w) 3 T.Watcher_init.f T.Watcher_init.fd ["self", "words"] (sp_W_init T.Watcher.C T.LimitExceeded.C) := ok_Watcher_init T.Watcher_init.F T.is_between.F T.is_between.b T.is_between.g (G_is_between T) T.LimitExceeded.e T.g_MOST_WORDS T.W
end

section
variable {P : Program} {w : World} {K : PySem.W.Frag} {mg : Str → Option Value} {base : Heap}
abbrev N_is_source : List Str := ["source", "held", "test"]
theorem sc_is_source : FnScope N_is_source ["source", "held", "test"] (defScope s_is_source) := ⟨rfl, rfl, rfl, by decide +kernel, rfl, by decide +kernel, by decide +kernel⟩
theorem G_is_source (T : Tx K mg) : FnG P w K mg base CX0 3 T.is_source.f T.is_source.fd ["source", "held", "test"] sp_is_source := by
  refine okG T.is_source.F sc_is_source (fun vs H Q E h => ?_) (fun cdv A outer s H vs Q E gd hr h => ?_)
  · obtain ⟨p, v, d, h', t, rfl, _⟩ := h
    rfl
  · obtain ⟨p, v, d, h', t, rfl, hv, q⟩ := h
    refine ⟨_, 
      (pss_cons (ps_if (pt_cmpR (op_eqS' hr.units) (pv 0) (pe_glob (v := .str "value") rfl T.g_VALUE ⟨_, rfl⟩) (nomark _)) 
        (pss_one (ps_ret (pe_cmpR (op_eqS hr.units) (pv 2) (pe_glob (v := .str "new") rfl T.g_NEW ⟨_, rfl⟩) (nomark _)))) -- return test == NEW
         pss_nil) -- if source == VALUE:
      (pss_one (ps_ret (pe_callG (G_is_between T) gd (hr.mono (by decide)) rfl T.is_between.g T.is_between.F.kp T.is_between.b .nil pass0 (pa_cons (pv 0) (pa_cons pe_int (pa_cons (pe_op op_sub (pv 1) pe_int) pa_nil)))))) -- return is_between(source, 0, held - 1)
      ) , ?_⟩
    refine ⟨v, rfl, p, d, "value", hv, rfl, _, rfl, ?_⟩
    unfold isSrc at q
    cases hb : isStrD d "value" with
    | true =>
      rw [hb, if_pos rfl] at q
      exact iteT ⟨kV t, rfl, p, kD t, "new", ldK t, kD_nd t, rfl, q⟩
    | false =>
      rw [hb, if_neg Bool.false_ne_true] at q
      exact iteF ⟨v, rfl, .int h', rfl, h', 1, rfl, rfl, p, v, d, 0, h' - 1, rfl, hv, q⟩
end

section
variable {P : Program} {w : World} {K : PySem.W.Frag} {mg : Str → Option Value} {base : Heap}
abbrev N_are_sources : List Str := ["sources", "wanted", "held", "test", "source"]
theorem sc_are_sources : FnScope N_are_sources ["sources", "wanted", "held", "test"] (defScope s_are_sources) := ⟨rfl, rfl, rfl, by decide +kernel, rfl, by decide +kernel, by decide +kernel⟩
theorem G_are_sources (T : Tx K mg) : FnG P w K mg base CX0 4 T.are_sources.f T.are_sources.fd ["sources", "wanted", "held", "test"] sp_are_sources := by
  refine okG T.are_sources.F sc_are_sources (fun vs H Q E h => ?_) (fun cdv A outer s H vs Q E gd hr h => ?_)
  · obtain ⟨p, v, d, wn, h', t, rfl, _⟩ := h
    rfl
  · obtain ⟨p, v, d, wn, h', t, rfl, hv, sm, q1, q2⟩ := h
    refine ⟨_, 
      (pss_cons (ps_if (PW.pt (pw_or (pt_not (pt_val (pe_callB (call_isL kit_tup) (by rfl) T.m_isinstance (by decide +kernel) (pa_cons (pv 0) (pa_cons (pe_bltn (v := .ty "tuple") (by rfl) T.m_tuple (by decide +kernel) (show RelV (.ty "tuple") (.type "tuple") from rfl)) pa_nil))))) (pw_or1 (pt_cmpR op_ne (pe_callB call_len_seq (by rfl) T.m_len PySem.boot_len (pa_cons (pv 0) pa_nil)) (pv 1) (nomark _))))) 
        (pss_one (ps_ret pe_bl)) -- return False
         pss_nil) -- if not isinstance(sources, tuple) or len(sources) != wanted:
      (pss_cons (ps_for PassesOwn.never rfl (pi_tup (pv 0)) (pg_name (i := 4) sc_are_sources.nd rfl (.inl rfl)) 
        (pss_one (ps_if (pt_not (pt_val (pe_callG (G_is_source T) gd (hr.mono (by decide)) rfl T.is_source.g T.is_source.F.kp T.is_source.b .nil pass0 (pa_cons (pv 4) (pa_cons (pv 2) (pa_cons (pv 3) pa_nil)))))) 
          (pss_one (ps_ret pe_bl)) -- return False
           pss_nil)) -- if not is_source(source, held, test):
        ) -- for source in sources:
      (pss_one (ps_ret (pe_cmpR op_eq (pe_lenSetM rfl (by rfl) T.m_len (by rfl) T.m_set (pv 0)) (pe_callB call_len_seq (by rfl) T.m_len PySem.boot_len (pa_cons (pv 0) pa_nil)) (nomark _)))) -- return len(set(sources)) == len(sources)
      )) , ?_⟩
    refine ⟨v, rfl, p, v, d, rfl, hv, _, rfl, ?_⟩
    cases hb : isTupD d with
    | false =>
      refine q2 ?_
      rintro ⟨ks, e⟩
      rw [e.d] at hb
      cases hb
    | true =>
      cases hv with
      | @tup a xs ds na ha hs =>
        have lx := hs.length
        refine ⟨.ref a, rfl, a, xs, rfl, .inr (SqT.of ha), .int wn, rfl, rfl, _, rfl, ?_⟩
        by_cases hw : (xs.length : Int) = wn
        · subst hw
          refine iteNS rfl ?_
          refine ⟨.ref a, rfl, a, rfl, ⟨_, SqT.of ha⟩, ?_⟩
          refine for_tup (K := K) (a := a) (xs := xs) (fun i σ H' => ∃ y, σ = [some (.ref a), some (.int (xs.length : Int)), some (.int h'), some (kV t), y] ∧ H' = H ∧ ∀ e ∈ ds.take i, isSrc e h' t = true) ?_ ?_ ?_ ?_
          · exact ⟨none, rfl, rfl, fun e he => by cases he⟩
          · rintro i σ H' hi ⟨y, rfl, rfl, _⟩
            exact SqT.of ha
          · rintro i x σ H' hi ⟨y, rfl, rfl, all⟩
            obtain ⟨e, he, hx⟩ := hs.get hi
            refine ⟨x, rfl, .int h', rfl, kV t, rfl, p, x, e, h', t, rfl, hx, _, rfl, ?_⟩
            cases hb2 : isSrc e h' t with
            | false =>
              refine iteT (q2 ?_)
              rintro ⟨ks, z⟩
              have z1 := PyData.tuple.inj z.d
              rw [z1, List.getElem?_map] at he
              obtain ⟨k, hk, rfl⟩ := Option.map_eq_some_iff.mp he
              rw [z.all k (List.mem_of_getElem? hk)] at hb2
              cases hb2
            | true =>
              refine iteF ⟨_, rfl, rfl, fun e' he' => ?_⟩
              rw [List.take_add_one, he] at he'
              rcases List.mem_append.mp he' with z | z
              · exact all e' z
              · have : e' = e := by simpa using z
                rw [this]
                exact hb2
          · rintro σ H' ⟨y, rfl, rfl, all⟩
            rw [lx, List.take_length] at all
            obtain ⟨ks, rfl, rfl⟩ := srcs_of hs all
            have sl := sm _ rfl (by rw [← lx])
            rw [List.length_map] at sl
            refine ⟨.ref a, rfl, a, ks, rfl, ha, sl, .ref a, rfl, a, _, rfl, .inr (SqT.of ha), rfl, ?_⟩
            rw [List.length_map]
            obtain ⟨u1, u2, u3, u4⟩ := uniqK_len _ ks rfl
            by_cases hn : ks.Nodup
            · rw [u3 hn, decide_eq_true rfl]
              refine q1 ⟨ks, rfl, by rw [List.length_map], fun k hk => all _ (List.mem_map.mpr ⟨k, hk, rfl⟩), hn⟩
            · have ne : ¬ (V.int ((uniqK ks).length : Nat) = V.int (ks.length : Nat)) := fun z => hn (u4 (by have := V.int.inj z; omega))
              rw [decide_eq_false ne]
              refine q2 ?_
              rintro ⟨ks', z⟩
              have := map_kD_inj (PyData.tuple.inj z.d)
              exact hn (this ▸ z.nd)
        · have ne : (V.int ((xs.length : Nat) : Int)) ≠ V.int wn := fun z => hw (V.int.inj z)
          rw [decide_eq_false ne]
          refine iteT (q2 ?_)
          rintro ⟨ks, z⟩
          have z1 := PyData.tuple.inj z.d
          have z2 := z.len
          rw [z1, List.length_map] at lx
          exact hw (by omega)
      | _ => cases hb
end

section
variable {P : Program} {w : World} {K : PySem.W.Frag} {mg : Str → Option Value} {base : Heap}
abbrev N_Watcher_require_word : List Str := ["self", "word"]
theorem sc_Watcher_require_word : FnScope N_Watcher_require_word ["self", "word"] (defScope s_Watcher_require_word) := ⟨rfl, rfl, rfl, by decide +kernel, rfl, by decide +kernel, by decide +kernel⟩
theorem G_Watcher_require_word (T : Tx K mg) : FnG P w K mg base (L2.CX P w) 3 T.Watcher_require_word.f T.Watcher_require_word.fd ["self", "word"] (sp_require_word T.Watcher.C T.NotAWord.C) := by
  refine okGX T.Watcher_require_word.F sc_Watcher_require_word (fun vs H Q E h => ?_) (fun cdv A outer s H vs Q E gd hr h => ?_)
  · obtain ⟨x, lv, lh, d, n, vs, hs, R, p, v, dd, rfl, _⟩ := h
    rfl
  · obtain ⟨x, lv, lh, d, n, vs, hs, R, p, v, dd, rfl, hW, hv, q1, q2⟩ := h
    refine ⟨_, 
      (pss_one (ps_if (pt_not (pt_val (pe_callG (G_is_between T) gd (hr.mono (by decide)) rfl T.is_between.g T.is_between.F.kp T.is_between.b .nil pass0 (pa_cons (pv 1) (pa_cons pe_int (pa_cons (pe_op op_sub (pe_fld (pv 0) rfl) pe_int) pa_nil)))))) 
        (pss_one (L2.ps_raiseE (W := fun cls d _ H => E cls d H) rfl T.NotAWord.e (show Room 1 _ from hr.mono (by decide)) (takes_of rfl rfl rfl rfl) (by exact (pa_cons (pv 1) pa_nil)))) -- raise NotAWord(word)
         pss_nil)) -- if not is_between(word, 0, self.words - 1):
       , ?_⟩
    obtain ⟨dx, hx⟩ := hW.ins
    refine ⟨v, rfl, .ref x, rfl, x, T.Watcher.C, dx, _, .int n, rfl, hx, T.Watcher.cl, T.W.n1, rfl, n, 1, rfl, rfl, p, v, dd, 0, _, rfl, hv, _, rfl, ?_⟩
    cases hb : btw dd 0 (n - 1) with
    | false => exact ⟨v, rfl, v, rfl, fun e he => q2 hb e he⟩
    | true => exact q1 hb
end

section
variable {P : Program} {w : World} {K : PySem.W.Frag} {mg : Str → Option Value} {base : Heap}
abbrev N_Watcher_set_verdict : List Str := ["self", "state", "verdict"]
theorem sc_Watcher_set_verdict : FnScope N_Watcher_set_verdict ["self", "state", "verdict"] (defScope s_Watcher_set_verdict) := ⟨rfl, rfl, rfl, by decide +kernel, rfl, by decide +kernel, by decide +kernel⟩
theorem G_Watcher_set_verdict (T : Tx K mg) : FnG P w K mg base (L2.CX P w) 4 T.Watcher_set_verdict.f T.Watcher_set_verdict.fd ["self", "state", "verdict"] (sp_set_verdict T.Watcher.C T.UnknownState.C T.NotAVerdict.C) := by
  refine okGX T.Watcher_set_verdict.F sc_Watcher_set_verdict (fun vs H Q E h => ?_) (fun cdv A outer s H vs Q E gd hr h => ?_)
  · obtain ⟨x, lv, lh, d, n, vs, hs, R, p, v1, v2, d1, d2, rfl, _⟩ := h
    rfl
  · obtain ⟨x, lv, lh, d, n, vs, hs, R, p, v1, v2, d1, d2, rfl, hW, h1, h2, q1, q2, q3⟩ := h
    refine ⟨_, 
      (pss_cons (ps_expr (pe_methG (pv 0) T.Watcher.cl T.Watcher_require_state.M (G_Watcher_require_state T) gd (hr.mono (by decide)) T.Watcher_require_state.b .nil (L2.passes_call (W := fun cls d _ H => E cls d H) (takes_of rfl rfl rfl rfl) (fun _ _ _ _ h => h)) (pa_cons (pv 1) pa_nil))) -- self.require_state(state)
      (pss_cons (ps_expr (pe_callG (G_require_verdict T) gd (hr.mono (by decide)) rfl T.require_verdict.g T.require_verdict.F.kp T.require_verdict.b .nil (L2.passes_call (W := fun cls d _ H => E cls d H) (takes_of rfl rfl rfl rfl) (fun _ _ _ _ h => h)) (pa_cons (pv 2) pa_nil))) -- require_verdict(verdict)
      (pss_one (ps_asg (pv 2) (pg_sub (pe_fld (pv 0) rfl) (pv 1) set_list))) -- self._verdicts[state] = verdict
      )) , ?_⟩
    obtain ⟨dx, hx⟩ := hW.ins
    refine ⟨.ref x, rfl, x, dx, _, rfl, hx, rfl, v1, rfl, x, lv, lh, d, n, vs, hs, R, p, v1, d1, rfl, hW, h1, fun o1 => ?_, q1⟩
    refine ⟨v2, rfl, p, v2, d2, rfl, h2, fun o2 => ?_, q2 o1⟩
    obtain ⟨s, rfl, s0, s1⟩ := btw_int o1
    obtain ⟨v, rfl, v0, v3⟩ := btw_int o2
    cases h1
    cases h2
    obtain ⟨j, rfl⟩ : ∃ j : Nat, s = j := ⟨s.toNat, by omega⟩
    have hj : j < vs.length := by omega
    have hv := hW.ver
    refine ⟨.int v, rfl, .ref x, rfl, x, T.Watcher.C, dx, _, .ref lv, rfl, hx, T.Watcher.cl, T.W.n2, rfl, .int (j : Int), rfl, lv, _, (j : Int), j, rfl, rfl, hv, ixN_at (by rw [List.length_map]; exact hj), ?_⟩
    have tp : Tups H (upd H lv (.lst ((vs.map V.int).set j (.int v)))) := Tups.lst hv
    obtain ⟨kvs, hd, hkv⟩ := hW.rul
    refine q3 (j : Int) v rfl rfl s0 (by omega) v0 v3 _ (fun c o e n1 => by rw [upd_ne n1]; exact e) { ins := ⟨dx, by rw [upd_ne (ne_of hx hv (fun z => nomatch z))]; exact hx⟩, ver := ?_, hel := by rw [upd_ne hW.ne.symm]; exact hW.hel, rul := ⟨kvs, by rw [upd_ne (ne_of hd hv (fun z => nomatch z))]; exact hd, hkv.mono tp⟩, ne := hW.ne, rk := hW.rk, nd := hW.nd, len := ⟨by rw [List.length_set]; exact hW.len.1, by rw [List.length_set]; exact hW.len.2.1, hW.len.2.2⟩ }
    rw [upd_same, Int.toNat_natCast, List.map_set]
end

section
variable {P : Program} {w : World} {K : PySem.W.Frag} {mg : Str → Option Value} {base : Heap}
abbrev N_Watcher_rule_for : List Str := ["self", "state", "word", "test"]
theorem sc_Watcher_rule_for : FnScope N_Watcher_rule_for ["self", "state", "word", "test"] (defScope s_Watcher_rule_for) := ⟨rfl, rfl, rfl, by decide +kernel, rfl, by decide +kernel, by decide +kernel⟩
theorem G_Watcher_rule_for (T : Tx K mg) : FnG P w K mg base CX0 1 T.Watcher_rule_for.f T.Watcher_rule_for.fd ["self", "state", "word", "test"] (sp_rule_for T.Watcher.C) := by
  refine okG T.Watcher_rule_for.F sc_Watcher_rule_for (fun vs H Q E h => ?_) (fun cdv A outer s H vs Q E gd hr h => ?_)
  · obtain ⟨x, lv, lh, d, n, vs, hs, R, s', w', t, rfl, _⟩ := h
    rfl
  · obtain ⟨x, lv, lh, d, n, vs, hs, R, s', w', t, rfl, hW, q1, q2⟩ := h
    refine ⟨_, 
      (pss_one (ps_ret (pe_dget1 (hu_of hr) (pe_fld (pv 0) rfl) (pe_tup (pa_cons (pv 1) (pa_cons (pv 2) (pa_cons (pv 3) pa_nil)))) ⟨by rfl, by rfl, by rfl, by rfl⟩))) -- return self._rules.get((state, word, test))
       , ?_⟩
    obtain ⟨dx, hx⟩ := hW.ins
    obtain ⟨kvs, hd, hkv⟩ := hW.rul
    refine ⟨.ref x, rfl, x, T.Watcher.C, dx, _, .ref d, rfl, hx, T.Watcher.cl, T.W.n4, rfl, d, rfl, .inr ⟨kvs, .inl hd⟩, .int s', rfl, .int w', rfl, kV t, rfl, by show 3 ≤ sizeLine; decide, fun tt nt => ?_⟩
    have sm : Same H (upd H tt (.tup [.int s', .int w', kV t])) := same_new nt
    refine ⟨_, DGet.t (k := [Sum.inl s', Sum.inl w', t]) (sm _ _ hd) upd_same, ?_⟩
    by_cases hk : [Sum.inl s', Sum.inl w', t] ∈ R.map (·.1)
    · obtain ⟨v, ev, tv⟩ := hkv.val hk
      rw [ev]
      exact q2 hk v _ sm (tv.mono (Tups.same sm))
    · have en : valV kvs [Sum.inl s', Sum.inl w', t] = none := by
        unfold valV
        rw [List.find?_eq_none.mpr]
        · rfl
        · intro y hy
          simp only [decide_eq_true_eq]
          intro e
          exact hk (e ▸ hkv.keys ▸ List.mem_map.mpr ⟨y, hy, rfl⟩)
      rw [en]
      exact q1 hk _ sm
end

section
variable {P : Program} {w : World} {K : PySem.W.Frag} {mg : Str → Option Value} {base : Heap}
abbrev N_Watcher_add_rule : List Str := ["self", "state", "word", "test", "target", "sources", "rule"]
theorem sc_Watcher_add_rule : FnScope N_Watcher_add_rule ["self", "state", "word", "test", "target", "sources"] (defScope s_Watcher_add_rule) := ⟨rfl, rfl, rfl, by decide +kernel, rfl, by decide +kernel, by decide +kernel⟩
theorem G_Watcher_add_rule (T : Tx K mg) : FnG P w K mg base (L2.CX P w) 5 T.Watcher_add_rule.f T.Watcher_add_rule.fd ["self", "state", "word", "test", "target", "sources"] (sp_add_rule T.Watcher.C ⟨T.UnknownState.C, T.NotAWord.C, T.InvalidTest.C, T.InvalidSources.C, T.RuleExists.C⟩) := by
  refine okGX T.Watcher_add_rule.F sc_Watcher_add_rule (fun vs H Q E h => ?_) (fun cdv A outer s H vs Q E gd hr h => ?_)
  · obtain ⟨x, lv, lh, d, n, vs, hs, R, p, v1, v2, v3, v4, v5, d1, d2, d3, d4, d5, rfl, _⟩ := h
    rfl
  · obtain ⟨x, lv, lh, d, n, vs, hs, R, p, v1, v2, v3, v4, v5, d1, d2, d3, d4, d5, rfl, hW, h1, h2, h3, h4, h5, n3, sm5, lR, q1, q2, q3, q4⟩ := h
    refine ⟨_, 
      (pss_cons (ps_expr (pe_methG (pv 0) T.Watcher.cl T.Watcher_require_state.M (G_Watcher_require_state T) gd (hr.mono (by decide)) T.Watcher_require_state.b .nil (L2.passes_call (W := fun cls d _ H => E cls d H) (takes_of rfl rfl rfl rfl) (fun _ _ _ _ h => h)) (pa_cons (pv 1) pa_nil))) -- self.require_state(state)
      (pss_cons (ps_expr (pe_methG (pv 0) T.Watcher.cl T.Watcher_require_state.M (G_Watcher_require_state T) gd (hr.mono (by decide)) T.Watcher_require_state.b .nil (L2.passes_call (W := fun cls d _ H => E cls d H) (takes_of rfl rfl rfl rfl) (fun _ _ _ _ h => h)) (pa_cons (pv 4) pa_nil))) -- self.require_state(target)
      (pss_cons (ps_expr (pe_methG (pv 0) T.Watcher.cl T.Watcher_require_word.M (G_Watcher_require_word T) gd (hr.mono (by decide)) T.Watcher_require_word.b .nil (L2.passes_call (W := fun cls d _ H => E cls d H) (takes_of rfl rfl rfl rfl) (fun _ _ _ _ h => h)) (pa_cons (pv 2) pa_nil))) -- self.require_word(word)
      (pss_cons (ps_if (pt_not (pt_val (pe_callG (G_is_test T) gd (hr.mono (by decide)) rfl T.is_test.g T.is_test.F.kp T.is_test.b .nil pass0 (pa_cons (pv 3) (pa_cons (pe_ix ix_list (pe_fld (pv 0) rfl) (pv 1) (fun _ _ => rfl)) pa_nil))))) 
        (pss_one (L2.ps_raiseE (W := fun cls d _ H => E cls d H) rfl T.InvalidTest.e (show Room 1 _ from hr.mono (by decide)) (takes_of rfl rfl rfl rfl) (by exact (pa_cons (pv 3) pa_nil)))) -- raise InvalidTest(test)
         pss_nil) -- if not is_test(test, self._held[state]):
      (pss_cons (ps_if (pt_not (pt_val (pe_callG (G_are_sources T) gd (hr.mono (by decide)) rfl T.are_sources.g T.are_sources.F.kp T.are_sources.b .nil pass0 (pa_cons (pv 5) (pa_cons (pe_ix ix_list (pe_fld (pv 0) rfl) (pv 4) (fun _ _ => rfl)) (pa_cons (pe_ix ix_list (pe_fld (pv 0) rfl) (pv 1) (fun _ _ => rfl)) (pa_cons (pv 3) pa_nil))))))) 
        (pss_one (L2.ps_raiseE (W := fun cls d _ H => E cls d H) rfl T.InvalidSources.e (show Room 1 _ from hr.mono (by decide)) (takes_of rfl rfl rfl rfl) (by exact (pa_cons (pv 5) pa_nil)))) -- raise InvalidSources(sources)
         pss_nil) -- if not are_sources(sources, self._held[target], self._held[state], test):
      (pss_cons (ps_set (i := 6) sc_Watcher_add_rule.nd rfl (.inl rfl) (pe_tup (pa_cons (pv 1) (pa_cons (pv 2) (pa_cons (pv 3) pa_nil))))) -- rule = (state, word, test)
      (pss_cons (ps_if (pt_cmp (pc_din (hu_of hr) (pv 6) (pe_fld (pv 0) rfl))) 
        (pss_one (L2.ps_raiseE (W := fun cls d _ H => E cls d H) rfl T.RuleExists.e (show Room 1 _ from hr.mono (by decide)) (takes_of rfl rfl rfl rfl) (by exact (pa_cons (pv 6) pa_nil)))) -- raise RuleExists(rule)
         pss_nil) -- if rule in self._rules:
      (pss_one (ps_dput (hu_of hr) (pe_fld (pv 0) rfl) (pv 6) (pe_tup (pa_cons (pv 4) (pa_cons (pv 5) pa_nil))) rfl)) -- self._rules[rule] = (target, sources)
      ))))))) , ?_⟩
    obtain ⟨dx, hx⟩ := hW.ins
    have hh := hW.hel
    have cl := T.Watcher.cl
    refine ⟨.ref x, rfl, x, dx, _, rfl, hx, rfl, v1, rfl, x, lv, lh, d, n, vs, hs, R, p, v1, d1, rfl, hW, h1, fun o1 => ?_, q1⟩
    refine ⟨.ref x, rfl, x, dx, _, rfl, hx, rfl, v4, rfl, x, lv, lh, d, n, vs, hs, R, p, v4, d4, rfl, hW, h4, fun o4 => ?_, q2 o1⟩
    refine ⟨.ref x, rfl, x, dx, _, rfl, hx, rfl, v2, rfl, x, lv, lh, d, n, vs, hs, R, p, v2, d2, rfl, hW, h2, fun o2 => ?_, q3 o1 o4⟩
    obtain ⟨s', rfl, s0, s1⟩ := btw_int o1
    obtain ⟨tg, rfl, g0, g1⟩ := btw_int o4
    obtain ⟨wd, rfl, w0, w1⟩ := btw_int o2
    cases h1
    cases h2
    cases h4
    have ls := hW.len.1
    obtain ⟨q5, q6⟩ := q4 s' tg wd rfl rfl rfl s0 (by omega) g0 (by omega) w0 (by omega)
    refine ⟨v3, rfl, .ref x, rfl, x, T.Watcher.C, dx, _, .ref lh, rfl, hx, cl, T.W.n3, rfl, .int s', rfl, lh, _, s', .int (hAt hs s'), rfl, rfl, SqL.of hh, hs_at s0 (by omega), p, v3, d3, hAt hs s', rfl, h3, n3, _, rfl, ?_⟩
    cases hb : isTest d3 (hAt hs s') with
    | false => exact iteT ⟨v3, rfl, v3, rfl, fun e he => q5 hb e he⟩
    | true =>
      refine iteF ?_
      obtain ⟨t, rfl, rfl, tk⟩ := test_key' h3 hb
      obtain ⟨q7, q8⟩ := q6 t rfl rfl hb
      refine ⟨v5, rfl, .ref x, rfl, x, T.Watcher.C, dx, _, .ref lh, rfl, hx, cl, T.W.n3, rfl, .int tg, rfl, lh, _, tg, .int (hAt hs tg), rfl, rfl, SqL.of hh, hs_at g0 (by omega), .ref x, rfl, x, T.Watcher.C, dx, _, .ref lh, rfl, hx, cl, T.W.n3, rfl, .int s', rfl, lh, _, s', .int (hAt hs s'), rfl, rfl, SqL.of hh, hs_at s0 (by omega), kV t, rfl, p, v5, d5, hAt hs tg, hAt hs s', t, rfl, h5, sm5 tg, fun ok => ?_, fun bad => ?_⟩
      · refine ⟨_, rfl, iteF ?_⟩
        obtain ⟨ks, ok⟩ := ok
        obtain ⟨q9, q10⟩ := q8 ks ok
        obtain ⟨kvs, hd, hkv⟩ := hW.rul
        have ek := hkv.keys
        refine ⟨.int s', rfl, .int wd, rfl, kV t, rfl, by show 3 ≤ sizeLine; decide, fun TT nT => ?_⟩
        have sT : Same H (upd H TT (.tup [.int s', .int wd, kV t])) := same_new nT
        have hT : upd H TT (.tup [.int s', .int wd, kV t]) TT = some (.tup (([Sum.inl s', Sum.inl wd, t] : List Key).map kV)) := upd_same
        have g := DGet.t (k := [Sum.inl s', Sum.inl wd, t]) (sT _ _ hd) hT
        refine ⟨.ref TT, rfl, .ref x, rfl, x, T.Watcher.C, dx, _, .ref d, rfl, sT _ _ hx, cl, T.W.n4, rfl, d, _, rfl, g, _, rfl, ?_⟩
        by_cases hk : [Sum.inl s', Sum.inl wd, t] ∈ R.map (·.1)
        · obtain ⟨v, ev, _⟩ := hkv.val hk
          rw [ev]
          exact iteT ⟨.ref TT, rfl, .ref TT, rfl, fun e he => q9 hk TT nT e he⟩
        · have en : valV kvs [Sum.inl s', Sum.inl wd, t] = none := by
            unfold valV
            rw [List.find?_eq_none.mpr]
            · rfl
            · intro y hy
              simp only [decide_eq_true_eq]
              intro e
              exact hk (e ▸ ek ▸ List.mem_map.mpr ⟨y, hy, rfl⟩)
          rw [en]
          refine iteF ?_
          refine ⟨.int tg, rfl, v5, rfl, by show 2 ≤ sizeLine; decide, fun U nU => ?_⟩
          have sU : Same (upd H TT (.tup [.int s', .int wd, kV t])) (upd (upd H TT (.tup [.int s', .int wd, kV t])) U (.tup [.int tg, v5])) := same_new nU
          have hU : upd (upd H TT (.tup [.int s', .int wd, kV t])) U (.tup [.int tg, v5]) U = some (.tup [.int tg, v5]) := upd_same
          have hT2 := sU _ _ hT
          have s2 := sT.trans sU
          generalize upd (upd H TT (.tup [.int s', .int wd, kV t])) U (.tup [.int tg, v5]) = H2 at s2 hU hT2
          have hd2 := s2 _ _ hd
          have lk : kvs.length < 1000 := by
            have := Paired.length hkv
            omega
          refine ⟨.ref x, rfl, x, T.Watcher.C, dx, _, .ref d, rfl, s2 _ _ hx, cl, T.W.n4, rfl, .ref TT, rfl, d, _, rfl, DPut.t (k := [Sum.inl s', Sum.inl wd, t]) hd2 hT2 (small1000 (Nat.le_of_lt lk)), ?_⟩
          have tp : Tups H2 (upd H2 d (.dT (putK kvs [Sum.inl s', Sum.inl wd, t] (.ref U)))) := Tups.put hd2 (fun _ z => by cases z)
          have hW2 := hW.mono s2
          have vd : lv ≠ d := ne_of hW2.ver hd2 (fun z => nomatch z)
          have hd' : lh ≠ d := ne_of hW2.hel hd2 (fun z => nomatch z)
          have xd : x ≠ d := ne_of (s2 _ _ hx) hd2 (fun z => nomatch z)
          refine q10 hk _ (fun c o e nc => ?_) { ins := ⟨dx, ?_⟩, ver := ?_, hel := ?_, rul := ⟨_, upd_same, ?_⟩, ne := hW.ne, rk := ?_, nd := ?_, len := ⟨hW.len.1, hW.len.2.1, by rw [List.length_append]; show R.length + 1 ≤ 1000; omega⟩ }
          · rw [upd_ne nc]
            exact s2 _ _ e
          · rw [upd_ne xd]
            exact s2 _ _ hx
          · rw [upd_ne vd]
            exact hW2.ver
          · rw [upd_ne hd']
            exact hW2.hel
          · have en2 := putK_new (V.ref U) en
            rw [en2] at tp ⊢
            refine Paired.snoc (KvD.mono tp (KvD.mono (Tups.same s2) hkv)) ⟨rfl, ?_⟩
            have h5' := h5
            rw [ok.d] at h5'
            obtain ⟨a5, xs5, rfl, _, ha5, hs5⟩ := h5'.isTup
            obtain ⟨ks', e1, e2⟩ := srcs_of hs5 (h := hAt hs s') (t := t) (fun e he => by obtain ⟨k, hk, rfl⟩ := List.mem_map.mp he; exact ok.all k hk)
            rw [← map_kD_inj e1] at e2
            subst e2
            exact .tup (tp _ _ hU) (.cons (.int tg) (.cons (.tup (tp _ _ (s2 _ _ ha5)) TDs.keys) .nil))
          · intro k hk2
            rw [List.map_append] at hk2
            rcases List.mem_append.mp hk2 with z | z
            · exact hW.rk k z
            · simp at z
              subst z
              exact ⟨s', wd, t, rfl, tk⟩
          · rw [List.map_append]
            refine List.nodup_append.mpr ⟨hW.nd, by simp, ?_⟩
            intro a ha b hb2
            simp at hb2
            subst hb2
            rintro rfl
            exact hk ha
      · exact ⟨_, rfl, iteT ⟨v5, rfl, v5, rfl, fun e he => q7 bad e he⟩⟩
end

/-! ### watchers are built from plans -/
theorem WAt.off {C : Addr} {H : Hp} {x lv lh d a : Addr} {n : Int} {vs hs : List Int} {R : Rows} {o u : HO} (h : WAt C H x lv lh d n vs hs R) (ha : H a = some u) (hu : ∀ xs, u ≠ .tup xs) (n1 : a ≠ x) (n2 : a ≠ lv) (n3 : a ≠ lh) (n4 : a ≠ d) : WAt C (upd H a o) x lv lh d n vs hs R := by
  have tp : Tups H (upd H a o) := Tups.put ha hu
  obtain ⟨⟨dx, b⟩, e, f, ⟨kvs, g, i⟩, ne, j, k, len⟩ := h
  exact ⟨⟨dx, by rw [upd_ne n1.symm]; exact b⟩, by rw [upd_ne n2.symm]; exact e, by rw [upd_ne n3.symm]; exact f, ⟨kvs, by rw [upd_ne n4.symm]; exact g, i.mono tp⟩, ne, j, k, len⟩
theorem TDs.unkeys {H : Hp} : ∀ {xs : List V} {ks : List Key}, TDs H xs (ks.map kD) → xs = ks.map kV
  | _, [], h => by cases h; rfl
  | _, .inl n :: ks, h => by
    cases h with
    | cons a r =>
      cases a
      rw [r.unkeys]
      rfl
  | _, .inr s :: ks, h => by
    cases h with
    | cons a r =>
      cases a
      rw [r.unkeys]
      rfl
theorem lds_keys {p : Addr} {H : Hp} : ∀ ks : List Key, LDs p H (ks.map kV) (ks.map kD)
  | [] => .nil
  | k :: r => .cons (ldK k) (lds_keys r)
theorem val_nodup {kvs : List (List Key × V)} (nd : (kvs.map (·.1)).Nodup) {i : Nat} {k : List Key} {v : V} (h : kvs[i]? = some (k, v)) : valV kvs k = some v := by
  induction kvs generalizing i with
  | nil => simp at h
  | cons p r ih =>
    cases i with
    | zero =>
      have : p = (k, v) := by simpa using h
      subst this
      exact valV_pos rfl
    | succ i =>
      have h' : r[i]? = some (k, v) := by simpa using h
      have nd' := List.nodup_cons.mp nd
      rw [valV_neg, ih nd'.2 h']
      rintro rfl
      exact nd'.1 (List.mem_map.mpr ⟨_, List.mem_of_getElem? h', rfl⟩)
theorem TD.rule {H : Hp} {v : V} {r : Int × List Key} (h : TD H v (ruleD r)) : ∃ a b, v = .ref a ∧ H a = some (.tup [.int r.1, .ref b]) ∧ H b = some (.tup (r.2.map kV)) := by
  obtain ⟨a, xs, rfl, e, t⟩ := h.isTup
  cases t with
  | cons h1 t =>
    cases h1
    cases t with
    | cons h2 t =>
      cases t
      obtain ⟨b, ys, rfl, e2, t2⟩ := h2.isTup
      rw [t2.unkeys] at e2
      exact ⟨a, b, rfl, e, e2⟩
theorem srcOk_are {h m : Int} {t : Key} {ks : List Key} (s : SrcOk h t m ks) : AreSrc (.tuple (ks.map kD)) m h t ks := by
  refine ⟨rfl, s.len, fun k hk => ?_, s.nd⟩
  rcases s.all k hk with ⟨n, rfl, n0, n1⟩ | ⟨rfl, rfl⟩
  · unfold isSrc
    rw [if_neg (by exact Bool.false_ne_true)]
    exact btw_true n0 (by omega)
  · rfl
theorem testOk_is {h : Int} {t : Key} (s : TestOk h t) : isTest (kD t) h = true := by
  rcases s with ⟨n, rfl, n0, n1⟩ | rfl
  · show (false || btw (.int n) 0 (h - 1)) = true
    rw [btw_true n0 (by omega)]
    rfl
  · rfl
theorem smallT_keys {ks : List Key} {i : Int} (h : ks.length ≤ 50) : SmallT (.tuple (ks.map kD)) i := fun ds e _ => by
  cases e
  rw [List.length_map]
  exact h
theorem hAt_held (ks : List (Int × Int)) (i : Int) : hAt (ks.map (·.2)) i = heldAt ks i := by
  unfold hAt heldAt
  rw [List.getElem?_map]
  cases ks[i.toNat]? <;> rfl
theorem held_bd {ks : List (Int × Int)} (h : KindsOk ks) {i : Int} (h0 : 0 ≤ i) (h1 : i < ks.length) : 0 ≤ heldAt ks i ∧ heldAt ks i ≤ 3 := by
  have hj : i.toNat < ks.length := by omega
  unfold heldAt
  rw [List.getElem?_eq_getElem hj]
  have := h.all ks[i.toNat] (List.getElem_mem hj)
  exact ⟨this.2.2.1, this.2.2.2⟩
structure Fr (H H' : Hp) (x lv lh d : Addr) : Prop where
  sm : Same H H'
  x : H x = none
  v : H lv = none
  h : H lh = none
  d : H d = none

/-! ### taking rules away -/
def mayBe (d1 d2 d3 : PyData) : Bool := isI d1 && (isI d2 && (isStrD d3 "new" || isI d3))
def sp_may_be_rule : Sp := fun us H Q _ => ∃ (a : Addr) (p : Addr) (v1 v2 v3 : V) (d1 d2 d3 : PyData), us = [.ref a] ∧ H a = some (.tup [v1, v2, v3]) ∧ LD p H v1 d1 ∧ LD p H v2 d2 ∧ LD p H v3 d3 ∧ Q (.bl (mayBe d1 d2 d3)) H
def dropR (R : Rows) (k : List Key) : Rows := R.filter fun r => decide (r.1 ≠ k)
theorem kvd_drop {H : Hp} {k : List Key} : ∀ {kvs : List (List Key × V)} {R : Rows}, KvD H kvs R → KvD H (dropK kvs k) (dropR R k)
  | _, _, .nil => .nil
  | _, _, .cons (a := a) (b := b) (l₁ := l1) (l₂ := l2) h r => by
    have ih := kvd_drop (k := k) r
    unfold dropK dropR at ih ⊢
    by_cases e : a.1 = k
    · have e2 : b.1 = k := h.1 ▸ e
      rw [List.filter_cons_of_neg (by simp [e]), List.filter_cons_of_neg (by simp [e2])]
      exact ih
    · have e2 : ¬ b.1 = k := h.1 ▸ e
      rw [List.filter_cons_of_pos (by simp [e]), List.filter_cons_of_pos (by simp [e2])]
      exact .cons h ih
theorem dropR_keys (R : Rows) (k : List Key) : (dropR R k).map (·.1) = (R.map (·.1)).filter fun x => decide (x ≠ k) := by
  unfold dropR
  rw [List.filter_map]
  rfl
def sp_remove_rule (C CX : Addr) : Sp := fun us H Q E => ∃ (x lv lh d : Addr) (n : Int) (vs hs : List Int) (R : Rows) (p : Addr) (v1 v2 v3 : V) (d1 d2 d3 : PyData), us = [.ref x, v1, v2, v3] ∧ WAt C H x lv lh d n vs hs R ∧ LD p H v1 d1 ∧ LD p H v2 d2 ∧ LD p H v3 d3 ∧
  (mayBe d1 d2 d3 = false → ∀ T, H T = none → ∀ e, upd H T (.tup [v1, v2, v3]) e = none → E (.ref CX) (some e) (upd (upd H T (.tup [v1, v2, v3])) e (.xd [(("rule" : Str), .ref T)]))) ∧
  ∀ (s w : Int) (t : Key), v1 = .int s → v2 = .int w → v3 = kV t → mayBe d1 d2 d3 = true →
    ([Sum.inl s, Sum.inl w, t] ∉ R.map (·.1) → ∀ T, H T = none → ∀ e, upd H T (.tup [v1, v2, v3]) e = none → E (.ref CX) (some e) (upd (upd H T (.tup [v1, v2, v3])) e (.xd [(("rule" : Str), .ref T)]))) ∧
    ([Sum.inl s, Sum.inl w, t] ∈ R.map (·.1) → ∀ H', (∀ c o, H c = some o → c ≠ d → H' c = some o) → WAt C H' x lv lh d n vs hs (dropR R [Sum.inl s, Sum.inl w, t]) → Q .non H')
theorem isI_int {p : Addr} {H : Hp} {v : V} {d : PyData} (hv : LD p H v d) (h : isI d = true) : ∃ n, v = .int n ∧ d = .int n := by
  cases hv with
  | int i => exact ⟨i, rfl, rfl⟩
  | _ => cases h
section
variable {P : Program} {w : World} {K : PySem.W.Frag} {mg : Str → Option Value} {base : Heap}
theorem G_is_integer (T : Tx K mg) : FnG P w K mg base CX0 1 T.is_integer.f T.is_integer.fd ["value"] sp_is_integer := ok_is_integer T.is_integer.F T.m_isinstance T.m_int T.m_bool
abbrev N_may_be_rule : List Str := ["rule", "state", "word", "test"]
theorem sc_may_be_rule : FnScope N_may_be_rule ["rule"] (defScope s_may_be_rule) := ⟨rfl, rfl, rfl, by decide +kernel, rfl, by decide +kernel, by decide +kernel⟩
theorem G_may_be_rule (T : Tx K mg) : FnG P w K mg base CX0 2 T.may_be_rule.f T.may_be_rule.fd ["rule"] sp_may_be_rule := by
  refine okG T.may_be_rule.F sc_may_be_rule (fun vs H Q E h => ?_) (fun cdv A outer s H vs Q E gd hr h => ?_)
  · obtain ⟨a, p, v1, v2, v3, d1, d2, d3, rfl, _⟩ := h
    rfl
  · obtain ⟨a, p, v1, v2, v3, d1, d2, d3, rfl, ha, h1, h2, h3, q⟩ := h
    refine ⟨_, 
      (pss_cons (ps_asg (pv 0) (pg_tup rfl (pgs_cons (pg_name (i := 1) sc_may_be_rule.nd rfl (.inl rfl)) (pgs_cons (pg_name (i := 2) sc_may_be_rule.nd rfl (.inl rfl)) (pgs_cons (pg_name (i := 3) sc_may_be_rule.nd rfl (.inl rfl)) pgs_nil))))) -- state, word, test = rule
      (pss_one (ps_ret (pe_and (pe_callG (G_is_integer T) gd (hr.mono (by decide)) rfl T.is_integer.g T.is_integer.F.kp T.is_integer.b .nil pass0 (pa_cons (pv 1) pa_nil)) (pe_and (pe_callG (G_is_integer T) gd (hr.mono (by decide)) rfl T.is_integer.g T.is_integer.F.kp T.is_integer.b .nil pass0 (pa_cons (pv 2) pa_nil)) (pe_one (pe_or (pe_cmpR (op_eqS' hr.units) (pv 3) (pe_glob (v := .str "new") rfl T.g_NEW ⟨_, rfl⟩) (nomark _)) (pe_one (pe_callG (G_is_integer T) gd (hr.mono (by decide)) rfl T.is_integer.g T.is_integer.F.kp T.is_integer.b .nil pass0 (pa_cons (pv 3) pa_nil))))))))) -- return is_integer(state) and is_integer(word) and (test == NEW or is_integer(test))
      ) , ?_⟩
    refine ⟨.ref a, rfl, a, _, rfl, SqT.of ha, rfl, v1, [v2, v3], rfl, v2, [v3], rfl, v3, [], rfl, rfl, ?_⟩
    refine ⟨v1, rfl, p, v1, d1, rfl, h1, _, rfl, ?_⟩
    unfold mayBe at q
    cases e1 : isI d1 with
    | false =>
      rw [e1] at q
      exact iteF q
    | true =>
      rw [e1, Bool.true_and] at q
      refine iteT ⟨v2, rfl, p, v2, d2, rfl, h2, _, rfl, ?_⟩
      cases e2 : isI d2 with
      | false =>
        rw [e2] at q
        exact iteF q
      | true =>
        rw [e2, Bool.true_and] at q
        refine iteT ⟨v3, rfl, p, d3, "new", h3, rfl, _, rfl, ?_⟩
        cases e3 : isStrD d3 "new" with
        | true =>
          rw [e3] at q
          exact iteT q
        | false =>
          rw [e3] at q
          exact iteF ⟨v3, rfl, p, v3, d3, rfl, h3, q⟩
abbrev N_Watcher_remove_rule : List Str := ["self", "state", "word", "test", "rule"]
theorem sc_Watcher_remove_rule : FnScope N_Watcher_remove_rule ["self", "state", "word", "test"] (defScope s_Watcher_remove_rule) := ⟨rfl, rfl, rfl, by decide +kernel, rfl, by decide +kernel, by decide +kernel⟩
theorem G_Watcher_remove_rule (T : Tx K mg) : FnG P w K mg base (L2.CX P w) 3 T.Watcher_remove_rule.f T.Watcher_remove_rule.fd ["self", "state", "word", "test"] (sp_remove_rule T.Watcher.C T.UnknownRule.C) := by
  refine okGX T.Watcher_remove_rule.F sc_Watcher_remove_rule (fun vs H Q E h => ?_) (fun cdv A outer s H vs Q E gd hr h => ?_)
  · obtain ⟨x, lv, lh, d, n, vs, hs, R, p, v1, v2, v3, d1, d2, d3, rfl, _⟩ := h
    rfl
  · obtain ⟨x, lv, lh, d, n, vs, hs, R, p, v1, v2, v3, d1, d2, d3, rfl, hW, h1, h2, h3, q1, q2⟩ := h
    refine ⟨_, 
      (pss_cons (ps_set (i := 4) sc_Watcher_remove_rule.nd rfl (.inl rfl) (pe_tup (pa_cons (pv 1) (pa_cons (pv 2) (pa_cons (pv 3) pa_nil))))) -- rule = (state, word, test)
      (pss_cons (ps_if (PW.pt (pw_or (pt_not (pt_val (pe_callG (G_may_be_rule T) gd (hr.mono (by decide)) rfl T.may_be_rule.g T.may_be_rule.F.kp T.may_be_rule.b .nil pass0 (pa_cons (pv 4) pa_nil)))) (pw_or1 (pt_cmp (pc_dnotin (hu_of hr) (pv 4) (pe_fld (pv 0) rfl)))))) 
        (pss_one (L2.ps_raiseE (W := fun cls d _ H => E cls d H) rfl T.UnknownRule.e (show Room 1 _ from hr.mono (by decide)) (takes_of rfl rfl rfl rfl) (by exact (pa_cons (pv 4) pa_nil)))) -- raise UnknownRule(rule)
         pss_nil) -- if not may_be_rule(rule) or rule not in self._rules:
      (pss_one (ps_ddelT (hu_of hr) (pe_fld (pv 0) rfl) (pv 4))) -- del self._rules[rule]
      )) , ?_⟩
    obtain ⟨dx, hx⟩ := hW.ins
    have cl := T.Watcher.cl
    refine ⟨v1, rfl, v2, rfl, v3, rfl, by show 3 ≤ sizeLine; decide, fun TT nT => ?_⟩
    have sT : Same H (upd H TT (.tup [v1, v2, v3])) := same_new nT
    have hT : upd H TT (.tup [v1, v2, v3]) TT = some (.tup [v1, v2, v3]) := upd_same
    have m : ∀ {v : V} {d : PyData}, LD p H v d → LD p (upd H TT (.tup [v1, v2, v3])) v d := fun h => LD.mono (But.same sT) _ h
    refine ⟨.ref TT, rfl, TT, p, v1, v2, v3, d1, d2, d3, rfl, hT, m h1, m h2, m h3, _, rfl, ?_⟩
    cases hb : mayBe d1 d2 d3 with
    | false => exact iteT ⟨.ref TT, rfl, .ref TT, rfl, fun e he => q1 hb TT nT e he⟩
    | true =>
      refine iteF ?_
      have hb' := hb
      unfold mayBe at hb'
      rw [Bool.and_eq_true, Bool.and_eq_true] at hb'
      obtain ⟨b1, b2, b3⟩ := hb'
      obtain ⟨s', rfl, rfl⟩ := isI_int h1 b1
      obtain ⟨w', rfl, rfl⟩ := isI_int h2 b2
      obtain ⟨t, rfl⟩ : ∃ t : Key, v3 = kV t := by
        rw [Bool.or_eq_true] at b3
        rcases b3 with z | z
        · cases h3 with
          | str x => exact ⟨Sum.inr x, rfl⟩
          | _ => cases z
        · obtain ⟨i, rfl, _⟩ := isI_int h3 z
          exact ⟨Sum.inl i, rfl⟩
      obtain ⟨q3, q4⟩ := q2 s' w' t rfl rfl rfl hb
      obtain ⟨kvs, hd, hkv⟩ := hW.rul
      have hT' : upd H TT (.tup [.int s', .int w', kV t]) TT = some (.tup (([Sum.inl s', Sum.inl w', t] : List Key).map kV)) := upd_same
      have g := DGet.t (k := [Sum.inl s', Sum.inl w', t]) (sT _ _ hd) hT'
      refine ⟨.ref TT, rfl, .ref x, rfl, x, T.Watcher.C, dx, _, .ref d, rfl, sT _ _ hx, cl, T.W.n4, rfl, d, _, rfl, g, _, rfl, ?_⟩
      by_cases hk : [Sum.inl s', Sum.inl w', t] ∈ R.map (·.1)
      · obtain ⟨v, ev, _⟩ := hkv.val hk
        rw [ev]
        refine iteF ?_
        have hW2 := hW.mono sT
        generalize upd H TT (.tup [.int s', .int w', kV t]) = H2 at *
        have hd2 := sT _ _ hd
        refine ⟨.ref x, rfl, x, T.Watcher.C, dx, _, .ref d, rfl, sT _ _ hx, cl, T.W.n4, rfl, .ref TT, rfl, d, kvs, [Sum.inl s', Sum.inl w', t], TT, rfl, hd2, rfl, hT', by rw [ev]; rfl, ?_⟩
        have tp : Tups H2 (upd H2 d (.dT (dropK kvs [Sum.inl s', Sum.inl w', t]))) := Tups.put hd2 (fun _ z => by cases z)
        have vd : lv ≠ d := ne_of hW2.ver hd2 (fun z => nomatch z)
        have hd' : lh ≠ d := ne_of hW2.hel hd2 (fun z => nomatch z)
        have xd : x ≠ d := ne_of (sT _ _ hx) hd2 (fun z => nomatch z)
        refine q4 hk _ (fun c o e nc => ?_) { ins := ⟨dx, ?_⟩, ver := ?_, hel := ?_, rul := ⟨_, upd_same, KvD.mono tp (KvD.mono (Tups.same sT) (kvd_drop hkv))⟩, ne := hW.ne, rk := ?_, nd := ?_, len := ⟨hW.len.1, hW.len.2.1, Nat.le_trans (List.length_filter_le _ _) hW.len.2.2⟩ }
        · rw [upd_ne nc]
          exact sT _ _ e
        · rw [upd_ne xd]
          exact sT _ _ hx
        · rw [upd_ne vd]
          exact hW2.ver
        · rw [upd_ne hd']
          exact hW2.hel
        · intro k hk2
          rw [dropR_keys] at hk2
          exact hW.rk k (List.mem_filter.mp hk2).1
        · rw [dropR_keys]
          exact hW.nd.filter _
      · have en : valV kvs [Sum.inl s', Sum.inl w', t] = none := by
          unfold valV
          rw [List.find?_eq_none.mpr]
          · rfl
          · intro y hy
            simp only [decide_eq_true_eq]
            intro e
            exact hk (e ▸ hkv.keys ▸ List.mem_map.mpr ⟨y, hy, rfl⟩)
        rw [en]
        exact iteT ⟨.ref TT, rfl, .ref TT, rfl, fun e he => q3 hk TT nT e he⟩
end

/-! ### runs -/
def lookP (R : List PRule) (k : List Key) : Option (Int × List Key) := (R.find? fun r => decide (r.1 = k)).map (·.2)
theorem lookP_none {R : List PRule} {k : List Key} (h : lookP R k = none) : k ∉ (rowsOf R).map (·.1) := by
  rw [rowsOf_keys]
  intro z
  obtain ⟨r, hr, e⟩ := List.mem_map.mp z
  unfold lookP at h
  rw [Option.map_eq_none_iff, List.find?_eq_none] at h
  exact h r hr (decide_eq_true e)
theorem lookP_some {R : List PRule} {k : List Key} {v : Int × List Key} (h : lookP R k = some v) : (k, v) ∈ R ∧ k ∈ (rowsOf R).map (·.1) ∧ lookR (rowsOf R) k = ruleD v := by
  unfold lookP at h
  obtain ⟨r, e, rfl⟩ := Option.map_eq_some_iff.mp h
  have hk : r.1 = k := by simpa using List.find?_some e
  have hm := List.mem_of_find?_eq_some e
  subst hk
  refine ⟨hm, by rw [rowsOf_keys]; exact List.mem_map.mpr ⟨r, hm, rfl⟩, ?_⟩
  unfold lookR rowsOf
  rw [List.find?_map]
  have e2 : (R.find? ((fun p : List Key × PyData => decide (p.1 = r.1)) ∘ fun p : PRule => (p.1, ruleD p.2))) = some r := e
  rw [e2]
  rfl
def testV (held : List Int) (v : Int) : Key := if v ∈ held then Sum.inl (held.idxOf v : Nat) else Sum.inr ("new" : Str)
def srcV (held : List Int) (v : Int) : Key → Int
  | .inl n => (held[n.toNat]?).getD 0
  | .inr _ => v
def carryK (src : List Key) (held : List Int) (v : Int) : List Int := src.map (srcV held v)
def stepM (R : List PRule) (s : Int × List Int) (m : Int × Int) : Int × List Int :=
  match lookP R [Sum.inl s.1, Sum.inl m.1, testV s.2 m.2] with
  | none => s
  | some r => (r.1, carryK r.2 s.2 m.2)
def runM (R : List PRule) (s : Int × List Int) (ms : List (Int × Int)) : Int × List Int := ms.foldl (stepM R) s
def SrcIn (held : List Int) (k : Key) : Prop := (∃ n : Int, k = Sum.inl n ∧ 0 ≤ n ∧ n < held.length) ∨ k = Sum.inr ("value" : Str)
structure StOk (kinds : List (Int × Int)) (s : Int × List Int) : Prop where
  lo : 0 ≤ s.1
  hi : s.1 < kinds.length
  len : (s.2.length : Int) = heldAt kinds s.1
theorem step_in {w : Int} {kinds : List (Int × Int)} {R : List PRule} (hR : ∀ r ∈ R, RuleOk w kinds r) {s : Int × List Int} (hs : StOk kinds s) {m : Int × Int} {r : Int × List Key} (h : lookP R [Sum.inl s.1, Sum.inl m.1, testV s.2 m.2] = some r) :
    (∀ k ∈ r.2, SrcIn s.2 k) ∧ StOk kinds (r.1, carryK r.2 s.2 m.2) := by
  obtain ⟨i, j, t, e, i0, i1, j0, j1, tok, g0, g1, sok⟩ := hR _ (lookP_some h).1
  dsimp only at e tok g0 g1 sok
  have ei : i = s.1 := by
    have := (List.cons.inj e).1
    exact (Sum.inl.inj this).symm
  subst ei
  refine ⟨fun k hk => ?_, ⟨g0, g1, ?_⟩⟩
  · rcases sok.all k hk with ⟨n, rfl, n0, n1⟩ | ⟨rfl, _⟩
    · exact .inl ⟨n, rfl, n0, by rw [hs.len]; exact n1⟩
    · exact .inr rfl
  · unfold carryK
    rw [List.length_map]
    exact sok.len
theorem step_ok {w : Int} {kinds : List (Int × Int)} {R : List PRule} (hR : ∀ r ∈ R, RuleOk w kinds r) {s : Int × List Int} (hs : StOk kinds s) (m : Int × Int) : StOk kinds (stepM R s m) := by
  unfold stepM
  split
  · exact hs
  · exact (step_in hR hs (by assumption)).2
theorem run_ok {w : Int} {kinds : List (Int × Int)} {R : List PRule} (hR : ∀ r ∈ R, RuleOk w kinds r) : ∀ (ms : List (Int × Int)) {s : Int × List Int}, StOk kinds s → StOk kinds (runM R s ms)
  | [], _, h => h
  | m :: ms, _, h => run_ok hR ms (step_ok hR h m)
theorem st_zero {kinds : List (Int × Int)} (h : KindsOk kinds) : StOk kinds (0, []) := ⟨Int.le_refl 0, by have := h.len; show (0 : Int) < kinds.length; omega, by rw [h.zero]; rfl⟩
/-- a state with its held values, at v -/
def StAt (H : Hp) (v : V) (s : Int × List Int) : Prop := ∃ r a, v = .ref r ∧ H r = some (.tup [.int s.1, .ref a]) ∧ HT H a s.2
theorem StAt.mono {H H' : Hp} {v : V} {s : Int × List Int} (h : StAt H v s) (e : Same H H') : StAt H' v s := by
  obtain ⟨r, a, rfl, h1, h2⟩ := h
  exact ⟨r, a, rfl, e _ _ h1, h2.mono e⟩
def stD (s : Int × List Int) : PyData := .tuple [.int s.1, .tuple (s.2.map .int)]
theorem StAt.dp {K : PySem.W.Frag} {H : Hp} {v : V} {s : Int × List Int} (h : StAt H v s) : Dp K H v (stD s) := by
  obtain ⟨r, a, rfl, h1, h2⟩ := h
  exact .tup (SqT.of h1) (.cons (.int _) (.cons (.tup h2.sq (dp_ints _ _ _)) .nil))
def sp_carried : Sp := fun us H Q _ => ∃ (sa ha : Addr) (src : List Key) (held : List Int) (v : Int), us = [.ref sa, .ref ha, .int v] ∧ H sa = some (.tup (src.map kV)) ∧ HT H ha held ∧ (∀ k ∈ src, SrcIn held k) ∧ src.length ≤ 1000 ∧
  ∀ a H', Same H H' → H a = none → HT H' a (carryK src held v) → Q (.ref a) H'
/-- the watcher that a plan makes -/
structure WP (C : Addr) (H : Hp) (x lv lh d : Addr) (P : Plan) : Prop where
  w : WAt C H x lv lh d P.words (P.kinds.map (·.1)) (P.kinds.map (·.2)) (rowsOf P.rules)
  ok : PlanOk P
theorem WP.mono {C : Addr} {H H' : Hp} {x lv lh d : Addr} {P : Plan} (h : WP C H x lv lh d P) (e : Same H H') : WP C H' x lv lh d P := ⟨h.w.mono e, h.ok⟩
def sp_after (C : Addr) : Sp := fun us H Q _ => ∃ (x lv lh d ha : Addr) (pl : Plan) (s : Int) (held : List Int) (w v : Int), us = [.ref x, .int s, .ref ha, .int w, .int v] ∧ WP C H x lv lh d pl ∧ HT H ha held ∧ StOk pl.kinds (s, held) ∧
  ∀ u H', Same H H' → StAt H' u (stepM pl.rules (s, held) (w, v)) → Q u H'
/-- a stream of ints at t -/
def StrmAt (K : PySem.W.Frag) (H : Hp) (t : Addr) (ms : List (Int × Int)) : Prop := ∃ xs, SqT K H t xs ∧ TDs H xs (ms.map msgD)
theorem StrmAt.mono {K : PySem.W.Frag} {H H' : Hp} {t : Addr} {ms : List (Int × Int)} (h : StrmAt K H t ms) (e : Same H H') : StrmAt K H' t ms := by
  obtain ⟨xs, h1, h2⟩ := h
  refine ⟨xs, ?_, h2.mono (Tups.same e)⟩
  rcases h1 with (h1 | ⟨o, h1⟩) | h1
  · exact .inl (.inl (e _ _ h1))
  · exact .inl (.inr ⟨o, e _ _ h1⟩)
  · exact .inr h1
def sp_run_from (K : PySem.W.Frag) (C : Addr) : Sp := fun us H Q _ => ∃ (x lv lh d ha t : Addr) (pl : Plan) (s : Int) (held : List Int) (ms : List (Int × Int)), us = [.ref x, .int s, .ref ha, .ref t] ∧ WP C H x lv lh d pl ∧ HT H ha held ∧ StOk pl.kinds (s, held) ∧ StrmAt K H t ms ∧
  ∀ u H', Same H H' → StAt H' u (runM pl.rules (s, held) ms) → Q u H'
def sp_run (K : PySem.W.Frag) (C : Addr) : Sp := fun us H Q _ => ∃ (x lv lh d t : Addr) (pl : Plan) (ms : List (Int × Int)), us = [.ref x, .ref t] ∧ WP C H x lv lh d pl ∧ StrmAt K H t ms ∧ ∀ u H', Same H H' → StAt H' u (runM pl.rules (0, []) ms) → Q u H'
def verdictM (pl : Plan) (ms : List (Int × Int)) : Int := ((pl.kinds[(runM pl.rules (0, []) ms).1.toNat]?).getD (0, 0)).1
def sp_verdict_of (K : PySem.W.Frag) (C : Addr) : Sp := fun us H Q _ => ∃ (x lv lh d t : Addr) (pl : Plan) (ms : List (Int × Int)), us = [.ref x, .ref t] ∧ WP C H x lv lh d pl ∧ StrmAt K H t ms ∧ ∀ H', Same H H' → Q (.int (verdictM pl ms)) H'
theorem idx_first {held : List Int} {v : Int} (h : v ∈ held) : held[held.idxOf v]? = some v ∧ ∀ m, m < held.idxOf v → held[m]? ≠ some v := by
  induction held with
  | nil => cases h
  | cons x r ih =>
    by_cases e : x = v
    · subst e
      rw [List.idxOf_cons_self]
      exact ⟨rfl, fun m hm => absurd hm (Nat.not_lt_zero _)⟩
    · have hr : v ∈ r := by
        rcases List.mem_cons.mp h with z | z
        · exact absurd z.symm e
        · exact z
      obtain ⟨a, b⟩ := ih hr
      have e2 : (x :: r).idxOf v = r.idxOf v + 1 := by rw [List.idxOf_cons, beq_eq_false_iff_ne.mpr e]; rfl
      rw [e2]
      refine ⟨by simpa using a, fun m hm => ?_⟩
      cases m with
      | zero => simpa using e
      | succ m => simpa using b m (by omega)
section
variable {P : Program} {w : World} {K : PySem.W.Frag} {mg : Str → Option Value} {base : Heap}
abbrev N_carried : List Str := ["sources", "held", "value", "source"]
theorem sc_carried : FnScope N_carried ["sources", "held", "value"] (defScope s_carried) := ⟨rfl, rfl, rfl, by decide +kernel, rfl, by decide +kernel, by decide +kernel⟩
theorem G_carried (T : Tx K mg) : FnG P w K mg base CX0 1 T.carried.f T.carried.fd ["sources", "held", "value"] sp_carried := by
  refine okG T.carried.F sc_carried (fun vs H Q E h => ?_) (fun cdv A outer s H vs Q E gd hr h => ?_)
  · obtain ⟨sa, ha, src, held, v, rfl, _⟩ := h
    rfl
  · obtain ⟨sa, ha, src, held, v, rfl, hs, hh, hin, ls, q⟩ := h
    refine ⟨_, 
      (pss_one (ps_ret (pe_callTy call_tupleF (by rfl) T.m_tuple (by decide +kernel) (pa_cons (pe_lc (own := [("source", 3)]) (g := gName 3) rfl sc_carried.nd (pi_tup (pv 0)) (blkOk_by (N := N_carried) (sc := defScope s_carried) (by decide +kernel)) (fun _ _ _ _ _ => (pg_name (i := 3) sc_carried.nd rfl (.inl rfl))) (fun _ _ _ _ _ => pts_nil) (fun _ _ _ _ _ => (pe_ifExp (pt_cmpR (op_eqS hr.units) (pv 3) (pe_glob (v := .str "value") rfl T.g_VALUE ⟨_, rfl⟩) (nomark _)) (pv 2) (pe_ix (r := rIxT K) ix_tup (pv 1) (pv 3) (fun _ _ => rfl))))) pa_nil)))) -- return tuple([value if source == VALUE else held[source] for source in sources])
       , ?_⟩
    refine ⟨.ref sa, rfl, sa, rfl, ⟨_, SqT.of hs⟩, fun D nD => ?_⟩
    refine lc_tup (K := K) (a := sa) (xs := src.map kV) (fun i H' => Same H H' ∧ H' D = some (.lst ((carryK (src.take i) held v).map V.int))) ?_ ?_ ?_ ?_
    · exact ⟨same_new nD, upd_same⟩
    · rintro i H' hi ⟨sm, hD⟩
      exact SqT.of (sm _ _ hs)
    · rintro i x H' hi ⟨sm, hD⟩
      rw [List.getElem?_map] at hi
      obtain ⟨k, ek, rfl⟩ := Option.map_eq_some_iff.mp hi
      have kin := hin k (List.mem_of_getElem? ek)
      have fin : ∀ y : Int, y = srcV held v k → (∃ acc, H' D = some (.lst acc) ∧ acc.length < sizeLine ∧ (Same H (upd H' D (.lst (acc ++ [V.int y]))) ∧ (upd H' D (.lst (acc ++ [V.int y]))) D = some (.lst ((carryK (src.take (i + 1)) held v).map V.int)))) := fun y hy => by
        refine ⟨_, hD, ?_, fun b o e => ?_, ?_⟩
        · rw [List.length_map, carryK, List.length_map, List.length_take]
          exact small1000 (by omega)
        · have : b ≠ D := ne_of_none e nD
          rw [upd_ne this]
          exact sm _ _ e
        · rw [upd_same, List.take_add_one, ek]
          unfold carryK
          rw [List.map_append, List.map_append, hy]
          rfl
      refine ⟨rfl, kV k, rfl, sa, kD k, "value", ldK k, kD_nd k, rfl, _, rfl, ?_⟩
      rcases kin with ⟨n, rfl, n0, n1⟩ | rfl
      · refine iteF ?_
        refine ⟨.ref ha, rfl, .int n, rfl, ha, held.map V.int, n, .int (srcV held v (.inl n)), rfl, rfl, (hh.mono sm).sq, ?_, fin _ rfl⟩
        obtain ⟨j, rfl⟩ : ∃ j : Nat, n = j := ⟨n.toNat, by omega⟩
        have hj : j < held.length := by omega
        refine atI_nat ?_
        rw [List.getElem?_map, List.getElem?_eq_getElem hj]
        show _ = some (V.int ((held[((j : Nat) : Int).toNat]?).getD 0))
        rw [Int.toNat_natCast, List.getElem?_eq_getElem hj]
        rfl
      · exact iteT ⟨.int v, rfl, fin v rfl⟩
    · rintro H' ⟨sm, hD⟩
      rw [List.length_map, List.take_length] at hD
      refine ⟨D, _, rfl, SqL.of hD, fun a ob na hob => ?_⟩
      exact q a _ (sm.trans (same_new na)) (sm.free na) ⟨ob, upd_same, hob⟩
abbrev N_after_message : List Str := ["watcher", "state", "held", "word", "value", "test", "rule", "target", "sources"]
theorem sc_after_message : FnScope N_after_message ["watcher", "state", "held", "word", "value"] (defScope s_after_message) := ⟨rfl, rfl, rfl, by decide +kernel, rfl, by decide +kernel, by decide +kernel⟩
theorem G_after_message (T : Tx K mg) : FnG P w K mg base CX0 2 T.after_message.f T.after_message.fd ["watcher", "state", "held", "word", "value"] (sp_after T.Watcher.C) := by
  refine okG T.after_message.F sc_after_message (fun vs H Q E h => ?_) (fun cdv A outer s H vs Q E gd hr h => ?_)
  · obtain ⟨x, lv, lh, d, ha, pl, s', held, w', v, rfl, _⟩ := h
    rfl
  · obtain ⟨x, lv, lh, d, ha, pl, s', held, w', v, rfl, hW, hh, hs, q⟩ := h
    refine ⟨_, 
      (C8.pss_cut (ps_set (i := 5) sc_after_message.nd rfl (.inl rfl) (pe_ifExp (pt_cmpR op_in_seq (pv 4) (pv 2) rfl) (pe_bmT PySem.F.plainAttrs_tuple PySem.F.slot_tuple_index PySem.F.type_tuple_index mt_tup_indexI (pv 2) (pa_cons (pv 4) pa_nil)) (pe_glob (v := .str "new") rfl T.g_NEW ⟨_, rfl⟩))) -- test = held.index(value) if value in held else NEW
      (pss_cons (ps_set (i := 6) sc_after_message.nd rfl (.inl rfl) (pe_methG (pv 0) T.Watcher.cl T.Watcher_rule_for.M (G_Watcher_rule_for T) gd (hr.mono (by decide)) T.Watcher_rule_for.b .nil pass0 (pa_cons (pv 1) (pa_cons (pv 3) (pa_cons (pv 5) pa_nil))))) -- rule = watcher.rule_for(state, word, test)
      (pss_cons (ps_if (pt_cmp (pc_isN (pv 6))) 
        (pss_one (ps_ret (pe_tup (pa_cons (pv 1) (pa_cons (pv 2) pa_nil))))) -- return (state, held)
         pss_nil) -- if rule is None:
      (pss_cons (ps_asg (pv 6) (pg_tup rfl (pgs_cons (pg_name (i := 7) sc_after_message.nd rfl (.inl rfl)) (pgs_cons (pg_name (i := 8) sc_after_message.nd rfl (.inl rfl)) pgs_nil)))) -- target, sources = rule
      (pss_one (ps_ret (pe_tup (pa_cons (pv 7) (pa_cons (pe_callG (G_carried T) gd (hr.mono (by decide)) rfl T.carried.g T.carried.F.kp T.carried.b .nil pass0 (pa_cons (pv 8) (pa_cons (pv 2) (pa_cons (pv 4) pa_nil)))) pa_nil))))) -- return (target, carried(sources, held, value))
      )))) , ?_⟩
    refine ⟨fun σ H' => σ = [some (.ref x), some (.int s'), some (.ref ha), some (.int w'), some (.int v), some (kV (testV held v)), none, none, none] ∧ H' = H, ?_, ?_⟩
    · refine ⟨.int v, rfl, .ref ha, rfl, ha, _, rfl, .inr hh.sq, rfl, flat_ints _, _, rfl, ?_⟩
      dsimp only
      rw [if_neg Bool.false_ne_true, inV_ints]
      by_cases hv : v ∈ held
      · rw [decide_eq_true hv]
        obtain ⟨i1, i2⟩ := idx_first hv
        have e : testV held v = Sum.inl ((held.idxOf v : Nat) : Int) := by unfold testV; rw [if_pos hv]
        rw [e]
        exact iteT ⟨.ref ha, rfl, hh.ty, .int v, rfl, ha, held, v, held.idxOf v, rfl, rfl, hh.sq, i1, i2, rfl, rfl⟩
      · rw [decide_eq_false hv]
        have e : testV held v = Sum.inr ("new" : Str) := by unfold testV; rw [if_neg hv]
        rw [e]
        exact iteF ⟨rfl, rfl⟩
    rintro σ H' ⟨rfl, rfl⟩
    obtain ⟨dx, hx⟩ := hW.w.ins
    refine ⟨.ref x, rfl, x, dx, _, rfl, hx, rfl, .int s', rfl, .int w', rfl, kV (testV held v), rfl, x, lv, lh, d, pl.words, _, _, rowsOf pl.rules, s', w', testV held v, rfl, hW.w, fun nk H1 s1 => ?_, fun hk v1 H1 s1 t1 => ?_⟩
    · have e : stepM pl.rules (s', held) (w', v) = (s', held) := by
        unfold stepM
        split
        · rfl
        · rename_i r hr'
          exact absurd (lookP_some hr').2.1 nk
      refine ⟨.non, rfl, _, rfl, iteT ?_⟩
      refine ⟨.int s', rfl, .ref ha, rfl, by show 2 ≤ sizeLine; decide, fun r nr => ?_⟩
      refine q (.ref r) _ (s1.trans (same_new nr)) ?_
      rw [e]
      exact ⟨r, ha, rfl, upd_same, (hh.mono s1).mono (same_new nr)⟩
    · obtain ⟨r, er⟩ : ∃ r, lookP pl.rules [Sum.inl s', Sum.inl w', testV held v] = some r := by
        cases e : lookP pl.rules [Sum.inl s', Sum.inl w', testV held v] with
        | none => exact absurd hk (lookP_none e)
        | some r => exact ⟨r, rfl⟩
      have e : stepM pl.rules (s', held) (w', v) = (r.1, carryK r.2 held v) := by
        unfold stepM
        rw [er]
      obtain ⟨sin, _⟩ := step_in (s := (s', held)) (m := (w', v)) hW.ok.r hs er
      have lsr : r.2.length ≤ 1000 := by
        obtain ⟨i, j, t, _, i0, i1, _, _, _, g0, g1, sok⟩ := hW.ok.r _ (lookP_some er).1
        have := sok.len
        have := held_bd hW.ok.k g0 g1
        dsimp only at *
        omega
      rw [(lookP_some er).2.2] at t1
      obtain ⟨a, b, rfl, h1, h2⟩ := TD.rule t1
      refine ⟨.ref a, rfl, _, rfl, iteF ?_⟩
      refine ⟨.ref a, rfl, a, _, rfl, SqT.of h1, rfl, .int r.1, [.ref b], rfl, .ref b, [], rfl, rfl, ?_⟩
      refine ⟨.int r.1, rfl, .ref b, rfl, .ref ha, rfl, .int v, rfl, b, ha, r.2, held, v, rfl, h2, hh.mono s1, sin, lsr, fun c H2 s2 nc hc => ?_⟩
      refine ⟨by show 2 ≤ sizeLine; decide, fun u nu => ?_⟩
      refine q (.ref u) _ ((s1.trans s2).trans (same_new nu)) ?_
      rw [e]
      exact ⟨u, c, rfl, upd_same, hc.mono (same_new nu)⟩
abbrev N_run_from : List Str := ["watcher", "state", "held", "stream", "word", "value"]
theorem sc_run_from : FnScope N_run_from ["watcher", "state", "held", "stream"] (defScope s_run_from) := ⟨rfl, rfl, rfl, by decide +kernel, rfl, by decide +kernel, by decide +kernel⟩
theorem G_run_from (T : Tx K mg) : FnG P w K mg base CX0 3 T.run_from.f T.run_from.fd ["watcher", "state", "held", "stream"] (sp_run_from K T.Watcher.C) := by
  refine okG T.run_from.F sc_run_from (fun vs H Q E h => ?_) (fun cdv A outer s H vs Q E gd hr h => ?_)
  · obtain ⟨x, lv, lh, d, ha, t, pl, s', held, ms, rfl, _⟩ := h
    rfl
  · obtain ⟨x, lv, lh, d, ha, t, pl, s', held, ms, rfl, hW, hh, hs, ht, q⟩ := h
    refine ⟨_, 
      (pss_cons (ps_for PassesOwn.never rfl (pi_tup (pv 3)) (pg_tup rfl (pgs_cons (pg_name (i := 4) sc_run_from.nd rfl (.inl rfl)) (pgs_cons (pg_name (i := 5) sc_run_from.nd rfl (.inl rfl)) pgs_nil))) 
        (pss_one (ps_asg (pe_callG (G_after_message T) gd (hr.mono (by decide)) rfl T.after_message.g T.after_message.F.kp T.after_message.b .nil pass0 (pa_cons (pv 0) (pa_cons (pv 1) (pa_cons (pv 2) (pa_cons (pv 4) (pa_cons (pv 5) pa_nil)))))) (pg_tup rfl (pgs_cons (pg_name (i := 1) sc_run_from.nd rfl (.inl rfl)) (pgs_cons (pg_name (i := 2) sc_run_from.nd rfl (.inl rfl)) pgs_nil))))) -- state, held = after_message(watcher, state, held, word, value)
        ) -- for word, value in stream:
      (pss_one (ps_ret (pe_tup (pa_cons (pv 1) (pa_cons (pv 2) pa_nil))))) -- return (state, held)
      ) , ?_⟩
    obtain ⟨xs, hx1, hx2⟩ := id ht
    have lx := hx2.msgs_len
    refine ⟨.ref t, rfl, t, rfl, ⟨_, hx1⟩, ?_⟩
    refine for_tup (K := K) (a := t) (xs := xs) (fun i σ H' => ∃ y1 y2 ha', σ = [some (.ref x), some (.int (runM pl.rules (s', held) (ms.take i)).1), some (.ref ha'), some (.ref t), y1, y2] ∧ Same H H' ∧ HT H' ha' (runM pl.rules (s', held) (ms.take i)).2) ?_ ?_ ?_ ?_
    · exact ⟨none, none, ha, rfl, Same.refl H, hh⟩
    · rintro i σ H' hi ⟨y1, y2, ha', rfl, sm, hh'⟩
      rcases hx1 with (h1 | ⟨o, h1⟩) | h1
      · exact .inl (.inl (sm _ _ h1))
      · exact .inl (.inr ⟨o, sm _ _ h1⟩)
      · exact .inr h1
    · rintro i y σ H' hi ⟨y1, y2, ha', rfl, sm, hh'⟩
      obtain ⟨m, a, em, rfl, hm⟩ := hx2.msg hi
      have so := run_ok hW.ok.r (ms.take i) hs
      have et : runM pl.rules (s', held) (ms.take (i + 1)) = stepM pl.rules (runM pl.rules (s', held) (ms.take i)) m := by
        unfold runM
        rw [List.take_add_one, em, List.foldl_append]
        rfl
      refine ⟨a, [.int m.1, .int m.2], rfl, SqT.of (sm _ _ hm), rfl, .int m.1, [.int m.2], rfl, .int m.2, [], rfl, rfl, ?_⟩
      refine ⟨.ref x, rfl, .int _, rfl, .ref ha', rfl, .int m.1, rfl, .int m.2, rfl, x, lv, lh, d, ha', pl, _, _, m.1, m.2, rfl, hW.mono sm, hh', so, fun u H1 s1 hu => ?_⟩
      obtain ⟨r, b, rfl, h1, h2⟩ := hu
      refine ⟨r, _, rfl, SqT.of h1, rfl, .int _, [.ref b], rfl, .ref b, [], rfl, rfl, ?_⟩
      refine ⟨some (.int m.1), some (.int m.2), b, ?_, sm.trans s1, ?_⟩
      · rw [et]
        rfl
      · rw [et]
        exact h2
    · rintro σ H' ⟨y1, y2, ha', rfl, sm, hh'⟩
      rw [lx, List.take_length] at hh' ⊢
      refine ⟨.int _, rfl, .ref ha', rfl, by show 2 ≤ sizeLine; decide, fun r nr => ?_⟩
      exact q (.ref r) _ (sm.trans (same_new nr)) ⟨r, ha', rfl, upd_same, hh'.mono (same_new nr)⟩
abbrev N_run : List Str := ["watcher", "stream"]
theorem sc_run : FnScope N_run ["watcher", "stream"] (defScope s_run) := ⟨rfl, rfl, rfl, by decide +kernel, rfl, by decide +kernel, by decide +kernel⟩
theorem G_run (T : Tx K mg) : FnG P w K mg base CX0 4 T.run.f T.run.fd ["watcher", "stream"] (sp_run K T.Watcher.C) := by
  refine okG T.run.F sc_run (fun vs H Q E h => ?_) (fun cdv A outer s H vs Q E gd hr h => ?_)
  · obtain ⟨x, lv, lh, d, t, pl, ms, rfl, _⟩ := h
    rfl
  · obtain ⟨x, lv, lh, d, t, pl, ms, rfl, hW, ht, q⟩ := h
    refine ⟨_, 
      (pss_one (ps_ret (pe_callG (G_run_from T) gd (hr.mono (by decide)) rfl T.run_from.g T.run_from.F.kp T.run_from.b .nil pass0 (pa_cons (pv 0) (pa_cons pe_int (pa_cons (pe_tupF pa_nil) (pa_cons (pv 1) pa_nil))))))) -- return run_from(watcher, 0, (), stream)
       , ?_⟩
    refine ⟨.ref x, rfl, Nat.zero_le _, fun ha ob nh hob => ?_⟩
    have sm : Same H (upd H ha (.frz ob (.tup []))) := same_new nh
    refine ⟨.ref t, rfl, x, lv, lh, d, ha, t, pl, 0, [], ms, rfl, hW.mono sm, ⟨ob, upd_same, hob⟩, st_zero hW.ok.k, ht.mono sm, fun u H' s1 hu => q u H' (sm.trans s1) hu⟩
abbrev N_verdict_of : List Str := ["watcher", "stream", "state", "_"]
theorem sc_verdict_of : FnScope N_verdict_of ["watcher", "stream"] (defScope s_verdict_of) := ⟨rfl, rfl, rfl, by decide +kernel, rfl, by decide +kernel, by decide +kernel⟩
theorem G_Watcher_verdicts (T : Tx K mg) : FnG P w K mg base CX0 1 T.Watcher_verdicts.f T.Watcher_verdicts.fd ["self"] (sp_W_ver T.Watcher.C) := ok_Watcher_verdicts T.Watcher_verdicts.F T.W T.m_tuple
theorem G_verdict_of (T : Tx K mg) : FnG P w K mg base CX0 5 T.verdict_of.f T.verdict_of.fd ["watcher", "stream"] (sp_verdict_of K T.Watcher.C) := by
  refine okG T.verdict_of.F sc_verdict_of (fun vs H Q E h => ?_) (fun cdv A outer s H vs Q E gd hr h => ?_)
  · obtain ⟨x, lv, lh, d, t, pl, ms, rfl, _⟩ := h
    rfl
  · obtain ⟨x, lv, lh, d, t, pl, ms, rfl, hW, ht, q⟩ := h
    refine ⟨_, 
      (pss_cons (ps_asg (pe_callG (G_run T) gd (hr.mono (by decide)) rfl T.run.g T.run.F.kp T.run.b .nil pass0 (pa_cons (pv 0) (pa_cons (pv 1) pa_nil))) (pg_tup rfl (pgs_cons (pg_name (i := 2) sc_verdict_of.nd rfl (.inl rfl)) (pgs_cons (pg_name (i := 3) sc_verdict_of.nd rfl (.inl rfl)) pgs_nil)))) -- state, _ = run(watcher, stream)
      (pss_one (ps_ret (pe_ix ix_tup (pe_meth0G (pv 0) T.Watcher.cl T.Watcher_verdicts.M (G_Watcher_verdicts T) gd (hr.mono (by decide)) T.Watcher_verdicts.b .nil pass0) (pv 2) (fun _ _ => rfl)))) -- return watcher.verdicts()[state]
      ) , ?_⟩
    refine ⟨.ref x, rfl, .ref t, rfl, x, lv, lh, d, t, pl, ms, rfl, hW, ht, fun u H1 s1 hu => ?_⟩
    obtain ⟨r, b, rfl, h1, h2⟩ := hu
    refine ⟨r, _, rfl, SqT.of h1, rfl, .int _, [.ref b], rfl, .ref b, [], rfl, rfl, ?_⟩
    have hW1 := hW.mono s1
    obtain ⟨dx, hx⟩ := hW1.w.ins
    refine ⟨.ref x, rfl, x, dx, _, rfl, hx, rfl, x, lv, lh, d, _, _, _, _, rfl, hW1.w, fun t nt => ?_⟩
    have so := run_ok hW.ok.r ms (st_zero hW.ok.k)
    obtain ⟨j, ej⟩ : ∃ j : Nat, (runM pl.rules (0, []) ms).1 = j := ⟨(runM pl.rules (0, []) ms).1.toNat, by have := so.lo; omega⟩
    have hj : j < pl.kinds.length := by have := so.hi; omega
    refine ⟨.int _, rfl, t, _, _, .int (verdictM pl ms), rfl, rfl, SqT.of upd_same, ?_, q _ (s1.trans (same_new nt))⟩
    unfold verdictM
    rw [ej]
    refine atI_nat ?_
    rw [Int.toNat_natCast, List.getElem?_map, List.getElem?_map, List.getElem?_eq_getElem hj]
    rfl
end

open TL
/-! ### texts of watchers -/
abbrev nlS : Str := Str.ofString "\n"
def dgS (i : Int) : Str := Str.ofString (toString i)
def keyS : Key → Str
  | .inl n => dgS n
  | .inr s => s
def stateL (k : Int × Int) : Str := Str.ofString "state " ++ dgS k.1 ++ spS ++ dgS k.2
def wordsL (n : Int) : Str := Str.ofString "words " ++ dgS n
def ruleW (r : PRule) : List Str := Str.ofString "rule" :: (r.1.map keyS ++ dgS r.2.1 :: r.2.2.map keyS)
def ruleL (r : PRule) : Str := Txt.join spS (ruleW r)
def linesOf (n : Int) (ks : List (Int × Int)) (R : List PRule) : List Str := wordsL n :: (ks.map stateL ++ R.map ruleL)
def pageOf (ls : List Str) : Str := Txt.join Str.empty (ls.map (· ++ nlS))
theorem tl_nl : tl nlS = [10] := by decide +kernel
theorem nl_kind : nlS.cps.all (· < 256) = true := by decide +kernel
theorem joinL_nil : ∀ ps : List (List Nat), joinL [] ps = ps.flatten
  | [] => rfl
  | [x] => by simp [joinL]
  | x :: y :: r => by
    show x ++ ([] ++ joinL [] (y :: r)) = _
    rw [joinL_nil (y :: r)]
    simp
theorem joinL_end : ∀ ps : List (List Nat), joinL [10] (ps ++ [[]]) = (ps.map (· ++ [10])).flatten
  | [] => rfl
  | [x] => by
    show x ++ ([10] ++ joinL [10] [[]]) = _
    simp [joinL]
  | x :: y :: r => by
    show x ++ ([10] ++ joinL [10] ((y :: r) ++ [[]])) = _
    rw [joinL_end (y :: r)]
    simp
theorem page_join (ls : List Str) : pageOf ls = Txt.join nlS (ls ++ [Str.empty]) := by
  refine ext_tl ?_
  unfold pageOf
  rw [join_eq, join_eq, tl_join, tl_join, List.map_append, tl_nl]
  have e : tl Str.empty = [] := rfl
  rw [List.map_cons, List.map_nil, e, joinL_nil, joinL_end, List.map_map, List.map_map]
  congr 1
  refine List.map_congr_left fun x _ => ?_
  show tl (x ++ nlS) = tl x ++ [10]
  rw [tl_append, tl_nl]
theorem page_split {ls : List Str} (h : ∀ l ∈ ls, 10 ∉ tl l) : Txt.split (pageOf ls) nlS = ls ++ [Str.empty] := by
  rw [page_join]
  refine split_join tl_nl nl_kind (by simp) fun p hp => ?_
  rcases List.mem_append.mp hp with z | z
  · exact h p z
  · rw [List.mem_singleton.mp z]
    exact fun z => by cases z
theorem tl_dg {i : Int} (h0 : 0 ≤ i) (h1 : i < 10) : tl (dgS i) = [48 + i.toNat] := by
  unfold dgS
  rw [tl_int, intL_word h0 h1]
theorem digits_word (z : Str) : litF lit_DIGITS z = wordVal (tl z) := by
  have hw : wordVal (tl z) = match tl z with | [c] => if 48 ≤ c ∧ c ≤ 53 then some ((c : Int) - 48) else none | _ => none := rfl
  by_cases h : ∃ k : Nat, k < 6 ∧ tl z = [48 + k]
  · obtain ⟨k, hk, e⟩ := h
    have : z = ⟨#[48 + k]⟩ := ext_tl (by rw [e])
    subst this
    have : k = 0 ∨ k = 1 ∨ k = 2 ∨ k = 3 ∨ k = 4 ∨ k = 5 := by omega
    rcases this with rfl | rfl | rfl | rfl | rfl | rfl <;> decide +kernel
  · have e1 : litF lit_DIGITS z = none := by
      unfold litF
      rw [List.find?_eq_none.mpr]
      · rfl
      · intro p hp hz
        have hz : p.1 = z := by simpa using hz
        subst hz
        apply h
        unfold lit_DIGITS at hp
        simp only [List.mem_cons, List.not_mem_nil, or_false] at hp
        rcases hp with rfl | rfl | rfl | rfl | rfl | rfl
        · exact ⟨0, by decide, by decide +kernel⟩
        · exact ⟨1, by decide, by decide +kernel⟩
        · exact ⟨2, by decide, by decide +kernel⟩
        · exact ⟨3, by decide, by decide +kernel⟩
        · exact ⟨4, by decide, by decide +kernel⟩
        · exact ⟨5, by decide, by decide +kernel⟩
    rw [e1]
    symm
    unfold wordVal
    split
    · rename_i c e
      split
      · rename_i hc
        exact absurd ⟨c - 48, by omega, by rw [e]; congr 1; omega⟩ h
      · rfl
    · rfl
/-- what a part of a line is read as -/
def digK (z : Str) : Key := match litF lit_DIGITS z with
  | some i => .inl i
  | none => .inr z
theorem digK_dg {i : Int} (h0 : 0 ≤ i) (h1 : i ≤ 5) : digK (dgS i) = .inl i := by
  unfold digK
  rw [digits_word, tl_dg h0 (by omega)]
  unfold wordVal
  dsimp only
  rw [if_pos (by omega)]
  show Sum.inl (((48 + i.toNat : Nat) : Int) - 48) = _
  congr 1
  omega
theorem digK_new : digK (Str.ofString "new") = .inr (Str.ofString "new") := by decide +kernel
theorem digK_value : digK (Str.ofString "value") = .inr (Str.ofString "value") := by decide +kernel
theorem digK_state : digK (Str.ofString "state") = .inr (Str.ofString "state") := by decide +kernel
theorem digK_rule : digK (Str.ofString "rule") = .inr (Str.ofString "rule") := by decide +kernel
def partsOf (z : Str) : List Key := (Txt.split z spS).map digK
/-- a key of a written rule -/
def KeyOk (k : Key) : Prop := (∃ i : Int, k = .inl i ∧ 0 ≤ i ∧ i ≤ 5) ∨ k = .inr (Str.ofString "new") ∨ k = .inr (Str.ofString "value")
theorem KeyOk.dig {k : Key} (h : KeyOk k) : digK (keyS k) = k := by
  rcases h with ⟨i, rfl, h0, h1⟩ | rfl | rfl
  · exact digK_dg h0 h1
  · exact digK_new
  · exact digK_value
theorem dg_free {i : Int} (h0 : 0 ≤ i) (h1 : i < 10) {s : Nat} (hs : s < 48) : s ∉ tl (dgS i) := by
  rw [tl_dg h0 h1]
  intro z
  have := List.mem_singleton.mp z
  omega
theorem KeyOk.free {k : Key} (h : KeyOk k) {s : Nat} (hs : s = 32 ∨ s = 10) : s ∉ tl (keyS k) := by
  rcases h with ⟨i, rfl, h0, h1⟩ | rfl | rfl
  · exact dg_free h0 (by omega) (by omega)
  · rcases hs with rfl | rfl <;> decide +kernel
  · rcases hs with rfl | rfl <;> decide +kernel
def StOk2 (k : Int × Int) : Prop := 0 ≤ k.1 ∧ k.1 ≤ 3 ∧ 0 ≤ k.2 ∧ k.2 ≤ 3
theorem state_join (k : Int × Int) : stateL k = Txt.join spS [Str.ofString "state", dgS k.1, dgS k.2] := by
  refine ext_tl ?_
  unfold stateL
  rw [join_eq, tl_join]
  show _ = tl (Str.ofString "state") ++ (tl spS ++ (tl (dgS k.1) ++ (tl spS ++ tl (dgS k.2))))
  rw [tl_append, tl_append, tl_append, show tl (Str.ofString "state ") = tl (Str.ofString "state") ++ tl spS by decide +kernel]
  simp only [List.append_assoc]
theorem state_parts {k : Int × Int} (h : StOk2 k) : partsOf (stateL k) = [.inr (Str.ofString "state"), .inl k.1, .inl k.2] := by
  obtain ⟨h1, h2, h3, h4⟩ := h
  unfold partsOf
  rw [state_join, split_join tl_sp sp_kind (by simp) fun p hp => ?_]
  · show [digK _, digK _, digK _] = _
    rw [digK_state, digK_dg h1 (by omega), digK_dg h3 (by omega)]
  · simp only [List.mem_cons, List.not_mem_nil, or_false] at hp
    rcases hp with rfl | rfl | rfl
    · decide +kernel
    · exact dg_free h1 (by omega) (by omega)
    · exact dg_free h3 (by omega) (by omega)
theorem state_free {k : Int × Int} (h : StOk2 k) : 10 ∉ tl (stateL k) := by
  obtain ⟨h1, h2, h3, h4⟩ := h
  unfold stateL
  rw [tl_append, tl_append, tl_append]
  simp only [List.mem_append, not_or]
  exact ⟨⟨⟨by decide +kernel, dg_free h1 (by omega) (by omega)⟩, by decide +kernel⟩, dg_free h3 (by omega) (by omega)⟩
theorem words_free {n : Int} (h1 : 1 ≤ n) (h3 : n ≤ 3) : 10 ∉ tl (wordsL n) := by
  unfold wordsL
  rw [tl_append]
  simp only [List.mem_append, not_or]
  exact ⟨by decide +kernel, dg_free (by omega) (by omega) (by omega)⟩
theorem words_first {n : Int} (h1 : 1 ≤ n) (h3 : n ≤ 3) : litF lit_FIRST_LINES (wordsL n) = some n := by
  have : n = 1 ∨ n = 2 ∨ n = 3 := by omega
  rcases this with rfl | rfl | rfl <;> decide +kernel
/-- the parts of a written rule -/
def RuK (r : PRule) : Prop := (∀ k ∈ r.1, KeyOk k) ∧ 0 ≤ r.2.1 ∧ r.2.1 ≤ 5 ∧ ∀ k ∈ r.2.2, KeyOk k
theorem rule_parts {r : PRule} (h : RuK r) : partsOf (ruleL r) = .inr (Str.ofString "rule") :: (r.1 ++ .inl r.2.1 :: r.2.2) := by
  obtain ⟨h1, h2, h3, h4⟩ := h
  unfold partsOf ruleL
  rw [split_join tl_sp sp_kind (by unfold ruleW; simp) fun p hp => ?_]
  · unfold ruleW
    rw [List.map_cons, digK_rule, List.map_append, List.map_cons, digK_dg h2 h3, List.map_map, List.map_map]
    have e : ∀ l : List Key, (∀ k ∈ l, KeyOk k) → l.map (digK ∘ keyS) = l := fun l hl => by
      conv => rhs; rw [← List.map_id l]
      exact List.map_congr_left fun k hk => (hl k hk).dig
    rw [e _ h1, e _ h4]
  · unfold ruleW at hp
    simp only [List.mem_cons, List.mem_append, List.mem_map] at hp
    rcases hp with rfl | ⟨k, hk, rfl⟩ | rfl | ⟨k, hk, rfl⟩
    · decide +kernel
    · exact (h1 k hk).free (.inl rfl)
    · exact dg_free h2 (by omega) (by omega)
    · exact (h4 k hk).free (.inl rfl)
theorem joinL_free {s : Nat} {S : List Nat} (hS : s ∉ S) : ∀ ps : List (List Nat), (∀ p ∈ ps, s ∉ p) → s ∉ joinL S ps
  | [], _ => fun z => by cases z
  | [x], h => h x List.mem_cons_self
  | x :: y :: r, h => by
    show s ∉ x ++ (S ++ joinL S (y :: r))
    simp only [List.mem_append, not_or]
    exact ⟨h x List.mem_cons_self, hS, joinL_free hS (y :: r) fun p hp => h p (List.mem_cons_of_mem _ hp)⟩
theorem rule_free {r : PRule} (h : RuK r) : 10 ∉ tl (ruleL r) := by
  obtain ⟨h1, h2, h3, h4⟩ := h
  unfold ruleL
  rw [join_eq, tl_join]
  refine joinL_free (by decide +kernel) _ fun p hp => ?_
  obtain ⟨q, hq, rfl⟩ := List.mem_map.mp hp
  unfold ruleW at hq
  simp only [List.mem_cons, List.mem_append, List.mem_map] at hq
  rcases hq with rfl | ⟨k, hk, rfl⟩ | rfl | ⟨k, hk, rfl⟩
  · decide +kernel
  · exact (h1 k hk).free (.inr rfl)
  · exact dg_free h2 (by omega) (by omega)
  · exact (h4 k hk).free (.inr rfl)

/-! ### rules in order; lines read one after the other -/
theorem lookP_mem {R : List PRule} (nd : (R.map (·.1)).Nodup) {k : List Key} {v : Int × List Key} (h : (k, v) ∈ R) : lookP R k = some v := by
  induction R with
  | nil => cases h
  | cons p r ih =>
    unfold lookP
    have nd' := List.nodup_cons.mp nd
    rcases List.mem_cons.mp h with e | e
    · subst e
      rw [List.find?_cons_of_pos (by simp)]
      rfl
    · have : ¬ p.1 = k := fun z => nd'.1 (List.mem_map.mpr ⟨_, e, z.symm⟩)
      rw [List.find?_cons_of_neg (by simpa using this)]
      exact ih nd'.2 e
def sortP (R : List PRule) : List PRule := (srt rankK (R.map (·.1))).map fun k => (k, (lookP R k).getD (0, []))
theorem look_in {R : List PRule} (nd : (R.map (·.1)).Nodup) {k : List Key} (h : k ∈ R.map (·.1)) : ∃ v, lookP R k = some v ∧ (k, v) ∈ R ∧ lookR (rowsOf R) k = ruleD v := by
  obtain ⟨r, hr, rfl⟩ := List.mem_map.mp h
  have e := lookP_mem nd (k := r.1) (v := r.2) hr
  exact ⟨r.2, e, hr, (lookP_some e).2.2⟩
theorem sortP_keys (R : List PRule) : (sortP R).map (·.1) = srt rankK (R.map (·.1)) := by
  unfold sortP
  rw [List.map_map]
  exact List.map_id _
theorem sortP_rows {R : List PRule} (nd : (R.map (·.1)).Nodup) : rowsOf (sortP R) = sortR (rowsOf R) := by
  unfold sortP sortR rowsOf
  rw [List.map_map, List.map_map]
  have e : (List.map ((fun p : List Key × PyData => p.1) ∘ fun p : PRule => (p.1, ruleD p.2)) R) = R.map (·.1) := rfl
  rw [e]
  refine List.map_congr_left fun k hk => ?_
  obtain ⟨v, e1, _, e2⟩ := look_in nd (srt_mem.mp hk)
  show (k, ruleD ((lookP R k).getD (0, []))) = (k, lookR (rowsOf R) k)
  rw [e1, e2]
  rfl
theorem sortP_mem {R : List PRule} (nd : (R.map (·.1)).Nodup) {r : PRule} (h : r ∈ sortP R) : r ∈ R := by
  obtain ⟨k, hk, rfl⟩ := List.mem_map.mp h
  obtain ⟨v, e1, e2, _⟩ := look_in nd (srt_mem.mp hk)
  rw [e1]
  exact e2
theorem sortP_nodup {R : List PRule} (nd : (R.map (·.1)).Nodup) : ((sortP R).map (·.1)).Nodup := by
  rw [sortP_keys]
  exact srt_nodup nd
theorem sortP_len (R : List PRule) : (sortP R).length = R.length := by
  have := congrArg List.length (sortP_keys R)
  rw [List.length_map, srt_len, List.length_map] at this
  exact this
theorem ruK_of {w : Int} {ks : List (Int × Int)} {r : PRule} (hk : KindsOk ks) (hw : w ≤ 3) (h : RuleOk w ks r) : RuK r := by
  obtain ⟨i, j, t, e, i0, i1, j0, j1, ht, g0, g1, hs⟩ := h
  have l6 := hk.len.2
  have hb := (held_bd hk i0 i1).2
  refine ⟨?_, g0, by omega, fun k hk' => ?_⟩
  · rw [e]
    intro k hk'
    simp only [List.mem_cons, List.not_mem_nil, or_false] at hk'
    rcases hk' with rfl | rfl | rfl
    · exact .inl ⟨i, rfl, i0, by omega⟩
    · exact .inl ⟨j, rfl, j0, by omega⟩
    · rcases ht with ⟨n, rfl, n0, n1⟩ | rfl
      · exact .inl ⟨n, rfl, n0, by omega⟩
      · exact .inr (.inl rfl)
  · rcases hs.all k hk' with ⟨n, rfl, n0, n1⟩ | ⟨rfl, _⟩
    · exact .inl ⟨n, rfl, n0, by omega⟩
    · exact .inr (.inr rfl)
/-- how many rules there may be -/
theorem nat_nodup : ∀ (n : Nat) (l : List Nat), l.Nodup → (∀ x ∈ l, x < n) → l.length ≤ n
  | 0, [], _, _ => Nat.le_refl _
  | 0, x :: _, _, h => absurd (h x List.mem_cons_self) (Nat.not_lt_zero _)
  | n + 1, l, nd, h => by
    have e := nat_nodup n (l.erase n) (nd.erase n) (fun x hx => by
      have hx2 := (nd.mem_erase_iff).mp hx
      have := h x hx2.2
      have := hx2.1
      omega)
    have := List.length_erase (a := n) (l := l)
    split at this <;> omega
def keyN : List Key → Nat
  | [.inl i, .inl j, .inl r] => i.toNat * 12 + j.toNat * 4 + r.toNat
  | [.inl i, .inl j, .inr _] => i.toNat * 12 + j.toNat * 4 + 3
  | _ => 0
theorem rules_len {w : Int} {ks : List (Int × Int)} {R : List PRule} (hk : KindsOk ks) (hw : w ≤ 3) (h : ∀ r ∈ R, RuleOk w ks r) (nd : (R.map (·.1)).Nodup) : R.length ≤ 72 := by
  have key : ∀ r ∈ R, ∃ (i j : Int) (t : Key), r.1 = [Sum.inl i, Sum.inl j, t] ∧ 0 ≤ i ∧ i < 6 ∧ 0 ≤ j ∧ j < 3 ∧ ((∃ n : Int, t = Sum.inl n ∧ 0 ≤ n ∧ n < 3) ∨ t = Sum.inr (Str.ofString "new")) := fun r hr => by
    obtain ⟨i, j, t, e, i0, i1, j0, j1, ht, _⟩ := h r hr
    have := hk.len.2
    have hb := (held_bd hk i0 i1).2
    refine ⟨i, j, t, e, i0, by omega, j0, by omega, ?_⟩
    rcases ht with ⟨n, rfl, n0, n1⟩ | rfl
    · exact .inl ⟨n, rfl, n0, by omega⟩
    · exact .inr rfl
  have e : R.length = ((R.map (·.1)).map keyN).length := by rw [List.length_map, List.length_map]
  rw [e]
  refine nat_nodup 72 _ ?_ fun x hx => ?_
  · rw [List.map_map]
    have nd2 : R.Pairwise fun a b => a.1 ≠ b.1 := List.pairwise_map.mp nd
    refine List.pairwise_map.mpr (nd2.imp_of_mem fun {a b} ha hb ne z => ne ?_)
    obtain ⟨i, j, t, e1, i0, i1, j0, j1, ht⟩ := key a ha
    obtain ⟨i', j', t', e1', i0', i1', j0', j1', ht'⟩ := key b hb
    have z : keyN a.1 = keyN b.1 := z
    rw [e1, e1'] at z ⊢
    rcases ht with ⟨n, rfl, n0, n1⟩ | rfl <;> rcases ht' with ⟨n', rfl, n0', n1'⟩ | rfl <;> simp only [keyN] at z
    · have a1 : i = i' := by omega
      have a2 : j = j' := by omega
      have a3 : n = n' := by omega
      rw [a1, a2, a3]
    · omega
    · omega
    · have a1 : i = i' := by omega
      have a2 : j = j' := by omega
      rw [a1, a2]
  · obtain ⟨k, hk', rfl⟩ := List.mem_map.mp hx
    obtain ⟨r, hr, rfl⟩ := List.mem_map.mp hk'
    obtain ⟨i, j, t, e1, i0, i1, j0, j1, ht⟩ := key r hr
    rw [e1]
    rcases ht with ⟨n, rfl, n0, n1⟩ | rfl <;> (simp only [keyN]; omega)
abbrev kSt : Key := .inr (Str.ofString "state")
abbrev kRu : Key := .inr (Str.ofString "rule")
def StartL (P : Plan) (ps : List Key) (P' : Plan) : Prop := ∃ v : Int, ps = [kSt, .inl v, .inl 0] ∧ 0 ≤ v ∧ v ≤ 3 ∧ P' = ⟨P.words, [(v, 0)], []⟩
def StateL (P : Plan) (ps : List Key) (P' : Plan) : Prop := ∃ (p : Key) (v h : Int), ps = [p, .inl v, .inl h] ∧ P.rules = [] ∧ 0 ≤ v ∧ v ≤ 3 ∧ 0 ≤ h ∧ h ≤ 3 ∧ P.kinds.length < 6 ∧ P' = ⟨P.words, P.kinds ++ [(v, h)], P.rules⟩
def RuleL (P : Plan) (ps : List Key) (P' : Plan) : Prop := ∃ (s w : Int) (t : Key) (g : Int) (src : List Key), ps = kRu :: .inl s :: .inl w :: t :: .inl g :: src ∧ RuleOk P.words P.kinds ([.inl s, .inl w, t], g, src) ∧ [.inl s, .inl w, t] ∉ P.rules.map (·.1) ∧
  (srt rankK (P.rules.map (·.1) ++ [[.inl s, .inl w, t]])).getLast? = some [.inl s, .inl w, t] ∧ P' = ⟨P.words, P.kinds, P.rules ++ [([.inl s, .inl w, t], g, src)]⟩
def ReadL (P : Plan) (i : Nat) (ps : List Key) (P' : Plan) : Prop := (i = 1 ∧ StartL P ps P') ∨ (i ≠ 1 ∧ ps.head? = some kSt ∧ StateL P ps P') ∨ (i ≠ 1 ∧ ps.head? ≠ some kSt ∧ RuleL P ps P')
/-- what stands behind the first k lines -/
inductive RdTo (ls : List Str) : Nat → Plan → Prop
  | zero {z : Str} {n : Int} (h : ls[0]? = some z) (hn : litF lit_FIRST_LINES z = some n) : RdTo ls 1 ⟨n, [(0, 0)], []⟩
  | step {k : Nat} {z : Str} {P P' : Plan} (r : RdTo ls k P) (h : ls[k]? = some z) (l : ReadL P k (partsOf z) P') : RdTo ls (k + 1) P'
def Parsed (z : Str) (P : Plan) : Prop := ∃ ends : Nat, (Txt.split z nlS).length = ends + 1 ∧ ends ≠ 0 ∧ ends ≠ 1 ∧ RdTo (Txt.split z nlS) ends P ∧ (Txt.split z nlS)[ends]? = some Str.empty
inductive ParseErr (z : Str) : Nat → Prop
  | first {l : Str} (h : (Txt.split z nlS)[0]? = some l) (hn : litF lit_FIRST_LINES l = none) : ParseErr z 0
  | line {k ends : Nat} {P : Plan} {l : Str} (he : (Txt.split z nlS).length = ends + 1) (hk : k < ends) (r : RdTo (Txt.split z nlS) k P) (h : (Txt.split z nlS)[k]? = some l) (no : ¬ ∃ P', ReadL P k (partsOf l) P') : ParseErr z k
  | end_ {ends : Nat} {P : Plan} (he : (Txt.split z nlS).length = ends + 1) (r : RdTo (Txt.split z nlS) (max 1 ends) P) (h : ends ≤ 1 ∨ (Txt.split z nlS)[ends]? ≠ some Str.empty) : ParseErr z ends
theorem first_of {z : Str} {n : Int} (h : litF lit_FIRST_LINES z = some n) : 1 ≤ n ∧ n ≤ 3 := by
  unfold litF lit_FIRST_LINES at h
  obtain ⟨p, hp, rfl⟩ := Option.map_eq_some_iff.mp h
  have := List.mem_of_find?_eq_some hp
  simp only [List.mem_cons, List.not_mem_nil, or_false] at this
  rcases this with rfl | rfl | rfl <;> decide
theorem heldAt_app {ks : List (Int × Int)} {m : Int × Int} {i : Int} (h0 : 0 ≤ i) (h1 : i < ks.length) : heldAt (ks ++ [m]) i = heldAt ks i := by
  unfold heldAt
  rw [List.getElem?_append_left (by omega)]
theorem ok_first {n : Int} (h1 : 1 ≤ n) (h3 : n ≤ 3) {v : Int} (v0 : 0 ≤ v) (v3 : v ≤ 3) : PlanOk ⟨n, [(v, 0)], []⟩ :=
  ⟨⟨h1, h3⟩, ⟨⟨Nat.le_refl 1, (by decide : (1 : Nat) ≤ 6)⟩, rfl, fun k hk => by rw [List.mem_singleton.mp hk]; exact ⟨v0, v3, Int.le_refl 0, by show (0 : Int) ≤ 3; decide⟩⟩, (fun _ z => by cases z), List.nodup_nil, Nat.zero_le _⟩
theorem ok_read {P P' : Plan} {i : Nat} {ps : List Key} (ok : PlanOk P) (h : ReadL P i ps P') : PlanOk P' := by
  rcases h with ⟨_, v, _, v0, v3, rfl⟩ | ⟨_, _, p, v, h, _, hr, v0, v3, h0, h3, hl, rfl⟩ | ⟨_, _, s, w, t, g, src, _, hok, hn, _, rfl⟩
  · exact ok_first ok.w.1 ok.w.2 v0 v3
  · refine ⟨ok.w, kinds_push ok.k (by omega) v0 v3 h0 h3, ?_, ok.nd, ok.len⟩
    dsimp only
    rw [hr]
    exact fun _ z => by cases z
  · have hr : ∀ r ∈ P.rules ++ [([Sum.inl s, Sum.inl w, t], g, src)], RuleOk P.words P.kinds r := fun r hr => by
      rcases List.mem_append.mp hr with z | z
      · exact ok.r r z
      · rw [List.mem_singleton.mp z]
        exact hok
    have nd : ((P.rules ++ [([Sum.inl s, Sum.inl w, t], g, src)]).map (·.1)).Nodup := by
      rw [List.map_append]
      refine List.nodup_append.mpr ⟨ok.nd, by simp, fun a ha b hb => ?_⟩
      rw [List.map_cons, List.map_nil, List.mem_singleton] at hb
      subst hb
      rintro rfl
      exact hn ha
    exact ⟨ok.w, ok.k, hr, nd, Nat.le_trans (rules_len ok.k ok.w.2 hr nd) (by decide)⟩
theorem RdTo.ok {ls : List Str} {k : Nat} {P : Plan} (r : RdTo ls k P) : PlanOk P ∧ 1 ≤ k ∧ (k = 1 → P.kinds = [(0, 0)] ∧ P.rules = []) := by
  induction r with
  | zero h hn =>
    obtain ⟨a, b⟩ := first_of hn
    exact ⟨ok_first a b (Int.le_refl 0) (by decide), Nat.le_refl 1, fun _ => ⟨rfl, rfl⟩⟩
  | step r h l ih => exact ⟨ok_read ih.1 l, by omega, fun z => by have := ih.2.1; omega⟩

/-! ### lines are read -/
/-- all stands but what the watcher itself holds -/
def Kp3 (lv lh d : Addr) (H H' : Hp) : Prop := ∀ c o, H c = some o → c ≠ lv → c ≠ lh → c ≠ d → H' c = some o
theorem Kp3.refl {lv lh d : Addr} (H : Hp) : Kp3 lv lh d H H := fun _ _ e _ _ _ => e
theorem Same.kp3 {lv lh d : Addr} {H H' : Hp} (s : Same H H') : Kp3 lv lh d H H' := fun c o e _ _ _ => s c o e
theorem Kp3.after {lv lh d : Addr} {H H1 H' : Hp} (s : Same H H1) (k : Kp3 lv lh d H1 H') : Kp3 lv lh d H H' := fun c o e a b x => k c o (s c o e) a b x
/-- what comes of a line -/
def OutR (C : Addr) (Cs : List Addr) (H : Hp) (x lv lh d : Addr) (Rel : Plan → Prop) (Q : VK) (E : Value → Option Addr → Hp → Prop) : Prop :=
  (∀ P' H', Rel P' → Kp3 lv lh d H H' → WP C H' x lv lh d P' → Q (.bl true) H') ∧
  ((¬ ∃ P', Rel P') → (∀ H', Kp3 lv lh d H H' → Q (.bl false) H') ∧ ∀ cls ∈ Cs, ∀ H' e f, Kp3 lv lh d H H' → H' e = none → E (.ref cls) (some e) (upd H' e (.xd f)))
def sp_read_start (C : Addr) (Cs : List Addr) : Sp := fun us H Q E => ∃ (x lv lh d a : Addr) (pl : Plan) (ps : List Key), us = [.ref x, .ref a] ∧ WP C H x lv lh d pl ∧ H a = some (.lst (ps.map kV)) ∧ ps.length ≤ 200000 ∧ pl.kinds = [(0, 0)] ∧ pl.rules = [] ∧ OutR C Cs H x lv lh d (StartL pl ps) Q E
theorem keyV_inj {a b : Key} (h : kV a = kV b) : a = b := by
  cases a <;> cases b <;> first | (cases h; rfl) | cases h
theorem keyV_eq {a b : Key} : decide (kV a = kV b) = decide (a = b) := by
  by_cases h : a = b
  · subst h
    rw [decide_eq_true rfl, decide_eq_true rfl]
  · rw [decide_eq_false h, decide_eq_false (fun e => h (keyV_inj e))]
theorem at_keys {ps : List Key} {i : Nat} {k : Key} (h : ps[i]? = some k) : atI (ps.map kV) (i : Int) = some (kV k) := atI_nat (by rw [List.getElem?_map, h]; rfl)
theorem nk_t {k j : Key} (h : (!decide (kV k = kV j)) = true) : k ≠ j := by
  rw [keyV_eq] at h
  rintro rfl
  rw [decide_eq_true rfl] at h
  cases h
theorem nk_f {k j : Key} (h : ¬ (!decide (kV k = kV j)) = true) : k = j := by
  rw [keyV_eq] at h
  rcases Classical.em (k = j) with z | z
  · exact z
  · exact absurd (by rw [decide_eq_false z]; rfl) h
theorem len_t {xs : List V} {n : Nat} (h : (!decide (V.int (xs.length : Int) = V.int (n : Int))) = true) : xs.length ≠ n := by
  rintro rfl
  rw [decide_eq_true rfl] at h
  cases h
theorem len_f {xs : List V} {n : Nat} (h : ¬ (!decide (V.int (xs.length : Int) = V.int (n : Int))) = true) : xs.length = n := by
  rcases Classical.em (xs.length = n) with z | z
  · exact z
  · exact absurd (by rw [decide_eq_false (fun e => z (by have := V.int.inj e; omega))]; rfl) h
theorem line5 : 200000 ≤ sizeLine := by decide
theorem sortR_len (R : Rows) : (sortR R).length = R.length := by
  unfold sortR
  rw [List.length_map, srt_len, List.length_map]
section
variable {P : Program} {w : World} {K : PySem.W.Frag} {mg : Str → Option Value} {base : Heap}
theorem G_Watcher_held_counts (T : Tx K mg) : FnG P w K mg base CX0 1 T.Watcher_held_counts.f T.Watcher_held_counts.fd ["self"] (sp_W_hel T.Watcher.C) := ok_Watcher_held_counts T.Watcher_held_counts.F T.W T.m_tuple
theorem G_Watcher_len (T : Tx K mg) : FnG P w K mg base CX0 1 T.Watcher_len.f T.Watcher_len.fd ["self"] (sp_W_len T.Watcher.C) := ok_Watcher_len T.Watcher_len.F T.W T.m_len
theorem G_Watcher_rules (T : Tx K mg) : FnG P w K mg base CX0 2 T.Watcher_rules.f T.Watcher_rules.fd ["self"] (sp_W_rules T.Watcher.C) := ok_Watcher_rules T.Watcher_rules.F T.rule_order.F T.bt_rule_order T.rule_order.g ⟨_, _, _, _, _, T.part_order.F, T.bt_part_order, T.part_order.g, T.g_NEW, T.g_VALUE, T.g_MOST_HELD⟩ T.W T.m_sorted
abbrev N_read_start : List Str := ["watcher", "parts"]
theorem sc_read_start : FnScope N_read_start ["watcher", "parts"] (defScope s_read_start) := ⟨rfl, rfl, rfl, by decide +kernel, rfl, by decide +kernel, by decide +kernel⟩
theorem Gg_read_start (T : Tx K mg) {Cs : List Addr} (hC : T.NotAVerdict.C ∈ Cs) : FnG P w K mg base (L2.CX P w) 5 T.read_start.f T.read_start.fd ["watcher", "parts"] (sp_read_start T.Watcher.C Cs) := by
  refine okGX T.read_start.F sc_read_start (fun vs H Q E h => ?_) (fun cdv A outer s H vs Q E gd hr h => ?_)
  · obtain ⟨x, lv, lh, d, a, pl, ps, rfl, _⟩ := h
    rfl
  · obtain ⟨x, lv, lh, d, a, pl, ps, rfl, hW, ha, lps, hk, hrl, q1, q2⟩ := h
    have L5 := line5
    refine ⟨_, 
      (pss_cons (ps_if (PW.pt (pw_or (pt_cmpR op_ne (pe_callB call_len_seq (by rfl) T.m_len PySem.boot_len (pa_cons (pv 1) pa_nil)) pe_int (nomark _)) (pw_or (pt_cmpR op_ne (pe_ix ix_list (pv 1) pe_int (fun _ _ => rfl)) pe_str (nomark _)) (pw_or1 (pt_cmpR op_ne (pe_ix ix_list (pv 1) pe_int (fun _ _ => rfl)) pe_int (nomark _)))))) 
        (pss_one (ps_ret pe_bl)) -- return False
         pss_nil) -- if len(parts) != 3 or parts[0] != 'state' or parts[2] != 0:
      (pss_cons (ps_expr (pe_methG (pv 0) T.Watcher.cl T.Watcher_set_verdict.M (G_Watcher_set_verdict T) gd (hr.mono (by decide)) T.Watcher_set_verdict.b .nil (L2.passes_call (W := fun cls d _ H => E cls d H) (takes_of rfl rfl rfl rfl) (fun _ _ _ _ h => h)) (pa_cons pe_int (pa_cons (pe_ix ix_list (pv 1) pe_int (fun _ _ => rfl)) pa_nil)))) -- watcher.set_verdict(0, parts[1])
      (pss_one (ps_ret pe_bl)) -- return True
      )) , ?_⟩
    have bad : ∀ {b : Bool}, (b = true → ¬ ∃ P', StartL pl ps P') → b = true → Q (.bl false) H := fun h e => (q2 (h e)).1 H (Kp3.refl H)
    refine ⟨.ref a, rfl, a, _, rfl, .inl (SqL.of ha), rfl, _, rfl, ?_⟩
    refine ite2 (fun hb => bad (fun _ => ?_) rfl) (fun hb => ?_)
    · rintro ⟨P', v, rfl, _⟩
      exact len_t (n := 3) hb rfl
    have h3 := len_f (n := 3) hb
    rw [List.length_map] at h3
    obtain ⟨k0, k1, k2, rfl⟩ : ∃ k0 k1 k2, ps = [k0, k1, k2] := by
      match ps, h3 with
      | [a, b, c], _ => exact ⟨a, b, c, rfl⟩
    refine ⟨.ref a, rfl, a, _, 0, kV k0, rfl, rfl, SqL.of ha, at_keys rfl, by cases k0 <;> rfl, _, rfl, ?_⟩
    clear hb
    refine ite2 (fun hb => bad (fun _ => ?_) rfl) (fun hb => ?_)
    · rintro ⟨P', v, e, _⟩
      cases e
      exact nk_t (j := kSt) hb rfl
    have e0 : k0 = kSt := nk_f (j := kSt) hb
    subst e0
    refine ⟨.ref a, rfl, a, _, 2, kV k2, rfl, rfl, SqL.of ha, at_keys rfl, by cases k2 <;> rfl, _, rfl, ?_⟩
    clear hb
    refine ite2 (fun hb => bad (fun _ => ?_) rfl) (fun hb => ?_)
    · rintro ⟨P', v, e, _⟩
      cases e
      exact nk_t (j := .inl 0) hb rfl
    have e2 : k2 = .inl 0 := nk_f (j := .inl 0) hb
    subst e2
    obtain ⟨dx, hx⟩ := hW.w.ins
    have lks : (pl.kinds.map (·.1)).length = 1 := by rw [hk]; rfl
    refine ⟨.ref x, rfl, x, dx, _, rfl, hx, rfl, .ref a, rfl, a, _, 1, kV k1, rfl, rfl, SqL.of ha, at_keys rfl, ?_⟩
    refine ⟨x, lv, lh, d, _, _, _, _, x, .int 0, kV k1, .int 0, kD k1, rfl, hW.w, .int _, ldK k1, fun bad => ?_, fun _ bad => ?_, fun s v es ev _ _ v0 v3 H' k' hW' => ?_⟩
    · rw [lks] at bad
      cases bad
    · intro e he
      refine (q2 ?_).2 _ hC H e _ (Kp3.refl H) he
      rintro ⟨P', v, e1, v0, v3, _⟩
      cases e1
      rw [show btw (kD (.inl v)) 0 3 = true from btw_true v0 v3] at bad
      cases bad
    · cases es
      obtain rfl : k1 = .inl v := kD_inj (b := .inl v) ev
      rw [hk, hrl] at hW'
      exact q1 ⟨pl.words, [(v, 0)], []⟩ H' ⟨v, rfl, v0, v3, rfl⟩ (fun c o e a b c' => k' c o e a) ⟨hW', ok_first hW.ok.w.1 hW.ok.w.2 v0 v3⟩
def sp_read_state (C : Addr) (Cs : List Addr) : Sp := fun us H Q E => ∃ (x lv lh d a : Addr) (pl : Plan) (ps : List Key), us = [.ref x, .ref a] ∧ WP C H x lv lh d pl ∧ H a = some (.lst (ps.map kV)) ∧ ps.length ≤ 200000 ∧ OutR C Cs H x lv lh d (StateL pl ps) Q E
abbrev N_read_state : List Str := ["watcher", "parts"]
theorem sc_read_state : FnScope N_read_state ["watcher", "parts"] (defScope s_read_state) := ⟨rfl, rfl, rfl, by decide +kernel, rfl, by decide +kernel, by decide +kernel⟩
theorem Gg_read_state (T : Tx K mg) {Cs : List Addr} (hC : T.NotAVerdict.C ∈ Cs) (hC2 : T.LimitExceeded.C ∈ Cs) : FnG P w K mg base (L2.CX P w) 5 T.read_state.f T.read_state.fd ["watcher", "parts"] (sp_read_state T.Watcher.C Cs) := by
  refine okGX T.read_state.F sc_read_state (fun vs H Q E h => ?_) (fun cdv A outer s H vs Q E gd hr h => ?_)
  · obtain ⟨x, lv, lh, d, a, pl, ps, rfl, _⟩ := h
    rfl
  · obtain ⟨x, lv, lh, d, a, pl, ps, rfl, hW, ha, lps, q1, q2⟩ := h
    have L5 := line5
    refine ⟨_, 
      (pss_cons (ps_if (PW.pt (pw_or (pt_cmpR op_ne (pe_callB call_len_seq (by rfl) T.m_len PySem.boot_len (pa_cons (pv 1) pa_nil)) pe_int (nomark _)) (pw_or1 (pt_cmpR op_gt (pe_callB call_len_dT (by rfl) T.m_len PySem.boot_len (pa_cons (pe_meth0G (pv 0) T.Watcher.cl T.Watcher_rules.M (G_Watcher_rules T) gd (hr.mono (by decide)) T.Watcher_rules.b .nil pass0) pa_nil)) pe_int (nomark _))))) 
        (pss_one (ps_ret pe_bl)) -- return False
         pss_nil) -- if len(parts) != 3 or len(watcher.rules()) > 0:
      (pss_cons (ps_expr (pe_methG (pv 0) T.Watcher.cl T.Watcher_add_state.M (G_Watcher_add_state T) gd (hr.mono (by decide)) T.Watcher_add_state.b .nil (L2.passes_call (W := fun cls d _ H => E cls d H) (takes_of rfl rfl rfl rfl) (fun _ _ _ _ h => h)) (pa_cons (pe_ix ix_list (pv 1) pe_int (fun _ _ => rfl)) (pa_cons (pe_ix ix_list (pv 1) pe_int (fun _ _ => rfl)) pa_nil)))) -- watcher.add_state(parts[1], parts[2])
      (pss_one (ps_ret pe_bl)) -- return True
      )) , ?_⟩
    have bad : ∀ {b : Bool} H', Same H H' → (b = true → ¬ ∃ P', StateL pl ps P') → b = true → Q (.bl false) H' := fun H' s h e => (q2 (h e)).1 H' (Same.kp3 s)
    refine ⟨.ref a, rfl, a, _, rfl, .inl (SqL.of ha), rfl, _, rfl, ?_⟩
    refine ite2 (fun hb => bad H (Same.refl H) (fun _ => ?_) rfl) (fun hb => ?_)
    · rintro ⟨P', p, v, h, rfl, _⟩
      exact len_t (n := 3) hb rfl
    have h3 := len_f (n := 3) hb
    rw [List.length_map] at h3
    obtain ⟨k0, k1, k2, rfl⟩ : ∃ k0 k1 k2, ps = [k0, k1, k2] := by
      match ps, h3 with
      | [a, b, c], _ => exact ⟨a, b, c, rfl⟩
    obtain ⟨dx, hx⟩ := hW.w.ins
    refine ⟨.ref x, rfl, x, dx, _, rfl, hx, rfl, x, lv, lh, d, _, _, _, _, rfl, hW.w, fun t H' kvs s1 nt ht hkv => ?_⟩
    have lk : kvs.length = pl.rules.length := by
      rw [Paired.length hkv, sortR_len]
      unfold rowsOf
      rw [List.length_map]
    clear hb
    refine ⟨t, kvs, rfl, ht, _, _, rfl, rfl, _, rfl, ite2 (fun hb => bad H' s1 (fun _ => ?_) rfl) (fun hb => ?_)⟩
    · rintro ⟨P', p, v, h, _, hr, _⟩
      rw [lk, hr] at hb
      exact absurd (of_decide_eq_true hb) (by decide)
    have hr0 : pl.rules = [] := by
      rw [lk] at hb
      refine List.eq_nil_of_length_eq_zero ?_
      rcases Nat.eq_zero_or_pos pl.rules.length with z | z
      · exact z
      · exact absurd (decide_eq_true (by omega)) hb
    have hW1 := hW.w.mono s1
    have ha1 := s1 _ _ ha
    have hx1 := s1 _ _ hx
    refine ⟨.ref x, rfl, x, dx, _, rfl, hx1, rfl, .ref a, rfl, a, _, 1, kV k1, rfl, rfl, SqL.of ha1, at_keys rfl, .ref a, rfl, a, _, 2, kV k2, rfl, rfl, SqL.of ha1, at_keys rfl, ?_⟩
    have lks : (pl.kinds.map (·.1)).length = pl.kinds.length := List.length_map _
    refine ⟨x, lv, lh, d, _, _, _, _, x, kV k1, kV k2, kD k1, kD k2, rfl, hW1, ldK k1, ldK k2, fun bd e he => ?_, fun b1 bd e he => ?_, fun b1 b2 six e he => ?_, fun v h ev eh b1 b2 l6 H2 k2' hW2 => ?_⟩
    · refine (q2 ?_).2 _ hC H' e _ (Same.kp3 s1) he
      rintro ⟨P', p, v, h, e1, _, v0, v3, _⟩
      cases e1
      rw [show btw (kD (.inl v)) 0 3 = true from btw_true v0 v3] at bd
      cases bd
    · refine (q2 ?_).2 _ hC2 H' e _ (Same.kp3 s1) he
      rintro ⟨P', p, v, h, e1, _, v0, v3, g0, g3, _⟩
      cases e1
      rw [show btw (kD (.inl h)) 0 3 = true from btw_true g0 g3] at bd
      cases bd
    · refine (q2 ?_).2 _ hC2 H' e _ (Same.kp3 s1) he
      rintro ⟨P', p, v, h, e1, _, v0, v3, h0, h3, l, _⟩
      omega
    · obtain rfl : k1 = .inl v := kD_inj (b := .inl v) ev
      obtain rfl : k2 = .inl h := kD_inj (b := .inl h) eh
      obtain ⟨z1, e1, v0, v3⟩ := btw_int b1
      cases e1
      obtain ⟨z2, e2, h0, h3⟩ := btw_int b2
      cases e2
      have hS : StateL pl [k0, .inl v, .inl h] ⟨pl.words, pl.kinds ++ [(v, h)], pl.rules⟩ := ⟨k0, v, h, rfl, hr0, v0, v3, h0, h3, by omega, rfl⟩
      refine q1 _ H2 hS (fun c o e a b c' => k2' c o (s1 _ _ e) a b) ⟨by rw [List.map_append, List.map_append]; exact hW2, ?_⟩
      refine ⟨hW.ok.w, kinds_push hW.ok.k (by omega) v0 v3 h0 h3, ?_, hW.ok.nd, hW.ok.len⟩
      dsimp only
      rw [hr0]
      exact fun _ z => by cases z
end

/-! ### a rule's line is read -/
theorem eqv_keys : ∀ l m : List Key, PyData.eqvAll (l.map kD) (m.map kD) = decide (l = m)
  | [], [] => rfl
  | [], _ :: _ => rfl
  | _ :: _, [] => rfl
  | x :: r, y :: t => by
    cases x <;> cases y <;> simp only [List.map_cons, kD, PyData.eqvAll, PyData.eqv, eqv_keys r t, List.cons.injEq, Sum.inl.injEq, Sum.inr.injEq, reduceCtorEq, false_and, decide_false, Bool.false_and]
    · rename_i a b
      by_cases h : a = b <;> simp [h]
    · rename_i a b
      by_cases h : a = b <;> simp [h]
theorem shaped_key {k : List Key} (h : RK k) : SeqAt.shaped (.tuple (k.map kD)) = true := by
  obtain ⟨i, j, t, rfl, ⟨r, rfl⟩ | rfl⟩ := h
  · rfl
  · show (PyData.canLay0 (.tuple [.int i, .int j, .str (Str.ofString "new")]) && decide (PyData.depth (.tuple [.int i, .int j, .str (Str.ofString "new")]) ≤ 8)) = true
    simp only [PyData.canLay0, PyData.canLayAll0, show PyData.strOk (Str.ofString "new") = true by decide +kernel]
    rfl
theorem heldAt_le {ks : List (Int × Int)} (h : KindsOk ks) (i : Int) : heldAt ks i ≤ 3 := by
  unfold heldAt
  cases e : ks[i.toNat]? with
  | none => show (0 : Int) ≤ 3; decide
  | some m => exact (h.all m (List.mem_of_getElem? e)).2.2.2
theorem isSrc_at {h : Int} {t k : Key} (e : isSrc (kD k) h t = true) : SrcAt h t k := by
  unfold isSrc at e
  cases k with
  | inl n =>
    obtain ⟨z, e1, n0, n1⟩ := btw_int (show btw (.int n) 0 (h - 1) = true from e)
    cases e1
    exact .inl ⟨n, rfl, n0, by omega⟩
  | inr x =>
    cases hx : isStrD (kD (.inr x)) "value" with
    | false =>
      rw [hx, if_neg Bool.false_ne_true] at e
      cases e
    | true =>
      rw [hx, if_pos rfl] at e
      have e1 : x = ("value" : Str) := beq_iff_eq.mp hx
      cases t with
      | inl n => cases e
      | inr y =>
        have e2 : y = ("new" : Str) := beq_iff_eq.mp e
        exact .inr ⟨by rw [e1], by rw [e2]⟩
theorem areSrc_ok {h m : Int} {t : Key} {ks ls : List Key} (a : AreSrc (.tuple (ls.map kD)) m h t ks) : ks = ls ∧ SrcOk h t m ls := by
  have e := map_kD_inj (PyData.tuple.inj a.d)
  subst e
  exact ⟨rfl, a.len, a.nd, fun k hk => isSrc_at (a.all k hk)⟩
theorem isTest_ok {h : Int} {t : Key} (e : isTest (kD t) h = true) : TestOk h t := by
  cases t with
  | inl n =>
    have e' : (false || btw (.int n) 0 (h - 1)) = true := e
    rw [Bool.false_or] at e'
    obtain ⟨z, e1, n0, n1⟩ := btw_int e'
    cases e1
    exact .inl ⟨n, rfl, n0, by omega⟩
  | inr x =>
    have e' : ((x == ("new" : Str)) || false) = true := e
    rw [Bool.or_false] at e'
    exact .inr (by rw [beq_iff_eq.mp e'])
def sp_read_rule (C : Addr) (Cs : List Addr) : Sp := fun us H Q E => ∃ (x lv lh d a : Addr) (pl : Plan) (ps : List Key), us = [.ref x, .ref a] ∧ WP C H x lv lh d pl ∧ H a = some (.lst (ps.map kV)) ∧ 1 ≤ ps.length ∧ ps.length ≤ 200000 ∧ OutR C Cs H x lv lh d (RuleL pl ps) Q E
theorem last_ix {vs : List V} {k : Nat} (h : vs.length = k + 1) : ∃ v, atI vs (-1) = some v ∧ vs[k]? = some v := by
  have hk : vs[k]? = some vs[k] := List.getElem?_eq_getElem (by omega)
  refine ⟨vs[k], ?_, hk⟩
  unfold atI ixN
  rw [if_neg (by decide), if_pos (by omega)]
  show vs[((vs.length : Int) + -1).toNat]? = _
  rw [show ((vs.length : Int) + -1).toNat = k by omega]
  exact hk
/-- the last key of a dict of rules, as it stands -/
theorem last_key {H : Hp} {kvs : List (List Key × V)} {R : List PRule} {bs : List Addr} (hkv : KvD H kvs (sortR (rowsOf R))) (isk : IsKeys H kvs bs) (hne : R ≠ []) :
    ∃ k b, atI (bs.map V.ref) (-1) = some (.ref b) ∧ H b = some (.tup (k.map kV)) ∧ (srt rankK (R.map (·.1))).getLast? = some k ∧ k ∈ R.map (·.1) := by
  have ek := hkv.keys
  have e1 : (sortR (rowsOf R)).map (·.1) = srt rankK (R.map (·.1)) := by
    unfold sortR
    rw [List.map_map, rowsOf_keys]
    exact List.map_id _
  rw [e1] at ek
  have lk : kvs.length = R.length := by
    have := congrArg List.length ek
    rw [List.length_map, srt_len, List.length_map] at this
    exact this
  obtain ⟨n, hn⟩ : ∃ n, R.length = n + 1 := ⟨R.length - 1, by have := List.length_pos_iff.mpr hne; omega⟩
  have lb : bs.length = n + 1 := by
    have := Paired.length isk
    omega
  obtain ⟨v, a1, a2⟩ := last_ix (vs := bs.map V.ref) (by rw [List.length_map]; exact lb)
  rw [List.getElem?_map] at a2
  obtain ⟨b, hb, rfl⟩ := Option.map_eq_some_iff.mp a2
  have hk : kvs[n]? = some kvs[n] := List.getElem?_eq_getElem (by omega)
  obtain ⟨b', hb', hH⟩ := paired_get isk hk
  rw [hb] at hb'
  cases hb'
  have hs : (srt rankK (R.map (·.1)))[n]? = some kvs[n].1 := by
    rw [← ek, List.getElem?_map, hk]
    rfl
  refine ⟨kvs[n].1, b, a1, hH, ?_, srt_mem.mp (List.mem_of_getElem? hs)⟩
  rw [List.getLast?_eq_getElem?, srt_len, List.length_map, hn]
  exact hs
theorem lt_t {n m : Int} (h : decide (n < m) = true) : n < m := of_decide_eq_true h
section
variable {P : Program} {w : World} {K : PySem.W.Frag} {mg : Str → Option Value} {base : Heap}
abbrev N_read_rule : List Str := ["watcher", "parts", "_", "state", "word", "test", "target", "sources"]
theorem sc_read_rule : FnScope N_read_rule ["watcher", "parts"] (defScope s_read_rule) := ⟨rfl, rfl, rfl, by decide +kernel, rfl, by decide +kernel, by decide +kernel⟩
theorem Gg_read_rule (T : Tx K mg) {Cs : List Addr} (hU : T.UnknownState.C ∈ Cs) (hN : T.NotAWord.C ∈ Cs) (hT : T.InvalidTest.C ∈ Cs) (hS : T.InvalidSources.C ∈ Cs) (hR : T.RuleExists.C ∈ Cs) : FnG P w K mg base (L2.CX P w) 6 T.read_rule.f T.read_rule.fd ["watcher", "parts"] (sp_read_rule T.Watcher.C Cs) := by
  refine okGX T.read_rule.F sc_read_rule (fun vs H Q E h => ?_) (fun cdv A outer s H vs Q E gd hr h => ?_)
  · obtain ⟨x, lv, lh, d, a, pl, ps, rfl, _⟩ := h
    rfl
  · obtain ⟨x, lv, lh, d, a, pl, ps, rfl, hW, ha, lp1, lps, q1, q2⟩ := h
    have L5 := line5
    refine ⟨_, 
      (pss_cons (ps_if (PW.pt (pw_or (pt_cmpR op_lt (pe_callB call_len_seq (by rfl) T.m_len PySem.boot_len (pa_cons (pv 1) pa_nil)) pe_int (nomark _)) (pw_or1 (pt_cmpR op_ne (pe_ix ix_list (pv 1) pe_int (fun _ _ => rfl)) pe_str (nomark _))))) 
        (pss_one (ps_ret pe_bl)) -- return False
         pss_nil) -- if len(parts) < 5 or parts[0] != 'rule':
      (pss_cons (ps_asg (pv 1) (pg_lstStar (n := 5) rfl (pgs_cons (pg_name (i := 2) sc_read_rule.nd rfl (.inl rfl)) (pgs_cons (pg_name (i := 3) sc_read_rule.nd rfl (.inl rfl)) (pgs_cons (pg_name (i := 4) sc_read_rule.nd rfl (.inl rfl)) (pgs_cons (pg_name (i := 5) sc_read_rule.nd rfl (.inl rfl)) (pgs_cons (pg_name (i := 6) sc_read_rule.nd rfl (.inl rfl)) (pgs_starLast (pg_name (i := 7) sc_read_rule.nd rfl (.inl rfl)))))))))) -- _, state, word, test, target, *sources = parts
      (pss_cons (ps_expr (pe_methG (pv 0) T.Watcher.cl T.Watcher_add_rule.M (G_Watcher_add_rule T) gd (hr.mono (by decide)) T.Watcher_add_rule.b .nil (L2.passes_call (W := fun cls d _ H => E cls d H) (takes_of rfl rfl rfl rfl) (fun _ _ _ _ h => h)) (pa_cons (pv 3) (pa_cons (pv 4) (pa_cons (pv 5) (pa_cons (pv 6) (pa_cons (pe_callTy call_tuple_of (by rfl) T.m_tuple (by decide +kernel) (pa_cons (pv 7) pa_nil)) pa_nil))))))) -- watcher.add_rule(state, word, test, target, tuple(sources))
      (pss_one (ps_ret (pe_cmpR (op_eqT hr.units) (pe_ix ix_list (pe_callTy (call_list_dT rfl) (by rfl) T.m_list (by decide +kernel) (pa_cons (pe_meth0G (pv 0) T.Watcher.cl T.Watcher_rules.M (G_Watcher_rules T) gd (hr.mono (by decide)) T.Watcher_rules.b .nil pass0) pa_nil)) (pe_un un_neg pe_int) (fun _ _ => rfl)) (pe_tup (pa_cons (pv 3) (pa_cons (pv 4) (pa_cons (pv 5) pa_nil)))) (nomark _)))) -- return list(watcher.rules())[-1] == (state, word, test)
      ))) , ?_⟩
    have bad : ∀ {b : Bool}, (b = true → ¬ ∃ P', RuleL pl ps P') → b = true → Q (.bl false) H := fun h e => (q2 (h e)).1 H (Kp3.refl H)
    refine ⟨.ref a, rfl, a, _, rfl, .inl (SqL.of ha), _, _, rfl, rfl, _, rfl, ?_⟩
    rw [List.length_map]
    refine ite2 (fun hb => bad (fun _ => ?_) rfl) (fun hb => ?_)
    · rintro ⟨P', s', w', t, g, src, rfl, _⟩
      have := lt_t hb
      simp only [List.length_cons] at this
      omega
    have h5 : 5 ≤ ps.length := by
      rcases Nat.lt_or_ge ps.length 5 with z | z
      · exact absurd (decide_eq_true (by omega)) hb
      · exact z
    obtain ⟨k0, k1, k2, k3, k4, src, rfl⟩ : ∃ k0 k1 k2 k3 k4 src, ps = k0 :: k1 :: k2 :: k3 :: k4 :: src := by
      match ps, h5 with
      | a :: b :: c :: d :: e :: r, _ => exact ⟨a, b, c, d, e, r, rfl⟩
    clear hb
    refine ⟨.ref a, rfl, a, _, 0, kV k0, rfl, rfl, SqL.of ha, at_keys rfl, by cases k0 <;> rfl, _, rfl, ?_⟩
    refine ite2 (fun hb => bad (fun _ => ?_) rfl) (fun hb => ?_)
    · rintro ⟨P', s', w', t, g, src', e, _⟩
      cases e
      exact nk_t (j := kRu) hb rfl
    have e0 : k0 = kRu := nk_f (j := kRu) hb
    subst e0
    clear hb
    obtain ⟨dx, hx⟩ := hW.w.ins
    refine ⟨.ref a, rfl, a, _, rfl, SqL.of ha, by show 5 ≤ (List.map kV (kRu :: k1 :: k2 :: k3 :: k4 :: src)).length; simp, fun D nD => ?_⟩
    rw [show List.drop 5 (List.map kV (kRu :: k1 :: k2 :: k3 :: k4 :: src)) = src.map kV from rfl]
    refine ⟨kV kRu, _, rfl, kV k1, _, rfl, kV k2, _, rfl, kV k3, _, rfl, kV k4, _, rfl, .ref D, [], rfl, rfl, ?_⟩
    have sD : Same H (upd H D (.lst (src.map kV))) := same_new nD
    have hD : (upd H D (.lst (src.map kV))) D = some (.lst (src.map kV)) := upd_same
    have hx1 := sD _ _ hx
    refine ⟨.ref x, rfl, x, dx, _, rfl, hx1, rfl, kV k1, rfl, kV k2, rfl, kV k3, rfl, kV k4, rfl, .ref D, rfl, D, _, rfl, .inl ⟨SqL.of hD, fun U nU => ?_⟩⟩
    have sU : Same (upd H D (.lst (src.map kV))) (upd (upd H D (.lst (src.map kV))) U (.tup (src.map kV))) := same_new nU
    have hU2 : (upd (upd H D (.lst (src.map kV))) U (.tup (src.map kV))) U = some (.tup (src.map kV)) := upd_same
    have s2 := sD.trans sU
    generalize upd (upd H D (.lst (src.map kV))) U (.tup (src.map kV)) = H2 at *
    have hx2 := s2 _ _ hx
    have hW2 := hW.w.mono s2
    have lks : (pl.kinds.map (·.1)).length = pl.kinds.length := List.length_map _
    have lR : (rowsOf pl.rules).length < 1000 := by
      have := hW.ok.len
      unfold rowsOf
      rw [List.length_map]
      omega
    have exc : (¬ ∃ P', RuleL pl (kRu :: k1 :: k2 :: k3 :: k4 :: src) P') → ∀ cls ∈ Cs, ∀ e f, H2 e = none → E (.ref cls) (some e) (upd H2 e (.xd f)) := fun h cls hc e f he => (q2 h).2 cls hc H2 e f (Same.kp3 s2) he
    refine ⟨x, lv, lh, d, _, _, _, _, x, kV k1, kV k2, kV k3, kV k4, .ref U, kD k1, kD k2, kD k3, kD k4, .tuple (src.map kD), rfl, hW2, ldK k1, ldK k2, ldK k3, ldK k4, .tup (ne_of hU2 hx2 (fun z => nomatch z)) hU2 (lds_keys src), kD_nd k3, fun i ds e l => ?_, lR, fun b1 e he => ?_, fun _ b1 e he => ?_, fun _ _ b1 e he => ?_, fun s' tg w' es eg ew s0 s1 g0 g1 w0 w1 => ⟨fun bt e he => ?_, fun t' ev ed b1 => ⟨fun no e he => ?_, fun ks are => ⟨fun hm TT nT e he => ?_, fun hm H3 k3' hW3 => ?_⟩⟩⟩⟩
    · have := heldAt_le hW.ok.k i
      rw [hAt_held] at l
      omega
    · refine exc ?_ _ hU e _ he
      rintro ⟨P', s', w', t, g, src', e1, ⟨i, j, t2, e2, i0, i1, j0, j1, tok, g0, g1, sok⟩, _⟩
      cases e1
      cases e2
      rw [lks, show btw (kD (.inl s')) 0 (pl.kinds.length - 1) = true from btw_true i0 (by omega)] at b1
      cases b1
    · refine exc ?_ _ hU e _ he
      rintro ⟨P', s', w', t, g, src', e1, ⟨i, j, t2, e2, i0, i1, j0, j1, tok, g0, g1, sok⟩, _⟩
      cases e1
      cases e2
      rw [lks, show btw (kD (.inl g)) 0 (pl.kinds.length - 1) = true from btw_true g0 (by dsimp only at g1; omega)] at b1
      cases b1
    · refine exc ?_ _ hN e _ he
      rintro ⟨P', s', w', t, g, src', e1, ⟨i, j, t2, e2, i0, i1, j0, j1, tok, g0, g1, sok⟩, _⟩
      cases e1
      cases e2
      rw [show btw (kD (.inl w')) 0 (pl.words - 1) = true from btw_true j0 (by omega)] at b1
      cases b1
    · refine exc ?_ _ hT e _ he
      rintro ⟨P', s2', w2', t, g, src', e1, ⟨i, j, t2, e2, i0, i1, j0, j1, tok, g0, g1, sok⟩, _⟩
      cases e1
      cases e2
      cases es
      rw [hAt_held, testOk_is tok] at bt
      cases bt
    · refine exc ?_ _ hS e _ he
      rintro ⟨P', s2', w2', t, g, src', e1, ⟨i, j, t2, e2, i0, i1, j0, j1, tok, g0, g1, sok⟩, _⟩
      cases e1
      cases e2
      cases es
      cases eg
      have := kD_inj ed
      subst this
      rw [hAt_held, hAt_held] at no
      exact no ⟨src, srcOk_are sok⟩
    · rw [rowsOf_keys] at hm
      refine (q2 ?_).2 _ hR (upd H2 TT (.tup [.int s', .int w', kV k3])) e _ (Same.kp3 (s2.trans (same_new nT))) he
      rintro ⟨P', s2', w2', t, g, src', e1, _, nk, _⟩
      cases e1
      cases es
      cases ew
      have := kD_inj ed
      subst this
      exact nk hm
    · obtain rfl : k1 = .inl s' := kD_inj (b := .inl s') es
      obtain rfl : k4 = .inl tg := kD_inj (b := .inl tg) eg
      obtain rfl : k2 = .inl w' := kD_inj (b := .inl w') ew
      obtain rfl : k3 = t' := kD_inj ed
      obtain ⟨rfl, sok⟩ := areSrc_ok are
      rw [hAt_held, hAt_held] at sok
      rw [hAt_held] at b1
      rw [rowsOf_keys] at hm
      have hok : RuleOk pl.words pl.kinds ([.inl s', .inl w', k3], tg, ks) := ⟨s', w', k3, rfl, s0, by omega, w0, w1, isTest_ok b1, g0, by dsimp only; omega, sok⟩
      have hnew : WP T.Watcher.C H3 x lv lh d ⟨pl.words, pl.kinds, pl.rules ++ [([.inl s', .inl w', k3], tg, ks)]⟩ := by
        refine ⟨by dsimp only; rw [rowsOf_snoc]; exact hW3, ?_⟩
        have hr : ∀ r ∈ pl.rules ++ [([Sum.inl s', Sum.inl w', k3], tg, ks)], RuleOk pl.words pl.kinds r := fun r hr => by
          rcases List.mem_append.mp hr with z | z
          · exact hW.ok.r r z
          · rw [List.mem_singleton.mp z]
            exact hok
        have nd : ((pl.rules ++ [([Sum.inl s', Sum.inl w', k3], tg, ks)]).map (·.1)).Nodup := by
          rw [List.map_append]
          refine List.nodup_append.mpr ⟨hW.ok.nd, by simp, fun a ha b hb => ?_⟩
          rw [List.map_cons, List.map_nil, List.mem_singleton] at hb
          subst hb
          rintro rfl
          exact hm ha
        exact ⟨hW.ok.w, hW.ok.k, hr, nd, Nat.le_trans (rules_len hW.ok.k hW.ok.w.2 hr nd) (by decide)⟩
      have hx3 := k3' _ _ hx2 (by have := hW2.rul; obtain ⟨kvs, hd, _⟩ := this; exact ne_of hx2 hd (fun z => nomatch z))
      refine ⟨.ref x, rfl, x, dx, _, rfl, hx3, rfl, x, lv, lh, d, _, _, _, _, rfl, hnew.w, fun t H4 kvs s4 nt ht hkv => ?_⟩
      refine ⟨t, kvs, rfl, .inl ht, fun p bs np isk => ?_⟩
      obtain ⟨kl, b, a1, a2, a3, a4⟩ := last_key hkv isk (by simp)
      have sp : Same H4 (upd H4 p (.lst (bs.map V.ref))) := same_new np
      have hp : (upd H4 p (.lst (bs.map V.ref))) p = some (.lst (bs.map V.ref)) := upd_same
      have s5 : Same H3 (upd H4 p (.lst (bs.map V.ref))) := s4.trans sp
      have a2' := sp _ _ a2
      generalize upd H4 p (.lst (bs.map V.ref)) = H5 at *
      refine ⟨1, rfl, p, _, -1, .ref b, rfl, rfl, SqL.of hp, a1, .int s', rfl, .int w', rfl, kV k3, rfl, by show 3 ≤ sizeLine; decide, fun TT nT => ?_⟩
      have sT : Same H5 (upd H5 TT (.tup [.int s', .int w', kV k3])) := same_new nT
      have s6 := s5.trans sT
      have rk : RK kl := hnew.w.rk kl (by rw [rowsOf_keys]; exact a4)
      have rn : RK [.inl s', .inl w', k3] := hnew.w.rk _ (by rw [rowsOf_keys]; simp)
      refine ⟨.tuple (kl.map kD), .tuple ([Sum.inl s', Sum.inl w', k3].map kD), .tup (sT _ _ a2') TDs.keys, .tup (xs := [Sum.inl s', Sum.inl w', k3].map kV) upd_same TDs.keys, shaped_key rk, shaped_key rn, ?_⟩
      have kp : Kp3 lv lh d H (upd H5 TT (.tup [.int s', .int w', kV k3])) := fun c o e _ _ c' => s6 _ _ (k3' c o (s2 _ _ e) c')
      show Q (.bl (PyData.eqvAll (kl.map kD) ([Sum.inl s', Sum.inl w', k3].map kD))) _
      rw [eqv_keys]
      rw [List.map_append] at a3
      by_cases hl : kl = [Sum.inl s', Sum.inl w', k3]
      · rw [decide_eq_true hl]
        refine q1 _ _ ⟨s', w', k3, tg, ks, rfl, hok, hm, ?_, rfl⟩ kp (hnew.mono s6)
        rw [← hl] at a3 ⊢
        exact a3
      · rw [decide_eq_false hl]
        refine (q2 ?_).1 _ kp
        rintro ⟨P', s2', w2', t, g, src', e1, _, _, la, _⟩
        cases e1
        have la2 : (srt rankK (pl.rules.map (·.1) ++ [([Sum.inl s', Sum.inl w', k3], tg, ks)].map (·.1))).getLast? = some [Sum.inl s', Sum.inl w', k3] := la
        rw [a3] at la2
        exact hl (Option.some.inj la2)
end

/-! ### lines read, a text read -/
/-- the errors that a line may raise -/
def csR {K : PySem.W.Frag} {mg : Str → Option Value} (T : Tx K mg) : List Addr := [T.UnknownState.C, T.NotAVerdict.C, T.LimitExceeded.C, T.NotAWord.C, T.InvalidTest.C, T.InvalidSources.C, T.RuleExists.C]
theorem exm_via {K : PySem.W.Frag} {R S : Addr} {b : Bool} (h1 : PySem.W.subIn K (.ref S) (.type "BaseException") = some true) (te : PySem.W.exmOne K (.ref S) (.ref S) = some true) (h4 : PySem.W.subIn K (.ref R) (.ref S) = some b) : PySem.W.exmOne K (.ref R) (.ref S) = some b := by
  have e1 : (PySem.W.subIn K (.ref S) (.type "BaseException") == some true) = true := by
    rw [h1]
    rfl
  unfold PySem.W.exmOne at te ⊢
  rw [if_pos e1] at te ⊢
  have te2 : (if ((PySem.W.clsIn K S).isSome && PySem.W.typeIn K (.ref S) == some (.type "type")) = true then PySem.W.subIn K (.ref S) (.ref S) else none) = some true := te
  show (if ((PySem.W.clsIn K S).isSome && PySem.W.typeIn K (.ref S) == some (.type "type")) = true then PySem.W.subIn K (.ref R) (.ref S) else none) = some b
  by_cases hc : ((PySem.W.clsIn K S).isSome && PySem.W.typeIn K (.ref S) == some (.type "type")) = true
  · rw [if_pos hc]
    exact h4
  · rw [if_neg hc] at te2
    cases te2
theorem exm_c {K : PySem.W.Frag} {cls c : Value} {b d : Bool} {r : List Value} (h : PySem.W.exmOne K cls c = some b) (hr : PySem.W.exmAny K cls r = some d) : PySem.W.exmAny K cls (c :: r) = some (b || d) := by
  unfold PySem.W.exmAny
  rw [h, hr]
theorem exm_csR {K : PySem.W.Frag} {mg : Str → Option Value} (T : Tx K mg) : ∀ cls ∈ csR T, PySem.W.exmAny K (.ref cls) ((csR T).map Value.ref) = some true := by
  intro cls h
  unfold csR at h ⊢
  simp only [List.mem_cons, List.not_mem_nil, or_false] at h
  rcases h with rfl | rfl | rfl | rfl | rfl | rfl | rfl
  · exact exm_c (T.UnknownState.e.T.te) (exm_c (exm_via T.NotAVerdict.e.T.exC T.NotAVerdict.e.T.te T.ap_UnknownState_NotAVerdict) (exm_c (exm_via T.LimitExceeded.e.T.exC T.LimitExceeded.e.T.te T.ap_UnknownState_LimitExceeded) (exm_c (exm_via T.NotAWord.e.T.exC T.NotAWord.e.T.te T.ap_UnknownState_NotAWord) (exm_c (exm_via T.InvalidTest.e.T.exC T.InvalidTest.e.T.te T.ap_UnknownState_InvalidTest) (exm_c (exm_via T.InvalidSources.e.T.exC T.InvalidSources.e.T.te T.ap_UnknownState_InvalidSources) (exm_c (exm_via T.RuleExists.e.T.exC T.RuleExists.e.T.te T.ap_UnknownState_RuleExists) (rfl)))))))
  · exact exm_c (exm_via T.UnknownState.e.T.exC T.UnknownState.e.T.te T.ap_NotAVerdict_UnknownState) (exm_c (T.NotAVerdict.e.T.te) (exm_c (exm_via T.LimitExceeded.e.T.exC T.LimitExceeded.e.T.te T.ap_NotAVerdict_LimitExceeded) (exm_c (exm_via T.NotAWord.e.T.exC T.NotAWord.e.T.te T.ap_NotAVerdict_NotAWord) (exm_c (exm_via T.InvalidTest.e.T.exC T.InvalidTest.e.T.te T.ap_NotAVerdict_InvalidTest) (exm_c (exm_via T.InvalidSources.e.T.exC T.InvalidSources.e.T.te T.ap_NotAVerdict_InvalidSources) (exm_c (exm_via T.RuleExists.e.T.exC T.RuleExists.e.T.te T.ap_NotAVerdict_RuleExists) (rfl)))))))
  · exact exm_c (exm_via T.UnknownState.e.T.exC T.UnknownState.e.T.te T.ap_LimitExceeded_UnknownState) (exm_c (exm_via T.NotAVerdict.e.T.exC T.NotAVerdict.e.T.te T.ap_LimitExceeded_NotAVerdict) (exm_c (T.LimitExceeded.e.T.te) (exm_c (exm_via T.NotAWord.e.T.exC T.NotAWord.e.T.te T.ap_LimitExceeded_NotAWord) (exm_c (exm_via T.InvalidTest.e.T.exC T.InvalidTest.e.T.te T.ap_LimitExceeded_InvalidTest) (exm_c (exm_via T.InvalidSources.e.T.exC T.InvalidSources.e.T.te T.ap_LimitExceeded_InvalidSources) (exm_c (exm_via T.RuleExists.e.T.exC T.RuleExists.e.T.te T.ap_LimitExceeded_RuleExists) (rfl)))))))
  · exact exm_c (exm_via T.UnknownState.e.T.exC T.UnknownState.e.T.te T.ap_NotAWord_UnknownState) (exm_c (exm_via T.NotAVerdict.e.T.exC T.NotAVerdict.e.T.te T.ap_NotAWord_NotAVerdict) (exm_c (exm_via T.LimitExceeded.e.T.exC T.LimitExceeded.e.T.te T.ap_NotAWord_LimitExceeded) (exm_c (T.NotAWord.e.T.te) (exm_c (exm_via T.InvalidTest.e.T.exC T.InvalidTest.e.T.te T.ap_NotAWord_InvalidTest) (exm_c (exm_via T.InvalidSources.e.T.exC T.InvalidSources.e.T.te T.ap_NotAWord_InvalidSources) (exm_c (exm_via T.RuleExists.e.T.exC T.RuleExists.e.T.te T.ap_NotAWord_RuleExists) (rfl)))))))
  · exact exm_c (exm_via T.UnknownState.e.T.exC T.UnknownState.e.T.te T.ap_InvalidTest_UnknownState) (exm_c (exm_via T.NotAVerdict.e.T.exC T.NotAVerdict.e.T.te T.ap_InvalidTest_NotAVerdict) (exm_c (exm_via T.LimitExceeded.e.T.exC T.LimitExceeded.e.T.te T.ap_InvalidTest_LimitExceeded) (exm_c (exm_via T.NotAWord.e.T.exC T.NotAWord.e.T.te T.ap_InvalidTest_NotAWord) (exm_c (T.InvalidTest.e.T.te) (exm_c (exm_via T.InvalidSources.e.T.exC T.InvalidSources.e.T.te T.ap_InvalidTest_InvalidSources) (exm_c (exm_via T.RuleExists.e.T.exC T.RuleExists.e.T.te T.ap_InvalidTest_RuleExists) (rfl)))))))
  · exact exm_c (exm_via T.UnknownState.e.T.exC T.UnknownState.e.T.te T.ap_InvalidSources_UnknownState) (exm_c (exm_via T.NotAVerdict.e.T.exC T.NotAVerdict.e.T.te T.ap_InvalidSources_NotAVerdict) (exm_c (exm_via T.LimitExceeded.e.T.exC T.LimitExceeded.e.T.te T.ap_InvalidSources_LimitExceeded) (exm_c (exm_via T.NotAWord.e.T.exC T.NotAWord.e.T.te T.ap_InvalidSources_NotAWord) (exm_c (exm_via T.InvalidTest.e.T.exC T.InvalidTest.e.T.te T.ap_InvalidSources_InvalidTest) (exm_c (T.InvalidSources.e.T.te) (exm_c (exm_via T.RuleExists.e.T.exC T.RuleExists.e.T.te T.ap_InvalidSources_RuleExists) (rfl)))))))
  · exact exm_c (exm_via T.UnknownState.e.T.exC T.UnknownState.e.T.te T.ap_RuleExists_UnknownState) (exm_c (exm_via T.NotAVerdict.e.T.exC T.NotAVerdict.e.T.te T.ap_RuleExists_NotAVerdict) (exm_c (exm_via T.LimitExceeded.e.T.exC T.LimitExceeded.e.T.te T.ap_RuleExists_LimitExceeded) (exm_c (exm_via T.NotAWord.e.T.exC T.NotAWord.e.T.te T.ap_RuleExists_NotAWord) (exm_c (exm_via T.InvalidTest.e.T.exC T.InvalidTest.e.T.te T.ap_RuleExists_InvalidTest) (exm_c (exm_via T.InvalidSources.e.T.exC T.InvalidSources.e.T.te T.ap_RuleExists_InvalidSources) (exm_c (T.RuleExists.e.T.te) (rfl)))))))
/-- text.split(sep) -/
def rSplitS : V → List V → Hp → VK → Prop := fun x xs H Q => ∃ a b, x = .str a ∧ xs = [.str b] ∧ (b.length == 0) = false ∧ a.length + 2 ≤ sizeLine ∧ rNewStrs (Txt.split a b) H Q
def sp_read_parts (C : Addr) (Cs : List Addr) : Sp := fun us H Q E => ∃ (x lv lh d a : Addr) (pl : Plan) (i : Nat) (ps : List Key), us = [.ref x, .int i, .ref a] ∧ WP C H x lv lh d pl ∧ H a = some (.lst (ps.map kV)) ∧ 1 ≤ ps.length ∧ ps.length ≤ 200000 ∧ (i = 1 → pl.kinds = [(0, 0)] ∧ pl.rules = []) ∧ OutR C Cs H x lv lh d (ReadL pl i ps) Q E
def sp_read_line (C : Addr) : Sp := fun us H Q _ => ∃ (x lv lh d : Addr) (pl : Plan) (i : Nat) (z : Str), us = [.ref x, .int i, .str z] ∧ WP C H x lv lh d pl ∧ z.length ≤ 100000 ∧ (i = 1 → pl.kinds = [(0, 0)] ∧ pl.rules = []) ∧
  (∀ P' H', ReadL pl i (partsOf z) P' → Kp3 lv lh d H H' → WP C H' x lv lh d P' → Q (.bl true) H') ∧ ((¬ ∃ P', ReadL pl i (partsOf z) P') → ∀ H', Kp3 lv lh d H H' → Q (.bl false) H')
theorem Kp3.put {lv lh d e : Addr} {H H' : Hp} {o : HO} (k : Kp3 lv lh d H H') (n : H' e = none) : Kp3 lv lh d H (upd H' e o) := fun c u h a b x => by
  have := k c u h a b x
  rw [upd_ne (ne_of_none this n)]
  exact this
theorem OutR.to {C : Addr} {Cs : List Addr} {H : Hp} {x lv lh d : Addr} {R R' : Plan → Prop} {Q : VK} {E : Value → Option Addr → Hp → Prop} (h : OutR C Cs H x lv lh d R Q E) (e : ∀ P', R P' ↔ R' P') : OutR C Cs H x lv lh d R' Q E :=
  ⟨fun P' H' r => h.1 P' H' ((e P').mpr r), fun no => h.2 fun ⟨P', r⟩ => no ⟨P', (e P').mp r⟩⟩
section
variable {P : Program} {w : World} {K : PySem.W.Frag} {mg : Str → Option Value} {base : Heap}
theorem G_read_start (T : Tx K mg) : FnG P w K mg base (L2.CX P w) 5 T.read_start.f T.read_start.fd ["watcher", "parts"] (sp_read_start T.Watcher.C (csR T)) := Gg_read_start T (by simp [csR])
theorem G_read_state (T : Tx K mg) : FnG P w K mg base (L2.CX P w) 5 T.read_state.f T.read_state.fd ["watcher", "parts"] (sp_read_state T.Watcher.C (csR T)) := Gg_read_state T (by simp [csR]) (by simp [csR])
theorem G_read_rule (T : Tx K mg) : FnG P w K mg base (L2.CX P w) 6 T.read_rule.f T.read_rule.fd ["watcher", "parts"] (sp_read_rule T.Watcher.C (csR T)) := Gg_read_rule T (by simp [csR]) (by simp [csR]) (by simp [csR]) (by simp [csR]) (by simp [csR])
abbrev N_read_parts : List Str := ["watcher", "index", "parts"]
theorem sc_read_parts : FnScope N_read_parts ["watcher", "index", "parts"] (defScope s_read_parts) := ⟨rfl, rfl, rfl, by decide +kernel, rfl, by decide +kernel, by decide +kernel⟩
theorem G_read_parts (T : Tx K mg) : FnG P w K mg base (L2.CX P w) 7 T.read_parts.f T.read_parts.fd ["watcher", "index", "parts"] (sp_read_parts T.Watcher.C (csR T)) := by
  refine okGX T.read_parts.F sc_read_parts (fun vs H Q E h => ?_) (fun cdv A outer s H vs Q E gd hr h => ?_)
  · obtain ⟨x, lv, lh, d, a, pl, i, ps, rfl, _⟩ := h
    rfl
  · obtain ⟨x, lv, lh, d, a, pl, i, ps, rfl, hW, ha, lp1, lps, h1, q⟩ := h
    refine ⟨_, 
      (pss_cons (ps_if (pt_cmpR op_eq (pv 1) pe_int (nomark _)) 
        (pss_one (ps_ret (pe_callG (G_read_start T) gd (hr.mono (by decide)) rfl T.read_start.g T.read_start.F.kp T.read_start.b .nil (L2.passes_call (W := fun cls d _ H => E cls d H) (takes_of rfl rfl rfl rfl) (fun _ _ _ _ h => h)) (pa_cons (pv 0) (pa_cons (pv 2) pa_nil))))) -- return read_start(watcher, parts)
         pss_nil) -- if index == 1:
      (pss_cons (ps_if (pt_cmpR op_eq (pe_ix ix_list (pv 2) pe_int (fun _ _ => rfl)) pe_str (nomark _)) 
        (pss_one (ps_ret (pe_callG (G_read_state T) gd (hr.mono (by decide)) rfl T.read_state.g T.read_state.F.kp T.read_state.b .nil (L2.passes_call (W := fun cls d _ H => E cls d H) (takes_of rfl rfl rfl rfl) (fun _ _ _ _ h => h)) (pa_cons (pv 0) (pa_cons (pv 2) pa_nil))))) -- return read_state(watcher, parts)
         pss_nil) -- if parts[0] == 'state':
      (pss_one (ps_ret (pe_callG (G_read_rule T) gd (hr.mono (by decide)) rfl T.read_rule.g T.read_rule.F.kp T.read_rule.b .nil (L2.passes_call (W := fun cls d _ H => E cls d H) (takes_of rfl rfl rfl rfl) (fun _ _ _ _ h => h)) (pa_cons (pv 0) (pa_cons (pv 2) pa_nil))))) -- return read_rule(watcher, parts)
      )) , ?_⟩
    refine ⟨.int i, rfl, rfl, _, rfl, ite2 (fun hb => ?_) (fun hb => ?_)⟩
    · have e1 : i = 1 := by have := V.int.inj (of_decide_eq_true hb); omega
      obtain ⟨hk, hrl⟩ := h1 e1
      refine ⟨.ref x, rfl, .ref a, rfl, x, lv, lh, d, a, pl, ps, rfl, hW, ha, lps, hk, hrl, q.to fun P' => ?_⟩
      unfold ReadL
      simp [e1]
    have e1 : i ≠ 1 := fun z => hb (decide_eq_true (by rw [z]; rfl))
    clear hb
    obtain ⟨k0, r, rfl⟩ : ∃ k0 r, ps = k0 :: r := by
      match ps, lp1 with
      | a :: r, _ => exact ⟨a, r, rfl⟩
    refine ⟨.ref a, rfl, a, _, 0, kV k0, rfl, rfl, SqL.of ha, at_keys rfl, by cases k0 <;> rfl, _, rfl, ite2 (fun hb => ?_) (fun hb => ?_)⟩
    · have e2 : k0 = kSt := keyV_inj (b := kSt) (of_decide_eq_true hb)
      refine ⟨.ref x, rfl, .ref a, rfl, x, lv, lh, d, a, pl, _, rfl, hW, ha, lps, q.to fun P' => ?_⟩
      unfold ReadL
      simp [e1, e2]
    · have e2 : k0 ≠ kSt := fun z => hb (decide_eq_true (by rw [z]; rfl))
      refine ⟨.ref x, rfl, .ref a, rfl, x, lv, lh, d, a, pl, _, rfl, hW, ha, lp1, lps, q.to fun P' => ?_⟩
      unfold ReadL
      simp [e1, e2]
abbrev N_read_line : List Str := ["watcher", "index", "line", "part"]
theorem sc_read_line : FnScope N_read_line ["watcher", "index", "line"] (defScope s_read_line) := ⟨rfl, rfl, rfl, by decide +kernel, rfl, by decide +kernel, by decide +kernel⟩
theorem G_read_line (T : Tx K mg) (hw : T.pr = w.params) : FnG P w K mg base CX0 8 T.read_line.f T.read_line.fd ["watcher", "index", "line"] (sp_read_line T.Watcher.C) := by
  refine okG T.read_line.F sc_read_line (fun vs H Q E h => ?_) (fun cdv A outer s H vs Q E gd hr h => ?_)
  · obtain ⟨x, lv, lh, d, pl, i, z, rfl, _⟩ := h
    rfl
  · obtain ⟨x, lv, lh, d, pl, i, z, rfl, hW, hz, h1, q1, q2⟩ := h
    have L5 := line5
    refine ⟨_, 
      (pss_one (ps_try_tup (Wout := fun _ _ _ _ => False) rfl rfl (.cons ⟨rfl, by decide, Or.inl T.UnknownState.e.T.gC⟩ (.cons ⟨rfl, by decide, Or.inl T.NotAVerdict.e.T.gC⟩ (.cons ⟨rfl, by decide, Or.inl T.LimitExceeded.e.T.gC⟩ (.cons ⟨rfl, by decide, Or.inl T.NotAWord.e.T.gC⟩ (.cons ⟨rfl, by decide, Or.inl T.InvalidTest.e.T.gC⟩ (.cons ⟨rfl, by decide, Or.inl T.InvalidSources.e.T.gC⟩ (.cons ⟨rfl, by decide, Or.inl T.RuleExists.e.T.gC⟩ .nil))))))) (by show 7 ≤ sizeLine; decide) L2.takes_none5 (fun W pn xe tk _ => 
        (pss_one (ps_ret (by exact (pe_callGS (G_read_parts T) gd (hr.mono (by decide)) rfl T.read_parts.g T.read_parts.F.kp T.read_parts.b (fun σ => passAt tk σ) (pa_cons (pv 0) (pa_cons (pv 1) (pa_cons (by exact (pe_lc (wi := iList K (tM1 rSplitS (tVar 2) (tC (V.str (Str.ofString " "))))) (own := [("part", 3)]) (g := gName 3) rfl sc_read_line.nd (pi_list (pe_split (pv 2) pe_str)) (blkOk_by (N := N_read_line) (sc := defScope s_read_line) (by decide +kernel)) (fun _ _ _ _ _ => (pg_name (i := 3) sc_read_line.nd rfl (.inl rfl))) (fun _ _ _ _ _ => pts_nil) (fun _ _ _ _ _ => (show PE _ _ (tKGet2 K w (tC (.ref T.aDIGITS)) (tVar 3) (tVar 3)) from pe_kget2 (pe_glob (v := .ref T.aDIGITS) rfl T.g_DIGITS rfl) (pv 3) (pv 3) ⟨by rfl, by rfl, by rfl, by rfl⟩)))) pa_nil))))))) -- return read_parts(watcher, index, [DIGITS.get(part, part) for part in line.split(' ')])
        ) (fun a oe cls d pn _ _ => 
        (pss_one (ps_ret (by exact pe_bl))) -- return False
        ))) -- try:
       , ?_⟩
    obtain ⟨pl1, pl2, pl3⟩ := split_len (x := z) (y := spS) (by rw [tl_sp]; simp) sp_kind
    have e0 : partsOf z = (Txt.split z spS).map digK := rfl
    rw [e0] at q2
    simp only [e0] at q1
    generalize hzs : Txt.split z spS = zs at *
    refine ⟨.ref x, rfl, .int i, rfl, .str z, rfl, ⟨_, rfl⟩, z, spS, rfl, rfl, by rfl, by omega, fun l nl => ?_⟩
    rw [hzs]
    have s1 : Same H (upd H l (.lst (zs.map V.str))) := same_new nl
    have hl : (upd H l (.lst (zs.map V.str))) l = some (.lst (zs.map V.str)) := upd_same
    generalize upd H l (.lst (zs.map V.str)) = H1 at *
    refine ⟨l, rfl, ⟨_, SqL.of hl⟩, fun D nD => ?_⟩
    refine lc_list (K := K) (a := l) (xs := zs.map V.str) (fun j H' => Same H1 H' ∧ H' D = some (.lst (((zs.take j).map digK).map kV))) ?_ ?_ ?_ ?_
    · exact ⟨same_new nD, upd_same⟩
    · rintro j H2 hj ⟨s2, hD⟩
      exact SqL.of (s2 _ _ hl)
    · rintro j y H2 hj ⟨s2, hD⟩
      rw [List.getElem?_map] at hj
      obtain ⟨p, hp, rfl⟩ := Option.map_eq_some_iff.mp hj
      refine ⟨rfl, T.aDIGITS, litF lit_DIGITS, rfl, T.dg_DIGITS w hw, .str p, rfl, .str p, rfl, p, rfl, ?_⟩
      have ek : optW (.str p) (litF lit_DIGITS p) = kV (digK p) := by
        unfold digK
        cases litF lit_DIGITS p <;> rfl
      rw [ek]
      have jl : j < zs.length := (List.getElem?_eq_some_iff.mp hp).1
      refine ⟨_, hD, ?_, ?_, ?_⟩
      · rw [List.length_map, List.length_map]
        have := List.length_take_le' j zs
        omega
      · intro b o e
        have : b ≠ D := ne_of_none e nD
        rw [upd_ne this]
        exact s2 _ _ e
      · rw [upd_same, List.take_add_one, hp, List.map_append, List.map_append]
        rfl
    · rintro H2 ⟨s2, hD⟩
      rw [List.length_map, List.take_length] at hD
      have s3 := s1.trans s2
      refine ⟨x, lv, lh, d, D, pl, i, zs.map digK, rfl, hW.mono s3, hD, by rw [List.length_map]; exact pl2, by rw [List.length_map]; omega, h1, ?_, fun no => ⟨?_, ?_⟩⟩
      · exact fun P' H' r k => q1 P' H' r (k.after s3)
      · exact fun H' k => q2 no H' (k.after s3)
      · intro cls hc H' e f k ne
        refine ⟨true, exm_csR T cls hc, fun _ a na => ?_, fun z => by cases z⟩
        exact q2 no _ ((k.after s3).put ne)
end

/-! ### a whole text is read -/
def sp_parse_watcher (C CP : Addr) : Sp := fun us H Q E => ∃ (z : Str), us = [.str z] ∧ z.length ≤ 100000 ∧
  (∀ P', Parsed z P' → ∀ x lv lh d H', Fr H H' x lv lh d → WP C H' x lv lh d P' → Q (.ref x) H') ∧
  (∀ k : Nat, ParseErr z k → ∀ e H', Same H H' → H' e = none → E (.ref CP) (some e) (upd H' e (.xd [(("line" : Str), .int k)])))
theorem at_strs {ls : List Str} {i : Nat} {z : Str} (h : ls[i]? = some z) : atI (ls.map V.str) (i : Int) = some (.str z) := atI_nat (by rw [List.getElem?_map, h]; rfl)
section
variable {P : Program} {w : World} {K : PySem.W.Frag} {mg : Str → Option Value} {base : Heap}
abbrev N_parse_watcher : List Str := ["text", "lines", "ends", "watcher", "index"]
theorem sc_parse_watcher : FnScope N_parse_watcher ["text"] (defScope s_parse_watcher) := ⟨rfl, rfl, rfl, by decide +kernel, rfl, by decide +kernel, by decide +kernel⟩
theorem G_parse_watcher (T : Tx K mg) (hw : T.pr = w.params) : FnG P w K mg base (L2.CX P w) 9 T.parse_watcher.f T.parse_watcher.fd ["text"] (sp_parse_watcher T.Watcher.C T.ParseError.C) := by
  refine okGX T.parse_watcher.F sc_parse_watcher (fun vs H Q E h => ?_) (fun cdv A outer s H vs Q E gd hr h => ?_)
  · obtain ⟨z, rfl, _⟩ := h
    rfl
  · obtain ⟨z, rfl, hz, q1, q2⟩ := h
    have L5 := line5
    refine ⟨_, 
      (pss_cons (ps_set (i := 1) sc_parse_watcher.nd rfl (.inl rfl) (pe_split (pv 0) pe_str)) -- lines = text.split('\n')
      (pss_cons (ps_set (i := 2) sc_parse_watcher.nd rfl (.inl rfl) (pe_op op_sub (pe_callB call_len_seq (by rfl) T.m_len PySem.boot_len (pa_cons (pv 1) pa_nil)) pe_int)) -- ends = len(lines) - 1
      (pss_cons (ps_if (pt_cmp (pc_knotin (pe_ix ix_list (pv 1) pe_int (fun _ _ => rfl)) (pe_glob (v := .ref T.aFIRST_LINES) rfl T.g_FIRST_LINES rfl))) 
        (pss_one (L2.ps_raiseE (W := fun cls d _ H => E cls d H) rfl T.ParseError.e (show Room 1 _ from hr.mono (by decide)) (takes_of rfl rfl rfl rfl) (by exact (pa_cons pe_int pa_nil)))) -- raise ParseError(0)
         pss_nil) -- if lines[0] not in FIRST_LINES:
      (pss_cons (ps_set (i := 3) sc_parse_watcher.nd rfl (.inl rfl) (pe_makeG T.mk_Watcher (G_Watcher_init T) gd (hr.mono (by decide)) rfl T.Watcher.g T.Watcher_init.b .nil passNo (pa_cons (pe_ix ix_kdict (pe_glob (v := .ref T.aFIRST_LINES) rfl T.g_FIRST_LINES rfl) (pe_ix ix_list (pv 1) pe_int (fun _ _ => rfl)) (fun _ _ => rfl)) pa_nil))) -- watcher = Watcher(FIRST_LINES[lines[0]])
      (C8.pss_cut (ps_for (passes_of rfl) rfl (pi_range2 rfl T.m_range (pa_cons pe_int (pa_cons (pv 2) pa_nil))) (pg_name (i := 4) sc_parse_watcher.nd rfl (.inl rfl)) 
        (pss_one (ps_if (pt_not (pt_val (pe_callG (G_read_line T hw) gd (hr.mono (by decide)) rfl T.read_line.g T.read_line.F.kp T.read_line.b .nil pass0 (pa_cons (pv 3) (pa_cons (pv 4) (pa_cons (pe_ix ix_list (pv 1) (pv 4) (fun _ _ => rfl)) pa_nil)))))) 
          (pss_one (L2.ps_raiseE (W := fun cls d _ H => E cls d H) rfl T.ParseError.e (show Room 1 _ from hr.mono (by decide)) (takes_of rfl rfl rfl rfl) (by exact (pa_cons (pv 4) pa_nil)))) -- raise ParseError(index)
           pss_nil)) -- if not read_line(watcher, index, lines[index]):
        ) -- for index in range(1, ends):
      (pss_cons (ps_if (PW.pt (pw_or (pt_cmpR op_eq (pv 2) pe_int (nomark _)) (pw_or1 (pt_cmpR op_ne (pe_ix ix_list (pv 1) (pv 2) (fun _ _ => rfl)) pe_str (nomark _))))) 
        (pss_one (L2.ps_raiseE (W := fun cls d _ H => E cls d H) rfl T.ParseError.e (show Room 1 _ from hr.mono (by decide)) (takes_of rfl rfl rfl rfl) (by exact (pa_cons (pv 2) pa_nil)))) -- raise ParseError(ends)
         pss_nil) -- if ends == 1 or lines[ends] != '':
      (pss_one (ps_ret (pv 3))) -- return watcher
      )))))) , ?_⟩
    obtain ⟨pl1, pl2, pl3⟩ := split_len (x := z) (y := nlS) (by rw [tl_nl]; simp) nl_kind
    have dP : ∀ P', Parsed z P' = ∃ ends : Nat, (Txt.split z nlS).length = ends + 1 ∧ ends ≠ 0 ∧ ends ≠ 1 ∧ RdTo (Txt.split z nlS) ends P' ∧ (Txt.split z nlS)[ends]? = some Str.empty := fun _ => rfl
    simp only [dP] at q1
    have eF : ∀ {l : Str}, (Txt.split z nlS)[0]? = some l → litF lit_FIRST_LINES l = none → ParseErr z 0 := fun h hn => .first h hn
    have eL : ∀ {k ends : Nat} {P : Plan} {l : Str}, (Txt.split z nlS).length = ends + 1 → k < ends → RdTo (Txt.split z nlS) k P → (Txt.split z nlS)[k]? = some l → (¬ ∃ P', ReadL P k (partsOf l) P') → ParseErr z k := fun he hk r h no => .line he hk r h no
    have eE : ∀ {ends : Nat} {P : Plan}, (Txt.split z nlS).length = ends + 1 → RdTo (Txt.split z nlS) (max 1 ends) P → (ends ≤ 1 ∨ (Txt.split z nlS)[ends]? ≠ some Str.empty) → ParseErr z ends := fun he r h => .end_ he r h
    refine ⟨.str z, rfl, ⟨_, rfl⟩, z, nlS, rfl, rfl, by rfl, by omega, fun l nl => ?_⟩
    generalize Txt.split z nlS = ls at *
    obtain ⟨ends, he⟩ : ∃ ends, ls.length = ends + 1 := ⟨ls.length - 1, by omega⟩
    obtain ⟨z0, h0⟩ : ∃ z0, ls[0]? = some z0 := ⟨ls[0]'(by omega), List.getElem?_eq_getElem (by omega)⟩
    have s1 : Same H (upd H l (.lst (ls.map V.str))) := same_new nl
    have hl : (upd H l (.lst (ls.map V.str))) l = some (.lst (ls.map V.str)) := upd_same
    generalize upd H l (.lst (ls.map V.str)) = H1 at *
    refine ⟨.ref l, rfl, l, _, rfl, .inl (SqL.of hl), (ls.map V.str).length, 1, rfl, rfl, ?_⟩
    rw [show (fun i j => V.int (i - j)) ((ls.map V.str).length : Int) 1 = V.int (ends : Int) by rw [List.length_map, he]; show V.int _ = _; congr 1; omega]
    refine ⟨.ref l, rfl, l, _, 0, .str z0, rfl, rfl, SqL.of hl, at_strs h0, T.aFIRST_LINES, litF lit_FIRST_LINES, z0, rfl, rfl, T.dg_FIRST_LINES w hw, _, rfl, ?_⟩
    cases hn : litF lit_FIRST_LINES z0 with
    | none => exact iteT ⟨_, rfl, fun e hne => q2 0 (eF h0 hn) e H1 s1 hne⟩
    | some n =>
      refine iteF ?_
      obtain ⟨n1, n3⟩ := first_of hn
      have g1 : ∀ {i j : Nat}, i = j → (i : Int) = j := fun h => by rw [h]
      refine ⟨.ref l, rfl, l, _, 0, .str z0, rfl, rfl, SqL.of hl, at_strs h0, T.aFIRST_LINES, z0, .int n, rfl, rfl, (T.dg_FIRST_LINES w hw).kd hn, fun x dx nx ndx ne => ?_⟩
      have sX : Same H1 (upd (upd H1 dx (.own x)) x (.ins T.Watcher.C dx [])) := (same_new ndx).trans (same_new (by rw [upd_ne ne.symm]; exact nx))
      refine ⟨x, x, dx, .int n, .int n, rfl, upd_same, .int _, fun n' en _ _ H2 lv lh d b' f1 f2 f3 hW => ⟨rfl, ?_⟩, fun bad e he => ?_⟩
      case refine_2 =>
        rw [btw_true n1 n3] at bad
        cases bad
      cases en
      have F2 : Fr H1 H2 x lv lh d := ⟨fun c o e => b' c o (sX c o e) (ne_of_none e nx), nx, sX.free f1, sX.free f2, sX.free f3⟩
      have W2 : WP T.Watcher.C H2 x lv lh d ⟨n, [(0, 0)], []⟩ := ⟨hW, ok_first n1 n3 (Int.le_refl 0) (by decide)⟩
      have FH : ∀ {H' : Hp}, Fr H1 H' x lv lh d → Fr H H' x lv lh d := fun F => ⟨s1.trans F.sm, s1.free F.x, s1.free F.v, s1.free F.h, s1.free F.d⟩
      refine ⟨fun σ H' => ∃ y4 pl, σ = [some (.str z), some (.ref l), some (.int ends), some (.ref x), y4] ∧ Fr H1 H' x lv lh d ∧ WP T.Watcher.C H' x lv lh d pl ∧ RdTo ls (max 1 ends) pl, ?_, ?_⟩
      · have big : (ends : Int) < 2 ^ 62 := by
          have : (100002 : Int) < 2 ^ 62 := by decide
          omega
        refine ⟨.int ends, rfl, 1, (ends : Int), rfl, ⟨by omega, by omega, by omega, big⟩, ?_⟩
        refine for_range (n := ((ends : Int) - 1).toNat) (fun i σ H' => ∃ y4 pl, σ = [some (.str z), some (.ref l), some (.int ends), some (.ref x), y4] ∧ Fr H1 H' x lv lh d ∧ WP T.Watcher.C H' x lv lh d pl ∧ RdTo ls (1 + i) pl) ?_ ?_ ?_
        · exact ⟨none, _, rfl, F2, W2, .zero h0 hn⟩
        · rintro i σ H3 hi ⟨y4, pl, rfl, F3, W3, R3⟩
          obtain ⟨zi, hzi⟩ : ∃ zi, ls[1 + i]? = some zi := ⟨ls[1 + i]'(by omega), List.getElem?_eq_getElem (by omega)⟩
          have hl3 := F3.sm _ _ hl
          have e1 : (1 : Int) + (i : Int) = ((1 + i : Nat) : Int) := by omega
          rw [e1]
          obtain ⟨okp, _, k1⟩ := R3.ok
          have lzi := pl3 zi (List.mem_of_getElem? hzi)
          refine ⟨.ref x, rfl, .int ((1 + i : Nat) : Int), rfl, .ref l, rfl, .int ((1 + i : Nat) : Int), rfl, l, _, ((1 + i : Nat) : Int), .str zi, rfl, rfl, SqL.of hl3, at_strs hzi, ?_⟩
          have kpF : ∀ {H' : Hp}, Kp3 lv lh d H3 H' → Fr H1 H' x lv lh d := fun k => ⟨fun c o e => k c o (F3.sm c o e) (ne_of_none e F3.v) (ne_of_none e F3.h) (ne_of_none e F3.d), F3.x, F3.v, F3.h, F3.d⟩
          refine ⟨x, lv, lh, d, pl, 1 + i, zi, rfl, W3, by omega, k1, fun P' H4 r k W4 => ⟨_, rfl, ?_⟩, fun no H4 k => ⟨_, rfl, ?_⟩⟩
          · exact iteF ⟨_, P', rfl, kpF k, W4, .step R3 hzi r⟩
          · exact iteT ⟨.int ((1 + i : Nat) : Int), rfl, .int ((1 + i : Nat) : Int), rfl, fun e hne => q2 _ (eL he (by omega) R3 hzi no) e H4 (FH (kpF k)).sm hne⟩
        · rintro σ H3 ⟨y4, pl, rfl, F3, W3, R3⟩
          refine ⟨y4, pl, rfl, F3, W3, ?_⟩
          rw [show max 1 ends = 1 + ((ends : Int) - 1).toNat by omega]
          exact R3
      rintro σ H3 ⟨y4, pl, rfl, F3, W3, R3⟩
      obtain ⟨ze, hze⟩ : ∃ ze, ls[ends]? = some ze := ⟨ls[ends]'(by omega), List.getElem?_eq_getElem (by omega)⟩
      have hl3 := F3.sm _ _ hl
      refine ⟨.int ends, rfl, rfl, _, rfl, ite2 (fun hb => ?_) (fun hb => ?_)⟩
      · have e1 : ends = 1 := by have := V.int.inj (of_decide_eq_true hb); omega
        exact ⟨.int ends, rfl, .int ends, rfl, fun e hne => q2 ends (eE he R3 (.inl (by omega))) e H3 (FH F3).sm hne⟩
      have ne1 : ends ≠ 1 := fun z => hb (decide_eq_true (by rw [z]; rfl))
      clear hb
      refine ⟨.ref l, rfl, .int ends, rfl, l, _, (ends : Int), .str ze, rfl, rfl, SqL.of hl3, at_strs hze, rfl, _, rfl, ite2 (fun hb => ?_) (fun hb => ?_)⟩
      · have e1 : ze ≠ Str.empty := fun z => by
          rw [z] at hb
          exact absurd hb (by decide)
        exact ⟨.int ends, rfl, .int ends, rfl, fun e hne => q2 ends (eE he R3 (.inr (by rw [hze]; exact fun z => e1 (Option.some.inj z)))) e H3 (FH F3).sm hne⟩
      · have e1 : ze = Str.empty := by
          rcases Classical.em (ze = Str.empty) with z | z
          · exact z
          · refine absurd ?_ hb
            rw [show Str.ofString "" = Str.empty from rfl, decide_eq_false (fun e => z (V.str.inj e))]
            rfl
        have e0 : ends ≠ 0 := by
          rintro rfl
          rw [h0] at hze
          cases hze
          rw [e1] at hn
          rw [show litF lit_FIRST_LINES Str.empty = none by decide +kernel] at hn
          cases hn
        have em : max 1 ends = ends := by omega
        rw [em] at R3
        exact ⟨.ref x, rfl, q1 pl ⟨ends, he, e0, ne1, R3, by rw [hze, e1]⟩ x lv lh d H3 (FH F3) W3⟩
end

open TL
/-! ### watchers written -/
def sp_format_watcher (C : Addr) : Sp := fun us H Q _ => ∃ (x lv lh d : Addr) (pl : Plan), us = [.ref x] ∧ WP C H x lv lh d pl ∧ ∀ H', Same H H' → Q (.str (pageOf (linesOf pl.words pl.kinds (sortP pl.rules)))) H'
theorem line200 : 200 ≤ sizeLine := by decide
theorem log_dg {i : Int} (h0 : 0 ≤ i) (h1 : i < 10) : i.natAbs.log2 < 1920 := by
  have h : i.natAbs < 16 := by omega
  have : i.natAbs.log2 < 4 := by
    rcases Nat.eq_zero_or_pos i.natAbs with z | z
    · rw [z]; decide
    · exact (Nat.log2_lt (by omega)).mpr (by omega)
  omega
theorem len_dg {i : Int} (h0 : 0 ≤ i) (h1 : i < 10) : (dgS i).length = 1 := by
  rw [len_tl, tl_dg h0 h1]
  rfl
theorem kvd_get {H : Hp} {kvs : List (List Key × V)} {R : Rows} (h : KvD H kvs R) {i : Nat} {k : List Key} {v : V} (e : kvs[i]? = some (k, v)) : ∃ d, R[i]? = some (k, d) ∧ TD H v d := by
  obtain ⟨r, e1, e2, e3⟩ := paired_get h e
  obtain ⟨a, b⟩ := r
  exact ⟨b, by rw [e1]; exact congrArg some (Prod.ext e2.symm rfl), e3⟩
theorem rows_get {R : List PRule} {i : Nat} {k : List Key} {d : PyData} (e : (rowsOf R)[i]? = some (k, d)) : ∃ r, R[i]? = some r ∧ k = r.1 ∧ d = ruleD r.2 := by
  unfold rowsOf at e
  rw [List.getElem?_map] at e
  obtain ⟨r, e1, e2⟩ := Option.map_eq_some_iff.mp e
  cases e2
  exact ⟨r, e1, rfl, rfl⟩
theorem KeyOk.len {k : Key} (h : KeyOk k) : (keyS k).length ≤ 5 := by
  rcases h with ⟨i, rfl, h0, h1⟩ | rfl | rfl
  · show (dgS i).length ≤ 5
    rw [len_dg h0 (by omega)]
    decide
  · decide +kernel
  · decide +kernel
theorem KeyOk.log {i : Int} (h : KeyOk (.inl i)) : i.natAbs.log2 < 1920 := by
  rcases h with ⟨j, e, h0, h1⟩ | e | e
  · cases e
    exact log_dg h0 (by omega)
  · cases e
  · cases e
/-- the parts that a rule's line is made of -/
def ruleKs (r : PRule) : List Key := kRu :: (r.1 ++ .inl r.2.1 :: r.2.2)
theorem ruleKs_S (r : PRule) : (ruleKs r).map keyS = ruleW r := by
  unfold ruleKs ruleW
  rw [List.map_cons, List.map_append, List.map_cons]
  rfl
theorem ruleKs_ok {r : PRule} (h : RuK r) {k : Key} (hk : k ∈ ruleKs r) : k = kRu ∨ KeyOk k := by
  obtain ⟨h1, h2, h3, h4⟩ := h
  unfold ruleKs at hk
  simp only [List.mem_cons, List.mem_append] at hk
  rcases hk with e | e | e | e
  · exact .inl e
  · exact .inr (h1 k e)
  · exact .inr (.inl ⟨_, e, h2, h3⟩)
  · exact .inr (h4 k e)
theorem sum_len {B : Nat} : ∀ ys : List Str, (∀ y ∈ ys, y.length ≤ B) → (ys.map (·.length)).sum ≤ ys.length * B
  | [], _ => by simp
  | y :: r, h => by
    have := sum_len r fun z hz => h z (List.mem_cons_of_mem _ hz)
    have h1 := h y List.mem_cons_self
    simp only [List.map_cons, List.sum_cons, List.length_cons, Nat.succ_mul]
    omega
theorem ruleW_fits {r : PRule} (h : RuK r) (l1 : r.1.length = 3) (l2 : r.2.2.length ≤ 3) : ((ruleW r).map (·.length)).sum + (ruleW r).length * spS.length ≤ 200 := by
  have e : spS.length = 1 := by decide +kernel
  have ll : (ruleW r).length ≤ 8 := by
    unfold ruleW
    simp only [List.length_cons, List.length_append, List.length_map]
    omega
  have := sum_len (B := 5) (ruleW r) fun y hy => by
    rw [← ruleKs_S] at hy
    obtain ⟨k, hk, rfl⟩ := List.mem_map.mp hy
    rcases ruleKs_ok h hk with rfl | hk
    · decide +kernel
    · exact hk.len
  rw [e]
  omega
theorem joinL_len (S : List Nat) : ∀ ps : List (List Nat), (joinL S ps).length ≤ (ps.map (·.length)).sum + ps.length * S.length
  | [] => Nat.zero_le _
  | [x] => by
    show x.length ≤ _
    simp only [List.map_cons, List.map_nil, List.sum_cons, List.sum_nil]
    omega
  | x :: y :: r => by
    show (x ++ (S ++ joinL S (y :: r))).length ≤ _
    have := joinL_len S (y :: r)
    simp only [List.length_append, List.map_cons, List.sum_cons, List.length_cons, Nat.succ_mul] at this ⊢
    omega
theorem join_len (y : Str) (ps : List Str) : (Txt.join y ps).length ≤ (ps.map (·.length)).sum + ps.length * y.length := by
  rw [len_tl, join_eq, tl_join]
  have := joinL_len (tl y) (ps.map tl)
  rw [List.map_map, List.length_map, ← len_tl] at this
  have e : ((fun l : List Nat => l.length) ∘ tl) = fun z : Str => z.length := funext fun z => (len_tl z).symm
  rw [e] at this
  exact this
theorem PlanOk.rk {P : Plan} (ok : PlanOk P) {r : PRule} (h : r ∈ P.rules) : RuK r ∧ r.1.length = 3 ∧ r.2.2.length ≤ 3 := by
  have rok := ok.r r h
  refine ⟨ruK_of ok.k ok.w.2 rok, ?_, ?_⟩
  · obtain ⟨i, j, t, e, _⟩ := rok
    rw [e]
    rfl
  · obtain ⟨i, j, t, e, _, _, _, _, _, _, _, so⟩ := rok
    have := so.len
    have := heldAt_le ok.k r.2.1
    omega
/-- each line is short -/
theorem line_len {P : Plan} (ok : PlanOk P) {z : Str} (h : z ∈ linesOf P.words P.kinds (sortP P.rules)) : z.length ≤ 200 := by
  unfold linesOf at h
  simp only [List.mem_cons, List.mem_append, List.mem_map] at h
  rcases h with rfl | ⟨k, hk, rfl⟩ | ⟨r, hr, rfl⟩
  · unfold wordsL
    rw [Str.length_append, len_dg (by have := ok.w; omega) (by have := ok.w; omega)]
    have e6 : (Str.ofString "words ").length = 6 := by decide +kernel
    omega
  · have b := ok.k.all k hk
    unfold stateL
    rw [Str.length_append, Str.length_append, Str.length_append, len_dg b.1 (by omega), len_dg b.2.2.1 (by omega)]
    have e6 : (Str.ofString "state ").length = 6 := by decide +kernel
    have e7 : spS.length = 1 := by decide +kernel
    omega
  · obtain ⟨ruk, l1, l2⟩ := ok.rk (sortP_mem ok.nd hr)
    unfold ruleL
    exact Nat.le_trans (join_len _ _) (ruleW_fits ruk l1 l2)
theorem lines_len {P : Plan} (ok : PlanOk P) : (linesOf P.words P.kinds (sortP P.rules)).length ≤ 80 := by
  unfold linesOf
  simp only [List.length_cons, List.length_append, List.length_map]
  have := ok.k.len.2
  have := rules_len ok.k ok.w.2 ok.r ok.nd
  have := sortP_len P.rules
  omega
/-- lines with their ends, joined, are short -/
theorem page_fits {ls : List Str} (h : ∀ z ∈ ls, z.length ≤ 200) (hl : ls.length ≤ 80) : ((ls.map (· ++ nlS)).map (·.length)).sum + (ls.map (· ++ nlS)).length * Str.empty.length ≤ 20000 := by
  have := sum_len (B := 201) (ls.map (· ++ nlS)) fun y hy => by
    obtain ⟨z, hz, rfl⟩ := List.mem_map.mp hy
    show (z ++ nlS).length ≤ 201
    rw [Str.length_append]
    have := h z hz
    have e7 : nlS.length = 1 := by decide +kernel
    omega
  have e0 : Str.empty.length = 0 := rfl
  rw [e0]
  rw [List.length_map] at this ⊢
  omega
section
variable {P : Program} {w : World} {K : PySem.W.Frag} {mg : Str → Option Value} {base : Heap}
abbrev N_format_watcher : List Str := ["watcher", "lines", "verdict", "held", "rule", "target", "sources", "part", "line"]
theorem sc_format_watcher : FnScope N_format_watcher ["watcher"] (defScope s_format_watcher) := ⟨rfl, rfl, rfl, by decide +kernel, rfl, by decide +kernel, by decide +kernel⟩
theorem G_format_watcher (T : Tx K mg) : FnG P w K mg base CX0 3 T.format_watcher.f T.format_watcher.fd ["watcher"] (sp_format_watcher T.Watcher.C) := by
  refine okG T.format_watcher.F sc_format_watcher (fun vs H Q E h => ?_) (fun cdv A outer s H vs Q E gd hr h => ?_)
  · obtain ⟨x, lv, lh, d, pl, rfl, _⟩ := h
    rfl
  · obtain ⟨x, lv, lh, d, pl, rfl, hW, q⟩ := h
    have L5 := line5
    refine ⟨_, 
      (C8.pss_cut (ps_set (i := 1) sc_format_watcher.nd rfl (.inl rfl) (pe_lst (pa_cons (pe_joinF (.cons pe_str (.cons (pe_fmt (pe_fld (pv 0) rfl)) .nil))) pa_nil))) -- lines = [f'words {watcher.words}']
      (C8.pss_cut (ps_for PassesOwn.never rfl (RZ.pi_zipA (by rfl) T.m_zip (pa_cons (pe_meth0G (pv 0) T.Watcher.cl T.Watcher_verdicts.M (G_Watcher_verdicts T) gd (hr.mono (by decide)) T.Watcher_verdicts.b .nil pass0) (pa_cons (pe_meth0G (pv 0) T.Watcher.cl T.Watcher_held_counts.M (G_Watcher_held_counts T) gd (hr.mono (by decide)) T.Watcher_held_counts.b .nil pass0) pa_nil))) (pg_tup rfl (pgs_cons (pg_name (i := 2) sc_format_watcher.nd rfl (.inl rfl)) (pgs_cons (pg_name (i := 3) sc_format_watcher.nd rfl (.inl rfl)) pgs_nil))) 
        (pss_one (ps_expr (pe_bm PySem.F.plainAttrs_list PySem.F.slot_list_append PySem.F.type_list_append mt_append (pv 1) (pa_cons (pe_joinF (.cons pe_str (.cons (pe_fmt (pv 2)) (.cons pe_str (.cons (pe_fmt (pv 3)) .nil))))) pa_nil)))) -- lines.append(f'state {verdict} {held}')
        ) -- for verdict, held in zip(watcher.verdicts(), watcher.held_counts()):
      (C8.pss_cut (ps_for PassesOwn.never rfl (pi_itemsL (pe_meth0G (pv 0) T.Watcher.cl T.Watcher_rules.M (G_Watcher_rules T) gd (hr.mono (by decide)) T.Watcher_rules.b .nil pass0)) (pg_tup rfl (pgs_cons (pg_name (i := 4) sc_format_watcher.nd rfl (.inl rfl)) (pgs_cons (pg_tup rfl (pgs_cons (pg_name (i := 5) sc_format_watcher.nd rfl (.inl rfl)) (pgs_cons (pg_name (i := 6) sc_format_watcher.nd rfl (.inl rfl)) pgs_nil))) pgs_nil))) 
        (pss_one (ps_expr (pe_bm PySem.F.plainAttrs_list PySem.F.slot_list_append PySem.F.type_list_append mt_append (pv 1) (pa_cons (pe_join pe_str (pe_lc (own := [("part", 7)]) (g := gName 7) rfl sc_format_watcher.nd (pi_tup (pe_tup (pa_cons pe_str (StX.pa_star (pv 4) (pa_cons (pv 5) (StX.pa_star (pv 6) pa_nil)))))) (blkOk_by (N := N_format_watcher) (sc := defScope s_format_watcher) (by decide +kernel)) (fun _ _ _ _ _ => (pg_name (i := 7) sc_format_watcher.nd rfl (.inl rfl))) (fun _ _ _ _ _ => pts_nil) (fun _ _ _ _ _ => (pe_callTy call_strK (by rfl) T.m_str (by decide +kernel) (pa_cons (pv 7) pa_nil))))) pa_nil)))) -- lines.append(' '.join([str(part) for part in ('rule', *rule, target, *sources)]))
        ) -- for rule, (target, sources) in watcher.rules().items():
      (pss_one (ps_ret (pe_join pe_str (pe_lc (own := [("line", 8)]) (g := gName 8) rfl sc_format_watcher.nd (pi_list (pv 1)) (blkOk_by (N := N_format_watcher) (sc := defScope s_format_watcher) (by decide +kernel)) (fun _ _ _ _ _ => (pg_name (i := 8) sc_format_watcher.nd rfl (.inl rfl))) (fun _ _ _ _ _ => pts_nil) (fun _ _ _ _ _ => (pe_joinF (.cons (pe_fmt (pv 8)) (.cons pe_str .nil)))))))) -- return ''.join([f'{line}\n' for line in lines])
      ))) , ?_⟩
    obtain ⟨dx, hx⟩ := hW.w.ins
    refine ⟨fun σ H' => ∃ l y2 y3 y4 y5 y6 y7 y8, σ = [some (.ref x), some (.ref l), y2, y3, y4, y5, y6, y7, y8] ∧ Same H H' ∧ H l = none ∧ H' l = some (.lst [.str (wordsL pl.words)]), ?_, ?_⟩
    · have L2 := line200
      have hw := hW.ok.w
      refine ⟨_, rfl, ?_, .ref x, rfl, x, T.Watcher.C, dx, _, .int pl.words, rfl, hx, T.Watcher.cl, T.W.n1, rfl, .inr ⟨pl.words, rfl, log_dg (by omega) (by omega), _, rfl, ?_, ?_⟩⟩
      · rw [Str.empty_append]
        exact Nat.le_trans (by decide +kernel) L2
      · rw [Str.empty_append, Str.length_append]
        have := len_dg (i := pl.words) (by omega) (by omega)
        unfold dgS at this
        have e6 : (Str.ofString "words ").length = 6 := by decide +kernel
        omega
      · rw [Str.empty_append]
        refine ⟨by show 1 ≤ sizeLine; decide, fun l nl => ?_⟩
        exact ⟨l, none, none, none, none, none, none, none, rfl, same_new nl, nl, upd_same⟩
    rintro σ H1 ⟨l, y2, y3, y4, y5, y6, y7, y8, rfl, s1, nl, hl⟩
    refine ⟨fun σ H' => ∃ y2 y3 y4 y5 y6 y7 y8, σ = [some (.ref x), some (.ref l), y2, y3, y4, y5, y6, y7, y8] ∧ Same H H' ∧ H' l = some (.lst ((wordsL pl.words :: pl.kinds.map stateL).map V.str)), ?_, ?_⟩
    · have hW1 := hW.mono s1
      have hx1 := s1 _ _ hx
      refine ⟨.ref x, rfl, x, dx, _, rfl, hx1, rfl, x, lv, lh, d, _, _, _, _, rfl, hW1.w, fun ta na => ?_⟩
      have sa : Same H1 (upd H1 ta (.tup ((pl.kinds.map (·.1)).map V.int))) := same_new na
      have hta : (upd H1 ta (.tup ((pl.kinds.map (·.1)).map V.int))) ta = some (.tup ((pl.kinds.map (·.1)).map V.int)) := upd_same
      generalize upd H1 ta (.tup ((pl.kinds.map (·.1)).map V.int)) = H2 at *
      refine ⟨.ref x, rfl, x, dx, _, rfl, sa _ _ hx1, rfl, x, lv, lh, d, _, _, _, _, rfl, (hW1.mono sa).w, fun tb nb => ?_⟩
      have sb : Same H2 (upd H2 tb (.tup ((pl.kinds.map (·.2)).map V.int))) := same_new nb
      have htb : (upd H2 tb (.tup ((pl.kinds.map (·.2)).map V.int))) tb = some (.tup ((pl.kinds.map (·.2)).map V.int)) := upd_same
      have hta := sb _ _ hta
      have s3 := (s1.trans sa).trans sb
      have hl3 := sb _ _ (sa _ _ hl)
      generalize upd H2 tb (.tup ((pl.kinds.map (·.2)).map V.int)) = H3 at *
      have fr3 : ∀ {c : Addr} {o : HO}, H c = some o → c ≠ l := fun e => ne_of_none e nl
      refine ⟨ta, tb, _, _, rfl, .inr ⟨SqT.of hta, SqT.of htb, ?_⟩⟩
      have nal : ta ≠ l := ne_of hta hl3 (fun z => nomatch z)
      have nbl : tb ≠ l := ne_of htb hl3 (fun z => nomatch z)
      refine RZ.for_zipT (K := K) (a := ta) (b := tb) (xs := (pl.kinds.map (·.1)).map V.int) (ys := (pl.kinds.map (·.2)).map V.int) (by rw [List.length_map, List.length_map, List.length_map, List.length_map]) (fun i σ H' => ∃ y2 y3, σ = [some (.ref x), some (.ref l), y2, y3, y4, y5, y6, y7, y8] ∧ (∀ c o, H3 c = some o → c ≠ l → H' c = some o) ∧ H' l = some (.lst ((wordsL pl.words :: (pl.kinds.take i).map stateL).map V.str))) ?_ ?_ ?_ ?_
      · exact ⟨y2, y3, rfl, fun c o e _ => e, hl3⟩
      · rintro i σ H' ⟨y2, y3, rfl, k, h'⟩
        exact ⟨SqT.of (k _ _ hta nal), SqT.of (k _ _ htb nbl)⟩
      · rintro i a b TT σ H' ea eb ⟨y2, y3, rfl, k, h'⟩ nT
        rw [List.map_map, List.getElem?_map] at ea
        rw [List.map_map] at eb
        obtain ⟨m, em, ea⟩ := Option.map_eq_some_iff.mp ea
        have ea : V.int m.1 = a := ea
        subst ea
        rw [List.getElem?_map, em] at eb
        have eb : V.int m.2 = b := Option.some.inj eb
        subst eb
        have bm := hW.ok.k.all m (List.mem_of_getElem? em)
        have sT : Same H' (upd H' TT (.tup [.int m.1, .int m.2])) := same_new nT
        have hT : (upd H' TT (.tup [.int m.1, .int m.2])) TT = some (.tup [.int m.1, .int m.2]) := upd_same
        refine ⟨TT, [.int m.1, .int m.2], rfl, SqT.of hT, rfl, .int m.1, [.int m.2], rfl, .int m.2, [], rfl, rfl, ?_⟩
        have h2 := sT _ _ h'
        have k2 : ∀ c o, H3 c = some o → c ≠ l → (upd H' TT (.tup [.int m.1, .int m.2])) c = some o := fun c o e n => sT _ _ (k c o e n)
        generalize upd H' TT (.tup [.int m.1, .int m.2]) = H4 at *
        have L2 := line200
        have e1 := len_dg (i := m.1) bm.1 (by omega)
        have e2 := len_dg (i := m.2) bm.2.2.1 (by omega)
        unfold dgS at e1 e2
        have e6 : (Str.ofString "state ").length = 6 := by decide +kernel
        have e7 : (Str.ofString " ").length = 1 := by decide +kernel
        refine ⟨.ref l, rfl, .inl ⟨rfl, _, SqL.of h2⟩, _, rfl, ?_, .int m.1, rfl, .inr ⟨m.1, rfl, log_dg bm.1 (by omega), _, rfl, ?_, _, rfl, ?_, .int m.2, rfl, .inr ⟨m.2, rfl, log_dg bm.2.2.1 (by omega), _, rfl, ?_, ?_⟩⟩⟩
        · rw [Str.empty_append]
          omega
        · rw [Str.empty_append, Str.length_append]
          omega
        · rw [Str.empty_append, Str.length_append, Str.length_append]
          omega
        · rw [Str.empty_append, Str.length_append, Str.length_append, Str.length_append]
          omega
        · rw [Str.empty_append]
          have l6 := hW.ok.k.len.2
          refine ⟨l, _, .str (stateL m), rfl, rfl, h2, ?_, _, _, rfl, ?_, ?_⟩
          · rw [List.length_map, List.length_cons, List.length_map]
            have := List.length_take_le' i pl.kinds
            omega
          · intro c o e n
            rw [upd_ne n]
            exact k2 c o e n
          · rw [upd_same, List.take_add_one, em, List.map_append]
            simp
      · rintro σ H' ⟨y2, y3, rfl, k, h'⟩
        rw [List.length_map, List.length_map, List.take_length] at h'
        exact ⟨y2, y3, y4, y5, y6, y7, y8, rfl, fun c o e => k c o (s3 c o e) (fr3 e), h'⟩
    rintro σ H2 ⟨y2, y3, y4, y5, y6, y7, y8, rfl, s2, hl2⟩
    refine ⟨fun σ H' => ∃ y2 y3 y4 y5 y6 y7 y8, σ = [some (.ref x), some (.ref l), y2, y3, y4, y5, y6, y7, y8] ∧ Same H H' ∧ H' l = some (.lst ((linesOf pl.words pl.kinds (sortP pl.rules)).map V.str)), ?_, ?_⟩
    · have hW2 := hW.mono s2
      have hx2 := s2 _ _ hx
      refine ⟨.ref x, rfl, x, dx, _, rfl, hx2, rfl, x, lv, lh, d, _, _, _, _, rfl, hW2.w, fun t H3 kvs s3 nt ht hkv => ?_⟩
      refine ⟨t, kvs, rfl, ht, fun o => ?_⟩
      rw [← sortP_rows hW.ok.nd] at hkv
      have hl3 := s3 _ _ hl2
      have ntl : t ≠ l := ne_of ht hl3 (fun z => nomatch z)
      have k4 : ∀ c ob, H2 c = some ob → (upd H3 t (.frz o (.dT kvs))) c = some ob := fun c ob e => by
        rw [upd_ne (ne_of_none e nt)]
        exact s3 _ _ e
      have tp4 : Tups H3 (upd H3 t (.frz o (.dT kvs))) := Tups.put ht (fun _ z => by cases z)
      have hkv4 := hkv.mono tp4
      have ht4 : (upd H3 t (.frz o (.dT kvs))) t = some (.frz o (.dT kvs)) := upd_same
      have hl4 := k4 _ _ hl2
      generalize upd H3 t (.frz o (.dT kvs)) = H4 at *
      have lk : kvs.length = (sortP pl.rules).length := by
        have := Paired.length hkv
        rw [this]
        unfold rowsOf
        rw [List.length_map]
      have l72 := rules_len hW.ok.k hW.ok.w.2 hW.ok.r hW.ok.nd
      have lS := sortP_len pl.rules
      refine for_it walk_itemsT (fun i σ H' => ∃ y4 y5 y6 y7, σ = [some (.ref x), some (.ref l), y2, y3, y4, y5, y6, y7, y8] ∧ (∀ c ob, H4 c = some ob → c ≠ l → H' c = some ob) ∧ H' l = some (.lst ((linesOf pl.words pl.kinds ((sortP pl.rules).take i)).map V.str))) ?_ ?_ ?_ ?_
      · exact ⟨y4, y5, y6, y7, rfl, fun c ob e _ => e, by rw [hl4, List.take_zero]; unfold linesOf; rw [List.map_nil, List.append_nil]⟩
      · rintro i σ H' hi ⟨y4, y5, y6, y7, rfl, k, h'⟩
        exact k _ _ ht4 ntl
      · rintro i y σ H5 H6 hi ⟨y4, y5, y6, y7, rfl, k5, h5⟩ ⟨TT, kk, v, qa, ekv, rfl, hqa, nT, rfl⟩
        have tp5 : Tups H4 H5 := fun c xs e => k5 c _ e (ne_of e hl4 (fun z => nomatch z))
        obtain ⟨dd, hR, tdv⟩ := kvd_get (hkv4.mono tp5) ekv
        obtain ⟨r, er, rfl, rfl⟩ := rows_get hR
        have s6 : Same H5 (upd H5 TT (.tup [.ref qa, v])) := same_new nT
        have hT : (upd H5 TT (.tup [.ref qa, v])) TT = some (.tup [.ref qa, v]) := upd_same
        obtain ⟨ba, bs, rfl, hba, hbs⟩ := (tdv.mono (Tups.same s6)).rule
        have hq6 := s6 _ _ hqa
        have h6 := s6 _ _ h5
        have k6 : ∀ c ob, H4 c = some ob → c ≠ l → (upd H5 TT (.tup [.ref qa, .ref ba])) c = some ob := fun c ob e n => s6 _ _ (k5 c ob e n)
        generalize upd H5 TT (.tup [.ref qa, .ref ba]) = H6 at *
        have rok := hW.ok.r r (sortP_mem hW.ok.nd (List.mem_of_getElem? er))
        have ruk := ruK_of hW.ok.k hW.ok.w.2 rok
        have l1 : r.1.length = 3 := by
          obtain ⟨i, j, t, e, _⟩ := rok
          rw [e]
          rfl
        have l2 : r.2.2.length ≤ 3 := by
          obtain ⟨i, j, t, e, _, _, _, _, _, _, _, so⟩ := rok
          have := so.len
          have := heldAt_le hW.ok.k r.2.1
          omega
        refine ⟨TT, _, rfl, SqT.of hT, rfl, .ref qa, [.ref ba], rfl, .ref ba, [], rfl, ba, _, rfl, SqT.of hba, rfl, .int r.2.1, [.ref bs], rfl, .ref bs, [], rfl, rfl, rfl, ?_⟩
        refine ⟨.ref l, rfl, .inl ⟨rfl, _, SqL.of h6⟩, ⟨_, rfl⟩, .ref qa, rfl, qa, _, rfl, .inl (SqT.of hq6), .int r.2.1, rfl, .ref bs, rfl, bs, _, rfl, .inl (SqT.of hbs), ?_, fun U nU => ?_⟩
        · simp only [List.length_cons, List.length_append, List.length_map, List.length_nil]
          omega
        · have eU : (V.str (Str.ofString "rule") :: (r.1.map kV ++ V.int r.2.1 :: (r.2.2.map kV ++ []))) = (ruleKs r).map kV := by
            unfold ruleKs
            rw [List.append_nil, List.map_cons, List.map_append, List.map_cons]
            rfl
          rw [eU]
          have sU : Same H6 (upd H6 U (.tup ((ruleKs r).map kV))) := same_new nU
          have hU : (upd H6 U (.tup ((ruleKs r).map kV))) U = some (.tup ((ruleKs r).map kV)) := upd_same
          have h7 := sU _ _ h6
          have k7 : ∀ c ob, H4 c = some ob → c ≠ l → (upd H6 U (.tup ((ruleKs r).map kV))) c = some ob := fun c ob e n => sU _ _ (k6 c ob e n)
          generalize upd H6 U (.tup ((ruleKs r).map kV)) = H7 at *
          refine ⟨U, rfl, ⟨_, SqT.of hU⟩, fun D nD => ?_⟩
          have nDl : l ≠ D := ne_of_none h7 nD
          refine lc_tup (K := K) (a := U) (xs := (ruleKs r).map kV) (fun j H' => Same H7 H' ∧ H' D = some (.lst ((((ruleKs r).take j).map keyS).map V.str))) ?_ ?_ ?_ ?_
          · exact ⟨same_new nD, upd_same⟩
          · rintro j H8 hj ⟨s8, hD⟩
            exact SqT.of (s8 _ _ hU)
          · rintro j y H8 hj ⟨s8, hD⟩
            rw [List.getElem?_map] at hj
            obtain ⟨k, hk, rfl⟩ := Option.map_eq_some_iff.mp hj
            have kok := ruleKs_ok ruk (List.mem_of_getElem? hk)
            have lks : (ruleKs r).length ≤ 8 := by
              unfold ruleKs
              simp only [List.length_cons, List.length_append]
              omega
            have fin : ∃ acc, H8 D = some (.lst acc) ∧ acc.length < sizeLine ∧ (Same H7 (upd H8 D (.lst (acc ++ [.str (keyS k)]))) ∧ (upd H8 D (.lst (acc ++ [.str (keyS k)]))) D = some (.lst ((((ruleKs r).take (j + 1)).map keyS).map V.str))) := by
              refine ⟨_, hD, ?_, ?_, ?_⟩
              · rw [List.length_map, List.length_map]
                have := List.length_take_le' j (ruleKs r)
                omega
              · intro b o e
                rw [upd_ne (ne_of_none e nD)]
                exact s8 _ _ e
              · rw [upd_same, List.take_add_one, hk, List.map_append, List.map_append]
                rfl
            cases k with
            | inl n =>
              refine ⟨rfl, .int n, rfl, .inl ⟨n, rfl, ?_, fin⟩⟩
              rcases kok with z | z
              · cases z
              · exact z.log
            | inr s' => exact ⟨rfl, .str s', rfl, .inr ⟨s', rfl, fin⟩⟩
          · rintro H8 ⟨s8, hD⟩
            rw [List.length_map, List.take_length, ruleKs_S] at hD
            have fits := ruleW_fits ruk l1 l2
            refine ⟨_, D, ruleW r, rfl, rfl, .inl (SqL.of hD), Nat.le_trans fits (by decide), ?_⟩
            have h8 := s8 _ _ h7
            refine ⟨l, _, .str (ruleL r), rfl, rfl, h8, ?_, _, _, _, _, rfl, ?_, ?_⟩
            · rw [List.length_map]
              unfold linesOf
              simp only [List.length_cons, List.length_append, List.length_map]
              have := hW.ok.k.len
              have := List.length_take_le' i (sortP pl.rules)
              omega
            · intro c ob e n
              rw [upd_ne n]
              exact s8 _ _ (k7 c ob e n)
            · rw [upd_same, List.take_add_one, er]
              unfold linesOf
              simp
      · rintro σ H' ⟨y4, y5, y6, y7, rfl, k, h'⟩
        rw [lk, List.take_length] at h'
        exact ⟨y2, y3, y4, y5, y6, y7, y8, rfl, fun c ob e => k c ob (k4 _ _ (s2 c ob e)) (ne_of_none e nl), h'⟩
    rintro σ H3 ⟨y2, y3, y4, y5, y6, y7, y8, rfl, s3, hl3⟩
    have hll : ∀ z ∈ linesOf pl.words pl.kinds (sortP pl.rules), z.length ≤ 200 := fun z hz => line_len hW.ok hz
    have hln := lines_len hW.ok
    unfold pageOf at q
    generalize linesOf pl.words pl.kinds (sortP pl.rules) = ls at *
    refine ⟨⟨_, rfl⟩, .ref l, rfl, l, rfl, ⟨_, SqL.of hl3⟩, fun D nD => ?_⟩
    refine lc_list (K := K) (a := l) (xs := ls.map V.str) (fun j H' => Same H3 H' ∧ H' D = some (.lst (((ls.take j).map (· ++ nlS)).map V.str))) ?_ ?_ ?_ ?_
    · exact ⟨same_new nD, upd_same⟩
    · rintro j H4 hj ⟨s4, hD⟩
      exact SqL.of (s4 _ _ hl3)
    · rintro j y H4 hj ⟨s4, hD⟩
      rw [List.getElem?_map] at hj
      obtain ⟨z, hz, rfl⟩ := Option.map_eq_some_iff.mp hj
      have lz := hll z (List.mem_of_getElem? hz)
      have e7 : (Str.ofString "\n").length = 1 := by decide +kernel
      refine ⟨rfl, .str z, rfl, .inl ⟨z, rfl, by omega, _, rfl, ?_, _, rfl, ?_, ?_⟩⟩
      · rw [Str.empty_append]
        omega
      · rw [Str.empty_append, Str.length_append]
        omega
      · rw [Str.empty_append]
        refine ⟨_, hD, ?_, ?_, ?_⟩
        · rw [List.length_map, List.length_map]
          have := List.length_take_le' j ls
          omega
        · intro b o e
          rw [upd_ne (ne_of_none e nD)]
          exact s4 _ _ e
        · rw [upd_same, List.take_add_one, hz, List.map_append, List.map_append]
          rfl
    · rintro H4 ⟨s4, hD⟩
      rw [List.length_map, List.take_length] at hD
      refine ⟨_, D, ls.map (· ++ nlS), rfl, rfl, .inl (SqL.of hD), Nat.le_trans (page_fits hll hln) (by decide), q _ (s3.trans s4)⟩
end

/-! ### messages, streams -/
def big60 : Int := 10 ^ 60 - 1
def isMsg (d : PyData) (w : Int) : Bool := match d with
  | .tuple [a, b] => btw a 0 (w - 1) && btw b (-big60) big60
  | _ => false
def isStrm (d : PyData) (w : Int) : Bool := match d with
  | .tuple ds => ds.all fun m => isMsg m w
  | _ => false
def sp_is_message_value : Sp := fun vs H Q _ => ∃ (p : Addr) (v : V) (d : PyData), vs = [v] ∧ LD p H v d ∧ Q (.bl (btw d (-big60) big60)) H
def sp_is_message : Sp := fun vs H Q _ => ∃ (p : Addr) (v : V) (d : PyData) (w : Int), vs = [v, .int w] ∧ LD p H v d ∧ Q (.bl (isMsg d w)) H
def sp_is_stream : Sp := fun vs H Q _ => ∃ (p : Addr) (v : V) (d : PyData) (w : Int), vs = [v, .int w] ∧ LD p H v d ∧ Q (.bl (isStrm d w)) H
def sp_require_stream (C : Addr) : Sp := fun vs H Q E => ∃ (p : Addr) (v : V) (d : PyData) (w : Int), vs = [v, .int w] ∧ LD p H v d ∧
  (isStrm d w = true → Q v H) ∧ (isStrm d w = false → ∀ e : Addr, H e = none → E (.ref C) (some e) (upd H e (.xd [(("value" : Str), v)])))
section
variable {P : Program} {w : World} {K : PySem.W.Frag} {mg : Str → Option Value} {base : Heap}
abbrev N_is_message_value : List Str := ["value", "most"]
theorem sc_is_message_value : FnScope N_is_message_value ["value"] (defScope s_is_message_value) := ⟨rfl, rfl, rfl, by decide +kernel, rfl, by decide +kernel, by decide +kernel⟩
theorem ok_is_message_value {f f_is_between : Addr} {fd fd_is_between : FuncData} (F : Fun K "is_message_value" "is_message_value" s_is_message_value f fd) (F_is_between : Fun K "is_between" "is_between" s_is_between f_is_between fd_is_between) (b_is_between : Binds K fd_is_between ["value", "low", "high"] [])
    (g_is_between : mg "is_between" = some (.ref f_is_between)) (G_is_between : FnG P w K mg base CX0 2 f_is_between fd_is_between ["value", "low", "high"] sp_is_between) : FnG P w K mg base CX0 3 f fd ["value"] sp_is_message_value := by
  refine okG F sc_is_message_value (fun vs H Q E h => ?_) (fun cdv A outer s H vs Q E gd hr h => ?_)
  · obtain ⟨p, v, d, rfl, _⟩ := h
    rfl
  · obtain ⟨p, v, d, rfl, hv, q⟩ := h
    refine ⟨_, 
      (pss_cons (ps_set (i := 1) sc_is_message_value.nd rfl (.inl rfl) (pe_op op_sub (pe_op op_pow pe_int pe_int) pe_int)) -- most = 10 ** 60 - 1
      (pss_one (ps_ret (pe_callG G_is_between gd (hr.mono (by decide)) rfl g_is_between F_is_between.kp b_is_between .nil pass0 (pa_cons (pv 0) (pa_cons (pe_un un_neg (pv 1)) (pa_cons (pv 1) pa_nil)))))) -- return is_between(value, -most, most)
      ) , ?_⟩
    refine ⟨10, 60, rfl, rfl, ⟨by decide, by decide, by decide⟩, _, _, rfl, rfl, ?_⟩
    exact ⟨v, rfl, .int big60, rfl, big60, rfl, .int big60, rfl, p, v, d, -big60, big60, rfl, hv, q⟩
abbrev N_is_message : List Str := ["message", "words", "word", "value"]
theorem sc_is_message : FnScope N_is_message ["message", "words"] (defScope s_is_message) := ⟨rfl, rfl, rfl, by decide +kernel, rfl, by decide +kernel, by decide +kernel⟩
theorem ok_is_message {f f_is_between f_is_message_value : Addr} {fd fd_is_between fd_is_message_value : FuncData} (F : Fun K "is_message" "is_message" s_is_message f fd) (F_is_between : Fun K "is_between" "is_between" s_is_between f_is_between fd_is_between) (b_is_between : Binds K fd_is_between ["value", "low", "high"] [])
    (F_is_message_value : Fun K "is_message_value" "is_message_value" s_is_message_value f_is_message_value fd_is_message_value) (b_is_message_value : Binds K fd_is_message_value ["value"] []) (g_is_message_value : mg "is_message_value" = some (.ref f_is_message_value))
    (g_is_between : mg "is_between" = some (.ref f_is_between)) (G_is_between : FnG P w K mg base CX0 2 f_is_between fd_is_between ["value", "low", "high"] sp_is_between) (m_isinstance : mg "isinstance" = none) (m_tuple : mg "tuple" = none) (m_len : mg "len" = none) : FnG P w K mg base CX0 4 f fd ["message", "words"] sp_is_message := by
  have G_is_message_value : FnG P w K mg base CX0 3 f_is_message_value fd_is_message_value ["value"] sp_is_message_value := ok_is_message_value F_is_message_value F_is_between b_is_between g_is_between G_is_between
  refine okG F sc_is_message (fun vs H Q E h => ?_) (fun cdv A outer s H vs Q E gd hr h => ?_)
  · obtain ⟨p, v, d, w, rfl, _⟩ := h
    rfl
  · obtain ⟨p, v, d, w, rfl, hv, q⟩ := h
    refine ⟨_, 
      (pss_cons (ps_if (PW.pt (pw_or (pt_not (pt_val (pe_callB (call_isL kit_tup) (by rfl) m_isinstance (by decide +kernel) (pa_cons (pv 0) (pa_cons (pe_bltn (v := .ty "tuple") (by rfl) m_tuple (by decide +kernel) (show RelV (.ty "tuple") (.type "tuple") from rfl)) pa_nil))))) (pw_or1 (pt_cmpR op_ne (pe_callB call_len_seq (by rfl) m_len PySem.boot_len (pa_cons (pv 0) pa_nil)) pe_int (nomark _))))) 
        (pss_one (ps_ret pe_bl)) -- return False
         pss_nil) -- if not isinstance(message, tuple) or len(message) != 2:
      (pss_cons (ps_asg (pv 0) (pg_tup rfl (pgs_cons (pg_name (i := 2) sc_is_message.nd rfl (.inl rfl)) (pgs_cons (pg_name (i := 3) sc_is_message.nd rfl (.inl rfl)) pgs_nil)))) -- word, value = message
      (pss_one (ps_ret (pe_and (pe_callG G_is_between gd (hr.mono (by decide)) rfl g_is_between F_is_between.kp b_is_between .nil pass0 (pa_cons (pv 2) (pa_cons pe_int (pa_cons (pe_op op_sub (pv 1) pe_int) pa_nil)))) (pe_one (pe_callG G_is_message_value gd (hr.mono (by decide)) rfl g_is_message_value F_is_message_value.kp b_is_message_value .nil pass0 (pa_cons (pv 3) pa_nil)))))) -- return is_between(word, 0, words - 1) and is_message_value(value)
      )) , ?_⟩
    refine ⟨v, rfl, p, v, d, rfl, hv, _, rfl, ?_⟩
    cases hv with
    | @tup a xs ds na ha hs =>
      refine ⟨.ref a, rfl, a, xs, rfl, .inr (SqT.of ha), rfl, _, rfl, ?_⟩
      have lx := hs.length
      cases hs with
      | nil => exact q
      | @cons v1 r1 d1 e1 h1 hs =>
        cases hs with
        | nil => exact q
        | @cons v2 r2 d2 e2 h2 hs =>
          cases hs with
          | @cons v3 r3 d3 e3 h3 hs =>
            have ne : V.int ((v1 :: v2 :: v3 :: r3).length : Nat) ≠ V.int 2 := fun z => by
              have z' := V.int.inj z
              simp only [List.length_cons] at z'
              omega
            rw [decide_eq_false ne]
            exact q
          | nil =>
            refine iteF ?_
            refine ⟨.ref a, rfl, a, [v1, v2], rfl, SqT.of ha, rfl, v1, [v2], rfl, v2, [], rfl, rfl, ?_⟩
            refine ⟨v1, rfl, .int w, rfl, w, 1, rfl, rfl, p, v1, d1, 0, w - 1, rfl, h1, _, rfl, ?_⟩
            have q' : Q (.bl (btw d1 0 (w - 1) && btw d2 (-big60) big60)) H := q
            cases hb : btw d1 0 (w - 1) with
            | false =>
              rw [hb] at q'
              exact q'
            | true =>
              rw [hb] at q'
              exact ⟨v2, rfl, p, v2, d2, rfl, h2, q'⟩
    | _ => exact q
abbrev N_is_stream : List Str := ["value", "words", "message"]
theorem sc_is_stream : FnScope N_is_stream ["value", "words"] (defScope s_is_stream) := ⟨rfl, rfl, rfl, by decide +kernel, rfl, by decide +kernel, by decide +kernel⟩
theorem ok_is_stream {f f_is_message : Addr} {fd fd_is_message : FuncData} (F : Fun K "is_stream" "is_stream" s_is_stream f fd) (F_is_message : Fun K "is_message" "is_message" s_is_message f_is_message fd_is_message) (b_is_message : Binds K fd_is_message ["message", "words"] [])
    (g_is_message : mg "is_message" = some (.ref f_is_message)) (G_is_message : FnG P w K mg base CX0 4 f_is_message fd_is_message ["message", "words"] sp_is_message) (m_isinstance : mg "isinstance" = none) (m_tuple : mg "tuple" = none) :
    FnG P w K mg base CX0 5 f fd ["value", "words"] sp_is_stream := by
  refine okG F sc_is_stream (fun vs H Q E h => ?_) (fun cdv A outer s H vs Q E gd hr h => ?_)
  · obtain ⟨p, v, d, w, rfl, _⟩ := h
    rfl
  · obtain ⟨p, v, d, w, rfl, hv, q⟩ := h
    refine ⟨_, 
      (pss_cons (ps_if (pt_not (pt_val (pe_callB (call_isL kit_tup) (by rfl) m_isinstance (by decide +kernel) (pa_cons (pv 0) (pa_cons (pe_bltn (v := .ty "tuple") (by rfl) m_tuple (by decide +kernel) (show RelV (.ty "tuple") (.type "tuple") from rfl)) pa_nil)))))
        (pss_one (ps_ret pe_bl))
         pss_nil) -- if not isinstance(value, tuple): return False
      (pss_cons (ps_for PassesOwn.never rfl (pi_tup (pv 0)) (pg_name (i := 2) sc_is_stream.nd rfl (.inl rfl))
        (pss_one (ps_if (pt_not (pt_val (pe_callG G_is_message gd (hr.mono (by decide)) rfl g_is_message F_is_message.kp b_is_message .nil pass0 (pa_cons (pv 2) (pa_cons (pv 1) pa_nil)))))
          (pss_one (ps_ret pe_bl))
           pss_nil))) -- for message in value: if not is_message(message, words): return False
      (pss_one (ps_ret pe_bl)) -- return True
      )), ?_⟩
    refine ⟨v, rfl, p, v, d, rfl, hv, _, rfl, ?_⟩
    have hv0 := hv
    cases hv with
    | @tup a xs ds na ha hs =>
      refine ⟨.ref a, rfl, a, rfl, ⟨_, SqT.of ha⟩, ?_⟩
      refine for_tup (K := K) (a := a) (xs := xs) (fun i σ H' => ∃ y : Option V, σ = [some (.ref a), some (.int w), y] ∧ H' = H ∧ (ds.take i).all (fun m => isMsg m w) = true) ?_ ?_ ?_ ?_
      · exact ⟨none, rfl, rfl, rfl⟩
      · rintro i σ H' hi ⟨y, rfl, rfl, ok⟩
        exact SqT.of ha
      · rintro i x σ H' hi ⟨y, rfl, rfl, ok⟩
        obtain ⟨m, em, hm⟩ := hs.get hi
        refine ⟨x, rfl, .int w, rfl, p, x, m, w, rfl, hm, _, rfl, ?_⟩
        cases hb : isMsg m w with
        | true =>
          refine ⟨_, rfl, rfl, ?_⟩
          rw [List.take_add_one, em, List.all_append, ok]
          simp [hb]
        | false =>
          have e : isStrm (.tuple ds) w = false := by
            show ds.all (fun m => isMsg m w) = false
            rw [← List.take_append_drop (i + 1) ds, List.take_add_one, em, List.all_append, List.all_append]
            simp [hb]
          rw [e] at q
          exact q
      · rintro σ H' ⟨y, rfl, rfl, ok⟩
        rw [hs.length, List.take_length] at ok
        have e : isStrm (.tuple ds) w = true := ok
        rw [e] at q
        exact q
    | _ => exact q
abbrev N_require_stream : List Str := ["value", "words"]
theorem sc_require_stream : FnScope N_require_stream ["value", "words"] (defScope s_require_stream) := ⟨rfl, rfl, rfl, by decide +kernel, rfl, by decide +kernel, by decide +kernel⟩
theorem ok_require_stream {f f_is_stream C fI : Addr} {fd fd_is_stream : FuncData} {qual : Str} {b : OwnE.Base} (F : Fun K "require_stream" "require_stream" s_require_stream f fd) (F_is_stream : Fun K "is_stream" "is_stream" s_is_stream f_is_stream fd_is_stream) (b_is_stream : Binds K fd_is_stream ["value", "words"] [])
    (g_is_stream : mg "is_stream" = some (.ref f_is_stream)) (G_is_stream : FnG P w K mg base CX0 5 f_is_stream fd_is_stream ["value", "words"] sp_is_stream) (T : L2.ErrOk b "NotAStream" "value" qual K mg C fI) :
    FnG P w K mg base (L2.CX P w) 6 f fd ["value", "words"] (sp_require_stream C) := by
  refine okGX F sc_require_stream (fun vs H Q E h => ?_) (fun cdv A outer s H vs Q E gd hr h => ?_)
  · obtain ⟨p, v, d, w, rfl, _⟩ := h
    rfl
  · obtain ⟨p, v, d, w, rfl, hv, q1, q2⟩ := h
    have hr1 : Room 1 _ := hr.mono (by decide)
    refine ⟨_, 
      (pss_cons (ps_if (pt_not (pt_val (pe_callG G_is_stream gd (hr.mono (by decide)) rfl g_is_stream F_is_stream.kp b_is_stream .nil pass0 (pa_cons (pv 0) (pa_cons (pv 1) pa_nil)))))
        (pss_one (L2.ps_raiseE (W := fun cls d _ H => E cls d H) rfl T hr1 (takes_of rfl rfl rfl rfl) (by exact (pa_cons (pv 0) pa_nil))))
         pss_nil) -- if not is_stream(value, words): raise NotAStream(value)
      (pss_one (ps_ret (pv 0))) -- return value
      ), ?_⟩
    refine ⟨v, rfl, .int w, rfl, p, v, d, w, rfl, hv, _, rfl, ?_⟩
    cases hb : isStrm d w with
    | true => exact ⟨v, rfl, q1 hb⟩
    | false => exact ⟨v, rfl, _, rfl, fun e he => q2 hb e he⟩
end

/-! ### numbered, is_numbered, are_alike -/
def sp_numbered : Sp := fun vs H Q _ => ∃ (v : V) (ms : List (Int × Int)), vs = [v] ∧ TD H v (strmD ms) ∧ ms.length ≤ 5000 ∧
  ∀ t' H', Same H H' → TD H' (.ref t') (strmD (numb ms)) → Q (.ref t') H'
def sp_is_numbered : Sp := fun vs H Q _ => ∃ (v : V) (ms : List (Int × Int)), vs = [v] ∧ TD H v (strmD ms) ∧ ms.length ≤ 5000 ∧ ∀ H', Same H H' → Q (.bl (decide (ms = numb ms))) H'
def sp_are_alike : Sp := fun vs H Q _ => ∃ (v u : V) (ms ns : List (Int × Int)), vs = [v, u] ∧ TD H v (strmD ms) ∧ TD H u (strmD ns) ∧ ms.length ≤ 5000 ∧ ns.length ≤ 5000 ∧
  ∀ H', Same H H' → Q (.bl (decide (numb ms = numb ns))) H'
section
variable {P : Program} {w : World} {K : PySem.W.Frag} {mg : Str → Option Value} {base : Heap}
abbrev N_numbered : List Str := ["stream", "numbers", "messages", "word", "value"]
theorem sc_numbered : FnScope N_numbered ["stream"] (defScope s_numbered) := ⟨rfl, rfl, rfl, by decide +kernel, rfl, by decide +kernel, by decide +kernel⟩
theorem ok_numbered {f : Addr} {fd : FuncData} {k : Nat} (F : Fun K "numbered" "numbered" s_numbered f fd) (m_len : mg "len" = none) (m_tuple : mg "tuple" = none) : FnG P w K mg base CX0 (k + 1) f fd ["stream"] sp_numbered := by
  refine okG F sc_numbered (fun vs H Q E h => ?_) (fun cdv A outer s H vs Q E gd hr h => ?_)
  · obtain ⟨v, ms, rfl, _⟩ := h
    rfl
  · obtain ⟨v, ms, rfl, hT, hl, q⟩ := h
    refine ⟨_, 
      (pss_cons (ps_set (i := 1) sc_numbered.nd rfl (.inl rfl) pe_dnewK) -- numbers = {}
      (pss_cons (ps_set (i := 2) sc_numbered.nd rfl (.inl rfl) (pe_lst pa_nil)) -- messages = []
      (pss_cons (ps_for PassesOwn.never rfl (pi_tup (pv 0)) (pg_tup rfl (pgs_cons (pg_name (i := 3) sc_numbered.nd rfl (.inl rfl)) (pgs_cons (pg_name (i := 4) sc_numbered.nd rfl (.inl rfl)) pgs_nil))) 
        (C8.pss_cut (ps_if (pt_cmp (pc_dnotin (hu_of hr) (pv 4) (pv 1))) 
          (pss_one (ps_dput (hu_of hr) (pv 1) (pv 4) (pe_callB call_lenD (by rfl) m_len PySem.boot_len (pa_cons (pv 1) pa_nil)) rfl)) -- numbers[value] = len(numbers)
           pss_nil) -- if value not in numbers:
        (pss_one (ps_expr (pe_bm PySem.F.plainAttrs_list PySem.F.slot_list_append PySem.F.type_list_append mt_append (pv 2) (pa_cons (pe_tup (pa_cons (pv 3) (pa_cons (pe_dget (hu_of hr) (pv 1) (pv 4) (fun _ _ => rfl)) pa_nil))) pa_nil)))) -- messages.append((word, numbers[value]))
        )) -- for word, value in stream:
      (pss_one (ps_ret (pe_callTy call_tuple_of (by rfl) m_tuple (by decide +kernel) (pa_cons (pv 2) pa_nil)))) -- return tuple(messages)
      ))) , ?_⟩
    obtain ⟨t, xs, rfl, ht, hx⟩ := hT.isTup
    -- numbers = {}; messages = []
    refine fun d nd => ⟨by show 0 ≤ sizeLine; decide, fun l nl => ?_⟩
    have s1 : Same H (upd H d (.dK [])) := same_new nd
    have s2 : Same (upd H d (.dK [])) (upd (upd H d (.dK [])) l (.lst [])) := same_new nl
    have nlH : H l = none := s1.free nl
    have ndl : d ≠ l := ne_of_none upd_same nl
    have hd : upd (upd H d (.dK [])) l (.lst []) d = some (.dK []) := s2 _ _ upd_same
    have hl0 : upd (upd H d (.dK [])) l (.lst []) l = some (.lst []) := upd_same
    have s3 := s1.trans s2
    generalize upd (upd H d (.dK [])) l (.lst []) = H1 at s3 hd hl0 ⊢
    refine ⟨.ref t, rfl, t, rfl, ⟨_, SqT.of (s3 _ _ ht)⟩, ?_⟩
    refine for_tup (K := K) (a := t) (xs := xs) (fun j σ H' => ∃ (y3 y4 : Option V) (vs : List V) (kvs : List (Key × V)), σ = [some (.ref t), some (.ref d), some (.ref l), y3, y4] ∧ Same H H' ∧ H' d = some (.dK kvs) ∧ H' l = some (.lst vs) ∧ DN kvs (seen [] (ms.take j)) ∧ TDs H' vs ((numb (ms.take j)).map msgD)) ?_ ?_ ?_ ?_
    · exact ⟨none, none, [], [], rfl, s3, hd, hl0, DN.nil, .nil⟩
    · rintro j σ H' hj ⟨y3, y4, vs, kvs, rfl, sm, hd, hl', dn, hv⟩
      exact SqT.of (sm _ _ ht)
    · rintro j x σ H' hj ⟨y3, y4, vs, kvs, rfl, sm, hd, hl', dn, hv⟩
      obtain ⟨m, ar, em, rfl, har⟩ := hx.msg hj
      have et : ms.take (j + 1) = ms.take j ++ [m] := by rw [List.take_add_one, em]; rfl
      refine ⟨ar, [.int m.1, .int m.2], rfl, SqT.of (sm _ _ har), rfl, .int m.1, [.int m.2], rfl, .int m.2, [], rfl, rfl, ?_⟩
      have ln : kvs.length ≤ 5000 := by
        rw [dn.1]
        have h1 := seen_len (ms.take j) []
        rw [List.length_take] at h1
        simp only [List.length_nil] at h1
        omega
      have lv : vs.length ≤ 5000 := by
        rw [hv.msgs_len, numb_len, List.length_take]
        omega
      -- if value not in numbers: numbers[value] = len(numbers)
      refine ⟨fun σ H'' => ∃ kvs, σ = [some (.ref t), some (.ref d), some (.ref l), some (.int m.1), some (.int m.2)] ∧ Same H H'' ∧ Tups H' H'' ∧ H'' d = some (.dK kvs) ∧ H'' l = some (.lst vs) ∧ DN kvs (grow (seen [] (ms.take j)) m.2), ?_, ?_⟩
      · refine ⟨.int m.2, rfl, .ref d, rfl, d, _, rfl, DGet.k (k := Sum.inl m.2) hd, _, rfl, ?_⟩
        by_cases hm : m.2 ∈ seen [] (ms.take j)
        · rw [dn.in hm]
          refine ⟨kvs, rfl, sm, Tups.refl, hd, hl', ?_⟩
          unfold grow
          rw [if_pos hm]
          exact dn
        · rw [dn.out hm]
          refine ⟨.ref d, rfl, d, kvs, rfl, hd, .ref d, rfl, .int m.2, rfl, d, _, rfl, DPut.k (k := Sum.inl m.2) hd (Nat.lt_of_le_of_lt ln (by decide)), _, rfl, ?_, Tups.put hd (fun _ z => by cases z), upd_same, ?_, ?_⟩
          · intro b o e
            have : b ≠ d := ne_of_none e nd
            rw [upd_ne this]
            exact sm _ _ e
          · rw [upd_ne ndl.symm]
            exact hl'
          · unfold grow
            rw [if_neg hm]
            exact dn.put hm
      · rintro σ H'' ⟨kvs', rfl, sm2, tp, hd2, hl2, dn2⟩
        have gv := dn2.in (mem_grow (seen [] (ms.take j)) m.2)
        have gd2 := DGet.k (k := Sum.inl m.2) hd2
        rw [gv] at gd2
        refine ⟨.ref l, rfl, .inl ⟨rfl, _, SqL.of hl2⟩, .int m.1, rfl, .ref d, rfl, .int m.2, rfl, d, _, rfl, gd2, by show 2 ≤ sizeLine; decide, fun T nT => ?_⟩
        generalize hz : ((List.idxOf m.2 (grow (seen [] (ms.take j)) m.2) : Nat) : Int) = z
        have nlT : l ≠ T := ne_of_none hl2 nT
        have ndT : d ≠ T := ne_of_none hd2 nT
        have sT : Same H'' (upd H'' T (.tup [.int m.1, .int z])) := same_new nT
        have tl : Tups (upd H'' T (.tup [.int m.1, .int z])) (upd (upd H'' T (.tup [.int m.1, .int z])) l (.lst (vs ++ [.ref T]))) := Tups.lst (l := vs) (by walk_at "hp")
        refine ⟨l, vs, .ref T, rfl, rfl, by walk_at "hp", Nat.lt_of_le_of_lt lv (by decide), _, _, vs ++ [.ref T], kvs', rfl, ?_, ?_, upd_same, ?_, ?_⟩
        · intro b o e
          have : b ≠ l := ne_of_none e nlH
          rw [upd_ne this]
          exact sT _ _ (sm2 _ _ e)
        · walk_at "hp"
        · rw [et, seen_snoc]
          exact dn2
        · have en : numb (ms.take (j + 1)) = numb (ms.take j) ++ [(m.1, z)] := by
            rw [et, ← hz]
            exact numGo_snoc (ms.take j) [] m
          rw [en, List.map_append]
          exact ((TDs.mono ((tp.trans (Tups.same sT)).trans tl) _ hv)).app (.cons (TD.mono tl _ (TD.ofPair upd_same)) .nil)
    · rintro σ H' ⟨y3, y4, vs, kvs, rfl, sm, hd, hl', dn, hv⟩
      rw [hx.msgs_len, List.take_length] at hv
      refine ⟨.ref l, rfl, l, vs, rfl, .inl ⟨SqL.of hl', fun t' nt => ?_⟩⟩
      exact q t' _ (sm.trans (same_new nt)) (.tup upd_same (TDs.mono (Tups.new nt) _ hv))
abbrev N_is_numbered : List Str := ["stream"]
theorem sc_is_numbered : FnScope N_is_numbered ["stream"] (defScope s_is_numbered) := ⟨rfl, rfl, rfl, by decide +kernel, rfl, by decide +kernel, by decide +kernel⟩
theorem ok_is_numbered {f f_numbered : Addr} {fd fd_numbered : FuncData} (F : Fun K "is_numbered" "is_numbered" s_is_numbered f fd) (F_numbered : Fun K "numbered" "numbered" s_numbered f_numbered fd_numbered) (b_numbered : Binds K fd_numbered ["stream"] [])
    (g_numbered : mg "numbered" = some (.ref f_numbered)) (m_len : mg "len" = none) (m_tuple : mg "tuple" = none) : FnG P w K mg base CX0 2 f fd ["stream"] sp_is_numbered := by
  have G_numbered : FnG P w K mg base CX0 1 f_numbered fd_numbered ["stream"] sp_numbered := ok_numbered F_numbered m_len m_tuple
  refine okG F sc_is_numbered (fun vs H Q E h => ?_) (fun cdv A outer s H vs Q E gd hr h => ?_)
  · obtain ⟨v, ms, rfl, _⟩ := h
    rfl
  · obtain ⟨v, ms, rfl, hT, hl, q⟩ := h
    refine ⟨_, 
      (pss_one (ps_ret (pe_cmpR (op_eqT hr.units) (pv 0) (pe_callG G_numbered gd (hr.mono (by decide)) rfl g_numbered F_numbered.kp b_numbered .nil pass0 (pa_cons (pv 0) pa_nil)) (nomark _)))) -- return stream == numbered(stream)
       , ?_⟩
    refine ⟨v, rfl, v, rfl, v, ms, rfl, hT, hl, fun t H1 sm hT1 => ?_⟩
    refine ⟨_, _, TD.mono (Tups.same sm) _ hT, hT1, shaped_strm _, shaped_strm _, ?_⟩
    rw [eqv_strm]
    exact q H1 sm
abbrev N_are_alike : List Str := ["one", "two"]
theorem sc_are_alike : FnScope N_are_alike ["one", "two"] (defScope s_are_alike) := ⟨rfl, rfl, rfl, by decide +kernel, rfl, by decide +kernel, by decide +kernel⟩
theorem ok_are_alike {f f_numbered : Addr} {fd fd_numbered : FuncData} (F : Fun K "are_alike" "are_alike" s_are_alike f fd) (F_numbered : Fun K "numbered" "numbered" s_numbered f_numbered fd_numbered) (b_numbered : Binds K fd_numbered ["stream"] [])
    (g_numbered : mg "numbered" = some (.ref f_numbered)) (m_len : mg "len" = none) (m_tuple : mg "tuple" = none) : FnG P w K mg base CX0 2 f fd ["one", "two"] sp_are_alike := by
  have G_numbered : FnG P w K mg base CX0 1 f_numbered fd_numbered ["stream"] sp_numbered := ok_numbered F_numbered m_len m_tuple
  refine okG F sc_are_alike (fun vs H Q E h => ?_) (fun cdv A outer s H vs Q E gd hr h => ?_)
  · obtain ⟨v, u, ms, ns, rfl, _⟩ := h
    rfl
  · obtain ⟨v, u, ms, ns, rfl, hT, hU, hl, hl2, q⟩ := h
    refine ⟨_, 
      (pss_one (ps_ret (pe_cmpR (op_eqT hr.units) (pe_callG G_numbered gd (hr.mono (by decide)) rfl g_numbered F_numbered.kp b_numbered .nil pass0 (pa_cons (pv 0) pa_nil)) (pe_callG G_numbered gd (hr.mono (by decide)) rfl g_numbered F_numbered.kp b_numbered .nil pass0 (pa_cons (pv 1) pa_nil)) (nomark _)))) -- return numbered(one) == numbered(two)
       , ?_⟩
    refine ⟨v, rfl, v, ms, rfl, hT, hl, fun t H1 sm hT1 => ?_⟩
    refine ⟨u, rfl, u, ns, rfl, TD.mono (Tups.same sm) _ hU, hl2, fun t2 H2 sm2 hT2 => ?_⟩
    refine ⟨_, _, TD.mono (Tups.same sm2) _ hT1, hT2, shaped_strm _, shaped_strm _, ?_⟩
    rw [eqv_strm]
    exact q H2 (sm.trans sm2)
end

/-! ### exchanged -/
def exch (a b : Int) (ms : List (Int × Int)) : List (Int × Int) := ms.map fun m => (m.1, if m.2 = b then a else if m.2 = a then b else m.2)
def sp_exchanged : Sp := fun vs H Q _ => ∃ (t : Addr) (ms : List (Int × Int)) (a b : Int), vs = [.ref t, .int a, .int b] ∧ TD H (.ref t) (strmD ms) ∧ ms.length ≤ 1000 ∧
  ∀ t' H', Same H H' → TD H' (.ref t') (strmD (exch a b ms)) → Q (.ref t') H'
theorem part_val (a b v : Int) : valV (mergeK [] [(Sum.inl a, V.int b), (Sum.inl b, V.int a)]) (Sum.inl v : Key) = if v = b then some (.int a) else if v = a then some (.int b) else none := by
  show valV (putK (putK [] (Sum.inl a : Key) (V.int b)) (Sum.inl b : Key) (V.int a)) (Sum.inl v : Key) = _
  rw [valV_put, valV_put]
  by_cases h : v = b
  · subst h
    rw [if_pos rfl, if_pos rfl]
  · rw [if_neg (fun e => h (Sum.inl.inj e)), if_neg h]
    by_cases h2 : v = a
    · subst h2
      rw [if_pos rfl, if_pos rfl]
    · rw [if_neg (fun e => h2 (Sum.inl.inj e)), if_neg h2]
      rfl
section
variable {P : Program} {w : World} {K : PySem.W.Frag} {mg : Str → Option Value} {base : Heap}
abbrev N_exchanged : List Str := ["stream", "one", "two", "partners", "word", "value"]
theorem sc_exchanged : FnScope N_exchanged ["stream", "one", "two"] (defScope s_exchanged) := ⟨rfl, rfl, rfl, by decide +kernel, rfl, by decide +kernel, by decide +kernel⟩
theorem ok_exchanged {f : Addr} {fd : FuncData} {k : Nat} (F : Fun K "exchanged" "exchanged" s_exchanged f fd) (m_tuple : mg "tuple" = none) : FnG P w K mg base CX0 (k + 1) f fd ["stream", "one", "two"] sp_exchanged := by
  refine okG F sc_exchanged (fun vs H Q E h => ?_) (fun cdv A outer s H vs Q E gd hr h => ?_)
  · obtain ⟨t, ms, a, b, rfl, _⟩ := h
    rfl
  · obtain ⟨t, ms, a, b, rfl, hT, hl, q⟩ := h
    refine ⟨_,
      (pss_cons (ps_set (i := 3) sc_exchanged.nd rfl (.inr rfl) (pe_disp (pps_cons (pv 1) (pv 2) (pps_cons (pv 2) (pv 1) pps_nil)) (by rfl) (by rfl) (fun z => by cases z) (by decide))) -- partners = {one: two, two: one}
      (pss_one (ps_ret (pe_callTy call_tuple_of (by rfl) m_tuple (by decide +kernel) (pa_cons (pe_lc (own := [("word", 4), ("value", 5)]) (g := gTup K 2 (gCons (gName 4) (gCons (gName 5) gNil))) rfl sc_exchanged.nd (pi_tup (pv 0)) (blkOk_by (N := N_exchanged) (sc := defScope s_exchanged) (by decide +kernel)) (fun _ _ _ _ _ => (pg_tup rfl (pgs_cons (pg_name (i := 4) sc_exchanged.nd rfl (.inl rfl)) (pgs_cons (pg_name (i := 5) sc_exchanged.nd rfl (.inl rfl)) pgs_nil)))) (fun _ _ _ _ _ => pts_nil) (fun _ _ _ _ _ => (pe_tup (pa_cons (pv 4) (pa_cons (pe_dget2 (hu_of hr) (pv 3) (pv 5) (pv 5) ⟨by rfl, by rfl, by rfl, by rfl⟩) pa_nil))))) pa_nil)))) -- return tuple([(word, partners.get(value, value)) for word, value in stream])
      ) , ?_⟩
    obtain ⟨t1, xs, e0, ht, hx⟩ := hT.isTup
    cases e0
    intro d nd
    refine ⟨.int a, rfl, .int b, rfl, .int b, rfl, .int a, rfl, upd_same, [(Sum.inl a, V.int b), (Sum.inl b, V.int a)], rfl, by show 2 ≤ 15; decide, ?_⟩
    rw [upd_upd]
    generalize hkv : mergeK [] [((Sum.inl a : Key), V.int b), (Sum.inl b, V.int a)] = kvs
    have sm : Same H (upd H d (.dK kvs)) := fun x o e => by walk_at "hp"
    have hd : upd H d (.dK kvs) d = some (.dK kvs) := upd_same
    generalize upd H d (.dK kvs) = H1 at sm hd ⊢
    have hx1 : TDs H1 xs (ms.map msgD) := hx.mono (Tups.same sm)
    have ht1 := sm _ _ ht
    refine ⟨.ref t, rfl, t, rfl, ⟨_, SqT.of ht1⟩, fun D nD => ?_⟩
    have hvl : ∀ v : Int, (valV kvs (Sum.inl v : Key)).getD (.int v) = .int (if v = b then a else if v = a then b else v) := fun v => by
      rw [← hkv, part_val]
      split
      · rfl
      · split <;> rfl
    refine lc_tup (K := K) (a := t) (xs := xs) (fun i H' => ∃ vs, Same H1 H' ∧ H' D = some (.lst vs) ∧ TDs H' vs ((exch a b (ms.take i)).map msgD)) ?_ ?_ ?_ ?_
    · exact ⟨[], fun b o e => by walk_at "hp", upd_same, .nil⟩
    · rintro i H2 hi ⟨vs, s2, hD, hv⟩
      exact SqT.of (s2 _ _ ht1)
    · rintro i x H2 hi ⟨vs, s2, hD, hv⟩
      obtain ⟨m, ar, em, rfl, har⟩ := hx1.msg hi
      have har2 := s2 _ _ har
      have hd2 := s2 _ _ hd
      refine ⟨ar, [.int m.1, .int m.2], rfl, SqT.of har2, rfl, .int m.1, [.int m.2], rfl, .int m.2, [], rfl, rfl, rfl, ?_⟩
      refine ⟨.int m.1, rfl, .ref d, rfl, d, rfl, .inl ⟨_, .inl hd2⟩, .int m.2, rfl, .int m.2, rfl, _, DGet.k (k := Sum.inl m.2) hd2, by show 2 ≤ sizeLine; decide, fun T nT => ?_⟩
      have e3 : ∀ o, Same H2 (upd H2 T o) := fun o b u e => by walk_at "hp"
      have nDT : D ≠ T := ne_of_none hD nT
      have lv : vs.length ≤ 1000 := by
        rw [hv.msgs_len, exch, List.length_map]
        exact Nat.le_trans (List.length_take_le' _ _) hl
      refine ⟨vs, by walk_at "hp", small1000 lv, vs ++ [.ref T], ?_, upd_same, ?_⟩
      · intro b o e
        have : b ≠ D := ne_of_none e nD
        have := s2 _ _ e
        walk_at "hp"
      · have hv3 := hv.mono (Tups.same (e3 (.tup [.int m.1, (valV kvs (Sum.inl m.2 : Key)).getD (.int m.2)])))
        have tl : Tups (upd H2 T (.tup [.int m.1, (valV kvs (Sum.inl m.2 : Key)).getD (.int m.2)])) (upd (upd H2 T (.tup [.int m.1, (valV kvs (Sum.inl m.2 : Key)).getD (.int m.2)])) D (.lst (vs ++ [.ref T]))) := Tups.lst (l := vs) (by walk_at "hp")
        have et : (exch a b (ms.take (i + 1))) = exch a b (ms.take i) ++ [(m.1, if m.2 = b then a else if m.2 = a then b else m.2)] := by
          unfold exch
          rw [List.take_add_one, em, List.map_append]
          rfl
        rw [et, List.map_append]
        refine (hv3.mono tl).app (.cons (TD.mono tl _ ?_) .nil)
        rw [hvl]
        exact TD.ofPair upd_same
    · rintro H2 ⟨vs, s2, hD, hv⟩
      have ex : exch a b (ms.take xs.length) = exch a b ms := by rw [hx.msgs_len, List.take_length]
      rw [ex] at hv
      refine ⟨D, vs, rfl, .inl ⟨SqL.of hD, fun t' nt => ?_⟩⟩
      refine q t' _ (fun b o e => ?_) (.tup upd_same (hv.mono (Tups.new nt)))
      have := s2 _ _ (sm _ _ e)
      walk_at "hp"
end

section
variable {P : Program} {w : World} {K : PySem.W.Frag} {mg : Str → Option Value} {base : Heap}
theorem G_is_message_value (T : Tx K mg) : FnG P w K mg base CX0 3 T.is_message_value.f T.is_message_value.fd ["value"] sp_is_message_value := ok_is_message_value T.is_message_value.F T.is_between.F T.is_between.b T.is_between.g (G_is_between T)
end

/-! ### twins -/
theorem dcT_it {J : It} {n : Nat} {G : Hp → Prop} {Y : Nat → Hp → V → Hp → Prop} (w : Walk J n G Y) {g : TG} {tt : TT} {tk tv : TE} {vs : List Nat} {σ : L2.St} {H0 : Hp} {D : Addr} {Qd : Hp → Prop} (Pv : Nat → Hp → Prop) (h0 : Pv 0 H0) (hG : ∀ i H, i ≤ n → Pv i H → G H)
    (hs : ∀ i x H H', i < n → Pv i H → Y i H x H' → g x (wipe σ vs) H' fun σ2 H2 => wipe σ2 vs = wipe σ vs ∧ tt σ2 H2 fun b H3 =>
      if b = true then tk σ2 H3 fun y H4 => tv σ2 H4 fun z H5 => ∃ kvs k t, y = .ref t ∧ H5 t = some (.tup (k.map kV)) ∧ H5 D = some (.dT kvs) ∧ kvs.length < sizeLine ∧ Pv (i + 1) (upd H5 D (.dT (putK kvs k z))) else Pv (i + 1) H3) (hd : ∀ H, Pv n H → Qd H) :
    DcW J g tt tk tv vs σ D Qd H0 := by
  refine ⟨fun i m H => m + i = n ∧ Pv i H, ⟨n, rfl, h0⟩, fun i m H ⟨hm, p⟩ => ?_⟩
  have q := hG i H (by omega) p
  cases m with
  | zero =>
    have e : i = n := by omega
    subst e
    exact .inl ⟨w.stops H q, hd H p⟩
  | succ m =>
    have h1 : i < n := by omega
    exact .inr ⟨w.goes i H h1 q, Pv (i + 1), fun H' p' => ⟨m, Nat.lt_succ_self m, by omega, p'⟩, fun x H' y => hs i x H H' h1 p (w.yields i H x H' h1 q y)⟩
theorem valV_nth {kvs : List (List Key × V)} {k : List Key} {v : V} {i : Nat} (nd : (kvs.map (·.1)).Nodup) (h : kvs[i]? = some (k, v)) : valV kvs k = some v := by
  induction kvs generalizing i with
  | nil => cases h
  | cons p r ih =>
    obtain ⟨pk, pv⟩ := p
    rw [List.map_cons, List.nodup_cons] at nd
    cases i with
    | zero =>
      cases h
      simp [valV]
    | succ i =>
      have ih := ih nd.2 (i := i) (by simpa using h)
      have ne : ¬ pk = k := fun e => nd.1 (by rw [e]; exact List.mem_map.mpr ⟨(k, v), List.mem_of_getElem? (by simpa using h), rfl⟩)
      unfold valV at ih ⊢
      rw [List.find?_cons_of_neg (by simpa using ne)]
      exact ih
theorem valV_take {kvs : List (List Key × V)} {k : List Key} {v : V} {i : Nat} (nd : (kvs.map (·.1)).Nodup) (h : kvs[i]? = some (k, v)) : valV (kvs.take i) k = none := by
  unfold valV
  rw [List.find?_eq_none.mpr]
  · rfl
  · intro y hy
    simp only [decide_eq_true_eq]
    intro e
    obtain ⟨j, hj, ej⟩ := List.getElem_of_mem hy
    rw [List.length_take] at hj
    rw [List.getElem_take] at ej
    have hii := (List.getElem?_eq_some_iff.mp h).1
    have e2 := (List.getElem?_eq_some_iff.mp h).2
    have pw := List.pairwise_iff_getElem.mp (show (kvs.map (·.1)).Pairwise (· ≠ ·) from nd) j i (by rw [List.length_map]; omega) (by rw [List.length_map]; exact hii) (by omega)
    rw [List.getElem_map, List.getElem_map, ej, e2] at pw
    exact pw e
def sp_W_twin (C : Addr) : Sp := fun us H Q _ => ∃ (x lv lh d : Addr) (n : Int) (vs hs : List Int) (R : Rows), us = [.ref x] ∧ WAt C H x lv lh d n vs hs R ∧ 1 ≤ n ∧ n ≤ 3 ∧
  ∀ x' lv' lh' d' H', Same H H' → H x' = none → H lv' = none → H lh' = none → H d' = none → WAt C H' x' lv' lh' d' n vs hs R → Q (.ref x') H'
section
variable {P : Program} {w : World} {K : PySem.W.Frag} {mg : Str → Option Value} {base : Heap}
abbrev N_Watcher_twin : List Str := ["self", "other", "rule"]
theorem sc_Watcher_twin : FnScope N_Watcher_twin ["self"] (defScope s_Watcher_twin) := ⟨rfl, rfl, rfl, by decide +kernel, rfl, by decide +kernel, by decide +kernel⟩
theorem G_Watcher_twin (T : Tx K mg) : FnG P w K mg base CX0 5 T.Watcher_twin.f T.Watcher_twin.fd ["self"] (sp_W_twin T.Watcher.C) := by
  refine okG T.Watcher_twin.F sc_Watcher_twin (fun vs H Q E h => ?_) (fun cdv A outer s H vs Q E gd hr h => ?_)
  · obtain ⟨x, lv, lh, d, n, vs, hs, R, rfl, _⟩ := h
    rfl
  · obtain ⟨x, lv, lh, d, n, vs, hs, R, rfl, hW, n1, n3, q⟩ := h
    refine ⟨_, 
      (C8.pss_cut (ps_set (i := 1) sc_Watcher_twin.nd rfl (.inl rfl) (pe_makeG T.mk_Watcher (G_Watcher_init T) gd (hr.mono (by decide)) rfl T.Watcher.g T.Watcher_init.b .nil passNo (pa_cons (pe_fld (pv 0) rfl) pa_nil))) -- other = Watcher(self.words)
      (C8.pss_cut (ps_fld (pv 1) (pe_callTy call_list_of (by rfl) T.m_list (by decide +kernel) (pa_cons (pe_fld (pv 0) rfl) pa_nil)) rfl) -- other._verdicts = list(self._verdicts)
      (C8.pss_cut (ps_fld (pv 1) (pe_callTy call_list_of (by rfl) T.m_list (by decide +kernel) (pa_cons (pe_fld (pv 0) rfl) pa_nil)) rfl) -- other._held = list(self._held)
      (C8.pss_cut (ps_fld (pv 1) (pe_lock (pe_dcT (own := [("rule", 2)]) (g := gName 2) rfl sc_Watcher_twin.nd (hu_of hr) (pi_keys (pe_fld (pv 0) rfl)) (blkOk_by (N := N_Watcher_twin) (sc := defScope s_Watcher_twin) (by decide +kernel)) (fun _ _ _ _ _ => (pg_name (i := 2) sc_Watcher_twin.nd rfl (.inl rfl))) (fun _ _ _ _ _ => pts_nil) (fun _ _ _ _ _ => (pv 2)) (fun _ _ _ _ _ => (show PE _ _ (tDGet (tFld K (tVar 0) "_rules") (tVar 2)) from (pe_dget (hu_of hr) (pe_fld (pv 0) rfl) (pv 2) (fun _ _ => rfl)))))) rfl) -- other._rules = {rule: self._rules[rule] for rule in self._rules}
      (pss_one (ps_ret (pv 1))) -- return other
      )))) , ?_⟩
    obtain ⟨dx, hx⟩ := hW.ins
    have cl := T.Watcher.cl
    refine ⟨fun σ H' => ∃ x1 dx1 lv1 lh1 d1, σ = [some (.ref x), some (.ref x1), none] ∧ Same H H' ∧ H x1 = none ∧ H' x1 = some (.ins T.Watcher.C dx1 (wf n lv1 lh1 d1)), ?_, ?_⟩
    · refine ⟨.ref x, rfl, x, T.Watcher.C, dx, _, .int n, rfl, hx, cl, T.W.n1, rfl, fun x1 dx1 nx ndx ne => ?_⟩
      have sX : Same H (upd (upd H dx1 (.own x1)) x1 (.ins T.Watcher.C dx1 [])) := (same_new ndx).trans (same_new (by rw [upd_ne ne.symm]; exact nx))
      refine ⟨x1, x1, dx1, .int n, .int n, rfl, upd_same, .int _, fun n' en n0 n3 H' lv1 lh1 d1 b' f1 f2 f3 hW1 => ⟨rfl, ?_⟩, fun bad e he => ?_⟩
      · cases en
        obtain ⟨dx2, hx2⟩ := hW1.ins
        exact ⟨x1, dx2, lv1, lh1, d1, rfl, fun c o e => b' c o (sX c o e) (ne_of_none e nx), nx, hx2⟩
      · rw [btw_true n1 n3] at bad
        cases bad
    rintro σ H1 ⟨x1, dx1, lv1, lh1, d1, rfl, s1, nx1, g1⟩
    refine ⟨fun σ H' => ∃ l, σ = [some (.ref x), some (.ref x1), none] ∧ Same H H' ∧ H l = none ∧ H' l = some (.lst (vs.map V.int)) ∧ H' x1 = some (.ins T.Watcher.C dx1 (wf n l lh1 d1)), ?_, ?_⟩
    · refine ⟨.ref x, rfl, x, T.Watcher.C, dx, _, .ref lv, rfl, s1 _ _ hx, cl, T.W.n2, rfl, lv, _, rfl, .inl (SqL.of (s1 _ _ hW.ver)), fun l nl => ?_⟩
      have s2 := same_new (o := .lst (vs.map V.int)) nl
      refine ⟨.ref x1, rfl, x1, T.Watcher.C, dx1, _, rfl, s2 _ _ g1, cl, T.W.n2, by show 4 < 1000; decide, l, rfl, fun c o e => ?_, s1.free nl, ?_, upd_same⟩
      · rw [upd_ne (ne_of_none e nx1)]
        exact s2 _ _ (s1 _ _ e)
      · rw [upd_ne (ne_of_none g1 nl).symm]
        exact upd_same
    rintro σ H2 ⟨l, rfl, s2, nl, hl2, g2⟩
    refine ⟨fun σ H' => ∃ m, σ = [some (.ref x), some (.ref x1), none] ∧ Same H H' ∧ H m = none ∧ l ≠ m ∧ H' l = some (.lst (vs.map V.int)) ∧ H' m = some (.lst (hs.map V.int)) ∧ H' x1 = some (.ins T.Watcher.C dx1 (wf n l m d1)), ?_, ?_⟩
    · refine ⟨.ref x, rfl, x, T.Watcher.C, dx, _, .ref lh, rfl, s2 _ _ hx, cl, T.W.n3, rfl, lh, _, rfl, .inl (SqL.of (s2 _ _ hW.hel)), fun m nm => ?_⟩
      have s3 := same_new (o := .lst (hs.map V.int)) nm
      have lm : l ≠ m := ne_of_none hl2 nm
      have xm : x1 ≠ m := ne_of_none g2 nm
      have xl : l ≠ x1 := ne_of hl2 g2 (fun z => nomatch z)
      refine ⟨.ref x1, rfl, x1, T.Watcher.C, dx1, _, rfl, s3 _ _ g2, cl, T.W.n3, by show 4 < 1000; decide, m, rfl, fun c o e => ?_, s2.free nm, lm, ?_, ?_, upd_same⟩
      · rw [upd_ne (ne_of_none e nx1)]
        exact s3 _ _ (s2 _ _ e)
      · rw [upd_ne xl]
        exact s3 _ _ hl2
      · rw [upd_ne xm.symm]
        exact upd_same
    rintro σ H3 ⟨m, rfl, s3, nm, lm, hl3, hm3, g3⟩
    obtain ⟨kvs, hd, hkv⟩ := hW.rul
    have hd3 := s3 _ _ hd
    have lk : kvs.length ≤ 1000 := by
      have := Paired.length hkv
      have := hW.len.2.2
      omega
    refine ⟨fun σ H' => ∃ D, σ = [some (.ref x), some (.ref x1), none] ∧ Same H H' ∧ H D = none ∧ H' D = some (.dT kvs) ∧ H' l = some (.lst (vs.map V.int)) ∧ H' m = some (.lst (hs.map V.int)) ∧ H' x1 = some (.ins T.Watcher.C dx1 (wf n l m D)), ?_, ?_⟩
    · refine ⟨d, _, hd3, trivial, fun od => ?_⟩
      have xd : x ≠ d := ne_of (s3 _ _ hx) hd3 (fun z => nomatch z)
      have f4 : upd H3 d (.frz od (.dT kvs)) d = some (.frz od (.dT kvs)) := upd_same
      have k4 : ∀ c o, H3 c = some o → c ≠ d → upd H3 d (.frz od (.dT kvs)) c = some o := fun c o e nc => by rw [upd_ne nc]; exact e
      refine ⟨.ref x, rfl, x, T.Watcher.C, dx, _, .ref d, rfl, k4 _ _ (s3 _ _ hx) xd, cl, T.W.n4, rfl, d, od, rfl, .inr ⟨kvs, f4, fun D nD => ?_⟩⟩
      have nd3 : H3 D = none := by
        by_cases z : D = d
        · rw [z, upd_same] at nD
          cases nD
        · rw [upd_ne z] at nD
          exact nD
      have Dd : D ≠ d := (ne_of_none hd3 nd3).symm
      have kn : (kvs.map (·.1)).Nodup := by
        rw [hkv.keys]
        exact hW.nd
      generalize upd H3 d (.frz od (.dT kvs)) = Hf at f4 k4 nD
      refine dcT_it walk_keysT (fun i H' => (∀ c o, Hf c = some o → H' c = some o) ∧ H' D = some (.dT (kvs.take i))) ?_ ?_ ?_ ?_
      · exact ⟨same_new nD, upd_same⟩
      · rintro i H' hi ⟨k5, hD⟩
        exact k5 _ _ f4
      · rintro i y H0 H' hi ⟨k5, hD⟩ ⟨rfl, k, v, qa, ekv, rfl, hq⟩
        have ev : valV kvs k = some v := valV_nth kn ekv
        refine ⟨rfl, .ref qa, rfl, .ref x, rfl, x, T.Watcher.C, dx, _, .ref d, rfl, k5 _ _ (k4 _ _ (s3 _ _ hx) xd), cl, T.W.n4, rfl, .ref qa, rfl, d, v, rfl, .inr ⟨kvs, k, qa, .inr ⟨od, k5 _ _ f4⟩, rfl, hq, ev.symm⟩, ?_⟩
        refine ⟨_, k, qa, rfl, hq, hD, by rw [List.length_take]; exact small1000 (by omega), fun c o e => ?_, ?_⟩
        · rw [upd_ne (ne_of_none e nD)]
          exact k5 _ _ e
        · rw [upd_same, putK_new v (valV_take kn ekv), List.take_add_one, ekv]
          rfl
      · rintro H' ⟨k5, hD⟩
        rw [List.take_length] at hD
        have xd1 : x1 ≠ d := ne_of g3 hd3 (fun z => nomatch z)
        have ld : l ≠ d := ne_of hl3 hd3 (fun z => nomatch z)
        have md : m ≠ d := ne_of hm3 hd3 (fun z => nomatch z)
        have lx : l ≠ x1 := ne_of hl3 g3 (fun z => nomatch z)
        have mx : m ≠ x1 := ne_of hm3 g3 (fun z => nomatch z)
        have Dx : D ≠ x1 := (ne_of_none g3 nd3).symm
        refine ⟨k5 _ _ f4, .ref x1, rfl, x1, T.Watcher.C, dx1, wf n l m d1, rfl, by rw [upd_ne xd1]; exact k5 _ _ (k4 _ _ g3 xd1), cl, T.W.n4, by show 4 < 1000; decide, D, rfl, fun c o e => ?_, s3.free nd3, ?_, ?_, ?_, upd_same⟩
        · rw [upd_ne (ne_of_none e nx1)]
          by_cases z : c = d
          · subst z
            rw [upd_same]
            exact hd.symm.trans e
          · rw [upd_ne z]
            exact k5 _ _ (k4 _ _ (s3 _ _ e) z)
        · rw [upd_ne Dx, upd_ne Dd]
          exact hD
        · rw [upd_ne lx, upd_ne ld]
          exact k5 _ _ (k4 _ _ hl3 ld)
        · rw [upd_ne mx, upd_ne md]
          exact k5 _ _ (k4 _ _ hm3 md)
    rintro σ H4 ⟨D, rfl, s4, nD, hD4, hl4, hm4, g4⟩
    refine ⟨.ref x1, rfl, q x1 l m D H4 s4 nx1 nl nm nD { ins := ⟨dx1, g4⟩, ver := hl4, hel := hm4, rul := ⟨kvs, hD4, KvD.mono (Tups.same s4) hkv⟩, ne := lm, rk := hW.rk, nd := hW.nd, len := hW.len }⟩
end

/-! ### followers -/
def ff (x tr : Addr) : List (Str × V) := [("_watcher", .ref x), ("_trail", .ref tr)]
structure FolAt (C CF : Addr) (H : Hp) (f x lv lh d tr : Addr) (pl : Plan) (ms : List (Int × Int)) : Prop where
  ins : ∃ df, H f = some (.ins CF df (ff x tr))
  ne : tr ≠ lv ∧ tr ≠ lh
  wp : WP C H x lv lh d pl
  tr : ∃ vs : List V, H tr = some (.lst vs) ∧ vs.length = ms.length + 1 ∧ ∀ i v, vs[i]? = some v → StAt H v (runM pl.rules (0, []) (ms.take i))
  len : ms.length ≤ 900
theorem FolAt.mono {C CF : Addr} {H H' : Hp} {f x lv lh d tr : Addr} {pl : Plan} {ms : List (Int × Int)} (h : FolAt C CF H f x lv lh d tr pl ms) (s : Same H H') : FolAt C CF H' f x lv lh d tr pl ms := by
  obtain ⟨⟨df, a⟩, n, b, ⟨vs, c1, c2, c3⟩, l⟩ := h
  exact ⟨⟨df, s _ _ a⟩, n, b.mono s, ⟨vs, s _ _ c1, c2, fun i v e => (c3 i v e).mono s⟩, l⟩
def sp_F_init (C CF : Addr) : Sp := fun us H Q _ => ∃ (f df x lv lh d : Addr) (pl : Plan), us = [.ref f, .ref x] ∧ H f = some (.ins CF df []) ∧ WP C H x lv lh d pl ∧
  ∀ H' x' lv' lh' d' tr, But f H H' → H lv' = none → H lh' = none → H tr = none → FolAt C CF H' f x' lv' lh' d' tr pl [] → Q .non H'
def sp_F_read (C CF CW CS : Addr) : Sp := fun us H Q E => ∃ (f x lv lh d tr : Addr) (pl : Plan) (ms : List (Int × Int)) (p : Addr) (v1 v2 : V) (d1 d2 : PyData), us = [.ref f, v1, v2] ∧ FolAt C CF H f x lv lh d tr pl ms ∧ LD p H v1 d1 ∧ LD p H v2 d2 ∧ ms.length < 900 ∧
  (btw d1 0 (pl.words - 1) = false → ∀ e, H e = none → E (.ref CW) (some e) (upd H e (.xd [(("word" : Str), v1)]))) ∧
  (btw d1 0 (pl.words - 1) = true → btw d2 (-big60) big60 = false → ∀ e, H e = none → E (.ref CS) (some e) (upd H e (.xd [(("value" : Str), v2)]))) ∧
  ∀ w v : Int, d1 = .int w → d2 = .int v → btw d1 0 (pl.words - 1) = true → btw d2 (-big60) big60 = true → ∀ H', (∀ c o, H c = some o → c ≠ tr → H' c = some o) → FolAt C CF H' f x lv lh d tr pl (ms ++ [(w, v)]) → Q .non H'
def sp_F_state (C CF : Addr) : Sp := fun us H Q _ => ∃ (f x lv lh d tr : Addr) (pl : Plan) (ms : List (Int × Int)), us = [.ref f] ∧ FolAt C CF H f x lv lh d tr pl ms ∧ Q (.int (runM pl.rules (0, []) ms).1) H
def sp_F_held (C CF : Addr) : Sp := fun us H Q _ => ∃ (f x lv lh d tr : Addr) (pl : Plan) (ms : List (Int × Int)), us = [.ref f] ∧ FolAt C CF H f x lv lh d tr pl ms ∧ ∀ a, HT H a (runM pl.rules (0, []) ms).2 → Q (.ref a) H
def sp_F_verdict (C CF : Addr) : Sp := fun us H Q _ => ∃ (f x lv lh d tr : Addr) (pl : Plan) (ms : List (Int × Int)), us = [.ref f] ∧ FolAt C CF H f x lv lh d tr pl ms ∧ ∀ H', Same H H' → Q (.int (verdictM pl ms)) H'
section
variable {P : Program} {w : World} {K : PySem.W.Frag} {mg : Str → Option Value} {base : Heap}
abbrev N_Follower_current_state : List Str := ["self"]
theorem sc_Follower_current_state : FnScope N_Follower_current_state ["self"] (defScope s_Follower_current_state) := ⟨rfl, rfl, rfl, by decide +kernel, rfl, by decide +kernel, by decide +kernel⟩
theorem G_Follower_current_state (T : Tx K mg) : FnG P w K mg base CX0 1 T.Follower_current_state.f T.Follower_current_state.fd ["self"] (sp_F_state T.Watcher.C T.Follower.C) := by
  refine okG T.Follower_current_state.F sc_Follower_current_state (fun vs H Q E h => ?_) (fun cdv A outer s H vs Q E gd hr h => ?_)
  · obtain ⟨f, x, lv, lh, d, tr, pl, ms, rfl, _⟩ := h
    rfl
  · obtain ⟨f, x, lv, lh, d, tr, pl, ms, rfl, hF, q⟩ := h
    refine ⟨_, 
      (pss_one (ps_ret (pe_ix ix_tup (pe_ix ix_list (pe_fld (pv 0) rfl) (pe_un un_neg pe_int) (fun _ _ => rfl)) pe_int (fun _ _ => rfl)))) -- return self._trail[-1][0]
       , ?_⟩
    obtain ⟨df, hf⟩ := hF.ins
    obtain ⟨vs, ht, lv', st⟩ := hF.tr
    obtain ⟨v, e1, e2⟩ := last_ix lv'
    obtain ⟨r, a, rfl, hr1, ha⟩ := st _ _ e2
    rw [List.take_length] at hr1 ha
    exact ⟨.ref f, rfl, f, T.Follower.C, df, _, .ref tr, rfl, hf, T.Follower.cl, T.nf_Follower_trail, rfl, 1, rfl, tr, vs, -1, .ref r, rfl, rfl, SqL.of ht, e1, r, _, 0, _, rfl, rfl, SqT.of hr1, atI_nat (j := 0) rfl, q⟩
abbrev N_Follower_held_values : List Str := ["self"]
theorem sc_Follower_held_values : FnScope N_Follower_held_values ["self"] (defScope s_Follower_held_values) := ⟨rfl, rfl, rfl, by decide +kernel, rfl, by decide +kernel, by decide +kernel⟩
theorem G_Follower_held_values (T : Tx K mg) : FnG P w K mg base CX0 1 T.Follower_held_values.f T.Follower_held_values.fd ["self"] (sp_F_held T.Watcher.C T.Follower.C) := by
  refine okG T.Follower_held_values.F sc_Follower_held_values (fun vs H Q E h => ?_) (fun cdv A outer s H vs Q E gd hr h => ?_)
  · obtain ⟨f, x, lv, lh, d, tr, pl, ms, rfl, _⟩ := h
    rfl
  · obtain ⟨f, x, lv, lh, d, tr, pl, ms, rfl, hF, q⟩ := h
    refine ⟨_, 
      (pss_one (ps_ret (pe_ix ix_tup (pe_ix ix_list (pe_fld (pv 0) rfl) (pe_un un_neg pe_int) (fun _ _ => rfl)) pe_int (fun _ _ => rfl)))) -- return self._trail[-1][1]
       , ?_⟩
    obtain ⟨df, hf⟩ := hF.ins
    obtain ⟨vs, ht, lv', st⟩ := hF.tr
    obtain ⟨v, e1, e2⟩ := last_ix lv'
    obtain ⟨r, a, rfl, hr1, ha⟩ := st _ _ e2
    rw [List.take_length] at hr1 ha
    exact ⟨.ref f, rfl, f, T.Follower.C, df, _, .ref tr, rfl, hf, T.Follower.cl, T.nf_Follower_trail, rfl, 1, rfl, tr, vs, -1, .ref r, rfl, rfl, SqL.of ht, e1, r, _, 1, .ref a, rfl, rfl, SqT.of hr1, atI_nat (j := 1) rfl, q a ha⟩
end

/-! ### a follower reads, and goes back -/
theorem WAt.putL {C : Addr} {H : Hp} {x lv lh d tr : Addr} {n : Int} {vs hs : List Int} {R : Rows} {xs ys : List V} (h : WAt C H x lv lh d n vs hs R) (ht : H tr = some (.lst xs)) (n1 : lv ≠ tr) (n2 : lh ≠ tr) : WAt C (upd H tr (.lst ys)) x lv lh d n vs hs R := by
  obtain ⟨⟨dx, a⟩, b, c, ⟨kvs, e, g⟩, n5, i, j, l⟩ := h
  have tp : Tups H (upd H tr (.lst ys)) := Tups.put ht (fun _ z => by cases z)
  exact ⟨⟨dx, by rw [upd_ne (ne_of a ht (fun z => nomatch z))]; exact a⟩, by rw [upd_ne n1]; exact b, by rw [upd_ne n2]; exact c, ⟨kvs, by rw [upd_ne (ne_of e ht (fun z => nomatch z))]; exact e, g.mono tp⟩, n5, i, j, l⟩
theorem StAt.putL {H : Hp} {v : V} {s : Int × List Int} {tr : Addr} {xs ys : List V} (h : StAt H v s) (ht : H tr = some (.lst xs)) : StAt (upd H tr (.lst ys)) v s := by
  obtain ⟨r, a, rfl, h1, ob, h2, h3⟩ := h
  refine ⟨r, a, rfl, ?_, ob, ?_, h3⟩
  · rw [upd_ne (ne_of h1 ht (fun z => nomatch z))]
    exact h1
  · rw [upd_ne (ne_of h2 ht (fun z => nomatch z))]
    exact h2
section
variable {P : Program} {w : World} {K : PySem.W.Frag} {mg : Str → Option Value} {base : Heap}
abbrev N_Follower_init : List Str := ["self", "watcher"]
theorem sc_Follower_init : FnScope N_Follower_init ["self", "watcher"] (defScope s_Follower_init) := ⟨rfl, rfl, rfl, by decide +kernel, rfl, by decide +kernel, by decide +kernel⟩
theorem G_Follower_init (T : Tx K mg) : FnG P w K mg base CX0 6 T.Follower_init.f T.Follower_init.fd ["self", "watcher"] (sp_F_init T.Watcher.C T.Follower.C) := by
  refine okG T.Follower_init.F sc_Follower_init (fun vs H Q E h => ?_) (fun cdv A outer s H vs Q E gd hr h => ?_)
  · obtain ⟨f, df, x, lv, lh, d, pl, rfl, _⟩ := h
    rfl
  · obtain ⟨f, df, x, lv, lh, d, pl, rfl, hf, hW, q⟩ := h
    refine ⟨_, 
      (C8.pss_cut (ps_fld (pv 0) (pe_meth0G (pv 1) T.Watcher.cl T.Watcher_twin.M (G_Watcher_twin T) gd (hr.mono (by decide)) T.Watcher_twin.b .nil pass0) rfl) -- self._watcher = watcher.twin()
      (pss_one (ps_fld (pv 0) (pe_lst (pa_cons (pe_tup (pa_cons pe_int (pa_cons (pe_tupF pa_nil) pa_nil))) pa_nil)) rfl)) -- self._trail = [(0, ())]
      ) , ?_⟩
    obtain ⟨dx, hx⟩ := hW.w.ins
    refine ⟨fun σ H' => ∃ x1 lv1 lh1 d1, σ = [some (.ref f), some (.ref x)] ∧ But f H H' ∧ H' f = some (.ins T.Follower.C df [("_watcher", .ref x1)]) ∧ WP T.Watcher.C H' x1 lv1 lh1 d1 pl ∧ H lv1 = none ∧ H lh1 = none, ?_, ?_⟩
    · refine ⟨.ref x, rfl, x, dx, _, rfl, hx, rfl, x, lv, lh, d, _, _, _, _, rfl, hW.w, hW.ok.w.1, hW.ok.w.2, fun x1 lv1 lh1 d1 H1 s1 n1 n2 n3 n4 hW1 => ?_⟩
      have hf1 := s1 _ _ hf
      have xf : x1 ≠ f := (ne_of_none hf n1).symm
      have vf : lv1 ≠ f := (ne_of_none hf n2).symm
      have hf' : lh1 ≠ f := (ne_of_none hf n3).symm
      have d1f : d1 ≠ f := (ne_of_none hf n4).symm
      refine ⟨.ref f, rfl, f, T.Follower.C, df, _, rfl, hf1, T.Follower.cl, T.nf_Follower_watcher, by show 0 < 1000; decide, x1, lv1, lh1, d1, rfl, fun c o e nc => ?_, upd_same, ⟨?_, hW.ok⟩, n2, n3⟩
      · rw [upd_ne nc]
        exact s1 _ _ e
      · obtain ⟨⟨dx1, a⟩, b, c, ⟨kvs, e, g⟩, n5, i, j, l⟩ := hW1
        have tp : Tups H1 (upd H1 f (.ins T.Follower.C df [("_watcher", .ref x1)])) := Tups.put hf1 (fun _ z => by cases z)
        exact ⟨⟨dx1, by rw [upd_ne xf]; exact a⟩, by rw [upd_ne vf]; exact b, by rw [upd_ne hf']; exact c, ⟨kvs, by rw [upd_ne d1f]; exact e, g.mono tp⟩, n5, i, j, l⟩
    rintro σ H1 ⟨x1, lv1, lh1, d1, rfl, k1, hf1, hW1, nv1, nh1⟩
    refine ⟨by show 0 ≤ sizeLine; decide, fun e0 ob0 ne0 hob0 => ⟨by show 2 ≤ sizeLine; decide, fun t0 nt0 => ⟨by show 1 ≤ sizeLine; decide, fun L nL => ?_⟩⟩⟩
    have k2 := same_new (o := .frz ob0 (.tup [])) ne0
    have k3 := same_new (o := .tup [.int 0, .ref e0]) nt0
    have k4 := same_new (o := .lst [.ref t0]) nL
    have kk := k2.trans (k3.trans k4)
    have he0 := (k3.trans k4) _ _ (upd_same (H := H1) (a := e0) (o := .frz ob0 (.tup [])))
    have ht0 := k4 _ _ (upd_same (H := upd H1 e0 (.frz ob0 (.tup []))) (a := t0) (o := .tup [.int 0, .ref e0]))
    have hL : upd (upd (upd H1 e0 (.frz ob0 (.tup []))) t0 (.tup [.int 0, .ref e0])) L (.lst [.ref t0]) L = some (.lst [.ref t0]) := upd_same
    have hL0 : H1 L = none := (k2.trans k3).free nL
    generalize upd (upd (upd H1 e0 (.frz ob0 (.tup []))) t0 (.tup [.int 0, .ref e0])) L (.lst [.ref t0]) = H2 at kk he0 ht0 hL
    have hf2 := kk _ _ hf1
    have hW2 := hW1.mono kk
    have Lf : L ≠ f := ne_of hL hf2 (fun z => nomatch z)
    have HL : H L = none := by
      cases z : H L with
      | none => rfl
      | some o => exact absurd (k1 _ _ z Lf) (by rw [hL0]; exact fun y => nomatch y)
    refine ⟨.ref f, rfl, f, T.Follower.C, df, _, rfl, hf2, T.Follower.cl, T.nf_Follower_trail, by show 1 < 1000; decide, q _ x1 lv1 lh1 d1 L (fun c o e nc => ?_) nv1 nh1 HL { ins := ⟨df, upd_same⟩, ne := ⟨?_, ?_⟩, wp := ⟨?_, hW2.ok⟩, tr := ⟨[.ref t0], ?_, rfl, ?_⟩, len := Nat.zero_le _ }⟩
    · rw [upd_ne nc]
      exact kk _ _ (k1 _ _ e nc)
    · exact (ne_of_none hW1.w.ver hL0).symm
    · exact (ne_of_none hW1.w.hel hL0).symm
    · obtain ⟨⟨dx1, a⟩, b, c, ⟨kvs, e, g⟩, n5, i, j, l⟩ := hW2.w
      have tp : Tups H2 (upd H2 f (.ins T.Follower.C df (putF "_trail" (.ref L) [("_watcher", .ref x1)]))) := Tups.put hf2 (fun _ z => by cases z)
      have xf : x1 ≠ f := fun z => by
        rw [z, hf2] at a
        have := HO.ins.inj (Option.some.inj a)
        exact absurd (congrArg List.length this.2.2) (by show ¬ (1 = 4); decide)
      have vf : lv1 ≠ f := ne_of b hf2 (fun z => nomatch z)
      have hf' : lh1 ≠ f := ne_of c hf2 (fun z => nomatch z)
      have d1f : d1 ≠ f := ne_of e hf2 (fun z => nomatch z)
      exact ⟨⟨dx1, by rw [upd_ne xf]; exact a⟩, by rw [upd_ne vf]; exact b, by rw [upd_ne hf']; exact c, ⟨kvs, by rw [upd_ne d1f]; exact e, g.mono tp⟩, n5, i, j, l⟩
    · rw [upd_ne Lf]
      exact hL
    · intro i v hi
      cases i with
      | zero =>
        cases hi
        refine ⟨t0, e0, rfl, ?_, ?_⟩
        · rw [upd_ne (ne_of ht0 hf2 (fun z => nomatch z))]
          exact ht0
        · refine ⟨ob0, ?_, hob0⟩
          rw [upd_ne (ne_of he0 hf2 (fun z => nomatch z))]
          exact he0
      | succ i => cases hi
abbrev N_Follower_read : List Str := ["self", "word", "value", "state", "held"]
theorem sc_Follower_read : FnScope N_Follower_read ["self", "word", "value"] (defScope s_Follower_read) := ⟨rfl, rfl, rfl, by decide +kernel, rfl, by decide +kernel, by decide +kernel⟩
theorem G_Follower_read (T : Tx K mg) : FnG P w K mg base (L2.CX P w) 5 T.Follower_read.f T.Follower_read.fd ["self", "word", "value"] (sp_F_read T.Watcher.C T.Follower.C T.NotAWord.C T.NotAStream.C) := by
  refine okGX T.Follower_read.F sc_Follower_read (fun vs H Q E h => ?_) (fun cdv A outer s H vs Q E gd hr h => ?_)
  · obtain ⟨f, x, lv, lh, d, tr, pl, ms, p, v1, v2, d1, d2, rfl, _⟩ := h
    rfl
  · obtain ⟨f, x, lv, lh, d, tr, pl, ms, p, v1, v2, d1, d2, rfl, hF, h1, h2, hl, q1, q2, q3⟩ := h
    refine ⟨_, 
      (pss_cons (ps_expr (pe_methG (pe_fld (pv 0) rfl) T.Watcher.cl T.Watcher_require_word.M (G_Watcher_require_word T) gd (hr.mono (by decide)) T.Watcher_require_word.b .nil (L2.passes_call (W := fun cls d _ H => E cls d H) (takes_of rfl rfl rfl rfl) (fun _ _ _ _ h => h)) (pa_cons (pv 1) pa_nil))) -- self._watcher.require_word(word)
      (pss_cons (ps_if (pt_not (pt_val (pe_callG (G_is_message_value T) gd (hr.mono (by decide)) rfl T.is_message_value.g T.is_message_value.F.kp T.is_message_value.b .nil pass0 (pa_cons (pv 2) pa_nil)))) 
        (pss_one (L2.ps_raiseE (W := fun cls d _ H => E cls d H) rfl T.NotAStream.e (show Room 1 _ from hr.mono (by decide)) (takes_of rfl rfl rfl rfl) (by exact (pa_cons (pv 2) pa_nil)))) -- raise NotAStream(value)
         pss_nil) -- if not is_message_value(value):
      (pss_cons (ps_asg (pe_ix ix_list (pe_fld (pv 0) rfl) (pe_un un_neg pe_int) (fun _ _ => rfl)) (pg_tup rfl (pgs_cons (pg_name (i := 3) sc_Follower_read.nd rfl (.inl rfl)) (pgs_cons (pg_name (i := 4) sc_Follower_read.nd rfl (.inl rfl)) pgs_nil)))) -- state, held = self._trail[-1]
      (pss_one (ps_expr (pe_bm PySem.F.plainAttrs_list PySem.F.slot_list_append PySem.F.type_list_append mt_append (pe_fld (pv 0) rfl) (pa_cons (pe_callG (G_after_message T) gd (hr.mono (by decide)) rfl T.after_message.g T.after_message.F.kp T.after_message.b .nil pass0 (pa_cons (pe_fld (pv 0) rfl) (pa_cons (pv 3) (pa_cons (pv 4) (pa_cons (pv 1) (pa_cons (pv 2) pa_nil)))))) pa_nil)))) -- self._trail.append(after_message(self._watcher, state, held, word, value))
      ))) , ?_⟩
    obtain ⟨df, hf⟩ := hF.ins
    obtain ⟨dx, hx⟩ := hF.wp.w.ins
    refine ⟨.ref f, rfl, f, T.Follower.C, df, _, .ref x, rfl, hf, T.Follower.cl, T.nf_Follower_watcher, rfl, x, dx, _, rfl, hx, rfl, v1, rfl, x, lv, lh, d, _, _, _, _, p, v1, d1, rfl, hF.wp.w, h1, fun o1 => ?_, q1⟩
    refine ⟨v2, rfl, p, v2, d2, rfl, h2, _, rfl, ?_⟩
    cases o2 : btw d2 (-big60) big60 with
    | false => exact iteT ⟨v2, rfl, v2, rfl, fun e he => q2 o1 o2 e he⟩
    | true =>
      refine iteF ?_
      obtain ⟨wd, rfl, w0, w1⟩ := btw_int o1
      obtain ⟨v, rfl, _, _⟩ := btw_int o2
      cases h1
      cases h2
      obtain ⟨vs, ht, lvs, st⟩ := hF.tr
      obtain ⟨vl, e1, e2⟩ := last_ix lvs
      obtain ⟨r, a, rfl, hr1, ha⟩ := st _ _ e2
      rw [List.take_length] at hr1 ha
      have so := run_ok hF.wp.ok.r ms (st_zero hF.wp.ok.k)
      refine ⟨.ref f, rfl, f, T.Follower.C, df, _, .ref tr, rfl, hf, T.Follower.cl, T.nf_Follower_trail, rfl, 1, rfl, tr, vs, -1, .ref r, rfl, rfl, SqL.of ht, e1, r, _, rfl, SqT.of hr1, rfl, .int (runM pl.rules (0, []) ms).1, [.ref a], rfl, .ref a, [], rfl, rfl, ?_⟩
      refine ⟨.ref f, rfl, f, T.Follower.C, df, _, .ref tr, rfl, hf, T.Follower.cl, T.nf_Follower_trail, rfl, .inl ⟨rfl, _, SqL.of ht⟩, ?_⟩
      refine ⟨.ref f, rfl, f, T.Follower.C, df, _, .ref x, rfl, hf, T.Follower.cl, T.nf_Follower_watcher, rfl, .int (runM pl.rules (0, []) ms).1, rfl, .ref a, rfl, .int wd, rfl, .int v, rfl, x, lv, lh, d, a, pl, _, _, wd, v, rfl, hF.wp, ha, so, fun u H1 s1 hu => ?_⟩
      have ht1 := s1 _ _ ht
      refine ⟨tr, vs, u, rfl, rfl, ht1, small1000 (by omega), ?_⟩
      have hF1 := hF.mono s1
      refine q3 wd v rfl rfl o1 o2 _ (fun c o e nc => by rw [upd_ne nc]; exact s1 _ _ e) { ins := ⟨df, ?_⟩, ne := hF.ne, wp := ⟨hF1.wp.w.putL ht1 hF.ne.1.symm hF.ne.2.symm, hF.wp.ok⟩, tr := ⟨vs ++ [u], upd_same, by rw [List.length_append, List.length_append, lvs]; rfl, fun i v' hi => ?_⟩, len := by rw [List.length_append]; show ms.length + 1 ≤ 900; omega }
      · rw [upd_ne (ne_of (s1 _ _ hf) ht1 (fun z => nomatch z))]
        exact s1 _ _ hf
      · by_cases hlt : i < vs.length
        · rw [List.getElem?_append_left hlt] at hi
          rw [List.take_append_of_le_length (by omega)]
          exact ((st _ _ hi).mono s1).putL ht1
        · rw [List.getElem?_append_right (by omega)] at hi
          have e0 : i - vs.length = 0 := by
            cases z : i - vs.length with
            | zero => rfl
            | succ k => rw [z] at hi; cases hi
          rw [e0] at hi
          cases hi
          rw [List.take_of_length_le (by rw [List.length_append]; show ms.length + 1 ≤ i; omega)]
          unfold runM
          rw [List.foldl_append]
          exact hu.putL ht1
end

/-! ### back -/
def sp_F_rewind (C CF CT : Addr) : Sp := fun us H Q E => ∃ (f x lv lh d tr : Addr) (pl : Plan) (ms : List (Int × Int)) (p : Addr) (v : V) (dd : PyData), us = [.ref f, v] ∧ FolAt C CF H f x lv lh d tr pl ms ∧ LD p H v dd ∧
  (btw dd 0 ms.length = false → ∀ e, H e = none → E (.ref CT) (some e) (upd H e (.xd [(("many" : Str), v)]))) ∧
  ∀ k : Nat, dd = .int k → k ≤ ms.length → ∀ H', (∀ c o, H c = some o → c ≠ tr → H' c = some o) → FolAt C CF H' f x lv lh d tr pl (ms.take (ms.length - k)) → Q .non H'
section
variable {P : Program} {w : World} {K : PySem.W.Frag} {mg : Str → Option Value} {base : Heap}
abbrev N_Follower_rewind : List Str := ["self", "many", "there"]
theorem sc_Follower_rewind : FnScope N_Follower_rewind ["self", "many"] (defScope s_Follower_rewind) := ⟨rfl, rfl, rfl, by decide +kernel, rfl, by decide +kernel, by decide +kernel⟩
theorem G_Follower_rewind (T : Tx K mg) : FnG P w K mg base (L2.CX P w) 5 T.Follower_rewind.f T.Follower_rewind.fd ["self", "many"] (sp_F_rewind T.Watcher.C T.Follower.C T.TooFar.C) := by
  refine okGX T.Follower_rewind.F sc_Follower_rewind (fun vs H Q E h => ?_) (fun cdv A outer s H vs Q E gd hr h => ?_)
  · obtain ⟨f, x, lv, lh, d, tr, pl, ms, p, v, dd, rfl, _⟩ := h
    rfl
  · obtain ⟨f, x, lv, lh, d, tr, pl, ms, p, v, dd, rfl, hF, hv, q1, q2⟩ := h
    refine ⟨_, 
      (pss_cons (ps_set (i := 2) sc_Follower_rewind.nd rfl (.inl rfl) (pe_op op_sub (pe_callB call_len_seq (by rfl) T.m_len PySem.boot_len (pa_cons (pe_fld (pv 0) rfl) pa_nil)) pe_int))
      (pss_cons (ps_if (pt_not (pt_val (pe_callG (G_is_between T) gd (hr.mono (by decide)) rfl T.is_between.g T.is_between.F.kp T.is_between.b .nil pass0 (pa_cons (pv 1) (pa_cons pe_int (pa_cons (pv 2) pa_nil))))))
        (pss_one (L2.ps_raiseE (W := fun cls d _ H => E cls d H) rfl T.TooFar.e (show Room 1 _ from hr.mono (by decide)) (takes_of rfl rfl rfl rfl) (by exact (pa_cons (pv 1) pa_nil))))
         pss_nil)
      (pss_one (ps_delFrom (pe_fld (pv 0) rfl) (po_some (pe_op op_add (pe_op op_sub (pv 2) (pv 1)) pe_int)))))) , ?_⟩
    obtain ⟨df, hf⟩ := hF.ins
    obtain ⟨vs, ht, lvs, st⟩ := hF.tr
    refine ⟨.ref f, rfl, f, T.Follower.C, df, _, .ref tr, rfl, hf, T.Follower.cl, T.nf_Follower_trail, rfl, tr, vs, rfl, .inl (SqL.of ht), _, 1, rfl, rfl, ?_⟩
    have hl : ((vs.length : Int) - 1) = (ms.length : Int) := by omega
    show _
    refine ⟨v, rfl, .int ((vs.length : Int) - 1), rfl, p, v, dd, 0, ((vs.length : Int) - 1), rfl, hv, _, rfl, ?_⟩
    rw [hl]
    cases hb : btw dd 0 ms.length with
    | false => exact iteT ⟨v, rfl, v, rfl, fun e he => q1 hb e he⟩
    | true =>
      refine iteF ?_
      obtain ⟨k', rfl, k0, k1⟩ := btw_int hb
      obtain ⟨k, rfl⟩ : ∃ k : Nat, k' = k := ⟨k'.toNat, by omega⟩
      cases hv
      refine ⟨.ref f, rfl, f, T.Follower.C, df, _, .ref tr, rfl, hf, T.Follower.cl, T.nf_Follower_trail, rfl, ?_⟩
      refine ⟨.int ((vs.length : Int) - 1), rfl, .int k, rfl, _, _, rfl, rfl, _, 1, rfl, rfl, _, rfl, tr, vs, ms.length - k + 1, rfl, ?_, ht, by omega, ?_⟩
      · congr 1
        omega
      · refine q2 k rfl (by omega) _ (fun c o e nc => by rw [upd_ne nc]; exact e) { ins := ⟨df, ?_⟩, ne := hF.ne, wp := ⟨hF.wp.w.putL ht hF.ne.1.symm hF.ne.2.symm, hF.wp.ok⟩, tr := ⟨vs.take (ms.length - k + 1), upd_same, by rw [List.length_take, List.length_take]; omega, fun i v' hi => ?_⟩, len := by have := hF.len; rw [List.length_take]; omega }
        · rw [upd_ne (ne_of hf ht (fun z => nomatch z))]
          exact hf
        · have hlt : i < ms.length - k + 1 := by
            have := (List.getElem?_eq_some_iff.mp hi).1
            rw [List.length_take] at this
            omega
          rw [List.getElem?_take_of_lt hlt] at hi
          rw [List.take_take, Nat.min_eq_left (by omega)]
          exact (st _ _ hi).putL ht
end

open TL
/-! ### streams' texts -/
section
variable {P : Program} {w : World} {K : PySem.W.Frag} {mg : Str → Option Value} {base : Heap}
end
theorem len_int {i : Int} (h : i.natAbs < 10 ^ 60) : (Str.ofString (toString i)).length ≤ 61 := by
  rw [len_tl, tl_int]
  have := numL_len (n := i.natAbs) (k := 60) (by decide) h
  unfold intL
  split
  · simp only [List.length_cons]; omega
  · omega
theorem log_int {i : Int} (h : i.natAbs < 10 ^ 60) : i.natAbs.log2 < 1920 := by
  have := log_small (i := i) (Nat.lt_of_lt_of_le h (by decide))
  omega
theorem len_c : cS.length = 1 := by decide +kernel
theorem len_msg {m : Int × Int} (h1 : m.1.natAbs < 10 ^ 60) (h2 : m.2.natAbs < 10 ^ 60) : (msgS m).length ≤ 123 ∧ (Str.ofString (toString m.1) ++ cS).length ≤ 62 := by
  have a := len_int h1
  have b := len_int h2
  unfold msgS
  rw [Str.length_append, Str.length_append, len_c]
  omega
theorem big_take {α β γ : Type} {f : α → β} {g : β → γ} {ms : List α} {i : Nat} (h : ms.length ≤ 100001) : (((ms.take i).map f).map g).length < sizeLine := by
  rw [List.length_map, List.length_map]
  have := List.length_take_le' i ms
  have := line5
  omega
theorem Rng.at {many : Int} {ms : List (Int × Int)} (hm : many ≤ 6) (h : InRange many ms) {i : Nat} {m : Int × Int} (e : ms[i]? = some m) : m.1.natAbs < 10 ^ 60 ∧ m.2.natAbs < 10 ^ 60 := by
  obtain ⟨a, b, c⟩ := h m (List.mem_of_getElem? e)
  refine ⟨?_, c⟩
  have : m.1.natAbs < 6 := by omega
  exact Nat.lt_trans this (by decide)
theorem join_fits {many : Int} {ms : List (Int × Int)} (hm : many ≤ 6) (h : InRange many ms) (hl : ms.length ≤ 100001) : ((ms.map msgS).map (·.length)).sum + (ms.map msgS).length * spS.length ≤ 16777216 := by
  have e : spS.length = 1 := by decide +kernel
  have := sum_len (B := 123) (ms.map msgS) fun y hy => by
    obtain ⟨m, hm', rfl⟩ := List.mem_map.mp hy
    obtain ⟨i, hi⟩ := List.mem_iff_getElem?.mp hm'
    obtain ⟨a, b⟩ := Rng.at hm h hi
    exact (len_msg a b).1
  rw [e]
  rw [List.length_map] at this ⊢
  omega
def sp_format_stream : Sp := fun vs H Q _ => ∃ (t : Addr) (ms : List (Int × Int)) (many : Int), vs = [.ref t] ∧ TD H (.ref t) (strmD ms) ∧ ms.length ≤ 100001 ∧ many ≤ 6 ∧ InRange many ms ∧
  ∀ H', Same H H' → Q (.str (textOf ms)) H'
section
variable {P : Program} {w : World} {K : PySem.W.Frag} {mg : Str → Option Value} {base : Heap}
abbrev N_format_stream : List Str := ["stream", "word", "value"]
theorem sc_format_stream : FnScope N_format_stream ["stream"] (defScope s_format_stream) := ⟨rfl, rfl, rfl, by decide +kernel, rfl, by decide +kernel, by decide +kernel⟩
theorem G_format_stream (T : Tx K mg) : FnG P w K mg base CX0 1 T.format_stream.f T.format_stream.fd ["stream"] sp_format_stream := by
  refine okG T.format_stream.F sc_format_stream (fun vs H Q E h => ?_) (fun cdv A outer s H vs Q E gd hr h => ?_)
  · obtain ⟨t, ms, many, rfl, _⟩ := h
    rfl
  · obtain ⟨t, ms, many, rfl, hT, hl, hm, hR, q⟩ := h
    refine ⟨_, 
      (pss_cons (ps_if (pt_cmpR (op_eqT hr.units) (pv 0) (pe_tup pa_nil) (nomark _)) 
        (pss_one (ps_ret (pe_glob (v := .str "-") rfl T.g_EMPTY ⟨_, rfl⟩))) -- return EMPTY
         pss_nil) -- if stream == ():
      (pss_one (ps_ret (pe_join pe_str (pe_lc (own := [("word", 1), ("value", 2)]) (g := gTup K 2 (gCons (gName 1) (gCons (gName 2) gNil))) rfl sc_format_stream.nd (pi_tup (pv 0)) (blkOk_by (N := N_format_stream) (sc := defScope s_format_stream) (by decide +kernel)) (fun _ _ _ _ _ => (pg_tup rfl (pgs_cons (pg_name (i := 1) sc_format_stream.nd rfl (.inl rfl)) (pgs_cons (pg_name (i := 2) sc_format_stream.nd rfl (.inl rfl)) pgs_nil)))) (fun _ _ _ _ _ => pts_nil) (fun _ _ _ _ _ => (pe_joinF (.cons (pe_fmt (pv 1)) (.cons pe_str (.cons (pe_fmt (pv 2)) .nil))))))))) -- return ' '.join([f'{word}:{value}' for word, value in stream])
      ) , ?_⟩
    refine ⟨.ref t, rfl, by show 0 ≤ sizeLine; decide, fun p np => ?_⟩
    have s1 : Same H (upd H p (.tup [])) := same_new np
    have hT1 := TD.mono (Tups.same s1) _ hT
    refine ⟨strmD ms, strmD [], hT1, .tup upd_same .nil, shaped_strm ms, rfl, _, rfl, ?_⟩
    rw [eqv_strm]
    refine ite2 (fun hb => ?_) (fun hb => ?_)
    · have e := of_decide_eq_true hb
      subst e
      exact q _ s1
    · have hne : ms ≠ [] := fun e => absurd (decide_eq_true e) hb
      obtain ⟨t1, xs, e0, ht, hx⟩ := hT1.isTup
      cases e0
      refine ⟨⟨_, rfl⟩, .ref t, rfl, t, rfl, ⟨_, SqT.of ht⟩, fun D nD => ?_⟩
      generalize upd H p (.tup []) = H1 at s1 hT1 ht hx nD ⊢
      refine lc_tup (K := K) (a := t) (xs := xs) (fun i H' => Same H1 H' ∧ H' D = some (.lst (((ms.take i).map msgS).map V.str))) ?_ ?_ ?_ ?_
      · exact ⟨same_new nD, upd_same⟩
      · rintro i H2 hi ⟨s2, hD⟩
        exact SqT.of (s2 _ _ ht)
      · rintro i x H2 hi ⟨s2, hD⟩
        obtain ⟨m, ar, em, rfl, har⟩ := hx.msg hi
        have har2 := s2 _ _ har
        obtain ⟨w1, w2⟩ := Rng.at hm hR em
        have lm := len_msg w1 w2
        have li := len_int w1
        have L2 := line200
        refine ⟨ar, [.int m.1, .int m.2], rfl, SqT.of har2, rfl, .int m.1, [.int m.2], rfl, .int m.2, [], rfl, rfl, rfl, ?_⟩
        refine ⟨.int m.1, rfl, .inr ⟨m.1, rfl, log_int w1, _, rfl, ?_, _, rfl, ?_, .int m.2, rfl, .inr ⟨m.2, rfl, log_int w2, _, rfl, ?_, ?_⟩⟩⟩
        · rw [Str.empty_append]
          exact Nat.le_trans li (by omega)
        · rw [Str.empty_append]
          exact Nat.le_trans lm.2 (by omega)
        · rw [Str.empty_append]
          exact Nat.le_trans lm.1 (by omega)
        · rw [Str.empty_append]
          refine ⟨_, hD, big_take hl, ?_, ?_⟩
          · intro b o e
            have : b ≠ D := ne_of_none e nD
            rw [upd_ne this]
            exact s2 _ _ e
          · rw [upd_same, List.take_add_one, em, List.map_append, List.map_append]
            rfl
      · rintro H2 ⟨s2, hD⟩
        rw [hx.msgs_len, List.take_length] at hD
        refine ⟨_, D, ms.map msgS, rfl, rfl, .inl (SqL.of hD), join_fits hm hR hl, ?_⟩
        have e : textOf ms = Txt.join spS (ms.map msgS) := if_neg hne
        rw [e] at q
        exact q _ (s1.trans s2)
end

open TL
/-! ### the law's text; a value's text -/
def sp_is_written_value : Sp := fun vs H Q _ => ∃ z : Str, vs = [.str z] ∧ z.length ≤ 100000 ∧ Q (.bl (goodVal (tl z))) H
theorem atI_head {l : List Nat} {c : Nat} (h : l.head? = some c) : atI l 0 = some c := by
  cases l with
  | nil => cases h
  | cons x r =>
    cases Option.some.inj h
    exact atI_nat (j := 0) rfl
theorem v_str {a b : Str} : decide (V.str a = V.str b) = decide (tl a = tl b) := by
  by_cases h : a = b
  · subst h
    rw [decide_eq_true rfl, decide_eq_true rfl]
  · rw [decide_eq_false (fun e => h (V.str.inj e)), decide_eq_false (fun e => h (ext_tl e))]
section
variable {P : Program} {w : World} {K : PySem.W.Frag} {mg : Str → Option Value} {base : Heap}
abbrev N_is_written_value : List Str := ["text", "digits"]
theorem sc_is_written_value : FnScope N_is_written_value ["text"] (defScope s_is_written_value) := ⟨rfl, rfl, rfl, by decide +kernel, rfl, by decide +kernel, by decide +kernel⟩
theorem G_is_written_value (T : Tx K mg) : FnG P w K mg base CX0 1 T.is_written_value.f T.is_written_value.fd ["text"] sp_is_written_value := by
  refine okG T.is_written_value.F sc_is_written_value (fun vs H Q E h => ?_) (fun cdv A outer s H vs Q E gd hr h => ?_)
  · obtain ⟨z, rfl, _⟩ := h
    rfl
  · obtain ⟨z, rfl, hz, q⟩ := h
    have L5 := line5
    refine ⟨_, 
      (C8.pss_cut (ps_set (i := 1) sc_is_written_value.nd rfl (.inl rfl) (pe_ifExp (pt_val (pe_m1 PySem.F.slot_str_startswith PySem.F.type_str_startswith mt_startswith (pv 0) pe_str)) (pe_slice sl_str (pv 0) (po_some pe_int) po_none) (pv 0))) -- digits = text[1:] if text.startswith('-') else text
      (pss_cons (ps_if (PW.pt (pw_or (pt_cmpR op_gt (pe_callB call_len (by rfl) T.m_len PySem.boot_len (pa_cons (pv 1) pa_nil)) (pe_glob (v := .int 60) rfl T.g_MOST_DIGITS ⟨_, rfl⟩) (nomark _)) (pw_or (pt_not (pt_val (pe_m0 PySem.F.slot_str_isascii PySem.F.type_str_isascii mt_isascii (pv 1)))) (pw_or1 (pt_not (pt_val (pe_m0 PySem.F.slot_str_isdigit PySem.F.type_str_isdigit mt_isdigit (pv 1)))))))) 
        (pss_one (ps_ret pe_bl)) -- return False
         pss_nil) -- if len(digits) > MOST_DIGITS or not digits.isascii() or (not digits.isdigit()):
      (pss_one (ps_ret (pe_or (pe_cmpR op_ne (pe_ix ix_str (pv 1) pe_int (fun _ _ => rfl)) pe_str (nomark _)) (pe_one (pe_cmpR op_eq (pv 0) pe_str (nomark _)))))) -- return digits[0] != '0' or text == '0'
      )) , ?_⟩
    refine ⟨fun σ H' => ∃ d, σ = [some (.str z), some (.str d)] ∧ H' = H ∧ tl d = digOf (tl z) ∧ d.length ≤ z.length, ?_, ?_⟩
    · refine ⟨.str z, rfl, ⟨_, rfl⟩, z, miS, rfl, rfl, _, rfl, ?_⟩
      rw [starts_minus]
      refine ite2 (fun hb => ?_) (fun hb => ?_)
      · have hb := of_decide_eq_true hb
        refine ⟨.str z, rfl, 1, rfl, z, rfl, by omega, cutS z (some 1) none, rfl, rfl, ?_, ?_⟩
        · rw [show (1 : Int) = ((1 : Nat) : Int) from rfl, tl_cut_from]
          cases e : tl z with
          | nil => rw [e] at hb; cases hb
          | cons c r =>
            rw [e] at hb
            cases Option.some.inj hb
            rfl
        · rw [len_tl, len_tl, show (1 : Int) = ((1 : Nat) : Int) from rfl, tl_cut_from, List.length_drop]
          omega
      · refine ⟨.str z, rfl, z, rfl, rfl, ?_, Nat.le_refl _⟩
        rw [digOf_else (fun e => hb (decide_eq_true e))]
    rintro σ H1 ⟨d, rfl, rfl, hd, ld⟩
    rw [written_iff hd] at q
    refine ⟨.str d, rfl, _, d.length, rfl, ⟨by omega, rfl⟩, _, _, rfl, rfl, _, rfl, ite2 (fun h1 => ?_) (fun h1 => ?_)⟩
    · have h1 := of_decide_eq_true h1
      rw [if_pos (.inl (by omega))] at q
      exact q
    have h1 : ¬ d.length > 60 := fun z => h1 (decide_eq_true (by omega))
    refine ⟨.str d, rfl, ⟨_, rfl⟩, d, rfl, rfl, trivial, _, rfl, ?_⟩
    cases h2 : Txt.isascii d with
    | false =>
      rw [if_pos (.inr (.inl h2))] at q
      exact q
    | true =>
      refine ⟨.str d, rfl, ⟨_, rfl⟩, d, rfl, rfl, trivial, _, rfl, ?_⟩
      cases h3 : Txt.isdigit d with
      | false =>
        rw [if_pos (.inr (.inr h3))] at q
        exact q
      | true =>
        rw [if_neg (by rintro (z | z | z) <;> first | omega | (rw [h2] at z; cases z) | (rw [h3] at z; cases z))] at q
        obtain ⟨c, hc⟩ : ∃ c, (tl d).head? = some c := by
          rw [asc_dig d h2] at h3
          cases e : tl d with
          | nil => rw [e] at h3; cases h3
          | cons c r => exact ⟨c, rfl⟩
        refine ⟨.str d, rfl, d, 0, c, rfl, rfl, by omega, atI_head hc, rfl, ?_⟩
        rw [hc] at q
        have e0 : decide (V.str ⟨#[c]⟩ = V.str (Str.ofString "0")) = decide (some c = some 48) := by
          rw [v_str]
          show decide ([c] = tl (Str.ofString "0")) = _
          rw [show tl (Str.ofString "0") = [48] by decide +kernel]
          by_cases h : c = 48
          · subst h; rfl
          · rw [decide_eq_false (fun z => h (List.cons.inj z).1), decide_eq_false (fun z => h (Option.some.inj z))]
        refine ⟨_, rfl, ?_⟩
        rw [e0]
        cases hh : decide (some c = some 48) with
        | false =>
          rw [hh] at q
          exact q
        | true =>
          rw [hh] at q
          refine ⟨.str z, rfl, rfl, ?_⟩
          rw [v_str, show tl (Str.ofString "0") = [48] by decide +kernel]
          exact q
end

open TL
/-! ### a text read -/
def optD : Option Int → PyData
  | some i => .int i
  | none => .none
theorem ld_opt {p : Addr} {H : Hp} : ∀ o : Option Int, LD p H (optV o) (optD o)
  | some i => .int i
  | none => .non
def sp_parse_stream (CP : Addr) : Sp := fun vs H Q E => ∃ (z : Str) (many : Int), vs = [.str z, .int many] ∧ z.length ≤ 100000 ∧ 1 ≤ many ∧ many ≤ 3 ∧
  (goodText many z = true → ∀ t H', Same H H' → TD H' (.ref t) (strmD (msgsOf z)) → Q (.ref t) H') ∧
  (goodText many z = false → ∀ e H', Same H H' → H' e = none → E (.ref CP) (some e) (upd H' e (.xd [(("line" : Str), .int 0)])))
theorem cut_lens (p : Str) : (Txt.partition p cS).1.length ≤ p.length ∧ (Txt.partition p cS).2.2.length ≤ p.length := by
  rw [partition_par p cS (by rw [tl_c]; simp)]
  have key : ∀ (l acc a b : List Nat), par [58] acc l = some (a, b) → a.length ≤ acc.length + l.length ∧ b.length ≤ l.length := by
    intro l
    induction l with
    | nil => intro acc a b h; cases h
    | cons c r ih =>
      intro acc a b h
      by_cases hc : pre [58] (c :: r) = true
      · rw [par_hit hc] at h
        cases h
        simp only [List.length_cons, List.length_drop]
        omega
      · rw [par_miss (by cases e : pre [58] (c :: r) with | true => exact absurd e hc | false => rfl)] at h
        have := ih _ _ _ h
        simp only [List.length_append, List.length_cons, List.length_nil] at this ⊢
        omega
  have hp := len_tl p
  rw [tl_c]
  cases e : par [58] [] (tl p) with
  | none => exact ⟨Nat.le_refl _, Nat.zero_le _⟩
  | some q =>
    obtain ⟨a, b⟩ := q
    have := key _ _ _ _ e
    simp only [List.length_nil, Nat.zero_add] at this
    show (⟨a.toArray⟩ : Str).length ≤ _ ∧ (⟨b.toArray⟩ : Str).length ≤ _
    rw [hp, len_tl, len_tl]
    exact this
section
variable {P : Program} {w : World} {K : PySem.W.Frag} {mg : Str → Option Value} {base : Heap}
abbrev N_parse_stream : List Str := ["text", "words", "messages", "part", "word", "_", "value"]
theorem sc_parse_stream : FnScope N_parse_stream ["text", "words"] (defScope s_parse_stream) := ⟨rfl, rfl, rfl, by decide +kernel, rfl, by decide +kernel, by decide +kernel⟩
theorem G_parse_stream (T : Tx K mg) (hw : T.pr = w.params) : FnG P w K mg base (L2.CX P w) 4 T.parse_stream.f T.parse_stream.fd ["text", "words"] (sp_parse_stream T.ParseError.C) := by
  refine okGX T.parse_stream.F sc_parse_stream (fun vs H Q E h => ?_) (fun cdv A outer s H vs Q E gd hr h => ?_)
  · obtain ⟨z, many, rfl, _⟩ := h
    rfl
  · obtain ⟨z, many, rfl, hz, m0, m1, q1, q2⟩ := h
    have L5 := line5
    refine ⟨_, 
      (pss_cons (ps_if (pt_cmpR op_eq (pv 0) (pe_glob (v := .str "-") rfl T.g_EMPTY ⟨_, rfl⟩) (nomark _)) 
        (pss_one (ps_ret (pe_tup pa_nil))) -- return ()
         pss_nil) -- if text == EMPTY:
      (pss_cons (ps_set (i := 2) sc_parse_stream.nd rfl (.inl rfl) (pe_lst pa_nil)) -- messages = []
      (pss_cons (ps_for (passes_of rfl) rfl (pi_list (pe_split (pv 0) pe_str)) (pg_name (i := 3) sc_parse_stream.nd rfl (.inl rfl)) 
        (pss_cons (ps_asg (pe_partition (pv 3) pe_str) (pg_tup rfl (pgs_cons (pg_name (i := 4) sc_parse_stream.nd rfl (.inl rfl)) (pgs_cons (pg_name (i := 5) sc_parse_stream.nd rfl (.inl rfl)) (pgs_cons (pg_name (i := 6) sc_parse_stream.nd rfl (.inl rfl)) pgs_nil))))) -- word, _, value = part.partition(':')
        (pss_cons (ps_if (PW.pt (pw_or (pt_not (pt_val (pe_callG (G_is_between T) gd (hr.mono (by decide)) rfl T.is_between.g T.is_between.F.kp T.is_between.b .nil pass0 (pa_cons (pe_kget (pe_glob (v := .ref T.aDIGITS) rfl T.g_DIGITS rfl) (pv 4) ⟨by rfl, by rfl, by rfl, by rfl⟩) (pa_cons pe_int (pa_cons (pe_op op_sub (pv 1) pe_int) pa_nil)))))) (pw_or1 (pt_not (pt_val (pe_callG (G_is_written_value T) gd (hr.mono (by decide)) rfl T.is_written_value.g T.is_written_value.F.kp T.is_written_value.b .nil pass0 (pa_cons (pv 6) pa_nil))))))) 
          (pss_one (L2.ps_raiseE (W := fun cls d _ H => E cls d H) rfl T.ParseError.e (show Room 1 _ from hr.mono (by decide)) (takes_of rfl rfl rfl rfl) (by exact (pa_cons pe_int pa_nil)))) -- raise ParseError(0)
           pss_nil) -- if not is_between(DIGITS.get(word), 0, words - 1) or not is_written_value(value):
        (pss_one (ps_expr (pe_bm PySem.F.plainAttrs_list PySem.F.slot_list_append PySem.F.type_list_append mt_append (pv 2) (pa_cons (pe_tup (pa_cons (pe_ix ix_kdict (pe_glob (v := .ref T.aDIGITS) rfl T.g_DIGITS rfl) (pv 4) (fun _ _ => rfl)) (pa_cons (pe_callTy call_int_str (by rfl) T.m_int (by decide +kernel) (pa_cons (pv 6) pa_nil)) pa_nil))) pa_nil)))) -- messages.append((DIGITS[word], int(value)))
        ))) -- for part in text.split(' '):
      (pss_one (ps_ret (pe_callTy call_tuple_of (by rfl) T.m_tuple (by decide +kernel) (pa_cons (pv 2) pa_nil)))) -- return tuple(messages)
      ))) , ?_⟩
    refine ⟨.str z, rfl, rfl, _, rfl, ?_⟩
    have ez : decide (V.str z = V.str (Str.ofString "-")) = decide (z = miS) := by
      by_cases h : z = miS
      · rw [decide_eq_true h, decide_eq_true (by rw [h])]
      · rw [decide_eq_false h, decide_eq_false (fun e => h (V.str.inj e))]
    rw [ez]
    refine ite2 (fun hb => ?_) (fun hb => ?_)
    · have e := of_decide_eq_true hb
      refine ⟨by show 0 ≤ sizeLine; decide, fun p np => ?_⟩
      refine q1 (by unfold goodText; rw [decide_eq_true e]; rfl) p _ (same_new np) ?_
      have : msgsOf z = [] := if_pos e
      rw [this]
      exact .tup upd_same .nil
    have hne : z ≠ miS := fun e => hb (decide_eq_true e)
    have eg : goodText many z = (Txt.split z spS).all fun p => goodPart many (tl p) := by
      unfold goodText
      rw [decide_eq_false hne, Bool.false_or]
    have em : msgsOf z = (Txt.split z spS).map fun p => msgOf (tl p) := if_neg hne
    obtain ⟨pl1, pl2, pl3⟩ := split_len (x := z) (y := spS) (by rw [tl_sp]; simp) sp_kind
    rw [eg, em] at q1
    rw [eg] at q2
    refine ⟨by show 0 ≤ sizeLine; decide, fun lm nm => ?_⟩
    have s1 : Same H (upd H lm (.lst [])) := same_new nm
    refine ⟨.str z, rfl, ⟨_, rfl⟩, z, spS, rfl, rfl, by rfl, by omega, fun l nl => ?_⟩
    generalize hps : Txt.split z spS = ps at q1 q2 pl1 pl2 pl3 ⊢
    have s2 : Same (upd H lm (.lst [])) (upd (upd H lm (.lst [])) l (.lst (ps.map V.str))) := same_new nl
    have h1 : (upd (upd H lm (.lst [])) l (.lst (ps.map V.str))) lm = some (.lst []) := s2 _ _ upd_same
    have h2 : (upd (upd H lm (.lst [])) l (.lst (ps.map V.str))) l = some (.lst (ps.map V.str)) := upd_same
    have nll : l ≠ lm := (ne_of_none upd_same nl).symm
    have s3 := s1.trans s2
    generalize upd (upd H lm (.lst [])) l (.lst (ps.map V.str)) = H1 at s2 h1 h2 s3 ⊢
    refine ⟨l, rfl, ⟨_, SqL.of h2⟩, for_list (xs := ps.map V.str) (fun i σ H' => ∃ y3 y4 y5 y6 vs, σ = [some (.str z), some (.int many), some (.ref lm), y3, y4, y5, y6] ∧ (∀ b o, H1 b = some o → b ≠ lm → H' b = some o) ∧ H' lm = some (.lst vs) ∧
      TDs H' vs (((ps.take i).map fun p => msgOf (tl p)).map msgD) ∧ (ps.take i).all (fun p => goodPart many (tl p)) = true) ?_ ?_ ?_ ?_⟩
    · exact ⟨none, none, none, none, [], rfl, fun b o e _ => e, h1, .nil, rfl⟩
    · rintro i σ H2 hi ⟨y3, y4, y5, y6, vs, rfl, k2, hm2, ht2, ha2⟩
      exact SqL.of (k2 _ _ h2 nll)
    · rintro i x σ H2 hi ⟨y3, y4, y5, y6, vs, rfl, k2, hm2, ht2, ha2⟩
      have hi' := hi
      rw [List.getElem?_map] at hi'
      obtain ⟨p, hp, rfl⟩ := Option.map_eq_some_iff.mp hi'
      have lp := pl3 p (List.mem_of_getElem? hp)
      obtain ⟨gp, gm⟩ := goodPart_par (many := many) p
      obtain ⟨lc1, lc2⟩ := cut_lens p
      have hll : vs.length ≤ i := by
        rw [ht2.length, List.length_map, List.length_map]
        exact List.length_take_le _ _
      have hi3 : i < ps.length := by
        rw [List.getElem?_eq_some_iff] at hp
        exact hp.1
      refine ⟨.str p, rfl, ⟨_, rfl⟩, p, cS, rfl, rfl, by rfl, by omega, fun TT nT => ?_⟩
      generalize hw1 : (Txt.partition p cS).1 = wd at gp gm lc1 ⊢
      generalize hw2 : (Txt.partition p cS).2.2 = vl at gp gm lc2 ⊢
      have sT : Same H2 (upd H2 TT (.tup [.str wd, .str (Txt.partition p cS).2.1, .str vl])) := same_new nT
      refine ⟨TT, _, rfl, SqT.of upd_same, rfl, .str wd, [.str (Txt.partition p cS).2.1, .str vl], rfl, .str (Txt.partition p cS).2.1, [.str vl], rfl, .str vl, [], rfl, rfl, ?_⟩
      have hm3 := sT _ _ hm2
      have ht3 := ht2.mono (Tups.same sT)
      have k3 : ∀ b o, H1 b = some o → b ≠ lm → (upd H2 TT (.tup [.str wd, .str (Txt.partition p cS).2.1, .str vl])) b = some o := fun b o e n => sT _ _ (k2 b o e n)
      generalize upd H2 TT (.tup [.str wd, .str (Txt.partition p cS).2.1, .str vl]) = H3 at hm3 ht3 k3 ⊢
      have sH : Same H H3 := fun b o e => k3 b o (s3 b o e) (ne_of_none e nm)
      have bad : goodPart many (tl p) = false → ∀ e, H3 e = none → E (.ref T.ParseError.C) (some e) (upd H3 e (.xd [(("line" : Str), .int 0)])) := fun hf e he =>
        q2 (by
          cases ea : ps.all (fun p => goodPart many (tl p)) with
          | false => rfl
          | true =>
            have := List.all_eq_true.mp ea p (List.mem_of_getElem? hp)
            rw [hf] at this
            cases this) e H3 sH he
      refine ⟨T.aDIGITS, litF lit_DIGITS, rfl, T.dg_DIGITS w hw, .str wd, rfl, wd, rfl, .int many, rfl, many, 1, rfl, rfl, ?_⟩
      rw [digits_word]
      refine ⟨TT, _, optD (wordVal (tl wd)), 0, many - 1, rfl, ld_opt _, _, rfl, ?_⟩
      have eb : btw (optD (wordVal (tl wd))) 0 (many - 1) = ltO many (wordVal (tl wd)) := by
        cases e : wordVal (tl wd) with
        | none => rfl
        | some d =>
          show (decide (0 ≤ d) && decide (d ≤ many - 1)) = decide (d < many)
          have : 0 ≤ d := by
            unfold wordVal at e
            split at e
            · split at e
              · cases e; omega
              · cases e
            · cases e
          rw [decide_eq_true this, Bool.true_and]
          by_cases h : d < many
          · rw [decide_eq_true h, decide_eq_true (by omega)]
          · rw [decide_eq_false h, decide_eq_false (by omega)]
      rw [eb]
      cases h1b : ltO many (wordVal (tl wd)) with
      | false =>
        rw [h1b] at gp
        refine iteT ⟨_, rfl, fun e he => bad gp e he⟩
      | true =>
        rw [h1b] at gp
        refine iteF ⟨.str vl, rfl, vl, rfl, by omega, _, rfl, ?_⟩
        cases h2b : goodVal (tl vl) with
        | false =>
          rw [h2b] at gp
          exact iteT ⟨_, rfl, fun e he => bad gp e he⟩
        | true =>
          rw [h2b] at gp
          obtain ⟨d, ed, emo⟩ := gm gp
          obtain ⟨ei, li⟩ := goodVal_int? h2b
          refine iteF ⟨.ref lm, rfl, .inl ⟨rfl, _, SqL.of hm3⟩, .str wd, rfl, T.aDIGITS, wd, .int d, rfl, rfl, (T.dg_DIGITS w hw).kd (by rw [digits_word]; exact ed), .str vl, rfl, vl, _, rfl, ei, by omega, by show 2 ≤ sizeLine; decide, fun U nU => ?_⟩
          have sU : Same H3 (upd H3 U (.tup [.int d, .int (valOf (tl vl))])) := same_new nU
          have nUm : lm ≠ U := ne_of_none hm3 nU
          refine ⟨lm, vs, .ref U, rfl, rfl, sU _ _ hm3, by omega, _, _, _, _, vs ++ [.ref U], rfl, ?_, upd_same, ?_, ?_⟩
          · intro b o e n
            rw [upd_ne n]
            exact sU _ _ (k3 b o e n)
          · rw [List.take_add_one, hp, List.map_append, List.map_append]
            have tl1 : Tups (upd H3 U (.tup [.int d, .int (valOf (tl vl))])) (upd (upd H3 U (.tup [.int d, .int (valOf (tl vl))])) lm (.lst (vs ++ [.ref U]))) := Tups.lst (l := vs) (sU _ _ hm3)
            refine ((ht3.mono (Tups.same sU)).mono tl1).app (.cons (TD.mono tl1 _ ?_) .nil)
            show TD _ (.ref U) (msgD (msgOf (tl p)))
            rw [emo]
            exact TD.ofPair upd_same
          · rw [List.take_add_one, hp, List.all_append, ha2]
            show (true && (goodPart many (tl p) && true)) = true
            rw [gp]
            rfl
    · rintro σ H2 ⟨y3, y4, y5, y6, vs, rfl, k2, hm2, ht2, ha2⟩
      rw [List.length_map, List.take_length] at ht2 ha2
      refine ⟨.ref lm, rfl, lm, vs, rfl, .inl ⟨SqL.of hm2, fun t nt => ?_⟩⟩
      refine q1 ha2 t _ (fun b o e => ?_) (.tup upd_same (ht2.mono (Tups.new nt)))
      have := k2 b o (s3 b o e) (ne_of_none e nm)
      exact same_new nt _ _ this
end

/-! ### the order of rules by the law's own ranks -/
def rank9 : List Key → List Int
  | [Sum.inl i, Sum.inl j, Sum.inl r] => [i, j, r]
  | [Sum.inl i, Sum.inl j, Sum.inr _] => [i, j, 9]
  | _ => [0, 0, 0]
theorem rank9_cons (k : List Key) : ∃ x r, rank9 k = x :: r := by
  unfold rank9
  split <;> exact ⟨_, _, rfl⟩
theorem rank9_len (k : List Key) : (rank9 k).length = 3 := by
  unfold rank9
  split <;> rfl
def KB (k : List Key) : Prop := ∃ (i j : Int) (t : Key), k = [Sum.inl i, Sum.inl j, t] ∧ ((∃ r : Int, t = Sum.inl r ∧ 0 ≤ r ∧ r < 3) ∨ t = Sum.inr ("new" : Str))
theorem KB.rk {k : List Key} (h : KB k) : RK k := by
  obtain ⟨i, j, t, rfl, ⟨r, rfl, _, _⟩ | rfl⟩ := h
  · exact ⟨i, j, _, rfl, .inl ⟨r, rfl⟩⟩
  · exact ⟨i, j, _, rfl, .inr rfl⟩
theorem le3 (a b c a' b' c' : Int) : ([a, b, c] ≤ [a', b', c']) ↔ (a < a' ∨ (a = a' ∧ (b < b' ∨ (b = b' ∧ c ≤ c')))) := by
  simp only [List.cons_le_cons_iff, List.le_refl, and_true]
  omega
theorem rank_le {a b : List Key} (ha : KB a) (hb : KB b) : rankK a ≤ rankK b ↔ rank9 a ≤ rank9 b := by
  obtain ⟨i, j, t, rfl, ⟨r, rfl, r0, r1⟩ | rfl⟩ := ha <;> obtain ⟨i', j', t', rfl, ⟨r', rfl, r0', r1'⟩ | rfl⟩ := hb <;> (simp only [rankK, rank9, le3] <;> omega)
theorem rank_anti {a b : List Key} (ha : KB a) (hb : KB b) (h1 : rank9 a ≤ rank9 b) (h2 : rank9 b ≤ rank9 a) : a = b := by
  obtain ⟨i, j, t, rfl, ⟨r, rfl, r0, r1⟩ | rfl⟩ := ha <;> obtain ⟨i', j', t', rfl, ⟨r', rfl, r0', r1'⟩ | rfl⟩ := hb <;> simp only [rank9, le3] at h1 h2
  · have e1 : i = i' := by omega
    have e2 : j = j' := by omega
    have e3 : r = r' := by omega
    rw [e1, e2, e3]
  · omega
  · omega
  · have e1 : i = i' := by omega
    have e2 : j = j' := by omega
    rw [e1, e2]
theorem list_le_total (a b : List Int) : a ≤ b ∨ b ≤ a := List.le_total a b
theorem srt_pw (rank : List Key → List Int) (ks : List (List Key)) : (srt rank ks).Pairwise fun a b => rank a ≤ rank b := by
  have h := List.pairwise_mergeSort (le := fun a b => decide (rank a ≤ rank b)) (fun a b c h1 h2 => decide_eq_true (List.le_trans (of_decide_eq_true h1) (of_decide_eq_true h2))) (fun a b => by
    rw [Bool.or_eq_true, decide_eq_true_iff, decide_eq_true_iff]
    exact list_le_total _ _) ks
  exact h.imp fun z => of_decide_eq_true z
theorem srt_eq {k1 k2 : List (List Key)} (p : k1.Perm k2) (h : ∀ k ∈ k1, KB k) : srt rankK k1 = srt rank9 k2 := by
  have m1 : ∀ k ∈ srt rankK k1, KB k := fun k hk => h k (srt_mem.mp hk)
  have m2 : ∀ k ∈ srt rank9 k2, KB k := fun k hk => h k (p.mem_iff.mpr (srt_mem.mp hk))
  refine List.Perm.eq_of_pairwise (le := fun a b => rank9 a ≤ rank9 b) (fun a b ha hb => rank_anti (m1 a ha) (m2 b hb)) ?_ (srt_pw _ _) (((List.mergeSort_perm k1 _).trans p).trans (List.mergeSort_perm k2 _).symm)
  exact (srt_pw rankK k1).imp_of_mem fun ha hb z => (rank_le (m1 _ ha) (m1 _ hb)).mp z
theorem lookR_mem {R : Rows} (nd : (R.map (·.1)).Nodup) {k : List Key} {d : PyData} (h : (k, d) ∈ R) : lookR R k = d := by
  induction R with
  | nil => cases h
  | cons p r ih =>
    unfold lookR
    have nd' := List.nodup_cons.mp nd
    rcases List.mem_cons.mp h with e | e
    · subst e
      rw [List.find?_cons_of_pos (by simp)]
      rfl
    · have : ¬ p.1 = k := fun z => nd'.1 (List.mem_map.mpr ⟨_, e, z.symm⟩)
      rw [List.find?_cons_of_neg (by simpa using this)]
      exact ih nd'.2 e
theorem heldAt_set {ks : List (Int × Int)} {s : Int} {a : Int} (i : Int) (s0 : 0 ≤ s) (i0 : 0 ≤ i) : heldAt (ks.set s.toNat (a, heldAt ks s)) i = heldAt ks i := by
  unfold heldAt
  rw [List.getElem?_set]
  by_cases e : s.toNat = i.toNat
  · rw [if_pos e]
    have es : s = i := by omega
    subst es
    by_cases h : s.toNat < ks.length
    · rw [if_pos h]
      rfl
    · rw [if_neg h, List.getElem?_eq_none (by omega)]
  · rw [if_neg e]
theorem RuleOk.kinds {w : Int} {ks ks' : List (Int × Int)} {r : PRule} (h : RuleOk w ks r) (hl : ks.length ≤ ks'.length) (hh : ∀ i : Int, 0 ≤ i → i < ks.length → heldAt ks' i = heldAt ks i) : RuleOk w ks' r := by
  obtain ⟨i, j, t, e, i0, i1, j0, j1, ht, g0, g1, hs⟩ := h
  refine ⟨i, j, t, e, i0, by omega, j0, j1, ?_, g0, by omega, ?_⟩
  · rw [hh i i0 i1]
    exact ht
  · rw [hh i i0 i1, hh _ g0 g1]
    exact hs
/-- a rank beside a number -/
abbrev RkN := Int × Int × Int × Int
def encR (b : RkN) : PyData := .tuple [.tuple [.int b.1, .int b.2.1, .int b.2.2.1], .int b.2.2.2]
def leR (p q : RkN) : Prop := p.1 < q.1 ∨ (p.1 = q.1 ∧ (p.2.1 < q.2.1 ∨ (p.2.1 = q.2.1 ∧ (p.2.2.1 < q.2.2.1 ∨ (p.2.2.1 = q.2.2.1 ∧ p.2.2.2 ≤ q.2.2.2)))))
theorem lexI {a b : Int} {r t : List (Int ⊕ List Nat)} : PyProof.Rows.lexLt PyProof.Rows.itemOrd (.inl a :: r) (.inl b :: t) = true ↔ a < b ∨ (¬ b < a ∧ PyProof.Rows.lexLt PyProof.Rows.itemOrd r t = true) := by
  rw [PyProof.Rows.lex_true]
  show decide (a < b) = true ∨ (decide (b < a) = false ∧ _) ↔ _
  rw [decide_eq_true_iff, decide_eq_false_iff_not]
theorem lexN : PyProof.Rows.lexLt PyProof.Rows.itemOrd [] [] = true ↔ False := ⟨fun z => Bool.noConfusion z, False.elim⟩
theorem le_encR {β : Type} (f : β → RkN) (p q : β) : PySem.W.dataLe false (fun b => encR (f b)) p q = true ↔ leR (f p) (f q) := by
  rw [PySem.W.dataLe_eq]
  show (!PySem.W.dataLt (encR (f q)) (encR (f p))) = true ↔ _
  obtain ⟨i, j, r, a⟩ := f p
  obtain ⟨i', j', r', a'⟩ := f q
  have e : PySem.W.dataLt (encR (i', j', r', a')) (encR (i, j, r, a)) = decide (i' < i ∨ (i' = i ∧ (j' < j ∨ (j' = j ∧ (r' < r ∨ (r' = r ∧ a' < a)))))) := by
    show PyProof.Rows.lexLt PyProof.Rows.itemOrd [.inl 1, .inl 1, .inl i', .inl 1, .inl j', .inl 1, .inl r', .inl 0, .inl 1, .inl a', .inl 0] [.inl 1, .inl 1, .inl i, .inl 1, .inl j, .inl 1, .inl r, .inl 0, .inl 1, .inl a, .inl 0] = _
    rw [Bool.eq_iff_iff, decide_eq_true_iff]
    repeat rw [lexI]
    rw [lexN]
    simp only [Int.lt_irrefl, false_or, not_false_eq_true, true_and, and_false, or_false]
    constructor
    · intro h
      omega
    · intro h
      omega
  rw [e]
  simp only [Bool.not_eq_true', decide_eq_false_iff_not, leR]
  omega
def enK (k : List Key) (n : Nat) : RkN := match rank9 k with
  | [i, j, r] => (i, j, r, (n : Int))
  | _ => (0, 0, 0, (n : Int))
theorem enK_le {a b : List Key} (ha : KB a) (hb : KB b) {n m : Nat} (h : leR (enK a n) (enK b m)) : rank9 a ≤ rank9 b := by
  obtain ⟨i, j, t, rfl, ⟨r, rfl, r0, r1⟩ | rfl⟩ := ha <;> obtain ⟨i', j', t', rfl, ⟨r', rfl, r0', r1'⟩ | rfl⟩ := hb <;> simp only [enK, rank9, le3, leR] at h ⊢ <;> omega
/-- the keys, sorted beside their numbers -/
theorem keys_sorted {β : Type} (f : β → RkN) (g : β → List Key) (num : β → Nat) (bs : List β) (hf : ∀ b ∈ bs, f b = enK (g b) (num b)) (hk : ∀ b ∈ bs, KB (g b)) : (bs.mergeSort (PySem.W.dataLe false fun b => encR (f b))).map g = srt rank9 (bs.map g) := by
  have tr : ∀ a b c : β, PySem.W.dataLe false (fun b => encR (f b)) a b = true → PySem.W.dataLe false (fun b => encR (f b)) b c = true → PySem.W.dataLe false (fun b => encR (f b)) a c = true := fun a b c h1 h2 => by
    rw [le_encR] at h1 h2 ⊢
    unfold leR at *
    omega
  have tot : ∀ a b : β, (PySem.W.dataLe false (fun b => encR (f b)) a b || PySem.W.dataLe false (fun b => encR (f b)) b a) = true := fun a b => by
    rw [Bool.or_eq_true, le_encR, le_encR]
    unfold leR
    omega
  have pw := List.pairwise_mergeSort tr tot bs
  have pm := List.mergeSort_perm bs (PySem.W.dataLe false fun b => encR (f b))
  have m1 : ∀ k ∈ (bs.mergeSort (PySem.W.dataLe false fun b => encR (f b))).map g, KB k := fun k h => by
    obtain ⟨b, hb, rfl⟩ := List.mem_map.mp h
    exact hk b (pm.mem_iff.mp hb)
  have m2 : ∀ k ∈ srt rank9 (bs.map g), KB k := fun k h => by
    obtain ⟨b, hb, rfl⟩ := List.mem_map.mp (srt_mem.mp h)
    exact hk b hb
  refine List.Perm.eq_of_pairwise (le := fun a b => rank9 a ≤ rank9 b) (fun a b ha hb => rank_anti (m1 a ha) (m2 b hb)) ?_ (srt_pw _ _) ((pm.map g).trans (List.mergeSort_perm (bs.map g) _).symm)
  refine List.pairwise_map.mpr (pw.imp_of_mem fun {a b} ha hb h => ?_)
  have ha' := pm.mem_iff.mp ha
  have hb' := pm.mem_iff.mp hb
  rw [le_encR, hf a ha', hf b hb'] at h
  exact enK_le (hk a ha') (hk b hb') h

open TL
/-! ### a plan's lines -/
theorem PlanOk.kb {P : Plan} (ok : PlanOk P) : ∀ k ∈ P.rules.map (·.1), KB k := fun k hk => by
  obtain ⟨r, hr, rfl⟩ := List.mem_map.mp hk
  obtain ⟨i, j, t, e, i0, i1, _, _, ht, _⟩ := ok.r r hr
  refine ⟨i, j, t, e, ?_⟩
  rcases ht with ⟨n, rfl, n0, n1⟩ | rfl
  · exact .inl ⟨n, rfl, n0, by have := heldAt_le ok.k i; omega⟩
  · exact .inr rfl
section
variable {P : Program} {w : World} {K : PySem.W.Frag} {mg : Str → Option Value} {base : Heap}
end

/-! ### rules in another order; verdicts set anew -/
theorem lookP_perm {R1 R2 : List PRule} (p : R1.Perm R2) (nd : (R1.map (·.1)).Nodup) (k : List Key) : lookP R1 k = lookP R2 k := by
  have nd2 : (R2.map (·.1)).Nodup := (p.map _).nodup_iff.mp nd
  cases e : lookP R1 k with
  | some v => exact (lookP_mem nd2 (p.mem_iff.mp (lookP_some e).1)).symm
  | none =>
    cases e2 : lookP R2 k with
    | none => rfl
    | some v =>
      rw [lookP_mem nd (p.mem_iff.mpr (lookP_some e2).1)] at e
      cases e
theorem sortP_perm {R1 R2 : List PRule} (p : R1.Perm R2) (nd : (R1.map (·.1)).Nodup) (kb : ∀ k ∈ R1.map (·.1), KB k) : sortP R1 = sortP R2 := by
  unfold sortP
  have kb2 : ∀ k ∈ R2.map (·.1), KB k := fun k hk => kb k ((p.map _).mem_iff.mpr hk)
  rw [srt_eq (p.map _) kb, ← srt_eq (List.Perm.refl _) kb2]
  refine List.map_congr_left fun k _ => ?_
  rw [lookP_perm p nd]
theorem PlanOk.perm {n : Int} {ks : List (Int × Int)} {R1 R2 : List PRule} (ok : PlanOk ⟨n, ks, R1⟩) (p : R1.Perm R2) : PlanOk ⟨n, ks, R2⟩ :=
  ⟨ok.w, ok.k, fun r hr => ok.r r (p.mem_iff.mpr hr), (p.map _).nodup_iff.mp ok.nd, by have := ok.len; have e := p.length_eq; dsimp only at this ⊢; omega⟩
theorem PlanOk.sub {n : Int} {ks : List (Int × Int)} {R1 R2 : List PRule} (ok : PlanOk ⟨n, ks, R1⟩) (s : R2.Sublist R1) : PlanOk ⟨n, ks, R2⟩ :=
  ⟨ok.w, ok.k, fun r hr => ok.r r (s.mem hr), ok.nd.sublist (s.map _), Nat.le_trans s.length_le ok.len⟩
theorem kinds_set {ks : List (Int × Int)} (h : KindsOk ks) {v : Int} (v0 : 0 ≤ v) (v3 : v ≤ 3) : KindsOk (ks.set 0 (v, 0)) ∧ ∀ i : Int, 0 ≤ i → heldAt (ks.set 0 (v, 0)) i = heldAt ks i := by
  have hz := h.zero
  have e : ∀ i : Int, 0 ≤ i → heldAt (ks.set 0 (v, 0)) i = heldAt ks i := fun i i0 => by
    have z := heldAt_set (ks := ks) (s := 0) (a := v) i (Int.le_refl 0) i0
    rw [hz] at z
    exact z
  refine ⟨⟨by rw [List.length_set]; exact h.len, by rw [e 0 (Int.le_refl 0)]; exact hz, fun k hk => ?_⟩, e⟩
  rcases List.mem_or_eq_of_mem_set hk with z | z
  · exact h.all k z
  · rw [z]
    exact ⟨v0, v3, Int.le_refl 0, by show (0 : Int) ≤ 3; decide⟩
theorem PlanOk.setv {n : Int} {ks : List (Int × Int)} {R : List PRule} (ok : PlanOk ⟨n, ks, R⟩) {v : Int} (v0 : 0 ≤ v) (v3 : v ≤ 3) : PlanOk ⟨n, ks.set 0 (v, 0), R⟩ := by
  obtain ⟨a, b⟩ := kinds_set ok.k v0 v3
  refine ⟨ok.w, a, fun r hr => (ok.r r hr).kinds (by dsimp only; rw [List.length_set]; exact Nat.le_refl _) fun i i0 _ => b i i0, ok.nd, ok.len⟩
theorem map_set0 {ks : List (Int × Int)} (h : KindsOk ks) {v : Int} : (ks.set 0 (v, 0)).map (·.1) = (ks.map (·.1)).set 0 v ∧ (ks.set 0 (v, 0)).map (·.2) = ks.map (·.2) := by
  obtain ⟨k, r, rfl⟩ : ∃ k r, ks = k :: r := by
    match ks, h.len.1 with
    | k :: r, _ => exact ⟨k, r, rfl⟩
  have hz : k.2 = 0 := h.zero
  refine ⟨rfl, ?_⟩
  show 0 :: r.map (·.2) = k.2 :: r.map (·.2)
  rw [hz]
theorem set_set0 {ks : List (Int × Int)} (h : KindsOk ks) {v : Int} {m : Int × Int} (e : ks[0]? = some m) : (ks.set 0 (v, 0)).set 0 (m.1, 0) = ks := by
  obtain ⟨k, r, rfl⟩ : ∃ k r, ks = k :: r := by
    match ks, h.len.1 with
    | k :: r, _ => exact ⟨k, r, rfl⟩
  have hz : k.2 = 0 := h.zero
  have e : k = m := Option.some.inj e
  subst e
  show (k.1, 0) :: r = k :: r
  rw [← hz]
theorem runM_perm {R1 R2 : List PRule} (p : R1.Perm R2) (nd : (R1.map (·.1)).Nodup) : ∀ (ms : List (Int × Int)) (s : Int × List Int), runM R1 s ms = runM R2 s ms
  | [], s => rfl
  | m :: ms, s => by
    show runM R1 (stepM R1 s m) ms = runM R2 (stepM R2 s m) ms
    have e : stepM R1 s m = stepM R2 s m := by
      unfold stepM
      rw [lookP_perm p nd]
    rw [e]
    exact runM_perm p nd ms _
/-- a watcher with these words, states and rules, in whatever order the rules were put in -/
def WL (C : Addr) (H : Hp) (x lv lh d : Addr) (n : Int) (ks : List (Int × Int)) (R : List PRule) : Prop := ∃ R0 : List PRule, WP C H x lv lh d ⟨n, ks, R0⟩ ∧ R0.Perm R
theorem WL.ok {C : Addr} {H : Hp} {x lv lh d : Addr} {n : Int} {ks : List (Int × Int)} {R : List PRule} (h : WL C H x lv lh d n ks R) : PlanOk ⟨n, ks, R⟩ := by
  obtain ⟨R0, h1, h2⟩ := h
  exact h1.ok.perm h2
theorem WL.mono {C : Addr} {H H' : Hp} {x lv lh d : Addr} {n : Int} {ks : List (Int × Int)} {R : List PRule} (h : WL C H x lv lh d n ks R) (s : Same H H') : WL C H' x lv lh d n ks R := by
  obtain ⟨R0, h1, h2⟩ := h
  exact ⟨R0, h1.mono s, h2⟩
theorem WL.perm {C : Addr} {H : Hp} {x lv lh d : Addr} {n : Int} {ks : List (Int × Int)} {R R' : List PRule} (h : WL C H x lv lh d n ks R) (p : R.Perm R') : WL C H x lv lh d n ks R' := by
  obtain ⟨R0, h1, h2⟩ := h
  exact ⟨R0, h1, h2.trans p⟩
/-- all but what S names stands, the watcher's own among it -/
theorem WP.but {C : Addr} {H H' : Hp} {x lv lh d : Addr} {P : Plan} {S : List Addr} (h : WP C H x lv lh d P) (k : ∀ c o, H c = some o → c ∉ S → H' c = some o) (nt : ∀ a ∈ S, ∀ xs, H a ≠ some (.tup xs)) (n1 : x ∉ S) (n2 : lv ∉ S) (n3 : lh ∉ S) (n4 : d ∉ S) : WP C H' x lv lh d P := by
  obtain ⟨⟨⟨dx, a⟩, b, c, ⟨kvs, e, f⟩, g, i, j, l⟩, ok⟩ := h
  have tp : Tups H H' := fun c xs e => k c _ e (fun z => nt c z xs e)
  exact ⟨⟨⟨dx, k _ _ a n1⟩, k _ _ b n2, k _ _ c n3, ⟨kvs, k _ _ e n4, f.mono tp⟩, g, i, j, l⟩, ok⟩
theorem WL.but {C : Addr} {H H' : Hp} {x lv lh d : Addr} {n : Int} {ks : List (Int × Int)} {R : List PRule} {S : List Addr} (h : WL C H x lv lh d n ks R) (k : ∀ c o, H c = some o → c ∉ S → H' c = some o) (nt : ∀ a ∈ S, ∀ xs, H a ≠ some (.tup xs)) (n1 : x ∉ S) (n2 : lv ∉ S) (n3 : lh ∉ S) (n4 : d ∉ S) : WL C H' x lv lh d n ks R := by
  obtain ⟨R0, h1, h2⟩ := h
  exact ⟨R0, h1.but k nt n1 n2 n3 n4, h2⟩

open TL
/-! ### what is written is read -/
theorem lines_free {P : Plan} (ok : PlanOk P) : ∀ z ∈ linesOf P.words P.kinds (sortP P.rules), 10 ∉ tl z := fun z h => by
  unfold linesOf at h
  simp only [List.mem_cons, List.mem_append, List.mem_map] at h
  rcases h with rfl | ⟨k, hk, rfl⟩ | ⟨r, hr, rfl⟩
  · exact words_free ok.w.1 ok.w.2
  · exact state_free (ok.k.all k hk)
  · exact rule_free (ok.rk (sortP_mem ok.nd hr)).1
theorem srt_sorted {ks : List (List Key)} (h : ks.Pairwise fun a b => rankK a ≤ rankK b) : srt rankK ks = ks := by
  unfold srt
  refine List.mergeSort_of_pairwise ?_
  exact h.imp fun z => decide_eq_true z
theorem parsed_page {P : Plan} (ok : PlanOk P) : Parsed (pageOf (linesOf P.words P.kinds (sortP P.rules))) ⟨P.words, P.kinds, sortP P.rules⟩ := by
  obtain ⟨n, ks, R⟩ := P
  dsimp only
  have okS : PlanOk ⟨n, ks, sortP R⟩ := ⟨ok.w, ok.k, fun r hr => ok.r r (sortP_mem ok.nd hr), sortP_nodup ok.nd, by have := ok.len; have e := sortP_len R; dsimp only at this ⊢; omega⟩
  have hsp := page_split (lines_free ok)
  dsimp only at hsp
  have hks : KindsOk ks := ok.k
  have hw : 1 ≤ n ∧ n ≤ 3 := ok.w
  have pw : ((sortP R).map (·.1)).Pairwise fun a b => rankK a ≤ rankK b := by
    rw [sortP_keys]
    exact srt_pw rankK _
  have ruk : ∀ r ∈ sortP R, RuK r ∧ r.1.length = 3 ∧ r.2.2.length ≤ 3 := fun r hr => okS.rk hr
  have rok : ∀ r ∈ sortP R, RuleOk n ks r := okS.r
  have nd : ((sortP R).map (·.1)).Nodup := okS.nd
  generalize sortP R = S at *
  have hls : ∀ {i : Nat} {k : Int × Int}, ks[i]? = some k → (linesOf n ks S ++ [Str.empty])[1 + i]? = some (stateL k) := fun {i k} e => by
    have hi := (List.getElem?_eq_some_iff.mp e).1
    unfold linesOf
    rw [Nat.add_comm 1 i, List.cons_append, List.getElem?_cons_succ, List.append_assoc, List.getElem?_append_left (by rw [List.length_map]; exact hi), List.getElem?_map, e]
    rfl
  have hlr : ∀ {j : Nat} {r : PRule}, S[j]? = some r → (linesOf n ks S ++ [Str.empty])[1 + ks.length + j]? = some (ruleL r) := fun {j r} e => by
    have hj := (List.getElem?_eq_some_iff.mp e).1
    unfold linesOf
    rw [show 1 + ks.length + j = (ks.length + j) + 1 by omega, List.cons_append, List.getElem?_cons_succ, List.append_assoc, List.getElem?_append_right (by rw [List.length_map]; omega), List.length_map, show ks.length + j - ks.length = j by omega, List.getElem?_append_left (by rw [List.length_map]; exact hj), List.getElem?_map, e]
    rfl
  have hll : (linesOf n ks S).length = 1 + ks.length + S.length := by
    unfold linesOf
    simp only [List.length_cons, List.length_append, List.length_map]
    omega
  have h1 : RdTo (linesOf n ks S ++ [Str.empty]) 1 ⟨n, [(0, 0)], []⟩ := .zero (z := wordsL n) rfl (words_first hw.1 hw.2)
  have h2 : ∀ i, 1 ≤ i → i ≤ ks.length → RdTo (linesOf n ks S ++ [Str.empty]) (1 + i) ⟨n, ks.take i, []⟩ := by
    intro i i1 i2
    induction i with
    | zero => omega
    | succ i ih =>
      have hi : i < ks.length := by omega
      have ek : ks[i]? = some ks[i] := List.getElem?_eq_getElem hi
      have kok : StOk2 ks[i] := hks.all _ (List.getElem_mem hi)
      have et : ks.take (i + 1) = ks.take i ++ [ks[i]] := by rw [List.take_add_one, ek]; rfl
      rcases Nat.eq_zero_or_pos i with z | z
      · subst z
        refine .step h1 (hls ek) (.inl ⟨rfl, ks[0].1, ?_, kok.1, kok.2.1, ?_⟩)
        · rw [state_parts kok]
          have hz := hks.zero
          unfold heldAt at hz
          rw [show (0 : Int).toNat = 0 from rfl, ek] at hz
          have hz : ks[0].2 = 0 := hz
          rw [hz]
        · rw [et]
          have hz := hks.zero
          unfold heldAt at hz
          rw [show (0 : Int).toNat = 0 from rfl, ek] at hz
          have hz : ks[0].2 = 0 := hz
          have : ks[0] = (ks[0].1, 0) := Prod.ext rfl hz
          rw [List.take_zero, List.nil_append]
          exact congrArg (fun k => (⟨n, [k], []⟩ : Plan)) this
      · have r := ih (by omega) (by omega)
        refine .step (k := 1 + i) r (hls ek) (.inr (.inl ⟨by omega, by rw [state_parts kok]; rfl, kSt, ks[i].1, ks[i].2, state_parts kok, rfl, kok.1, kok.2.1, kok.2.2.1, kok.2.2.2, ?_, ?_⟩))
        · dsimp only
          rw [List.length_take]
          have := hks.len.2
          omega
        · dsimp only
          rw [et]
  have h3 : ∀ j, j ≤ S.length → RdTo (linesOf n ks S ++ [Str.empty]) (1 + ks.length + j) ⟨n, ks, S.take j⟩ := by
    intro j hj
    induction j with
    | zero =>
      have r := h2 ks.length hks.len.1 (Nat.le_refl _)
      rw [List.take_length] at r
      exact r
    | succ j ih =>
      have hj' : j < S.length := by omega
      have er : S[j]? = some S[j] := List.getElem?_eq_getElem hj'
      have r := ih (by omega)
      obtain ⟨rk, l1, l2⟩ := ruk S[j] (List.getElem_mem hj')
      have ok1 := rok S[j] (List.getElem_mem hj')
      have et : S.take (j + 1) = S.take j ++ [S[j]] := by rw [List.take_add_one, er]; rfl
      have ep := rule_parts rk
      have hh : (partsOf (ruleL S[j])).head? ≠ some kSt := by
        rw [ep]
        exact fun z => by
          have : kRu = kSt := Option.some.inj z
          revert this
          decide +kernel
      have nk : S[j].1 ∉ (S.take j).map (·.1) := by
        have e1 : S = S.take j ++ S.drop j := (List.take_append_drop j S).symm
        rw [e1, List.map_append] at nd
        refine fun z => (List.nodup_append.mp nd).2.2 _ z _ ?_ rfl
        exact List.mem_map.mpr ⟨S[j], List.mem_of_getElem? (i := 0) (by rw [List.getElem?_drop]; exact er), rfl⟩
      have la : (srt rankK ((S.take j).map (·.1) ++ [S[j].1])).getLast? = some S[j].1 := by
        have e2 : (S.take j).map (·.1) ++ [S[j].1] = (S.map (·.1)).take (j + 1) := by
          rw [← List.map_take, et, List.map_append]
          rfl
        rw [srt_sorted (by rw [e2]; exact pw.take)]
        exact List.getLast?_concat
      have hk := ok1
      obtain ⟨i, w, t, e1, _⟩ := hk
      refine .step (k := 1 + ks.length + j) r (hlr er) (.inr (.inr ⟨by have := hks.len.1; omega, hh, i, w, t, S[j].2.1, S[j].2.2, ?_, ?_, ?_, ?_, ?_⟩))
      · rw [ep, e1]
        rfl
      · rw [← e1]
        exact ok1
      · rw [← e1]
        exact nk
      · rw [← e1]
        exact la
      · rw [et, ← e1]
  have hr := h3 S.length (Nat.le_refl _)
  rw [List.take_length] at hr
  have hk1 := hks.len.1
  refine ⟨1 + ks.length + S.length, ?_, by omega, by omega, ?_, ?_⟩
  · rw [hsp, List.length_append, hll]
    rfl
  · rw [hsp]
    exact hr
  · rw [hsp, List.getElem?_append_right (by omega), hll, Nat.sub_self]
    rfl
/-! ### a text is read in one way -/
theorem ReadL.fun_ {P P1 P2 : Plan} {i : Nat} {ps : List Key} (h1 : ReadL P i ps P1) (h2 : ReadL P i ps P2) : P1 = P2 := by
  rcases h1 with ⟨a, v, e1, _, _, rfl⟩ | ⟨a, b, p, v, h, e1, _, _, _, _, _, _, rfl⟩ | ⟨a, b, s, w, t, g, src, e1, _, _, _, rfl⟩ <;> rcases h2 with ⟨a', v', e1', _, _, rfl⟩ | ⟨a', b', p', v', h', e1', _, _, _, _, _, _, rfl⟩ | ⟨a', b', s', w', t', g', src', e1', _, _, _, rfl⟩
  · rw [e1] at e1'
    cases e1'
    rfl
  · exact absurd a a'
  · exact absurd a a'
  · exact absurd a' a
  · rw [e1] at e1'
    cases e1'
    rfl
  · exact absurd b b'
  · exact absurd a' a
  · exact absurd b' b
  · rw [e1] at e1'
    cases e1'
    rfl
theorem RdTo.pos {ls : List Str} {k : Nat} {P : Plan} (r : RdTo ls k P) : 1 ≤ k := r.ok.2.1
theorem RdTo.fun_ {ls : List Str} {k : Nat} {P : Plan} (r : RdTo ls k P) : ∀ {P' : Plan}, RdTo ls k P' → P = P' := by
  induction r with
  | zero h hn =>
    intro P' r'
    cases r' with
    | zero h' hn' =>
      rw [h] at h'
      cases h'
      rw [hn] at hn'
      cases hn'
      rfl
    | step r' _ _ => exact absurd r'.pos (by decide)
  | step r h l ih =>
    intro P' r'
    cases r' with
    | zero _ _ => exact absurd r.pos (by decide)
    | step r' h' l' =>
      rw [h] at h'
      cases h'
      have := ih r'
      subst this
      exact l.fun_ l'
theorem RdTo.back {ls : List Str} {k : Nat} {P : Plan} (r : RdTo ls k P) : ∀ j, 1 ≤ j → j < k → ∃ Pj z P', RdTo ls j Pj ∧ ls[j]? = some z ∧ ReadL Pj j (partsOf z) P' := by
  induction r with
  | zero h hn => intro j a b; omega
  | @step k z P0 P' r h l ih =>
    intro j a b
    by_cases e : j = k
    · subst e
      exact ⟨P0, z, P', r, h, l⟩
    · exact ih j a (by omega)
theorem RdTo.first {ls : List Str} {k : Nat} {P : Plan} (r : RdTo ls k P) : ∃ z n, ls[0]? = some z ∧ litF lit_FIRST_LINES z = some n := by
  induction r with
  | zero h hn => exact ⟨_, _, h, hn⟩
  | step _ _ _ ih => exact ih
theorem Parsed.fun_ {z : Str} {P P' : Plan} (h : Parsed z P) (h' : Parsed z P') : P = P' := by
  obtain ⟨e, a, b, c, d, f⟩ := h
  obtain ⟨e', a', b', c', d', f'⟩ := h'
  have : e = e' := by omega
  subst this
  exact d.fun_ d'
theorem Parsed.no {z : Str} {P : Plan} (h : Parsed z P) {k : Nat} (e : ParseErr z k) : False := by
  obtain ⟨ends, a, b, c, r, f⟩ := h
  cases e with
  | first h0 hn =>
    obtain ⟨z0, n, e1, e2⟩ := r.first
    rw [h0] at e1
    cases e1
    rw [hn] at e2
    cases e2
  | line he hk r0 hl no =>
    rename_i ends' P0 l
    have : ends' = ends := by omega
    subst this
    obtain ⟨Pj, z', P', r1, e1, l1⟩ := r.back k r0.pos hk
    have := r1.fun_ r0
    subst this
    rw [hl] at e1
    cases e1
    exact no ⟨P', l1⟩
  | end_ he r0 h0 =>
    have : k = ends := by omega
    subst this
    rcases h0 with h0 | h0
    · omega
    · exact h0 f

open TL
/-! ### which kinds an error is of -/
def OneHot (n : Nat) (i : Nat) : List Bool := (List.range n).map fun j => decide (i = j)
def sp_law_kinds (L : List Addr) : Sp := fun us H Q _ => ∃ (e a : Addr) (i : Nat) (d : Option Addr), us = [.ref e] ∧ L[i]? = some a ∧ H e = some (xo e a d) ∧ (∀ dd, d = some dd → ∃ fs, H dd = some (.xd fs)) ∧
  ∀ t H', Same H H' → H t = none → H' t = some (.lst ((OneHot 15 i).map V.bl)) → Q (.ref t) H'
def clsL {K : PySem.W.Frag} {mg : Str → Option Value} (T : Tx K mg) : List Addr := [T.NotAStream.C, T.NotAWord.C, T.NotAVerdict.C, T.InvalidTest.C, T.InvalidSources.C, T.InvalidClaimC, T.UnpairedC, T.ParseError.C, T.UnknownState.C, T.UnknownRule.C, T.UnknownCheckpoint.C, T.UnknownRecord.C, T.RuleExists.C, T.TooFar.C, T.LimitExceeded.C]
theorem cls_exc {K : PySem.W.Frag} {mg : Str → Option Value} (T : Tx K mg) {i : Nat} {a : Addr} (h : (clsL T)[i]? = some a) : L2.ExcC K a := by
  have m := List.mem_of_getElem? h
  unfold clsL at m
  simp only [List.mem_cons, List.not_mem_nil, or_false] at m
  rcases m with rfl | rfl | rfl | rfl | rfl | rfl | rfl | rfl | rfl | rfl | rfl | rfl | rfl | rfl | rfl
  · exact T.ix_NotAStream
  · exact T.ix_NotAWord
  · exact T.ix_NotAVerdict
  · exact T.ix_InvalidTest
  · exact T.ix_InvalidSources
  · exact T.ix_InvalidClaim
  · exact T.ix_Unpaired
  · exact T.ix_ParseError
  · exact T.ix_UnknownState
  · exact T.ix_UnknownRule
  · exact T.ix_UnknownCheckpoint
  · exact T.ix_UnknownRecord
  · exact T.ix_RuleExists
  · exact T.ix_TooFar
  · exact T.ix_LimitExceeded
section
variable {P : Program} {w : World} {K : PySem.W.Frag} {mg : Str → Option Value} {base : Heap}
abbrev N_law_kinds : List Str := ["e", "found"]
theorem sc_law_kinds : FnScope N_law_kinds ["e"] (defScope s_law_kinds) := ⟨rfl, rfl, rfl, by decide +kernel, rfl, by decide +kernel, by decide +kernel⟩
theorem G_law_kinds (T : Tx K mg) : FnG P w K mg base CX0 1 T.law_kinds.f T.law_kinds.fd ["e"] (sp_law_kinds (clsL T)) := by
  refine okG T.law_kinds.F sc_law_kinds (fun vs H Q E h => ?_) (fun cdv A outer s H vs Q E gd hr h => ?_)
  · obtain ⟨e, a, i, d, rfl, _⟩ := h
    rfl
  · obtain ⟨e, a, i, d, rfl, hi, he, hd, q⟩ := h
    refine ⟨_, 
      (pss_cons (ps_set (i := 1) sc_law_kinds.nd rfl (.inl rfl) (pe_lst (pa_cons (pe_callB L2.call_isX (by rfl) T.m_isinstance (by decide +kernel) (pa_cons (pv 0) (pa_cons (pe_glob (v := .ref T.NotAStream.C) rfl T.NotAStream.e.T.gC rfl) pa_nil))) (pa_cons (pe_callB L2.call_isX (by rfl) T.m_isinstance (by decide +kernel) (pa_cons (pv 0) (pa_cons (pe_glob (v := .ref T.NotAWord.C) rfl T.NotAWord.e.T.gC rfl) pa_nil))) (pa_cons (pe_callB L2.call_isX (by rfl) T.m_isinstance (by decide +kernel) (pa_cons (pv 0) (pa_cons (pe_glob (v := .ref T.NotAVerdict.C) rfl T.NotAVerdict.e.T.gC rfl) pa_nil))) (pa_cons (pe_callB L2.call_isX (by rfl) T.m_isinstance (by decide +kernel) (pa_cons (pv 0) (pa_cons (pe_glob (v := .ref T.InvalidTest.C) rfl T.InvalidTest.e.T.gC rfl) pa_nil))) pa_nil)))))) -- found = [isinstance(e, NotAStream), isinstance(e, NotAWord), isinstance(e, NotAVerdict), isinstance(e, InvalidTest)]
      (pss_cons (ps_set (i := 1) sc_law_kinds.nd rfl (.inl rfl) (pe_op op_cat (pv 1) (pe_lst (pa_cons (pe_callB L2.call_isX (by rfl) T.m_isinstance (by decide +kernel) (pa_cons (pv 0) (pa_cons (pe_glob (v := .ref T.InvalidSources.C) rfl T.InvalidSources.e.T.gC rfl) pa_nil))) (pa_cons (pe_callB L2.call_isX (by rfl) T.m_isinstance (by decide +kernel) (pa_cons (pv 0) (pa_cons (pe_glob (v := .ref T.InvalidClaimC) rfl T.InvalidClaim_g rfl) pa_nil))) (pa_cons (pe_callB L2.call_isX (by rfl) T.m_isinstance (by decide +kernel) (pa_cons (pv 0) (pa_cons (pe_glob (v := .ref T.UnpairedC) rfl T.Unpaired_g rfl) pa_nil))) pa_nil)))))) -- found = found + [isinstance(e, InvalidSources), isinstance(e, InvalidClaim), isinstance(e, Unpaired)]
      (pss_cons (ps_set (i := 1) sc_law_kinds.nd rfl (.inl rfl) (pe_op op_cat (pv 1) (pe_lst (pa_cons (pe_callB L2.call_isX (by rfl) T.m_isinstance (by decide +kernel) (pa_cons (pv 0) (pa_cons (pe_glob (v := .ref T.ParseError.C) rfl T.ParseError.e.T.gC rfl) pa_nil))) (pa_cons (pe_callB L2.call_isX (by rfl) T.m_isinstance (by decide +kernel) (pa_cons (pv 0) (pa_cons (pe_glob (v := .ref T.UnknownState.C) rfl T.UnknownState.e.T.gC rfl) pa_nil))) (pa_cons (pe_callB L2.call_isX (by rfl) T.m_isinstance (by decide +kernel) (pa_cons (pv 0) (pa_cons (pe_glob (v := .ref T.UnknownRule.C) rfl T.UnknownRule.e.T.gC rfl) pa_nil))) pa_nil)))))) -- found = found + [isinstance(e, ParseError), isinstance(e, UnknownState), isinstance(e, UnknownRule)]
      (pss_cons (ps_set (i := 1) sc_law_kinds.nd rfl (.inl rfl) (pe_op op_cat (pv 1) (pe_lst (pa_cons (pe_callB L2.call_isX (by rfl) T.m_isinstance (by decide +kernel) (pa_cons (pv 0) (pa_cons (pe_glob (v := .ref T.UnknownCheckpoint.C) rfl T.UnknownCheckpoint.e.T.gC rfl) pa_nil))) (pa_cons (pe_callB L2.call_isX (by rfl) T.m_isinstance (by decide +kernel) (pa_cons (pv 0) (pa_cons (pe_glob (v := .ref T.UnknownRecord.C) rfl T.UnknownRecord.e.T.gC rfl) pa_nil))) (pa_cons (pe_callB L2.call_isX (by rfl) T.m_isinstance (by decide +kernel) (pa_cons (pv 0) (pa_cons (pe_glob (v := .ref T.RuleExists.C) rfl T.RuleExists.e.T.gC rfl) pa_nil))) pa_nil)))))) -- found = found + [isinstance(e, UnknownCheckpoint), isinstance(e, UnknownRecord), isinstance(e, RuleExists)]
      (pss_one (ps_ret (pe_op op_cat (pv 1) (pe_lst (pa_cons (pe_callB L2.call_isX (by rfl) T.m_isinstance (by decide +kernel) (pa_cons (pv 0) (pa_cons (pe_glob (v := .ref T.TooFar.C) rfl T.TooFar.e.T.gC rfl) pa_nil))) (pa_cons (pe_callB L2.call_isX (by rfl) T.m_isinstance (by decide +kernel) (pa_cons (pv 0) (pa_cons (pe_glob (v := .ref T.LimitExceeded.C) rfl T.LimitExceeded.e.T.gC rfl) pa_nil))) pa_nil)))))) -- return found + [isinstance(e, TooFar), isinstance(e, LimitExceeded)]
      )))) , ?_⟩
    have hx := cls_exc T hi
    have he0 := he
    have hd0 := hd
    refine ⟨.ref e, rfl, e, a, d, _, _, _, rfl, he0, hd0, hx, .own _, T.kO i 0 a _ hi rfl, .ref e, rfl, e, a, d, _, _, _, rfl, he0, hd0, hx, .own _, T.kO i 1 a _ hi rfl, .ref e, rfl, e, a, d, _, _, _, rfl, he0, hd0, hx, .own _, T.kO i 2 a _ hi rfl, .ref e, rfl, e, a, d, _, _, _, rfl, he0, hd0, hx, .own _, T.kO i 3 a _ hi rfl, by show 4 ≤ sizeLine; decide, fun l1 n1 => ?_⟩
    have s1 := same_new (o := .lst [.bl (decide (i = 0)), .bl (decide (i = 1)), .bl (decide (i = 2)), .bl (decide (i = 3))]) n1
    have h1 : (upd H l1 (.lst [.bl (decide (i = 0)), .bl (decide (i = 1)), .bl (decide (i = 2)), .bl (decide (i = 3))])) l1 = some (.lst [.bl (decide (i = 0)), .bl (decide (i = 1)), .bl (decide (i = 2)), .bl (decide (i = 3))]) := upd_same
    generalize upd H l1 (.lst [.bl (decide (i = 0)), .bl (decide (i = 1)), .bl (decide (i = 2)), .bl (decide (i = 3))]) = H1 at *
    have he1 := s1 _ _ he
    have hd1 : ∀ dd, d = some dd → ∃ fs, H1 dd = some (.xd fs) := fun dd z => by
      obtain ⟨fs, z⟩ := hd dd z
      exact ⟨fs, s1 _ _ z⟩
    have S1 := s1
    refine ⟨.ref l1, rfl, .ref e, rfl, e, a, d, _, _, _, rfl, he1, hd1, hx, .own _, T.kO i 4 a _ hi rfl, .ref e, rfl, e, a, d, _, _, _, rfl, he1, hd1, hx, .own _, T.kO i 5 a _ hi rfl, .ref e, rfl, e, a, d, _, _, _, rfl, he1, hd1, hx, .own _, T.kO i 6 a _ hi rfl, by show 3 ≤ sizeLine; decide, fun m1 k1 => ⟨l1, m1, _, _, rfl, rfl, same_new k1 _ _ h1, upd_same, by show 4 + 3 ≤ sizeLine; decide, fun l2 n2 => ?_⟩⟩
    have t2 := (same_new k1).trans (same_new (o := .lst ([.bl (decide (i = 0)), .bl (decide (i = 1)), .bl (decide (i = 2)), .bl (decide (i = 3))] ++ [.bl (decide (i = 4)), .bl (decide (i = 5)), .bl (decide (i = 6))])) n2)
    have h2 : (upd (upd H1 m1 (.lst [.bl (decide (i = 4)), .bl (decide (i = 5)), .bl (decide (i = 6))])) l2 (.lst ([.bl (decide (i = 0)), .bl (decide (i = 1)), .bl (decide (i = 2)), .bl (decide (i = 3))] ++ [.bl (decide (i = 4)), .bl (decide (i = 5)), .bl (decide (i = 6))]))) l2 = some (.lst ([.bl (decide (i = 0)), .bl (decide (i = 1)), .bl (decide (i = 2)), .bl (decide (i = 3))] ++ [.bl (decide (i = 4)), .bl (decide (i = 5)), .bl (decide (i = 6))])) := upd_same
    have he2 := t2 _ _ he1
    have hd2 : ∀ dd, d = some dd → ∃ fs, (upd (upd H1 m1 (.lst [.bl (decide (i = 4)), .bl (decide (i = 5)), .bl (decide (i = 6))])) l2 (.lst ([.bl (decide (i = 0)), .bl (decide (i = 1)), .bl (decide (i = 2)), .bl (decide (i = 3))] ++ [.bl (decide (i = 4)), .bl (decide (i = 5)), .bl (decide (i = 6))]))) dd = some (.xd fs) := fun dd z => by
      obtain ⟨fs, z⟩ := hd1 dd z
      exact ⟨fs, t2 _ _ z⟩
    have S2 := S1.trans t2
    generalize upd (upd H1 m1 (.lst [.bl (decide (i = 4)), .bl (decide (i = 5)), .bl (decide (i = 6))])) l2 (.lst ([.bl (decide (i = 0)), .bl (decide (i = 1)), .bl (decide (i = 2)), .bl (decide (i = 3))] ++ [.bl (decide (i = 4)), .bl (decide (i = 5)), .bl (decide (i = 6))])) = H2 at *
    refine ⟨.ref l2, rfl, .ref e, rfl, e, a, d, _, _, _, rfl, he2, hd2, hx, .own _, T.kO i 7 a _ hi rfl, .ref e, rfl, e, a, d, _, _, _, rfl, he2, hd2, hx, .own _, T.kO i 8 a _ hi rfl, .ref e, rfl, e, a, d, _, _, _, rfl, he2, hd2, hx, .own _, T.kO i 9 a _ hi rfl, by show 3 ≤ sizeLine; decide, fun m2 k2 => ⟨l2, m2, _, _, rfl, rfl, same_new k2 _ _ h2, upd_same, by show 7 + 3 ≤ sizeLine; decide, fun l3 n3 => ?_⟩⟩
    have t3 := (same_new k2).trans (same_new (o := .lst (([.bl (decide (i = 0)), .bl (decide (i = 1)), .bl (decide (i = 2)), .bl (decide (i = 3))] ++ [.bl (decide (i = 4)), .bl (decide (i = 5)), .bl (decide (i = 6))]) ++ [.bl (decide (i = 7)), .bl (decide (i = 8)), .bl (decide (i = 9))])) n3)
    have h3 : (upd (upd H2 m2 (.lst [.bl (decide (i = 7)), .bl (decide (i = 8)), .bl (decide (i = 9))])) l3 (.lst (([.bl (decide (i = 0)), .bl (decide (i = 1)), .bl (decide (i = 2)), .bl (decide (i = 3))] ++ [.bl (decide (i = 4)), .bl (decide (i = 5)), .bl (decide (i = 6))]) ++ [.bl (decide (i = 7)), .bl (decide (i = 8)), .bl (decide (i = 9))]))) l3 = some (.lst (([.bl (decide (i = 0)), .bl (decide (i = 1)), .bl (decide (i = 2)), .bl (decide (i = 3))] ++ [.bl (decide (i = 4)), .bl (decide (i = 5)), .bl (decide (i = 6))]) ++ [.bl (decide (i = 7)), .bl (decide (i = 8)), .bl (decide (i = 9))])) := upd_same
    have he3 := t3 _ _ he2
    have hd3 : ∀ dd, d = some dd → ∃ fs, (upd (upd H2 m2 (.lst [.bl (decide (i = 7)), .bl (decide (i = 8)), .bl (decide (i = 9))])) l3 (.lst (([.bl (decide (i = 0)), .bl (decide (i = 1)), .bl (decide (i = 2)), .bl (decide (i = 3))] ++ [.bl (decide (i = 4)), .bl (decide (i = 5)), .bl (decide (i = 6))]) ++ [.bl (decide (i = 7)), .bl (decide (i = 8)), .bl (decide (i = 9))]))) dd = some (.xd fs) := fun dd z => by
      obtain ⟨fs, z⟩ := hd2 dd z
      exact ⟨fs, t3 _ _ z⟩
    have S3 := S2.trans t3
    generalize upd (upd H2 m2 (.lst [.bl (decide (i = 7)), .bl (decide (i = 8)), .bl (decide (i = 9))])) l3 (.lst (([.bl (decide (i = 0)), .bl (decide (i = 1)), .bl (decide (i = 2)), .bl (decide (i = 3))] ++ [.bl (decide (i = 4)), .bl (decide (i = 5)), .bl (decide (i = 6))]) ++ [.bl (decide (i = 7)), .bl (decide (i = 8)), .bl (decide (i = 9))])) = H3 at *
    refine ⟨.ref l3, rfl, .ref e, rfl, e, a, d, _, _, _, rfl, he3, hd3, hx, .own _, T.kO i 10 a _ hi rfl, .ref e, rfl, e, a, d, _, _, _, rfl, he3, hd3, hx, .own _, T.kO i 11 a _ hi rfl, .ref e, rfl, e, a, d, _, _, _, rfl, he3, hd3, hx, .own _, T.kO i 12 a _ hi rfl, by show 3 ≤ sizeLine; decide, fun m3 k3 => ⟨l3, m3, _, _, rfl, rfl, same_new k3 _ _ h3, upd_same, by show 10 + 3 ≤ sizeLine; decide, fun l4 n4 => ?_⟩⟩
    have t4 := (same_new k3).trans (same_new (o := .lst ((([.bl (decide (i = 0)), .bl (decide (i = 1)), .bl (decide (i = 2)), .bl (decide (i = 3))] ++ [.bl (decide (i = 4)), .bl (decide (i = 5)), .bl (decide (i = 6))]) ++ [.bl (decide (i = 7)), .bl (decide (i = 8)), .bl (decide (i = 9))]) ++ [.bl (decide (i = 10)), .bl (decide (i = 11)), .bl (decide (i = 12))])) n4)
    have h4 : (upd (upd H3 m3 (.lst [.bl (decide (i = 10)), .bl (decide (i = 11)), .bl (decide (i = 12))])) l4 (.lst ((([.bl (decide (i = 0)), .bl (decide (i = 1)), .bl (decide (i = 2)), .bl (decide (i = 3))] ++ [.bl (decide (i = 4)), .bl (decide (i = 5)), .bl (decide (i = 6))]) ++ [.bl (decide (i = 7)), .bl (decide (i = 8)), .bl (decide (i = 9))]) ++ [.bl (decide (i = 10)), .bl (decide (i = 11)), .bl (decide (i = 12))]))) l4 = some (.lst ((([.bl (decide (i = 0)), .bl (decide (i = 1)), .bl (decide (i = 2)), .bl (decide (i = 3))] ++ [.bl (decide (i = 4)), .bl (decide (i = 5)), .bl (decide (i = 6))]) ++ [.bl (decide (i = 7)), .bl (decide (i = 8)), .bl (decide (i = 9))]) ++ [.bl (decide (i = 10)), .bl (decide (i = 11)), .bl (decide (i = 12))])) := upd_same
    have he4 := t4 _ _ he3
    have hd4 : ∀ dd, d = some dd → ∃ fs, (upd (upd H3 m3 (.lst [.bl (decide (i = 10)), .bl (decide (i = 11)), .bl (decide (i = 12))])) l4 (.lst ((([.bl (decide (i = 0)), .bl (decide (i = 1)), .bl (decide (i = 2)), .bl (decide (i = 3))] ++ [.bl (decide (i = 4)), .bl (decide (i = 5)), .bl (decide (i = 6))]) ++ [.bl (decide (i = 7)), .bl (decide (i = 8)), .bl (decide (i = 9))]) ++ [.bl (decide (i = 10)), .bl (decide (i = 11)), .bl (decide (i = 12))]))) dd = some (.xd fs) := fun dd z => by
      obtain ⟨fs, z⟩ := hd3 dd z
      exact ⟨fs, t4 _ _ z⟩
    have S4 := S3.trans t4
    generalize upd (upd H3 m3 (.lst [.bl (decide (i = 10)), .bl (decide (i = 11)), .bl (decide (i = 12))])) l4 (.lst ((([.bl (decide (i = 0)), .bl (decide (i = 1)), .bl (decide (i = 2)), .bl (decide (i = 3))] ++ [.bl (decide (i = 4)), .bl (decide (i = 5)), .bl (decide (i = 6))]) ++ [.bl (decide (i = 7)), .bl (decide (i = 8)), .bl (decide (i = 9))]) ++ [.bl (decide (i = 10)), .bl (decide (i = 11)), .bl (decide (i = 12))])) = H4 at *
    refine ⟨.ref l4, rfl, .ref e, rfl, e, a, d, _, _, _, rfl, he4, hd4, hx, .own _, T.kO i 13 a _ hi rfl, .ref e, rfl, e, a, d, _, _, _, rfl, he4, hd4, hx, .own _, T.kO i 14 a _ hi rfl, by show 2 ≤ sizeLine; decide, fun m4 k4 => ⟨l4, m4, _, _, rfl, rfl, same_new k4 _ _ h4, upd_same, by show 13 + 2 ≤ sizeLine; decide, fun l5 n5 => ?_⟩⟩
    refine q _ _ (S4.trans ((same_new k4).trans (same_new n5))) (S4.free ((same_new k4).free n5)) ?_
    rw [upd_same]
    rfl
end

open TL
/-! ### which built-in kinds an error is of -/
def grpL : List Nat := [0, 0, 0, 0, 0, 0, 0, 0, 1, 1, 1, 1, 2, 2, 3]
def OneB (n : Nat) (g : Nat) : List Bool := (List.range n).map fun j => decide (j = g)
def sp_law_built_in (L : List Addr) : Sp := fun us H Q _ => ∃ (e a : Addr) (i g : Nat) (d : Option Addr), us = [.ref e] ∧ L[i]? = some a ∧ grpL[i]? = some g ∧ H e = some (xo e a d) ∧ (∀ dd, d = some dd → ∃ fs, H dd = some (.xd fs)) ∧
  ∀ t H', Same H H' → H t = none → H' t = some (.lst ((OneB 8 g).map V.bl)) → Q (.ref t) H'
section
variable {P : Program} {w : World} {K : PySem.W.Frag} {mg : Str → Option Value} {base : Heap}
abbrev N_law_built_in : List Str := ["e", "found"]
theorem sc_law_built_in : FnScope N_law_built_in ["e"] (defScope s_law_built_in) := ⟨rfl, rfl, rfl, by decide +kernel, rfl, by decide +kernel, by decide +kernel⟩
theorem G_law_built_in (T : Tx K mg) : FnG P w K mg base CX0 1 T.law_built_in.f T.law_built_in.fd ["e"] (sp_law_built_in (clsL T)) := by
  refine okG T.law_built_in.F sc_law_built_in (fun vs H Q E h => ?_) (fun cdv A outer s H vs Q E gd hr h => ?_)
  · obtain ⟨e, a, i, g, d, rfl, _⟩ := h
    rfl
  · obtain ⟨e, a, i, g, d, rfl, hi, hg, he, hd, q⟩ := h
    refine ⟨_, 
      (pss_cons (ps_set (i := 1) sc_law_built_in.nd rfl (.inl rfl) (pe_lst (pa_cons (pe_callB L2.call_isX (by rfl) T.m_isinstance (by decide +kernel) (pa_cons (pv 0) (pa_cons (pe_bltn (v := .ty "ValueError") (by rfl) T.m_ValueError (by decide +kernel) (show RelV (.ty "ValueError") (.type "ValueError") from rfl)) pa_nil))) (pa_cons (pe_callB L2.call_isX (by rfl) T.m_isinstance (by decide +kernel) (pa_cons (pv 0) (pa_cons (pe_bltn (v := .ty "LookupError") (by rfl) T.m_LookupError (by decide +kernel) (show RelV (.ty "LookupError") (.type "LookupError") from rfl)) pa_nil))) (pa_cons (pe_callB L2.call_isX (by rfl) T.m_isinstance (by decide +kernel) (pa_cons (pv 0) (pa_cons (pe_bltn (v := .ty "RuntimeError") (by rfl) T.m_RuntimeError (by decide +kernel) (show RelV (.ty "RuntimeError") (.type "RuntimeError") from rfl)) pa_nil))) pa_nil))))) -- found = [isinstance(e, ValueError), isinstance(e, LookupError), isinstance(e, RuntimeError)]
      (pss_cons (ps_set (i := 1) sc_law_built_in.nd rfl (.inl rfl) (pe_op op_cat (pv 1) (pe_lst (pa_cons (pe_callB L2.call_isX (by rfl) T.m_isinstance (by decide +kernel) (pa_cons (pv 0) (pa_cons (pe_bltn (v := .ty "OverflowError") (by rfl) T.m_OverflowError (by decide +kernel) (show RelV (.ty "OverflowError") (.type "OverflowError") from rfl)) pa_nil))) (pa_cons (pe_callB L2.call_isX (by rfl) T.m_isinstance (by decide +kernel) (pa_cons (pv 0) (pa_cons (pe_bltn (v := .ty "KeyError") (by rfl) T.m_KeyError (by decide +kernel) (show RelV (.ty "KeyError") (.type "KeyError") from rfl)) pa_nil))) (pa_cons (pe_callB L2.call_isX (by rfl) T.m_isinstance (by decide +kernel) (pa_cons (pv 0) (pa_cons (pe_bltn (v := .ty "IndexError") (by rfl) T.m_IndexError (by decide +kernel) (show RelV (.ty "IndexError") (.type "IndexError") from rfl)) pa_nil))) pa_nil)))))) -- found = found + [isinstance(e, OverflowError), isinstance(e, KeyError), isinstance(e, IndexError)]
      (pss_one (ps_ret (pe_op op_cat (pv 1) (pe_lst (pa_cons (pe_callB L2.call_isX (by rfl) T.m_isinstance (by decide +kernel) (pa_cons (pv 0) (pa_cons (pe_bltn (v := .ty "NotImplementedError") (by rfl) T.m_NotImplementedError (by decide +kernel) (show RelV (.ty "NotImplementedError") (.type "NotImplementedError") from rfl)) pa_nil))) (pa_cons (pe_callB L2.call_isX (by rfl) T.m_isinstance (by decide +kernel) (pa_cons (pv 0) (pa_cons (pe_bltn (v := .ty "ZeroDivisionError") (by rfl) T.m_ZeroDivisionError (by decide +kernel) (show RelV (.ty "ZeroDivisionError") (.type "ZeroDivisionError") from rfl)) pa_nil))) pa_nil)))))) -- return found + [isinstance(e, NotImplementedError), isinstance(e, ZeroDivisionError)]
      )) , ?_⟩
    have hx := cls_exc T hi
    have he0 := he
    have hd0 := hd
    refine ⟨.ref e, rfl, e, a, d, _, _, _, rfl, he0, hd0, hx, .ty _, T.kB i 0 g a _ hi rfl hg, .ref e, rfl, e, a, d, _, _, _, rfl, he0, hd0, hx, .ty _, T.kB i 1 g a _ hi rfl hg, .ref e, rfl, e, a, d, _, _, _, rfl, he0, hd0, hx, .ty _, T.kB i 2 g a _ hi rfl hg, by show 3 ≤ sizeLine; decide, fun l1 n1 => ?_⟩
    have s1 := same_new (o := .lst [.bl (decide (0 = g)), .bl (decide (1 = g)), .bl (decide (2 = g))]) n1
    have h1 : (upd H l1 (.lst [.bl (decide (0 = g)), .bl (decide (1 = g)), .bl (decide (2 = g))])) l1 = some (.lst [.bl (decide (0 = g)), .bl (decide (1 = g)), .bl (decide (2 = g))]) := upd_same
    generalize upd H l1 (.lst [.bl (decide (0 = g)), .bl (decide (1 = g)), .bl (decide (2 = g))]) = H1 at *
    have he1 := s1 _ _ he
    have hd1 : ∀ dd, d = some dd → ∃ fs, H1 dd = some (.xd fs) := fun dd z => by
      obtain ⟨fs, z⟩ := hd dd z
      exact ⟨fs, s1 _ _ z⟩
    have S1 := s1
    refine ⟨.ref l1, rfl, .ref e, rfl, e, a, d, _, _, _, rfl, he1, hd1, hx, .ty _, T.kB i 3 g a _ hi rfl hg, .ref e, rfl, e, a, d, _, _, _, rfl, he1, hd1, hx, .ty _, T.kB i 4 g a _ hi rfl hg, .ref e, rfl, e, a, d, _, _, _, rfl, he1, hd1, hx, .ty _, T.kB i 5 g a _ hi rfl hg, by show 3 ≤ sizeLine; decide, fun m1 k1 => ⟨l1, m1, _, _, rfl, rfl, same_new k1 _ _ h1, upd_same, by show 3 + 3 ≤ sizeLine; decide, fun l2 n2 => ?_⟩⟩
    have t2 := (same_new k1).trans (same_new (o := .lst ([.bl (decide (0 = g)), .bl (decide (1 = g)), .bl (decide (2 = g))] ++ [.bl (decide (3 = g)), .bl (decide (4 = g)), .bl (decide (5 = g))])) n2)
    have h2 : (upd (upd H1 m1 (.lst [.bl (decide (3 = g)), .bl (decide (4 = g)), .bl (decide (5 = g))])) l2 (.lst ([.bl (decide (0 = g)), .bl (decide (1 = g)), .bl (decide (2 = g))] ++ [.bl (decide (3 = g)), .bl (decide (4 = g)), .bl (decide (5 = g))]))) l2 = some (.lst ([.bl (decide (0 = g)), .bl (decide (1 = g)), .bl (decide (2 = g))] ++ [.bl (decide (3 = g)), .bl (decide (4 = g)), .bl (decide (5 = g))])) := upd_same
    have he2 := t2 _ _ he1
    have hd2 : ∀ dd, d = some dd → ∃ fs, (upd (upd H1 m1 (.lst [.bl (decide (3 = g)), .bl (decide (4 = g)), .bl (decide (5 = g))])) l2 (.lst ([.bl (decide (0 = g)), .bl (decide (1 = g)), .bl (decide (2 = g))] ++ [.bl (decide (3 = g)), .bl (decide (4 = g)), .bl (decide (5 = g))]))) dd = some (.xd fs) := fun dd z => by
      obtain ⟨fs, z⟩ := hd1 dd z
      exact ⟨fs, t2 _ _ z⟩
    have S2 := S1.trans t2
    generalize upd (upd H1 m1 (.lst [.bl (decide (3 = g)), .bl (decide (4 = g)), .bl (decide (5 = g))])) l2 (.lst ([.bl (decide (0 = g)), .bl (decide (1 = g)), .bl (decide (2 = g))] ++ [.bl (decide (3 = g)), .bl (decide (4 = g)), .bl (decide (5 = g))])) = H2 at *
    refine ⟨.ref l2, rfl, .ref e, rfl, e, a, d, _, _, _, rfl, he2, hd2, hx, .ty _, T.kB i 6 g a _ hi rfl hg, .ref e, rfl, e, a, d, _, _, _, rfl, he2, hd2, hx, .ty _, T.kB i 7 g a _ hi rfl hg, by show 2 ≤ sizeLine; decide, fun m2 k2 => ⟨l2, m2, _, _, rfl, rfl, same_new k2 _ _ h2, upd_same, by show 6 + 2 ≤ sizeLine; decide, fun l3 n3 => ?_⟩⟩
    refine q _ _ (S2.trans ((same_new k2).trans (same_new n3))) (S2.free ((same_new k2).free n3)) ?_
    rw [upd_same]
    rfl
end

open TL
/-! ### the errors made by name and by position -/
def fnL : List Str := ["value", "word", "verdict", "test", "sources", "", "", "line", "state", "rule", "number", "number", "rule", "many", "limit"]
/-- at e: the error of class number i, v in its field -/
def Eat (L : List Addr) (H : Hp) (e : Addr) (p : Nat × Option V) : Prop := ∃ (a : Addr) (d : Option Addr), L[p.1]? = some a ∧ H e = some (xo e a d) ∧
  match p.2 with | none => d = none | some y => ∃ (dd : Addr) (f : Str), d = some dd ∧ fnL[p.1]? = some f ∧ H dd = some (.xd [(f, y)])
theorem Eat.mono {L : List Addr} {H H' : Hp} {e : Addr} {p : Nat × Option V} (h : Eat L H e p) (s : Same H H') : Eat L H' e p := by
  obtain ⟨i, v⟩ := p
  obtain ⟨a, d, h1, h2, h3⟩ := h
  refine ⟨a, d, h1, s _ _ h2, ?_⟩
  cases v with
  | none => exact h3
  | some y =>
    obtain ⟨dd, f, e1, e2, e3⟩ := h3
    exact ⟨dd, f, e1, e2, s _ _ e3⟩
theorem Eat.kind {L : List Addr} {H : Hp} {e : Addr} {p : Nat × Option V} (h : Eat L H e p) : ∃ (a : Addr) (d : Option Addr), L[p.1]? = some a ∧ H e = some (xo e a d) ∧ ∀ dd, d = some dd → ∃ fs, H dd = some (.xd fs) := by
  obtain ⟨i, v⟩ := p
  obtain ⟨a, d, h1, h2, h3⟩ := h
  refine ⟨a, d, h1, h2, fun dd z => ?_⟩
  cases v with
  | none =>
    have h3 : d = none := h3
    rw [h3] at z
    cases z
  | some y =>
    obtain ⟨dd', f, e1, e2, e3⟩ := h3
    rw [e1] at z
    cases z
    exact ⟨_, e3⟩
theorem same2 {H : Hp} {d e : Addr} {o1 o2 : HO} (n1 : H e = none) (n2 : H d = none) : Same H (upd (upd H d o1) e o2) := fun b u q => by
  rw [upd_ne (ne_of_none q n1), upd_ne (ne_of_none q n2)]
  exact q
theorem Eat.new {L : List Addr} {H : Hp} {d e C : Addr} {i : Nat} {f : Str} {y : V} (h1 : L[i]? = some C) (h2 : fnL[i]? = some f) (ne : d ≠ e) : Eat L (upd (upd H d (.xd [(f, y)])) e (xo e C (some d))) e (i, some y) :=
  ⟨C, some d, h1, upd_same, d, f, rfl, h2, by rw [upd_ne ne]; exact upd_same⟩
theorem Eat.new0 {L : List Addr} {H : Hp} {e C : Addr} {i : Nat} (h1 : L[i]? = some C) : Eat L (upd H e (xo e C none)) e (i, none) := ⟨C, none, h1, upd_same, rfl⟩
/-- the errors in a list -/
def Errs (L : List Addr) (H : Hp) (l : Addr) (ps : List (Nat × Option V)) : Prop := ∃ es : List Addr, H l = some (.lst (es.map V.ref)) ∧ Paired (Eat L H) es ps
theorem eats_mono {L : List Addr} {H H' : Hp} (s : Same H H') {es : List Addr} {ps : List (Nat × Option V)} (h : Paired (Eat L H) es ps) : Paired (Eat L H') es ps := Paired.mapP h fun _ _ z => z.mono s
theorem Eat.off {L : List Addr} {H : Hp} {e : Addr} {p : Nat × Option V} {c : Addr} {xs : List V} {o : HO} (h : Eat L H e p) (hc : H c = some (.lst xs)) : Eat L (upd H c o) e p := by
  obtain ⟨i, v⟩ := p
  obtain ⟨a, d, h1, h2, h3⟩ := h
  refine ⟨a, d, h1, by rw [upd_ne (ne_of h2 hc (fun z => by cases z))]; exact h2, ?_⟩
  cases v with
  | none => exact h3
  | some y =>
    obtain ⟨dd, f, e1, e2, e3⟩ := h3
    exact ⟨dd, f, e1, e2, by rw [upd_ne (ne_of e3 hc (fun z => by cases z))]; exact e3⟩
theorem put_same {H0 H : Hp} {a : Addr} {o : HO} (h : H0 a = none) (s : Same H0 H) : Same H0 (upd H a o) := fun b u e => by
  rw [upd_ne (ne_of_none e h)]
  exact s _ _ e
theorem dp_bls (K : PySem.W.Frag) (H : Hp) : ∀ l : List Bool, DpAll K H (l.map V.bl) (l.map PyData.bool)
  | [] => .nil
  | b :: r => .cons (.bl b) (dp_bls K H r)
theorem bls_lay : ∀ l : List Bool, PyData.canLayAll0 (l.map PyData.bool) = true ∧ PyData.depthAll (l.map PyData.bool) = 0
  | [] => ⟨rfl, rfl⟩
  | b :: r => by
    obtain ⟨x, y⟩ := bls_lay r
    exact ⟨by simp only [List.map_cons, PyData.canLayAll0, PyData.canLay0, x, Bool.and_self], by simp only [List.map_cons, PyData.depthAll, PyData.depth, y]; rfl⟩
theorem bls_shaped (l : List Bool) : SeqAt.shaped (.list (l.map PyData.bool)) = true := by
  obtain ⟨x, y⟩ := bls_lay l
  unfold SeqAt.shaped
  simp only [PyData.canLay0, PyData.depth, x, y]
  decide
theorem bls_eqv (l : List Bool) : PyData.eqv (.list (l.map PyData.bool)) (.list (l.map PyData.bool)) = true := SeqAt.eqv_refl _ (SeqAt.canLay_of_shaped (bls_shaped l))
def grpV : List V := [.int 0, .int 0, .int 0, .int 0, .int 0, .int 0, .int 0, .int 0, .int 1, .int 1, .int 1, .int 1, .int 2, .int 2, .int 3]
theorem paired_get {α β : Type} {R : α → β → Prop} : ∀ {l : List α} {r : List β} {i : Nat} {x : α}, Paired R l r → l[i]? = some x → ∃ y, r[i]? = some y ∧ R x y
  | _, _, _, _, .nil, h => by cases h
  | _, _, 0, _, .cons a _, h => by
    cases Option.some.inj h
    exact ⟨_, rfl, a⟩
  | _, _, i + 1, _, .cons _ r, h => paired_get (i := i) r h
theorem eat_some {L : List Addr} {H : Hp} {e : Addr} {i : Nat} {y : V} (h : Eat L H e (i, some y)) : ∃ (a d : Addr) (f : Str), L[i]? = some a ∧ fnL[i]? = some f ∧ H e = some (xo e a (some d)) ∧ H d = some (.xd [(f, y)]) := by
  obtain ⟨a, d, h1, h2, dd, f, e1, e2, e3⟩ := h
  subst e1
  exact ⟨a, dd, f, h1, e2, h2, e3⟩
/-- the error number i of the list, its class and its dict -/
theorem errs_at {L : List Addr} {H : Hp} {es : List Addr} {ps : List (Nat × Option V)} (h : Paired (Eat L H) es ps) {k i : Nat} {y : V} (hp : ps[k]? = some (i, some y)) : ∃ (e a d : Addr) (f : Str), es[k]? = some e ∧ L[i]? = some a ∧ fnL[i]? = some f ∧ H e = some (xo e a (some d)) ∧ H d = some (.xd [(f, y)]) := by
  have hl := Paired.length h
  have hk := (List.getElem?_eq_some_iff.mp hp).1
  obtain ⟨q, hq, he⟩ := paired_get h (List.getElem?_eq_getElem (show k < es.length by omega))
  rw [hp] at hq
  cases hq
  obtain ⟨a, d, f, h1, h2, h3, h4⟩ := eat_some he
  exact ⟨_, a, d, f, List.getElem?_eq_getElem (by omega), h1, h2, h3, h4⟩
theorem dp_rep {K : PySem.W.Frag} {H : Hp} {v : V} {d : PyData} (h : Dp K H v d) : ∀ k : Nat, DpAll K H (List.replicate k v) (List.replicate k d)
  | 0 => .nil
  | k + 1 => .cons h (dp_rep h k)
theorem rep_lay {d : PyData} (h1 : d.canLay0 = true) (h2 : d.depth ≤ 10) : ∀ k : Nat, PyData.canLayAll0 (List.replicate k d) = true ∧ PyData.depthAll (List.replicate k d) ≤ 10
  | 0 => ⟨rfl, Nat.zero_le _⟩
  | k + 1 => by
    obtain ⟨x, y⟩ := rep_lay h1 h2 k
    exact ⟨by simp only [List.replicate_succ, PyData.canLayAll0, h1, x, Bool.and_self], by simp only [List.replicate_succ, PyData.depthAll]; omega⟩
theorem rep_shaped {d : PyData} (h1 : d.canLay0 = true) (h2 : d.depth ≤ 10) (k : Nat) : SeqAt.shaped (.list (List.replicate k d)) = true := by
  obtain ⟨x, y⟩ := rep_lay h1 h2 k
  unfold SeqAt.shaped
  rw [Bool.and_eq_true]
  refine ⟨by simp only [PyData.canLay0]; exact x, ?_⟩
  simp only [PyData.depth]
  exact decide_eq_true (by omega)
theorem rep_eqv {d : PyData} (h1 : d.canLay0 = true) (h2 : d.depth ≤ 10) (k : Nat) : PyData.eqv (.list (List.replicate k d)) (.list (List.replicate k d)) = true := SeqAt.eqv_refl _ (SeqAt.canLay_of_shaped (rep_shaped h1 h2 k))
def sp_law_errors_right : Sp := fun us H Q _ => ∃ (a b : Addr) (xs : List V) (ds : List PyData) (ks : List Key) (n : Int), us = [.ref a, .ref b, .int n] ∧ H a = some (.tup xs) ∧ TDs H xs ds ∧ (PyData.tuple ds).canLay0 = true ∧ (PyData.tuple ds).depth ≤ 10 ∧ H b = some (.tup (ks.map kV)) ∧ (PyData.tuple (ks.map kD)).canLay0 = true ∧ (PyData.tuple (ks.map kD)).depth ≤ 10 ∧
  ∀ H', Same H H' → Q (.bl true) H'
def itemsE (a b : Addr) (n : Int) : List (Nat × Option V) := [(0, some (.ref a)), (1, some (.ref a)), (2, some (.ref a)), (3, some (.ref a)), (4, some (.ref a)), (5, none), (6, none), (7, some (.int n)), (8, some (.ref a)), (9, some (.ref b)), (10, some (.int n)), (11, some (.int n)), (12, some (.ref b)), (13, some (.ref a)), (14, some (.int n))]
theorem items_num {a b : Addr} {n : Int} {i : Nat} {p : Nat × Option V} (h : (itemsE a b n)[i]? = some p) : p.1 = i := by
  have e : (itemsE a b n).map (·.1) = List.range 15 := rfl
  have h2 : ((itemsE a b n).map (·.1))[i]? = some p.1 := by rw [List.getElem?_map, h]; rfl
  rw [e] at h2
  have hi := (List.getElem?_eq_some_iff.mp h2).1
  rw [List.getElem?_eq_getElem hi, List.getElem_range] at h2
  exact (Option.some.inj h2).symm
section
variable {P : Program} {w : World} {K : PySem.W.Frag} {mg : Str → Option Value} {base : Heap}
abbrev N_law_errors_right : List Str := ["some", "triple", "amount", "made", "groups", "k", "at", "found", "counts"]
theorem sc_law_errors_right : FnScope N_law_errors_right ["some", "triple", "amount"] (defScope s_law_errors_right) := ⟨rfl, rfl, rfl, by decide +kernel, rfl, by decide +kernel, by decide +kernel⟩
theorem G_law_errors_right (T : Tx K mg) : FnG P w K mg base CX0 2 T.law_errors_right.f T.law_errors_right.fd ["some", "triple", "amount"] sp_law_errors_right := by
  refine okG T.law_errors_right.F sc_law_errors_right (fun vs H Q E h => ?_) (fun cdv A outer s H vs Q E gd hr h => ?_)
  · obtain ⟨a, b, xs, ds, ks, n, rfl, _⟩ := h
    rfl
  · obtain ⟨a, b, xs, ds, ks, n, rfl, ha, hx, sx, sx2, hb, sb, sb2, q⟩ := h
    have L5 : 200000 ≤ sizeLine := by decide
    refine ⟨_, 
      (C8.pss_cut (ps_set (i := 3) sc_law_errors_right.nd rfl (.inl rfl) (pe_lst (pa_cons (pe_mkXK T.NotAStream.e hr (fun _ _ _ _ _ _ _ _ _ _ _ _ _ _ _ _ => rfl) (pk_cons (pv 0) pk_nil)) (pa_cons (pe_mkXK T.NotAWord.e hr (fun _ _ _ _ _ _ _ _ _ _ _ _ _ _ _ _ => rfl) (pk_cons (pv 0) pk_nil)) (pa_cons (pe_mkXK T.NotAVerdict.e hr (fun _ _ _ _ _ _ _ _ _ _ _ _ _ _ _ _ => rfl) (pk_cons (pv 0) pk_nil)) (pa_cons (pe_mkXK T.InvalidTest.e hr (fun _ _ _ _ _ _ _ _ _ _ _ _ _ _ _ _ => rfl) (pk_cons (pv 0) pk_nil)) pa_nil)))))) -- made = [NotAStream(value=some), NotAWord(word=some), NotAVerdict(verdict=some), InvalidTest(test=some)]
      (C8.pss_cut (ps_set (i := 3) sc_law_errors_right.nd rfl (.inl rfl) (pe_op op_cat (pv 3) (pe_lst (pa_cons (pe_mkXK T.InvalidSources.e hr (fun _ _ _ _ _ _ _ _ _ _ _ _ _ _ _ _ => rfl) (pk_cons (pv 0) pk_nil)) (pa_cons (L2.pe_mkX0 OwnE.bVE_ok.fb T.InvalidClaim_q T.InvalidClaim_g T.InvalidClaim_k rfl) (pa_cons (L2.pe_mkX0 OwnE.bVE_ok.fb T.Unpaired_q T.Unpaired_g T.Unpaired_k rfl) (pa_cons (pe_mkXK T.ParseError.e hr (fun _ _ _ _ _ _ _ _ _ _ _ _ _ _ _ _ => rfl) (pk_cons (pv 2) pk_nil)) pa_nil))))))) -- made = made + [InvalidSources(sources=some), InvalidClaim(), Unpaired(), ParseError(line=amount)]
      (C8.pss_cut (ps_set (i := 3) sc_law_errors_right.nd rfl (.inl rfl) (pe_op op_cat (pv 3) (pe_lst (pa_cons (pe_mkXK T.UnknownState.e hr (fun _ _ _ _ _ _ _ _ _ _ _ _ _ _ _ _ => rfl) (pk_cons (pv 0) pk_nil)) (pa_cons (pe_mkXK T.UnknownRule.e hr (fun _ _ _ _ _ _ _ _ _ _ _ _ _ _ _ _ => rfl) (pk_cons (pv 1) pk_nil)) (pa_cons (pe_mkXK T.UnknownCheckpoint.e hr (fun _ _ _ _ _ _ _ _ _ _ _ _ _ _ _ _ => rfl) (pk_cons (pv 2) pk_nil)) pa_nil)))))) -- made = made + [UnknownState(state=some), UnknownRule(rule=triple), UnknownCheckpoint(number=amount)]
      (C8.pss_cut (ps_set (i := 3) sc_law_errors_right.nd rfl (.inl rfl) (pe_op op_cat (pv 3) (pe_lst (pa_cons (pe_mkXK T.UnknownRecord.e hr (fun _ _ _ _ _ _ _ _ _ _ _ _ _ _ _ _ => rfl) (pk_cons (pv 2) pk_nil)) (pa_cons (pe_mkXK T.RuleExists.e hr (fun _ _ _ _ _ _ _ _ _ _ _ _ _ _ _ _ => rfl) (pk_cons (pv 1) pk_nil)) (pa_cons (pe_mkXK T.TooFar.e hr (fun _ _ _ _ _ _ _ _ _ _ _ _ _ _ _ _ => rfl) (pk_cons (pv 0) pk_nil)) pa_nil)))))) -- made = made + [UnknownRecord(number=amount), RuleExists(rule=triple), TooFar(many=some)]
      (C8.pss_cut (ps_expr (pe_bm PySem.F.plainAttrs_list PySem.F.slot_list_append PySem.F.type_list_append mt_append (pv 3) (pa_cons (pe_mkXK T.LimitExceeded.e hr (fun _ _ _ _ _ _ _ _ _ _ _ _ _ _ _ _ => rfl) (pk_cons (pv 2) pk_nil)) pa_nil))) -- made.append(LimitExceeded(limit=amount))
      (C8.pss_cut (ps_set (i := 4) sc_law_errors_right.nd rfl (.inr rfl) (pe_op op_cat (pe_op op_cat (pe_op op_rep (pe_lstS (pa_cons pe_int pa_nil)) pe_int) (pe_op op_rep (pe_lstS (pa_cons pe_int pa_nil)) pe_int)) (pe_lst (pa_cons pe_int (pa_cons pe_int (pa_cons pe_int pa_nil)))))) -- groups = [0] * 8 + [1] * 4 + [2, 2, 3]
      (C8.pss_cut (ps_for PassesOwn.never rfl (pi_range1 rfl T.m_range (pa_cons pe_int pa_nil)) (pg_name (i := 5) sc_law_errors_right.nd rfl (.inr rfl)) 
        (pss_cons (ps_if (pt_cmpR (op_neD hr.units) (pe_callG (G_law_kinds T) gd (hr.mono (by decide)) rfl T.law_kinds.g T.law_kinds.F.kp T.law_kinds.b .nil pass0 (pa_cons (pe_ix ix_list (pv 3) (pv 5) (fun _ _ => rfl)) pa_nil)) (pe_lc (own := [("at", 6)]) (g := gName 6) rfl sc_law_errors_right.nd (pi_range1 rfl T.m_range (pa_cons pe_int pa_nil)) (blkOk_by (N := N_law_errors_right) (sc := defScope s_law_errors_right) (by decide +kernel)) (fun _ _ _ _ _ => (pg_name (i := 6) sc_law_errors_right.nd rfl (.inl rfl))) (fun _ _ _ _ _ => pts_nil) (fun _ _ _ _ _ => (pe_cmpR op_eq (pv 6) (pv 5) (nomark _)))) (nomark _)) 
          (pss_one (ps_ret pe_bl)) -- return False
           pss_nil) -- if _law_kinds(made[k]) != [at == k for at in range(15)]:
        (pss_one (ps_if (pt_cmpR (op_neD hr.units) (pe_callG (G_law_built_in T) gd (hr.mono (by decide)) rfl T.law_built_in.g T.law_built_in.F.kp T.law_built_in.b .nil pass0 (pa_cons (pe_ix ix_list (pv 3) (pv 5) (fun _ _ => rfl)) pa_nil)) (pe_lc (own := [("at", 6)]) (g := gName 6) rfl sc_law_errors_right.nd (pi_range1 rfl T.m_range (pa_cons pe_int pa_nil)) (blkOk_by (N := N_law_errors_right) (sc := defScope s_law_errors_right) (by decide +kernel)) (fun _ _ _ _ _ => (pg_name (i := 6) sc_law_errors_right.nd rfl (.inl rfl))) (fun _ _ _ _ _ => pts_nil) (fun _ _ _ _ _ => (pe_cmpR op_eq (pv 6) (pe_ix (r := rIxL K) ix_list (pv 4) (pv 5) (fun _ _ => rfl)) (nomark _)))) (nomark _)) 
          (pss_one (ps_ret pe_bl)) -- return False
           pss_nil)) -- if _law_built_in(made[k]) != [at == groups[k] for at in range(8)]:
        )) -- for k in range(15):
      (C8.pss_cut (ps_set (i := 7) sc_law_errors_right.nd rfl (.inl rfl) (pe_lst (pa_cons (L2.pe_xat (pe_ix ix_list (pv 3) pe_int (fun _ _ => rfl)) rfl) (pa_cons (L2.pe_xat (pe_ix ix_list (pv 3) pe_int (fun _ _ => rfl)) rfl) (pa_cons (L2.pe_xat (pe_ix ix_list (pv 3) pe_int (fun _ _ => rfl)) rfl) (pa_cons (L2.pe_xat (pe_ix ix_list (pv 3) pe_int (fun _ _ => rfl)) rfl) (pa_cons (L2.pe_xat (pe_ix ix_list (pv 3) pe_int (fun _ _ => rfl)) rfl) (pa_cons (L2.pe_xat (pe_ix ix_list (pv 3) pe_int (fun _ _ => rfl)) rfl) pa_nil)))))))) -- found = [made[0].value, made[1].word, made[2].verdict, made[3].test, made[4].sources, made[8].state]
      (C8.pss_cut (ps_set (i := 7) sc_law_errors_right.nd rfl (.inl rfl) (pe_op op_cat (pv 7) (pe_lst (pa_cons (L2.pe_xat (pe_ix ix_list (pv 3) pe_int (fun _ _ => rfl)) rfl) (pa_cons (L2.pe_xat (pe_mkX T.NotAStream.e hr (pa_cons (pv 0) pa_nil)) rfl) (pa_cons (L2.pe_xat (pe_mkX T.NotAWord.e hr (pa_cons (pv 0) pa_nil)) rfl) (pa_cons (L2.pe_xat (pe_mkX T.NotAVerdict.e hr (pa_cons (pv 0) pa_nil)) rfl) pa_nil))))))) -- found = found + [made[13].many, NotAStream(some).value, NotAWord(some).word, NotAVerdict(some).verdict]
      (C8.pss_cut (ps_set (i := 7) sc_law_errors_right.nd rfl (.inl rfl) (pe_op op_cat (pv 7) (pe_lst (pa_cons (L2.pe_xat (pe_mkX T.InvalidTest.e hr (pa_cons (pv 0) pa_nil)) rfl) (pa_cons (L2.pe_xat (pe_mkX T.InvalidSources.e hr (pa_cons (pv 0) pa_nil)) rfl) (pa_cons (L2.pe_xat (pe_mkX T.UnknownState.e hr (pa_cons (pv 0) pa_nil)) rfl) pa_nil)))))) -- found = found + [InvalidTest(some).test, InvalidSources(some).sources, UnknownState(some).state]
      (C8.pss_cut (ps_if (pt_cmpR (op_neD hr.units) (pe_op op_cat (pv 7) (pe_lst (pa_cons (L2.pe_xat (pe_mkX T.TooFar.e hr (pa_cons (pv 0) pa_nil)) rfl) pa_nil))) (pe_op op_rep (pe_lst (pa_cons (pv 0) pa_nil)) pe_int) (nomark _)) 
        (pss_one (ps_ret pe_bl)) -- return False
         pss_nil) -- if found + [TooFar(some).many] != [some] * 14:
      (C8.pss_cut (ps_set (i := 7) sc_law_errors_right.nd rfl (.inl rfl) (pe_lst (pa_cons (L2.pe_xat (pe_ix ix_list (pv 3) pe_int (fun _ _ => rfl)) rfl) (pa_cons (L2.pe_xat (pe_ix ix_list (pv 3) pe_int (fun _ _ => rfl)) rfl) (pa_cons (L2.pe_xat (pe_mkX T.UnknownRule.e hr (pa_cons (pv 1) pa_nil)) rfl) (pa_cons (L2.pe_xat (pe_mkX T.RuleExists.e hr (pa_cons (pv 1) pa_nil)) rfl) pa_nil)))))) -- found = [made[9].rule, made[12].rule, UnknownRule(triple).rule, RuleExists(triple).rule]
      (C8.pss_cut (ps_set (i := 8) sc_law_errors_right.nd rfl (.inl rfl) (pe_lst (pa_cons (L2.pe_xat (pe_ix ix_list (pv 3) pe_int (fun _ _ => rfl)) rfl) (pa_cons (L2.pe_xat (pe_ix ix_list (pv 3) pe_int (fun _ _ => rfl)) rfl) (pa_cons (L2.pe_xat (pe_ix ix_list (pv 3) pe_int (fun _ _ => rfl)) rfl) (pa_cons (L2.pe_xat (pe_ix ix_list (pv 3) pe_int (fun _ _ => rfl)) rfl) (pa_cons (L2.pe_xat (pe_mkX T.ParseError.e hr (pa_cons (pv 2) pa_nil)) rfl) pa_nil))))))) -- counts = [made[7].line, made[10].number, made[11].number, made[14].limit, ParseError(amount).line]
      (C8.pss_cut (ps_set (i := 8) sc_law_errors_right.nd rfl (.inl rfl) (pe_op op_cat (pv 8) (pe_lst (pa_cons (L2.pe_xat (pe_mkX T.UnknownCheckpoint.e hr (pa_cons (pv 2) pa_nil)) rfl) (pa_cons (L2.pe_xat (pe_mkX T.UnknownRecord.e hr (pa_cons (pv 2) pa_nil)) rfl) (pa_cons (L2.pe_xat (pe_mkX T.LimitExceeded.e hr (pa_cons (pv 2) pa_nil)) rfl) pa_nil)))))) -- counts = counts + [UnknownCheckpoint(amount).number, UnknownRecord(amount).number, LimitExceeded(amount).limit]
      (pss_one (ps_ret (pe_and (pe_cmpR (op_eqD hr.units) (pv 7) (pe_op op_rep (pe_lst (pa_cons (pv 1) pa_nil)) pe_int) (nomark _)) (pe_one (pe_cmpR (op_eqD hr.units) (pv 8) (pe_op op_rep (pe_lst (pa_cons (pv 2) pa_nil)) pe_int) (nomark _)))))) -- return found == [triple] * 4 and counts == [amount] * 8
      )))))))))))))) , ?_⟩
    refine ⟨fun σ H' => ∃ ml, σ = [some (.ref a), some (.ref b), some (.int n), some (.ref ml), none, none, none, none, none] ∧ Same H H' ∧ H ml = none ∧ Errs (clsL T) H' ml ((itemsE a b n).take 4), ?_, ?_⟩
    · refine ⟨.ref a, rfl, _, rfl, fun e1 d1 ne1 nd1 na1 => ⟨.ref a, rfl, _, rfl, fun e2 d2 ne2 nd2 na2 => ⟨.ref a, rfl, _, rfl, fun e3 d3 ne3 nd3 na3 => ⟨.ref a, rfl, _, rfl, fun e4 d4 ne4 nd4 na4 => ⟨by show 4 ≤ sizeLine; decide, fun ml nml => ⟨ml, rfl, ?_, ?_, [e1, e2, e3, e4], upd_same, ?_⟩⟩⟩⟩⟩⟩
      · exact (((same2 ne1 nd1).trans (same2 ne2 nd2)).trans ((same2 ne3 nd3).trans (same2 ne4 nd4))).trans (same_new nml)
      · exact (((same2 ne1 nd1).trans (same2 ne2 nd2)).trans ((same2 ne3 nd3).trans (same2 ne4 nd4))).free nml
      · refine eats_mono (same_new nml) (.cons (((Eat.new rfl rfl na1).mono (same2 ne2 nd2)).mono ((same2 ne3 nd3).trans (same2 ne4 nd4))) (.cons ((Eat.new rfl rfl na2).mono ((same2 ne3 nd3).trans (same2 ne4 nd4))) (.cons ((Eat.new rfl rfl na3).mono (same2 ne4 nd4)) (.cons (Eat.new rfl rfl na4) .nil))))
    rintro σ H1 ⟨ml, rfl, s1, nml, es, hes, hE⟩
    refine ⟨fun σ H' => ∃ ml, σ = [some (.ref a), some (.ref b), some (.int n), some (.ref ml), none, none, none, none, none] ∧ Same H H' ∧ H ml = none ∧ Errs (clsL T) H' ml ((itemsE a b n).take 8), ?_, ?_⟩
    · have les : es.length = 4 := Paired.length hE
      refine ⟨.ref ml, rfl, .ref a, rfl, _, rfl, fun e0 d0 ne0 nd0 na0 => fun e1 ne1 => fun e2 ne2 => ⟨.int n, rfl, _, rfl, fun e3 d3 ne3 nd3 na3 => ⟨by show 4 ≤ sizeLine; decide, fun l2 n2 => ⟨ml, l2, es.map V.ref, [.ref e0, .ref e1, .ref e2, .ref e3], rfl, rfl, ?_, upd_same, ?_, fun m2 k2 => ⟨m2, rfl, ?_, ?_, es ++ [e0, e1, e2, e3], ?_, ?_⟩⟩⟩⟩⟩
      · exact (((((same2 ne0 nd0).trans (same_new ne1)).trans (same_new ne2)).trans (same2 ne3 nd3)).trans (same_new n2)) _ _ hes
      · rw [List.length_map]
        show es.length + 4 ≤ sizeLine
        omega
      · exact s1.trans ((((((same2 ne0 nd0).trans (same_new ne1)).trans (same_new ne2)).trans (same2 ne3 nd3)).trans (same_new n2)).trans (same_new k2))
      · exact (s1.trans (((((same2 ne0 nd0).trans (same_new ne1)).trans (same_new ne2)).trans (same2 ne3 nd3)).trans (same_new n2))).free k2
      · rw [upd_same, List.map_append]
        rfl
      · exact paired_app (eats_mono ((((((same2 ne0 nd0).trans (same_new ne1)).trans (same_new ne2)).trans (same2 ne3 nd3)).trans (same_new n2)).trans (same_new k2)) hE) (.cons (Eat.mono (Eat.new (i := 4) rfl rfl na0) (((((same_new ne1).trans (same_new ne2)).trans (same2 ne3 nd3)).trans (same_new n2)).trans (same_new k2))) (.cons (Eat.mono (Eat.new0 (i := 5) rfl) ((((same_new ne2).trans (same2 ne3 nd3)).trans (same_new n2)).trans (same_new k2))) (.cons (Eat.mono (Eat.new0 (i := 6) rfl) (((same2 ne3 nd3).trans (same_new n2)).trans (same_new k2))) (.cons (Eat.mono (Eat.new (i := 7) rfl rfl na3) ((same_new n2).trans (same_new k2))) .nil))))
    clear hes hE
    rintro σ H2 ⟨ml, rfl, s1, nml, es, hes, hE⟩
    refine ⟨fun σ H' => ∃ ml, σ = [some (.ref a), some (.ref b), some (.int n), some (.ref ml), none, none, none, none, none] ∧ Same H H' ∧ H ml = none ∧ Errs (clsL T) H' ml ((itemsE a b n).take 11), ?_, ?_⟩
    · have les : es.length = 8 := Paired.length hE
      refine ⟨.ref ml, rfl, .ref a, rfl, _, rfl, fun e0 d0 ne0 nd0 na0 => ⟨.ref b, rfl, _, rfl, fun e1 d1 ne1 nd1 na1 => ⟨.int n, rfl, _, rfl, fun e2 d2 ne2 nd2 na2 => ⟨by show 3 ≤ sizeLine; decide, fun l2 n2 => ⟨ml, l2, es.map V.ref, [.ref e0, .ref e1, .ref e2], rfl, rfl, ?_, upd_same, ?_, fun m2 k2 => ⟨m2, rfl, ?_, ?_, es ++ [e0, e1, e2], ?_, ?_⟩⟩⟩⟩⟩⟩
      · exact ((((same2 ne0 nd0).trans (same2 ne1 nd1)).trans (same2 ne2 nd2)).trans (same_new n2)) _ _ hes
      · rw [List.length_map]
        show es.length + 3 ≤ sizeLine
        omega
      · exact s1.trans (((((same2 ne0 nd0).trans (same2 ne1 nd1)).trans (same2 ne2 nd2)).trans (same_new n2)).trans (same_new k2))
      · exact (s1.trans ((((same2 ne0 nd0).trans (same2 ne1 nd1)).trans (same2 ne2 nd2)).trans (same_new n2))).free k2
      · rw [upd_same, List.map_append]
        rfl
      · exact paired_app (eats_mono (((((same2 ne0 nd0).trans (same2 ne1 nd1)).trans (same2 ne2 nd2)).trans (same_new n2)).trans (same_new k2)) hE) (.cons (Eat.mono (Eat.new (i := 8) rfl rfl na0) ((((same2 ne1 nd1).trans (same2 ne2 nd2)).trans (same_new n2)).trans (same_new k2))) (.cons (Eat.mono (Eat.new (i := 9) rfl rfl na1) (((same2 ne2 nd2).trans (same_new n2)).trans (same_new k2))) (.cons (Eat.mono (Eat.new (i := 10) rfl rfl na2) ((same_new n2).trans (same_new k2))) .nil)))
    clear hes hE
    rintro σ H3 ⟨ml, rfl, s1, nml, es, hes, hE⟩
    refine ⟨fun σ H' => ∃ ml, σ = [some (.ref a), some (.ref b), some (.int n), some (.ref ml), none, none, none, none, none] ∧ Same H H' ∧ H ml = none ∧ Errs (clsL T) H' ml ((itemsE a b n).take 14), ?_, ?_⟩
    · have les : es.length = 11 := Paired.length hE
      refine ⟨.ref ml, rfl, .int n, rfl, _, rfl, fun e0 d0 ne0 nd0 na0 => ⟨.ref b, rfl, _, rfl, fun e1 d1 ne1 nd1 na1 => ⟨.ref a, rfl, _, rfl, fun e2 d2 ne2 nd2 na2 => ⟨by show 3 ≤ sizeLine; decide, fun l2 n2 => ⟨ml, l2, es.map V.ref, [.ref e0, .ref e1, .ref e2], rfl, rfl, ?_, upd_same, ?_, fun m2 k2 => ⟨m2, rfl, ?_, ?_, es ++ [e0, e1, e2], ?_, ?_⟩⟩⟩⟩⟩⟩
      · exact ((((same2 ne0 nd0).trans (same2 ne1 nd1)).trans (same2 ne2 nd2)).trans (same_new n2)) _ _ hes
      · rw [List.length_map]
        show es.length + 3 ≤ sizeLine
        omega
      · exact s1.trans (((((same2 ne0 nd0).trans (same2 ne1 nd1)).trans (same2 ne2 nd2)).trans (same_new n2)).trans (same_new k2))
      · exact (s1.trans ((((same2 ne0 nd0).trans (same2 ne1 nd1)).trans (same2 ne2 nd2)).trans (same_new n2))).free k2
      · rw [upd_same, List.map_append]
        rfl
      · exact paired_app (eats_mono (((((same2 ne0 nd0).trans (same2 ne1 nd1)).trans (same2 ne2 nd2)).trans (same_new n2)).trans (same_new k2)) hE) (.cons (Eat.mono (Eat.new (i := 11) rfl rfl na0) ((((same2 ne1 nd1).trans (same2 ne2 nd2)).trans (same_new n2)).trans (same_new k2))) (.cons (Eat.mono (Eat.new (i := 12) rfl rfl na1) (((same2 ne2 nd2).trans (same_new n2)).trans (same_new k2))) (.cons (Eat.mono (Eat.new (i := 13) rfl rfl na2) ((same_new n2).trans (same_new k2))) .nil)))
    clear hes hE
    rintro σ H4 ⟨ml, rfl, s1, nml, es, hes, hE⟩
    refine ⟨fun σ H' => ∃ ml, σ = [some (.ref a), some (.ref b), some (.int n), some (.ref ml), none, none, none, none, none] ∧ Same H H' ∧ Errs (clsL T) H' ml (itemsE a b n), ?_, ?_⟩
    · have les : es.length = 14 := Paired.length hE
      refine ⟨.ref ml, rfl, .inl ⟨rfl, _, SqL.of hes⟩, .int n, rfl, _, rfl, fun e d ne nd na => ⟨ml, es.map V.ref, .ref e, rfl, rfl, same2 ne nd _ _ hes, ?_, ml, rfl, put_same nml (s1.trans (same2 ne nd)), es ++ [e], ?_, ?_⟩⟩
      · rw [List.length_map]
        omega
      · rw [upd_same, List.map_append]
        rfl
      · have hml := same2 (o1 := .xd [(Str.ofString "limit", .int n)]) (o2 := xo e T.LimitExceeded.C (some d)) ne nd _ _ hes
        have k : ∀ {e' : Addr} {p : Nat × Option V}, Eat (clsL T) (upd (upd H4 d (.xd [(Str.ofString "limit", .int n)])) e (xo e T.LimitExceeded.C (some d))) e' p → Eat (clsL T) (upd (upd (upd H4 d (.xd [(Str.ofString "limit", .int n)])) e (xo e T.LimitExceeded.C (some d))) ml (.lst (es.map V.ref ++ [.ref e]))) e' p := fun {e' p} z => z.off hml
        exact paired_app (Paired.mapP (eats_mono (same2 ne nd) hE) fun _ _ z => k z) (.cons (k (Eat.new (i := 14) rfl rfl na)) .nil)
    clear hes hE
    rintro σ H5 ⟨ml, rfl, s1, es, hes, hE⟩
    refine ⟨fun σ H' => ∃ gl, σ = [some (.ref a), some (.ref b), some (.int n), some (.ref ml), some (.ref gl), none, none, none, none] ∧ Same H5 H' ∧ H' gl = some (.lst grpV), ?_, ?_⟩
    · refine ⟨by show 1 ≤ sizeLine; decide, fun q1 m1 b1 => ⟨q1, 8, [.int 0], rfl, rfl, upd_same, by decide, by decide, by show 8 ≤ sizeLine; decide, fun q2 m2 => ⟨by show 1 ≤ sizeLine; decide, fun q3 m3 b3 => ⟨q3, 4, [.int 1], rfl, rfl, upd_same, by decide, by decide, by show 4 ≤ sizeLine; decide, fun q4 m4 => ⟨q2, q4, _, _, rfl, rfl, same_new m4 _ _ (same_new m3 _ _ upd_same), upd_same, by show 12 ≤ sizeLine; decide, fun q5 m5 => ⟨by show 3 ≤ sizeLine; decide, fun q6 m6 => ⟨q5, q6, _, _, rfl, rfl, same_new m6 _ _ upd_same, upd_same, by show 15 ≤ sizeLine; decide, fun gl mgl => ⟨gl, rfl, ?_, upd_same⟩⟩⟩⟩⟩⟩⟩⟩
      exact ((((same_new m1).trans (same_new m2)).trans ((same_new m3).trans (same_new m4))).trans ((same_new m5).trans (same_new m6))).trans (same_new mgl)
    rintro σ H6 ⟨gl, rfl, s6, hgl⟩
    have hes6 := s6 _ _ hes
    have hE6 := eats_mono s6 hE
    have les : es.length = 15 := Paired.length hE
    refine ⟨fun σ H' => ∃ y5 y6, σ = [some (.ref a), some (.ref b), some (.int n), some (.ref ml), some (.ref gl), y5, y6, none, none] ∧ Same H6 H', ?_, ?_⟩
    · refine ⟨15, rfl, by decide, by decide, ?_⟩
      refine for_range (n := 15) (fun i σ H' => ∃ y5 y6, σ = [some (.ref a), some (.ref b), some (.int n), some (.ref ml), some (.ref gl), y5, y6, none, none] ∧ Same H6 H') ?_ ?_ ?_
      · exact ⟨none, none, rfl, Same.refl _⟩
      · rintro i σ H7 hi ⟨y5, y6, rfl, s7⟩
        have e0 : (0 : Int) + (i : Int) = (i : Int) := by omega
        rw [e0]
        have hei : es[i]? = some es[i] := List.getElem?_eq_getElem (by omega)
        have hat : atI (es.map V.ref) (i : Int) = some (.ref es[i]) := atI_nat (j := i) (by rw [List.getElem?_map, hei]; rfl)
        obtain ⟨p, hp, hEi⟩ : ∃ p : Nat × Option V, (itemsE a b n)[i]? = some p ∧ Eat (clsL T) H7 es[i] p := by
          obtain ⟨p, hp, he⟩ := paired_get (eats_mono s7 hE6) hei
          exact ⟨p, hp, he⟩
        have hpi : p.1 = i := items_num hp
        obtain ⟨ca, cd', hc1, hc2, hc3⟩ := hEi.kind
        rw [hpi] at hc1
        refine ⟨.ref ml, rfl, .int (i : Int), rfl, ml, _, (i : Int), .ref es[i], rfl, rfl, SqL.of (s7 _ _ hes6), hat, es[i], ca, i, cd', rfl, hc1, hc2, hc3, fun t H8 s8 nt ht => ?_⟩
        refine ⟨15, rfl, by decide, by decide, fun D nD => ?_⟩
        refine lc_range (lo := 0) (n := 15) (fun j H' => Same H8 H' ∧ H' D = some (.lst (((List.range j).map fun k => decide (i = k)).map V.bl))) ?_ ?_ ?_
        · exact ⟨same_new nD, upd_same⟩
        · rintro j H' hj ⟨s', hD⟩
          have e1 : (0 : Int) + (j : Int) = (j : Int) := by omega
          rw [e1]
          refine ⟨rfl, .int (j : Int), rfl, .int (i : Int), rfl, rfl, _, hD, ?_, ?_, ?_⟩
          · rw [List.length_map, List.length_map, List.length_range]
            omega
          · intro b o e
            rw [upd_ne (ne_of_none e nD)]
            exact s' _ _ e
          · rw [upd_same, List.range_succ, List.map_append, List.map_append]
            have ed : decide (V.int (j : Int) = V.int (i : Int)) = decide (i = j) := by
              by_cases h : i = j
              · rw [h, decide_eq_true rfl, decide_eq_true rfl]
              · rw [decide_eq_false h, decide_eq_false (fun z => h (by have := V.int.inj z; omega))]
            rw [ed]
            rfl
        · rintro H9 ⟨s9, hD⟩
          refine ⟨_, _, .lst (SqL.of (s9 _ _ ht)) (dp_bls K H9 (OneHot 15 i)), .lst (SqL.of hD) (dp_bls K H9 _), bls_shaped _, bls_shaped _, _, rfl, ?_⟩
          rw [show (List.range 15).map (fun k => decide (i = k)) = OneHot 15 i from rfl, bls_eqv]
          refine iteF ?_
          have s79 := s8.trans s9
          have hEi9 := hEi.mono s79
          obtain ⟨ca2, cd2, hd1, hd2, hd3⟩ := hEi9.kind
          rw [hpi] at hd1
          have hgi : grpL[i]? = some grpL[i] := List.getElem?_eq_getElem (by show i < 15; exact hi)
          have hgv : grpV[i]? = some (.int ((grpL[i] : Nat) : Int)) := by
            have e : grpV = grpL.map fun k : Nat => V.int (k : Int) := rfl
            rw [e, List.getElem?_map, hgi]
            rfl
          generalize grpL[i] = gi at hgi hgv
          have s6a := s7.trans s79
          refine ⟨.ref ml, rfl, .int (i : Int), rfl, ml, _, (i : Int), .ref es[i], rfl, rfl, SqL.of (s6a _ _ hes6), hat, es[i], ca2, i, gi, cd2, rfl, hd1, hgi, hd2, hd3, fun t2 H10 s10 nt2 ht2 => ?_⟩
          have hgl10 := s10 _ _ (s6a _ _ hgl)
          refine ⟨8, rfl, by decide, by decide, fun D2 nD2 => ?_⟩
          refine lc_range (lo := 0) (n := 8) (fun j H' => Same H10 H' ∧ H' D2 = some (.lst (((List.range j).map fun k => decide (k = gi)).map V.bl))) ?_ ?_ ?_
          · exact ⟨same_new nD2, upd_same⟩
          · rintro j H' hj ⟨s', hD2⟩
            have e1 : (0 : Int) + (j : Int) = (j : Int) := by omega
            rw [e1]
            refine ⟨rfl, .int (j : Int), rfl, .ref gl, rfl, .int (i : Int), rfl, gl, _, (i : Int), .int (gi : Int), rfl, rfl, SqL.of (s' _ _ hgl10), atI_nat (j := i) hgv, rfl, _, hD2, ?_, ?_, ?_⟩
            · rw [List.length_map, List.length_map, List.length_range]
              omega
            · intro b o e
              rw [upd_ne (ne_of_none e nD2)]
              exact s' _ _ e
            · rw [upd_same, List.range_succ, List.map_append, List.map_append]
              have ed : decide (V.int (j : Int) = V.int (gi : Int)) = decide (j = gi) := by
                by_cases h : j = gi
                · rw [h, decide_eq_true rfl, decide_eq_true rfl]
                · rw [decide_eq_false h, decide_eq_false (fun z => h (by have := V.int.inj z; omega))]
              rw [ed]
              rfl
          · rintro H11 ⟨s11, hD2⟩
            refine ⟨_, _, .lst (SqL.of (s11 _ _ ht2)) (dp_bls K H11 (OneB 8 gi)), .lst (SqL.of hD2) (dp_bls K H11 _), bls_shaped _, bls_shaped _, _, rfl, ?_⟩
            rw [show (List.range 8).map (fun k => decide (k = gi)) = OneB 8 gi from rfl, bls_eqv]
            exact iteF ⟨_, _, rfl, (s6a.trans s10).trans s11⟩
      · rintro σ H' ⟨y5, y6, rfl, s'⟩
        exact ⟨y5, y6, rfl, s'⟩
    rintro σ H7 ⟨y5, y6, rfl, s7⟩
    have hes7 := s7 _ _ hes6
    have hE7 := eats_mono s7 hE6
    have eref : ∀ {k : Nat} {e : Addr}, es[k]? = some e → atI (es.map V.ref) (k : Int) = some (.ref e) := fun {k e} h => atI_nat (j := k) (by rw [List.getElem?_map, h]; rfl)
    obtain ⟨e0, a0, d0, f0, l0, c0, g0, x0, y0⟩ := errs_at hE7 (k := 0) (i := 0) rfl
    cases c0
    cases g0
    obtain ⟨e1, a1, d1, f1, l1, c1, g1, x1, y1⟩ := errs_at hE7 (k := 1) (i := 1) rfl
    cases c1
    cases g1
    obtain ⟨e2, a2, d2, f2, l2, c2, g2, x2, y2⟩ := errs_at hE7 (k := 2) (i := 2) rfl
    cases c2
    cases g2
    obtain ⟨e3, a3, d3, f3, l3, c3, g3, x3, y3⟩ := errs_at hE7 (k := 3) (i := 3) rfl
    cases c3
    cases g3
    obtain ⟨e4, a4, d4, f4, l4, c4, g4, x4, y4⟩ := errs_at hE7 (k := 4) (i := 4) rfl
    cases c4
    cases g4
    obtain ⟨e8, a8, d8, f8, l8, c8, g8, x8, y8⟩ := errs_at hE7 (k := 8) (i := 8) rfl
    cases c8
    cases g8
    obtain ⟨e13, a13, d13, f13, l13, c13, g13, x13, y13⟩ := errs_at hE7 (k := 13) (i := 13) rfl
    cases c13
    cases g13
    refine ⟨fun σ H' => ∃ y5 y6 fl, σ = [some (.ref a), some (.ref b), some (.int n), some (.ref ml), some (.ref gl), y5, y6, some (.ref fl), none] ∧ Same H7 H' ∧ H' fl = some (.lst (List.replicate 6 (.ref a))), ?_, ?_⟩
    · refine ⟨.ref ml, rfl, ml, _, 0, .ref e0, rfl, rfl, SqL.of hes7, eref l0, e0, _, d0, _, rfl, x0, y0, T.NotAStream.e.T.ga, T.NotAStream.e.T.gg, T.NotAStream.e.T.exC, T.NotAStream.e.T.hdC, T.NotAStream.e.T.noN, .ref ml, rfl, ml, _, 1, .ref e1, rfl, rfl, SqL.of hes7, eref l1, e1, _, d1, _, rfl, x1, y1, T.NotAWord.e.T.ga, T.NotAWord.e.T.gg, T.NotAWord.e.T.exC, T.NotAWord.e.T.hdC, T.NotAWord.e.T.noN, .ref ml, rfl, ml, _, 2, .ref e2, rfl, rfl, SqL.of hes7, eref l2, e2, _, d2, _, rfl, x2, y2, T.NotAVerdict.e.T.ga, T.NotAVerdict.e.T.gg, T.NotAVerdict.e.T.exC, T.NotAVerdict.e.T.hdC, T.NotAVerdict.e.T.noN, .ref ml, rfl, ml, _, 3, .ref e3, rfl, rfl, SqL.of hes7, eref l3, e3, _, d3, _, rfl, x3, y3, T.InvalidTest.e.T.ga, T.InvalidTest.e.T.gg, T.InvalidTest.e.T.exC, T.InvalidTest.e.T.hdC, T.InvalidTest.e.T.noN, .ref ml, rfl, ml, _, 4, .ref e4, rfl, rfl, SqL.of hes7, eref l4, e4, _, d4, _, rfl, x4, y4, T.InvalidSources.e.T.ga, T.InvalidSources.e.T.gg, T.InvalidSources.e.T.exC, T.InvalidSources.e.T.hdC, T.InvalidSources.e.T.noN, .ref ml, rfl, ml, _, 8, .ref e8, rfl, rfl, SqL.of hes7, eref l8, e8, _, d8, _, rfl, x8, y8, T.UnknownState.e.T.ga, T.UnknownState.e.T.gg, T.UnknownState.e.T.exC, T.UnknownState.e.T.hdC, T.UnknownState.e.T.noN, by show 6 ≤ sizeLine; decide, fun fl nfl => ⟨_, _, fl, rfl, same_new nfl, upd_same⟩⟩
    rintro σ H8 ⟨y5, y6, fl, rfl, s8, hfl⟩
    refine ⟨fun σ H' => ∃ y5 y6 fl, σ = [some (.ref a), some (.ref b), some (.int n), some (.ref ml), some (.ref gl), y5, y6, some (.ref fl), none] ∧ Same H8 H' ∧ H' fl = some (.lst (List.replicate 10 (.ref a))), ?_, ?_⟩
    · refine ⟨.ref fl, rfl, .ref ml, rfl, ml, _, 13, .ref e13, rfl, rfl, SqL.of (s8 _ _ hes7), eref l13, e13, _, d13, _, rfl, s8 _ _ x13, s8 _ _ y13, T.TooFar.e.T.ga, T.TooFar.e.T.gg, T.TooFar.e.T.exC, T.TooFar.e.T.hdC, T.TooFar.e.T.noN, .ref a, rfl, _, rfl, fun p0 r0 np0 nr0 nq0 => ⟨p0, _, r0, _, rfl, upd_same, (by rw [upd_ne nq0]; exact upd_same), T.NotAStream.e.T.ga, T.NotAStream.e.T.gg, T.NotAStream.e.T.exC, T.NotAStream.e.T.hdC, T.NotAStream.e.T.noN, .ref a, rfl, _, rfl, fun p1 r1 np1 nr1 nq1 => ⟨p1, _, r1, _, rfl, upd_same, (by rw [upd_ne nq1]; exact upd_same), T.NotAWord.e.T.ga, T.NotAWord.e.T.gg, T.NotAWord.e.T.exC, T.NotAWord.e.T.hdC, T.NotAWord.e.T.noN, .ref a, rfl, _, rfl, fun p2 r2 np2 nr2 nq2 => ⟨p2, _, r2, _, rfl, upd_same, (by rw [upd_ne nq2]; exact upd_same), T.NotAVerdict.e.T.ga, T.NotAVerdict.e.T.gg, T.NotAVerdict.e.T.exC, T.NotAVerdict.e.T.hdC, T.NotAVerdict.e.T.noN, by show 4 ≤ sizeLine; decide, fun l2 n2 => ⟨fl, l2, _, [.ref a, .ref a, .ref a, .ref a], rfl, rfl, ((((same2 np0 nr0).trans (same2 np1 nr1)).trans (same2 np2 nr2)).trans (same_new n2)) _ _ hfl, upd_same, by show 10 ≤ sizeLine; decide, fun m2 k2 => ⟨y5, y6, m2, rfl, ((((same2 np0 nr0).trans (same2 np1 nr1)).trans (same2 np2 nr2)).trans (same_new n2)).trans (same_new k2), (by rw [upd_same]; rfl)⟩⟩⟩⟩⟩⟩
    clear hfl
    rintro σ H9 ⟨y5, y6, fl, rfl, s9, hfl⟩
    refine ⟨fun σ H' => ∃ y5 y6 fl, σ = [some (.ref a), some (.ref b), some (.int n), some (.ref ml), some (.ref gl), y5, y6, some (.ref fl), none] ∧ Same H9 H' ∧ H' fl = some (.lst (List.replicate 13 (.ref a))), ?_, ?_⟩
    · refine ⟨.ref fl, rfl, .ref a, rfl, _, rfl, fun p0 r0 np0 nr0 nq0 => ⟨p0, _, r0, _, rfl, upd_same, (by rw [upd_ne nq0]; exact upd_same), T.InvalidTest.e.T.ga, T.InvalidTest.e.T.gg, T.InvalidTest.e.T.exC, T.InvalidTest.e.T.hdC, T.InvalidTest.e.T.noN, .ref a, rfl, _, rfl, fun p1 r1 np1 nr1 nq1 => ⟨p1, _, r1, _, rfl, upd_same, (by rw [upd_ne nq1]; exact upd_same), T.InvalidSources.e.T.ga, T.InvalidSources.e.T.gg, T.InvalidSources.e.T.exC, T.InvalidSources.e.T.hdC, T.InvalidSources.e.T.noN, .ref a, rfl, _, rfl, fun p2 r2 np2 nr2 nq2 => ⟨p2, _, r2, _, rfl, upd_same, (by rw [upd_ne nq2]; exact upd_same), T.UnknownState.e.T.ga, T.UnknownState.e.T.gg, T.UnknownState.e.T.exC, T.UnknownState.e.T.hdC, T.UnknownState.e.T.noN, by show 3 ≤ sizeLine; decide, fun l2 n2 => ⟨fl, l2, _, [.ref a, .ref a, .ref a], rfl, rfl, ((((same2 np0 nr0).trans (same2 np1 nr1)).trans (same2 np2 nr2)).trans (same_new n2)) _ _ hfl, upd_same, by show 13 ≤ sizeLine; decide, fun m2 k2 => ⟨y5, y6, m2, rfl, ((((same2 np0 nr0).trans (same2 np1 nr1)).trans (same2 np2 nr2)).trans (same_new n2)).trans (same_new k2), (by rw [upd_same]; rfl)⟩⟩⟩⟩⟩⟩
    clear hfl
    rintro σ H10 ⟨y5, y6, fl, rfl, s10, hfl⟩
    have s010 := ((((s1.trans s6).trans s7).trans s8).trans s9).trans s10
    have hdA : ∀ H', Same H10 H' → Dp K H' (.ref a) (.tuple ds) := fun H' s' => .tup (SqT.of (s' _ _ (s010 _ _ ha))) (TDs.dp _ (TDs.mono (Tups.same (s010.trans s')) _ hx))
    refine ⟨fun σ H' => σ = [some (.ref a), some (.ref b), some (.int n), some (.ref ml), some (.ref gl), y5, y6, some (.ref fl), none] ∧ Same H10 H', ?_, ?_⟩
    · refine ⟨.ref fl, rfl, .ref a, rfl, _, rfl, fun p0 r0 np0 nr0 nq0 => ⟨p0, _, r0, _, rfl, upd_same, (by rw [upd_ne nq0]; exact upd_same), T.TooFar.e.T.ga, T.TooFar.e.T.gg, T.TooFar.e.T.exC, T.TooFar.e.T.hdC, T.TooFar.e.T.noN, by show 1 ≤ sizeLine; decide, fun l2 n2 => ⟨fl, l2, _, [.ref a], rfl, rfl, ((same2 np0 nr0).trans (same_new n2)) _ _ hfl, upd_same, by show 14 ≤ sizeLine; decide, fun m2 k2 => ⟨.ref a, rfl, by show 1 ≤ sizeLine; decide, fun q1 w1 => ⟨q1, 14, [.ref a], rfl, rfl, upd_same, by decide, by decide, by show 14 ≤ sizeLine; decide, fun q2 w2 => ?_⟩⟩⟩⟩⟩
      have sz := ((((same2 np0 nr0).trans (same_new n2)).trans (same_new k2)).trans (same_new w1)).trans (same_new (o := .lst (List.replicate (14 : Int).toNat [V.ref a]).flatten) w2)
      refine ⟨.list (List.replicate 14 (.tuple ds)), .list (List.replicate 14 (.tuple ds)), .lst (xs := List.replicate 14 (.ref a)) (SqL.of (same_new w2 _ _ (same_new w1 _ _ (by rw [upd_same]; rfl)))) (dp_rep (hdA _ sz) 14), .lst (xs := List.replicate 14 (.ref a)) (SqL.of (by rw [upd_same]; rfl)) (dp_rep (hdA _ sz) 14), rep_shaped sx sx2 14, rep_shaped sx sx2 14, _, rfl, ?_⟩
      rw [rep_eqv sx sx2]
      exact iteF ⟨rfl, sz⟩
    rintro σ H11 ⟨rfl, s11⟩
    have s711 := ((s8.trans s9).trans s10).trans s11
    obtain ⟨e7, a7, d7, f7, l7, c7, g7, x7, y7⟩ := errs_at hE7 (k := 7) (i := 7) rfl
    cases c7
    cases g7
    obtain ⟨e9, a9, d9, f9, l9, c9, g9, x9, y9⟩ := errs_at hE7 (k := 9) (i := 9) rfl
    cases c9
    cases g9
    obtain ⟨e10, a10, d10, f10, l10, c10, g10, x10, y10⟩ := errs_at hE7 (k := 10) (i := 10) rfl
    cases c10
    cases g10
    obtain ⟨e11, a11, d11, f11, l11, c11, g11, x11, y11⟩ := errs_at hE7 (k := 11) (i := 11) rfl
    cases c11
    cases g11
    obtain ⟨e12, a12, d12, f12, l12, c12, g12, x12, y12⟩ := errs_at hE7 (k := 12) (i := 12) rfl
    cases c12
    cases g12
    obtain ⟨e14, a14, d14, f14, l14, c14, g14, x14, y14⟩ := errs_at hE7 (k := 14) (i := 14) rfl
    cases c14
    cases g14
    clear hfl
    refine ⟨fun σ H' => ∃ fl, σ = [some (.ref a), some (.ref b), some (.int n), some (.ref ml), some (.ref gl), y5, y6, some (.ref fl), none] ∧ Same H11 H' ∧ H' fl = some (.lst (List.replicate 4 (.ref b))), ?_, ?_⟩
    · refine ⟨.ref ml, rfl, ml, _, 9, .ref e9, rfl, rfl, SqL.of (s711 _ _ hes7), eref l9, e9, _, d9, _, rfl, s711 _ _ x9, s711 _ _ y9, T.UnknownRule.e.T.ga, T.UnknownRule.e.T.gg, T.UnknownRule.e.T.exC, T.UnknownRule.e.T.hdC, T.UnknownRule.e.T.noN, .ref ml, rfl, ml, _, 12, .ref e12, rfl, rfl, SqL.of (s711 _ _ hes7), eref l12, e12, _, d12, _, rfl, s711 _ _ x12, s711 _ _ y12, T.RuleExists.e.T.ga, T.RuleExists.e.T.gg, T.RuleExists.e.T.exC, T.RuleExists.e.T.hdC, T.RuleExists.e.T.noN, .ref b, rfl, _, rfl, fun p0 r0 np0 nr0 nq0 => ⟨p0, _, r0, _, rfl, upd_same, (by rw [upd_ne nq0]; exact upd_same), T.UnknownRule.e.T.ga, T.UnknownRule.e.T.gg, T.UnknownRule.e.T.exC, T.UnknownRule.e.T.hdC, T.UnknownRule.e.T.noN, .ref b, rfl, _, rfl, fun p1 r1 np1 nr1 nq1 => ⟨p1, _, r1, _, rfl, upd_same, (by rw [upd_ne nq1]; exact upd_same), T.RuleExists.e.T.ga, T.RuleExists.e.T.gg, T.RuleExists.e.T.exC, T.RuleExists.e.T.hdC, T.RuleExists.e.T.noN, by show 4 ≤ sizeLine; decide, fun m2 k2 => ⟨m2, rfl, ((same2 np0 nr0).trans (same2 np1 nr1)).trans (same_new k2), upd_same⟩⟩⟩⟩
    rintro σ H12 ⟨fl, rfl, s12, hfl⟩
    have s712 := s711.trans s12
    refine ⟨fun σ H' => ∃ cl, σ = [some (.ref a), some (.ref b), some (.int n), some (.ref ml), some (.ref gl), y5, y6, some (.ref fl), some (.ref cl)] ∧ Same H12 H' ∧ H' cl = some (.lst (List.replicate 5 (.int n))), ?_, ?_⟩
    · refine ⟨.ref ml, rfl, ml, _, 7, .ref e7, rfl, rfl, SqL.of (s712 _ _ hes7), eref l7, e7, _, d7, _, rfl, s712 _ _ x7, s712 _ _ y7, T.ParseError.e.T.ga, T.ParseError.e.T.gg, T.ParseError.e.T.exC, T.ParseError.e.T.hdC, T.ParseError.e.T.noN, .ref ml, rfl, ml, _, 10, .ref e10, rfl, rfl, SqL.of (s712 _ _ hes7), eref l10, e10, _, d10, _, rfl, s712 _ _ x10, s712 _ _ y10, T.UnknownCheckpoint.e.T.ga, T.UnknownCheckpoint.e.T.gg, T.UnknownCheckpoint.e.T.exC, T.UnknownCheckpoint.e.T.hdC, T.UnknownCheckpoint.e.T.noN, .ref ml, rfl, ml, _, 11, .ref e11, rfl, rfl, SqL.of (s712 _ _ hes7), eref l11, e11, _, d11, _, rfl, s712 _ _ x11, s712 _ _ y11, T.UnknownRecord.e.T.ga, T.UnknownRecord.e.T.gg, T.UnknownRecord.e.T.exC, T.UnknownRecord.e.T.hdC, T.UnknownRecord.e.T.noN, .ref ml, rfl, ml, _, 14, .ref e14, rfl, rfl, SqL.of (s712 _ _ hes7), eref l14, e14, _, d14, _, rfl, s712 _ _ x14, s712 _ _ y14, T.LimitExceeded.e.T.ga, T.LimitExceeded.e.T.gg, T.LimitExceeded.e.T.exC, T.LimitExceeded.e.T.hdC, T.LimitExceeded.e.T.noN, .int n, rfl, _, rfl, fun p0 r0 np0 nr0 nq0 => ⟨p0, _, r0, _, rfl, upd_same, (by rw [upd_ne nq0]; exact upd_same), T.ParseError.e.T.ga, T.ParseError.e.T.gg, T.ParseError.e.T.exC, T.ParseError.e.T.hdC, T.ParseError.e.T.noN, by show 5 ≤ sizeLine; decide, fun m2 k2 => ⟨m2, rfl, (same2 np0 nr0).trans (same_new k2), upd_same⟩⟩⟩
    rintro σ H13 ⟨cl, rfl, s13, hcl⟩
    refine ⟨fun σ H' => ∃ cl, σ = [some (.ref a), some (.ref b), some (.int n), some (.ref ml), some (.ref gl), y5, y6, some (.ref fl), some (.ref cl)] ∧ Same H13 H' ∧ H' cl = some (.lst (List.replicate 8 (.int n))), ?_, ?_⟩
    · refine ⟨.ref cl, rfl, .int n, rfl, _, rfl, fun p0 r0 np0 nr0 nq0 => ⟨p0, _, r0, _, rfl, upd_same, (by rw [upd_ne nq0]; exact upd_same), T.UnknownCheckpoint.e.T.ga, T.UnknownCheckpoint.e.T.gg, T.UnknownCheckpoint.e.T.exC, T.UnknownCheckpoint.e.T.hdC, T.UnknownCheckpoint.e.T.noN, .int n, rfl, _, rfl, fun p1 r1 np1 nr1 nq1 => ⟨p1, _, r1, _, rfl, upd_same, (by rw [upd_ne nq1]; exact upd_same), T.UnknownRecord.e.T.ga, T.UnknownRecord.e.T.gg, T.UnknownRecord.e.T.exC, T.UnknownRecord.e.T.hdC, T.UnknownRecord.e.T.noN, .int n, rfl, _, rfl, fun p2 r2 np2 nr2 nq2 => ⟨p2, _, r2, _, rfl, upd_same, (by rw [upd_ne nq2]; exact upd_same), T.LimitExceeded.e.T.ga, T.LimitExceeded.e.T.gg, T.LimitExceeded.e.T.exC, T.LimitExceeded.e.T.hdC, T.LimitExceeded.e.T.noN, by show 3 ≤ sizeLine; decide, fun l2 n2 => ⟨cl, l2, _, [.int n, .int n, .int n], rfl, rfl, ((((same2 np0 nr0).trans (same2 np1 nr1)).trans (same2 np2 nr2)).trans (same_new n2)) _ _ hcl, upd_same, by show 8 ≤ sizeLine; decide, fun m2 k2 => ⟨m2, rfl, ((((same2 np0 nr0).trans (same2 np1 nr1)).trans (same2 np2 nr2)).trans (same_new n2)).trans (same_new k2), (by rw [upd_same]; rfl)⟩⟩⟩⟩⟩⟩
    clear hcl
    rintro σ H14 ⟨cl, rfl, s14, hcl⟩
    have s012 := (s010.trans s11).trans s12
    have s214 := s13.trans s14
    refine ⟨.ref fl, rfl, .ref b, rfl, by show 1 ≤ sizeLine; decide, fun q1 w1 => ⟨q1, 4, [.ref b], rfl, rfl, upd_same, by decide, by decide, by show 4 ≤ sizeLine; decide, fun q2 w2 => ?_⟩⟩
    have z2 := (same_new w1).trans (same_new (o := .lst (List.replicate (4 : Int).toNat [V.ref b]).flatten) w2)
    have hq2 : (upd (upd H14 q1 (.lst [.ref b])) q2 (.lst (List.replicate (4 : Int).toNat [V.ref b]).flatten)) q2 = some (.lst (List.replicate 4 (.ref b))) := by
      rw [upd_same]
      rfl
    generalize upd (upd H14 q1 (.lst [.ref b])) q2 (.lst (List.replicate (4 : Int).toNat [V.ref b]).flatten) = H15 at *
    have hdB : Dp K H15 (.ref b) (.tuple (ks.map kD)) := .tup (SqT.of (z2 _ _ (s214 _ _ (s012 _ _ hb)))) (TDs.dp _ TDs.keys)
    refine ⟨.list (List.replicate 4 (.tuple (ks.map kD))), .list (List.replicate 4 (.tuple (ks.map kD))), .lst (xs := List.replicate 4 (.ref b)) (SqL.of (z2 _ _ (s214 _ _ hfl))) (dp_rep hdB 4), .lst (xs := List.replicate 4 (.ref b)) (SqL.of hq2) (dp_rep hdB 4), rep_shaped sb sb2 4, rep_shaped sb sb2 4, true, by rw [rep_eqv sb sb2], iteT ?_⟩
    refine ⟨.ref cl, rfl, .int n, rfl, by show 1 ≤ sizeLine; decide, fun q3 w3 => ⟨q3, 8, [.int n], rfl, rfl, upd_same, by decide, by decide, by show 8 ≤ sizeLine; decide, fun q4 w4 => ?_⟩⟩
    have z4 := (same_new w3).trans (same_new (o := .lst (List.replicate (8 : Int).toNat [V.int n]).flatten) w4)
    refine ⟨.list (List.replicate 8 (.int n)), .list (List.replicate 8 (.int n)), .lst (xs := List.replicate 8 (.int n)) (SqL.of (z4 _ _ (z2 _ _ hcl))) (dp_rep (.int n) 8), .lst (xs := List.replicate 8 (.int n)) (SqL.of (by rw [upd_same]; rfl)) (dp_rep (.int n) 8), rep_shaped rfl (Nat.zero_le _) 8, rep_shaped rfl (Nat.zero_le _) 8, ?_⟩
    rw [rep_eqv rfl (Nat.zero_le _)]
    exact q _ (((s012.trans s214).trans z2).trans z4)
end

/-! ### the streams' functions -/
section
variable {P : Program} {w : World} {K : PySem.W.Frag} {mg : Str → Option Value} {base : Heap}
theorem G_numbered (T : Tx K mg) : FnG P w K mg base CX0 1 T.numbered.f T.numbered.fd ["stream"] sp_numbered := ok_numbered T.numbered.F T.m_len T.m_tuple
theorem G_exchanged (T : Tx K mg) : FnG P w K mg base CX0 1 T.exchanged.f T.exchanged.fd ["stream", "one", "two"] sp_exchanged := ok_exchanged T.exchanged.F T.m_tuple
theorem G_is_numbered (T : Tx K mg) : FnG P w K mg base CX0 2 T.is_numbered.f T.is_numbered.fd ["stream"] sp_is_numbered := ok_is_numbered T.is_numbered.F T.numbered.F T.numbered.b T.numbered.g T.m_len T.m_tuple
theorem G_are_alike (T : Tx K mg) : FnG P w K mg base CX0 2 T.are_alike.f T.are_alike.fd ["one", "two"] sp_are_alike := ok_are_alike T.are_alike.F T.numbered.F T.numbered.b T.numbered.g T.m_len T.m_tuple
theorem G_is_message (T : Tx K mg) : FnG P w K mg base CX0 4 T.is_message.f T.is_message.fd ["message", "words"] sp_is_message := ok_is_message T.is_message.F T.is_between.F T.is_between.b T.is_message_value.F T.is_message_value.b T.is_message_value.g T.is_between.g (G_is_between T) T.m_isinstance T.m_tuple T.m_len
theorem G_is_stream (T : Tx K mg) : FnG P w K mg base CX0 5 T.is_stream.f T.is_stream.fd ["value", "words"] sp_is_stream := ok_is_stream T.is_stream.F T.is_message.F T.is_message.b T.is_message.g (G_is_message T) T.m_isinstance T.m_tuple
theorem G_require_stream (T : Tx K mg) : FnG P w K mg base (L2.CX P w) 6 T.require_stream.f T.require_stream.fd ["value", "words"] (sp_require_stream T.NotAStream.C) := ok_require_stream T.require_stream.F T.is_stream.F T.is_stream.b T.is_stream.g (G_is_stream T) T.NotAStream.e
end

/-! ### edits of watchers -/
theorem kV_injV {a b : Key} (e : kV a = kV b) : a = b := by
  cases a with
  | inl n =>
    cases b with
    | inl m => rw [V.int.inj e]
    | inr s => exact V.noConfusion e
  | inr s =>
    cases b with
    | inl m => exact V.noConfusion e
    | inr s2 => rw [V.str.inj e]
theorem do_add_state {C CV CL : Addr} {H : Hp} {Q : VK} {E : XK} {x lv lh d : Addr} {n : Int} {ks : List (Int × Int)} {R : Rows} {a b : Int} (hW : WAt C H x lv lh d n (ks.map (·.1)) (ks.map (·.2)) R) (l5 : ks.length ≤ 5) (a0 : 0 ≤ a) (a3 : a ≤ 3) (b0 : 0 ≤ b) (b3 : b ≤ 3)
    (q : ∀ H', (∀ c o, H c = some o → c ≠ lv → c ≠ lh → H' c = some o) → WAt C H' x lv lh d n ((ks ++ [(a, b)]).map (·.1)) ((ks ++ [(a, b)]).map (·.2)) R → Q (.int ks.length) H') : sp_add_state C CV CL [.ref x, .int a, .int b] H Q E := by
  refine ⟨x, lv, lh, d, n, _, _, R, x, .int a, .int b, .int a, .int b, rfl, hW, .int _, .int _, fun bad => ?_, fun _ bad => ?_, fun _ _ six => ?_, fun a' b' ea eb _ _ _ H' k1 hW' => ?_⟩
  · rw [btw_true a0 a3] at bad
    cases bad
  · rw [btw_true b0 b3] at bad
    cases bad
  · rw [List.length_map] at six
    omega
  · cases ea
    cases eb
    rw [List.length_map]
    exact q H' k1 (by rw [List.map_append, List.map_append]; exact hW')
theorem do_set_verdict {C CU CV : Addr} {H : Hp} {Q : VK} {E : XK} {x lv lh d : Addr} {n : Int} {ks : List (Int × Int)} {R : Rows} {s a : Int} (hW : WAt C H x lv lh d n (ks.map (·.1)) (ks.map (·.2)) R) (s0 : 0 ≤ s) (s1 : s < ks.length) (a0 : 0 ≤ a) (a3 : a ≤ 3)
    (q : ∀ H', (∀ c o, H c = some o → c ≠ lv → H' c = some o) → WAt C H' x lv lh d n ((ks.set s.toNat (a, heldAt ks s)).map (·.1)) ((ks.set s.toNat (a, heldAt ks s)).map (·.2)) R → Q .non H') : sp_set_verdict C CU CV [.ref x, .int s, .int a] H Q E := by
  have l1 : (ks.map (·.1)).length = ks.length := List.length_map _
  have e2 : (ks.set s.toNat (a, heldAt ks s)).map (·.2) = ks.map (·.2) := by
    rw [List.map_set]
    have : heldAt ks s = (ks.map (·.2))[s.toNat]'(by rw [List.length_map]; omega) := by
      unfold heldAt
      rw [List.getElem_map, List.getElem?_eq_getElem (by omega)]
      rfl
    show (ks.map (·.2)).set s.toNat (heldAt ks s) = _
    rw [this, List.set_getElem_self]
  refine ⟨x, lv, lh, d, n, _, _, R, x, .int s, .int a, .int s, .int a, rfl, hW, .int _, .int _, fun bad => ?_, fun _ bad => ?_, fun s' v es ev _ _ _ _ H' k1 hW' => ?_⟩
  · rw [l1, btw_true s0 (by omega)] at bad
    cases bad
  · rw [btw_true a0 a3] at bad
    cases bad
  · cases es
    cases ev
    refine q H' k1 ?_
    rw [e2, List.map_set]
    exact hW'
theorem do_remove_rule {C CX : Addr} {H : Hp} {Q : VK} {E : XK} {x lv lh d : Addr} {n : Int} {vs hs : List Int} {R : Rows} {s w : Int} {t : Key} (hW : WAt C H x lv lh d n vs hs R) (hk : [Sum.inl s, Sum.inl w, t] ∈ R.map (·.1))
    (q : ∀ H', (∀ c o, H c = some o → c ≠ d → H' c = some o) → WAt C H' x lv lh d n vs hs (dropR R [Sum.inl s, Sum.inl w, t]) → Q .non H') : sp_remove_rule C CX [.ref x, .int s, .int w, kV t] H Q E := by
  obtain ⟨i, j, t', e, ht⟩ := hW.rk _ hk
  have et : t = t' := by
    injection e with _ e
    injection e with _ e
    injection e
  subst et
  have mb : mayBe (.int s) (.int w) (kD t) = true := by
    rcases ht with ⟨r, rfl⟩ | rfl
    · rfl
    · rfl
  refine ⟨x, lv, lh, d, n, vs, hs, R, x, .int s, .int w, kV t, .int s, .int w, kD t, rfl, hW, .int _, .int _, ldK t, fun bad => ?_, fun s' w' t' es ew et _ => ⟨fun bad => ?_, fun _ H' k hW' => ?_⟩⟩
  · rw [mb] at bad
    cases bad
  · cases es
    cases ew
    rw [← kV_injV et] at bad
    exact absurd hk bad
  · cases es
    cases ew
    have := kV_injV et
    subst this
    exact q H' k hW'
theorem do_add_rule {C : Addr} {X : ErrA} {H : Hp} {Q : VK} {E : XK} {x lv lh d sa : Addr} {n : Int} {ks : List (Int × Int)} {R : Rows} {s w : Int} {t : Key} {v : Int × List Key} (hW : WAt C H x lv lh d n (ks.map (·.1)) (ks.map (·.2)) R) (hks : KindsOk ks) (hr : RuleOk n ks ([Sum.inl s, Sum.inl w, t], v)) (hk : [Sum.inl s, Sum.inl w, t] ∉ R.map (·.1)) (lt : R.length < 1000)
    (hsa : H sa = some (.tup (v.2.map kV))) (q : ∀ H', (∀ c o, H c = some o → c ≠ d → H' c = some o) → WAt C H' x lv lh d n (ks.map (·.1)) (ks.map (·.2)) (R ++ [([Sum.inl s, Sum.inl w, t], ruleD v)]) → Q .non H') : sp_add_rule C X [.ref x, .int s, .int w, kV t, .int v.1, .ref sa] H Q E := by
  obtain ⟨i, j, t', e, i0, i1, j0, j1, tok, g0, g1, sok⟩ := hr
  injection e with e1 e
  injection e with e2 e
  injection e with e3 _
  have e1' := Sum.inl.inj e1
  have e2' := Sum.inl.inj e2
  subst e1' e2' e3
  obtain ⟨tg, sk⟩ := v
  dsimp only at g0 g1 sok hsa
  obtain ⟨dx, hx⟩ := hW.ins
  have hb1 := held_bd hks i0 i1
  have hb2 := held_bd hks g0 g1
  have sl : sk.length ≤ 50 := by have := sok.len; omega
  have l1 : (ks.map (·.1)).length = ks.length := List.length_map _
  refine ⟨x, lv, lh, d, n, _, _, R, x, .int s, .int w, kV t, .int tg, .ref sa, .int s, .int w, kD t, .int tg, .tuple (sk.map kD), rfl, hW, .int _, .int _, ldK t, .int _, .tup (fun e => by rw [e, hx] at hsa; cases hsa) hsa (lds_keys sk), kD_nd t, fun _ => smallT_keys sl, lt, fun bad => ?_, fun _ bad => ?_, fun _ _ bad => ?_, fun s' tg' w' es eg ew _ _ _ _ _ _ => ⟨fun bad => ?_, fun t' ev ed _ => ⟨fun bad => ?_, fun ks' are => ⟨fun z => ?_, fun _ H' k7 hW' => ?_⟩⟩⟩⟩
  · rw [l1, btw_true i0 (by omega)] at bad
    cases bad
  · rw [l1, btw_true g0 (by omega)] at bad
    cases bad
  · rw [btw_true j0 (by omega)] at bad
    cases bad
  · cases es
    rw [hAt_held, testOk_is tok] at bad
    cases bad
  · cases es
    cases eg
    have := kD_inj ed
    subst this
    rw [hAt_held, hAt_held] at bad
    exact absurd ⟨sk, srcOk_are sok⟩ bad
  · cases es
    cases ew
    have := kD_inj ed
    subst this
    exact absurd z hk
  · cases es
    cases ew
    cases eg
    have := kD_inj ed
    subst this
    have e4 : ks' = sk := by
      have := PyData.tuple.inj are.d
      exact (map_kD_inj this).symm
    subst e4
    exact q H' k7 hW'

/-! ### the law -/
/-- a value that is shown as this data -/
inductive SA (H : Hp) : V → PyData → Prop
  | td {v : V} {d : PyData} : TD H v d → SA H v d
  | st {v : V} {s : Int × List Int} : StAt H v s → (stD s).hasDict = false → SA H v (stD s)
  | ht {a : Addr} {ns : List Int} : HT H a ns → (PyData.tuple (ns.map .int)).hasDict = false → SA H (.ref a) (.tuple (ns.map .int))
  | dct {a : Addr} {kvs : List (List Key × V)} {R : Rows} : H a = some (.dT kvs) → KvD H kvs R → SA H (.ref a) (.dict (rowsD R))
def goodD (d : PyData) : Bool := d.showable && decide (d.depth ≤ 60) && decide (d.shown.length ≤ 200000)
theorem goodD.to {d : PyData} (h : goodD d = true) : d.showable = true ∧ d.depth ≤ 60 ∧ d.shown.length ≤ sizeLine := by
  unfold goodD at h
  simp only [Bool.and_eq_true, decide_eq_true_eq] at h
  exact ⟨h.1.1, h.1.2, Nat.le_trans h.2 line5⟩
def rReprA : List V → Hp → VK → Prop := fun xs H Q => ∃ v d, xs = [v] ∧ SA H v d ∧ goodD d = true ∧ Q (.str d.shown) H
theorem call_reprA {X : Cx} (gd : X.A.guards = some []) (hu : X.A.units + 64 < cLine) : CallR X (.builtin "repr") rReprA := by
  rintro pins s σ H xs us Q I r ⟨v, d, e, h, g, q⟩
  obtain ⟨g1, g2, g3⟩ := goodD.to g
  cases h with
  | td h => exact call_reprL gd hu pins s σ H xs us Q I r ⟨s.heap.objs.size, v, d, e, TD.ld (fun xs z => by rw [I.hok.fresh (Nat.le_refl s.heap.objs.size)] at z; cases z) _ h, g1, g2, g3, q⟩
  | st h nd => exact call_reprD gd hu pins s σ H xs us Q I r ⟨v, _, e, h.dp, g1, nd, g2, g3, q⟩
  | ht h nd => exact call_reprD gd hu pins s σ H xs us Q I r ⟨_, _, e, .tup h.sq (dp_ints _ _ _), g1, nd, g2, g3, q⟩
  | dct h hk => exact call_reprT gd hu pins s σ H xs us Q I r ⟨_, _, _, e, h, hk, g1, g2, g3, q⟩
/-- all but lists stands -/
def NL (H H' : Hp) : Prop := ∀ a o, H a = some o → (∀ xs, o ≠ .lst xs) → H' a = some o
theorem NL.same {H H' : Hp} (s : Same H H') : NL H H' := fun a o h _ => s _ _ h
theorem NL.tups {H H' : Hp} (n : NL H H') : Tups H H' := fun a xs h => n _ _ h (fun _ z => nomatch z)
theorem NL.put {H : Hp} {a : Addr} {xs ys : List V} (h : H a = some (.lst xs)) : NL H (upd H a (.lst ys)) := fun b o e n => by
  rw [upd_ne (fun q => by rw [q, h] at e; exact n _ (Option.some.inj e).symm)]
  exact e
theorem NL.but {H H' : Hp} {a : Addr} {xs : List V} (h : H a = some (.lst xs)) (k : ∀ c o, H c = some o → c ≠ a → H' c = some o) : NL H H' := fun b o e n => k _ _ e fun q => by
  rw [q, h] at e
  exact n _ (Option.some.inj e).symm
theorem SA.nl {H H' : Hp} {v : V} {d : PyData} (h : SA H v d) (n : NL H H') : SA H' v d := by
  cases h with
  | td h => exact .td (TD.mono n.tups _ h)
  | st h nd =>
    obtain ⟨r, a, rfl, h1, ob, h2, h3⟩ := h
    exact .st ⟨r, a, rfl, n _ _ h1 (fun _ z => nomatch z), ob, n _ _ h2 (fun _ z => nomatch z), h3⟩ nd
  | ht h nd =>
    obtain ⟨ob, h2, h3⟩ := h
    exact .ht ⟨ob, n _ _ h2 (fun _ z => nomatch z), h3⟩ nd
  | dct h hk => exact .dct (n _ _ h (fun _ z => nomatch z)) (hk.mono n.tups)
section
variable {P : Program} {w : World} {K : PySem.W.Frag} {mg : Str → Option Value} {base : Heap}
def natsV (cs : List Nat) : List V := cs.map fun (k : Nat) => V.int (k : Int)
def cellOf (i : Int) : Nat := ((if i < 0 then -i else i) % 4).toNat
theorem cellOf_int (i : Int) : ((cellOf i : Nat) : Int) = (if i < 0 then -i else i) % 4 := by
  unfold cellOf
  split <;> omega
theorem cellOf_lt (i : Int) : cellOf i < 4 := by
  unfold cellOf
  split <;> omega
theorem cutV_four (xs : List V) : cutV xs none (some 4) = xs.take 4 := by
  unfold cutV
  show (xs.drop 0).take (HT.sIx xs.length xs.length (some 4) - 0) = _
  rw [List.drop_zero, Nat.sub_zero]
  have e : HT.sIx xs.length xs.length (some 4) = min 4 xs.length := by
    simp only [HT.sIx]
    rw [if_neg (by decide)]
    rfl
  rw [e, List.take_eq_take_iff]
  omega
def RowAt (H : Hp) (r : Addr) (c0 c1 : Nat) : Prop := ∃ p q z, H r = some (.tup [.ref p, .ref q, .ref z]) ∧ H p = some (.tup [.int 0, .int (c0 : Int)]) ∧ H q = some (.tup [.int 1, .int (c1 : Int)]) ∧ H z = some (.tup [.int 0, .int (c0 : Int)])
theorem RowAt.mono {H H' : Hp} {r : Addr} {c0 c1 : Nat} (s : Same H H') : RowAt H r c0 c1 → RowAt H' r c0 c1 := fun ⟨p, q, z, h1, h2, h3, h4⟩ => ⟨p, q, z, s _ _ h1, s _ _ h2, s _ _ h3, s _ _ h4⟩
def row3 (c0 c1 : Nat) : List (Int × Int) := [(0, (c0 : Int)), (1, (c1 : Int)), (0, (c0 : Int))]
theorem RowAt.td {H : Hp} {r : Addr} {c0 c1 : Nat} : RowAt H r c0 c1 → TD H (.ref r) (strmD (row3 c0 c1)) := fun ⟨p, q, z, h1, h2, h3, h4⟩ => .tup h1 (.cons (.tup h2 (.cons (.int _) (.cons (.int _) .nil))) (.cons (.tup h3 (.cons (.int _) (.cons (.int _) .nil))) (.cons (.tup h4 (.cons (.int _) (.cons (.int _) .nil))) .nil)))
/-- a tuple of two values of one data -/
def PairOk (H : Hp) (e : Addr) : Prop := ∃ x y d, H e = some (.tup [x, y]) ∧ goodD d = true ∧ TD H x d ∧ TD H y d
theorem RowAt.tups {H H' : Hp} {r : Addr} {c0 c1 : Nat} (t : Tups H H') : RowAt H r c0 c1 → RowAt H' r c0 c1 := fun ⟨p, q, z, h1, h2, h3, h4⟩ => ⟨p, q, z, t _ _ h1, t _ _ h2, t _ _ h3, t _ _ h4⟩
theorem PairOk.tups {H H' : Hp} {e : Addr} (t : Tups H H') : PairOk H e → PairOk H' e := fun ⟨x, y, d, h, g, a, b⟩ => ⟨x, y, d, t _ _ h, g, TD.mono t _ a, TD.mono t _ b⟩
/-- what stays through the law: the cells, the row, the pairs -/
def PP (H : Hp) (cl pl r : Addr) (cv : List V) (c0 c1 n : Nat) : Prop := cl ≠ pl ∧ H cl = some (.lst cv) ∧ RowAt H r c0 c1 ∧ ∃ es : List Addr, H pl = some (.lst (es.map V.ref)) ∧ es.length = n ∧ ∀ e ∈ es, PairOk H e
theorem PP.app {H : Hp} {cl pl r e : Addr} {cv : List V} {c0 c1 n : Nat} {es : List Addr} (hc : cl ≠ pl) (h1 : H cl = some (.lst cv)) (h2 : RowAt H r c0 c1) (h3 : H pl = some (.lst (es.map V.ref))) (h4 : es.length = n) (h5 : ∀ e ∈ es, PairOk H e) (h6 : PairOk H e) : PP (upd H pl (.lst (es.map V.ref ++ [.ref e]))) cl pl r cv c0 c1 (n + 1) := by
  have t : Tups H (upd H pl (.lst (es.map V.ref ++ [.ref e]))) := fun a xs z => by
    rw [upd_ne (fun q => by rw [q, h3] at z; cases z)]
    exact z
  refine ⟨hc, by rw [upd_ne hc]; exact h1, h2.tups t, es ++ [e], by rw [upd_same, List.map_append]; rfl, by rw [List.length_append, h4]; rfl, fun x hx => ?_⟩
  rcases List.mem_append.mp hx with h | h
  · exact (h5 x h).tups t
  · rw [List.mem_singleton.mp h]
    exact h6.tups t
theorem all4 {p : Nat → Bool} (h : (List.range 4).all p = true) {c : Nat} (hc : c < 4) : p c = true := List.all_eq_true.mp h c (List.mem_range.mpr hc)
theorem PP.but {H H' : Hp} {cl pl r : Addr} {cv : List V} {c0 c1 n : Nat} (h : PP H cl pl r cv c0 c1 n) (t : Tups H H') (h1 : ∀ o, H cl = some o → H' cl = some o) (h2 : ∀ o, H pl = some o → H' pl = some o) : PP H' cl pl r cv c0 c1 n := by
  obtain ⟨a, b, c, es, d, e, f⟩ := h
  exact ⟨a, h1 _ b, c.tups t, es, h2 _ d, e, fun x hx => (f x hx).tups t⟩
theorem PP.mono {H H' : Hp} {cl pl r : Addr} {cv : List V} {c0 c1 n : Nat} (h : PP H cl pl r cv c0 c1 n) (s : Same H H') : PP H' cl pl r cv c0 c1 n := h.but (Tups.same s) (fun o z => s _ _ z) (fun o z => s _ _ z)
theorem PP.put {H : Hp} {cl pl r e : Addr} {cv : List V} {c0 c1 n : Nat} (h : PP H cl pl r cv c0 c1 n) (he : PairOk H e) : ∃ es : List Addr, H pl = some (.lst (es.map V.ref)) ∧ es.length = n ∧ PP (upd H pl (.lst (es.map V.ref ++ [.ref e]))) cl pl r cv c0 c1 (n + 1) := by
  obtain ⟨a, b, c, es, d, f, g⟩ := h
  exact ⟨es, d, f, PP.app a b c d f g he⟩
/-- the pairs and the watcher -/
structure TA (C : Addr) (H : Hp) (cl pl r x lv lh d : Addr) (cv : List V) (c0 c1 m : Nat) (vs hs : List Int) (R : Rows) : Prop where
  pp : PP H cl pl r cv c0 c1 m
  w : WAt C H x lv lh d 2 vs hs R
  ne : cl ≠ lv ∧ pl ≠ lv ∧ cl ≠ lh ∧ pl ≠ lh
theorem TA.mono {C : Addr} {H H' : Hp} {cl pl r x lv lh d : Addr} {cv : List V} {c0 c1 m : Nat} {vs hs : List Int} {R : Rows} (h : TA C H cl pl r x lv lh d cv c0 c1 m vs hs R) (s : Same H H') : TA C H' cl pl r x lv lh d cv c0 c1 m vs hs R := ⟨h.pp.mono s, h.w.mono s, h.ne⟩
theorem TA.put {C : Addr} {H : Hp} {cl pl r x lv lh d e : Addr} {cv : List V} {c0 c1 m : Nat} {vs hs : List Int} {R : Rows} (h : TA C H cl pl r x lv lh d cv c0 c1 m vs hs R) (he : PairOk H e) : ∃ es : List Addr, H pl = some (.lst (es.map V.ref)) ∧ es.length = m ∧ TA C (upd H pl (.lst (es.map V.ref ++ [.ref e]))) cl pl r x lv lh d cv c0 c1 (m + 1) vs hs R := by
  obtain ⟨es, h1, h2, h3⟩ := h.pp.put he
  exact ⟨es, h1, h2, h3, h.w.putL h1 h.ne.2.1.symm h.ne.2.2.2.symm, h.ne⟩
/-- an edit of the watcher: all but its own stands -/
theorem TA.edit {C : Addr} {H H' : Hp} {cl pl r x lv lh d : Addr} {cv : List V} {c0 c1 m : Nat} {vs hs vs' hs' : List Int} {R R' : Rows} (h : TA C H cl pl r x lv lh d cv c0 c1 m vs hs R) (k : ∀ c o, H c = some o → c ≠ lv → c ≠ lh → c ≠ d → H' c = some o) (h' : WAt C H' x lv lh d 2 vs' hs' R') : TA C H' cl pl r x lv lh d cv c0 c1 m vs' hs' R' := by
  obtain ⟨kvs, hd, _⟩ := h.w.rul
  obtain ⟨_, hcl, _, es, hpl, _⟩ := id h.pp
  refine ⟨h.pp.but (fun a xs z => k _ _ z ?_ ?_ ?_) (fun o z => k _ _ z h.ne.1 h.ne.2.2.1 ?_) (fun o z => k _ _ z h.ne.2.1 h.ne.2.2.2 ?_), h', h.ne⟩
  · rintro rfl
    rw [h.w.ver] at z
    cases z
  · rintro rfl
    rw [h.w.hel] at z
    cases z
  · rintro rfl
    rw [hd] at z
    cases z
  · rintro rfl
    rw [hcl] at hd
    cases hd
  · rintro rfl
    rw [hpl] at hd
    cases hd
def rA : PRule := ([.inl 0, .inl 0, .inr "new"], (1, [.inr "value"]))
def rB : PRule := ([.inl 1, .inl 1, .inl 0], (1, [.inl 0]))
/-- the watcher's states -/
def kk (c2 : Nat) : List (Int × Int) := [(1, 0), ((c2 : Int), 1)]
theorem kk_ok {c2 : Nat} (h : c2 < 4) : KindsOk (kk c2) := by
  refine ⟨by show 1 ≤ 2 ∧ 2 ≤ 6; decide, rfl, fun k hk => ?_⟩
  simp only [kk, List.mem_cons, List.not_mem_nil, or_false] at hk
  rcases hk with rfl | rfl
  · decide
  · exact ⟨by show (0 : Int) ≤ c2; omega, by show (c2 : Int) ≤ 3; omega, by show (0 : Int) ≤ 1; decide, by show (1 : Int) ≤ 3; decide⟩
theorem rA_ok {c2 : Nat} : RuleOk 2 (kk c2) ([Sum.inl 0, Sum.inl 0, Sum.inr "new"], (1, [Sum.inr "value"])) := by
  refine ⟨0, 0, .inr "new", rfl, by decide, by show (0 : Int) < 2; decide, by decide, by decide, .inr rfl, by decide, by show (1 : Int) < 2; decide, ⟨rfl, by decide, fun k hk => ?_⟩⟩
  rw [List.mem_singleton.mp hk]
  exact .inr ⟨rfl, rfl⟩
theorem rB_ok {c2 : Nat} : RuleOk 2 (kk c2) ([Sum.inl 1, Sum.inl 1, Sum.inl 0], (1, [Sum.inl 0])) := by
  refine ⟨1, 1, .inl 0, rfl, by decide, by show (1 : Int) < 2; decide, by decide, by decide, .inl ⟨0, rfl, by decide, by show (0 : Int) < 1; decide⟩, by decide, by show (1 : Int) < 2; decide, ⟨rfl, by decide, fun k hk => ?_⟩⟩
  rw [List.mem_singleton.mp hk]
  exact .inl ⟨0, rfl, by decide, by show (0 : Int) < 1; decide⟩
def PairOk2 (H : Hp) (e : Addr) : Prop := ∃ x y d, H e = some (.tup [x, y]) ∧ goodD d = true ∧ SA H x d ∧ SA H y d
theorem PairOk.to2 {H : Hp} {e : Addr} : PairOk H e → PairOk2 H e := fun ⟨x, y, d, h, g, a, b⟩ => ⟨x, y, d, h, g, .td a, .td b⟩
theorem PairOk2.nl {H H' : Hp} {e : Addr} (n : NL H H') : PairOk2 H e → PairOk2 H' e := fun ⟨x, y, d, h, g, a, b⟩ => ⟨x, y, d, n _ _ h (fun _ z => nomatch z), g, a.nl n, b.nl n⟩
def PP2 (H : Hp) (cl pl r : Addr) (cv : List V) (c0 c1 n : Nat) : Prop := cl ≠ pl ∧ H cl = some (.lst cv) ∧ RowAt H r c0 c1 ∧ ∃ es : List Addr, H pl = some (.lst (es.map V.ref)) ∧ es.length = n ∧ ∀ e ∈ es, PairOk2 H e
theorem PP2.but {H H' : Hp} {cl pl r : Addr} {cv : List V} {c0 c1 n : Nat} (h : PP2 H cl pl r cv c0 c1 n) (t : NL H H') (h1 : ∀ o, H cl = some o → H' cl = some o) (h2 : ∀ o, H pl = some o → H' pl = some o) : PP2 H' cl pl r cv c0 c1 n := by
  obtain ⟨a, b, c, es, d, e, f⟩ := h
  exact ⟨a, h1 _ b, c.tups t.tups, es, h2 _ d, e, fun x hx => (f x hx).nl t⟩
theorem PP2.mono {H H' : Hp} {cl pl r : Addr} {cv : List V} {c0 c1 n : Nat} (h : PP2 H cl pl r cv c0 c1 n) (s : Same H H') : PP2 H' cl pl r cv c0 c1 n := h.but (NL.same s) (fun o z => s _ _ z) (fun o z => s _ _ z)
theorem PP2.put {H : Hp} {cl pl r e : Addr} {cv : List V} {c0 c1 n : Nat} (h : PP2 H cl pl r cv c0 c1 n) (he : PairOk2 H e) : ∃ es : List Addr, H pl = some (.lst (es.map V.ref)) ∧ es.length = n ∧ PP2 (upd H pl (.lst (es.map V.ref ++ [.ref e]))) cl pl r cv c0 c1 (n + 1) := by
  obtain ⟨hc, h1, h2, es, h3, h4, h5⟩ := h
  have t : NL H (upd H pl (.lst (es.map V.ref ++ [.ref e]))) := NL.put h3
  refine ⟨es, h3, h4, hc, by rw [upd_ne hc]; exact h1, h2.tups t.tups, es ++ [e], by rw [upd_same, List.map_append]; rfl, by rw [List.length_append, h4]; rfl, fun x hx => ?_⟩
  rcases List.mem_append.mp hx with h | h
  · exact (h5 x h).nl t
  · rw [List.mem_singleton.mp h]
    exact he.nl t
theorem PP.to2 {H : Hp} {cl pl r : Addr} {cv : List V} {c0 c1 n : Nat} : PP H cl pl r cv c0 c1 n → PP2 H cl pl r cv c0 c1 n := fun ⟨a, b, c, es, d, e, f⟩ => ⟨a, b, c, es, d, e, fun x hx => (f x hx).to2⟩
/-- the pairs and the watcher, made -/
structure TB (C : Addr) (H : Hp) (cl pl r x lv lh d : Addr) (cv : List V) (c0 c1 m : Nat) (P : Plan) : Prop where
  pp : PP2 H cl pl r cv c0 c1 m
  w : WP C H x lv lh d P
  ne : cl ≠ lv ∧ pl ≠ lv ∧ cl ≠ lh ∧ pl ≠ lh
theorem TB.mono {C : Addr} {H H' : Hp} {cl pl r x lv lh d : Addr} {cv : List V} {c0 c1 m : Nat} {P : Plan} (h : TB C H cl pl r x lv lh d cv c0 c1 m P) (s : Same H H') : TB C H' cl pl r x lv lh d cv c0 c1 m P := ⟨h.pp.mono s, h.w.mono s, h.ne⟩
theorem TB.put {C : Addr} {H : Hp} {cl pl r x lv lh d e : Addr} {cv : List V} {c0 c1 m : Nat} {P : Plan} (h : TB C H cl pl r x lv lh d cv c0 c1 m P) (he : PairOk2 H e) : ∃ es : List Addr, H pl = some (.lst (es.map V.ref)) ∧ es.length = m ∧ TB C (upd H pl (.lst (es.map V.ref ++ [.ref e]))) cl pl r x lv lh d cv c0 c1 (m + 1) P := by
  obtain ⟨es, h1, h2, h3⟩ := h.pp.put he
  exact ⟨es, h1, h2, h3, ⟨h.w.w.putL h1 h.ne.2.1.symm h.ne.2.2.2.symm, h.w.ok⟩, h.ne⟩
/-- a list beside it changes -/
theorem TB.but {C : Addr} {H H' : Hp} {cl pl r x lv lh d tr : Addr} {cv : List V} {c0 c1 m : Nat} {P : Plan} {ys : List V} (h : TB C H cl pl r x lv lh d cv c0 c1 m P) (ht : H tr = some (.lst ys)) (k : ∀ c o, H c = some o → c ≠ tr → H' c = some o) (n1 : cl ≠ tr) (n2 : pl ≠ tr) (n3 : lv ≠ tr) (n4 : lh ≠ tr) : TB C H' cl pl r x lv lh d cv c0 c1 m P := by
  obtain ⟨⟨dx, hx⟩, hv, hh, ⟨kvs, hd, hk⟩, j1, j2, j3, j4⟩ := h.w.w
  have n := NL.but ht k
  exact ⟨h.pp.but n (fun o z => k _ _ z n1) (fun o z => k _ _ z n2), ⟨⟨⟨dx, n _ _ hx (fun _ z => nomatch z)⟩, k _ _ hv n3, k _ _ hh n4, ⟨kvs, n _ _ hd (fun _ z => nomatch z), hk.mono n.tups⟩, j1, j2, j3, j4⟩, h.w.ok⟩, h.ne⟩
/-- the law's watcher -/
def plA (c2 : Nat) : Plan := ⟨2, kk c2, [rA]⟩
theorem plA_ok {c2 : Nat} (h : c2 < 4) : PlanOk (plA c2) := ⟨by show (1 : Int) ≤ 2 ∧ (2 : Int) ≤ 3; decide, kk_ok h, fun r hr => by rw [List.mem_singleton.mp hr]; exact rA_ok, List.nodup_cons.mpr ⟨(fun z => by cases z), List.nodup_nil⟩, by show 1 ≤ 100; decide⟩
theorem sortR_A : sortR (rowsOf [rA]) = rowsOf [rA] := by
  unfold sortR srt
  show (List.mergeSort [rA.1] _).map _ = _
  rw [List.mergeSort_singleton]
  rfl
theorem sortP_A : sortP [rA] = [rA] := by
  unfold sortP srt
  show (List.mergeSort [rA.1] _).map _ = _
  rw [List.mergeSort_singleton]
  rfl
theorem RowAt.strm {K : PySem.W.Frag} {H : Hp} {r : Addr} {c0 c1 : Nat} (h : RowAt H r c0 c1) : StrmAt K H r (row3 c0 c1) := by
  obtain ⟨p, q, z, h1, h2, h3, h4⟩ := h
  exact ⟨_, SqT.of h1, .cons (.tup h2 (.cons (.int _) (.cons (.int _) .nil))) (.cons (.tup h3 (.cons (.int _) (.cons (.int _) .nil))) (.cons (.tup h4 (.cons (.int _) (.cons (.int _) .nil))) .nil))⟩
theorem run_row {c0 c1 : Nat} (h0 : c0 < 4) (h1 : c1 < 4) : runM [rA] (0, []) (row3 c0 c1) = (1, [(c0 : Int)]) := of_decide_eq_true (all4 (p := fun d => decide (runM [rA] (0, []) (row3 c0 d) = (1, [(c0 : Int)]))) (all4 (p := fun c => (List.range 4).all fun d => decide (runM [rA] (0, []) (row3 c d) = (1, [(c : Int)]))) (by decide +kernel) h0) h1)
/-- a list beside it changes -/
theorem WAt.butL {C : Addr} {H H' : Hp} {x lv lh d tr : Addr} {n : Int} {vs hs : List Int} {R : Rows} {ys : List V} (h : WAt C H x lv lh d n vs hs R) (ht : H tr = some (.lst ys)) (k : ∀ c o, H c = some o → c ≠ tr → H' c = some o) (n3 : lv ≠ tr) (n4 : lh ≠ tr) : WAt C H' x lv lh d n vs hs R := by
  obtain ⟨⟨dx, hx⟩, hv, hh, ⟨kvs, hd, hk⟩, j1, j2, j3, j4⟩ := h
  have n := NL.but ht k
  exact ⟨⟨dx, n _ _ hx (fun _ z => nomatch z)⟩, k _ _ hv n3, k _ _ hh n4, ⟨kvs, n _ _ hd (fun _ z => nomatch z), hk.mono n.tups⟩, j1, j2, j3, j4⟩
theorem FolAt.butL {C CF : Addr} {H H' : Hp} {f x lv lh d tr pl : Addr} {P : Plan} {ms : List (Int × Int)} {ys : List V} (h : FolAt C CF H f x lv lh d tr P ms) (ht : H pl = some (.lst ys)) (k : ∀ c o, H c = some o → c ≠ pl → H' c = some o) (n1 : lv ≠ pl) (n2 : lh ≠ pl) (n3 : tr ≠ pl) : FolAt C CF H' f x lv lh d tr P ms := by
  obtain ⟨⟨df, a⟩, n, b, ⟨vs, c1, c2, c3⟩, l⟩ := h
  have nl := NL.but ht k
  refine ⟨⟨df, nl _ _ a (fun _ z => nomatch z)⟩, n, ⟨b.w.butL ht k n1 n2, b.ok⟩, ⟨vs, k _ _ c1 n3, c2, fun i v e => ?_⟩, l⟩
  obtain ⟨r, a2, rfl, h1, ob, h2, h3⟩ := c3 i v e
  exact ⟨r, a2, rfl, nl _ _ h1 (fun _ z => nomatch z), ob, nl _ _ h2 (fun _ z => nomatch z), h3⟩
/-- the pairs, the watcher and its follower -/
structure TFo (C CF : Addr) (H : Hp) (cl pl r x lv lh d f x' lv' lh' d' tr : Addr) (cv : List V) (c0 c1 m : Nat) (P : Plan) (ms : List (Int × Int)) : Prop where
  b : TB C H cl pl r x lv lh d cv c0 c1 m P
  f : FolAt C CF H f x' lv' lh' d' tr P ms
  ne : cl ≠ tr ∧ pl ≠ tr ∧ lv ≠ tr ∧ lh ≠ tr ∧ pl ≠ lv' ∧ pl ≠ lh'
theorem TFo.mono {C CF : Addr} {H H' : Hp} {cl pl r x lv lh d f x' lv' lh' d' tr : Addr} {cv : List V} {c0 c1 m : Nat} {P : Plan} {ms : List (Int × Int)} (h : TFo C CF H cl pl r x lv lh d f x' lv' lh' d' tr cv c0 c1 m P ms) (s : Same H H') : TFo C CF H' cl pl r x lv lh d f x' lv' lh' d' tr cv c0 c1 m P ms := ⟨h.b.mono s, h.f.mono s, h.ne⟩
theorem TFo.put {C CF : Addr} {H : Hp} {cl pl r x lv lh d f x' lv' lh' d' tr e : Addr} {cv : List V} {c0 c1 m : Nat} {P : Plan} {ms : List (Int × Int)} (h : TFo C CF H cl pl r x lv lh d f x' lv' lh' d' tr cv c0 c1 m P ms) (he : PairOk2 H e) : ∃ es : List Addr, H pl = some (.lst (es.map V.ref)) ∧ es.length = m ∧ TFo C CF (upd H pl (.lst (es.map V.ref ++ [.ref e]))) cl pl r x lv lh d f x' lv' lh' d' tr cv c0 c1 (m + 1) P ms := by
  obtain ⟨es, h1, h2, h3⟩ := h.b.put he
  exact ⟨es, h1, h2, h3, h.f.butL h1 (fun c o z n => by rw [upd_ne n]; exact z) h.ne.2.2.2.2.1.symm h.ne.2.2.2.2.2.symm h.ne.2.1.symm, h.ne⟩
theorem TFo.go {C CF : Addr} {H H' : Hp} {cl pl r x lv lh d f x' lv' lh' d' tr : Addr} {cv : List V} {c0 c1 m : Nat} {P : Plan} {ms ms' : List (Int × Int)} (h : TFo C CF H cl pl r x lv lh d f x' lv' lh' d' tr cv c0 c1 m P ms) (k : ∀ c o, H c = some o → c ≠ tr → H' c = some o) (hf : FolAt C CF H' f x' lv' lh' d' tr P ms') : TFo C CF H' cl pl r x lv lh d f x' lv' lh' d' tr cv c0 c1 m P ms' := by
  obtain ⟨vs, ht, _⟩ := h.f.tr
  exact ⟨h.b.but ht k h.ne.1 h.ne.2.1 h.ne.2.2.1 h.ne.2.2.2.1, hf, h.ne⟩
def pgA (c2 : Nat) : Str := pageOf (linesOf 2 (kk c2) [rA])
theorem pgA_len {c2 : Nat} (h : c2 < 4) : (pgA c2).length ≤ 100000 := of_decide_eq_true (all4 (p := fun c => decide ((pgA c).length ≤ 100000)) (by decide +kernel) h)
theorem pgA_good {c2 : Nat} (h : c2 < 4) : goodD (.str (pgA c2)) = true := all4 (p := fun c => goodD (.str (pgA c))) (by decide +kernel) h
def sp_law (K : PySem.W.Frag) : Sp := fun vs H Q _ => ∃ (a : Addr) (ns : List Int), vs = [.ref a] ∧ SqL K H a (ns.map V.int) ∧ ns.length ≤ 63 ∧ ∀ H', Q (.bl true) H'
abbrev N_law : List Str := ["script", "cells", "cell", "row", "pairs", "tool", "reader", "page", "found", "due"]
theorem sc_law : FnScope N_law ["script"] (defScope s_law) := ⟨rfl, rfl, rfl, by decide +kernel, rfl, by decide +kernel, by decide +kernel⟩
theorem ok_law (T : Tx K mg) (hw : T.pr = w.params) {f : Addr} {fd : FuncData} (F : Fun K "law" "law" s_law f fd) : FnG P w K mg base CX0 11 f fd ["script"] (sp_law K) := by
  refine okG F sc_law (fun vs H Q E h => ?_) (fun cdv A outer s H vs Q E gd hr h => ?_)
  · obtain ⟨a, ns, rfl, _⟩ := h
    rfl
  · obtain ⟨a, ns, rfl, hS, hl, q⟩ := h
    have L5 := line5
    refine ⟨_, 
      (C8.pss_cut (ps_set (i := 1) sc_law.nd rfl (.inl rfl) (pe_op op_cat (pe_lc (own := [("cell", 2)]) (g := gName 2) rfl sc_law.nd (pi_list (pe_slice sl_list (pv 0) po_none (po_some pe_int))) (blkOk_by (N := N_law) (sc := defScope s_law) (by decide +kernel)) (fun _ _ _ _ _ => (pg_name (i := 2) sc_law.nd rfl (.inl rfl))) (fun _ _ _ _ _ => pts_nil) (fun _ _ _ _ _ => (pe_op op_mod (pe_callB call_abs (by rfl) T.m_abs (by decide +kernel) (pa_cons (pv 2) pa_nil)) pe_int))) (pe_op op_rep (pe_lstS (pa_cons pe_int pa_nil)) pe_int))) -- cells = [abs(cell) % 4 for cell in script[:4]] + [0] * 4
      (pss_cons (ps_if (pt_not (pt_val (pe_callG (G_law_errors_right T) gd (hr.mono (by decide)) rfl T.law_errors_right.g T.law_errors_right.F.kp T.law_errors_right.b .nil pass0 (pa_cons (pe_tup (pa_cons (pe_ix ix_list (pv 1) pe_int (fun _ _ => rfl)) (pa_cons pe_str pa_nil))) (pa_cons (pe_tup (pa_cons (pe_ix ix_list (pv 1) pe_int (fun _ _ => rfl)) (pa_cons (pe_ix ix_list (pv 1) pe_int (fun _ _ => rfl)) (pa_cons pe_str pa_nil)))) (pa_cons (pe_op op_add pe_int (pe_ix ix_list (pv 1) pe_int (fun _ _ => rfl))) pa_nil)))))) 
        (pss_one (ps_ret pe_bl)) -- return False
         pss_nil) -- if not _law_errors_right((cells[0], 'x'), (cells[0], cells[1], 'new'), 5 + cells[2]):
      (C8.pss_cut (ps_set (i := 3) sc_law.nd rfl (.inl rfl) (pe_tup (pa_cons (pe_tup (pa_cons pe_int (pa_cons (pe_ix ix_list (pv 1) pe_int (fun _ _ => rfl)) pa_nil))) (pa_cons (pe_tup (pa_cons pe_int (pa_cons (pe_ix ix_list (pv 1) pe_int (fun _ _ => rfl)) pa_nil))) (pa_cons (pe_tup (pa_cons pe_int (pa_cons (pe_ix ix_list (pv 1) pe_int (fun _ _ => rfl)) pa_nil))) pa_nil))))) -- row = ((0, cells[0]), (1, cells[1]), (0, cells[0]))
      (C8.pss_cut (ps_set (i := 4) sc_law.nd rfl (.inl rfl) (pe_lst (pa_cons (pe_tup (pa_cons (pe_callGK (G_require_stream T) gd (hr.mono (by decide)) rfl T.require_stream.g T.require_stream.F.kp (Fun.kb T.require_stream.F ["value", "words"] ["words", "value"] 0 [1, 0] (fun _ _ _ _ _ _ us ws h1 h2 => match us, ws, h1, h2 with | [], [_, _], _, _ => rfl)) passNo (pk_cons pe_int (pk_cons (pv 3) pk_nil))) (pa_cons (pv 3) pa_nil))) (pa_cons (pe_tup (pa_cons (pe_callGK (G_numbered T) gd (hr.mono (by decide)) rfl T.numbered.g T.numbered.F.kp (Fun.kb T.numbered.F ["stream"] ["stream"] 0 [0] (fun _ _ _ _ _ _ us ws h1 h2 => match us, ws, h1, h2 with | [], [_], _, _ => rfl)) pass0 (pk_cons (pv 3) pk_nil)) (pa_cons (pe_callG (G_numbered T) gd (hr.mono (by decide)) rfl T.numbered.g T.numbered.F.kp T.numbered.b .nil pass0 (pa_cons (pv 3) pa_nil)) pa_nil))) pa_nil)))) -- pairs = [(require_stream(words=2, value=row), row), (numbered(stream=row), numbered(row))]
      (C8.pss_cut (ps_expr (pe_bm PySem.F.plainAttrs_list PySem.F.slot_list_append PySem.F.type_list_append mt_append (pv 4) (pa_cons (pe_tup (pa_cons (pe_callGK (G_is_numbered T) gd (hr.mono (by decide)) rfl T.is_numbered.g T.is_numbered.F.kp (Fun.kb T.is_numbered.F ["stream"] ["stream"] 0 [0] (fun _ _ _ _ _ _ us ws h1 h2 => match us, ws, h1, h2 with | [], [_], _, _ => rfl)) pass0 (pk_cons (pv 3) pk_nil)) (pa_cons (pe_callG (G_is_numbered T) gd (hr.mono (by decide)) rfl T.is_numbered.g T.is_numbered.F.kp T.is_numbered.b .nil pass0 (pa_cons (pv 3) pa_nil)) pa_nil))) pa_nil))) -- pairs.append((is_numbered(stream=row), is_numbered(row)))
      (C8.pss_cut (ps_expr (pe_bm PySem.F.plainAttrs_list PySem.F.slot_list_append PySem.F.type_list_append mt_append (pv 4) (pa_cons (pe_tup (pa_cons (pe_callGK (G_are_alike T) gd (hr.mono (by decide)) rfl T.are_alike.g T.are_alike.F.kp (Fun.kb T.are_alike.F ["one", "two"] ["two", "one"] 0 [1, 0] (fun _ _ _ _ _ _ us ws h1 h2 => match us, ws, h1, h2 with | [], [_, _], _, _ => rfl)) pass0 (pk_cons (pe_slice sl_tup (pv 3) po_none (po_some pe_int)) (pk_cons (pv 3) pk_nil))) (pa_cons pe_bl pa_nil))) pa_nil))) -- pairs.append((are_alike(two=row[:2], one=row), False))
      (C8.pss_cut (ps_expr (pe_bm PySem.F.plainAttrs_list PySem.F.slot_list_append PySem.F.type_list_append mt_append (pv 4) (pa_cons (pe_tup (pa_cons (pe_ix ix_tup (pe_callGK (G_exchanged T) gd (hr.mono (by decide)) rfl T.exchanged.g T.exchanged.F.kp (Fun.kb T.exchanged.F ["stream", "one", "two"] ["two", "one", "stream"] 0 [2, 1, 0] (fun _ _ _ _ _ _ us ws h1 h2 => match us, ws, h1, h2 with | [], [_, _, _], _, _ => rfl)) pass0 (pk_cons (pe_op op_pow pe_int pe_int) (pk_cons (pe_ix ix_list (pv 1) pe_int (fun _ _ => rfl)) (pk_cons (pv 3) pk_nil)))) pe_int (fun _ _ => rfl)) (pa_cons (pe_tup (pa_cons pe_int (pa_cons (pe_op op_pow pe_int pe_int) pa_nil))) pa_nil))) pa_nil))) -- pairs.append((exchanged(two=10 ** 9, one=cells[0], stream=row)[0], (0, 10 ** 9)))
      (C8.pss_cut (ps_set (i := 5) sc_law.nd rfl (.inl rfl) (pe_makeGK T.mk_Watcher (G_Watcher_init T) gd (hr.mono (by decide)) rfl T.Watcher.g (Fun.kb T.Watcher_init.F ["self", "words"] ["words"] 1 [0] (fun _ _ _ _ _ _ us ws h1 h2 => match us, ws, h1, h2 with | [_], [_], _, _ => rfl)) passNo (pk_cons pe_int pk_nil))) -- tool = Watcher(words=2)
      (C8.pss_cut (ps_expr (pe_bm PySem.F.plainAttrs_list PySem.F.slot_list_append PySem.F.type_list_append mt_append (pv 4) (pa_cons (pe_tup (pa_cons (pe_methGK (pv 5) T.Watcher.cl T.Watcher_add_state.M (G_Watcher_add_state T) gd (hr.mono (by decide)) (Fun.kb T.Watcher_add_state.F ["self", "verdict", "held"] ["held", "verdict"] 1 [1, 0] (fun _ _ _ _ _ _ us ws h1 h2 => match us, ws, h1, h2 with | [_], [_, _], _, _ => rfl)) passNo (pk_cons pe_int (pk_cons (pe_ix ix_list (pv 1) pe_int (fun _ _ => rfl)) pk_nil))) (pa_cons pe_int pa_nil))) pa_nil))) -- pairs.append((tool.add_state(held=1, verdict=cells[2]), 1))
      (C8.pss_cut (ps_expr (pe_bm PySem.F.plainAttrs_list PySem.F.slot_list_append PySem.F.type_list_append mt_append (pv 4) (pa_cons (pe_tup (pa_cons (pe_methGK (pv 5) T.Watcher.cl T.Watcher_set_verdict.M (G_Watcher_set_verdict T) gd (hr.mono (by decide)) (Fun.kb T.Watcher_set_verdict.F ["self", "state", "verdict"] ["verdict", "state"] 1 [1, 0] (fun _ _ _ _ _ _ us ws h1 h2 => match us, ws, h1, h2 with | [_], [_, _], _, _ => rfl)) passNo (pk_cons pe_int (pk_cons pe_int pk_nil))) (pa_cons pe_non pa_nil))) pa_nil))) -- pairs.append((tool.set_verdict(verdict=1, state=0), None))
      (C8.pss_cut (ps_expr (pe_methGK (pv 5) T.Watcher.cl T.Watcher_add_rule.M (G_Watcher_add_rule T) gd (hr.mono (by decide)) (Fun.kb T.Watcher_add_rule.F ["self", "state", "word", "test", "target", "sources"] ["sources", "target", "test", "word", "state"] 1 [4, 3, 2, 1, 0] (fun _ _ _ _ _ _ us ws h1 h2 => match us, ws, h1, h2 with | [_], [_, _, _, _, _], _, _ => rfl)) passNo (pk_cons (pe_tup (pa_cons pe_str pa_nil)) (pk_cons pe_int (pk_cons pe_str (pk_cons pe_int (pk_cons pe_int pk_nil))))))) -- tool.add_rule(sources=('value',), target=1, test='new', word=0, state=0)
      (C8.pss_cut (ps_expr (pe_methGK (pv 5) T.Watcher.cl T.Watcher_add_rule.M (G_Watcher_add_rule T) gd (hr.mono (by decide)) (Fun.kb T.Watcher_add_rule.F ["self", "state", "word", "test", "target", "sources"] ["word", "state", "sources", "test", "target"] 1 [1, 0, 3, 4, 2] (fun _ _ _ _ _ _ us ws h1 h2 => match us, ws, h1, h2 with | [_], [_, _, _, _, _], _, _ => rfl)) passNo (pk_cons pe_int (pk_cons pe_int (pk_cons (pe_tup (pa_cons pe_int pa_nil)) (pk_cons pe_int (pk_cons pe_int pk_nil))))))) -- tool.add_rule(word=1, state=1, sources=(0,), test=0, target=1)
      (C8.pss_cut (ps_expr (pe_methGK (pv 5) T.Watcher.cl T.Watcher_remove_rule.M (G_Watcher_remove_rule T) gd (hr.mono (by decide)) (Fun.kb T.Watcher_remove_rule.F ["self", "state", "word", "test"] ["test", "word", "state"] 1 [2, 1, 0] (fun _ _ _ _ _ _ us ws h1 h2 => match us, ws, h1, h2 with | [_], [_, _, _], _, _ => rfl)) passNo (pk_cons pe_int (pk_cons pe_int (pk_cons pe_int pk_nil))))) -- tool.remove_rule(test=0, word=1, state=1)
      (C8.pss_cut (ps_expr (pe_bm PySem.F.plainAttrs_list PySem.F.slot_list_append PySem.F.type_list_append mt_append (pv 4) (pa_cons (pe_tup (pa_cons (pe_meth0G (pv 5) T.Watcher.cl T.Watcher_rules.M (G_Watcher_rules T) gd (hr.mono (by decide)) T.Watcher_rules.b .nil pass0) (pa_cons (pe_dispT (Nat.lt_of_le_of_lt (Nat.add_le_add_left (by decide) _) hr.units) (pe_tup (pa_cons pe_int (pa_cons pe_int (pa_cons pe_str pa_nil)))) (pe_tup (pa_cons pe_int (pa_cons (pe_tup (pa_cons pe_str pa_nil)) pa_nil)))) pa_nil))) pa_nil))) -- pairs.append((tool.rules(), {(0, 0, 'new'): (1, ('value',))}))
      (C8.pss_cut (ps_expr (pe_bm PySem.F.plainAttrs_list PySem.F.slot_list_append PySem.F.type_list_append mt_append (pv 4) (pa_cons (pe_tup (pa_cons (pe_callGK (G_run T) gd (hr.mono (by decide)) rfl T.run.g T.run.F.kp (Fun.kb T.run.F ["watcher", "stream"] ["stream", "watcher"] 0 [1, 0] (fun _ _ _ _ _ _ us ws h1 h2 => match us, ws, h1, h2 with | [], [_, _], _, _ => rfl)) pass0 (pk_cons (pv 3) (pk_cons (pv 5) pk_nil))) (pa_cons (pe_tup (pa_cons pe_int (pa_cons (pe_tup (pa_cons (pe_ix ix_list (pv 1) pe_int (fun _ _ => rfl)) pa_nil)) pa_nil))) pa_nil))) pa_nil))) -- pairs.append((run(stream=row, watcher=tool), (1, (cells[0],))))
      (C8.pss_cut (ps_expr (pe_bm PySem.F.plainAttrs_list PySem.F.slot_list_append PySem.F.type_list_append mt_append (pv 4) (pa_cons (pe_tup (pa_cons (pe_callGK (G_verdict_of T) gd (hr.mono (by decide)) rfl T.verdict_of.g T.verdict_of.F.kp (Fun.kb T.verdict_of.F ["watcher", "stream"] ["stream", "watcher"] 0 [1, 0] (fun _ _ _ _ _ _ us ws h1 h2 => match us, ws, h1, h2 with | [], [_, _], _, _ => rfl)) pass0 (pk_cons (pv 3) (pk_cons (pv 5) pk_nil))) (pa_cons (pe_ix ix_list (pv 1) pe_int (fun _ _ => rfl)) pa_nil))) pa_nil))) -- pairs.append((verdict_of(stream=row, watcher=tool), cells[2]))
      (C8.pss_cut (ps_set (i := 6) sc_law.nd rfl (.inl rfl) (pe_makeGK T.mk_Follower (G_Follower_init T) gd (hr.mono (by decide)) rfl T.Follower.g (Fun.kb T.Follower_init.F ["self", "watcher"] ["watcher"] 1 [0] (fun _ _ _ _ _ _ us ws h1 h2 => match us, ws, h1, h2 with | [_], [_], _, _ => rfl)) pass0 (pk_cons (pv 5) pk_nil))) -- reader = Follower(watcher=tool)
      (C8.pss_cut (ps_expr (pe_methGK (pv 6) T.Follower.cl T.Follower_read.M (G_Follower_read T) gd (hr.mono (by decide)) (Fun.kb T.Follower_read.F ["self", "word", "value"] ["value", "word"] 1 [1, 0] (fun _ _ _ _ _ _ us ws h1 h2 => match us, ws, h1, h2 with | [_], [_, _], _, _ => rfl)) passNo (pk_cons pe_int (pk_cons pe_int pk_nil)))) -- reader.read(value=5, word=0)
      (C8.pss_cut (ps_expr (pe_bm PySem.F.plainAttrs_list PySem.F.slot_list_append PySem.F.type_list_append mt_append (pv 4) (pa_cons (pe_tup (pa_cons (pe_meth0G (pv 6) T.Follower.cl T.Follower_held_values.M (G_Follower_held_values T) gd (hr.mono (by decide)) T.Follower_held_values.b .nil pass0) (pa_cons (pe_tup (pa_cons pe_int pa_nil)) pa_nil))) pa_nil))) -- pairs.append((reader.held_values(), (5,)))
      (C8.pss_cut (ps_expr (pe_methGK (pv 6) T.Follower.cl T.Follower_rewind.M (G_Follower_rewind T) gd (hr.mono (by decide)) (Fun.kb T.Follower_rewind.F ["self", "many"] ["many"] 1 [0] (fun _ _ _ _ _ _ us ws h1 h2 => match us, ws, h1, h2 with | [_], [_], _, _ => rfl)) passNo (pk_cons pe_int pk_nil))) -- reader.rewind(many=1)
      (C8.pss_cut (ps_expr (pe_bm PySem.F.plainAttrs_list PySem.F.slot_list_append PySem.F.type_list_append mt_append (pv 4) (pa_cons (pe_tup (pa_cons (pe_meth0G (pv 6) T.Follower.cl T.Follower_current_state.M (G_Follower_current_state T) gd (hr.mono (by decide)) T.Follower_current_state.b .nil pass0) (pa_cons pe_int pa_nil))) pa_nil))) -- pairs.append((reader.current_state(), 0))
      (C8.pss_cut (ps_set (i := 7) sc_law.nd rfl (.inl rfl) (pe_callGK (G_format_watcher T) gd (hr.mono (by decide)) rfl T.format_watcher.g T.format_watcher.F.kp (Fun.kb T.format_watcher.F ["watcher"] ["watcher"] 0 [0] (fun _ _ _ _ _ _ us ws h1 h2 => match us, ws, h1, h2 with | [], [_], _, _ => rfl)) pass0 (pk_cons (pv 5) pk_nil))) -- page = format_watcher(watcher=tool)
      (C8.pss_cut (ps_expr (pe_bm PySem.F.plainAttrs_list PySem.F.slot_list_append PySem.F.type_list_append mt_append (pv 4) (pa_cons (pe_tup (pa_cons (pe_callG (G_format_watcher T) gd (hr.mono (by decide)) rfl T.format_watcher.g T.format_watcher.F.kp T.format_watcher.b .nil pass0 (pa_cons (pe_callGK (G_parse_watcher T hw) gd (hr.mono (by decide)) rfl T.parse_watcher.g T.parse_watcher.F.kp (Fun.kb T.parse_watcher.F ["text"] ["text"] 0 [0] (fun _ _ _ _ _ _ us ws h1 h2 => match us, ws, h1, h2 with | [], [_], _, _ => rfl)) passNo (pk_cons (pv 7) pk_nil)) pa_nil)) (pa_cons (pv 7) pa_nil))) pa_nil))) -- pairs.append((format_watcher(parse_watcher(text=page)), page))
      (C8.pss_cut (ps_expr (pe_bm PySem.F.plainAttrs_list PySem.F.slot_list_append PySem.F.type_list_append mt_append (pv 4) (pa_cons (pe_tup (pa_cons (pe_callGK (G_parse_stream T hw) gd (hr.mono (by decide)) rfl T.parse_stream.g T.parse_stream.F.kp (Fun.kb T.parse_stream.F ["text", "words"] ["words", "text"] 0 [1, 0] (fun _ _ _ _ _ _ us ws h1 h2 => match us, ws, h1, h2 with | [], [_, _], _, _ => rfl)) passNo (pk_cons pe_int (pk_cons (pe_callGK (G_format_stream T) gd (hr.mono (by decide)) rfl T.format_stream.g T.format_stream.F.kp (Fun.kb T.format_stream.F ["stream"] ["stream"] 0 [0] (fun _ _ _ _ _ _ us ws h1 h2 => match us, ws, h1, h2 with | [], [_], _, _ => rfl)) pass0 (pk_cons (pv 3) pk_nil)) pk_nil))) (pa_cons (pv 3) pa_nil))) pa_nil))) -- pairs.append((parse_stream(words=2, text=format_stream(stream=row)), row))
      (pss_one (ps_ret (pe_cmpR (op_eqL0 hr.units) (pe_lc (own := [("found", 8), ("due", 9)]) (g := gTup K 2 (gCons (gName 8) (gCons (gName 9) gNil))) rfl sc_law.nd (pi_list (pv 4)) (blkOk_by (N := N_law) (sc := defScope s_law) (by decide +kernel)) (fun _ _ _ _ _ => (pg_tup rfl (pgs_cons (pg_name (i := 8) sc_law.nd rfl (.inl rfl)) (pgs_cons (pg_name (i := 9) sc_law.nd rfl (.inl rfl)) pgs_nil)))) (fun _ _ _ _ _ => (pts_one (pt_cmpR op_ne (pe_callB (call_reprA gd hr.units) (by rfl) T.m_repr (by decide +kernel) (pa_cons (pv 8) pa_nil)) (pe_callB (call_reprA gd hr.units) (by rfl) T.m_repr (by decide +kernel) (pa_cons (pv 9) pa_nil)) (nomark _)))) (fun _ _ _ _ _ => pe_int)) (pe_lst pa_nil) (nomark _)))) -- return [1 for found, due in pairs if repr(found) != repr(due)] == []
      )))))))))))))))))))))))) , ?_⟩
    refine ⟨fun σ H' => ∃ cl cs, σ = [some (.ref a), some (.ref cl), none, none, none, none, none, none, none, none] ∧ H' cl = some (.lst (natsV cs)) ∧ 4 ≤ cs.length ∧ ∀ c ∈ cs, c < 4, ?_, ?_⟩
    · clear q
      obtain ⟨fs, l4, ht4⟩ : ∃ fs : List Int, fs.length ≤ 4 ∧ cutV (ns.map V.int) none (some 4) = fs.map V.int := ⟨ns.take 4, List.length_take_le _ _, by rw [cutV_four, List.map_take]⟩
      refine ⟨.ref a, rfl, 4, rfl, a, _, rfl, hS, fun b nb => ⟨b, rfl, ⟨_, SqL.of upd_same⟩, fun D nD => ?_⟩⟩
      rw [ht4] at nD ⊢
      have ned : b ≠ D := fun e => by rw [e, upd_same] at nD; cases nD
      refine lc_list (xs := fs.map V.int) (fun i H' => H' b = some (.lst (fs.map V.int)) ∧ H' D = some (.lst (natsV ((fs.take i).map cellOf)))) ?_ ?_ ?_ ?_
      · exact ⟨by rw [upd_ne ned, upd_same], upd_same⟩
      · exact fun i H' _ h => SqL.of h.1
      · rintro i x H' hx ⟨hb, hD⟩
        rw [List.getElem?_map] at hx
        obtain ⟨v, hv, rfl⟩ := Option.map_eq_some_iff.mp hx
        refine ⟨rfl, .int v, rfl, v, rfl, _, _, rfl, rfl, (show (0 : Int) < 4 by decide), _, hD, ?_, by rw [upd_ne ned, hb], ?_⟩
        · rw [natsV, List.length_map, List.length_map, List.length_take]
          omega
        · rw [upd_same, List.take_add_one, hv]
          simp only [natsV, List.map_append, List.map_cons, List.map_nil, Option.toList_some, cellOf_int]
      · rintro H2 ⟨hb, hD⟩
        rw [List.length_map, List.take_length] at hD
        refine ⟨by show 1 ≤ sizeLine; decide, fun q1 m1 b1 => ⟨q1, 4, [.int 0], rfl, rfl, upd_same, by decide, by decide, by show 4 ≤ sizeLine; decide, fun q2 m2 => ⟨D, q2, _, _, rfl, rfl, same_new m2 _ _ (same_new m1 _ _ hD), upd_same, ?_, fun m k => ⟨m, fs.map cellOf ++ [0, 0, 0, 0], rfl, ?_, ?_, ?_⟩⟩⟩⟩
        · show _ + 4 ≤ sizeLine
          rw [natsV, List.length_map, List.length_map]
          omega
        · rw [upd_same]
          simp only [natsV, List.map_append]
          rfl
        · rw [List.length_append]
          exact Nat.le_add_left _ _
        · intro c hc
          rcases List.mem_append.mp hc with h | h
          · obtain ⟨z, _, rfl⟩ := List.mem_map.mp h
            exact cellOf_lt z
          · simp only [List.mem_cons, List.not_mem_nil, or_false, or_self] at h
            omega
    rintro σ H1 ⟨cl, cs, rfl, hcl, lcs, c4⟩
    obtain ⟨c0, c1, c2, c3, cr, rfl⟩ : ∃ c0 c1 c2 c3 cr, cs = c0 :: c1 :: c2 :: c3 :: cr := by
      match cs, lcs with
      | c0 :: c1 :: c2 :: c3 :: cr, _ => exact ⟨_, _, _, _, _, rfl⟩
    have l0 : c0 < 4 := c4 _ (by simp)
    have l1 : c1 < 4 := c4 _ (by simp)
    have l2 : c2 < 4 := c4 _ (by simp)
    clear lcs c4
    have at0 : atI (natsV (c0 :: c1 :: c2 :: c3 :: cr)) 0 = some (.int (c0 : Int)) := atI_nat (j := 0) rfl
    have at1 : atI (natsV (c0 :: c1 :: c2 :: c3 :: cr)) 1 = some (.int (c1 : Int)) := atI_nat (j := 1) rfl
    have at2 : atI (natsV (c0 :: c1 :: c2 :: c3 :: cr)) 2 = some (.int (c2 : Int)) := atI_nat (j := 2) rfl
    generalize natsV (c0 :: c1 :: c2 :: c3 :: cr) = cv at hcl at0 at1 at2
    refine ⟨.ref cl, rfl, cl, cv, 0, .int (c0 : Int), rfl, rfl, SqL.of hcl, at0, by show 2 ≤ sizeLine; decide, fun x1 n1 => ?_⟩
    have k1 := same_new (o := .tup [.int (c0 : Int), .str (Str.ofString "x")]) n1
    refine ⟨.ref cl, rfl, cl, cv, 0, .int (c0 : Int), rfl, rfl, SqL.of (k1 _ _ hcl), at0, .ref cl, rfl, cl, cv, 1, .int (c1 : Int), rfl, rfl, SqL.of (k1 _ _ hcl), at1, by show 3 ≤ sizeLine; decide, fun x2 n2 => ?_⟩
    have k2 := same_new (o := .tup [.int (c0 : Int), .int (c1 : Int), .str (Str.ofString "new")]) n2
    refine ⟨.ref cl, rfl, cl, cv, 2, .int (c2 : Int), rfl, rfl, SqL.of (k2 _ _ (k1 _ _ hcl)), at2, 5, (c2 : Int), rfl, rfl, ?_⟩
    refine ⟨x1, x2, _, [.int (c0 : Int), .str (Str.ofString "x")], [.inl (c0 : Int), .inl (c1 : Int), .inr (Str.ofString "new")], 5 + (c2 : Int), rfl, k2 _ _ upd_same, .cons (.int _) (.cons (.str _) .nil), ?_, ?_, upd_same, ?_, ?_, fun H2 s2 => ⟨_, rfl, ?_⟩⟩
    · exact all4 (p := fun c => (PyData.tuple [.int (c : Int), .str (Str.ofString "x")]).canLay0) (by decide +kernel) l0
    · exact of_decide_eq_true (all4 (p := fun c => decide ((PyData.tuple [.int (c : Int), .str (Str.ofString "x")]).depth ≤ 10)) (by decide +kernel) l0)
    · exact all4 (all4 (p := fun c => (List.range 4).all fun d => (PyData.tuple [.int (c : Int), .int (d : Int), .str (Str.ofString "new")]).canLay0) (by decide +kernel) l0) l1
    · exact of_decide_eq_true (all4 (p := fun d => decide ((PyData.tuple [.int (c0 : Int), .int (d : Int), .str (Str.ofString "new")]).depth ≤ 10)) (all4 (p := fun c => (List.range 4).all fun d => decide ((PyData.tuple [.int (c : Int), .int (d : Int), .str (Str.ofString "new")]).depth ≤ 10)) (by decide +kernel) l0) l1)
    refine iteF ?_
    have hcl2 := s2 _ _ (k2 _ _ (k1 _ _ hcl))
    clear n1 k1 n2 k2 s2 hcl
    refine ⟨fun σ H' => ∃ r, σ = [some (.ref a), some (.ref cl), none, some (.ref r), none, none, none, none, none, none] ∧ H' cl = some (.lst cv) ∧ RowAt H' r c0 c1, ?_, ?_⟩
    · clear q
      refine ⟨.ref cl, rfl, cl, cv, 0, .int (c0 : Int), rfl, rfl, SqL.of hcl2, at0, by show 2 ≤ sizeLine; decide, fun p np => ?_⟩
      have kp := same_new (o := .tup [.int 0, .int (c0 : Int)]) np
      refine ⟨.ref cl, rfl, cl, cv, 1, .int (c1 : Int), rfl, rfl, SqL.of (kp _ _ hcl2), at1, by show 2 ≤ sizeLine; decide, fun r1 nr1 => ?_⟩
      have kr1 := same_new (o := .tup [.int 1, .int (c1 : Int)]) nr1
      refine ⟨.ref cl, rfl, cl, cv, 0, .int (c0 : Int), rfl, rfl, SqL.of (kr1 _ _ (kp _ _ hcl2)), at0, by show 2 ≤ sizeLine; decide, fun r2 nr2 => ?_⟩
      have kr2 := same_new (o := .tup [.int 0, .int (c0 : Int)]) nr2
      refine ⟨by show 3 ≤ sizeLine; decide, fun r nr => ?_⟩
      have kr := same_new (o := .tup [.ref p, .ref r1, .ref r2]) nr
      exact ⟨r, rfl, kr _ _ (kr2 _ _ (kr1 _ _ (kp _ _ hcl2))), p, r1, r2, upd_same, kr _ _ (kr2 _ _ (kr1 _ _ upd_same)), kr _ _ (kr2 _ _ upd_same), kr _ _ upd_same⟩
    clear hcl2
    rintro σ H3 ⟨r, rfl, hcl, hr0⟩
    have hT : TD H3 (.ref r) (strmD (row3 c0 c1)) := hr0.td
    refine ⟨fun σ H' => ∃ pl : Addr, σ = [some (.ref a), some (.ref cl), none, some (.ref r), some (.ref pl), none, none, none, none, none] ∧ PP H' cl pl r cv c0 c1 2, ?_, ?_⟩
    · clear q
      have hrow : isStrm (strmD (row3 c0 c1)) 2 = true := all4 (all4 (p := fun c => (List.range 4).all fun d => isStrm (strmD (row3 c d)) 2) (by decide +kernel) l0) l1
      refine ⟨.ref r, rfl, rfl, cl, .ref r, strmD (row3 c0 c1), 2, rfl, TD.ld (fun xs z => by rw [hcl] at z; cases z) _ hT, fun _ => ?_, fun z => by rw [hrow] at z; cases z⟩
      refine ⟨.ref r, rfl, by show 2 ≤ sizeLine; decide, fun e1 n1 => ?_⟩
      have k1 := same_new (o := .tup [.ref r, .ref r]) n1
      refine ⟨.ref r, rfl, rfl, .ref r, row3 c0 c1, rfl, TD.mono (Tups.same k1) _ hT, by show 3 ≤ 5000; decide, fun t1 H4 s4 ht1 => ?_⟩
      have k4 := k1.trans s4
      refine ⟨.ref r, rfl, .ref r, row3 c0 c1, rfl, TD.mono (Tups.same k4) _ hT, by show 3 ≤ 5000; decide, fun t2 H5 s5 ht2 => ?_⟩
      have k5 := k4.trans s5
      refine ⟨by show 2 ≤ sizeLine; decide, fun e2 n2 => ?_⟩
      have k6 := same_new (o := .tup [.ref t1, .ref t2]) n2
      refine ⟨by show 2 ≤ sizeLine; decide, fun pl npl => ?_⟩
      have k7 := same_new (o := .lst [.ref e1, .ref e2]) npl
      have s67 := k6.trans k7
      refine ⟨pl, rfl, fun q => ?_, s67 _ _ (k5 _ _ hcl), (hr0.mono k5).mono s67, [e1, e2], upd_same, rfl, ?_⟩
      · have := k6 _ _ (k5 _ _ hcl)
        rw [q, npl] at this
        cases this
      intro e he
      simp only [List.mem_cons, List.not_mem_nil, or_false] at he
      rcases he with rfl | rfl
      · refine ⟨.ref r, .ref r, strmD (row3 c0 c1), s67 _ _ (s5 _ _ (s4 _ _ upd_same)), ?_, TD.mono (Tups.same (k5.trans s67)) _ hT, TD.mono (Tups.same (k5.trans s67)) _ hT⟩
        · exact all4 (all4 (p := fun c => (List.range 4).all fun d => goodD (strmD (row3 c d))) (by decide +kernel) l0) l1
      · refine ⟨.ref t1, .ref t2, strmD (numb (row3 c0 c1)), k7 _ _ upd_same, ?_, TD.mono (Tups.same (s5.trans s67)) _ ht1, TD.mono (Tups.same s67) _ ht2⟩
        · exact all4 (all4 (p := fun c => (List.range 4).all fun d => goodD (strmD (numb (row3 c d)))) (by decide +kernel) l0) l1
    clear hT hr0 hcl
    rintro σ H4 ⟨pl, rfl, hc, hcl, hr0, es, hpl, les, hes⟩
    refine ⟨fun σ H' => ∃ pl : Addr, σ = [some (.ref a), some (.ref cl), none, some (.ref r), some (.ref pl), none, none, none, none, none] ∧ PP H' cl pl r cv c0 c1 3, ?_, ?_⟩
    · clear q
      refine ⟨.ref pl, rfl, .inl ⟨rfl, _, SqL.of hpl⟩, .ref r, rfl, rfl, .ref r, row3 c0 c1, rfl, hr0.td, by show 3 ≤ 5000; decide, fun H5 s5 => ?_⟩
      refine ⟨.ref r, rfl, .ref r, row3 c0 c1, rfl, (hr0.mono s5).td, by show 3 ≤ 5000; decide, fun H6 s6 => ?_⟩
      refine ⟨by show 2 ≤ sizeLine; decide, fun e ne => ?_⟩
      have s7 := (s5.trans s6).trans (same_new (o := .tup [.bl (decide (row3 c0 c1 = numb (row3 c0 c1))), .bl (decide (row3 c0 c1 = numb (row3 c0 c1)))]) ne)
      refine ⟨pl, es.map V.ref, .ref e, rfl, rfl, s7 _ _ hpl, by rw [List.length_map]; omega, pl, rfl, PP.app hc (s7 _ _ hcl) (hr0.mono s7) (s7 _ _ hpl) les (fun x hx => (hes x hx).tups (Tups.same s7)) ⟨_, _, .bool _, upd_same, ?_, .bl _, .bl _⟩⟩
      generalize decide (row3 c0 c1 = numb (row3 c0 c1)) = z
      cases z <;> decide +kernel
    clear hcl hr0 hpl hes
    rintro σ H4 ⟨pl, rfl, hc, hcl, hr0, es, hpl, les, hes⟩
    refine ⟨fun σ H' => ∃ pl : Addr, σ = [some (.ref a), some (.ref cl), none, some (.ref r), some (.ref pl), none, none, none, none, none] ∧ PP H' cl pl r cv c0 c1 4, ?_, ?_⟩
    · clear q
      obtain ⟨u1, u2, u3, hr, hu1, hu2, hu3⟩ := id hr0
      refine ⟨.ref pl, rfl, .inl ⟨rfl, _, SqL.of hpl⟩, .ref r, rfl, 2, rfl, r, _, rfl, SqT.of hr, (show ¬(HT.sIx 3 0 none = 0 ∧ HT.sIx 3 3 (some 2) = 3) by decide), fun m nm => ?_⟩
      have s5 := same_new (o := .tup [.ref u1, .ref u2]) nm
      have hal : decide (numb (row3 c0 c1) = numb ((row3 c0 c1).take 2)) = false := of_decide_eq_true (all4 (p := fun d => decide (decide (numb (row3 c0 d) = numb ((row3 c0 d).take 2)) = false)) (all4 (p := fun c => (List.range 4).all fun d => decide (decide (numb (row3 c d) = numb ((row3 c d).take 2)) = false)) (by decide +kernel) l0) l1)
      refine ⟨.ref r, rfl, rfl, .ref r, .ref m, row3 c0 c1, (row3 c0 c1).take 2, rfl, (hr0.mono s5).td, .tup upd_same (.cons (.tup (s5 _ _ hu1) (.cons (.int _) (.cons (.int _) .nil))) (.cons (.tup (s5 _ _ hu2) (.cons (.int _) (.cons (.int _) .nil))) .nil)), by show 3 ≤ 5000; decide, by show 2 ≤ 5000; decide, fun H5 s6 => ?_⟩
      rw [hal]
      refine ⟨by show 2 ≤ sizeLine; decide, fun e ne => ?_⟩
      have s7 := (s5.trans s6).trans (same_new (o := .tup [.bl false, .bl false]) ne)
      exact ⟨pl, es.map V.ref, .ref e, rfl, rfl, s7 _ _ hpl, by rw [List.length_map]; omega, pl, rfl, PP.app hc (s7 _ _ hcl) (hr0.mono s7) (s7 _ _ hpl) les (fun x hx => (hes x hx).tups (Tups.same s7)) ⟨_, _, .bool false, upd_same, by decide +kernel, .bl _, .bl _⟩⟩
    clear hcl hr0 hpl hes
    rintro σ H4 ⟨pl, rfl, hP⟩
    refine ⟨fun σ H' => σ = [some (.ref a), some (.ref cl), none, some (.ref r), some (.ref pl), none, none, none, none, none] ∧ PP H' cl pl r cv c0 c1 5, ?_, ?_⟩
    · clear q
      obtain ⟨hc, hcl, hr0, es, hpl, les, hes⟩ := id hP
      refine ⟨.ref pl, rfl, .inl ⟨rfl, _, SqL.of hpl⟩, 10, 9, rfl, rfl, ⟨by decide, by decide, by decide⟩, .ref cl, rfl, cl, cv, 0, .int (c0 : Int), rfl, rfl, SqL.of hcl, at0, .ref r, rfl, rfl, r, row3 c0 c1, (c0 : Int), 10 ^ 9, rfl, hr0.td, by show 3 ≤ 1000; decide, fun t1 H5 s5 ht => ?_⟩
      obtain ⟨tb, xs, eb, htb, hxs⟩ := ht.isTup
      obtain rfl := V.ref.inj eb
      have eN : exch (c0 : Int) (10 ^ 9) (row3 c0 c1) = (0, 10 ^ 9) :: exch (c0 : Int) (10 ^ 9) [(1, (c1 : Int)), (0, (c0 : Int))] := by
        show (0, if (c0 : Int) = 10 ^ 9 then (c0 : Int) else if (c0 : Int) = c0 then 10 ^ 9 else (c0 : Int)) :: _ = _
        rw [if_neg (by omega), if_pos rfl]
        rfl
      rw [eN] at hxs
      cases hxs with
      | @cons v0 d0 vs0 ds0 hm0 hrest =>
        refine ⟨t1, _, 0, v0, rfl, rfl, SqT.of htb, atI_nat (j := 0) rfl, 10, 9, rfl, rfl, ⟨by decide, by decide, by decide⟩, by show 2 ≤ sizeLine; decide, fun m1 nm1 => ?_⟩
        have s6 := s5.trans (same_new (o := .tup [.int 0, .int ((10 : Int) ^ (9 : Int).toNat)]) nm1)
        refine ⟨by show 2 ≤ sizeLine; decide, fun e ne => ?_⟩
        have k7 := same_new (o := .tup [v0, .ref m1]) ne
        have s7 := s6.trans k7
        obtain ⟨es, e1, e2, e3⟩ := (hP.mono s7).put (e := e) ⟨_, _, .tuple [.int 0, .int (10 ^ 9)], upd_same, by decide +kernel, TD.mono (Tups.same ((same_new nm1).trans k7)) _ hm0, .tup (k7 _ _ upd_same) (.cons (.int _) (.cons (.int _) .nil))⟩
        exact ⟨pl, es.map V.ref, .ref e, rfl, rfl, e1, by rw [List.length_map]; omega, rfl, e3⟩
    clear hP
    rintro σ H4 ⟨rfl, hP⟩
    refine ⟨fun σ H' => ∃ x lv lh d, σ = [some (.ref a), some (.ref cl), none, some (.ref r), some (.ref pl), some (.ref x), none, none, none, none] ∧ TA T.Watcher.C H' cl pl r x lv lh d cv c0 c1 5 [0] [0] [], ?_, ?_⟩
    · clear q
      refine ⟨rfl, fun x dx hx hdx ndx => ⟨x, x, dx, .int 2, .int 2, rfl, upd_same, .int _, fun n en n1 n3 H' lv lh dd bt hlv hlh hdd hW => ⟨rfl, ?_⟩, fun z => by cases z⟩⟩
      obtain rfl := PyData.int.inj en
      have k1 : Same H4 (upd (upd H4 dx (.own x)) x (.ins T.Watcher.C dx [])) := (same_new hdx).trans (same_new (by rw [upd_ne ndx.symm]; exact hx))
      have kb : ∀ c o, H4 c = some o → H' c = some o := fun c o z => bt _ _ (k1 _ _ z) (fun e => by rw [e, hx] at z; cases z)
      have nn : ∀ {c o y}, H4 c = some o → (upd (upd H4 dx (.own x)) x (.ins T.Watcher.C dx [])) y = none → c ≠ y := fun z1 z2 e => by
        rw [← e, k1 _ _ z1] at z2
        cases z2
      obtain ⟨_, hcl, _, es, hpl, _⟩ := id hP
      exact ⟨x, lv, lh, dd, rfl, hP.mono kb, hW, nn hcl hlv, nn hpl hlv, nn hcl hlh, nn hpl hlh⟩
    clear hP
    rintro σ H4 ⟨x, lv, lh, d, rfl, hA⟩
    have c3v : btw (.int (c2 : Int)) 0 3 = true := btw_true (by omega) (by omega)
    refine ⟨fun σ H' => σ = [some (.ref a), some (.ref cl), none, some (.ref r), some (.ref pl), some (.ref x), none, none, none, none] ∧ TA T.Watcher.C H' cl pl r x lv lh d cv c0 c1 6 [0, (c2 : Int)] [0, 1] [], ?_, ?_⟩
    · clear q
      obtain ⟨_, hcl, _, es, hpl, _⟩ := id hA.pp
      obtain ⟨dx, hx⟩ := hA.w.ins
      refine ⟨.ref pl, rfl, .inl ⟨rfl, _, SqL.of hpl⟩, .ref x, rfl, x, dx, _, rfl, hx, rfl, .ref cl, rfl, cl, cv, 2, .int (c2 : Int), rfl, rfl, SqL.of hcl, at2, rfl, ?_⟩
      refine ⟨x, lv, lh, d, 2, [0], [0], [], x, .int (c2 : Int), .int 1, .int (c2 : Int), .int 1, rfl, hA.w, .int _, .int _, fun z => (by rw [c3v] at z; cases z), fun _ z => (by cases z), fun _ _ z => (by cases z), fun va vb ea eb _ _ _ H5 k5 hW => ?_⟩
      obtain rfl := PyData.int.inj ea
      obtain rfl := PyData.int.inj eb
      refine ⟨by show 2 ≤ sizeLine; decide, fun e ne => ?_⟩
      obtain ⟨es, e1, e2, e3⟩ := ((hA.edit (fun c o z n1 n2 _ => k5 c o z n1 n2) hW).mono (same_new ne)).put (e := e) ⟨_, _, .int 1, upd_same, by decide +kernel, .int _, .int _⟩
      exact ⟨pl, es.map V.ref, .ref e, rfl, rfl, e1, by rw [List.length_map]; omega, rfl, e3⟩
    clear hA
    rintro σ H4 ⟨rfl, hA⟩
    refine ⟨fun σ H' => σ = [some (.ref a), some (.ref cl), none, some (.ref r), some (.ref pl), some (.ref x), none, none, none, none] ∧ TA T.Watcher.C H' cl pl r x lv lh d cv c0 c1 7 [1, (c2 : Int)] [0, 1] [], ?_, ?_⟩
    · clear q
      obtain ⟨_, hcl, _, es, hpl, _⟩ := id hA.pp
      obtain ⟨dx, hx⟩ := hA.w.ins
      refine ⟨.ref pl, rfl, .inl ⟨rfl, _, SqL.of hpl⟩, .ref x, rfl, x, dx, _, rfl, hx, rfl, rfl, ?_⟩
      refine ⟨x, lv, lh, d, 2, [0, (c2 : Int)], [0, 1], [], x, .int 0, .int 1, .int 0, .int 1, rfl, hA.w, .int _, .int _, fun z => (by cases z), fun _ z => (by cases z), fun s1 v1 es1 ev1 _ _ _ _ H5 k5 hW => ?_⟩
      obtain rfl := PyData.int.inj es1
      obtain rfl := PyData.int.inj ev1
      refine ⟨by show 2 ≤ sizeLine; decide, fun e ne => ?_⟩
      obtain ⟨es, e1, e2, e3⟩ := ((hA.edit (fun c o z n1 _ _ => k5 c o z n1) hW).mono (same_new ne)).put (e := e) ⟨_, _, .none, upd_same, by decide +kernel, .non, .non⟩
      exact ⟨pl, es.map V.ref, .ref e, rfl, rfl, e1, by rw [List.length_map]; omega, rfl, e3⟩
    clear hA
    rintro σ H4 ⟨rfl, hA⟩
    refine ⟨fun σ H' => σ = [some (.ref a), some (.ref cl), none, some (.ref r), some (.ref pl), some (.ref x), none, none, none, none] ∧ TA T.Watcher.C H' cl pl r x lv lh d cv c0 c1 7 [1, (c2 : Int)] [0, 1] (rowsOf [rA]), ?_, ?_⟩
    · clear q
      obtain ⟨_, hcl, _, es, hpl, _⟩ := id hA.pp
      obtain ⟨dx, hx⟩ := hA.w.ins
      refine ⟨.ref x, rfl, x, dx, _, rfl, hx, rfl, by show 1 ≤ sizeLine; decide, fun m nm => ⟨rfl, ?_⟩⟩
      have hA1 := hA.mono (same_new (o := .tup [V.str "value"]) nm)
      exact do_add_rule (ks := kk c2) (v := (1, [.inr "value"])) (t := .inr "new") hA1.w (kk_ok l2) rA_ok (fun z => by cases z) (by decide) upd_same fun H5 k5 hW => ⟨rfl, hA1.edit (fun c o z _ _ n => k5 c o z n) hW⟩
    clear hA
    rintro σ H4 ⟨rfl, hA⟩
    refine ⟨fun σ H' => σ = [some (.ref a), some (.ref cl), none, some (.ref r), some (.ref pl), some (.ref x), none, none, none, none] ∧ TA T.Watcher.C H' cl pl r x lv lh d cv c0 c1 7 [1, (c2 : Int)] [0, 1] (rowsOf [rA, rB]), ?_, ?_⟩
    · clear q
      obtain ⟨dx, hx⟩ := hA.w.ins
      refine ⟨.ref x, rfl, x, dx, _, rfl, hx, rfl, by show 1 ≤ sizeLine; decide, fun m nm => ⟨rfl, ?_⟩⟩
      have hA1 := hA.mono (same_new (o := .tup [V.int 0]) nm)
      exact do_add_rule (ks := kk c2) (v := (1, [.inl 0])) (t := .inl 0) hA1.w (kk_ok l2) rB_ok (fun z => by cases List.mem_singleton.mp z) (by decide) upd_same fun H5 k5 hW => ⟨rfl, hA1.edit (fun c o z _ _ n => k5 c o z n) hW⟩
    clear hA
    rintro σ H4 ⟨rfl, hA⟩
    refine ⟨fun σ H' => σ = [some (.ref a), some (.ref cl), none, some (.ref r), some (.ref pl), some (.ref x), none, none, none, none] ∧ TA T.Watcher.C H' cl pl r x lv lh d cv c0 c1 7 [1, (c2 : Int)] [0, 1] (rowsOf [rA]), ?_, ?_⟩
    · clear q
      obtain ⟨dx, hx⟩ := hA.w.ins
      refine ⟨.ref x, rfl, x, dx, _, rfl, hx, rfl, rfl, ?_⟩
      exact do_remove_rule (t := .inl 0) hA.w (List.mem_cons_of_mem _ (List.mem_singleton.mpr rfl)) fun H5 k5 hW => ⟨rfl, hA.edit (fun c o z _ _ n => k5 c o z n) (by exact hW)⟩
    clear hA
    rintro σ H4 ⟨rfl, hA⟩
    refine ⟨fun σ H' => σ = [some (.ref a), some (.ref cl), none, some (.ref r), some (.ref pl), some (.ref x), none, none, none, none] ∧ TB T.Watcher.C H' cl pl r x lv lh d cv c0 c1 8 (plA c2), ?_, ?_⟩
    · clear q
      obtain ⟨_, hcl, _, es, hpl, _⟩ := id hA.pp
      obtain ⟨dx, hx⟩ := hA.w.ins
      refine ⟨.ref pl, rfl, .inl ⟨rfl, _, SqL.of hpl⟩, .ref x, rfl, x, dx, _, rfl, hx, rfl, x, lv, lh, d, 2, _, _, _, rfl, hA.w, fun t1 H5 kvs s5 n5 ht1 hk => ?_⟩
      rw [sortR_A] at hk
      refine fun p np => ⟨by show 3 ≤ sizeLine; decide, fun b nb => ⟨by show 1 ≤ sizeLine; decide, fun s1 ns1 => ⟨by show 2 ≤ sizeLine; decide, fun s2 ns2 => ⟨[.inl 0, .inl 0, .inr "new"], b, rfl, ?_, ?_, ?_⟩⟩⟩⟩
      · rw [upd_ne (fun q => by rw [← q, upd_ne (fun q2 => by rw [← q2, upd_same] at ns1; cases ns1), upd_same] at ns2; cases ns2), upd_ne (fun q => by rw [← q, upd_same] at ns1; cases ns1), upd_same]
        rfl
      · have kb := same_new (o := .tup [V.int 0, V.int 0, V.str (Str.ofString "new")]) nb
        have k1 := same_new (o := .tup [V.str (Str.ofString "value")]) ns1
        exact same_new ns2 _ _ (k1 _ _ (kb _ _ upd_same))
      have kp := same_new (o := .dT []) np
      have kb := same_new (o := .tup [V.int 0, V.int 0, V.str (Str.ofString "new")]) nb
      have k1 := same_new (o := .tup [V.str (Str.ofString "value")]) ns1
      have k2 := same_new (o := .tup [V.int 1, V.ref s1]) ns2
      have hb := k2 _ _ (k1 _ _ (upd_same (H := upd H5 p (.dT [])) (a := b) (o := .tup [V.int 0, V.int 0, V.str (Str.ofString "new")])))
      have hs1 := k2 _ _ (upd_same (H := upd (upd H5 p (.dT [])) b (.tup [V.int 0, V.int 0, V.str (Str.ofString "new")])) (a := s1) (o := .tup [V.str (Str.ofString "value")]))
      have hp := k2 _ _ (k1 _ _ (kb _ _ (upd_same (H := H5) (a := p) (o := .dT []))))
      have kk2 := s5.trans (((kp.trans kb).trans k1).trans k2)
      have hT1 := (((kp.trans kb).trans k1).trans k2) _ _ ht1
      have hK1 := hk.mono (Tups.same (((kp.trans kb).trans k1).trans k2))
      have hs2 := upd_same (H := upd (upd (upd H5 p (.dT [])) b (.tup [V.int 0, V.int 0, V.str (Str.ofString "new")])) s1 (.tup [V.str (Str.ofString "value")])) (a := s2) (o := .tup [V.int 1, V.ref s1])
      have np5 := kk2
      have hAx := hA.mono kk2
      have npa : p ≠ t1 := fun q => by rw [← q, np] at ht1; cases ht1
      have npd : ∀ o, H4 p ≠ some o := fun o z => by rw [s5 _ _ z] at np; cases np
      generalize upd (upd (upd (upd H5 p (.dT [])) b (.tup [V.int 0, V.int 0, V.str (Str.ofString "new")])) s1 (.tup [V.str (Str.ofString "value")])) s2 (.tup [V.int 1, V.ref s1]) = Hx at *
      have tp : Tups Hx (upd Hx p (.dT [([.inl 0, .inl 0, .inr "new"], .ref s2)])) := Tups.put hp (fun _ z => nomatch z)
      have hkD : KvD (upd Hx p (.dT [([.inl 0, .inl 0, .inr "new"], .ref s2)])) [([.inl 0, .inl 0, .inr "new"], .ref s2)] (rowsOf [rA]) := .cons ⟨rfl, .tup (tp _ _ hs2) (.cons (.int _) (.cons (.tup (tp _ _ hs1) (.cons (.str _) .nil)) .nil))⟩ .nil
      refine ⟨by show 2 ≤ sizeLine; decide, fun e ne => ?_⟩
      have ke := same_new (o := .tup [.ref t1, .ref p]) ne
      have hq : ∀ c o, H4 c = some o → upd (upd Hx p (.dT [([.inl 0, .inl 0, .inr "new"], .ref s2)])) e (.tup [.ref t1, .ref p]) c = some o := fun c o z => ke _ _ (by
        rw [upd_ne (fun q => npd o (by rw [← q]; exact z))]
        exact kk2 _ _ z)
      have hB : TB T.Watcher.C _ cl pl r x lv lh d cv c0 c1 7 (plA c2) := ⟨(hA.mono hq).pp.to2, ⟨(hA.mono hq).w, plA_ok l2⟩, hA.ne⟩
      obtain ⟨es, e1, e2, e3⟩ := hB.put (e := e) ⟨.ref t1, .ref p, .dict (rowsD (rowsOf [rA])), upd_same, by decide +kernel, .dct (ke _ _ (by rw [upd_ne npa.symm]; exact hT1)) (hK1.mono (fun a xs z => ke _ _ (tp _ _ z))), .dct (ke _ _ upd_same) (hkD.mono (Tups.same ke))⟩
      exact ⟨pl, es.map V.ref, .ref e, rfl, rfl, e1, by rw [List.length_map]; omega, rfl, e3⟩
    clear hA
    rintro σ H4 ⟨rfl, hB⟩
    refine ⟨fun σ H' => σ = [some (.ref a), some (.ref cl), none, some (.ref r), some (.ref pl), some (.ref x), none, none, none, none] ∧ TB T.Watcher.C H' cl pl r x lv lh d cv c0 c1 9 (plA c2), ?_, ?_⟩
    · clear q
      obtain ⟨_, hcl, hr0, es, hpl, _⟩ := id hB.pp
      refine ⟨.ref pl, rfl, .inl ⟨rfl, _, SqL.of hpl⟩, .ref r, rfl, .ref x, rfl, rfl, x, lv, lh, d, r, plA c2, row3 c0 c1, rfl, hB.w, hr0.strm, fun u H5 s5 hu => ?_⟩
      rw [show runM (plA c2).rules (0, []) (row3 c0 c1) = (1, [(c0 : Int)]) from run_row l0 l1] at hu
      refine ⟨.ref cl, rfl, cl, cv, 0, .int (c0 : Int), rfl, rfl, SqL.of (s5 _ _ hcl), at0, by show 1 ≤ sizeLine; decide, fun m1 nm1 => ⟨by show 2 ≤ sizeLine; decide, fun m2 nm2 => ⟨by show 2 ≤ sizeLine; decide, fun e ne => ?_⟩⟩⟩
      have q1 := same_new (o := .tup [.int (c0 : Int)]) nm1
      have q2 := same_new (o := .tup [.int 1, .ref m1]) nm2
      have q3 := same_new (o := .tup [u, .ref m2]) ne
      obtain ⟨es, e1, e2, e3⟩ := (hB.mono (((s5.trans q1).trans q2).trans q3)).put (e := e) ⟨u, .ref m2, stD (1, [(c0 : Int)]), upd_same, all4 (p := fun c => goodD (stD (1, [(c : Int)]))) (by decide +kernel) l0, .st (hu.mono ((q1.trans q2).trans q3)) rfl, .td (.tup (q3 _ _ upd_same) (.cons (.int _) (.cons (.tup (q3 _ _ (q2 _ _ upd_same)) (.cons (.int _) .nil)) .nil)))⟩
      exact ⟨pl, es.map V.ref, .ref e, rfl, rfl, e1, by rw [List.length_map]; omega, rfl, e3⟩
    clear hB
    rintro σ H4 ⟨rfl, hB⟩
    refine ⟨fun σ H' => σ = [some (.ref a), some (.ref cl), none, some (.ref r), some (.ref pl), some (.ref x), none, none, none, none] ∧ TB T.Watcher.C H' cl pl r x lv lh d cv c0 c1 10 (plA c2), ?_, ?_⟩
    · clear q
      obtain ⟨_, hcl, hr0, es, hpl, _⟩ := id hB.pp
      refine ⟨.ref pl, rfl, .inl ⟨rfl, _, SqL.of hpl⟩, .ref r, rfl, .ref x, rfl, rfl, x, lv, lh, d, r, plA c2, row3 c0 c1, rfl, hB.w, hr0.strm, fun H5 s5 => ?_⟩
      have ev : verdictM (plA c2) (row3 c0 c1) = c2 := by
        unfold verdictM
        rw [show runM (plA c2).rules (0, []) (row3 c0 c1) = (1, [(c0 : Int)]) from run_row l0 l1]
        rfl
      rw [ev]
      refine ⟨.ref cl, rfl, cl, cv, 2, .int (c2 : Int), rfl, rfl, SqL.of (s5 _ _ hcl), at2, by show 2 ≤ sizeLine; decide, fun e ne => ?_⟩
      have q3 := same_new (o := .tup [.int (c2 : Int), .int (c2 : Int)]) ne
      obtain ⟨es, e1, e2, e3⟩ := (hB.mono (s5.trans q3)).put (e := e) ⟨_, _, .int (c2 : Int), upd_same, all4 (p := fun c => goodD (.int (c : Int))) (by decide +kernel) l2, .td (.int _), .td (.int _)⟩
      exact ⟨pl, es.map V.ref, .ref e, rfl, rfl, e1, by rw [List.length_map]; omega, rfl, e3⟩
    clear hB
    rintro σ H4 ⟨rfl, hB⟩
    refine ⟨fun σ H' => ∃ f x' lv' lh' d' tr, σ = [some (.ref a), some (.ref cl), none, some (.ref r), some (.ref pl), some (.ref x), some (.ref f), none, none, none] ∧ TFo T.Watcher.C T.Follower.C H' cl pl r x lv lh d f x' lv' lh' d' tr cv c0 c1 10 (plA c2) [], ?_, ?_⟩
    · clear q
      refine ⟨.ref x, rfl, rfl, fun f df hf hdf ndf => ?_⟩
      have k1 : Same H4 (upd (upd H4 df (.own f)) f (.ins T.Follower.C df [])) := (same_new hdf).trans (same_new (by rw [upd_ne ndf.symm]; exact hf))
      refine ⟨f, df, x, lv, lh, d, plA c2, rfl, upd_same, hB.w.mono k1, fun H5 x' lv' lh' d' tr bt hlv hlh htr hF => ⟨rfl, ?_⟩⟩
      have kb : ∀ c o, H4 c = some o → H5 c = some o := fun c o z => bt _ _ (k1 _ _ z) (fun e => by rw [e, hf] at z; cases z)
      have nn : ∀ {c o y}, H4 c = some o → (upd (upd H4 df (.own f)) f (.ins T.Follower.C df [])) y = none → c ≠ y := fun z1 z2 e => by
        rw [← e, k1 _ _ z1] at z2
        cases z2
      obtain ⟨_, hcl, _, es, hpl, _⟩ := id hB.pp
      exact ⟨f, x', lv', lh', d', tr, rfl, hB.mono kb, hF, nn hcl htr, nn hpl htr, nn hB.w.w.ver htr, nn hB.w.w.hel htr, nn hpl hlv, nn hpl hlh⟩
    clear hB
    rintro σ H4 ⟨f, x', lv', lh', d', tr, rfl, hG⟩
    refine ⟨fun σ H' => σ = [some (.ref a), some (.ref cl), none, some (.ref r), some (.ref pl), some (.ref x), some (.ref f), none, none, none] ∧ TFo T.Watcher.C T.Follower.C H' cl pl r x lv lh d f x' lv' lh' d' tr cv c0 c1 10 (plA c2) [(0, 5)], ?_, ?_⟩
    · clear q
      obtain ⟨df, hf⟩ := hG.f.ins
      refine ⟨.ref f, rfl, f, df, _, rfl, hf, rfl, rfl, f, x', lv', lh', d', tr, plA c2, [], x, .int 0, .int 5, .int 0, .int 5, rfl, hG.f, .int _, .int _, by show 0 < 900; decide, fun z => (by cases z), fun _ z => (by cases z), fun w1 v1 ew ev _ _ H5 k5 hF => ⟨rfl, ?_⟩⟩
      cases ew
      cases ev
      exact hG.go k5 hF
    clear hG
    rintro σ H4 ⟨rfl, hG⟩
    refine ⟨fun σ H' => σ = [some (.ref a), some (.ref cl), none, some (.ref r), some (.ref pl), some (.ref x), some (.ref f), none, none, none] ∧ TFo T.Watcher.C T.Follower.C H' cl pl r x lv lh d f x' lv' lh' d' tr cv c0 c1 11 (plA c2) [(0, 5)], ?_, ?_⟩
    · clear q
      obtain ⟨df, hf⟩ := hG.f.ins
      obtain ⟨_, _, _, es, hpl, _⟩ := id hG.b.pp
      refine ⟨.ref pl, rfl, .inl ⟨rfl, _, SqL.of hpl⟩, .ref f, rfl, f, df, _, rfl, hf, rfl, f, x', lv', lh', d', tr, plA c2, _, rfl, hG.f, fun ha hT => ?_⟩
      rw [show (runM (plA c2).rules (0, []) [(0, 5)]).2 = [5] from by show (runM [rA] (0, []) [(0, 5)]).2 = [5]; decide +kernel] at hT
      refine ⟨by show 1 ≤ sizeLine; decide, fun m1 nm1 => ⟨by show 2 ≤ sizeLine; decide, fun e ne => ?_⟩⟩
      have q1 := same_new (o := .tup [.int 5]) nm1
      have q3 := same_new (o := .tup [.ref ha, .ref m1]) ne
      obtain ⟨es, e1, e2, e3⟩ := (hG.mono (q1.trans q3)).put (e := e) ⟨.ref ha, .ref m1, .tuple [.int 5], upd_same, by decide +kernel, .ht (ns := [5]) (hT.mono (q1.trans q3)) rfl, .td (.tup (q3 _ _ upd_same) (.cons (.int _) .nil))⟩
      exact ⟨pl, es.map V.ref, .ref e, rfl, rfl, e1, by rw [List.length_map]; omega, rfl, e3⟩
    clear hG
    rintro σ H4 ⟨rfl, hG⟩
    refine ⟨fun σ H' => σ = [some (.ref a), some (.ref cl), none, some (.ref r), some (.ref pl), some (.ref x), some (.ref f), none, none, none] ∧ TFo T.Watcher.C T.Follower.C H' cl pl r x lv lh d f x' lv' lh' d' tr cv c0 c1 11 (plA c2) [], ?_, ?_⟩
    · clear q
      obtain ⟨df, hf⟩ := hG.f.ins
      refine ⟨.ref f, rfl, f, df, _, rfl, hf, rfl, rfl, f, x', lv', lh', d', tr, plA c2, [(0, 5)], x, .int 1, .int 1, rfl, hG.f, .int _, fun z => (by cases z), fun k ek k1 H5 k5 hF => ⟨rfl, ?_⟩⟩
      have : k = 1 := by
        have := PyData.int.inj ek
        omega
      subst this
      exact hG.go k5 hF
    clear hG
    rintro σ H4 ⟨rfl, hG⟩
    refine ⟨fun σ H' => σ = [some (.ref a), some (.ref cl), none, some (.ref r), some (.ref pl), some (.ref x), some (.ref f), none, none, none] ∧ TB T.Watcher.C H' cl pl r x lv lh d cv c0 c1 12 (plA c2), ?_, ?_⟩
    · clear q
      obtain ⟨df, hf⟩ := hG.f.ins
      obtain ⟨_, _, _, es, hpl, _⟩ := id hG.b.pp
      refine ⟨.ref pl, rfl, .inl ⟨rfl, _, SqL.of hpl⟩, .ref f, rfl, f, df, _, rfl, hf, rfl, f, x', lv', lh', d', tr, plA c2, _, rfl, hG.f, ?_⟩
      refine ⟨by show 2 ≤ sizeLine; decide, fun e ne => ?_⟩
      have q3 := same_new (o := .tup [.int 0, .int 0]) ne
      obtain ⟨es, e1, e2, e3⟩ := (hG.b.mono q3).put (e := e) ⟨.int 0, .int 0, .int 0, upd_same, by decide +kernel, .td (.int _), .td (.int _)⟩
      exact ⟨pl, es.map V.ref, .ref e, rfl, rfl, e1, by rw [List.length_map]; omega, rfl, e3⟩
    clear hG
    rintro σ H4 ⟨rfl, hB⟩
    refine ⟨fun σ H' => σ = [some (.ref a), some (.ref cl), none, some (.ref r), some (.ref pl), some (.ref x), some (.ref f), some (.str (pgA c2)), none, none] ∧ TB T.Watcher.C H' cl pl r x lv lh d cv c0 c1 12 (plA c2), ?_, ?_⟩
    · clear q
      refine ⟨.ref x, rfl, rfl, x, lv, lh, d, plA c2, rfl, hB.w, fun H5 s5 => ?_⟩
      exact ⟨by rw [show (plA c2).rules = [rA] from rfl, sortP_A]; rfl, hB.mono s5⟩
    clear hB
    rintro σ H4 ⟨rfl, hB⟩
    refine ⟨fun σ H' => σ = [some (.ref a), some (.ref cl), none, some (.ref r), some (.ref pl), some (.ref x), some (.ref f), some (.str (pgA c2)), none, none] ∧ TB T.Watcher.C H' cl pl r x lv lh d cv c0 c1 13 (plA c2), ?_, ?_⟩
    · clear q
      obtain ⟨_, _, _, es, hpl, _⟩ := id hB.pp
      have hpg : Parsed (pgA c2) (plA c2) := by
        have := parsed_page (plA_ok l2)
        rw [show (plA c2).rules = [rA] from rfl, sortP_A] at this
        exact this
      refine ⟨.ref pl, rfl, .inl ⟨rfl, _, SqL.of hpl⟩, .str _, rfl, rfl, pgA c2, rfl, pgA_len l2, fun P' hP' x2 lv2 lh2 d2 H5 fr hW => ?_, fun k ek => absurd ek (fun z => hpg.no z)⟩
      obtain rfl := hpg.fun_ hP'
      refine ⟨x2, lv2, lh2, d2, plA c2, rfl, hW, fun H6 s6 => ⟨.str (pgA c2), rfl, by show 2 ≤ sizeLine; decide, ?_⟩⟩
      rw [show (plA c2).rules = [rA] from rfl, sortP_A]
      refine fun e ne => ?_
      have q3 := same_new (o := .tup [.str (pgA c2), .str (pgA c2)]) ne
      obtain ⟨es, e1, e2, e3⟩ := (hB.mono ((fr.sm.trans s6).trans q3)).put (e := e) ⟨.str (pgA c2), .str (pgA c2), .str (pgA c2), upd_same, pgA_good l2, .td (.str _), .td (.str _)⟩
      exact ⟨pl, es.map V.ref, .ref e, rfl, rfl, e1, by rw [List.length_map]; omega, rfl, e3⟩
    clear hB
    rintro σ H4 ⟨rfl, hB⟩
    refine ⟨fun σ H' => σ = [some (.ref a), some (.ref cl), none, some (.ref r), some (.ref pl), some (.ref x), some (.ref f), some (.str (pgA c2)), none, none] ∧ TB T.Watcher.C H' cl pl r x lv lh d cv c0 c1 14 (plA c2), ?_, ?_⟩
    · clear q
      obtain ⟨_, _, hr0, es, hpl, _⟩ := id hB.pp
      have hrg : InRange 2 (row3 c0 c1) := fun m hm => by
        simp only [row3, List.mem_cons, List.not_mem_nil, or_false] at hm
        rcases hm with rfl | rfl | rfl
        · exact ⟨by show (0 : Int) ≤ 0; decide, by show (0 : Int) < 2; decide, by show (c0 : Int).natAbs < 10 ^ 60; omega⟩
        · exact ⟨by show (0 : Int) ≤ 1; decide, by show (1 : Int) < 2; decide, by show (c1 : Int).natAbs < 10 ^ 60; omega⟩
        · exact ⟨by show (0 : Int) ≤ 0; decide, by show (0 : Int) < 2; decide, by show (c0 : Int).natAbs < 10 ^ 60; omega⟩
      obtain ⟨tg, tm⟩ := text_good (many := 2) (by decide) hrg
      refine ⟨.ref pl, rfl, .inl ⟨rfl, _, SqL.of hpl⟩, .ref r, rfl, rfl, r, row3 c0 c1, 2, rfl, hr0.td, by show 3 ≤ 100001; decide, by decide, hrg, fun H5 s5 => ⟨rfl, textOf (row3 c0 c1), 2, rfl, ?_, by decide, by decide, fun _ t H6 s6 ht => ?_, fun z => by rw [tg] at z; cases z⟩⟩
      · exact of_decide_eq_true (all4 (p := fun d => decide ((textOf (row3 c0 d)).length ≤ 100000)) (all4 (p := fun c => (List.range 4).all fun d => decide ((textOf (row3 c d)).length ≤ 100000)) (by decide +kernel) l0) l1)
      rw [tm] at ht
      refine ⟨.ref r, rfl, by show 2 ≤ sizeLine; decide, fun e ne => ?_⟩
      have q3 := same_new (o := .tup [.ref t, .ref r]) ne
      obtain ⟨es, e1, e2, e3⟩ := (hB.mono ((s5.trans s6).trans q3)).put (e := e) ⟨.ref t, .ref r, strmD (row3 c0 c1), upd_same, all4 (all4 (p := fun c => (List.range 4).all fun d => goodD (strmD (row3 c d))) (by decide +kernel) l0) l1, .td (TD.mono (Tups.same q3) _ ht), .td (hr0.mono ((s5.trans s6).trans q3)).td⟩
      exact ⟨pl, es.map V.ref, .ref e, rfl, rfl, e1, by rw [List.length_map]; omega, rfl, e3⟩
    clear hB
    rintro σ H4 ⟨rfl, hB⟩
    obtain ⟨_, _, _, es, hpl, les, hes⟩ := id hB.pp
    refine ⟨.ref pl, rfl, pl, rfl, ⟨_, SqL.of hpl⟩, fun D nD => ?_⟩
    refine lc_list (xs := es.map V.ref) (fun i H' => H' = upd H4 D (.lst [])) rfl ?_ ?_ ?_
    · rintro i H' _ rfl
      exact SqL.of (same_new nD _ _ hpl)
    · rintro i y H' hy rfl
      rw [List.getElem?_map] at hy
      obtain ⟨e, he, rfl⟩ := Option.map_eq_some_iff.mp hy
      obtain ⟨v1, v2, dd, hp, hg, s1, s2⟩ := hes e (List.mem_of_getElem? he)
      have hnl : NL H4 (upd H4 D (.lst [])) := NL.same (same_new nD)
      refine ⟨e, _, rfl, SqT.of (same_new nD _ _ hp), rfl, v1, [v2], rfl, v2, [], rfl, rfl, rfl, v1, rfl, v1, dd, rfl, s1.nl hnl, hg, v2, rfl, v2, dd, rfl, s2.nl hnl, hg, ?_⟩
      refine ⟨rfl, false, ?_, rfl⟩
      show V.bl (!decide (V.str dd.shown = V.str dd.shown)) = _
      rw [decide_eq_true rfl]
      rfl
    · rintro H' rfl
      refine ⟨by show 0 ≤ sizeLine; decide, fun p np => ⟨D, p, [], rfl, rfl, same_new np _ _ upd_same, upd_same, ?_⟩⟩
      exact q _
end

def kOchk (K : PySem.W.Frag) (L : List Addr) : Bool := (List.range L.length).all fun i => (List.range L.length).all fun j => match L[i]?, L[j]? with
  | some a, some b => PySem.W.kitOne K (.ref a) (.ref b) == some (decide (i = j))
  | _, _ => true
theorem kO_of {K : PySem.W.Frag} {L : List Addr} (h : kOchk K L = true) : ∀ (i j : Nat) (a b : Addr), L[i]? = some a → L[j]? = some b → PySem.W.kitOne K (.ref a) (.ref b) = some (decide (i = j)) := by
  intro i j a b e1 e2
  have li := (List.getElem?_eq_some_iff.mp e1).1
  have lj := (List.getElem?_eq_some_iff.mp e2).1
  have h1 := List.all_eq_true.mp (List.all_eq_true.mp h i (List.mem_range.mpr li)) j (List.mem_range.mpr lj)
  simp only [e1, e2] at h1
  exact beq_iff_eq.mp h1
def kBchk (K : PySem.W.Frag) (L : List Addr) (ts : List String) (gs : List Nat) : Bool := (List.range L.length).all fun i => (List.range ts.length).all fun j => match L[i]?, ts[j]?, gs[i]? with
  | some a, some t, some g => PySem.W.kitOne K (.ref a) (.type t) == some (decide (j = g))
  | _, _, _ => true
theorem kB_of {K : PySem.W.Frag} {L : List Addr} {ts : List String} {gs : List Nat} (h : kBchk K L ts gs = true) : ∀ (i j g : Nat) (a : Addr) (t : String), L[i]? = some a → ts[j]? = some t → gs[i]? = some g → PySem.W.kitOne K (.ref a) (.type t) = some (decide (j = g)) := by
  intro i j g a t e1 e2 e3
  have li := (List.getElem?_eq_some_iff.mp e1).1
  have lj := (List.getElem?_eq_some_iff.mp e2).1
  have h1 := List.all_eq_true.mp (List.all_eq_true.mp h i (List.mem_range.mpr li)) j (List.mem_range.mpr lj)
  simp only [e1, e2, e3] at h1
  exact beq_iff_eq.mp h1
theorem all_mk {l : PySem.W.OpenLaw} {w : World} {K : PySem.W.Frag} {h : Heap} {mg : Str → Option Value} {fa f_is_integer f_is_between f_require_stream f_is_stream f_is_message f_is_message_value f_numbered f_is_numbered f_are_alike f_exchanged f_Watcher_init f_Watcher_len f_Watcher_add_state f_Watcher_set_verdict f_Watcher_add_rule f_Watcher_remove_rule f_Watcher_verdicts f_Watcher_held_counts f_Watcher_rules f_Watcher_twin f_Watcher_rule_for f_Watcher_require_state f_Watcher_require_word f_require_verdict f_is_test f_are_sources f_is_source f_may_be_rule f_rule_order f_part_order f_run f_verdict_of f_run_from f_after_message f_carried f_Follower_init f_Follower_read f_Follower_current_state f_Follower_held_values f_Follower_rewind f_format_watcher f_format_stream f_parse_watcher f_read_line f_read_parts f_read_start f_read_state f_read_rule f_parse_stream f_is_written_value f_law_kinds f_law_built_in f_law_errors_right f_law : Addr} (X : K.In h) (G : h.Ns mainGlobals mg) (hfa : mg "law" = some (.ref fa))
    {od0 an0 od1 an1 od2 an2 od3 an3 od4 an4 od5 an5 od6 an6 od7 an7 od8 an8 od9 an9 od10 an10 od11 an11 od12 an12 od13 an13 od14 an14 od15 an15 od16 an16 od17 an17 od18 an18 od19 an19 od20 an20 od21 an21 od22 an22 od23 an23 od24 an24 od25 an25 od26 an26 od27 an27 od28 an28 od29 an29 od30 an30 od31 an31 od32 an32 od33 an33 od34 an34 od35 an35 od36 an36 od37 an37 od38 an38 od39 an39 od40 an40 od41 an41 od42 an42 od43 an43 od44 an44 od45 an45 od46 an46 od47 an47 od48 an48 od49 an49 od50 an50 od51 an51 od52 an52 od53 an53 : Option Addr} {sl0 sl1 sl2 sl3 sl4 sl5 sl6 sl7 sl8 sl9 sl10 sl11 sl12 sl13 sl14 sl15 sl16 sl17 sl18 sl19 sl20 sl21 sl22 sl23 sl24 sl25 sl26 sl27 sl28 sl29 sl30 sl31 sl32 sl33 sl34 sl35 sl36 sl37 sl38 sl39 sl40 sl41 sl42 sl43 sl44 sl45 sl46 sl47 sl48 sl49 sl50 sl51 sl52 sl53 : Array (Option Value)} {oc0 kV0 dc0 pm0 cd0 ct0 oc1 kV1 dc1 pm1 cd1 ct1 oc2 kV2 dc2 pm2 cd2 ct2 oc3 kV3 dc3 pm3 cd3 ct3 oc4 kV4 dc4 pm4 cd4 ct4 oc5 kV5 dc5 pm5 cd5 ct5 oc6 kV6 dc6 pm6 cd6 ct6 oc7 kV7 dc7 pm7 cd7 ct7 oc8 kV8 dc8 pm8 cd8 ct8 oc9 kV9 dc9 pm9 cd9 ct9 oc10 kV10 dc10 pm10 cd10 ct10 oc11 kV11 dc11 pm11 cd11 ct11 oc12 kV12 dc12 pm12 cd12 ct12 oc13 kV13 dc13 pm13 cd13 ct13 oc14 kV14 dc14 pm14 cd14 ct14 oc15 kV15 dc15 pm15 cd15 ct15 oc16 kV16 dc16 pm16 cd16 ct16 oc17 kV17 dc17 pm17 cd17 ct17 oc18 kV18 dc18 pm18 cd18 ct18 oc19 kV19 dc19 pm19 cd19 ct19 oc20 kV20 dc20 pm20 cd20 ct20 oc21 kV21 dc21 pm21 cd21 ct21 oc22 kV22 dc22 pm22 cd22 ct22 oc23 kV23 dc23 pm23 cd23 ct23 oc24 kV24 dc24 pm24 cd24 ct24 oc25 kV25 dc25 pm25 cd25 ct25 oc26 kV26 dc26 pm26 cd26 ct26 oc27 kV27 dc27 pm27 cd27 ct27 oc28 kV28 dc28 pm28 cd28 ct28 oc29 kV29 dc29 pm29 cd29 ct29 oc30 kV30 dc30 pm30 cd30 ct30 oc31 kV31 dc31 pm31 cd31 ct31 oc32 kV32 dc32 pm32 cd32 ct32 oc33 kV33 dc33 pm33 cd33 ct33 oc34 kV34 dc34 pm34 cd34 ct34 oc35 kV35 dc35 pm35 cd35 ct35 oc36 kV36 dc36 pm36 cd36 ct36 oc37 kV37 dc37 pm37 cd37 ct37 oc38 kV38 dc38 pm38 cd38 ct38 oc39 kV39 dc39 pm39 cd39 ct39 oc40 kV40 dc40 pm40 cd40 ct40 oc41 kV41 dc41 pm41 cd41 ct41 oc42 kV42 dc42 pm42 cd42 ct42 oc43 kV43 dc43 pm43 cd43 ct43 oc44 kV44 dc44 pm44 cd44 ct44 oc45 kV45 dc45 pm45 cd45 ct45 oc46 kV46 dc46 pm46 cd46 ct46 oc47 kV47 dc47 pm47 cd47 ct47 oc48 kV48 dc48 pm48 cd48 ct48 oc49 kV49 dc49 pm49 cd49 ct49 oc50 kV50 dc50 pm50 cd50 ct50 oc51 kV51 dc51 pm51 cd51 ct51 oc52 kV52 dc52 pm52 cd52 ct52 oc53 kV53 dc53 pm53 cd53 ct53 : Value}
    {ck_MOST_WORDS ck_MOST_STATES ck_MOST_HELD ck_MOST_VERDICT ck_NEW ck_VALUE ck_EMPTY ck_MOST_DIGITS : Tok}
    {C_Watcher C_Follower : Addr}
    (a0 : PySem.W.nsIn K mainGlobals "is_integer" = some (some (.ref f_is_integer)))
    (l0 : K.lookup f_is_integer = some ⟨oc0, od0, .func (PySem.W.fnOf "is_integer" "is_integer" (defArgs s_is_integer) (defBody s_is_integer) (defScope s_is_integer) .none kV0 dc0 pm0 an0 cd0 ct0), sl0⟩) (c0 : PySem.W.codeIn K cd0 "is_integer" = true) (k0 : PySem.W.keepIn K (.ref f_is_integer) = true)
    (a1 : PySem.W.nsIn K mainGlobals "is_between" = some (some (.ref f_is_between)))
    (l1 : K.lookup f_is_between = some ⟨oc1, od1, .func (PySem.W.fnOf "is_between" "is_between" (defArgs s_is_between) (defBody s_is_between) (defScope s_is_between) .none kV1 dc1 pm1 an1 cd1 ct1), sl1⟩) (c1 : PySem.W.codeIn K cd1 "is_between" = true) (k1 : PySem.W.keepIn K (.ref f_is_between) = true)
    (a2 : PySem.W.nsIn K mainGlobals "require_stream" = some (some (.ref f_require_stream)))
    (l2 : K.lookup f_require_stream = some ⟨oc2, od2, .func (PySem.W.fnOf "require_stream" "require_stream" (defArgs s_require_stream) (defBody s_require_stream) (defScope s_require_stream) .none kV2 dc2 pm2 an2 cd2 ct2), sl2⟩) (c2 : PySem.W.codeIn K cd2 "require_stream" = true) (k2 : PySem.W.keepIn K (.ref f_require_stream) = true)
    (a3 : PySem.W.nsIn K mainGlobals "is_stream" = some (some (.ref f_is_stream)))
    (l3 : K.lookup f_is_stream = some ⟨oc3, od3, .func (PySem.W.fnOf "is_stream" "is_stream" (defArgs s_is_stream) (defBody s_is_stream) (defScope s_is_stream) .none kV3 dc3 pm3 an3 cd3 ct3), sl3⟩) (c3 : PySem.W.codeIn K cd3 "is_stream" = true) (k3 : PySem.W.keepIn K (.ref f_is_stream) = true)
    (a4 : PySem.W.nsIn K mainGlobals "is_message" = some (some (.ref f_is_message)))
    (l4 : K.lookup f_is_message = some ⟨oc4, od4, .func (PySem.W.fnOf "is_message" "is_message" (defArgs s_is_message) (defBody s_is_message) (defScope s_is_message) .none kV4 dc4 pm4 an4 cd4 ct4), sl4⟩) (c4 : PySem.W.codeIn K cd4 "is_message" = true) (k4 : PySem.W.keepIn K (.ref f_is_message) = true)
    (a5 : PySem.W.nsIn K mainGlobals "is_message_value" = some (some (.ref f_is_message_value)))
    (l5 : K.lookup f_is_message_value = some ⟨oc5, od5, .func (PySem.W.fnOf "is_message_value" "is_message_value" (defArgs s_is_message_value) (defBody s_is_message_value) (defScope s_is_message_value) .none kV5 dc5 pm5 an5 cd5 ct5), sl5⟩) (c5 : PySem.W.codeIn K cd5 "is_message_value" = true) (k5 : PySem.W.keepIn K (.ref f_is_message_value) = true)
    (a6 : PySem.W.nsIn K mainGlobals "numbered" = some (some (.ref f_numbered)))
    (l6 : K.lookup f_numbered = some ⟨oc6, od6, .func (PySem.W.fnOf "numbered" "numbered" (defArgs s_numbered) (defBody s_numbered) (defScope s_numbered) .none kV6 dc6 pm6 an6 cd6 ct6), sl6⟩) (c6 : PySem.W.codeIn K cd6 "numbered" = true) (k6 : PySem.W.keepIn K (.ref f_numbered) = true)
    (a7 : PySem.W.nsIn K mainGlobals "is_numbered" = some (some (.ref f_is_numbered)))
    (l7 : K.lookup f_is_numbered = some ⟨oc7, od7, .func (PySem.W.fnOf "is_numbered" "is_numbered" (defArgs s_is_numbered) (defBody s_is_numbered) (defScope s_is_numbered) .none kV7 dc7 pm7 an7 cd7 ct7), sl7⟩) (c7 : PySem.W.codeIn K cd7 "is_numbered" = true) (k7 : PySem.W.keepIn K (.ref f_is_numbered) = true)
    (a8 : PySem.W.nsIn K mainGlobals "are_alike" = some (some (.ref f_are_alike)))
    (l8 : K.lookup f_are_alike = some ⟨oc8, od8, .func (PySem.W.fnOf "are_alike" "are_alike" (defArgs s_are_alike) (defBody s_are_alike) (defScope s_are_alike) .none kV8 dc8 pm8 an8 cd8 ct8), sl8⟩) (c8 : PySem.W.codeIn K cd8 "are_alike" = true) (k8 : PySem.W.keepIn K (.ref f_are_alike) = true)
    (a9 : PySem.W.nsIn K mainGlobals "exchanged" = some (some (.ref f_exchanged)))
    (l9 : K.lookup f_exchanged = some ⟨oc9, od9, .func (PySem.W.fnOf "exchanged" "exchanged" (defArgs s_exchanged) (defBody s_exchanged) (defScope s_exchanged) .none kV9 dc9 pm9 an9 cd9 ct9), sl9⟩) (c9 : PySem.W.codeIn K cd9 "exchanged" = true) (k9 : PySem.W.keepIn K (.ref f_exchanged) = true)
    (a10 : PySem.W.findIn K (.ref C_Watcher) "__init__" = some (some (.ref f_Watcher_init))) (i10 : PySem.W.isFn K (.ref f_Watcher_init) = true)
    (l10 : K.lookup f_Watcher_init = some ⟨oc10, od10, .func (PySem.W.fnOf "__init__" "Watcher.__init__" (defArgs s_Watcher_init) (defBody s_Watcher_init) (defScope s_Watcher_init) .none kV10 dc10 pm10 an10 cd10 ct10), sl10⟩) (c10 : PySem.W.codeIn K cd10 "Watcher.__init__" = true) (k10 : PySem.W.keepIn K (.ref f_Watcher_init) = true)
    (a11 : PySem.W.findIn K (.ref C_Watcher) "__len__" = some (some (.ref f_Watcher_len))) (i11 : PySem.W.isFn K (.ref f_Watcher_len) = true)
    (l11 : K.lookup f_Watcher_len = some ⟨oc11, od11, .func (PySem.W.fnOf "__len__" "Watcher.__len__" (defArgs s_Watcher_len) (defBody s_Watcher_len) (defScope s_Watcher_len) .none kV11 dc11 pm11 an11 cd11 ct11), sl11⟩) (c11 : PySem.W.codeIn K cd11 "Watcher.__len__" = true) (k11 : PySem.W.keepIn K (.ref f_Watcher_len) = true)
    (a12 : PySem.W.findIn K (.ref C_Watcher) "add_state" = some (some (.ref f_Watcher_add_state))) (i12 : PySem.W.isFn K (.ref f_Watcher_add_state) = true)
    (l12 : K.lookup f_Watcher_add_state = some ⟨oc12, od12, .func (PySem.W.fnOf "add_state" "Watcher.add_state" (defArgs s_Watcher_add_state) (defBody s_Watcher_add_state) (defScope s_Watcher_add_state) .none kV12 dc12 pm12 an12 cd12 ct12), sl12⟩) (c12 : PySem.W.codeIn K cd12 "Watcher.add_state" = true) (k12 : PySem.W.keepIn K (.ref f_Watcher_add_state) = true)
    (a13 : PySem.W.findIn K (.ref C_Watcher) "set_verdict" = some (some (.ref f_Watcher_set_verdict))) (i13 : PySem.W.isFn K (.ref f_Watcher_set_verdict) = true)
    (l13 : K.lookup f_Watcher_set_verdict = some ⟨oc13, od13, .func (PySem.W.fnOf "set_verdict" "Watcher.set_verdict" (defArgs s_Watcher_set_verdict) (defBody s_Watcher_set_verdict) (defScope s_Watcher_set_verdict) .none kV13 dc13 pm13 an13 cd13 ct13), sl13⟩) (c13 : PySem.W.codeIn K cd13 "Watcher.set_verdict" = true) (k13 : PySem.W.keepIn K (.ref f_Watcher_set_verdict) = true)
    (a14 : PySem.W.findIn K (.ref C_Watcher) "add_rule" = some (some (.ref f_Watcher_add_rule))) (i14 : PySem.W.isFn K (.ref f_Watcher_add_rule) = true)
    (l14 : K.lookup f_Watcher_add_rule = some ⟨oc14, od14, .func (PySem.W.fnOf "add_rule" "Watcher.add_rule" (defArgs s_Watcher_add_rule) (defBody s_Watcher_add_rule) (defScope s_Watcher_add_rule) .none kV14 dc14 pm14 an14 cd14 ct14), sl14⟩) (c14 : PySem.W.codeIn K cd14 "Watcher.add_rule" = true) (k14 : PySem.W.keepIn K (.ref f_Watcher_add_rule) = true)
    (a15 : PySem.W.findIn K (.ref C_Watcher) "remove_rule" = some (some (.ref f_Watcher_remove_rule))) (i15 : PySem.W.isFn K (.ref f_Watcher_remove_rule) = true)
    (l15 : K.lookup f_Watcher_remove_rule = some ⟨oc15, od15, .func (PySem.W.fnOf "remove_rule" "Watcher.remove_rule" (defArgs s_Watcher_remove_rule) (defBody s_Watcher_remove_rule) (defScope s_Watcher_remove_rule) .none kV15 dc15 pm15 an15 cd15 ct15), sl15⟩) (c15 : PySem.W.codeIn K cd15 "Watcher.remove_rule" = true) (k15 : PySem.W.keepIn K (.ref f_Watcher_remove_rule) = true)
    (a16 : PySem.W.findIn K (.ref C_Watcher) "verdicts" = some (some (.ref f_Watcher_verdicts))) (i16 : PySem.W.isFn K (.ref f_Watcher_verdicts) = true)
    (l16 : K.lookup f_Watcher_verdicts = some ⟨oc16, od16, .func (PySem.W.fnOf "verdicts" "Watcher.verdicts" (defArgs s_Watcher_verdicts) (defBody s_Watcher_verdicts) (defScope s_Watcher_verdicts) .none kV16 dc16 pm16 an16 cd16 ct16), sl16⟩) (c16 : PySem.W.codeIn K cd16 "Watcher.verdicts" = true) (k16 : PySem.W.keepIn K (.ref f_Watcher_verdicts) = true)
    (a17 : PySem.W.findIn K (.ref C_Watcher) "held_counts" = some (some (.ref f_Watcher_held_counts))) (i17 : PySem.W.isFn K (.ref f_Watcher_held_counts) = true)
    (l17 : K.lookup f_Watcher_held_counts = some ⟨oc17, od17, .func (PySem.W.fnOf "held_counts" "Watcher.held_counts" (defArgs s_Watcher_held_counts) (defBody s_Watcher_held_counts) (defScope s_Watcher_held_counts) .none kV17 dc17 pm17 an17 cd17 ct17), sl17⟩) (c17 : PySem.W.codeIn K cd17 "Watcher.held_counts" = true) (k17 : PySem.W.keepIn K (.ref f_Watcher_held_counts) = true)
    (a18 : PySem.W.findIn K (.ref C_Watcher) "rules" = some (some (.ref f_Watcher_rules))) (i18 : PySem.W.isFn K (.ref f_Watcher_rules) = true)
    (l18 : K.lookup f_Watcher_rules = some ⟨oc18, od18, .func (PySem.W.fnOf "rules" "Watcher.rules" (defArgs s_Watcher_rules) (defBody s_Watcher_rules) (defScope s_Watcher_rules) .none kV18 dc18 pm18 an18 cd18 ct18), sl18⟩) (c18 : PySem.W.codeIn K cd18 "Watcher.rules" = true) (k18 : PySem.W.keepIn K (.ref f_Watcher_rules) = true)
    (a19 : PySem.W.findIn K (.ref C_Watcher) "twin" = some (some (.ref f_Watcher_twin))) (i19 : PySem.W.isFn K (.ref f_Watcher_twin) = true)
    (l19 : K.lookup f_Watcher_twin = some ⟨oc19, od19, .func (PySem.W.fnOf "twin" "Watcher.twin" (defArgs s_Watcher_twin) (defBody s_Watcher_twin) (defScope s_Watcher_twin) .none kV19 dc19 pm19 an19 cd19 ct19), sl19⟩) (c19 : PySem.W.codeIn K cd19 "Watcher.twin" = true) (k19 : PySem.W.keepIn K (.ref f_Watcher_twin) = true)
    (a20 : PySem.W.findIn K (.ref C_Watcher) "rule_for" = some (some (.ref f_Watcher_rule_for))) (i20 : PySem.W.isFn K (.ref f_Watcher_rule_for) = true)
    (l20 : K.lookup f_Watcher_rule_for = some ⟨oc20, od20, .func (PySem.W.fnOf "rule_for" "Watcher.rule_for" (defArgs s_Watcher_rule_for) (defBody s_Watcher_rule_for) (defScope s_Watcher_rule_for) .none kV20 dc20 pm20 an20 cd20 ct20), sl20⟩) (c20 : PySem.W.codeIn K cd20 "Watcher.rule_for" = true) (k20 : PySem.W.keepIn K (.ref f_Watcher_rule_for) = true)
    (a21 : PySem.W.findIn K (.ref C_Watcher) "require_state" = some (some (.ref f_Watcher_require_state))) (i21 : PySem.W.isFn K (.ref f_Watcher_require_state) = true)
    (l21 : K.lookup f_Watcher_require_state = some ⟨oc21, od21, .func (PySem.W.fnOf "require_state" "Watcher.require_state" (defArgs s_Watcher_require_state) (defBody s_Watcher_require_state) (defScope s_Watcher_require_state) .none kV21 dc21 pm21 an21 cd21 ct21), sl21⟩) (c21 : PySem.W.codeIn K cd21 "Watcher.require_state" = true) (k21 : PySem.W.keepIn K (.ref f_Watcher_require_state) = true)
    (a22 : PySem.W.findIn K (.ref C_Watcher) "require_word" = some (some (.ref f_Watcher_require_word))) (i22 : PySem.W.isFn K (.ref f_Watcher_require_word) = true)
    (l22 : K.lookup f_Watcher_require_word = some ⟨oc22, od22, .func (PySem.W.fnOf "require_word" "Watcher.require_word" (defArgs s_Watcher_require_word) (defBody s_Watcher_require_word) (defScope s_Watcher_require_word) .none kV22 dc22 pm22 an22 cd22 ct22), sl22⟩) (c22 : PySem.W.codeIn K cd22 "Watcher.require_word" = true) (k22 : PySem.W.keepIn K (.ref f_Watcher_require_word) = true)
    (a23 : PySem.W.nsIn K mainGlobals "require_verdict" = some (some (.ref f_require_verdict)))
    (l23 : K.lookup f_require_verdict = some ⟨oc23, od23, .func (PySem.W.fnOf "require_verdict" "require_verdict" (defArgs s_require_verdict) (defBody s_require_verdict) (defScope s_require_verdict) .none kV23 dc23 pm23 an23 cd23 ct23), sl23⟩) (c23 : PySem.W.codeIn K cd23 "require_verdict" = true) (k23 : PySem.W.keepIn K (.ref f_require_verdict) = true)
    (a24 : PySem.W.nsIn K mainGlobals "is_test" = some (some (.ref f_is_test)))
    (l24 : K.lookup f_is_test = some ⟨oc24, od24, .func (PySem.W.fnOf "is_test" "is_test" (defArgs s_is_test) (defBody s_is_test) (defScope s_is_test) .none kV24 dc24 pm24 an24 cd24 ct24), sl24⟩) (c24 : PySem.W.codeIn K cd24 "is_test" = true) (k24 : PySem.W.keepIn K (.ref f_is_test) = true)
    (a25 : PySem.W.nsIn K mainGlobals "are_sources" = some (some (.ref f_are_sources)))
    (l25 : K.lookup f_are_sources = some ⟨oc25, od25, .func (PySem.W.fnOf "are_sources" "are_sources" (defArgs s_are_sources) (defBody s_are_sources) (defScope s_are_sources) .none kV25 dc25 pm25 an25 cd25 ct25), sl25⟩) (c25 : PySem.W.codeIn K cd25 "are_sources" = true) (k25 : PySem.W.keepIn K (.ref f_are_sources) = true)
    (a26 : PySem.W.nsIn K mainGlobals "is_source" = some (some (.ref f_is_source)))
    (l26 : K.lookup f_is_source = some ⟨oc26, od26, .func (PySem.W.fnOf "is_source" "is_source" (defArgs s_is_source) (defBody s_is_source) (defScope s_is_source) .none kV26 dc26 pm26 an26 cd26 ct26), sl26⟩) (c26 : PySem.W.codeIn K cd26 "is_source" = true) (k26 : PySem.W.keepIn K (.ref f_is_source) = true)
    (a27 : PySem.W.nsIn K mainGlobals "may_be_rule" = some (some (.ref f_may_be_rule)))
    (l27 : K.lookup f_may_be_rule = some ⟨oc27, od27, .func (PySem.W.fnOf "may_be_rule" "may_be_rule" (defArgs s_may_be_rule) (defBody s_may_be_rule) (defScope s_may_be_rule) .none kV27 dc27 pm27 an27 cd27 ct27), sl27⟩) (c27 : PySem.W.codeIn K cd27 "may_be_rule" = true) (k27 : PySem.W.keepIn K (.ref f_may_be_rule) = true)
    (a28 : PySem.W.nsIn K mainGlobals "rule_order" = some (some (.ref f_rule_order)))
    (l28 : K.lookup f_rule_order = some ⟨oc28, od28, .func (PySem.W.fnOf "rule_order" "rule_order" (defArgs s_rule_order) (defBody s_rule_order) (defScope s_rule_order) .none kV28 dc28 pm28 an28 cd28 ct28), sl28⟩) (c28 : PySem.W.codeIn K cd28 "rule_order" = true) (k28 : PySem.W.keepIn K (.ref f_rule_order) = true)
    (a29 : PySem.W.nsIn K mainGlobals "part_order" = some (some (.ref f_part_order)))
    (l29 : K.lookup f_part_order = some ⟨oc29, od29, .func (PySem.W.fnOf "part_order" "part_order" (defArgs s_part_order) (defBody s_part_order) (defScope s_part_order) .none kV29 dc29 pm29 an29 cd29 ct29), sl29⟩) (c29 : PySem.W.codeIn K cd29 "part_order" = true) (k29 : PySem.W.keepIn K (.ref f_part_order) = true)
    (a30 : PySem.W.nsIn K mainGlobals "run" = some (some (.ref f_run)))
    (l30 : K.lookup f_run = some ⟨oc30, od30, .func (PySem.W.fnOf "run" "run" (defArgs s_run) (defBody s_run) (defScope s_run) .none kV30 dc30 pm30 an30 cd30 ct30), sl30⟩) (c30 : PySem.W.codeIn K cd30 "run" = true) (k30 : PySem.W.keepIn K (.ref f_run) = true)
    (a31 : PySem.W.nsIn K mainGlobals "verdict_of" = some (some (.ref f_verdict_of)))
    (l31 : K.lookup f_verdict_of = some ⟨oc31, od31, .func (PySem.W.fnOf "verdict_of" "verdict_of" (defArgs s_verdict_of) (defBody s_verdict_of) (defScope s_verdict_of) .none kV31 dc31 pm31 an31 cd31 ct31), sl31⟩) (c31 : PySem.W.codeIn K cd31 "verdict_of" = true) (k31 : PySem.W.keepIn K (.ref f_verdict_of) = true)
    (a32 : PySem.W.nsIn K mainGlobals "run_from" = some (some (.ref f_run_from)))
    (l32 : K.lookup f_run_from = some ⟨oc32, od32, .func (PySem.W.fnOf "run_from" "run_from" (defArgs s_run_from) (defBody s_run_from) (defScope s_run_from) .none kV32 dc32 pm32 an32 cd32 ct32), sl32⟩) (c32 : PySem.W.codeIn K cd32 "run_from" = true) (k32 : PySem.W.keepIn K (.ref f_run_from) = true)
    (a33 : PySem.W.nsIn K mainGlobals "after_message" = some (some (.ref f_after_message)))
    (l33 : K.lookup f_after_message = some ⟨oc33, od33, .func (PySem.W.fnOf "after_message" "after_message" (defArgs s_after_message) (defBody s_after_message) (defScope s_after_message) .none kV33 dc33 pm33 an33 cd33 ct33), sl33⟩) (c33 : PySem.W.codeIn K cd33 "after_message" = true) (k33 : PySem.W.keepIn K (.ref f_after_message) = true)
    (a34 : PySem.W.nsIn K mainGlobals "carried" = some (some (.ref f_carried)))
    (l34 : K.lookup f_carried = some ⟨oc34, od34, .func (PySem.W.fnOf "carried" "carried" (defArgs s_carried) (defBody s_carried) (defScope s_carried) .none kV34 dc34 pm34 an34 cd34 ct34), sl34⟩) (c34 : PySem.W.codeIn K cd34 "carried" = true) (k34 : PySem.W.keepIn K (.ref f_carried) = true)
    (a35 : PySem.W.findIn K (.ref C_Follower) "__init__" = some (some (.ref f_Follower_init))) (i35 : PySem.W.isFn K (.ref f_Follower_init) = true)
    (l35 : K.lookup f_Follower_init = some ⟨oc35, od35, .func (PySem.W.fnOf "__init__" "Follower.__init__" (defArgs s_Follower_init) (defBody s_Follower_init) (defScope s_Follower_init) .none kV35 dc35 pm35 an35 cd35 ct35), sl35⟩) (c35 : PySem.W.codeIn K cd35 "Follower.__init__" = true) (k35 : PySem.W.keepIn K (.ref f_Follower_init) = true)
    (a36 : PySem.W.findIn K (.ref C_Follower) "read" = some (some (.ref f_Follower_read))) (i36 : PySem.W.isFn K (.ref f_Follower_read) = true)
    (l36 : K.lookup f_Follower_read = some ⟨oc36, od36, .func (PySem.W.fnOf "read" "Follower.read" (defArgs s_Follower_read) (defBody s_Follower_read) (defScope s_Follower_read) .none kV36 dc36 pm36 an36 cd36 ct36), sl36⟩) (c36 : PySem.W.codeIn K cd36 "Follower.read" = true) (k36 : PySem.W.keepIn K (.ref f_Follower_read) = true)
    (a37 : PySem.W.findIn K (.ref C_Follower) "current_state" = some (some (.ref f_Follower_current_state))) (i37 : PySem.W.isFn K (.ref f_Follower_current_state) = true)
    (l37 : K.lookup f_Follower_current_state = some ⟨oc37, od37, .func (PySem.W.fnOf "current_state" "Follower.current_state" (defArgs s_Follower_current_state) (defBody s_Follower_current_state) (defScope s_Follower_current_state) .none kV37 dc37 pm37 an37 cd37 ct37), sl37⟩) (c37 : PySem.W.codeIn K cd37 "Follower.current_state" = true) (k37 : PySem.W.keepIn K (.ref f_Follower_current_state) = true)
    (a38 : PySem.W.findIn K (.ref C_Follower) "held_values" = some (some (.ref f_Follower_held_values))) (i38 : PySem.W.isFn K (.ref f_Follower_held_values) = true)
    (l38 : K.lookup f_Follower_held_values = some ⟨oc38, od38, .func (PySem.W.fnOf "held_values" "Follower.held_values" (defArgs s_Follower_held_values) (defBody s_Follower_held_values) (defScope s_Follower_held_values) .none kV38 dc38 pm38 an38 cd38 ct38), sl38⟩) (c38 : PySem.W.codeIn K cd38 "Follower.held_values" = true) (k38 : PySem.W.keepIn K (.ref f_Follower_held_values) = true)
    (a39 : PySem.W.findIn K (.ref C_Follower) "rewind" = some (some (.ref f_Follower_rewind))) (i39 : PySem.W.isFn K (.ref f_Follower_rewind) = true)
    (l39 : K.lookup f_Follower_rewind = some ⟨oc39, od39, .func (PySem.W.fnOf "rewind" "Follower.rewind" (defArgs s_Follower_rewind) (defBody s_Follower_rewind) (defScope s_Follower_rewind) .none kV39 dc39 pm39 an39 cd39 ct39), sl39⟩) (c39 : PySem.W.codeIn K cd39 "Follower.rewind" = true) (k39 : PySem.W.keepIn K (.ref f_Follower_rewind) = true)
    (a40 : PySem.W.nsIn K mainGlobals "format_watcher" = some (some (.ref f_format_watcher)))
    (l40 : K.lookup f_format_watcher = some ⟨oc40, od40, .func (PySem.W.fnOf "format_watcher" "format_watcher" (defArgs s_format_watcher) (defBody s_format_watcher) (defScope s_format_watcher) .none kV40 dc40 pm40 an40 cd40 ct40), sl40⟩) (c40 : PySem.W.codeIn K cd40 "format_watcher" = true) (k40 : PySem.W.keepIn K (.ref f_format_watcher) = true)
    (a41 : PySem.W.nsIn K mainGlobals "format_stream" = some (some (.ref f_format_stream)))
    (l41 : K.lookup f_format_stream = some ⟨oc41, od41, .func (PySem.W.fnOf "format_stream" "format_stream" (defArgs s_format_stream) (defBody s_format_stream) (defScope s_format_stream) .none kV41 dc41 pm41 an41 cd41 ct41), sl41⟩) (c41 : PySem.W.codeIn K cd41 "format_stream" = true) (k41 : PySem.W.keepIn K (.ref f_format_stream) = true)
    (a42 : PySem.W.nsIn K mainGlobals "parse_watcher" = some (some (.ref f_parse_watcher)))
    (l42 : K.lookup f_parse_watcher = some ⟨oc42, od42, .func (PySem.W.fnOf "parse_watcher" "parse_watcher" (defArgs s_parse_watcher) (defBody s_parse_watcher) (defScope s_parse_watcher) .none kV42 dc42 pm42 an42 cd42 ct42), sl42⟩) (c42 : PySem.W.codeIn K cd42 "parse_watcher" = true) (k42 : PySem.W.keepIn K (.ref f_parse_watcher) = true)
    (a43 : PySem.W.nsIn K mainGlobals "read_line" = some (some (.ref f_read_line)))
    (l43 : K.lookup f_read_line = some ⟨oc43, od43, .func (PySem.W.fnOf "read_line" "read_line" (defArgs s_read_line) (defBody s_read_line) (defScope s_read_line) .none kV43 dc43 pm43 an43 cd43 ct43), sl43⟩) (c43 : PySem.W.codeIn K cd43 "read_line" = true) (k43 : PySem.W.keepIn K (.ref f_read_line) = true)
    (a44 : PySem.W.nsIn K mainGlobals "read_parts" = some (some (.ref f_read_parts)))
    (l44 : K.lookup f_read_parts = some ⟨oc44, od44, .func (PySem.W.fnOf "read_parts" "read_parts" (defArgs s_read_parts) (defBody s_read_parts) (defScope s_read_parts) .none kV44 dc44 pm44 an44 cd44 ct44), sl44⟩) (c44 : PySem.W.codeIn K cd44 "read_parts" = true) (k44 : PySem.W.keepIn K (.ref f_read_parts) = true)
    (a45 : PySem.W.nsIn K mainGlobals "read_start" = some (some (.ref f_read_start)))
    (l45 : K.lookup f_read_start = some ⟨oc45, od45, .func (PySem.W.fnOf "read_start" "read_start" (defArgs s_read_start) (defBody s_read_start) (defScope s_read_start) .none kV45 dc45 pm45 an45 cd45 ct45), sl45⟩) (c45 : PySem.W.codeIn K cd45 "read_start" = true) (k45 : PySem.W.keepIn K (.ref f_read_start) = true)
    (a46 : PySem.W.nsIn K mainGlobals "read_state" = some (some (.ref f_read_state)))
    (l46 : K.lookup f_read_state = some ⟨oc46, od46, .func (PySem.W.fnOf "read_state" "read_state" (defArgs s_read_state) (defBody s_read_state) (defScope s_read_state) .none kV46 dc46 pm46 an46 cd46 ct46), sl46⟩) (c46 : PySem.W.codeIn K cd46 "read_state" = true) (k46 : PySem.W.keepIn K (.ref f_read_state) = true)
    (a47 : PySem.W.nsIn K mainGlobals "read_rule" = some (some (.ref f_read_rule)))
    (l47 : K.lookup f_read_rule = some ⟨oc47, od47, .func (PySem.W.fnOf "read_rule" "read_rule" (defArgs s_read_rule) (defBody s_read_rule) (defScope s_read_rule) .none kV47 dc47 pm47 an47 cd47 ct47), sl47⟩) (c47 : PySem.W.codeIn K cd47 "read_rule" = true) (k47 : PySem.W.keepIn K (.ref f_read_rule) = true)
    (a48 : PySem.W.nsIn K mainGlobals "parse_stream" = some (some (.ref f_parse_stream)))
    (l48 : K.lookup f_parse_stream = some ⟨oc48, od48, .func (PySem.W.fnOf "parse_stream" "parse_stream" (defArgs s_parse_stream) (defBody s_parse_stream) (defScope s_parse_stream) .none kV48 dc48 pm48 an48 cd48 ct48), sl48⟩) (c48 : PySem.W.codeIn K cd48 "parse_stream" = true) (k48 : PySem.W.keepIn K (.ref f_parse_stream) = true)
    (a49 : PySem.W.nsIn K mainGlobals "is_written_value" = some (some (.ref f_is_written_value)))
    (l49 : K.lookup f_is_written_value = some ⟨oc49, od49, .func (PySem.W.fnOf "is_written_value" "is_written_value" (defArgs s_is_written_value) (defBody s_is_written_value) (defScope s_is_written_value) .none kV49 dc49 pm49 an49 cd49 ct49), sl49⟩) (c49 : PySem.W.codeIn K cd49 "is_written_value" = true) (k49 : PySem.W.keepIn K (.ref f_is_written_value) = true)
    (a50 : PySem.W.nsIn K mainGlobals "_law_kinds" = some (some (.ref f_law_kinds)))
    (l50 : K.lookup f_law_kinds = some ⟨oc50, od50, .func (PySem.W.fnOf "_law_kinds" "_law_kinds" (defArgs s_law_kinds) (defBody s_law_kinds) (defScope s_law_kinds) .none kV50 dc50 pm50 an50 cd50 ct50), sl50⟩) (c50 : PySem.W.codeIn K cd50 "_law_kinds" = true) (k50 : PySem.W.keepIn K (.ref f_law_kinds) = true)
    (a51 : PySem.W.nsIn K mainGlobals "_law_built_in" = some (some (.ref f_law_built_in)))
    (l51 : K.lookup f_law_built_in = some ⟨oc51, od51, .func (PySem.W.fnOf "_law_built_in" "_law_built_in" (defArgs s_law_built_in) (defBody s_law_built_in) (defScope s_law_built_in) .none kV51 dc51 pm51 an51 cd51 ct51), sl51⟩) (c51 : PySem.W.codeIn K cd51 "_law_built_in" = true) (k51 : PySem.W.keepIn K (.ref f_law_built_in) = true)
    (a52 : PySem.W.nsIn K mainGlobals "_law_errors_right" = some (some (.ref f_law_errors_right)))
    (l52 : K.lookup f_law_errors_right = some ⟨oc52, od52, .func (PySem.W.fnOf "_law_errors_right" "_law_errors_right" (defArgs s_law_errors_right) (defBody s_law_errors_right) (defScope s_law_errors_right) .none kV52 dc52 pm52 an52 cd52 ct52), sl52⟩) (c52 : PySem.W.codeIn K cd52 "_law_errors_right" = true) (k52 : PySem.W.keepIn K (.ref f_law_errors_right) = true)
    (a53 : PySem.W.nsIn K mainGlobals "law" = some (some (.ref f_law)))
    (l53 : K.lookup f_law = some ⟨oc53, od53, .func (PySem.W.fnOf "law" "law" (defArgs s_law) (defBody s_law) (defScope s_law) .none kV53 dc53 pm53 an53 cd53 ct53), sl53⟩) (c53 : PySem.W.codeIn K cd53 "law" = true) (k53 : PySem.W.keepIn K (.ref f_law) = true)
    (tf_Watcher_len : PySem.W.typeIn K (.ref f_Watcher_len) = some (.type "function"))
    (wC_Watcher : PySem.W.nsIn K mainGlobals "Watcher" = some (some (.ref C_Watcher))) (pg_Watcher : PySem.W.plainGet K C_Watcher Str.empty = true) (hd_Watcher : PySem.W.hasDictIn K C_Watcher = true) (po_Watcher : PySem.W.plainOver K C_Watcher = true) (sa_Watcher : PySem.W.findIn K (.ref C_Watcher) "__setattr__" = some (some (.builtin "object.__setattr__"))) (mk_Watcher : PySem.W.makesIn K C_Watcher = true) (kc_Watcher : PySem.W.keepIn K (.ref C_Watcher) = true)
    (nf_Watcherwords : PySem.W.findIn K (.ref C_Watcher) "words" = some none)
    (nf_Watcher_verdicts : PySem.W.findIn K (.ref C_Watcher) "_verdicts" = some none)
    (nf_Watcher_held : PySem.W.findIn K (.ref C_Watcher) "_held" = some none)
    (nf_Watcher_rules : PySem.W.findIn K (.ref C_Watcher) "_rules" = some none)
    (wC_Follower : PySem.W.nsIn K mainGlobals "Follower" = some (some (.ref C_Follower))) (pg_Follower : PySem.W.plainGet K C_Follower Str.empty = true) (hd_Follower : PySem.W.hasDictIn K C_Follower = true) (po_Follower : PySem.W.plainOver K C_Follower = true) (sa_Follower : PySem.W.findIn K (.ref C_Follower) "__setattr__" = some (some (.builtin "object.__setattr__"))) (mk_Follower : PySem.W.makesIn K C_Follower = true) (kc_Follower : PySem.W.keepIn K (.ref C_Follower) = true)
    (nf_Follower_watcher : PySem.W.findIn K (.ref C_Follower) "_watcher" = some none)
    (nf_Follower_trail : PySem.W.findIn K (.ref C_Follower) "_trail" = some none)
    {eC0 ei0 : Addr} {nm0 eq0 : Str} {eN0 : Addr} {bs0 : List Value} {sn0 : List Str} {sub0 : List Value} {ab0 : Bool} {col0 : Option Bool} {dd0 : Option Addr} {m00 m10 m20 m30 m50 : Option Value} {eod0 ean0 : Option Addr} {esl0 : Array (Option Value)} {eoc0 edc0 epm0 ecd0 ect0 : Value}
    (eaC0 : PySem.W.nsIn K mainGlobals "NotAStream" = some (some (.ref eC0))) (exL0 : K.lookup eC0 = some (excClassObj nm0 eq0 eC0 eN0 bs0 [.type "ValueError", .type "Exception", .type "BaseException", .type "object"] true sn0 sub0 ab0 col0 dd0 m00 m10 m20 m30 m50 "ValueError.__new__"))
    (esa0 : PySem.W.findIn K (.ref eC0) "__setattr__" = some (some (.builtin "object.__setattr__"))) (ega0 : PySem.W.findIn K (.ref eC0) "__getattribute__" = some (some (.builtin "BaseException.__getattribute__"))) (egg0 : PySem.W.findIn K (.ref eC0) "__getattr__" = some none) (enb0 : PySem.W.findIn K (.ref eC0) "value" = some none)
    (ea10 : PySem.W.findIn K (.ref eC0) "__init__" = some (some (.ref ei0))) (et10 : PySem.W.typeIn K (.ref ei0) = some (.type "function"))
    (el10 : K.lookup ei0 = some ⟨eoc0, eod0, .func (PySem.W.fnOf "__init__" "NotAStream.__init__" (defArgs s_NotAStream_init) (defBody s_NotAStream_init) (defScope s_NotAStream_init) .none .none edc0 epm0 ean0 ecd0 ect0), esl0⟩) (ec10 : PySem.W.codeIn K ecd0 "NotAStream.__init__" = true)
    (ekC0 : PySem.W.keepIn K (.ref eC0) = true) (eeC0 : PySem.W.subIn K (.ref eC0) (.type "BaseException") = some true) (etC0 : PySem.W.typeIn K (.ref eC0) = some (.type "type")) (ehC0 : PySem.W.hasDictIn K eC0 = true) (eiC0 : PySem.W.isClsIn K eC0 = true) (esC0 : PySem.W.subIn K (.ref eC0) (.ref eC0) = some true)
    {eC1 ei1 : Addr} {nm1 eq1 : Str} {eN1 : Addr} {bs1 : List Value} {sn1 : List Str} {sub1 : List Value} {ab1 : Bool} {col1 : Option Bool} {dd1 : Option Addr} {m01 m11 m21 m31 m51 : Option Value} {eod1 ean1 : Option Addr} {esl1 : Array (Option Value)} {eoc1 edc1 epm1 ecd1 ect1 : Value}
    (eaC1 : PySem.W.nsIn K mainGlobals "NotAWord" = some (some (.ref eC1))) (exL1 : K.lookup eC1 = some (excClassObj nm1 eq1 eC1 eN1 bs1 [.type "ValueError", .type "Exception", .type "BaseException", .type "object"] true sn1 sub1 ab1 col1 dd1 m01 m11 m21 m31 m51 "ValueError.__new__"))
    (esa1 : PySem.W.findIn K (.ref eC1) "__setattr__" = some (some (.builtin "object.__setattr__"))) (ega1 : PySem.W.findIn K (.ref eC1) "__getattribute__" = some (some (.builtin "BaseException.__getattribute__"))) (egg1 : PySem.W.findIn K (.ref eC1) "__getattr__" = some none) (enb1 : PySem.W.findIn K (.ref eC1) "word" = some none)
    (ea11 : PySem.W.findIn K (.ref eC1) "__init__" = some (some (.ref ei1))) (et11 : PySem.W.typeIn K (.ref ei1) = some (.type "function"))
    (el11 : K.lookup ei1 = some ⟨eoc1, eod1, .func (PySem.W.fnOf "__init__" "NotAWord.__init__" (defArgs s_NotAWord_init) (defBody s_NotAWord_init) (defScope s_NotAWord_init) .none .none edc1 epm1 ean1 ecd1 ect1), esl1⟩) (ec11 : PySem.W.codeIn K ecd1 "NotAWord.__init__" = true)
    (ekC1 : PySem.W.keepIn K (.ref eC1) = true) (eeC1 : PySem.W.subIn K (.ref eC1) (.type "BaseException") = some true) (etC1 : PySem.W.typeIn K (.ref eC1) = some (.type "type")) (ehC1 : PySem.W.hasDictIn K eC1 = true) (eiC1 : PySem.W.isClsIn K eC1 = true) (esC1 : PySem.W.subIn K (.ref eC1) (.ref eC1) = some true)
    {eC2 ei2 : Addr} {nm2 eq2 : Str} {eN2 : Addr} {bs2 : List Value} {sn2 : List Str} {sub2 : List Value} {ab2 : Bool} {col2 : Option Bool} {dd2 : Option Addr} {m02 m12 m22 m32 m52 : Option Value} {eod2 ean2 : Option Addr} {esl2 : Array (Option Value)} {eoc2 edc2 epm2 ecd2 ect2 : Value}
    (eaC2 : PySem.W.nsIn K mainGlobals "NotAVerdict" = some (some (.ref eC2))) (exL2 : K.lookup eC2 = some (excClassObj nm2 eq2 eC2 eN2 bs2 [.type "ValueError", .type "Exception", .type "BaseException", .type "object"] true sn2 sub2 ab2 col2 dd2 m02 m12 m22 m32 m52 "ValueError.__new__"))
    (esa2 : PySem.W.findIn K (.ref eC2) "__setattr__" = some (some (.builtin "object.__setattr__"))) (ega2 : PySem.W.findIn K (.ref eC2) "__getattribute__" = some (some (.builtin "BaseException.__getattribute__"))) (egg2 : PySem.W.findIn K (.ref eC2) "__getattr__" = some none) (enb2 : PySem.W.findIn K (.ref eC2) "verdict" = some none)
    (ea12 : PySem.W.findIn K (.ref eC2) "__init__" = some (some (.ref ei2))) (et12 : PySem.W.typeIn K (.ref ei2) = some (.type "function"))
    (el12 : K.lookup ei2 = some ⟨eoc2, eod2, .func (PySem.W.fnOf "__init__" "NotAVerdict.__init__" (defArgs s_NotAVerdict_init) (defBody s_NotAVerdict_init) (defScope s_NotAVerdict_init) .none .none edc2 epm2 ean2 ecd2 ect2), esl2⟩) (ec12 : PySem.W.codeIn K ecd2 "NotAVerdict.__init__" = true)
    (ekC2 : PySem.W.keepIn K (.ref eC2) = true) (eeC2 : PySem.W.subIn K (.ref eC2) (.type "BaseException") = some true) (etC2 : PySem.W.typeIn K (.ref eC2) = some (.type "type")) (ehC2 : PySem.W.hasDictIn K eC2 = true) (eiC2 : PySem.W.isClsIn K eC2 = true) (esC2 : PySem.W.subIn K (.ref eC2) (.ref eC2) = some true)
    {eC3 ei3 : Addr} {nm3 eq3 : Str} {eN3 : Addr} {bs3 : List Value} {sn3 : List Str} {sub3 : List Value} {ab3 : Bool} {col3 : Option Bool} {dd3 : Option Addr} {m03 m13 m23 m33 m53 : Option Value} {eod3 ean3 : Option Addr} {esl3 : Array (Option Value)} {eoc3 edc3 epm3 ecd3 ect3 : Value}
    (eaC3 : PySem.W.nsIn K mainGlobals "InvalidTest" = some (some (.ref eC3))) (exL3 : K.lookup eC3 = some (excClassObj nm3 eq3 eC3 eN3 bs3 [.type "ValueError", .type "Exception", .type "BaseException", .type "object"] true sn3 sub3 ab3 col3 dd3 m03 m13 m23 m33 m53 "ValueError.__new__"))
    (esa3 : PySem.W.findIn K (.ref eC3) "__setattr__" = some (some (.builtin "object.__setattr__"))) (ega3 : PySem.W.findIn K (.ref eC3) "__getattribute__" = some (some (.builtin "BaseException.__getattribute__"))) (egg3 : PySem.W.findIn K (.ref eC3) "__getattr__" = some none) (enb3 : PySem.W.findIn K (.ref eC3) "test" = some none)
    (ea13 : PySem.W.findIn K (.ref eC3) "__init__" = some (some (.ref ei3))) (et13 : PySem.W.typeIn K (.ref ei3) = some (.type "function"))
    (el13 : K.lookup ei3 = some ⟨eoc3, eod3, .func (PySem.W.fnOf "__init__" "InvalidTest.__init__" (defArgs s_InvalidTest_init) (defBody s_InvalidTest_init) (defScope s_InvalidTest_init) .none .none edc3 epm3 ean3 ecd3 ect3), esl3⟩) (ec13 : PySem.W.codeIn K ecd3 "InvalidTest.__init__" = true)
    (ekC3 : PySem.W.keepIn K (.ref eC3) = true) (eeC3 : PySem.W.subIn K (.ref eC3) (.type "BaseException") = some true) (etC3 : PySem.W.typeIn K (.ref eC3) = some (.type "type")) (ehC3 : PySem.W.hasDictIn K eC3 = true) (eiC3 : PySem.W.isClsIn K eC3 = true) (esC3 : PySem.W.subIn K (.ref eC3) (.ref eC3) = some true)
    {eC4 ei4 : Addr} {nm4 eq4 : Str} {eN4 : Addr} {bs4 : List Value} {sn4 : List Str} {sub4 : List Value} {ab4 : Bool} {col4 : Option Bool} {dd4 : Option Addr} {m04 m14 m24 m34 m54 : Option Value} {eod4 ean4 : Option Addr} {esl4 : Array (Option Value)} {eoc4 edc4 epm4 ecd4 ect4 : Value}
    (eaC4 : PySem.W.nsIn K mainGlobals "InvalidSources" = some (some (.ref eC4))) (exL4 : K.lookup eC4 = some (excClassObj nm4 eq4 eC4 eN4 bs4 [.type "ValueError", .type "Exception", .type "BaseException", .type "object"] true sn4 sub4 ab4 col4 dd4 m04 m14 m24 m34 m54 "ValueError.__new__"))
    (esa4 : PySem.W.findIn K (.ref eC4) "__setattr__" = some (some (.builtin "object.__setattr__"))) (ega4 : PySem.W.findIn K (.ref eC4) "__getattribute__" = some (some (.builtin "BaseException.__getattribute__"))) (egg4 : PySem.W.findIn K (.ref eC4) "__getattr__" = some none) (enb4 : PySem.W.findIn K (.ref eC4) "sources" = some none)
    (ea14 : PySem.W.findIn K (.ref eC4) "__init__" = some (some (.ref ei4))) (et14 : PySem.W.typeIn K (.ref ei4) = some (.type "function"))
    (el14 : K.lookup ei4 = some ⟨eoc4, eod4, .func (PySem.W.fnOf "__init__" "InvalidSources.__init__" (defArgs s_InvalidSources_init) (defBody s_InvalidSources_init) (defScope s_InvalidSources_init) .none .none edc4 epm4 ean4 ecd4 ect4), esl4⟩) (ec14 : PySem.W.codeIn K ecd4 "InvalidSources.__init__" = true)
    (ekC4 : PySem.W.keepIn K (.ref eC4) = true) (eeC4 : PySem.W.subIn K (.ref eC4) (.type "BaseException") = some true) (etC4 : PySem.W.typeIn K (.ref eC4) = some (.type "type")) (ehC4 : PySem.W.hasDictIn K eC4 = true) (eiC4 : PySem.W.isClsIn K eC4 = true) (esC4 : PySem.W.subIn K (.ref eC4) (.ref eC4) = some true)
    {eC5 ei5 : Addr} {nm5 eq5 : Str} {eN5 : Addr} {bs5 : List Value} {sn5 : List Str} {sub5 : List Value} {ab5 : Bool} {col5 : Option Bool} {dd5 : Option Addr} {m05 m15 m25 m35 m55 : Option Value} {eod5 ean5 : Option Addr} {esl5 : Array (Option Value)} {eoc5 edc5 epm5 ecd5 ect5 : Value}
    (eaC5 : PySem.W.nsIn K mainGlobals "ParseError" = some (some (.ref eC5))) (exL5 : K.lookup eC5 = some (excClassObj nm5 eq5 eC5 eN5 bs5 [.type "ValueError", .type "Exception", .type "BaseException", .type "object"] true sn5 sub5 ab5 col5 dd5 m05 m15 m25 m35 m55 "ValueError.__new__"))
    (esa5 : PySem.W.findIn K (.ref eC5) "__setattr__" = some (some (.builtin "object.__setattr__"))) (ega5 : PySem.W.findIn K (.ref eC5) "__getattribute__" = some (some (.builtin "BaseException.__getattribute__"))) (egg5 : PySem.W.findIn K (.ref eC5) "__getattr__" = some none) (enb5 : PySem.W.findIn K (.ref eC5) "line" = some none)
    (ea15 : PySem.W.findIn K (.ref eC5) "__init__" = some (some (.ref ei5))) (et15 : PySem.W.typeIn K (.ref ei5) = some (.type "function"))
    (el15 : K.lookup ei5 = some ⟨eoc5, eod5, .func (PySem.W.fnOf "__init__" "ParseError.__init__" (defArgs s_ParseError_init) (defBody s_ParseError_init) (defScope s_ParseError_init) .none .none edc5 epm5 ean5 ecd5 ect5), esl5⟩) (ec15 : PySem.W.codeIn K ecd5 "ParseError.__init__" = true)
    (ekC5 : PySem.W.keepIn K (.ref eC5) = true) (eeC5 : PySem.W.subIn K (.ref eC5) (.type "BaseException") = some true) (etC5 : PySem.W.typeIn K (.ref eC5) = some (.type "type")) (ehC5 : PySem.W.hasDictIn K eC5 = true) (eiC5 : PySem.W.isClsIn K eC5 = true) (esC5 : PySem.W.subIn K (.ref eC5) (.ref eC5) = some true)
    {eC6 ei6 : Addr} {nm6 eq6 : Str} {eN6 : Addr} {bs6 : List Value} {sn6 : List Str} {sub6 : List Value} {ab6 : Bool} {col6 : Option Bool} {dd6 : Option Addr} {m06 m16 m26 m36 m56 : Option Value} {eod6 ean6 : Option Addr} {esl6 : Array (Option Value)} {eoc6 edc6 epm6 ecd6 ect6 : Value}
    (eaC6 : PySem.W.nsIn K mainGlobals "UnknownState" = some (some (.ref eC6))) (exL6 : K.lookup eC6 = some (excClassObj nm6 eq6 eC6 eN6 bs6 [.type "LookupError", .type "Exception", .type "BaseException", .type "object"] true sn6 sub6 ab6 col6 dd6 m06 m16 m26 m36 m56 "LookupError.__new__"))
    (esa6 : PySem.W.findIn K (.ref eC6) "__setattr__" = some (some (.builtin "object.__setattr__"))) (ega6 : PySem.W.findIn K (.ref eC6) "__getattribute__" = some (some (.builtin "BaseException.__getattribute__"))) (egg6 : PySem.W.findIn K (.ref eC6) "__getattr__" = some none) (enb6 : PySem.W.findIn K (.ref eC6) "state" = some none)
    (ea16 : PySem.W.findIn K (.ref eC6) "__init__" = some (some (.ref ei6))) (et16 : PySem.W.typeIn K (.ref ei6) = some (.type "function"))
    (el16 : K.lookup ei6 = some ⟨eoc6, eod6, .func (PySem.W.fnOf "__init__" "UnknownState.__init__" (defArgs s_UnknownState_init) (defBody s_UnknownState_init) (defScope s_UnknownState_init) .none .none edc6 epm6 ean6 ecd6 ect6), esl6⟩) (ec16 : PySem.W.codeIn K ecd6 "UnknownState.__init__" = true)
    (ekC6 : PySem.W.keepIn K (.ref eC6) = true) (eeC6 : PySem.W.subIn K (.ref eC6) (.type "BaseException") = some true) (etC6 : PySem.W.typeIn K (.ref eC6) = some (.type "type")) (ehC6 : PySem.W.hasDictIn K eC6 = true) (eiC6 : PySem.W.isClsIn K eC6 = true) (esC6 : PySem.W.subIn K (.ref eC6) (.ref eC6) = some true)
    {eC7 ei7 : Addr} {nm7 eq7 : Str} {eN7 : Addr} {bs7 : List Value} {sn7 : List Str} {sub7 : List Value} {ab7 : Bool} {col7 : Option Bool} {dd7 : Option Addr} {m07 m17 m27 m37 m57 : Option Value} {eod7 ean7 : Option Addr} {esl7 : Array (Option Value)} {eoc7 edc7 epm7 ecd7 ect7 : Value}
    (eaC7 : PySem.W.nsIn K mainGlobals "UnknownRule" = some (some (.ref eC7))) (exL7 : K.lookup eC7 = some (excClassObj nm7 eq7 eC7 eN7 bs7 [.type "LookupError", .type "Exception", .type "BaseException", .type "object"] true sn7 sub7 ab7 col7 dd7 m07 m17 m27 m37 m57 "LookupError.__new__"))
    (esa7 : PySem.W.findIn K (.ref eC7) "__setattr__" = some (some (.builtin "object.__setattr__"))) (ega7 : PySem.W.findIn K (.ref eC7) "__getattribute__" = some (some (.builtin "BaseException.__getattribute__"))) (egg7 : PySem.W.findIn K (.ref eC7) "__getattr__" = some none) (enb7 : PySem.W.findIn K (.ref eC7) "rule" = some none)
    (ea17 : PySem.W.findIn K (.ref eC7) "__init__" = some (some (.ref ei7))) (et17 : PySem.W.typeIn K (.ref ei7) = some (.type "function"))
    (el17 : K.lookup ei7 = some ⟨eoc7, eod7, .func (PySem.W.fnOf "__init__" "UnknownRule.__init__" (defArgs s_UnknownRule_init) (defBody s_UnknownRule_init) (defScope s_UnknownRule_init) .none .none edc7 epm7 ean7 ecd7 ect7), esl7⟩) (ec17 : PySem.W.codeIn K ecd7 "UnknownRule.__init__" = true)
    (ekC7 : PySem.W.keepIn K (.ref eC7) = true) (eeC7 : PySem.W.subIn K (.ref eC7) (.type "BaseException") = some true) (etC7 : PySem.W.typeIn K (.ref eC7) = some (.type "type")) (ehC7 : PySem.W.hasDictIn K eC7 = true) (eiC7 : PySem.W.isClsIn K eC7 = true) (esC7 : PySem.W.subIn K (.ref eC7) (.ref eC7) = some true)
    {eC8 ei8 : Addr} {nm8 eq8 : Str} {eN8 : Addr} {bs8 : List Value} {sn8 : List Str} {sub8 : List Value} {ab8 : Bool} {col8 : Option Bool} {dd8 : Option Addr} {m08 m18 m28 m38 m58 : Option Value} {eod8 ean8 : Option Addr} {esl8 : Array (Option Value)} {eoc8 edc8 epm8 ecd8 ect8 : Value}
    (eaC8 : PySem.W.nsIn K mainGlobals "UnknownCheckpoint" = some (some (.ref eC8))) (exL8 : K.lookup eC8 = some (excClassObj nm8 eq8 eC8 eN8 bs8 [.type "LookupError", .type "Exception", .type "BaseException", .type "object"] true sn8 sub8 ab8 col8 dd8 m08 m18 m28 m38 m58 "LookupError.__new__"))
    (esa8 : PySem.W.findIn K (.ref eC8) "__setattr__" = some (some (.builtin "object.__setattr__"))) (ega8 : PySem.W.findIn K (.ref eC8) "__getattribute__" = some (some (.builtin "BaseException.__getattribute__"))) (egg8 : PySem.W.findIn K (.ref eC8) "__getattr__" = some none) (enb8 : PySem.W.findIn K (.ref eC8) "number" = some none)
    (ea18 : PySem.W.findIn K (.ref eC8) "__init__" = some (some (.ref ei8))) (et18 : PySem.W.typeIn K (.ref ei8) = some (.type "function"))
    (el18 : K.lookup ei8 = some ⟨eoc8, eod8, .func (PySem.W.fnOf "__init__" "UnknownCheckpoint.__init__" (defArgs s_UnknownCheckpoint_init) (defBody s_UnknownCheckpoint_init) (defScope s_UnknownCheckpoint_init) .none .none edc8 epm8 ean8 ecd8 ect8), esl8⟩) (ec18 : PySem.W.codeIn K ecd8 "UnknownCheckpoint.__init__" = true)
    (ekC8 : PySem.W.keepIn K (.ref eC8) = true) (eeC8 : PySem.W.subIn K (.ref eC8) (.type "BaseException") = some true) (etC8 : PySem.W.typeIn K (.ref eC8) = some (.type "type")) (ehC8 : PySem.W.hasDictIn K eC8 = true) (eiC8 : PySem.W.isClsIn K eC8 = true) (esC8 : PySem.W.subIn K (.ref eC8) (.ref eC8) = some true)
    {eC9 ei9 : Addr} {nm9 eq9 : Str} {eN9 : Addr} {bs9 : List Value} {sn9 : List Str} {sub9 : List Value} {ab9 : Bool} {col9 : Option Bool} {dd9 : Option Addr} {m09 m19 m29 m39 m59 : Option Value} {eod9 ean9 : Option Addr} {esl9 : Array (Option Value)} {eoc9 edc9 epm9 ecd9 ect9 : Value}
    (eaC9 : PySem.W.nsIn K mainGlobals "UnknownRecord" = some (some (.ref eC9))) (exL9 : K.lookup eC9 = some (excClassObj nm9 eq9 eC9 eN9 bs9 [.type "LookupError", .type "Exception", .type "BaseException", .type "object"] true sn9 sub9 ab9 col9 dd9 m09 m19 m29 m39 m59 "LookupError.__new__"))
    (esa9 : PySem.W.findIn K (.ref eC9) "__setattr__" = some (some (.builtin "object.__setattr__"))) (ega9 : PySem.W.findIn K (.ref eC9) "__getattribute__" = some (some (.builtin "BaseException.__getattribute__"))) (egg9 : PySem.W.findIn K (.ref eC9) "__getattr__" = some none) (enb9 : PySem.W.findIn K (.ref eC9) "number" = some none)
    (ea19 : PySem.W.findIn K (.ref eC9) "__init__" = some (some (.ref ei9))) (et19 : PySem.W.typeIn K (.ref ei9) = some (.type "function"))
    (el19 : K.lookup ei9 = some ⟨eoc9, eod9, .func (PySem.W.fnOf "__init__" "UnknownRecord.__init__" (defArgs s_UnknownRecord_init) (defBody s_UnknownRecord_init) (defScope s_UnknownRecord_init) .none .none edc9 epm9 ean9 ecd9 ect9), esl9⟩) (ec19 : PySem.W.codeIn K ecd9 "UnknownRecord.__init__" = true)
    (ekC9 : PySem.W.keepIn K (.ref eC9) = true) (eeC9 : PySem.W.subIn K (.ref eC9) (.type "BaseException") = some true) (etC9 : PySem.W.typeIn K (.ref eC9) = some (.type "type")) (ehC9 : PySem.W.hasDictIn K eC9 = true) (eiC9 : PySem.W.isClsIn K eC9 = true) (esC9 : PySem.W.subIn K (.ref eC9) (.ref eC9) = some true)
    {eC10 ei10 : Addr} {nm10 eq10 : Str} {eN10 : Addr} {bs10 : List Value} {sn10 : List Str} {sub10 : List Value} {ab10 : Bool} {col10 : Option Bool} {dd10 : Option Addr} {m010 m110 m210 m310 m510 : Option Value} {eod10 ean10 : Option Addr} {esl10 : Array (Option Value)} {eoc10 edc10 epm10 ecd10 ect10 : Value}
    (eaC10 : PySem.W.nsIn K mainGlobals "RuleExists" = some (some (.ref eC10))) (exL10 : K.lookup eC10 = some (excClassObj nm10 eq10 eC10 eN10 bs10 [.type "RuntimeError", .type "Exception", .type "BaseException", .type "object"] true sn10 sub10 ab10 col10 dd10 m010 m110 m210 m310 m510 "RuntimeError.__new__"))
    (esa10 : PySem.W.findIn K (.ref eC10) "__setattr__" = some (some (.builtin "object.__setattr__"))) (ega10 : PySem.W.findIn K (.ref eC10) "__getattribute__" = some (some (.builtin "BaseException.__getattribute__"))) (egg10 : PySem.W.findIn K (.ref eC10) "__getattr__" = some none) (enb10 : PySem.W.findIn K (.ref eC10) "rule" = some none)
    (ea110 : PySem.W.findIn K (.ref eC10) "__init__" = some (some (.ref ei10))) (et110 : PySem.W.typeIn K (.ref ei10) = some (.type "function"))
    (el110 : K.lookup ei10 = some ⟨eoc10, eod10, .func (PySem.W.fnOf "__init__" "RuleExists.__init__" (defArgs s_RuleExists_init) (defBody s_RuleExists_init) (defScope s_RuleExists_init) .none .none edc10 epm10 ean10 ecd10 ect10), esl10⟩) (ec110 : PySem.W.codeIn K ecd10 "RuleExists.__init__" = true)
    (ekC10 : PySem.W.keepIn K (.ref eC10) = true) (eeC10 : PySem.W.subIn K (.ref eC10) (.type "BaseException") = some true) (etC10 : PySem.W.typeIn K (.ref eC10) = some (.type "type")) (ehC10 : PySem.W.hasDictIn K eC10 = true) (eiC10 : PySem.W.isClsIn K eC10 = true) (esC10 : PySem.W.subIn K (.ref eC10) (.ref eC10) = some true)
    {eC11 ei11 : Addr} {nm11 eq11 : Str} {eN11 : Addr} {bs11 : List Value} {sn11 : List Str} {sub11 : List Value} {ab11 : Bool} {col11 : Option Bool} {dd11 : Option Addr} {m011 m111 m211 m311 m511 : Option Value} {eod11 ean11 : Option Addr} {esl11 : Array (Option Value)} {eoc11 edc11 epm11 ecd11 ect11 : Value}
    (eaC11 : PySem.W.nsIn K mainGlobals "TooFar" = some (some (.ref eC11))) (exL11 : K.lookup eC11 = some (excClassObj nm11 eq11 eC11 eN11 bs11 [.type "RuntimeError", .type "Exception", .type "BaseException", .type "object"] true sn11 sub11 ab11 col11 dd11 m011 m111 m211 m311 m511 "RuntimeError.__new__"))
    (esa11 : PySem.W.findIn K (.ref eC11) "__setattr__" = some (some (.builtin "object.__setattr__"))) (ega11 : PySem.W.findIn K (.ref eC11) "__getattribute__" = some (some (.builtin "BaseException.__getattribute__"))) (egg11 : PySem.W.findIn K (.ref eC11) "__getattr__" = some none) (enb11 : PySem.W.findIn K (.ref eC11) "many" = some none)
    (ea111 : PySem.W.findIn K (.ref eC11) "__init__" = some (some (.ref ei11))) (et111 : PySem.W.typeIn K (.ref ei11) = some (.type "function"))
    (el111 : K.lookup ei11 = some ⟨eoc11, eod11, .func (PySem.W.fnOf "__init__" "TooFar.__init__" (defArgs s_TooFar_init) (defBody s_TooFar_init) (defScope s_TooFar_init) .none .none edc11 epm11 ean11 ecd11 ect11), esl11⟩) (ec111 : PySem.W.codeIn K ecd11 "TooFar.__init__" = true)
    (ekC11 : PySem.W.keepIn K (.ref eC11) = true) (eeC11 : PySem.W.subIn K (.ref eC11) (.type "BaseException") = some true) (etC11 : PySem.W.typeIn K (.ref eC11) = some (.type "type")) (ehC11 : PySem.W.hasDictIn K eC11 = true) (eiC11 : PySem.W.isClsIn K eC11 = true) (esC11 : PySem.W.subIn K (.ref eC11) (.ref eC11) = some true)
    {eC12 ei12 : Addr} {nm12 eq12 : Str} {eN12 : Addr} {bs12 : List Value} {sn12 : List Str} {sub12 : List Value} {ab12 : Bool} {col12 : Option Bool} {dd12 : Option Addr} {m012 m112 m212 m312 m512 : Option Value} {eod12 ean12 : Option Addr} {esl12 : Array (Option Value)} {eoc12 edc12 epm12 ecd12 ect12 : Value}
    (eaC12 : PySem.W.nsIn K mainGlobals "LimitExceeded" = some (some (.ref eC12))) (exL12 : K.lookup eC12 = some (excClassObj nm12 eq12 eC12 eN12 bs12 [.type "OverflowError", .type "ArithmeticError", .type "Exception", .type "BaseException", .type "object"] true sn12 sub12 ab12 col12 dd12 m012 m112 m212 m312 m512 "OverflowError.__new__"))
    (esa12 : PySem.W.findIn K (.ref eC12) "__setattr__" = some (some (.builtin "object.__setattr__"))) (ega12 : PySem.W.findIn K (.ref eC12) "__getattribute__" = some (some (.builtin "BaseException.__getattribute__"))) (egg12 : PySem.W.findIn K (.ref eC12) "__getattr__" = some none) (enb12 : PySem.W.findIn K (.ref eC12) "limit" = some none)
    (ea112 : PySem.W.findIn K (.ref eC12) "__init__" = some (some (.ref ei12))) (et112 : PySem.W.typeIn K (.ref ei12) = some (.type "function"))
    (el112 : K.lookup ei12 = some ⟨eoc12, eod12, .func (PySem.W.fnOf "__init__" "LimitExceeded.__init__" (defArgs s_LimitExceeded_init) (defBody s_LimitExceeded_init) (defScope s_LimitExceeded_init) .none .none edc12 epm12 ean12 ecd12 ect12), esl12⟩) (ec112 : PySem.W.codeIn K ecd12 "LimitExceeded.__init__" = true)
    (ekC12 : PySem.W.keepIn K (.ref eC12) = true) (eeC12 : PySem.W.subIn K (.ref eC12) (.type "BaseException") = some true) (etC12 : PySem.W.typeIn K (.ref eC12) = some (.type "type")) (ehC12 : PySem.W.hasDictIn K eC12 = true) (eiC12 : PySem.W.isClsIn K eC12 = true) (esC12 : PySem.W.subIn K (.ref eC12) (.ref eC12) = some true)
    (ap_UnknownState_NotAVerdict : PySem.W.subIn K (.ref eC6) (.ref eC2) = some false)
    (ap_UnknownState_LimitExceeded : PySem.W.subIn K (.ref eC6) (.ref eC12) = some false)
    (ap_UnknownState_NotAWord : PySem.W.subIn K (.ref eC6) (.ref eC1) = some false)
    (ap_UnknownState_InvalidTest : PySem.W.subIn K (.ref eC6) (.ref eC3) = some false)
    (ap_UnknownState_InvalidSources : PySem.W.subIn K (.ref eC6) (.ref eC4) = some false)
    (ap_UnknownState_RuleExists : PySem.W.subIn K (.ref eC6) (.ref eC10) = some false)
    (ap_NotAVerdict_UnknownState : PySem.W.subIn K (.ref eC2) (.ref eC6) = some false)
    (ap_NotAVerdict_LimitExceeded : PySem.W.subIn K (.ref eC2) (.ref eC12) = some false)
    (ap_NotAVerdict_NotAWord : PySem.W.subIn K (.ref eC2) (.ref eC1) = some false)
    (ap_NotAVerdict_InvalidTest : PySem.W.subIn K (.ref eC2) (.ref eC3) = some false)
    (ap_NotAVerdict_InvalidSources : PySem.W.subIn K (.ref eC2) (.ref eC4) = some false)
    (ap_NotAVerdict_RuleExists : PySem.W.subIn K (.ref eC2) (.ref eC10) = some false)
    (ap_LimitExceeded_UnknownState : PySem.W.subIn K (.ref eC12) (.ref eC6) = some false)
    (ap_LimitExceeded_NotAVerdict : PySem.W.subIn K (.ref eC12) (.ref eC2) = some false)
    (ap_LimitExceeded_NotAWord : PySem.W.subIn K (.ref eC12) (.ref eC1) = some false)
    (ap_LimitExceeded_InvalidTest : PySem.W.subIn K (.ref eC12) (.ref eC3) = some false)
    (ap_LimitExceeded_InvalidSources : PySem.W.subIn K (.ref eC12) (.ref eC4) = some false)
    (ap_LimitExceeded_RuleExists : PySem.W.subIn K (.ref eC12) (.ref eC10) = some false)
    (ap_NotAWord_UnknownState : PySem.W.subIn K (.ref eC1) (.ref eC6) = some false)
    (ap_NotAWord_NotAVerdict : PySem.W.subIn K (.ref eC1) (.ref eC2) = some false)
    (ap_NotAWord_LimitExceeded : PySem.W.subIn K (.ref eC1) (.ref eC12) = some false)
    (ap_NotAWord_InvalidTest : PySem.W.subIn K (.ref eC1) (.ref eC3) = some false)
    (ap_NotAWord_InvalidSources : PySem.W.subIn K (.ref eC1) (.ref eC4) = some false)
    (ap_NotAWord_RuleExists : PySem.W.subIn K (.ref eC1) (.ref eC10) = some false)
    (ap_InvalidTest_UnknownState : PySem.W.subIn K (.ref eC3) (.ref eC6) = some false)
    (ap_InvalidTest_NotAVerdict : PySem.W.subIn K (.ref eC3) (.ref eC2) = some false)
    (ap_InvalidTest_LimitExceeded : PySem.W.subIn K (.ref eC3) (.ref eC12) = some false)
    (ap_InvalidTest_NotAWord : PySem.W.subIn K (.ref eC3) (.ref eC1) = some false)
    (ap_InvalidTest_InvalidSources : PySem.W.subIn K (.ref eC3) (.ref eC4) = some false)
    (ap_InvalidTest_RuleExists : PySem.W.subIn K (.ref eC3) (.ref eC10) = some false)
    (ap_InvalidSources_UnknownState : PySem.W.subIn K (.ref eC4) (.ref eC6) = some false)
    (ap_InvalidSources_NotAVerdict : PySem.W.subIn K (.ref eC4) (.ref eC2) = some false)
    (ap_InvalidSources_LimitExceeded : PySem.W.subIn K (.ref eC4) (.ref eC12) = some false)
    (ap_InvalidSources_NotAWord : PySem.W.subIn K (.ref eC4) (.ref eC1) = some false)
    (ap_InvalidSources_InvalidTest : PySem.W.subIn K (.ref eC4) (.ref eC3) = some false)
    (ap_InvalidSources_RuleExists : PySem.W.subIn K (.ref eC4) (.ref eC10) = some false)
    (ap_RuleExists_UnknownState : PySem.W.subIn K (.ref eC10) (.ref eC6) = some false)
    (ap_RuleExists_NotAVerdict : PySem.W.subIn K (.ref eC10) (.ref eC2) = some false)
    (ap_RuleExists_LimitExceeded : PySem.W.subIn K (.ref eC10) (.ref eC12) = some false)
    (ap_RuleExists_NotAWord : PySem.W.subIn K (.ref eC10) (.ref eC1) = some false)
    (ap_RuleExists_InvalidTest : PySem.W.subIn K (.ref eC10) (.ref eC3) = some false)
    (ap_RuleExists_InvalidSources : PySem.W.subIn K (.ref eC10) (.ref eC4) = some false)
    (ixn : PySem.W.specialIn K (.builtin "object.__class__") "__get__" = some (some (.builtin "getset_descriptor.__get__"))) (ixt : PySem.W.takesIn K (.builtin "object.__class__") = some true)
    (ixa_NotAStream : PySem.W.findIn K (.ref eC0) "__class__" = some (some (.builtin "object.__class__"))) (ixm_NotAStream : PySem.W.mroIn K eC0 (.type "object") = some true)
    (ixa_NotAWord : PySem.W.findIn K (.ref eC1) "__class__" = some (some (.builtin "object.__class__"))) (ixm_NotAWord : PySem.W.mroIn K eC1 (.type "object") = some true)
    (ixa_NotAVerdict : PySem.W.findIn K (.ref eC2) "__class__" = some (some (.builtin "object.__class__"))) (ixm_NotAVerdict : PySem.W.mroIn K eC2 (.type "object") = some true)
    (ixa_InvalidTest : PySem.W.findIn K (.ref eC3) "__class__" = some (some (.builtin "object.__class__"))) (ixm_InvalidTest : PySem.W.mroIn K eC3 (.type "object") = some true)
    (ixa_InvalidSources : PySem.W.findIn K (.ref eC4) "__class__" = some (some (.builtin "object.__class__"))) (ixm_InvalidSources : PySem.W.mroIn K eC4 (.type "object") = some true)
    (ixa_ParseError : PySem.W.findIn K (.ref eC5) "__class__" = some (some (.builtin "object.__class__"))) (ixm_ParseError : PySem.W.mroIn K eC5 (.type "object") = some true)
    (ixa_UnknownState : PySem.W.findIn K (.ref eC6) "__class__" = some (some (.builtin "object.__class__"))) (ixm_UnknownState : PySem.W.mroIn K eC6 (.type "object") = some true)
    (ixa_UnknownRule : PySem.W.findIn K (.ref eC7) "__class__" = some (some (.builtin "object.__class__"))) (ixm_UnknownRule : PySem.W.mroIn K eC7 (.type "object") = some true)
    (ixa_UnknownCheckpoint : PySem.W.findIn K (.ref eC8) "__class__" = some (some (.builtin "object.__class__"))) (ixm_UnknownCheckpoint : PySem.W.mroIn K eC8 (.type "object") = some true)
    (ixa_UnknownRecord : PySem.W.findIn K (.ref eC9) "__class__" = some (some (.builtin "object.__class__"))) (ixm_UnknownRecord : PySem.W.mroIn K eC9 (.type "object") = some true)
    (ixa_RuleExists : PySem.W.findIn K (.ref eC10) "__class__" = some (some (.builtin "object.__class__"))) (ixm_RuleExists : PySem.W.mroIn K eC10 (.type "object") = some true)
    (ixa_TooFar : PySem.W.findIn K (.ref eC11) "__class__" = some (some (.builtin "object.__class__"))) (ixm_TooFar : PySem.W.mroIn K eC11 (.type "object") = some true)
    (ixa_LimitExceeded : PySem.W.findIn K (.ref eC12) "__class__" = some (some (.builtin "object.__class__"))) (ixm_LimitExceeded : PySem.W.mroIn K eC12 (.type "object") = some true)
    {xC_InvalidClaim : Addr} (xg_InvalidClaim : PySem.W.nsIn K mainGlobals "InvalidClaim" = some (some (.ref xC_InvalidClaim))) (xk_InvalidClaim : PySem.W.keepIn K (.ref xC_InvalidClaim) = true) (xq_InvalidClaim : PySem.W.excIn K xC_InvalidClaim OwnE.bVE.bm OwnE.bVE.newId = true)
    (xga_InvalidClaim : PySem.W.findIn K (.ref xC_InvalidClaim) "__getattribute__" = some (some (.builtin "BaseException.__getattribute__"))) (xgg_InvalidClaim : PySem.W.findIn K (.ref xC_InvalidClaim) "__getattr__" = some none) (xe_InvalidClaim : PySem.W.subIn K (.ref xC_InvalidClaim) (.type "BaseException") = some true) (xh_InvalidClaim : PySem.W.hasDictIn K xC_InvalidClaim = true) (ixa_InvalidClaim : PySem.W.findIn K (.ref xC_InvalidClaim) "__class__" = some (some (.builtin "object.__class__"))) (ixm_InvalidClaim : PySem.W.mroIn K xC_InvalidClaim (.type "object") = some true)
    {xC_Unpaired : Addr} (xg_Unpaired : PySem.W.nsIn K mainGlobals "Unpaired" = some (some (.ref xC_Unpaired))) (xk_Unpaired : PySem.W.keepIn K (.ref xC_Unpaired) = true) (xq_Unpaired : PySem.W.excIn K xC_Unpaired OwnE.bVE.bm OwnE.bVE.newId = true)
    (xga_Unpaired : PySem.W.findIn K (.ref xC_Unpaired) "__getattribute__" = some (some (.builtin "BaseException.__getattribute__"))) (xgg_Unpaired : PySem.W.findIn K (.ref xC_Unpaired) "__getattr__" = some none) (xe_Unpaired : PySem.W.subIn K (.ref xC_Unpaired) (.type "BaseException") = some true) (xh_Unpaired : PySem.W.hasDictIn K xC_Unpaired = true) (ixa_Unpaired : PySem.W.findIn K (.ref xC_Unpaired) "__class__" = some (some (.builtin "object.__class__"))) (ixm_Unpaired : PySem.W.mroIn K xC_Unpaired (.type "object") = some true)
    (kOb : kOchk K [eC0, eC1, eC2, eC3, eC4, xC_InvalidClaim, xC_Unpaired, eC5, eC6, eC7, eC8, eC9, eC10, eC11, eC12] = true) (kBb : kBchk K [eC0, eC1, eC2, eC3, eC4, xC_InvalidClaim, xC_Unpaired, eC5, eC6, eC7, eC8, eC9, eC10, eC11, eC12] ["ValueError", "LookupError", "RuntimeError", "OverflowError", "KeyError", "IndexError", "NotImplementedError", "ZeroDivisionError"] [0, 0, 0, 0, 0, 0, 0, 0, 1, 1, 1, 1, 2, 2, 3] = true)
    (ka_MOST_WORDS : PySem.W.nsIn K mainGlobals "MOST_WORDS" = some (some (.int 3 ck_MOST_WORDS)))
    (ka_MOST_STATES : PySem.W.nsIn K mainGlobals "MOST_STATES" = some (some (.int 6 ck_MOST_STATES)))
    (ka_MOST_HELD : PySem.W.nsIn K mainGlobals "MOST_HELD" = some (some (.int 3 ck_MOST_HELD)))
    (ka_MOST_VERDICT : PySem.W.nsIn K mainGlobals "MOST_VERDICT" = some (some (.int 3 ck_MOST_VERDICT)))
    (ka_NEW : PySem.W.nsIn K mainGlobals "NEW" = some (some (.str "new" ck_NEW)))
    (ka_VALUE : PySem.W.nsIn K mainGlobals "VALUE" = some (some (.str "value" ck_VALUE)))
    (ka_EMPTY : PySem.W.nsIn K mainGlobals "EMPTY" = some (some (.str "-" ck_EMPTY)))
    (ka_MOST_DIGITS : PySem.W.nsIn K mainGlobals "MOST_DIGITS" = some (some (.int 60 ck_MOST_DIGITS)))
    {aD_DIGITS : Addr} {es_DIGITS : Array DictEntry} {nD_DIGITS : Nat} (dA_DIGITS : PySem.W.nsIn K mainGlobals "DIGITS" = some (some (.ref aD_DIGITS))) (dL_DIGITS : K.lookup aD_DIGITS = some ⟨.type "dict", none, .dict es_DIGITS nD_DIGITS, #[]⟩) (dK_DIGITS : PySem.W.KeysLit w.params es_DIGITS.toList) (dS_DIGITS : (aD_DIGITS == sysModules) = false) (dE_DIGITS : LitD lit_DIGITS es_DIGITS.toList)
    {aD_FIRST_LINES : Addr} {es_FIRST_LINES : Array DictEntry} {nD_FIRST_LINES : Nat} (dA_FIRST_LINES : PySem.W.nsIn K mainGlobals "FIRST_LINES" = some (some (.ref aD_FIRST_LINES))) (dL_FIRST_LINES : K.lookup aD_FIRST_LINES = some ⟨.type "dict", none, .dict es_FIRST_LINES nD_FIRST_LINES, #[]⟩) (dK_FIRST_LINES : PySem.W.KeysLit w.params es_FIRST_LINES.toList) (dS_FIRST_LINES : (aD_FIRST_LINES == sysModules) = false) (dE_FIRST_LINES : LitD lit_FIRST_LINES es_FIRST_LINES.toList)
    (z0 : PySem.W.nsIn K mainGlobals "abs" = some none)
    (z1 : PySem.W.nsIn K mainGlobals "bool" = some none)
    (z2 : PySem.W.nsIn K mainGlobals "dict" = some none)
    (z3 : PySem.W.nsIn K mainGlobals "enumerate" = some none)
    (z4 : PySem.W.nsIn K mainGlobals "int" = some none)
    (z5 : PySem.W.nsIn K mainGlobals "isinstance" = some none)
    (z6 : PySem.W.nsIn K mainGlobals "len" = some none)
    (z7 : PySem.W.nsIn K mainGlobals "list" = some none)
    (z8 : PySem.W.nsIn K mainGlobals "range" = some none)
    (z9 : PySem.W.nsIn K mainGlobals "repr" = some none)
    (z10 : PySem.W.nsIn K mainGlobals "set" = some none)
    (z11 : PySem.W.nsIn K mainGlobals "sorted" = some none)
    (z12 : PySem.W.nsIn K mainGlobals "str" = some none)
    (z13 : PySem.W.nsIn K mainGlobals "tuple" = some none)
    (z14 : PySem.W.nsIn K mainGlobals "zip" = some none)
    (z15 : PySem.W.nsIn K mainGlobals "ValueError" = some none)
    (z16 : PySem.W.nsIn K mainGlobals "LookupError" = some none)
    (z17 : PySem.W.nsIn K mainGlobals "RuntimeError" = some none)
    (z18 : PySem.W.nsIn K mainGlobals "OverflowError" = some none)
    (z19 : PySem.W.nsIn K mainGlobals "KeyError" = some none)
    (z20 : PySem.W.nsIn K mainGlobals "IndexError" = some none)
    (z21 : PySem.W.nsIn K mainGlobals "NotImplementedError" = some none)
    (z22 : PySem.W.nsIn K mainGlobals "ZeroDivisionError" = some none)
    : ∃ fd : FuncData, (∀ (s : Shared) (v : Value), BindsTo s fd ⟨[v], []⟩ [("script", v)]) ∧ ∀ base : Heap, K.In base → base.Ns mainGlobals mg → FnG l.prog w K mg base CX0 11 fa fd ["script"] (sp_law K) := by
  have e := hfa.symm.trans (PySem.W.mg_of X G a53)
  cases e
  have F_is_integer := fun_mk (st := s_is_integer) l0 c0 k0
  have b_is_integer := F_is_integer.binds (ps := ["value"]) fun _ _ _ _ _ _ us hl => match us, hl with | [_], _ => rfl
  have F_is_between := fun_mk (st := s_is_between) l1 c1 k1
  have b_is_between := F_is_between.binds (ps := ["value", "low", "high"]) fun _ _ _ _ _ _ us hl => match us, hl with | [_, _, _], _ => rfl
  have F_require_stream := fun_mk (st := s_require_stream) l2 c2 k2
  have b_require_stream := F_require_stream.binds (ps := ["value", "words"]) fun _ _ _ _ _ _ us hl => match us, hl with | [_, _], _ => rfl
  have F_is_stream := fun_mk (st := s_is_stream) l3 c3 k3
  have b_is_stream := F_is_stream.binds (ps := ["value", "words"]) fun _ _ _ _ _ _ us hl => match us, hl with | [_, _], _ => rfl
  have F_is_message := fun_mk (st := s_is_message) l4 c4 k4
  have b_is_message := F_is_message.binds (ps := ["message", "words"]) fun _ _ _ _ _ _ us hl => match us, hl with | [_, _], _ => rfl
  have F_is_message_value := fun_mk (st := s_is_message_value) l5 c5 k5
  have b_is_message_value := F_is_message_value.binds (ps := ["value"]) fun _ _ _ _ _ _ us hl => match us, hl with | [_], _ => rfl
  have F_numbered := fun_mk (st := s_numbered) l6 c6 k6
  have b_numbered := F_numbered.binds (ps := ["stream"]) fun _ _ _ _ _ _ us hl => match us, hl with | [_], _ => rfl
  have F_is_numbered := fun_mk (st := s_is_numbered) l7 c7 k7
  have b_is_numbered := F_is_numbered.binds (ps := ["stream"]) fun _ _ _ _ _ _ us hl => match us, hl with | [_], _ => rfl
  have F_are_alike := fun_mk (st := s_are_alike) l8 c8 k8
  have b_are_alike := F_are_alike.binds (ps := ["one", "two"]) fun _ _ _ _ _ _ us hl => match us, hl with | [_, _], _ => rfl
  have F_exchanged := fun_mk (st := s_exchanged) l9 c9 k9
  have b_exchanged := F_exchanged.binds (ps := ["stream", "one", "two"]) fun _ _ _ _ _ _ us hl => match us, hl with | [_, _, _], _ => rfl
  have F_Watcher_init := fun_mk (st := s_Watcher_init) l10 c10 k10
  have b_Watcher_init := F_Watcher_init.binds (ps := ["self", "words"]) fun _ _ _ _ _ _ us hl => match us, hl with | [_, _], _ => rfl
  have F_Watcher_len := fun_mk (st := s_Watcher_len) l11 c11 k11
  have b_Watcher_len := F_Watcher_len.binds (ps := ["self"]) fun _ _ _ _ _ _ us hl => match us, hl with | [_], _ => rfl
  have F_Watcher_add_state := fun_mk (st := s_Watcher_add_state) l12 c12 k12
  have b_Watcher_add_state := F_Watcher_add_state.binds (ps := ["self", "verdict", "held"]) fun _ _ _ _ _ _ us hl => match us, hl with | [_, _, _], _ => rfl
  have F_Watcher_set_verdict := fun_mk (st := s_Watcher_set_verdict) l13 c13 k13
  have b_Watcher_set_verdict := F_Watcher_set_verdict.binds (ps := ["self", "state", "verdict"]) fun _ _ _ _ _ _ us hl => match us, hl with | [_, _, _], _ => rfl
  have F_Watcher_add_rule := fun_mk (st := s_Watcher_add_rule) l14 c14 k14
  have b_Watcher_add_rule := F_Watcher_add_rule.binds (ps := ["self", "state", "word", "test", "target", "sources"]) fun _ _ _ _ _ _ us hl => match us, hl with | [_, _, _, _, _, _], _ => rfl
  have F_Watcher_remove_rule := fun_mk (st := s_Watcher_remove_rule) l15 c15 k15
  have b_Watcher_remove_rule := F_Watcher_remove_rule.binds (ps := ["self", "state", "word", "test"]) fun _ _ _ _ _ _ us hl => match us, hl with | [_, _, _, _], _ => rfl
  have F_Watcher_verdicts := fun_mk (st := s_Watcher_verdicts) l16 c16 k16
  have b_Watcher_verdicts := F_Watcher_verdicts.binds (ps := ["self"]) fun _ _ _ _ _ _ us hl => match us, hl with | [_], _ => rfl
  have F_Watcher_held_counts := fun_mk (st := s_Watcher_held_counts) l17 c17 k17
  have b_Watcher_held_counts := F_Watcher_held_counts.binds (ps := ["self"]) fun _ _ _ _ _ _ us hl => match us, hl with | [_], _ => rfl
  have F_Watcher_rules := fun_mk (st := s_Watcher_rules) l18 c18 k18
  have b_Watcher_rules := F_Watcher_rules.binds (ps := ["self"]) fun _ _ _ _ _ _ us hl => match us, hl with | [_], _ => rfl
  have F_Watcher_twin := fun_mk (st := s_Watcher_twin) l19 c19 k19
  have b_Watcher_twin := F_Watcher_twin.binds (ps := ["self"]) fun _ _ _ _ _ _ us hl => match us, hl with | [_], _ => rfl
  have F_Watcher_rule_for := fun_mk (st := s_Watcher_rule_for) l20 c20 k20
  have b_Watcher_rule_for := F_Watcher_rule_for.binds (ps := ["self", "state", "word", "test"]) fun _ _ _ _ _ _ us hl => match us, hl with | [_, _, _, _], _ => rfl
  have F_Watcher_require_state := fun_mk (st := s_Watcher_require_state) l21 c21 k21
  have b_Watcher_require_state := F_Watcher_require_state.binds (ps := ["self", "state"]) fun _ _ _ _ _ _ us hl => match us, hl with | [_, _], _ => rfl
  have F_Watcher_require_word := fun_mk (st := s_Watcher_require_word) l22 c22 k22
  have b_Watcher_require_word := F_Watcher_require_word.binds (ps := ["self", "word"]) fun _ _ _ _ _ _ us hl => match us, hl with | [_, _], _ => rfl
  have F_require_verdict := fun_mk (st := s_require_verdict) l23 c23 k23
  have b_require_verdict := F_require_verdict.binds (ps := ["verdict"]) fun _ _ _ _ _ _ us hl => match us, hl with | [_], _ => rfl
  have F_is_test := fun_mk (st := s_is_test) l24 c24 k24
  have b_is_test := F_is_test.binds (ps := ["test", "held"]) fun _ _ _ _ _ _ us hl => match us, hl with | [_, _], _ => rfl
  have F_are_sources := fun_mk (st := s_are_sources) l25 c25 k25
  have b_are_sources := F_are_sources.binds (ps := ["sources", "wanted", "held", "test"]) fun _ _ _ _ _ _ us hl => match us, hl with | [_, _, _, _], _ => rfl
  have F_is_source := fun_mk (st := s_is_source) l26 c26 k26
  have b_is_source := F_is_source.binds (ps := ["source", "held", "test"]) fun _ _ _ _ _ _ us hl => match us, hl with | [_, _, _], _ => rfl
  have F_may_be_rule := fun_mk (st := s_may_be_rule) l27 c27 k27
  have b_may_be_rule := F_may_be_rule.binds (ps := ["rule"]) fun _ _ _ _ _ _ us hl => match us, hl with | [_], _ => rfl
  have F_rule_order := fun_mk (st := s_rule_order) l28 c28 k28
  have b_rule_order := F_rule_order.binds (ps := ["rule"]) fun _ _ _ _ _ _ us hl => match us, hl with | [_], _ => rfl
  have F_part_order := fun_mk (st := s_part_order) l29 c29 k29
  have b_part_order := F_part_order.binds (ps := ["part"]) fun _ _ _ _ _ _ us hl => match us, hl with | [_], _ => rfl
  have F_run := fun_mk (st := s_run) l30 c30 k30
  have b_run := F_run.binds (ps := ["watcher", "stream"]) fun _ _ _ _ _ _ us hl => match us, hl with | [_, _], _ => rfl
  have F_verdict_of := fun_mk (st := s_verdict_of) l31 c31 k31
  have b_verdict_of := F_verdict_of.binds (ps := ["watcher", "stream"]) fun _ _ _ _ _ _ us hl => match us, hl with | [_, _], _ => rfl
  have F_run_from := fun_mk (st := s_run_from) l32 c32 k32
  have b_run_from := F_run_from.binds (ps := ["watcher", "state", "held", "stream"]) fun _ _ _ _ _ _ us hl => match us, hl with | [_, _, _, _], _ => rfl
  have F_after_message := fun_mk (st := s_after_message) l33 c33 k33
  have b_after_message := F_after_message.binds (ps := ["watcher", "state", "held", "word", "value"]) fun _ _ _ _ _ _ us hl => match us, hl with | [_, _, _, _, _], _ => rfl
  have F_carried := fun_mk (st := s_carried) l34 c34 k34
  have b_carried := F_carried.binds (ps := ["sources", "held", "value"]) fun _ _ _ _ _ _ us hl => match us, hl with | [_, _, _], _ => rfl
  have F_Follower_init := fun_mk (st := s_Follower_init) l35 c35 k35
  have b_Follower_init := F_Follower_init.binds (ps := ["self", "watcher"]) fun _ _ _ _ _ _ us hl => match us, hl with | [_, _], _ => rfl
  have F_Follower_read := fun_mk (st := s_Follower_read) l36 c36 k36
  have b_Follower_read := F_Follower_read.binds (ps := ["self", "word", "value"]) fun _ _ _ _ _ _ us hl => match us, hl with | [_, _, _], _ => rfl
  have F_Follower_current_state := fun_mk (st := s_Follower_current_state) l37 c37 k37
  have b_Follower_current_state := F_Follower_current_state.binds (ps := ["self"]) fun _ _ _ _ _ _ us hl => match us, hl with | [_], _ => rfl
  have F_Follower_held_values := fun_mk (st := s_Follower_held_values) l38 c38 k38
  have b_Follower_held_values := F_Follower_held_values.binds (ps := ["self"]) fun _ _ _ _ _ _ us hl => match us, hl with | [_], _ => rfl
  have F_Follower_rewind := fun_mk (st := s_Follower_rewind) l39 c39 k39
  have b_Follower_rewind := F_Follower_rewind.binds (ps := ["self", "many"]) fun _ _ _ _ _ _ us hl => match us, hl with | [_, _], _ => rfl
  have F_format_watcher := fun_mk (st := s_format_watcher) l40 c40 k40
  have b_format_watcher := F_format_watcher.binds (ps := ["watcher"]) fun _ _ _ _ _ _ us hl => match us, hl with | [_], _ => rfl
  have F_format_stream := fun_mk (st := s_format_stream) l41 c41 k41
  have b_format_stream := F_format_stream.binds (ps := ["stream"]) fun _ _ _ _ _ _ us hl => match us, hl with | [_], _ => rfl
  have F_parse_watcher := fun_mk (st := s_parse_watcher) l42 c42 k42
  have b_parse_watcher := F_parse_watcher.binds (ps := ["text"]) fun _ _ _ _ _ _ us hl => match us, hl with | [_], _ => rfl
  have F_read_line := fun_mk (st := s_read_line) l43 c43 k43
  have b_read_line := F_read_line.binds (ps := ["watcher", "index", "line"]) fun _ _ _ _ _ _ us hl => match us, hl with | [_, _, _], _ => rfl
  have F_read_parts := fun_mk (st := s_read_parts) l44 c44 k44
  have b_read_parts := F_read_parts.binds (ps := ["watcher", "index", "parts"]) fun _ _ _ _ _ _ us hl => match us, hl with | [_, _, _], _ => rfl
  have F_read_start := fun_mk (st := s_read_start) l45 c45 k45
  have b_read_start := F_read_start.binds (ps := ["watcher", "parts"]) fun _ _ _ _ _ _ us hl => match us, hl with | [_, _], _ => rfl
  have F_read_state := fun_mk (st := s_read_state) l46 c46 k46
  have b_read_state := F_read_state.binds (ps := ["watcher", "parts"]) fun _ _ _ _ _ _ us hl => match us, hl with | [_, _], _ => rfl
  have F_read_rule := fun_mk (st := s_read_rule) l47 c47 k47
  have b_read_rule := F_read_rule.binds (ps := ["watcher", "parts"]) fun _ _ _ _ _ _ us hl => match us, hl with | [_, _], _ => rfl
  have F_parse_stream := fun_mk (st := s_parse_stream) l48 c48 k48
  have b_parse_stream := F_parse_stream.binds (ps := ["text", "words"]) fun _ _ _ _ _ _ us hl => match us, hl with | [_, _], _ => rfl
  have F_is_written_value := fun_mk (st := s_is_written_value) l49 c49 k49
  have b_is_written_value := F_is_written_value.binds (ps := ["text"]) fun _ _ _ _ _ _ us hl => match us, hl with | [_], _ => rfl
  have F_law_kinds := fun_mk (st := s_law_kinds) l50 c50 k50
  have b_law_kinds := F_law_kinds.binds (ps := ["e"]) fun _ _ _ _ _ _ us hl => match us, hl with | [_], _ => rfl
  have F_law_built_in := fun_mk (st := s_law_built_in) l51 c51 k51
  have b_law_built_in := F_law_built_in.binds (ps := ["e"]) fun _ _ _ _ _ _ us hl => match us, hl with | [_], _ => rfl
  have F_law_errors_right := fun_mk (st := s_law_errors_right) l52 c52 k52
  have b_law_errors_right := F_law_errors_right.binds (ps := ["some", "triple", "amount"]) fun _ _ _ _ _ _ us hl => match us, hl with | [_, _, _], _ => rfl
  have F_law := fun_mk (st := s_law) l53 c53 k53
  have T_NotAStream : L2.ErrOk OwnE.bVE "NotAStream" "value" "NotAStream.__init__" K mg eC0 ei0 := ⟨OwnE.bVE_ok, { gC := PySem.W.mg_of X G eaC0, cls := ⟨nm0, eq0, eN0, bs0, _, sn0, sub0, ab0, col0, dd0, m00, m10, m20, m30, m50, exL0, by decide +kernel⟩, sa := esa0, ga := ega0, gg := egg0, noN := enb0, iC := ea10, tC := et10, kC := ekC0, exC := eeC0, tyC := etC0, hdC := ehC0, te := OwnE.exm_own eeC0 eiC0 etC0 esC0, fn := ⟨eoc0, eod0, edc0, epm0, ean0, ecd0, ect0, esl0, _, _, _, _, _, _, defScope s_NotAStream_init, el10, ec10, rfl, by decide +kernel, by decide +kernel, rfl, rfl⟩ }, by decide, by decide, fun _ _ _ _ _ _ _ _ _ _ _ _ _ _ _ _ => by first | rfl | with_unfolding_all rfl⟩
  have T_NotAWord : L2.ErrOk OwnE.bVE "NotAWord" "word" "NotAWord.__init__" K mg eC1 ei1 := ⟨OwnE.bVE_ok, { gC := PySem.W.mg_of X G eaC1, cls := ⟨nm1, eq1, eN1, bs1, _, sn1, sub1, ab1, col1, dd1, m01, m11, m21, m31, m51, exL1, by decide +kernel⟩, sa := esa1, ga := ega1, gg := egg1, noN := enb1, iC := ea11, tC := et11, kC := ekC1, exC := eeC1, tyC := etC1, hdC := ehC1, te := OwnE.exm_own eeC1 eiC1 etC1 esC1, fn := ⟨eoc1, eod1, edc1, epm1, ean1, ecd1, ect1, esl1, _, _, _, _, _, _, defScope s_NotAWord_init, el11, ec11, rfl, by decide +kernel, by decide +kernel, rfl, rfl⟩ }, by decide, by decide, fun _ _ _ _ _ _ _ _ _ _ _ _ _ _ _ _ => by first | rfl | with_unfolding_all rfl⟩
  have T_NotAVerdict : L2.ErrOk OwnE.bVE "NotAVerdict" "verdict" "NotAVerdict.__init__" K mg eC2 ei2 := ⟨OwnE.bVE_ok, { gC := PySem.W.mg_of X G eaC2, cls := ⟨nm2, eq2, eN2, bs2, _, sn2, sub2, ab2, col2, dd2, m02, m12, m22, m32, m52, exL2, by decide +kernel⟩, sa := esa2, ga := ega2, gg := egg2, noN := enb2, iC := ea12, tC := et12, kC := ekC2, exC := eeC2, tyC := etC2, hdC := ehC2, te := OwnE.exm_own eeC2 eiC2 etC2 esC2, fn := ⟨eoc2, eod2, edc2, epm2, ean2, ecd2, ect2, esl2, _, _, _, _, _, _, defScope s_NotAVerdict_init, el12, ec12, rfl, by decide +kernel, by decide +kernel, rfl, rfl⟩ }, by decide, by decide, fun _ _ _ _ _ _ _ _ _ _ _ _ _ _ _ _ => by first | rfl | with_unfolding_all rfl⟩
  have T_InvalidTest : L2.ErrOk OwnE.bVE "InvalidTest" "test" "InvalidTest.__init__" K mg eC3 ei3 := ⟨OwnE.bVE_ok, { gC := PySem.W.mg_of X G eaC3, cls := ⟨nm3, eq3, eN3, bs3, _, sn3, sub3, ab3, col3, dd3, m03, m13, m23, m33, m53, exL3, by decide +kernel⟩, sa := esa3, ga := ega3, gg := egg3, noN := enb3, iC := ea13, tC := et13, kC := ekC3, exC := eeC3, tyC := etC3, hdC := ehC3, te := OwnE.exm_own eeC3 eiC3 etC3 esC3, fn := ⟨eoc3, eod3, edc3, epm3, ean3, ecd3, ect3, esl3, _, _, _, _, _, _, defScope s_InvalidTest_init, el13, ec13, rfl, by decide +kernel, by decide +kernel, rfl, rfl⟩ }, by decide, by decide, fun _ _ _ _ _ _ _ _ _ _ _ _ _ _ _ _ => by first | rfl | with_unfolding_all rfl⟩
  have T_InvalidSources : L2.ErrOk OwnE.bVE "InvalidSources" "sources" "InvalidSources.__init__" K mg eC4 ei4 := ⟨OwnE.bVE_ok, { gC := PySem.W.mg_of X G eaC4, cls := ⟨nm4, eq4, eN4, bs4, _, sn4, sub4, ab4, col4, dd4, m04, m14, m24, m34, m54, exL4, by decide +kernel⟩, sa := esa4, ga := ega4, gg := egg4, noN := enb4, iC := ea14, tC := et14, kC := ekC4, exC := eeC4, tyC := etC4, hdC := ehC4, te := OwnE.exm_own eeC4 eiC4 etC4 esC4, fn := ⟨eoc4, eod4, edc4, epm4, ean4, ecd4, ect4, esl4, _, _, _, _, _, _, defScope s_InvalidSources_init, el14, ec14, rfl, by decide +kernel, by decide +kernel, rfl, rfl⟩ }, by decide, by decide, fun _ _ _ _ _ _ _ _ _ _ _ _ _ _ _ _ => by first | rfl | with_unfolding_all rfl⟩
  have T_ParseError : L2.ErrOk OwnE.bVE "ParseError" "line" "ParseError.__init__" K mg eC5 ei5 := ⟨OwnE.bVE_ok, { gC := PySem.W.mg_of X G eaC5, cls := ⟨nm5, eq5, eN5, bs5, _, sn5, sub5, ab5, col5, dd5, m05, m15, m25, m35, m55, exL5, by decide +kernel⟩, sa := esa5, ga := ega5, gg := egg5, noN := enb5, iC := ea15, tC := et15, kC := ekC5, exC := eeC5, tyC := etC5, hdC := ehC5, te := OwnE.exm_own eeC5 eiC5 etC5 esC5, fn := ⟨eoc5, eod5, edc5, epm5, ean5, ecd5, ect5, esl5, _, _, _, _, _, _, defScope s_ParseError_init, el15, ec15, rfl, by decide +kernel, by decide +kernel, rfl, rfl⟩ }, by decide, by decide, fun _ _ _ _ _ _ _ _ _ _ _ _ _ _ _ _ => by first | rfl | with_unfolding_all rfl⟩
  have T_UnknownState : L2.ErrOk OwnE.bLE "UnknownState" "state" "UnknownState.__init__" K mg eC6 ei6 := ⟨OwnE.bLE_ok, { gC := PySem.W.mg_of X G eaC6, cls := ⟨nm6, eq6, eN6, bs6, _, sn6, sub6, ab6, col6, dd6, m06, m16, m26, m36, m56, exL6, by decide +kernel⟩, sa := esa6, ga := ega6, gg := egg6, noN := enb6, iC := ea16, tC := et16, kC := ekC6, exC := eeC6, tyC := etC6, hdC := ehC6, te := OwnE.exm_own eeC6 eiC6 etC6 esC6, fn := ⟨eoc6, eod6, edc6, epm6, ean6, ecd6, ect6, esl6, _, _, _, _, _, _, defScope s_UnknownState_init, el16, ec16, rfl, by decide +kernel, by decide +kernel, rfl, rfl⟩ }, by decide, by decide, fun _ _ _ _ _ _ _ _ _ _ _ _ _ _ _ _ => by first | rfl | with_unfolding_all rfl⟩
  have T_UnknownRule : L2.ErrOk OwnE.bLE "UnknownRule" "rule" "UnknownRule.__init__" K mg eC7 ei7 := ⟨OwnE.bLE_ok, { gC := PySem.W.mg_of X G eaC7, cls := ⟨nm7, eq7, eN7, bs7, _, sn7, sub7, ab7, col7, dd7, m07, m17, m27, m37, m57, exL7, by decide +kernel⟩, sa := esa7, ga := ega7, gg := egg7, noN := enb7, iC := ea17, tC := et17, kC := ekC7, exC := eeC7, tyC := etC7, hdC := ehC7, te := OwnE.exm_own eeC7 eiC7 etC7 esC7, fn := ⟨eoc7, eod7, edc7, epm7, ean7, ecd7, ect7, esl7, _, _, _, _, _, _, defScope s_UnknownRule_init, el17, ec17, rfl, by decide +kernel, by decide +kernel, rfl, rfl⟩ }, by decide, by decide, fun _ _ _ _ _ _ _ _ _ _ _ _ _ _ _ _ => by first | rfl | with_unfolding_all rfl⟩
  have T_UnknownCheckpoint : L2.ErrOk OwnE.bLE "UnknownCheckpoint" "number" "UnknownCheckpoint.__init__" K mg eC8 ei8 := ⟨OwnE.bLE_ok, { gC := PySem.W.mg_of X G eaC8, cls := ⟨nm8, eq8, eN8, bs8, _, sn8, sub8, ab8, col8, dd8, m08, m18, m28, m38, m58, exL8, by decide +kernel⟩, sa := esa8, ga := ega8, gg := egg8, noN := enb8, iC := ea18, tC := et18, kC := ekC8, exC := eeC8, tyC := etC8, hdC := ehC8, te := OwnE.exm_own eeC8 eiC8 etC8 esC8, fn := ⟨eoc8, eod8, edc8, epm8, ean8, ecd8, ect8, esl8, _, _, _, _, _, _, defScope s_UnknownCheckpoint_init, el18, ec18, rfl, by decide +kernel, by decide +kernel, rfl, rfl⟩ }, by decide, by decide, fun _ _ _ _ _ _ _ _ _ _ _ _ _ _ _ _ => by first | rfl | with_unfolding_all rfl⟩
  have T_UnknownRecord : L2.ErrOk OwnE.bLE "UnknownRecord" "number" "UnknownRecord.__init__" K mg eC9 ei9 := ⟨OwnE.bLE_ok, { gC := PySem.W.mg_of X G eaC9, cls := ⟨nm9, eq9, eN9, bs9, _, sn9, sub9, ab9, col9, dd9, m09, m19, m29, m39, m59, exL9, by decide +kernel⟩, sa := esa9, ga := ega9, gg := egg9, noN := enb9, iC := ea19, tC := et19, kC := ekC9, exC := eeC9, tyC := etC9, hdC := ehC9, te := OwnE.exm_own eeC9 eiC9 etC9 esC9, fn := ⟨eoc9, eod9, edc9, epm9, ean9, ecd9, ect9, esl9, _, _, _, _, _, _, defScope s_UnknownRecord_init, el19, ec19, rfl, by decide +kernel, by decide +kernel, rfl, rfl⟩ }, by decide, by decide, fun _ _ _ _ _ _ _ _ _ _ _ _ _ _ _ _ => by first | rfl | with_unfolding_all rfl⟩
  have T_RuleExists : L2.ErrOk OwnE.bRE "RuleExists" "rule" "RuleExists.__init__" K mg eC10 ei10 := ⟨OwnE.bRE_ok, { gC := PySem.W.mg_of X G eaC10, cls := ⟨nm10, eq10, eN10, bs10, _, sn10, sub10, ab10, col10, dd10, m010, m110, m210, m310, m510, exL10, by decide +kernel⟩, sa := esa10, ga := ega10, gg := egg10, noN := enb10, iC := ea110, tC := et110, kC := ekC10, exC := eeC10, tyC := etC10, hdC := ehC10, te := OwnE.exm_own eeC10 eiC10 etC10 esC10, fn := ⟨eoc10, eod10, edc10, epm10, ean10, ecd10, ect10, esl10, _, _, _, _, _, _, defScope s_RuleExists_init, el110, ec110, rfl, by decide +kernel, by decide +kernel, rfl, rfl⟩ }, by decide, by decide, fun _ _ _ _ _ _ _ _ _ _ _ _ _ _ _ _ => by first | rfl | with_unfolding_all rfl⟩
  have T_TooFar : L2.ErrOk OwnE.bRE "TooFar" "many" "TooFar.__init__" K mg eC11 ei11 := ⟨OwnE.bRE_ok, { gC := PySem.W.mg_of X G eaC11, cls := ⟨nm11, eq11, eN11, bs11, _, sn11, sub11, ab11, col11, dd11, m011, m111, m211, m311, m511, exL11, by decide +kernel⟩, sa := esa11, ga := ega11, gg := egg11, noN := enb11, iC := ea111, tC := et111, kC := ekC11, exC := eeC11, tyC := etC11, hdC := ehC11, te := OwnE.exm_own eeC11 eiC11 etC11 esC11, fn := ⟨eoc11, eod11, edc11, epm11, ean11, ecd11, ect11, esl11, _, _, _, _, _, _, defScope s_TooFar_init, el111, ec111, rfl, by decide +kernel, by decide +kernel, rfl, rfl⟩ }, by decide, by decide, fun _ _ _ _ _ _ _ _ _ _ _ _ _ _ _ _ => by first | rfl | with_unfolding_all rfl⟩
  have T_LimitExceeded : L2.ErrOk OwnE.bOE "LimitExceeded" "limit" "LimitExceeded.__init__" K mg eC12 ei12 := ⟨OwnE.bOE_ok, { gC := PySem.W.mg_of X G eaC12, cls := ⟨nm12, eq12, eN12, bs12, _, sn12, sub12, ab12, col12, dd12, m012, m112, m212, m312, m512, exL12, by decide +kernel⟩, sa := esa12, ga := ega12, gg := egg12, noN := enb12, iC := ea112, tC := et112, kC := ekC12, exC := eeC12, tyC := etC12, hdC := ehC12, te := OwnE.exm_own eeC12 eiC12 etC12 esC12, fn := ⟨eoc12, eod12, edc12, epm12, ean12, ecd12, ect12, esl12, _, _, _, _, _, _, defScope s_LimitExceeded_init, el112, ec112, rfl, by decide +kernel, by decide +kernel, rfl, rfl⟩ }, by decide, by decide, fun _ _ _ _ _ _ _ _ _ _ _ _ _ _ _ _ => by first | rfl | with_unfolding_all rfl⟩
  obtain ⟨T, hwT⟩ : ∃ T : Tx K mg, T.pr = w.params := ⟨{
    Watcher := ⟨C_Watcher, ⟨pg_Watcher, hd_Watcher, po_Watcher, sa_Watcher⟩, PySem.W.mg_of X G wC_Watcher⟩
    nf_Watcherwords := nf_Watcherwords
    nf_Watcher_verdicts := nf_Watcher_verdicts
    nf_Watcher_held := nf_Watcher_held
    nf_Watcher_rules := nf_Watcher_rules
    Follower := ⟨C_Follower, ⟨pg_Follower, hd_Follower, po_Follower, sa_Follower⟩, PySem.W.mg_of X G wC_Follower⟩
    nf_Follower_watcher := nf_Follower_watcher
    nf_Follower_trail := nf_Follower_trail
    is_integer := ⟨f_is_integer, _, F_is_integer, b_is_integer, PySem.W.mg_of X G a0⟩
    is_between := ⟨f_is_between, _, F_is_between, b_is_between, PySem.W.mg_of X G a1⟩
    require_stream := ⟨f_require_stream, _, F_require_stream, b_require_stream, PySem.W.mg_of X G a2⟩
    is_stream := ⟨f_is_stream, _, F_is_stream, b_is_stream, PySem.W.mg_of X G a3⟩
    is_message := ⟨f_is_message, _, F_is_message, b_is_message, PySem.W.mg_of X G a4⟩
    is_message_value := ⟨f_is_message_value, _, F_is_message_value, b_is_message_value, PySem.W.mg_of X G a5⟩
    numbered := ⟨f_numbered, _, F_numbered, b_numbered, PySem.W.mg_of X G a6⟩
    is_numbered := ⟨f_is_numbered, _, F_is_numbered, b_is_numbered, PySem.W.mg_of X G a7⟩
    are_alike := ⟨f_are_alike, _, F_are_alike, b_are_alike, PySem.W.mg_of X G a8⟩
    exchanged := ⟨f_exchanged, _, F_exchanged, b_exchanged, PySem.W.mg_of X G a9⟩
    Watcher_init := ⟨f_Watcher_init, _, F_Watcher_init, b_Watcher_init, ⟨a10, i10, k10⟩⟩
    Watcher_len := ⟨f_Watcher_len, _, F_Watcher_len, b_Watcher_len, ⟨a11, i11, k11⟩⟩
    Watcher_add_state := ⟨f_Watcher_add_state, _, F_Watcher_add_state, b_Watcher_add_state, ⟨a12, i12, k12⟩⟩
    Watcher_set_verdict := ⟨f_Watcher_set_verdict, _, F_Watcher_set_verdict, b_Watcher_set_verdict, ⟨a13, i13, k13⟩⟩
    Watcher_add_rule := ⟨f_Watcher_add_rule, _, F_Watcher_add_rule, b_Watcher_add_rule, ⟨a14, i14, k14⟩⟩
    Watcher_remove_rule := ⟨f_Watcher_remove_rule, _, F_Watcher_remove_rule, b_Watcher_remove_rule, ⟨a15, i15, k15⟩⟩
    Watcher_verdicts := ⟨f_Watcher_verdicts, _, F_Watcher_verdicts, b_Watcher_verdicts, ⟨a16, i16, k16⟩⟩
    Watcher_held_counts := ⟨f_Watcher_held_counts, _, F_Watcher_held_counts, b_Watcher_held_counts, ⟨a17, i17, k17⟩⟩
    Watcher_rules := ⟨f_Watcher_rules, _, F_Watcher_rules, b_Watcher_rules, ⟨a18, i18, k18⟩⟩
    Watcher_twin := ⟨f_Watcher_twin, _, F_Watcher_twin, b_Watcher_twin, ⟨a19, i19, k19⟩⟩
    Watcher_rule_for := ⟨f_Watcher_rule_for, _, F_Watcher_rule_for, b_Watcher_rule_for, ⟨a20, i20, k20⟩⟩
    Watcher_require_state := ⟨f_Watcher_require_state, _, F_Watcher_require_state, b_Watcher_require_state, ⟨a21, i21, k21⟩⟩
    Watcher_require_word := ⟨f_Watcher_require_word, _, F_Watcher_require_word, b_Watcher_require_word, ⟨a22, i22, k22⟩⟩
    require_verdict := ⟨f_require_verdict, _, F_require_verdict, b_require_verdict, PySem.W.mg_of X G a23⟩
    is_test := ⟨f_is_test, _, F_is_test, b_is_test, PySem.W.mg_of X G a24⟩
    are_sources := ⟨f_are_sources, _, F_are_sources, b_are_sources, PySem.W.mg_of X G a25⟩
    is_source := ⟨f_is_source, _, F_is_source, b_is_source, PySem.W.mg_of X G a26⟩
    may_be_rule := ⟨f_may_be_rule, _, F_may_be_rule, b_may_be_rule, PySem.W.mg_of X G a27⟩
    rule_order := ⟨f_rule_order, _, F_rule_order, b_rule_order, PySem.W.mg_of X G a28⟩
    part_order := ⟨f_part_order, _, F_part_order, b_part_order, PySem.W.mg_of X G a29⟩
    run := ⟨f_run, _, F_run, b_run, PySem.W.mg_of X G a30⟩
    verdict_of := ⟨f_verdict_of, _, F_verdict_of, b_verdict_of, PySem.W.mg_of X G a31⟩
    run_from := ⟨f_run_from, _, F_run_from, b_run_from, PySem.W.mg_of X G a32⟩
    after_message := ⟨f_after_message, _, F_after_message, b_after_message, PySem.W.mg_of X G a33⟩
    carried := ⟨f_carried, _, F_carried, b_carried, PySem.W.mg_of X G a34⟩
    Follower_init := ⟨f_Follower_init, _, F_Follower_init, b_Follower_init, ⟨a35, i35, k35⟩⟩
    Follower_read := ⟨f_Follower_read, _, F_Follower_read, b_Follower_read, ⟨a36, i36, k36⟩⟩
    Follower_current_state := ⟨f_Follower_current_state, _, F_Follower_current_state, b_Follower_current_state, ⟨a37, i37, k37⟩⟩
    Follower_held_values := ⟨f_Follower_held_values, _, F_Follower_held_values, b_Follower_held_values, ⟨a38, i38, k38⟩⟩
    Follower_rewind := ⟨f_Follower_rewind, _, F_Follower_rewind, b_Follower_rewind, ⟨a39, i39, k39⟩⟩
    format_watcher := ⟨f_format_watcher, _, F_format_watcher, b_format_watcher, PySem.W.mg_of X G a40⟩
    format_stream := ⟨f_format_stream, _, F_format_stream, b_format_stream, PySem.W.mg_of X G a41⟩
    parse_watcher := ⟨f_parse_watcher, _, F_parse_watcher, b_parse_watcher, PySem.W.mg_of X G a42⟩
    read_line := ⟨f_read_line, _, F_read_line, b_read_line, PySem.W.mg_of X G a43⟩
    read_parts := ⟨f_read_parts, _, F_read_parts, b_read_parts, PySem.W.mg_of X G a44⟩
    read_start := ⟨f_read_start, _, F_read_start, b_read_start, PySem.W.mg_of X G a45⟩
    read_state := ⟨f_read_state, _, F_read_state, b_read_state, PySem.W.mg_of X G a46⟩
    read_rule := ⟨f_read_rule, _, F_read_rule, b_read_rule, PySem.W.mg_of X G a47⟩
    parse_stream := ⟨f_parse_stream, _, F_parse_stream, b_parse_stream, PySem.W.mg_of X G a48⟩
    is_written_value := ⟨f_is_written_value, _, F_is_written_value, b_is_written_value, PySem.W.mg_of X G a49⟩
    law_kinds := ⟨f_law_kinds, _, F_law_kinds, b_law_kinds, PySem.W.mg_of X G a50⟩
    law_built_in := ⟨f_law_built_in, _, F_law_built_in, b_law_built_in, PySem.W.mg_of X G a51⟩
    law_errors_right := ⟨f_law_errors_right, _, F_law_errors_right, b_law_errors_right, PySem.W.mg_of X G a52⟩
    mk_Watcher := ⟨mk_Watcher, a10, i10, kc_Watcher⟩
    mk_Follower := ⟨mk_Follower, a35, i35, kc_Follower⟩
    bt_rule_order := fun s v => .of_eq rfl
    bt_part_order := fun s v => .of_eq rfl
    tf_Watcher_len := tf_Watcher_len
    NotAStream := ⟨eC0, ei0, T_NotAStream⟩
    NotAWord := ⟨eC1, ei1, T_NotAWord⟩
    NotAVerdict := ⟨eC2, ei2, T_NotAVerdict⟩
    InvalidTest := ⟨eC3, ei3, T_InvalidTest⟩
    InvalidSources := ⟨eC4, ei4, T_InvalidSources⟩
    ParseError := ⟨eC5, ei5, T_ParseError⟩
    UnknownState := ⟨eC6, ei6, T_UnknownState⟩
    UnknownRule := ⟨eC7, ei7, T_UnknownRule⟩
    UnknownCheckpoint := ⟨eC8, ei8, T_UnknownCheckpoint⟩
    UnknownRecord := ⟨eC9, ei9, T_UnknownRecord⟩
    RuleExists := ⟨eC10, ei10, T_RuleExists⟩
    TooFar := ⟨eC11, ei11, T_TooFar⟩
    LimitExceeded := ⟨eC12, ei12, T_LimitExceeded⟩
    ix_NotAStream := ⟨ega0, egg0, eeC0, ehC0, ixa_NotAStream, ixn, ixt, ixm_NotAStream⟩
    ix_NotAWord := ⟨ega1, egg1, eeC1, ehC1, ixa_NotAWord, ixn, ixt, ixm_NotAWord⟩
    ix_NotAVerdict := ⟨ega2, egg2, eeC2, ehC2, ixa_NotAVerdict, ixn, ixt, ixm_NotAVerdict⟩
    ix_InvalidTest := ⟨ega3, egg3, eeC3, ehC3, ixa_InvalidTest, ixn, ixt, ixm_InvalidTest⟩
    ix_InvalidSources := ⟨ega4, egg4, eeC4, ehC4, ixa_InvalidSources, ixn, ixt, ixm_InvalidSources⟩
    ix_ParseError := ⟨ega5, egg5, eeC5, ehC5, ixa_ParseError, ixn, ixt, ixm_ParseError⟩
    ix_UnknownState := ⟨ega6, egg6, eeC6, ehC6, ixa_UnknownState, ixn, ixt, ixm_UnknownState⟩
    ix_UnknownRule := ⟨ega7, egg7, eeC7, ehC7, ixa_UnknownRule, ixn, ixt, ixm_UnknownRule⟩
    ix_UnknownCheckpoint := ⟨ega8, egg8, eeC8, ehC8, ixa_UnknownCheckpoint, ixn, ixt, ixm_UnknownCheckpoint⟩
    ix_UnknownRecord := ⟨ega9, egg9, eeC9, ehC9, ixa_UnknownRecord, ixn, ixt, ixm_UnknownRecord⟩
    ix_RuleExists := ⟨ega10, egg10, eeC10, ehC10, ixa_RuleExists, ixn, ixt, ixm_RuleExists⟩
    ix_TooFar := ⟨ega11, egg11, eeC11, ehC11, ixa_TooFar, ixn, ixt, ixm_TooFar⟩
    ix_LimitExceeded := ⟨ega12, egg12, eeC12, ehC12, ixa_LimitExceeded, ixn, ixt, ixm_LimitExceeded⟩
    ap_UnknownState_NotAVerdict := ap_UnknownState_NotAVerdict
    ap_UnknownState_LimitExceeded := ap_UnknownState_LimitExceeded
    ap_UnknownState_NotAWord := ap_UnknownState_NotAWord
    ap_UnknownState_InvalidTest := ap_UnknownState_InvalidTest
    ap_UnknownState_InvalidSources := ap_UnknownState_InvalidSources
    ap_UnknownState_RuleExists := ap_UnknownState_RuleExists
    ap_NotAVerdict_UnknownState := ap_NotAVerdict_UnknownState
    ap_NotAVerdict_LimitExceeded := ap_NotAVerdict_LimitExceeded
    ap_NotAVerdict_NotAWord := ap_NotAVerdict_NotAWord
    ap_NotAVerdict_InvalidTest := ap_NotAVerdict_InvalidTest
    ap_NotAVerdict_InvalidSources := ap_NotAVerdict_InvalidSources
    ap_NotAVerdict_RuleExists := ap_NotAVerdict_RuleExists
    ap_LimitExceeded_UnknownState := ap_LimitExceeded_UnknownState
    ap_LimitExceeded_NotAVerdict := ap_LimitExceeded_NotAVerdict
    ap_LimitExceeded_NotAWord := ap_LimitExceeded_NotAWord
    ap_LimitExceeded_InvalidTest := ap_LimitExceeded_InvalidTest
    ap_LimitExceeded_InvalidSources := ap_LimitExceeded_InvalidSources
    ap_LimitExceeded_RuleExists := ap_LimitExceeded_RuleExists
    ap_NotAWord_UnknownState := ap_NotAWord_UnknownState
    ap_NotAWord_NotAVerdict := ap_NotAWord_NotAVerdict
    ap_NotAWord_LimitExceeded := ap_NotAWord_LimitExceeded
    ap_NotAWord_InvalidTest := ap_NotAWord_InvalidTest
    ap_NotAWord_InvalidSources := ap_NotAWord_InvalidSources
    ap_NotAWord_RuleExists := ap_NotAWord_RuleExists
    ap_InvalidTest_UnknownState := ap_InvalidTest_UnknownState
    ap_InvalidTest_NotAVerdict := ap_InvalidTest_NotAVerdict
    ap_InvalidTest_LimitExceeded := ap_InvalidTest_LimitExceeded
    ap_InvalidTest_NotAWord := ap_InvalidTest_NotAWord
    ap_InvalidTest_InvalidSources := ap_InvalidTest_InvalidSources
    ap_InvalidTest_RuleExists := ap_InvalidTest_RuleExists
    ap_InvalidSources_UnknownState := ap_InvalidSources_UnknownState
    ap_InvalidSources_NotAVerdict := ap_InvalidSources_NotAVerdict
    ap_InvalidSources_LimitExceeded := ap_InvalidSources_LimitExceeded
    ap_InvalidSources_NotAWord := ap_InvalidSources_NotAWord
    ap_InvalidSources_InvalidTest := ap_InvalidSources_InvalidTest
    ap_InvalidSources_RuleExists := ap_InvalidSources_RuleExists
    ap_RuleExists_UnknownState := ap_RuleExists_UnknownState
    ap_RuleExists_NotAVerdict := ap_RuleExists_NotAVerdict
    ap_RuleExists_LimitExceeded := ap_RuleExists_LimitExceeded
    ap_RuleExists_NotAWord := ap_RuleExists_NotAWord
    ap_RuleExists_InvalidTest := ap_RuleExists_InvalidTest
    ap_RuleExists_InvalidSources := ap_RuleExists_InvalidSources
    InvalidClaimC := xC_InvalidClaim
    InvalidClaim_q := xq_InvalidClaim
    InvalidClaim_g := PySem.W.mg_of X G xg_InvalidClaim
    InvalidClaim_k := xk_InvalidClaim
    ix_InvalidClaim := ⟨xga_InvalidClaim, xgg_InvalidClaim, xe_InvalidClaim, xh_InvalidClaim, ixa_InvalidClaim, ixn, ixt, ixm_InvalidClaim⟩
    UnpairedC := xC_Unpaired
    Unpaired_q := xq_Unpaired
    Unpaired_g := PySem.W.mg_of X G xg_Unpaired
    Unpaired_k := xk_Unpaired
    ix_Unpaired := ⟨xga_Unpaired, xgg_Unpaired, xe_Unpaired, xh_Unpaired, ixa_Unpaired, ixn, ixt, ixm_Unpaired⟩
    kO := kO_of kOb
    kB := kB_of kBb
    ck_MOST_WORDS := ck_MOST_WORDS
    g_MOST_WORDS := PySem.W.mg_of X G ka_MOST_WORDS
    ck_MOST_STATES := ck_MOST_STATES
    g_MOST_STATES := PySem.W.mg_of X G ka_MOST_STATES
    ck_MOST_HELD := ck_MOST_HELD
    g_MOST_HELD := PySem.W.mg_of X G ka_MOST_HELD
    ck_MOST_VERDICT := ck_MOST_VERDICT
    g_MOST_VERDICT := PySem.W.mg_of X G ka_MOST_VERDICT
    ck_NEW := ck_NEW
    g_NEW := PySem.W.mg_of X G ka_NEW
    ck_VALUE := ck_VALUE
    g_VALUE := PySem.W.mg_of X G ka_VALUE
    ck_EMPTY := ck_EMPTY
    g_EMPTY := PySem.W.mg_of X G ka_EMPTY
    ck_MOST_DIGITS := ck_MOST_DIGITS
    g_MOST_DIGITS := PySem.W.mg_of X G ka_MOST_DIGITS
    pr := w.params
    aDIGITS := aD_DIGITS
    g_DIGITS := PySem.W.mg_of X G dA_DIGITS
    dg_DIGITS := fun w' e => digD_of dL_DIGITS (by rw [← e]; exact dK_DIGITS) dS_DIGITS dE_DIGITS
    aFIRST_LINES := aD_FIRST_LINES
    g_FIRST_LINES := PySem.W.mg_of X G dA_FIRST_LINES
    dg_FIRST_LINES := fun w' e => digD_of dL_FIRST_LINES (by rw [← e]; exact dK_FIRST_LINES) dS_FIRST_LINES dE_FIRST_LINES
    m_abs := PySem.W.mg_none_of X G z0
    m_bool := PySem.W.mg_none_of X G z1
    m_dict := PySem.W.mg_none_of X G z2
    m_enumerate := PySem.W.mg_none_of X G z3
    m_int := PySem.W.mg_none_of X G z4
    m_isinstance := PySem.W.mg_none_of X G z5
    m_len := PySem.W.mg_none_of X G z6
    m_list := PySem.W.mg_none_of X G z7
    m_range := PySem.W.mg_none_of X G z8
    m_repr := PySem.W.mg_none_of X G z9
    m_set := PySem.W.mg_none_of X G z10
    m_sorted := PySem.W.mg_none_of X G z11
    m_str := PySem.W.mg_none_of X G z12
    m_tuple := PySem.W.mg_none_of X G z13
    m_zip := PySem.W.mg_none_of X G z14
    m_ValueError := PySem.W.mg_none_of X G z15
    m_LookupError := PySem.W.mg_none_of X G z16
    m_RuntimeError := PySem.W.mg_none_of X G z17
    m_OverflowError := PySem.W.mg_none_of X G z18
    m_KeyError := PySem.W.mg_none_of X G z19
    m_IndexError := PySem.W.mg_none_of X G z20
    m_NotImplementedError := PySem.W.mg_none_of X G z21
    m_ZeroDivisionError := PySem.W.mg_none_of X G z22 }, rfl⟩
  exact ⟨PySem.W.fnOf "law" "law" (defArgs s_law) (defBody s_law) (defScope s_law) .none kV53 dc53 pm53 an53 cd53 ct53, fun s v => .of_eq rfl, fun base _ _ => ok_law T hwT F_law⟩
theorem walk {l : PySem.W.OpenLaw} {q : Program} {loose : List Str} {XP : (Str → Option Value) → Heap → Prop} {YP : World → Heap → Prop} {d : DefRec} {K : Params → PySem.W.Frag} (hn : l.most = some 63) (hdf : d.params.defaults = [])
    (hY : ∀ (w : World) (h : Heap), YP w h → (K w.params).In h)
    (F : ∀ (w : World) (mg : Str → Option Value) (fa : Addr) (h : Heap), (K w.params).In h → h.Ns mainGlobals mg → mg d.name = some (.ref fa) →
      ∃ fd : FuncData, (∀ (s : Shared) (u : Value), BindsTo s fd ⟨[u], []⟩ [("script", u)]) ∧ ∀ base : Heap, (K w.params).In base → base.Ns mainGlobals mg → FnG l.prog w (K w.params) mg base CX0 11 fa fd ["script"] (sp_law (K w.params))) :
    PySem.W.WalkO q loose XP YP l.row.toRowW d [] (fun f vs => PySem.call f vs) :=
  walk_ofG (n := 63) (k := 11) (x := "script") (sp := sp_law) hn (by decide) hdf ⟨rfl, by decide, by decide⟩ hY F fun _ _ a ns hl hb _ hS => ⟨a, ns, rfl, hS, hl, fun _ => rfl⟩
end Sb
open PySem PySem.W PyProof.Rows
set_option maxRecDepth 100000 in
set_option maxHeartbeats 0 in
theorem PySem.Challenge.cw_seenbefore_k86_errors_and_names_holds : PySem.Challenge.rw_seenbefore_k86_errors_and_names.Holds := by
  w_on; o_law; k_head; (case hw => w_witness2)
  k_fill
  refine Sb.walk (l := PySem.Challenge.rw_seenbefore_k86_errors_and_names) rfl rfl (fun w h Y => PySem.W.kIn_of Y) ?F
  case F =>
    intro w mg fa h KX G hmg
    refine' Sb.all_mk KX G hmg ?a0 ?l0 ?c0 ?k0 ?a1 ?l1 ?c1 ?k1 ?a2 ?l2 ?c2 ?k2 ?a3 ?l3 ?c3 ?k3 ?a4 ?l4 ?c4 ?k4 ?a5 ?l5 ?c5 ?k5 ?a6 ?l6 ?c6 ?k6 ?a7 ?l7 ?c7 ?k7 ?a8 ?l8 ?c8 ?k8 ?a9 ?l9 ?c9 ?k9 ?a10 ?i10 ?l10 ?c10 ?k10 ?a11 ?i11 ?l11 ?c11 ?k11 ?a12 ?i12 ?l12 ?c12 ?k12 ?a13 ?i13 ?l13 ?c13 ?k13 ?a14 ?i14 ?l14 ?c14 ?k14 ?a15 ?i15 ?l15 ?c15 ?k15 ?a16 ?i16 ?l16 ?c16 ?k16 ?a17 ?i17 ?l17 ?c17 ?k17 ?a18 ?i18 ?l18 ?c18 ?k18 ?a19 ?i19 ?l19 ?c19 ?k19 ?a20 ?i20 ?l20 ?c20 ?k20 ?a21 ?i21 ?l21 ?c21 ?k21 ?a22 ?i22 ?l22 ?c22 ?k22 ?a23 ?l23 ?c23 ?k23 ?a24 ?l24 ?c24 ?k24 ?a25 ?l25 ?c25 ?k25 ?a26 ?l26 ?c26 ?k26 ?a27 ?l27 ?c27 ?k27 ?a28 ?l28 ?c28 ?k28 ?a29 ?l29 ?c29 ?k29 ?a30 ?l30 ?c30 ?k30 ?a31 ?l31 ?c31 ?k31 ?a32 ?l32 ?c32 ?k32 ?a33 ?l33 ?c33 ?k33 ?a34 ?l34 ?c34 ?k34 ?a35 ?i35 ?l35 ?c35 ?k35 ?a36 ?i36 ?l36 ?c36 ?k36 ?a37 ?i37 ?l37 ?c37 ?k37 ?a38 ?i38 ?l38 ?c38 ?k38 ?a39 ?i39 ?l39 ?c39 ?k39 ?a40 ?l40 ?c40 ?k40 ?a41 ?l41 ?c41 ?k41 ?a42 ?l42 ?c42 ?k42 ?a43 ?l43 ?c43 ?k43 ?a44 ?l44 ?c44 ?k44 ?a45 ?l45 ?c45 ?k45 ?a46 ?l46 ?c46 ?k46 ?a47 ?l47 ?c47 ?k47 ?a48 ?l48 ?c48 ?k48 ?a49 ?l49 ?c49 ?k49 ?a50 ?l50 ?c50 ?k50 ?a51 ?l51 ?c51 ?k51 ?a52 ?l52 ?c52 ?k52 ?a53 ?l53 ?c53 ?k53 ?tf_Watcher_len ?wC_Watcher ?pg_Watcher ?hd_Watcher ?po_Watcher ?sa_Watcher ?mk_Watcher ?kc_Watcher ?nf_Watcherwords ?nf_Watcher_verdicts ?nf_Watcher_held ?nf_Watcher_rules ?wC_Follower ?pg_Follower ?hd_Follower ?po_Follower ?sa_Follower ?mk_Follower ?kc_Follower ?nf_Follower_watcher ?nf_Follower_trail ?eaC0 ?exL0 ?esa0 ?ega0 ?egg0 ?enb0 ?ea10 ?et10 ?el10 ?ec10 ?ekC0 ?eeC0 ?etC0 ?ehC0 ?eiC0 ?esC0 ?eaC1 ?exL1 ?esa1 ?ega1 ?egg1 ?enb1 ?ea11 ?et11 ?el11 ?ec11 ?ekC1 ?eeC1 ?etC1 ?ehC1 ?eiC1 ?esC1 ?eaC2 ?exL2 ?esa2 ?ega2 ?egg2 ?enb2 ?ea12 ?et12 ?el12 ?ec12 ?ekC2 ?eeC2 ?etC2 ?ehC2 ?eiC2 ?esC2 ?eaC3 ?exL3 ?esa3 ?ega3 ?egg3 ?enb3 ?ea13 ?et13 ?el13 ?ec13 ?ekC3 ?eeC3 ?etC3 ?ehC3 ?eiC3 ?esC3 ?eaC4 ?exL4 ?esa4 ?ega4 ?egg4 ?enb4 ?ea14 ?et14 ?el14 ?ec14 ?ekC4 ?eeC4 ?etC4 ?ehC4 ?eiC4 ?esC4 ?eaC5 ?exL5 ?esa5 ?ega5 ?egg5 ?enb5 ?ea15 ?et15 ?el15 ?ec15 ?ekC5 ?eeC5 ?etC5 ?ehC5 ?eiC5 ?esC5 ?eaC6 ?exL6 ?esa6 ?ega6 ?egg6 ?enb6 ?ea16 ?et16 ?el16 ?ec16 ?ekC6 ?eeC6 ?etC6 ?ehC6 ?eiC6 ?esC6 ?eaC7 ?exL7 ?esa7 ?ega7 ?egg7 ?enb7 ?ea17 ?et17 ?el17 ?ec17 ?ekC7 ?eeC7 ?etC7 ?ehC7 ?eiC7 ?esC7 ?eaC8 ?exL8 ?esa8 ?ega8 ?egg8 ?enb8 ?ea18 ?et18 ?el18 ?ec18 ?ekC8 ?eeC8 ?etC8 ?ehC8 ?eiC8 ?esC8 ?eaC9 ?exL9 ?esa9 ?ega9 ?egg9 ?enb9 ?ea19 ?et19 ?el19 ?ec19 ?ekC9 ?eeC9 ?etC9 ?ehC9 ?eiC9 ?esC9 ?eaC10 ?exL10 ?esa10 ?ega10 ?egg10 ?enb10 ?ea110 ?et110 ?el110 ?ec110 ?ekC10 ?eeC10 ?etC10 ?ehC10 ?eiC10 ?esC10 ?eaC11 ?exL11 ?esa11 ?ega11 ?egg11 ?enb11 ?ea111 ?et111 ?el111 ?ec111 ?ekC11 ?eeC11 ?etC11 ?ehC11 ?eiC11 ?esC11 ?eaC12 ?exL12 ?esa12 ?ega12 ?egg12 ?enb12 ?ea112 ?et112 ?el112 ?ec112 ?ekC12 ?eeC12 ?etC12 ?ehC12 ?eiC12 ?esC12 ?ap_UnknownState_NotAVerdict ?ap_UnknownState_LimitExceeded ?ap_UnknownState_NotAWord ?ap_UnknownState_InvalidTest ?ap_UnknownState_InvalidSources ?ap_UnknownState_RuleExists ?ap_NotAVerdict_UnknownState ?ap_NotAVerdict_LimitExceeded ?ap_NotAVerdict_NotAWord ?ap_NotAVerdict_InvalidTest ?ap_NotAVerdict_InvalidSources ?ap_NotAVerdict_RuleExists ?ap_LimitExceeded_UnknownState ?ap_LimitExceeded_NotAVerdict ?ap_LimitExceeded_NotAWord ?ap_LimitExceeded_InvalidTest ?ap_LimitExceeded_InvalidSources ?ap_LimitExceeded_RuleExists ?ap_NotAWord_UnknownState ?ap_NotAWord_NotAVerdict ?ap_NotAWord_LimitExceeded ?ap_NotAWord_InvalidTest ?ap_NotAWord_InvalidSources ?ap_NotAWord_RuleExists ?ap_InvalidTest_UnknownState ?ap_InvalidTest_NotAVerdict ?ap_InvalidTest_LimitExceeded ?ap_InvalidTest_NotAWord ?ap_InvalidTest_InvalidSources ?ap_InvalidTest_RuleExists ?ap_InvalidSources_UnknownState ?ap_InvalidSources_NotAVerdict ?ap_InvalidSources_LimitExceeded ?ap_InvalidSources_NotAWord ?ap_InvalidSources_InvalidTest ?ap_InvalidSources_RuleExists ?ap_RuleExists_UnknownState ?ap_RuleExists_NotAVerdict ?ap_RuleExists_LimitExceeded ?ap_RuleExists_NotAWord ?ap_RuleExists_InvalidTest ?ap_RuleExists_InvalidSources ?ixn ?ixt ?ixa_NotAStream ?ixm_NotAStream ?ixa_NotAWord ?ixm_NotAWord ?ixa_NotAVerdict ?ixm_NotAVerdict ?ixa_InvalidTest ?ixm_InvalidTest ?ixa_InvalidSources ?ixm_InvalidSources ?ixa_ParseError ?ixm_ParseError ?ixa_UnknownState ?ixm_UnknownState ?ixa_UnknownRule ?ixm_UnknownRule ?ixa_UnknownCheckpoint ?ixm_UnknownCheckpoint ?ixa_UnknownRecord ?ixm_UnknownRecord ?ixa_RuleExists ?ixm_RuleExists ?ixa_TooFar ?ixm_TooFar ?ixa_LimitExceeded ?ixm_LimitExceeded ?xg_InvalidClaim ?xk_InvalidClaim ?xq_InvalidClaim ?xga_InvalidClaim ?xgg_InvalidClaim ?xe_InvalidClaim ?xh_InvalidClaim ?ixa_InvalidClaim ?ixm_InvalidClaim ?xg_Unpaired ?xk_Unpaired ?xq_Unpaired ?xga_Unpaired ?xgg_Unpaired ?xe_Unpaired ?xh_Unpaired ?ixa_Unpaired ?ixm_Unpaired ?kOb ?kBb ?ka_MOST_WORDS ?ka_MOST_STATES ?ka_MOST_HELD ?ka_MOST_VERDICT ?ka_NEW ?ka_VALUE ?ka_EMPTY ?ka_MOST_DIGITS ?dA_DIGITS ?dL_DIGITS ?dK_DIGITS ?dS_DIGITS ?dE_DIGITS ?dA_FIRST_LINES ?dL_FIRST_LINES ?dK_FIRST_LINES ?dS_FIRST_LINES ?dE_FIRST_LINES ?z0 ?z1 ?z2 ?z3 ?z4 ?z5 ?z6 ?z7 ?z8 ?z9 ?z10 ?z11 ?z12 ?z13 ?z14 ?z15 ?z16 ?z17 ?z18 ?z19 ?z20 ?z21 ?z22
    case wC_Watcher => k_is
    case wC_Follower => k_is
    case dA_DIGITS => k_is
    case dL_DIGITS => k_is
    case dA_FIRST_LINES => k_is
    case dL_FIRST_LINES => k_is
    case a0 => k_is
    case l0 => k_is
    case c0 => k_is
    case k0 => k_is
    case a1 => k_is
    case l1 => k_is
    case c1 => k_is
    case k1 => k_is
    case a2 => k_is
    case l2 => k_is
    case c2 => k_is
    case k2 => k_is
    case a3 => k_is
    case l3 => k_is
    case c3 => k_is
    case k3 => k_is
    case a4 => k_is
    case l4 => k_is
    case c4 => k_is
    case k4 => k_is
    case a5 => k_is
    case l5 => k_is
    case c5 => k_is
    case k5 => k_is
    case a6 => k_is
    case l6 => k_is
    case c6 => k_is
    case k6 => k_is
    case a7 => k_is
    case l7 => k_is
    case c7 => k_is
    case k7 => k_is
    case a8 => k_is
    case l8 => k_is
    case c8 => k_is
    case k8 => k_is
    case a9 => k_is
    case l9 => k_is
    case c9 => k_is
    case k9 => k_is
    case a10 => k_is
    case i10 => k_is
    case l10 => k_is
    case c10 => k_is
    case k10 => k_is
    case a11 => k_is
    case i11 => k_is
    case l11 => k_is
    case c11 => k_is
    case k11 => k_is
    case a12 => k_is
    case i12 => k_is
    case l12 => k_is
    case c12 => k_is
    case k12 => k_is
    case a13 => k_is
    case i13 => k_is
    case l13 => k_is
    case c13 => k_is
    case k13 => k_is
    case a14 => k_is
    case i14 => k_is
    case l14 => k_is
    case c14 => k_is
    case k14 => k_is
    case a15 => k_is
    case i15 => k_is
    case l15 => k_is
    case c15 => k_is
    case k15 => k_is
    case a16 => k_is
    case i16 => k_is
    case l16 => k_is
    case c16 => k_is
    case k16 => k_is
    case a17 => k_is
    case i17 => k_is
    case l17 => k_is
    case c17 => k_is
    case k17 => k_is
    case a18 => k_is
    case i18 => k_is
    case l18 => k_is
    case c18 => k_is
    case k18 => k_is
    case a19 => k_is
    case i19 => k_is
    case l19 => k_is
    case c19 => k_is
    case k19 => k_is
    case a20 => k_is
    case i20 => k_is
    case l20 => k_is
    case c20 => k_is
    case k20 => k_is
    case a21 => k_is
    case i21 => k_is
    case l21 => k_is
    case c21 => k_is
    case k21 => k_is
    case a22 => k_is
    case i22 => k_is
    case l22 => k_is
    case c22 => k_is
    case k22 => k_is
    case a23 => k_is
    case l23 => k_is
    case c23 => k_is
    case k23 => k_is
    case a24 => k_is
    case l24 => k_is
    case c24 => k_is
    case k24 => k_is
    case a25 => k_is
    case l25 => k_is
    case c25 => k_is
    case k25 => k_is
    case a26 => k_is
    case l26 => k_is
    case c26 => k_is
    case k26 => k_is
    case a27 => k_is
    case l27 => k_is
    case c27 => k_is
    case k27 => k_is
    case a28 => k_is
    case l28 => k_is
    case c28 => k_is
    case k28 => k_is
    case a29 => k_is
    case l29 => k_is
    case c29 => k_is
    case k29 => k_is
    case a30 => k_is
    case l30 => k_is
    case c30 => k_is
    case k30 => k_is
    case a31 => k_is
    case l31 => k_is
    case c31 => k_is
    case k31 => k_is
    case a32 => k_is
    case l32 => k_is
    case c32 => k_is
    case k32 => k_is
    case a33 => k_is
    case l33 => k_is
    case c33 => k_is
    case k33 => k_is
    case a34 => k_is
    case l34 => k_is
    case c34 => k_is
    case k34 => k_is
    case a35 => k_is
    case i35 => k_is
    case l35 => k_is
    case c35 => k_is
    case k35 => k_is
    case a36 => k_is
    case i36 => k_is
    case l36 => k_is
    case c36 => k_is
    case k36 => k_is
    case a37 => k_is
    case i37 => k_is
    case l37 => k_is
    case c37 => k_is
    case k37 => k_is
    case a38 => k_is
    case i38 => k_is
    case l38 => k_is
    case c38 => k_is
    case k38 => k_is
    case a39 => k_is
    case i39 => k_is
    case l39 => k_is
    case c39 => k_is
    case k39 => k_is
    case a40 => k_is
    case l40 => k_is
    case c40 => k_is
    case k40 => k_is
    case a41 => k_is
    case l41 => k_is
    case c41 => k_is
    case k41 => k_is
    case a42 => k_is
    case l42 => k_is
    case c42 => k_is
    case k42 => k_is
    case a43 => k_is
    case l43 => k_is
    case c43 => k_is
    case k43 => k_is
    case a44 => k_is
    case l44 => k_is
    case c44 => k_is
    case k44 => k_is
    case a45 => k_is
    case l45 => k_is
    case c45 => k_is
    case k45 => k_is
    case a46 => k_is
    case l46 => k_is
    case c46 => k_is
    case k46 => k_is
    case a47 => k_is
    case l47 => k_is
    case c47 => k_is
    case k47 => k_is
    case a48 => k_is
    case l48 => k_is
    case c48 => k_is
    case k48 => k_is
    case a49 => k_is
    case l49 => k_is
    case c49 => k_is
    case k49 => k_is
    case a50 => k_is
    case l50 => k_is
    case c50 => k_is
    case k50 => k_is
    case a51 => k_is
    case l51 => k_is
    case c51 => k_is
    case k51 => k_is
    case a52 => k_is
    case l52 => k_is
    case c52 => k_is
    case k52 => k_is
    case a53 => k_is
    case l53 => k_is
    case c53 => k_is
    case k53 => k_is
    case tf_Watcher_len => k_is
    case pg_Watcher => k_is
    case hd_Watcher => k_is
    case po_Watcher => k_is
    case sa_Watcher => k_is
    case mk_Watcher => k_is
    case kc_Watcher => k_is
    case nf_Watcherwords => k_is
    case nf_Watcher_verdicts => k_is
    case nf_Watcher_held => k_is
    case nf_Watcher_rules => k_is
    case pg_Follower => k_is
    case hd_Follower => k_is
    case po_Follower => k_is
    case sa_Follower => k_is
    case mk_Follower => k_is
    case kc_Follower => k_is
    case nf_Follower_watcher => k_is
    case nf_Follower_trail => k_is
    case eaC0 => k_is
    case exL0 => k_is
    case esa0 => k_is
    case ega0 => k_is
    case egg0 => k_is
    case enb0 => k_is
    case ea10 => k_is
    case et10 => k_is
    case el10 => k_is
    case ec10 => k_is
    case ekC0 => k_is
    case eeC0 => k_is
    case etC0 => k_is
    case ehC0 => k_is
    case eiC0 => k_is
    case esC0 => first | rfl | k_is
    case eaC1 => k_is
    case exL1 => k_is
    case esa1 => k_is
    case ega1 => k_is
    case egg1 => k_is
    case enb1 => k_is
    case ea11 => k_is
    case et11 => k_is
    case el11 => k_is
    case ec11 => k_is
    case ekC1 => k_is
    case eeC1 => k_is
    case etC1 => k_is
    case ehC1 => k_is
    case eiC1 => k_is
    case esC1 => first | rfl | k_is
    case eaC2 => k_is
    case exL2 => k_is
    case esa2 => k_is
    case ega2 => k_is
    case egg2 => k_is
    case enb2 => k_is
    case ea12 => k_is
    case et12 => k_is
    case el12 => k_is
    case ec12 => k_is
    case ekC2 => k_is
    case eeC2 => k_is
    case etC2 => k_is
    case ehC2 => k_is
    case eiC2 => k_is
    case esC2 => first | rfl | k_is
    case eaC3 => k_is
    case exL3 => k_is
    case esa3 => k_is
    case ega3 => k_is
    case egg3 => k_is
    case enb3 => k_is
    case ea13 => k_is
    case et13 => k_is
    case el13 => k_is
    case ec13 => k_is
    case ekC3 => k_is
    case eeC3 => k_is
    case etC3 => k_is
    case ehC3 => k_is
    case eiC3 => k_is
    case esC3 => first | rfl | k_is
    case eaC4 => k_is
    case exL4 => k_is
    case esa4 => k_is
    case ega4 => k_is
    case egg4 => k_is
    case enb4 => k_is
    case ea14 => k_is
    case et14 => k_is
    case el14 => k_is
    case ec14 => k_is
    case ekC4 => k_is
    case eeC4 => k_is
    case etC4 => k_is
    case ehC4 => k_is
    case eiC4 => k_is
    case esC4 => first | rfl | k_is
    case eaC5 => k_is
    case exL5 => k_is
    case esa5 => k_is
    case ega5 => k_is
    case egg5 => k_is
    case enb5 => k_is
    case ea15 => k_is
    case et15 => k_is
    case el15 => k_is
    case ec15 => k_is
    case ekC5 => k_is
    case eeC5 => k_is
    case etC5 => k_is
    case ehC5 => k_is
    case eiC5 => k_is
    case esC5 => first | rfl | k_is
    case eaC6 => k_is
    case exL6 => k_is
    case esa6 => k_is
    case ega6 => k_is
    case egg6 => k_is
    case enb6 => k_is
    case ea16 => k_is
    case et16 => k_is
    case el16 => k_is
    case ec16 => k_is
    case ekC6 => k_is
    case eeC6 => k_is
    case etC6 => k_is
    case ehC6 => k_is
    case eiC6 => k_is
    case esC6 => first | rfl | k_is
    case eaC7 => k_is
    case exL7 => k_is
    case esa7 => k_is
    case ega7 => k_is
    case egg7 => k_is
    case enb7 => k_is
    case ea17 => k_is
    case et17 => k_is
    case el17 => k_is
    case ec17 => k_is
    case ekC7 => k_is
    case eeC7 => k_is
    case etC7 => k_is
    case ehC7 => k_is
    case eiC7 => k_is
    case esC7 => first | rfl | k_is
    case eaC8 => k_is
    case exL8 => k_is
    case esa8 => k_is
    case ega8 => k_is
    case egg8 => k_is
    case enb8 => k_is
    case ea18 => k_is
    case et18 => k_is
    case el18 => k_is
    case ec18 => k_is
    case ekC8 => k_is
    case eeC8 => k_is
    case etC8 => k_is
    case ehC8 => k_is
    case eiC8 => k_is
    case esC8 => first | rfl | k_is
    case eaC9 => k_is
    case exL9 => k_is
    case esa9 => k_is
    case ega9 => k_is
    case egg9 => k_is
    case enb9 => k_is
    case ea19 => k_is
    case et19 => k_is
    case el19 => k_is
    case ec19 => k_is
    case ekC9 => k_is
    case eeC9 => k_is
    case etC9 => k_is
    case ehC9 => k_is
    case eiC9 => k_is
    case esC9 => first | rfl | k_is
    case eaC10 => k_is
    case exL10 => k_is
    case esa10 => k_is
    case ega10 => k_is
    case egg10 => k_is
    case enb10 => k_is
    case ea110 => k_is
    case et110 => k_is
    case el110 => k_is
    case ec110 => k_is
    case ekC10 => k_is
    case eeC10 => k_is
    case etC10 => k_is
    case ehC10 => k_is
    case eiC10 => k_is
    case esC10 => first | rfl | k_is
    case eaC11 => k_is
    case exL11 => k_is
    case esa11 => k_is
    case ega11 => k_is
    case egg11 => k_is
    case enb11 => k_is
    case ea111 => k_is
    case et111 => k_is
    case el111 => k_is
    case ec111 => k_is
    case ekC11 => k_is
    case eeC11 => k_is
    case etC11 => k_is
    case ehC11 => k_is
    case eiC11 => k_is
    case esC11 => first | rfl | k_is
    case eaC12 => k_is
    case exL12 => k_is
    case esa12 => k_is
    case ega12 => k_is
    case egg12 => k_is
    case enb12 => k_is
    case ea112 => k_is
    case et112 => k_is
    case el112 => k_is
    case ec112 => k_is
    case ekC12 => k_is
    case eeC12 => k_is
    case etC12 => k_is
    case ehC12 => k_is
    case eiC12 => k_is
    case esC12 => first | rfl | k_is
    case ap_UnknownState_NotAVerdict => first | rfl | k_is
    case ap_UnknownState_LimitExceeded => first | rfl | k_is
    case ap_UnknownState_NotAWord => first | rfl | k_is
    case ap_UnknownState_InvalidTest => first | rfl | k_is
    case ap_UnknownState_InvalidSources => first | rfl | k_is
    case ap_UnknownState_RuleExists => first | rfl | k_is
    case ap_NotAVerdict_UnknownState => first | rfl | k_is
    case ap_NotAVerdict_LimitExceeded => first | rfl | k_is
    case ap_NotAVerdict_NotAWord => first | rfl | k_is
    case ap_NotAVerdict_InvalidTest => first | rfl | k_is
    case ap_NotAVerdict_InvalidSources => first | rfl | k_is
    case ap_NotAVerdict_RuleExists => first | rfl | k_is
    case ap_LimitExceeded_UnknownState => first | rfl | k_is
    case ap_LimitExceeded_NotAVerdict => first | rfl | k_is
    case ap_LimitExceeded_NotAWord => first | rfl | k_is
    case ap_LimitExceeded_InvalidTest => first | rfl | k_is
    case ap_LimitExceeded_InvalidSources => first | rfl | k_is
    case ap_LimitExceeded_RuleExists => first | rfl | k_is
    case ap_NotAWord_UnknownState => first | rfl | k_is
    case ap_NotAWord_NotAVerdict => first | rfl | k_is
    case ap_NotAWord_LimitExceeded => first | rfl | k_is
    case ap_NotAWord_InvalidTest => first | rfl | k_is
    case ap_NotAWord_InvalidSources => first | rfl | k_is
    case ap_NotAWord_RuleExists => first | rfl | k_is
    case ap_InvalidTest_UnknownState => first | rfl | k_is
    case ap_InvalidTest_NotAVerdict => first | rfl | k_is
    case ap_InvalidTest_LimitExceeded => first | rfl | k_is
    case ap_InvalidTest_NotAWord => first | rfl | k_is
    case ap_InvalidTest_InvalidSources => first | rfl | k_is
    case ap_InvalidTest_RuleExists => first | rfl | k_is
    case ap_InvalidSources_UnknownState => first | rfl | k_is
    case ap_InvalidSources_NotAVerdict => first | rfl | k_is
    case ap_InvalidSources_LimitExceeded => first | rfl | k_is
    case ap_InvalidSources_NotAWord => first | rfl | k_is
    case ap_InvalidSources_InvalidTest => first | rfl | k_is
    case ap_InvalidSources_RuleExists => first | rfl | k_is
    case ap_RuleExists_UnknownState => first | rfl | k_is
    case ap_RuleExists_NotAVerdict => first | rfl | k_is
    case ap_RuleExists_LimitExceeded => first | rfl | k_is
    case ap_RuleExists_NotAWord => first | rfl | k_is
    case ap_RuleExists_InvalidTest => first | rfl | k_is
    case ap_RuleExists_InvalidSources => first | rfl | k_is
    case ixn => k_is
    case ixt => k_is
    case ixa_NotAStream => k_is
    case ixm_NotAStream => k_is
    case ixa_NotAWord => k_is
    case ixm_NotAWord => k_is
    case ixa_NotAVerdict => k_is
    case ixm_NotAVerdict => k_is
    case ixa_InvalidTest => k_is
    case ixm_InvalidTest => k_is
    case ixa_InvalidSources => k_is
    case ixm_InvalidSources => k_is
    case ixa_ParseError => k_is
    case ixm_ParseError => k_is
    case ixa_UnknownState => k_is
    case ixm_UnknownState => k_is
    case ixa_UnknownRule => k_is
    case ixm_UnknownRule => k_is
    case ixa_UnknownCheckpoint => k_is
    case ixm_UnknownCheckpoint => k_is
    case ixa_UnknownRecord => k_is
    case ixm_UnknownRecord => k_is
    case ixa_RuleExists => k_is
    case ixm_RuleExists => k_is
    case ixa_TooFar => k_is
    case ixm_TooFar => k_is
    case ixa_LimitExceeded => k_is
    case ixm_LimitExceeded => k_is
    case xg_InvalidClaim => k_is
    case xk_InvalidClaim => k_is
    case xq_InvalidClaim => first | k_exc | kernel_rfl | rfl
    case xga_InvalidClaim => k_is
    case xgg_InvalidClaim => k_is
    case xe_InvalidClaim => k_is
    case xh_InvalidClaim => k_is
    case ixa_InvalidClaim => k_is
    case ixm_InvalidClaim => k_is
    case xg_Unpaired => k_is
    case xk_Unpaired => k_is
    case xq_Unpaired => first | k_exc | kernel_rfl | rfl
    case xga_Unpaired => k_is
    case xgg_Unpaired => k_is
    case xe_Unpaired => k_is
    case xh_Unpaired => k_is
    case ixa_Unpaired => k_is
    case ixm_Unpaired => k_is
    case kOb => first | kernel_rfl | rfl
    case kBb => first | kernel_rfl | rfl
    case ka_MOST_WORDS => k_is
    case ka_MOST_STATES => k_is
    case ka_MOST_HELD => k_is
    case ka_MOST_VERDICT => k_is
    case ka_NEW => k_is
    case ka_VALUE => k_is
    case ka_EMPTY => k_is
    case ka_MOST_DIGITS => k_is
    case dK_DIGITS => first | k_is | exact ⟨⟨_, _, rfl, rfl⟩, ⟨⟨_, _, rfl, rfl⟩, ⟨⟨_, _, rfl, rfl⟩, ⟨⟨_, _, rfl, rfl⟩, ⟨⟨_, _, rfl, rfl⟩, ⟨⟨_, _, rfl, rfl⟩, True.intro⟩⟩⟩⟩⟩⟩
    case dS_DIGITS => first | rfl | decide +kernel | k_is
    case dE_DIGITS => first | k_is | exact ⟨⟨_, rfl⟩, ⟨_, rfl⟩, ⟨⟨_, rfl⟩, ⟨_, rfl⟩, ⟨⟨_, rfl⟩, ⟨_, rfl⟩, ⟨⟨_, rfl⟩, ⟨_, rfl⟩, ⟨⟨_, rfl⟩, ⟨_, rfl⟩, ⟨⟨_, rfl⟩, ⟨_, rfl⟩, True.intro⟩⟩⟩⟩⟩⟩
    case dK_FIRST_LINES => first | k_is | exact ⟨⟨_, _, rfl, rfl⟩, ⟨⟨_, _, rfl, rfl⟩, ⟨⟨_, _, rfl, rfl⟩, True.intro⟩⟩⟩
    case dS_FIRST_LINES => first | rfl | decide +kernel | k_is
    case dE_FIRST_LINES => first | k_is | exact ⟨⟨_, rfl⟩, ⟨_, rfl⟩, ⟨⟨_, rfl⟩, ⟨_, rfl⟩, ⟨⟨_, rfl⟩, ⟨_, rfl⟩, True.intro⟩⟩⟩
    case z0 => k_is
    case z1 => k_is
    case z2 => k_is
    case z3 => k_is
    case z4 => k_is
    case z5 => k_is
    case z6 => k_is
    case z7 => k_is
    case z8 => k_is
    case z9 => k_is
    case z10 => k_is
    case z11 => k_is
    case z12 => k_is
    case z13 => k_is
    case z14 => k_is
    case z15 => k_is
    case z16 => k_is
    case z17 => k_is
    case z18 => k_is
    case z19 => k_is
    case z20 => k_is
    case z21 => k_is
    case z22 => k_is
