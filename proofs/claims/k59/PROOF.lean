import PyProof.Rows.All
import Wide.All
import OpenK.AllK
import Wide.FinOn
import HandS.ForMost
import HandS.ExcOwn
import HandS.EndBits
import HandS.Codes
import HandS.Wide
import HandS.TupAny
import HandS.ForExc
import HandS.IsInst
import HandS.Strs
import HandS.SetKeys
import HandS.TupMul
import HandS.TryMany
import HandS.DictComp
import HandS.Conv
import HandS.SortKw
import KE.KExcInit
import KE.SortKeyHeap
import KE.KDictSum
import PyProof.NeData
import PyProof.EqKinds
import OpenK.KMake
import HandS.TupLen
import HandS.Walk
import HandS.Iter
import KE.KDictDisplayH
import HandS.DictTup
import HandS.ListItems
import KE.KDictItemsList
import HandS.SortInts
import HandS.More
import HandS.ExcIs
import KE.KExcIs
import HandS.DictEq
import KE.KEqNest
import KE.DataEq
import HandS.Flow
import KE.SortData
import PyProof.Rows.SortWalk
import KE.KNestM
import HandS.Zip
import KE.GoesMore
import KE.GoesEnum
import HandS.Style
import HandS.StrMore
import KE.IntTextLaws
import HandS.WrittenGet
import HandS.FStr
import PyProof.StrBlock2
import HandS.Star
import HandS.RaiseMore
import HandS.TryOnly
import KE.KUnpackStar
import KE.KTryMore
import KE.KDictPairs
import KE.KDictCopyH
import HandS.TupLe
import HandS.Defaults
import HandS.MakeKwOnly
import HandS.SetFor
import PySem.Challenge.RW_seenbefore_k59_whole_nothing_to_drop_twi
set_option Elab.async false
set_option linter.all false
set_option maxRecDepth 100000
set_option maxHeartbeats 4000000

/-! Promises of defs where no repr is under way (guards = []): so the repr of made data is known to the sign. -/
namespace Sb
open PySem PySem.Spec PyProof.Rows L2
/-- as FnOk, for calls around which no repr is under way -/
structure FnG (P : Program) (w : World) (K : PySem.W.Frag) (mg : Str → Option Value) (base : Heap) (CX : CXT) (k : Nat) (f : Addr)
    (fd : FuncData) (ps : List Str) (sp : Sp) : Prop where
  len : ∀ vs H Q E, sp vs H Q E → vs.length = ps.length
  run : ∀ (A : Around) (outer : List Env) (s : Shared) (H : Hp) (args : Args) (us : List Value) (vs : List V) (Q : VK) (E : XK),
    A.guards = some [] → Room k A → Env0 P w K mg base A outer s H → BindsTo s fd args (ps.zip us) → Vals vs us → sp vs H Q E →
    codeAny (model P w) A (.call (.ref f) args) (CR CX outer P w H s Q E) s
section
variable {P : Program} {w : World} {K : PySem.W.Frag} {mg : Str → Option Value} {base : Heap} {CX : CXT} {k : Nat} {f : Addr}
theorem FnG.mono {j : Nat} {fd : FuncData} {ps : List Str} {sp : Sp} (F : FnG P w K mg base CX j f fd ps sp) (h : j ≤ k) : FnG P w K mg base CX k f fd ps sp :=
  { len := F.len, run := fun A o s H a us vs Q E g r => F.run A o s H a us vs Q E g (r.mono h) }
theorem FnG.imp {fd : FuncData} {ps : List Str} {sp sp' : Sp} (F : FnG P w K mg base CX k f fd ps sp) (h : ∀ vs H Q E, sp' vs H Q E → sp vs H Q E) :
    FnG P w K mg base CX k f fd ps sp' :=
  { len := fun vs H Q E z => F.len vs H Q E (h _ _ _ _ z), run := fun A o s H a us vs Q E g r e b v z => F.run A o s H a us vs Q E g r e b v (h _ _ _ _ z) }
theorem FnG.of {fd : FuncData} {ps : List Str} {sp : Sp} (F : FnOk P w K mg base CX k f fd ps sp) : FnG P w K mg base CX k f fd ps sp :=
  { len := F.len, run := fun A o s H a us vs Q E _ r => F.run A o s H a us vs Q E r }
/-- from a body to its def -/
theorem fnG_body {name qual : Str} {params : Arguments} {body : List Stmt} {sc : Scope} {dV kV doc pm cdv ct oc : Value} {an od : Option Addr} {osl : Array (Option Value)} {N ps : List Str} {sp : Sp}
    (lk : K.lookup f = some ⟨oc, od, .func (PySem.W.fnOf name qual params body sc dV kV doc pm an cdv ct), osl⟩) (hcd : PySem.W.codeIn K cdv qual = true) (S : FnScope N ps sc)
    (len : ∀ vs H Q E, sp vs H Q E → vs.length = ps.length)
    (walk : ∀ (A : Around) (outer : List Env) (s : Shared) (H : Hp) (vs : List V) (Q : VK) (E : XK), A.guards = some [] →
      Room k (A.deeper (envOfC qual sc s.heap.objs.size f cdv)) → sp vs H Q E →
      ∃ t, PSs (cxOf CX P w K mg base N qual sc f cdv A outer s H E) body t ∧ t { nx := fun _ H' => Q .non H', rt := Q } (start N vs) H) :
    FnG P w K mg base CX (k + 1) f (PySem.W.fnOf name qual params body sc dV kV doc pm an cdv ct) ps sp := by
  constructor
  · exact len
  intro A outer s H args us vs Q E gd room e0 bd rv want
  have inK : K.In s.heap := e0.mod.kin.keeps fun b o q => (e0.bs b o q).1
  have noLim : s.heap.NoLimit := e0.mod.nolimit.keeps fun b o q => (e0.bs b o q).1
  have kinds : ∀ y ∈ ps.zip us, sc.names.lookup y.1 = some .local ∨
      (sc.names.lookup y.1 = some .cell ∧ ((cellsFrom (s.heap.objs.size + 1) sc.names []).lookup y.1).isSome = true) := by
    rintro ⟨n, v⟩ hy
    cases S.par n (List.of_mem_zip hy).1 with
    | inl q => exact Or.inl q
    | inr q => exact Or.inr ⟨q, PySem.W.cellsFrom_some _ _ _ (Or.inl q)⟩
  apply codeAny_call_function room.depth (inK _ _ lk) rfl S.co S.gen rfl (PySem.W.codeRec_of inK hcd)
  apply bd
  apply wpAny_newFunctionEnv_cells S.kind kinds
  intro env he s1 x
  subst he
  refine ⟨noLim.keeps x.toInCall.keep, ?_⟩
  apply codeAny_func
  obtain ⟨t, ht, hq⟩ := walk A outer s H vs Q E gd (room.deeper _) want
  have I := inv_start (CX := CX) (E := E) S room.hd e0 (len _ _ _ _ want) rv x
  refine wpAny_mono (ht.run [] s1 (start N vs) H _ I hq) (fun fl s' hs => ?_) (fun _ _ hs => hs)
  match fl, hs with
  | .ret u, ⟨v, σ', H', J, r', q⟩ => exact ⟨v, H', J.os, J.bare, J.base, J.hok, r', q⟩
  | .next, ⟨σ', H', J, q⟩ => exact ⟨V.non, H', J.os, J.bare, J.base, J.hok, rfl, q⟩
  | .brk, ⟨_, _, _, q⟩ => exact q.elim
  | .cont, ⟨_, _, _, q⟩ => exact q.elim
/-- a def of the text; its walk may use that no repr is under way -/
theorem okG {x qual : Str} {st : Stmt} {fd : FuncData} {N ps : List Str} {sp : Sp} (F : Fun K x qual st f fd) (S : FnScope N ps (defScope st)) (len : ∀ vs H Q E, sp vs H Q E → vs.length = ps.length)
    (walk : ∀ (cdv : Value) (A : Around) (outer : List Env) (s : Shared) (H : Hp) (vs : List V) (Q : VK) (E : XK), A.guards = some [] →
      Room k (A.deeper (envOfC qual (defScope st) s.heap.objs.size f cdv)) → sp vs H Q E →
      ∃ t, PSs (cxOf CX0 P w K mg base N qual (defScope st) f cdv A outer s H E).nox (defBody st) t ∧ t { nx := fun _ H' => Q .non H', rt := Q } (start N vs) H) :
    FnG P w K mg base CX0 (k + 1) f fd ps sp := by
  obtain ⟨oc, od, kV, doc, pm, an, cdv, ct, osl, e, lk, hcd⟩ := F.ex
  subst e
  apply fnG_body lk hcd S len
  intro A outer s H vs Q E gd room want
  obtain ⟨t, h, q⟩ := walk cdv A outer s H vs Q E gd room want
  exact ⟨t, h.nox, q⟩
/-- the same for a def that may raise -/
theorem okGX {x qual : Str} {st : Stmt} {fd : FuncData} {N ps : List Str} {sp : Sp} (F : Fun K x qual st f fd) (S : FnScope N ps (defScope st)) (len : ∀ vs H Q E, sp vs H Q E → vs.length = ps.length)
    (walk : ∀ (cdv : Value) (A : Around) (outer : List Env) (s : Shared) (H : Hp) (vs : List V) (Q : VK) (E : XK), A.guards = some [] →
      Room k (A.deeper (envOfC qual (defScope st) s.heap.objs.size f cdv)) → sp vs H Q E →
      ∃ t, PSs (cxOf (L2.CX P w) P w K mg base N qual (defScope st) f cdv A outer s H E) (defBody st) t ∧ t { nx := fun _ H' => Q .non H', rt := Q } (start N vs) H) :
    FnG P w K mg base (L2.CX P w) (k + 1) f fd ps sp := by
  obtain ⟨oc, od, kV, doc, pm, an, cdv, ct, osl, e, lk, hcd⟩ := F.ex
  subst e
  exact fnG_body lk hcd S len fun A outer s H vs Q E gd room want => walk cdv A outer s H vs Q E gd room want
end

section
variable {X : Cx} {CX : CXT} {k : Nat} {f C : Addr} {fd : FuncData} {ps : List Str} {sp : Sp} {dvs : List V} {ds : List Value} {x m : Str} {p pos apos : Pos} {e o : Expr} {es : List Expr} {ta : TE} {t : TA}
/-- the callee runs; E hangs on the slots -/
theorem runG {pins : List (Addr × Obj)} {σ : L2.St} {H : Hp} {s : Shared} {Q : VK} {E : XK} {us : List Value} {vs : List V} (F : FnG X.prog X.w X.K X.mg X.base CX k f fd ps sp) (gd : X.A.guards = some []) (hr : Room k X.A)
    (hb : Binds X.K fd ps ds) (hd : Vals dvs ds) (hx : ∀ (e : Value) (s' : Shared), CX X.stack H s E e s' → X.xe e s') (I : Inv X pins σ H s) (r : Vals vs us) (h : sp (vs ++ dvs) H Q E) :
    wpAny (model X.prog X.w) X.A (call (.ref f) us) (EP X pins σ Q) X.xe s := by
  have rr := r.append hd
  have nl : (us ++ ds).length = ps.length := rr.length ▸ F.len _ _ _ _ h
  apply wpAny_call
  refine codeAny_mono (F.run X.A X.stack s H ⟨us, []⟩ _ _ Q E gd hr I.env0 (hb s us I.kIn nl) rr h) ?_
  intro res s' hres
  match res, hres with
  | .error er, z => exact hx er s' z
  | .ok (.ret u), z => exact I.after z
  | .ok .next, z => exact z.elim
  | .ok .brk, z => exact z.elim
  | .ok .cont, z => exact z.elim
/-- f(e, ..) -/
theorem pe_callG {E : XK} (F : FnG X.prog X.w X.K X.mg X.base CX k f fd ps sp) (gd : X.A.guards = some []) (hr : Room k X.A) (hg : Gl X x) (hm : X.mg x = some (.ref f)) (hk : PySem.W.keepIn X.K (.ref f) = true)
    (hb : Binds X.K fd ps ds) (hd : Vals dvs ds) (hx : Passes CX X E) (ha : PA X (e :: es) t) (hdb : (x == ("__debug__" : Str)) = false := by decide)
    (he : starEach (e :: es) X.env = (false, eval e X.env) :: starEach es X.env := by rfl)
    (hpl : (backTo pos (starEach es X.env)).any (·.1) = false := by rfl) : PE X (.Call (.Name x p) (e :: es) [] pos) (tCall sp dvs E t) := by
  constructor
  intro pins s σ H Q I h
  apply wpAny_Call_Name_kw
  apply ld_glob I hg hm _ hdb
  apply PySem.W.callWith_K (h₀ := X.base) I.ok.mod.kin hk _ he hpl
  refine thn (ha.run pos pins s σ H _ I h) ?_
  rintro us s1 ⟨vs, H1, I1, r, q⟩
  exact ⟨I1.kIn, runG F gd hr hb hd (fun er s' z => hx pins σ H1 s1 er s' I1 z) I1 r q⟩
/-- f(e, ..), what is raised wished for at the slots -/
theorem pe_callGS {E : L2.St → XK} (F : FnG X.prog X.w X.K X.mg X.base CX k f fd ps sp) (gd : X.A.guards = some []) (hr : Room k X.A) (hg : Gl X x) (hm : X.mg x = some (.ref f)) (hk : PySem.W.keepIn X.K (.ref f) = true)
    (hb : Binds X.K fd ps []) (hx : ∀ σ, PassesAt CX X σ (E σ)) (ha : PA X (e :: es) t) (hdb : (x == ("__debug__" : Str)) = false := by decide)
    (he : starEach (e :: es) X.env = (false, eval e X.env) :: starEach es X.env := by rfl)
    (hpl : (backTo pos (starEach es X.env)).any (·.1) = false := by rfl) : PE X (.Call (.Name x p) (e :: es) [] pos) (tCallS sp E t) := by
  constructor
  intro pins s σ H Q I h
  apply wpAny_Call_Name_kw
  apply ld_glob I hg hm _ hdb
  apply PySem.W.callWith_K (h₀ := X.base) I.ok.mod.kin hk _ he hpl
  refine thn (ha.run pos pins s σ H _ I h) ?_
  rintro us s1 ⟨vs, H1, I1, r, q⟩
  have q' : sp (vs ++ []) H1 Q (E σ) := by rw [List.append_nil]; exact q
  exact ⟨I1.kIn, runG F gd hr hb .nil (fun er s' z => hx σ pins H1 s1 er s' I1 z) I1 r q'⟩
/-- repr of data -/
theorem call_reprD (gd : X.A.guards = some []) (hu : X.A.units + 64 < cLine) : CallR X (.builtin "repr") (fun xs H Q => ∃ v d, xs = [v] ∧ Dp X.K H v d ∧ d.showable = true ∧ d.hasDict = false ∧ d.depth ≤ 60 ∧ d.shown.length ≤ sizeLine ∧ Q (.str d.shown) H) := by
  rintro pins s σ H xs us Q I r ⟨v, d, rfl, hd, hs, hnd, hdp, hz, q⟩
  obtain ⟨u, rfl, ru⟩ := vals1 r
  obtain ⟨as, rd⟩ := Dp.reads I d v u hd ru
  cases v with
  | ref a =>
    obtain rfl : u = Value.ref a := ru
    refine repr_of_reads' rd hs (PyData.noDict_hsm hnd) gd (by omega) (fun _ _ z => z) (fun h' u' tk hk => ?_) hz
    exact ⟨.str d.shown, H, I.kept (fun b o z => hk b o z), ⟨_, rfl⟩, q⟩
  | non =>
    cases hd
    obtain rfl : u = Value.none := ru
    exact PySem.P.repr_of_none ⟨.str _, H, I.tok _, ⟨_, rfl⟩, q⟩
  | bl b =>
    cases hd
    obtain rfl : u = Value.bool b := ru
    exact PySem.P.repr_of_bool ⟨.str _, H, I.tok _, ⟨_, rfl⟩, q⟩
  | int i =>
    cases hd
    obtain ⟨tk, rfl⟩ := ru
    have hi : i.natAbs.log2 < 1920 := by simpa [PyData.showable] using hs
    exact PySem.P.repr_of_int hi ⟨.str _, H, I.tok _, ⟨_, rfl⟩, q⟩
  | str z =>
    cases hd
    obtain ⟨tk, rfl⟩ := ru
    exact PySem.P.repr_of_str (hsz := by simpa only [PyData.shown] using hz) ⟨.str _, H, I.tok _, ⟨_, rfl⟩, q⟩
  | byt b => cases hd
  | flt b => cases hd
  | ty n => cases hd
end
end Sb

namespace Sb
open PySem PySem.Spec PyProof.Rows L2
section
variable {P : Program} {w : World} {K : PySem.W.Frag} {mg mb : Str → Option Value} {k : Nat} {fa a : Addr} {fd : FuncData} {x : Str} {sp : Sp} {s1 : Shared} {vs : List Value} {ns : List Int}
/-- what the row asks of the law's call -/
abbrev Done (P : Program) (w : World) (fa a : Addr) (s1 : Shared) : Prop := codeAny (model P w) callerA (.call (.ref fa) ⟨[.ref a], []⟩)
  (fun r s' => r = .ok (.ret (.bool true)) ∧ OldK s1.heap s'.heap ∧ s'.os = s1.os ∧ AllBare s'.gens) s1
/-- the law's call over an abstract heap that tracks the script at most -/
theorem overH {H : Hp} (KX : K.In s1.heap) (hns : s1.heap.Ns mainGlobals mg) (hb : s1.heap.Ns builtinsNs mb) (hbb : ∀ x : Str, x ≠ "__name__" → mb x = bootBuiltins x) (hlim : s1.heap.NoLimit) (hg : s1.gens = #[])
    (ha : s1.heap.get? a = some { cls := .type "list", data := .seq vs.toArray }) (hr : Room k callerA)
    (F : ∀ base : Heap, K.In base → base.Ns mainGlobals mg → FnG P w K mg base CX0 k fa fd [x] sp) (bd : ∀ (s : Shared) (u : Value), BindsTo s fd ⟨[u], []⟩ [(x, u)])
    (hO : Only H) (ok : HOk P w H s1.heap) (onlyA : ∀ b, H b ≠ none → b = a) (notK : H a ≠ none → K.lookup a = none)
    (want : sp [.ref a] H (fun v _ => v = .bl true) fun _ _ _ => False) : Done P w fa a s1 := by
  have free : ∀ {b : Addr} {o : Obj}, s1.heap.get? b = some o → (b = a → H b = none) → H b = none := by
    intro b o _ z
    cases q : H b with
    | none => rfl
    | some u =>
      have e : b = a := onlyA b (by simp [q])
      rw [z e] at q
      cases q
  have dict : ∀ {b : Addr} {o : Obj} {es : Array DictEntry} {ep : Nat}, s1.heap.get? b = some o → o.data = .dict es ep → H b = none := by
    intro b o es ep e d
    apply free e
    intro z
    subst z
    rw [ha] at e
    cases e
    cases (show Data.seq vs.toArray _ = Data.dict es ep from d)
  have spaces : ∀ {b : Addr} {m : Str → Option Value}, s1.heap.Ns b m → (hidT s1.heap H).Ns b m := by
    rintro b m ⟨o, es, ep, e, d, r⟩
    exact ⟨o, es, ep, hidT_get e (dict e d), d, r⟩
  have inB : K.In (hidT s1.heap H) := by
    intro b o e
    refine hidT_get (KX b o e) (free (KX b o e) fun z => ?_)
    subst z
    cases q : H b with
    | none => rfl
    | some u =>
      rw [notK (by simp [q])] at e
      cases e
  obtain ⟨mc, c1, c2⟩ := hlim
  have md : Mod K mg (hidT s1.heap H) := ⟨inB, spaces hns, ⟨mb, spaces hb, hbb⟩, ⟨mc, spaces c1, c2⟩⟩
  have e0 : Env0 P w K mg (hidT s1.heap H) callerA [] s1 H :=
    { frames := rfl, mod := md, bs := fun b o e => of_hidT e, bsz := Nat.le_of_eq (hidT_size _ _), funs := trivial, frf := (fun b z => (by cases z)), hok := ok, bare := .of_eq hg }
  have run := (F _ inB (spaces hns)).run callerA [] s1 H ⟨[.ref a], []⟩ [.ref a] [.ref a] _ _ rfl hr e0 (bd s1 (.ref a)) (.cons rfl .nil) want
  refine codeAny_mono run ?_
  intro r s' z
  match r, z with
  | .error e, z =>
    exact False.elim z
  | .ok .next, z => exact False.elim z
  | .ok .brk, z => exact False.elim z
  | .ok .cont, z => exact False.elim z
  | .ok (.ret u), ⟨v, H', os, bare, un, ok', rel, q⟩ =>
    subst q
    obtain rfl : u = Value.bool true := rel
    refine ⟨rfl, OldK.of_keep ?_, os, bare⟩
    intro b o e
    cases q : H b with
    | none => exact un.keep b o e q (fun z => by cases z) (fun z => by cases z)
    | some u =>
      cases hO b with
      | inl z =>
        rw [q] at z
        cases z
      | inr z =>
        obtain ⟨ob, xs, z⟩ := z
        have e1 := (ok b _ z).1
        have e2 := (ok' b _ (un.frzs b ob _ z)).1
        rw [e] at e1
        cases e1
        exact e2
/-- the law's call -/
theorem law_callG (KX : K.In s1.heap) (hns : s1.heap.Ns mainGlobals mg) (hb : s1.heap.Ns builtinsNs mb) (hbb : ∀ x : Str, x ≠ "__name__" → mb x = bootBuiltins x) (hlim : s1.heap.NoLimit) (hg : s1.gens = #[])
    (ha : s1.heap.get? a = some { cls := .type "list", data := .seq vs.toArray }) (hi : IntsAre vs ns) (hl : ns.length ≤ sizeLine) (hr : Room k callerA)
    (F : ∀ base : Heap, K.In base → base.Ns mainGlobals mg → FnG P w K mg base CX0 k fa fd [x] sp) (bd : ∀ (s : Shared) (u : Value), BindsTo s fd ⟨[u], []⟩ [(x, u)])
    (want : ∀ H : Hp, Only H → SqL K H a (ns.map V.int) → sp [.ref a] H (fun v _ => v = .bl true) fun _ _ _ => False) : Done P w fa a s1 := by
  have rv := vals_ints hi
  have nv := hi.length
  by_cases hk : K.lookup a = none
  · let H : Hp := fun b => if b = a then some (.frz { cls := .type "list", data := .seq vs.toArray } (.lst (ns.map V.int))) else none
    have at_a : H a = some (.frz { cls := .type "list", data := .seq vs.toArray } (.lst (ns.map V.int))) := if_pos rfl
    have off : ∀ b, b ≠ a → H b = none := fun b z => if_neg z
    have hO : Only H := by
      intro b
      by_cases e : b = a
      · subst e
        exact Or.inr ⟨_, _, at_a⟩
      · exact Or.inl (off b e)
    refine overH (H := H) KX hns hb hbb hlim hg ha hr F bd hO ?_ ?_ (fun _ => hk) (want H hO (Or.inl (Or.inr ⟨_, at_a⟩)))
    · intro b u z
      by_cases e : b = a
      · subst e
        rw [at_a] at z
        cases z
        exact ⟨ha, by rw [List.length_map]; exact hl, vs, _, rv, ha⟩
      · rw [off b e] at z
        cases z
    · intro b z
      by_cases e : b = a
      · exact e
      · exact absurd (off b e) z
  · cases q : K.lookup a with
    | none => exact absurd q hk
    | some o =>
      have e := KX a o q
      rw [ha] at e
      cases e
      have hO : Only fun _ => none := fun _ => Or.inl rfl
      refine overH (H := fun _ => none) KX hns hb hbb hlim hg ha hr F bd hO (fun b u z => by cases z) (fun b z => absurd rfl z) (fun z => absurd rfl z) (want _ hO (Or.inr ?_))
      exact ⟨_, vs.toArray, _, q, rfl, rfl, rfl, by rw [List.size_toArray, nv]; exact hl, by simpa using rv⟩
end
/-- the row's end, from the law's promise -/
theorem walk_ofG {l : PySem.W.OpenLaw} {n k : Nat} {q : Program} {loose : List Str} {XP : (Str → Option Value) → Heap → Prop} {YP : World → Heap → Prop} {d : DefRec} {K : Params → PySem.W.Frag} {sp : PySem.W.Frag → Sp} {x : Str}
    (hn : l.most = some n) (hn2 : n ≤ sizeLine) (hdf : d.params.defaults = []) (hr : Room k callerA) (hY : ∀ (w : World) (h : Heap), YP w h → (K w.params).In h)
    (F : ∀ (w : World) (mg : Str → Option Value) (fa : Addr) (h : Heap), (K w.params).In h → h.Ns mainGlobals mg → mg d.name = some (.ref fa) →
      ∃ fd : FuncData, (∀ (s : Shared) (u : Value), BindsTo s fd ⟨[u], []⟩ [(x, u)]) ∧
        ∀ base : Heap, (K w.params).In base → base.Ns mainGlobals mg → FnG l.prog w (K w.params) mg base CX0 k fa fd [x] (sp (K w.params)))
    (want : ∀ (K : PySem.W.Frag) (H : Hp) (a : Addr) (ns : List Int), ns.length ≤ n → (∀ z ∈ ns, Builtin.Int.intBits z ≤ 1048576) → Only H → SqL K H a (ns.map V.int) →
      sp K [.ref a] H (fun v _ => v = .bl true) fun _ _ _ => False) : PySem.W.WalkO q loose XP YP l.row.toRowW d [] (fun f vs => PySem.call f vs) := by
  apply Att.attach_callB hn hdf
  intro w s0 s1 mg mb fa o pm cd doc a vs ns G Y ho hd hcd hmg hobj hints hlen hbits hg
  obtain ⟨fd, bd, hF⟩ := F w mg fa _ (hY w _ Y) G.T.g hmg
  exact law_callG (hY w _ Y) G.T.g G.T.b G.T.builtins G.T.nolimit hg hobj hints (Nat.le_trans hlen hn2) hr hF bd (fun H hO hS => want _ H a ns hlen hbits hO hS)
end Sb

/-! Data that is small enough to be shown and compared. -/
namespace Sb
open PySem PySem.Spec PyProof.Rows L2
structure Nice (n m : Nat) (d : PyData) : Prop where
  lay : d.canLay0 = true
  dep : d.depth ≤ n
  sho : d.showable = true
  nod : d.hasDict = false
  len : d.shown.length ≤ m
theorem Nice.mono {n m n' m' : Nat} {d : PyData} (h : Nice n m d) (hn : n ≤ n') (hm : m ≤ m') : Nice n' m' d :=
  { h with dep := Nat.le_trans h.dep hn, len := Nat.le_trans h.len hm }
theorem Nice.shaped {n m : Nat} {d : PyData} (h : Nice n m d) (hn : n ≤ 64) : SeqAt.shaped d = true := by
  unfold SeqAt.shaped
  rw [h.lay, decide_eq_true (Nat.le_trans h.dep hn)]
  rfl
theorem log_small {i : Int} (h : i.natAbs < 10 ^ 99) : i.natAbs.log2 < 400 :=
  PySem.Flt.log2_lt_of (by decide) (Nat.lt_of_lt_of_le h (by decide +kernel))
theorem Nice.int {i : Int} (h : i.natAbs < 10 ^ 99) : Nice 0 100 (.int i) := by
  refine ⟨rfl, Nat.le_refl _, ?_, rfl, ?_⟩
  · have := log_small h
    simp only [PyData.showable, decide_eq_true_eq]
    omega
  · have e := int_text_length_le10 (k := 99) (by decide) h
    show (Str.ofString (toString i)).length ≤ 100
    rw [PySem.ofString_length]
    exact e
theorem Nice.bool (b : Bool) : Nice 0 5 (.bool b) := by
  refine ⟨rfl, Nat.le_refl _, rfl, rfl, ?_⟩
  cases b <;> decide
theorem Nice.none : Nice 0 4 .none := ⟨rfl, Nat.le_refl _, rfl, rfl, by decide⟩
theorem niceAll {n m : Nat} : ∀ {ds : List PyData}, (∀ d ∈ ds, Nice n m d) → PyData.canLayAll0 ds = true ∧ PyData.depthAll ds ≤ n ∧ PyData.showableAll ds = true ∧ PyData.hasDictAll ds = false ∧
    ((PyData.shownAll ds).map (·.length)).sum ≤ ds.length * m ∧ (PyData.shownAll ds).length = ds.length
  | [], _ => ⟨rfl, Nat.zero_le _, rfl, rfl, by simp [PyData.shownAll], rfl⟩
  | d :: ds, h => by
    have hd := h d List.mem_cons_self
    obtain ⟨a, b, c, e, f, g⟩ := niceAll (ds := ds) fun x hx => h x (List.mem_cons_of_mem _ hx)
    refine ⟨?_, ?_, ?_, ?_, ?_, ?_⟩
    · simp only [PyData.canLayAll0, hd.lay, a, Bool.and_self]
    · simp only [PyData.depthAll]
      exact Nat.max_le.mpr ⟨hd.dep, b⟩
    · simp only [PyData.showableAll, hd.sho, c, Bool.and_self]
    · simp only [PyData.hasDictAll, hd.nod, e, Bool.or_self]
    · simp only [PyData.shownAll, List.map_cons, List.sum_cons, List.length_cons]
      have := hd.len
      rw [Nat.succ_mul]
      omega
    · simp only [PyData.shownAll, List.length_cons, g]
theorem Nice.tuple {n m k : Nat} {ds : List PyData} (h : ∀ d ∈ ds, Nice n m d) (hk : ds.length ≤ k) : Nice (n + 1) (k * m + 2 * k + 3) (.tuple ds) := by
  obtain ⟨a, b, c, e, f, g⟩ := niceAll h
  refine ⟨a, by simp only [PyData.depth]; omega, c, e, ?_⟩
  have l := tupleText_len_le (PyData.shownAll ds)
  simp only [PyData.shown]
  rw [g] at l
  have l2 : ds.length * m ≤ k * m := Nat.mul_le_mul_right _ hk
  omega
theorem Nice.list {n m k : Nat} {ds : List PyData} (h : ∀ d ∈ ds, Nice n m d) (hk : ds.length ≤ k) : Nice (n + 1) (k * m + 2 * k + 3) (.list ds) := by
  obtain ⟨a, b, c, e, f, g⟩ := niceAll h
  refine ⟨a, by simp only [PyData.depth]; omega, c, e, ?_⟩
  have l := listText_len_le (PyData.shownAll ds)
  simp only [PyData.shown]
  rw [g] at l
  have l2 : ds.length * m ≤ k * m := Nat.mul_le_mul_right _ hk
  omega
theorem shaped_ints (l : List Int) : SeqAt.shaped (.list (l.map PyData.int)) = true := by
  unfold SeqAt.shaped
  have h : PyData.canLayAll0 (l.map PyData.int) = true ∧ PyData.depthAll (l.map PyData.int) = 0 := by
    induction l with
    | nil => exact ⟨rfl, rfl⟩
    | cons x r ih => exact ⟨by simp only [List.map_cons, PyData.canLayAll0, PyData.canLay0, ih.1, Bool.and_self], by simp only [List.map_cons, PyData.depthAll, PyData.depth, ih.2, Nat.max_self]⟩
  simp only [PyData.canLay0, PyData.depth, h.1, h.2, Bool.true_and, decide_eq_true_eq]
  decide
theorem dp_ints (K : PySem.W.Frag) (H : Hp) : ∀ l : List Int, DpAll K H (l.map V.int) (l.map PyData.int)
  | [] => .nil
  | x :: r => .cons (.int x) (dp_ints K H r)
theorem eqv_ints : ∀ l m : List Int, PyData.eqvAll (l.map PyData.int) (m.map PyData.int) = decide (l = m)
  | [], [] => rfl
  | [], _ :: _ => rfl
  | _ :: _, [] => rfl
  | x :: r, y :: t => by
    simp only [List.map_cons, PyData.eqvAll, PyData.eqv, eqv_ints r t, List.cons.injEq]
    by_cases h : x = y <;> simp [h]
theorem div_wide {i j : Int} (h : 0 < j) (h2 : j < 2 ^ 100) : CDivW i j := wide_div (b := 100) h (by omega) (by decide) (by decide)
end Sb

/-! Data that never changes: scalars and tuples of them, at any depth. -/
namespace Sb
open PySem PySem.Spec PyProof.Rows L2
mutual
inductive TD (H : Hp) : V → PyData → Prop
  | non : TD H .non .none
  | bl (b : Bool) : TD H (.bl b) (.bool b)
  | int (i : Int) : TD H (.int i) (.int i)
  | str (x : Str) : TD H (.str x) (.str x)
  | tup {a : Addr} {xs : List V} {ds : List PyData} : H a = some (.tup xs) → TDs H xs ds → TD H (.ref a) (.tuple ds)
inductive TDs (H : Hp) : List V → List PyData → Prop
  | nil : TDs H [] []
  | cons {v : V} {vs : List V} {d : PyData} {ds : List PyData} : TD H v d → TDs H vs ds → TDs H (v :: vs) (d :: ds)
end
/-- tuples stay -/
def Tups (H H' : Hp) : Prop := ∀ a xs, H a = some (.tup xs) → H' a = some (.tup xs)
theorem Tups.refl {H : Hp} : Tups H H := fun _ _ h => h
theorem Tups.trans {H H1 H2 : Hp} (a : Tups H H1) (b : Tups H1 H2) : Tups H H2 := fun x y h => b x y (a x y h)
theorem Tups.same {H H' : Hp} (h : Same H H') : Tups H H' := fun a xs e => h a _ e
theorem Tups.new {H : Hp} {a : Addr} {o : HO} (h : H a = none) : Tups H (upd H a o) := fun b xs e => by
  rw [upd_ne (ne_of_none e h)]
  exact e
theorem Tups.put {H : Hp} {a : Addr} {o u : HO} (h : H a = some u) (hu : ∀ xs, u ≠ .tup xs) : Tups H (upd H a o) := fun b xs e => by
  rw [upd_ne (ne_of e h (hu xs).symm)]
  exact e
theorem Tups.lst {H : Hp} {a : Addr} {o : HO} {l : List V} (h : H a = some (.lst l)) : Tups H (upd H a o) := Tups.put h (fun _ z => by cases z)
mutual
theorem TD.mono {H H' : Hp} (t : Tups H H') : ∀ {v : V} (d : PyData), TD H v d → TD H' v d
  | _, .none, h => by cases h; exact .non
  | _, .bool b, h => by cases h; exact .bl b
  | _, .int i, h => by cases h; exact .int i
  | _, .str x, h => by cases h; exact .str x
  | _, .tuple ds, h => by
    cases h with
    | tup e r => exact .tup (t _ _ e) (TDs.mono t ds r)
  | _, .list _, h => by cases h
  | _, .dict _, h => by cases h
theorem TDs.mono {H H' : Hp} (t : Tups H H') : ∀ {vs : List V} (ds : List PyData), TDs H vs ds → TDs H' vs ds
  | _, [], h => by cases h; exact .nil
  | _, d :: ds, h => by
    cases h with
    | cons a r => exact .cons (TD.mono t d a) (TDs.mono t ds r)
end
mutual
theorem TD.dp {K : PySem.W.Frag} {H : Hp} : ∀ {v : V} (d : PyData), TD H v d → Dp K H v d
  | _, .none, h => by cases h; exact .non
  | _, .bool b, h => by cases h; exact .bl b
  | _, .int i, h => by cases h; exact .int i
  | _, .str x, h => by cases h; exact .str x
  | _, .tuple ds, h => by
    cases h with
    | tup e r => exact .tup (SqT.of e) (TDs.dp ds r)
  | _, .list _, h => by cases h
  | _, .dict _, h => by cases h
theorem TDs.dp {K : PySem.W.Frag} {H : Hp} : ∀ {vs : List V} (ds : List PyData), TDs H vs ds → DpAll K H vs ds
  | _, [], h => by cases h; exact .nil
  | _, d :: ds, h => by
    cases h with
    | cons a r => exact .cons (TD.dp d a) (TDs.dp ds r)
end
theorem TDs.length {H : Hp} : ∀ {vs : List V} {ds : List PyData}, TDs H vs ds → vs.length = ds.length
  | _, _, .nil => rfl
  | _, _, .cons _ r => congrArg (· + 1) r.length
theorem TDs.get {H : Hp} : ∀ {vs : List V} {ds : List PyData} {i : Nat} {v : V}, TDs H vs ds → vs[i]? = some v → ∃ d, ds[i]? = some d ∧ TD H v d
  | _, _, _, _, .nil, e => by simp at e
  | _, _, 0, _, .cons a _, e => by
    simp at e
    subst e
    exact ⟨_, rfl, a⟩
  | _, _, i + 1, v, .cons _ r, e => by
    obtain ⟨d, h1, h2⟩ := TDs.get (i := i) (v := v) r (by simpa using e)
    exact ⟨d, by simpa using h1, h2⟩
theorem TDs.at {H : Hp} : ∀ {vs : List V} {ds : List PyData} {i : Nat} {d : PyData}, TDs H vs ds → ds[i]? = some d → ∃ v, vs[i]? = some v ∧ TD H v d
  | _, _, _, _, .nil, e => by simp at e
  | _, _, 0, _, .cons a _, e => by
    simp at e
    subst e
    exact ⟨_, rfl, a⟩
  | _, _, i + 1, v, .cons _ r, e => by
    obtain ⟨d, h1, h2⟩ := TDs.at (i := i) (d := v) r (by simpa using e)
    exact ⟨d, by simpa using h1, h2⟩
theorem TDs.app {H : Hp} : ∀ {vs us : List V} {ds es : List PyData}, TDs H vs ds → TDs H us es → TDs H (vs ++ us) (ds ++ es)
  | _, _, _, _, .nil, s => s
  | _, _, _, _, .cons a r, s => .cons a (r.app s)
theorem TDs.take {H : Hp} : ∀ {vs : List V} {ds : List PyData} (n : Nat), TDs H vs ds → TDs H (vs.take n) (ds.take n)
  | _, _, 0, _ => .nil
  | _, _, _ + 1, .nil => .nil
  | _, _, n + 1, .cons a r => .cons a (r.take n)
theorem TDs.drop {H : Hp} : ∀ {vs : List V} {ds : List PyData} (n : Nat), TDs H vs ds → TDs H (vs.drop n) (ds.drop n)
  | _, _, 0, r => r
  | _, _, _ + 1, .nil => .nil
  | _, _, n + 1, .cons _ r => r.drop n
theorem TDs.ints {H : Hp} : ∀ {vs : List V} {ns : List Int}, TDs H vs (ns.map PyData.int) → vs = ns.map V.int
  | _, [], h => by cases h; rfl
  | _, n :: ns, h => by
    cases h with
    | cons a r =>
      cases a
      rw [List.map_cons, r.ints]
theorem TDs.ofInts {H : Hp} : ∀ {ns : List Int}, TDs H (ns.map V.int) (ns.map PyData.int)
  | [] => .nil
  | n :: ns => .cons (.int n) TDs.ofInts
/-- a tuple at v -/
theorem TD.isTup {H : Hp} {v : V} {ds : List PyData} (h : TD H v (.tuple ds)) : ∃ a xs, v = .ref a ∧ H a = some (.tup xs) ∧ TDs H xs ds := by
  cases h with
  | tup e r => exact ⟨_, _, rfl, e, r⟩
theorem TD.isInt {H : Hp} {v : V} {i : Int} (h : TD H v (.int i)) : v = .int i := by cases h; rfl
/-- a pair of ints -/
theorem TD.pair {H : Hp} {v : V} {i j : Int} (h : TD H v (.tuple [.int i, .int j])) : ∃ a, v = .ref a ∧ H a = some (.tup [.int i, .int j]) := by
  obtain ⟨a, xs, rfl, e, r⟩ := h.isTup
  cases r with
  | cons h1 r =>
    cases r with
    | cons h2 r =>
      cases r
      cases h1
      cases h2
      exact ⟨a, rfl, e⟩
theorem TD.ofPair {H : Hp} {a : Addr} {i j : Int} (h : H a = some (.tup [.int i, .int j])) : TD H (.ref a) (.tuple [.int i, .int j]) := .tup h (.cons (.int i) (.cons (.int j) .nil))

/-! ### streams -/
def msgD (m : Int × Int) : PyData := .tuple [.int m.1, .int m.2]
def strmD (ms : List (Int × Int)) : PyData := .tuple (ms.map msgD)
theorem msgD_inj {a b : Int × Int} (h : PyData.eqv (msgD a) (msgD b) = true) : a = b := by
  obtain ⟨a1, a2⟩ := a
  obtain ⟨b1, b2⟩ := b
  simp only [msgD, PyData.eqv, PyData.eqvAll, Bool.and_true, Bool.and_eq_true, beq_iff_eq] at h
  rw [h.1, h.2]
theorem eqv_msgs : ∀ a b : List (Int × Int), PyData.eqvAll (a.map msgD) (b.map msgD) = decide (a = b)
  | [], [] => rfl
  | [], _ :: _ => rfl
  | _ :: _, [] => rfl
  | x :: r, y :: t => by
    have ih := eqv_msgs r t
    by_cases h : x = y
    · subst h
      have e : PyData.eqv (msgD x) (msgD x) = true := by simp [msgD, PyData.eqv, PyData.eqvAll]
      simp only [List.map_cons, PyData.eqvAll, e, ih, Bool.true_and, List.cons.injEq, true_and]
    · have e : PyData.eqv (msgD x) (msgD y) = false := by
        cases q : PyData.eqv (msgD x) (msgD y) with
        | false => rfl
        | true => exact absurd (msgD_inj q) h
      simp only [List.map_cons, PyData.eqvAll, e, Bool.false_and, List.cons.injEq, h, false_and, decide_false]
theorem eqv_strm (a b : List (Int × Int)) : PyData.eqv (strmD a) (strmD b) = decide (a = b) := by
  simp only [strmD, PyData.eqv]
  exact eqv_msgs a b
/-- a stream of ints that are not too long -/
def Short (ms : List (Int × Int)) : Prop := ∀ m ∈ ms, m.1.natAbs < 10 ^ 99 ∧ m.2.natAbs < 10 ^ 99
theorem nice_msg {m : Int × Int} (h : m.1.natAbs < 10 ^ 99 ∧ m.2.natAbs < 10 ^ 99) : Nice 1 207 (msgD m) := by
  refine Nice.tuple (n := 0) (m := 100) (k := 2) (fun d hd => ?_) (Nat.le_refl 2)
  simp only [List.mem_cons, List.not_mem_nil, or_false] at hd
  rcases hd with rfl | rfl
  · exact Nice.int h.1
  · exact Nice.int h.2
theorem nice_strm {ms : List (Int × Int)} {k : Nat} (h : Short ms) (hk : ms.length ≤ k) : Nice 2 (k * 207 + 2 * k + 3) (strmD ms) := by
  refine Nice.tuple (n := 1) (m := 207) (k := k) (fun d hd => ?_) (by rw [List.length_map]; exact hk)
  obtain ⟨m, hm, rfl⟩ := List.mem_map.mp hd
  exact nice_msg (h m hm)
theorem TDs.msg {H : Hp} {vs : List V} {ms : List (Int × Int)} {i : Nat} {v : V} (r : TDs H vs (ms.map msgD)) (h : vs[i]? = some v) : ∃ m a, ms[i]? = some m ∧ v = .ref a ∧ H a = some (.tup [.int m.1, .int m.2]) := by
  obtain ⟨d, h1, h2⟩ := r.get h
  rw [List.getElem?_map] at h1
  cases e : ms[i]? with
  | none => rw [e] at h1; cases h1
  | some m =>
    rw [e] at h1
    cases h1
    obtain ⟨a, h3, h4⟩ := TD.pair h2
    exact ⟨m, a, rfl, h3, h4⟩
theorem TDs.msgs_len {H : Hp} {vs : List V} {ms : List (Int × Int)} (r : TDs H vs (ms.map msgD)) : vs.length = ms.length := by
  rw [r.length, List.length_map]
end Sb

/-! Operators over data that never changes. -/
namespace Sb
open PySem PySem.Spec PyProof.Rows L2
theorem same_new {H : Hp} {p : Addr} {o : HO} (h : H p = none) : Same H (upd H p o) := fun b u e => by
  rw [upd_ne (ne_of_none e h)]
  exact e
section
variable {X : Cx}
theorem opImp {f : Value → Value → Sem Value} {r r' : R2} (h : OpR X f r) (i : ∀ x y H Q, r' x y H Q → r x y H Q) : OpR X f r' :=
  fun pins s σ H x y v u Q I rx ry z => h pins s σ H x y v u Q I rx ry (i x y H Q z)
/-- t + u -/
def rCatD : R2 := fun x y H Q => ∃ ds es, TD H x (.tuple ds) ∧ TD H y (.tuple es) ∧ ds.length + es.length ≤ 100000 ∧
  ∀ p H', Same H H' → TD H' (.ref p) (.tuple (ds ++ es)) → Q (.ref p) H'
theorem op_catD : OpR X (binaryOp .Add) rCatD := opImp op_catA fun x y H Q h => by
  obtain ⟨ds, es, h1, h2, hl, q⟩ := h
  obtain ⟨a, xs, rfl, ha, hx⟩ := h1.isTup
  obtain ⟨b, ys, rfl, hb, hy⟩ := h2.isTup
  have lx := hx.length
  have ly := hy.length
  refine ⟨a, b, xs, ys, rfl, rfl, SqT.of ha, SqT.of hb, ?_, ?_, ?_, ?_⟩
  · rw [lx, ly]
    exact Nat.le_trans hl (by decide)
  · intro e
    subst e
    cases hx
    exact q b H (Same.refl H) h2
  · intro _ e
    subst e
    cases hy
    exact q a H (Same.refl H) (by rw [List.append_nil]; exact h1)
  · intro _ _ p np
    exact q p _ (same_new np) (.tup upd_same (TDs.mono (Tups.new np) _ (hx.app hy)))
/-- a part of a list, by its bounds -/
def cutA {α : Type} (xs : List α) (lo hi : Option Int) : List α := (xs.drop (HT.sIx xs.length 0 lo)).take (HT.sIx xs.length xs.length hi - HT.sIx xs.length 0 lo)
theorem cutA_to {α : Type} (xs : List α) {k : Nat} (h : k ≤ xs.length) : cutA xs none (some (k : Int)) = xs.take k := by
  unfold cutA
  rw [HT.sIx_none, HT.sIx_nat, List.drop_zero, Nat.sub_zero, Nat.min_eq_left h]
theorem cutA_from {α : Type} (xs : List α) {k : Nat} (h : k ≤ xs.length) : cutA xs (some (k : Int)) none = xs.drop k := by
  unfold cutA
  rw [HT.sIx_none, HT.sIx_nat, Nat.min_eq_left h]
  exact List.take_of_length_le (by rw [List.length_drop]; exact Nat.le_refl _)
theorem TDs.cut {H : Hp} {xs : List V} {ds : List PyData} (h : TDs H xs ds) (lo hi : Option Int) : TDs H (cutV xs lo hi) (cutA ds lo hi) := by
  unfold cutV cutA
  rw [h.length]
  exact (h.drop _).take _
/-- t[lo:hi] -/
def rSlD : V → Option Int → Option Int → Hp → VK → Prop := fun x lo hi H Q => ∃ ds, TD H x (.tuple ds) ∧ ∀ p H', Same H H' → TD H' (.ref p) (.tuple (cutA ds lo hi)) → Q (.ref p) H'
theorem sl_D : SlR X rSlD := by
  intro pins s σ H x v vl vu lo hi sl Q I rx hs pl pu h
  refine sl_tupA pins s σ H x v vl vu lo hi sl Q I rx hs pl pu ?_
  obtain ⟨ds, hT, q⟩ := h
  obtain ⟨a, xs, rfl, ha, hx⟩ := hT.isTup
  refine ⟨a, xs, rfl, SqT.of ha, ?_, ?_⟩
  · rintro ⟨e1, e2⟩
    refine q a H (Same.refl H) ?_
    have e : cutA ds lo hi = ds := by
      unfold cutA
      rw [← hx.length, e1, e2, List.drop_zero, Nat.sub_zero]
      exact List.take_of_length_le (by rw [hx.length]; exact Nat.le_refl _)
    rw [e]
    exact hT
  · intro _ p np
    exact q p _ (same_new np) (.tup upd_same (TDs.mono (Tups.new np) _ (hx.cut lo hi)))
/-- x == y, x != y over data that never changes -/
def rEqT : R2 := fun x y H Q => ∃ d e, TD H x d ∧ TD H y e ∧ SeqAt.shaped d = true ∧ SeqAt.shaped e = true ∧ Q (.bl (PyData.eqv d e)) H
def rNeT : R2 := fun x y H Q => ∃ d e, TD H x d ∧ TD H y e ∧ SeqAt.shaped d = true ∧ SeqAt.shaped e = true ∧ Q (.bl (!PyData.eqv d e)) H
theorem op_eqT (hu : X.A.units + 64 < cLine) : OpR X (compareOp .Eq) rEqT := opImp (op_eqD hu) fun x y H Q ⟨d, e, h1, h2, r⟩ => ⟨d, e, h1.dp _, h2.dp _, r⟩
theorem op_neT (hu : X.A.units + 64 < cLine) : OpR X (compareOp .NotEq) rNeT := opImp (op_neD hu) fun x y H Q ⟨d, e, h1, h2, r⟩ => ⟨d, e, h1.dp _, h2.dp _, r⟩
end
theorem shaped_strm (ms : List (Int × Int)) : SeqAt.shaped (strmD ms) = true := by
  have h : PyData.canLayAll0 (ms.map msgD) = true ∧ PyData.depthAll (ms.map msgD) ≤ 1 := by
    induction ms with
    | nil => exact ⟨rfl, Nat.zero_le _⟩
    | cons x r ih => exact ⟨by simp only [List.map_cons, PyData.canLayAll0, ih.1, Bool.and_true]; rfl, by simp only [List.map_cons, PyData.depthAll]; exact Nat.max_le.mpr ⟨Nat.le_refl _, ih.2⟩⟩
  unfold SeqAt.shaped
  simp only [strmD, PyData.canLay0, PyData.depth, h.1, Bool.true_and, decide_eq_true_eq]
  have := h.2
  omega
end Sb

/-! An own error class over a built-in one, its __init__ storing its one argument under the argument's name. -/
namespace PySem
namespace OwnE
open PySem.W PySem.Calls PyProof.Rows PySem.HandSPX Builtin Builtin.ObjectAttr
/-- the base: its name, its __new__, its __init__, its mro -/
structure Base where
  B : String
  newId : String
  initId : String
  bm : List Value
structure Base.Ok (b : Base) : Prop where
  fb : ExcBaseFacts b.B b.newId b.initId b.bm
  sb : StoreFacts b.B b.bm "object.__setattr__" "object"
  ne : b.bm.isEmpty = false
section
variable {prog : Program} {w : World} {A : Around} {R : Result → Shared → Prop} {hp : Heap} {g : Array GenState} {d : Drawn} {t : Nat} {os : OsState}
theorem tail_some {b : Base} (ok : b.Ok) : ∀ l : List Value, excTail b.bm l = true → l.isEmpty = false
  | [], e => by
    have z : b.bm = [] := (beq_iff_eq.mp e).symm
    have n := ok.ne
    rw [z] at n
    exact absurd n (by decide)
  | _ :: _, _ => rfl
/-- x.name = v, x a new error -/
theorem stored {b : Base} (ok : b.Ok) {K : W.Frag} {name : Str} {tk : Tok} {v : Value} {x C : Addr} {fv : Array Value} {cd : ClassData} (inK : K.In hp)
    (at_x : hp.get? x = some { cls := .ref C, data := .fields fv }) (at_C : W.clsIn K C = some cd) (tail : excTail b.bm cd.mro = true) (own : cd.hasDict = true) (free : W.findIn K (.ref C) name = some none)
    (want : ∀ h' tk' dx, (∀ c o, c ≠ x → hp.get? c = some o → h'.get? c = some o) → hp.objs.size ≤ dx → dx ≠ x →
      h'.get? x = some { cls := .ref C, dict := some dx, data := .fields fv } → h'.Ns1 dx (fun y => if y = name then some v else none) →
      R (.ok (.ret .none)) ⟨h', g, d, tk', os⟩) :
    codeAny (model prog w) A (.call (.builtin "object.__setattr__") ⟨[.ref x, .str name tk, v], []⟩) R ⟨hp, g, d, t, os⟩ := by
  have inst : W.InstAt hp x { cls := .ref C, data := .fields fv } C none := ⟨at_x, rfl, rfl, trivial⟩
  have so := F.store_object
  have some_ := tail_some ok _ tail
  have object : cd.mro.contains (.type "object") = true := by rw [excTail_contains "object" _ tail]; exact ok.sb.hasOwner
  have apart : x ≠ hp.objs.size := Nat.ne_of_lt (Heap.lt_size at_x)
  have under : W.Looks (model prog w) hp (isInstance (.ref x) (.type "object")) true := by
    refine inst.type.andThen (W.looks_mroIn inK ?_)
    unfold W.mroIn
    rw [at_C, Option.bind_some, if_neg (by rw [some_]; decide), object]
  have data : W.Looks (model prog w) hp (classData C) cd := W.looks_clsIn inK at_C
  have order : W.Looks (model prog w) hp (mroOf (.ref C)) cd.mro := data.andThen .now
  have nobody : W.Looks (model prog w) hp (storeTaker? none) none := .now
  apply codeAny_call_builtin so.slot.plain so.entry
  apply @W.check_slot (model prog w) _ _ ⟨hp, g, d, t, os⟩ "object.__setattr__" "object" "__setattr__" (.ref x) [.str name tk, v] [] _ so.kind so.split under (so.args (.ref x) (.str name tk) v)
  rw [W.osa_eq, refuse_eq]
  apply wpAny_bind
  apply wpAny_bind
  apply inst.type.at
  apply wpAny_bind
  apply order.at
  rw [excTail_pass _ (ok.sb.passes _) _ tail]
  apply wpAny_pure
  apply wpAny_bind
  apply inst.type.at
  apply wpAny_bind
  apply (W.looks_findIn inK free).at
  apply wpAny_bind
  apply nobody.at
  show wpAny _ _ (storeInOwnDict (.ref x) (.ref C) (.str name tk) name v false) _ _ _
  obtain ⟨nm, bs, mro, ns, qn, hd, sn, sb, ab, col, del⟩ := cd
  dsimp only at own
  subst own
  unfold storeInOwnDict ownDictForStores
  repeat (first
    | with_reducible refine store_in_new ?_ ?_
    | with_reducible refine wpAny_loadPart_at at_x ?_
    | with_reducible refine data.at ?_
    | wp_step)
  · exact ⟨_, #[], _, (Heap.get?_update_ne _ _ _ _ apart.symm).trans (Heap.get?_push_at rfl rfl), rfl, (fun e he => absurd he (by simp)), (fun _ => rfl)⟩
  · intro h' tk' ns1 but
    have still : (hp.push { cls := .type "dict", data := .dict #[] }).get? x = some { cls := .ref C, data := .fields fv } := Heap.get?_push_of_some _ at_x
    refine want h' tk' hp.objs.size ?_ (Nat.le_refl _) apart.symm ?_ ns1
    · intro c o hc ho
      rw [but.2 c (Nat.ne_of_lt (Heap.lt_size ho)), Heap.get?_update_ne _ _ _ _ hc]
      exact Heap.get?_push_of_some _ ho
    · rw [but.2 x apart]
      exact Heap.get?_update_self _ still rfl
end
/-! the text of __init__ -/
def iA (f : Str) (p1 p2 : Pos) : Arguments := { posonlyargs := [], args := [{ arg := "self", annotation := none, pos := p1 }, { arg := f, annotation := none, pos := p2 }], vararg := none, kwonlyargs := [], kw_defaults := [], kwarg := none, defaults := [] }
def iB (f : Str) (q1 q2 q3 q4 : Pos) : List Stmt := [.Assign [.Attribute (.Name "self" q1) f q2] (.Name f q3) q4]
/-- what the written part says of the class x, at C, and of its __init__, at fI -/
structure ErrTxt (b : Base) (x f qual : Str) (K : Frag) (mg : Str → Option Value) (C fI : Addr) : Prop where
  gC : mg x = some (.ref C)
  cls : ∃ nm q N bs bm sn sub ab col dd k0 k1 k2 k3 k5, K.lookup C = some (excClassObj nm q C N bs bm true sn sub ab col dd k0 k1 k2 k3 k5 b.newId) ∧ excTail b.bm bm = true
  sa : findIn K (.ref C) "__setattr__" = some (some (.builtin "object.__setattr__"))
  ga : findIn K (.ref C) "__getattribute__" = some (some (.builtin "BaseException.__getattribute__"))
  gg : findIn K (.ref C) "__getattr__" = some none
  noN : findIn K (.ref C) f = some none
  iC : findIn K (.ref C) "__init__" = some (some (.ref fI))
  tC : typeIn K (.ref fI) = some (.type "function")
  kC : keepIn K (.ref C) = true
  exC : subIn K (.ref C) (.type "BaseException") = some true
  tyC : typeIn K (.ref C) = some (.type "type")
  hdC : hasDictIn K C = true
  te : exmOne K (.ref C) (.ref C) = some true
  fn : ∃ (oc : Value) (od : Option Addr) (doc pm : Value) (an : Option Addr) (cdv ct : Value) (osl : Array (Option Value)) (p1 p2 q1 q2 q3 q4 : Pos) (iS : Scope),
    K.lookup fI = some ⟨oc, od, .func (fnOf "__init__" qual (iA f p1 p2) (iB f q1 q2 q3 q4) iS .none .none doc pm an cdv ct), osl⟩ ∧ codeIn K cdv qual = true ∧
    iS.kind = .function ∧ iS.names.lookup ("self" : Str) = some .local ∧ iS.names.lookup f = some .local ∧ iS.isCoroutine = false ∧ iS.isGenerator = false
theorem one_le_line (v : Value) : [v].length ≤ sizeLine := by
  show 1 ≤ sizeLine
  decide
theorem ldE {M : Model} {s : Shared} {name : Str} {scope : Scope} {L a : Addr} {cd : Value} {m : Str → Option Value} {x : Str} {pos : Pos} {v : Value} {Q : Value → Shared → Prop} {A : Around} {E : Value → Shared → Prop} (hn : s.heap.Ns L m) (hv : m x = some v) (h : Q v s)
    (hk : scope.kind = .function) (hl : scope.names.lookup x = some .local) (hd : (x == ("__debug__" : Str)) = false) :
    wpAny M A (eval (.Name x pos) (envOfC name scope L a cd)) Q E s := wpAny_Name (wpAny_loadName_local hk hl hn hv h) hd
/-- what __init__ leaves of a fresh exception at x -/
structure Left (h h' : Heap) (x C dx t1 : Addr) (f : Str) (v : Value) : Prop where
  keep : ∀ b o, b ≠ x → h.get? b = some o → h'.get? b = some o
  obj : h'.get? x = some { cls := .ref C, dict := some dx, data := .fields #[.ref t1, .none, .none, .none, .bool false, .none] }
  dbig : h.objs.size ≤ dx
  dne : dx ≠ x
  ns : h'.Ns1 dx (fun y => if y = f then some v else none)
/-- a made error -/
structure Made1 (h h' : Heap) (e C d : Addr) (f : Str) (v : Value) : Prop where
  keep : ∀ b o, h.get? b = some o → h'.get? b = some o
  new : h.objs.size ≤ e
  obj : ∃ oe vs, h'.get? e = some oe ∧ oe.cls = .ref C ∧ oe.dict = some d ∧ oe.data = .fields vs ∧ vs[1]? = some .none
  dbig : h.objs.size ≤ d
  dne : d ≠ e
  ns : h'.Ns1 d (fun y => if y = f then some v else none)
section
variable {prog : Program} {w : World} {A : Around} {E : Value → Shared → Prop} {R : Result → Shared → Prop} {s : Shared} {b : Base} {x f qual : Str} {K : Frag} {mg : Str → Option Value} {C fI : Addr}
theorem run_init (ok : b.Ok) (T : ErrTxt b x f qual K mg C fI) (hf1 : ¬ f = ("self" : Str)) (hf2 : (f == ("__debug__" : Str)) = false)
    (bind : ∀ (oc : Value) (od : Option Addr) (doc pm : Value) (an : Option Addr) (cdv ct : Value) (p1 p2 q1 q2 q3 q4 : Pos) (iS : Scope) (u v : Value),
      bindArgs (fnOf "__init__" qual (iA f p1 p2) (iB f q1 q2 q3 q4) iS .none .none doc pm an cdv ct) ⟨[u, v], []⟩ = pure [(("self" : Str), u), (f, v)])
    {e t0 : Addr} {v : Value} (X : K.In s.heap) (hlim : s.heap.NoLimit) (he : s.heap.get? e = some (excO C t0)) (hnx : K.lookup e = none) (hroom : A.depth < recursionLimit)
    (want : ∀ h' tk dx, Left s.heap h' e C dx t0 f v → R (.ok (.ret .none)) { s with heap := h', toks := tk }) :
    codeAny (model prog w) A (.call (.ref fI) ⟨[.ref e, v], []⟩) R s := by
  obtain ⟨oc, od, doc, pm, an, cdv, ct, osl, p1, p2, q1, q2, q3, q4, iS, ho, hcd, sk, s1, s2, s3, s4⟩ := T.fn
  obtain ⟨nm, q, N, bs, bm, sn, sub, ab, col, dd, k0, k1, k2, k3, k5, hC, hbm⟩ := T.cls
  have hcl : clsIn K C = some { name := nm, bases := bs, mro := .ref C :: bm, ns := N, qualname := q, hasDict := true, slotNames := sn, subclasses := sub, abstract := ab, collection := col, hasDel := false } := by
    unfold clsIn
    rw [hC] <;> rfl
  refine Att.call_fn (binds := [(("self" : Str), .ref e), (f, v)]) X hlim ho hcd hroom (BindsTo.of_eq (bind oc od doc pm an cdv ct p1 p2 q1 q2 q3 q4 iS _ _)) ?_ (fun z IC => ?_) s3 s4 sk
  · simp [s1, s2]
  obtain ⟨hh, tk1, rfl⟩ := IC.toInCall.same
  have keep := IC.toInCall.keep
  have ns := IC.toInCall.ns
  have X1 : K.In hh := X.keeps keep
  have at_e := keep _ _ he
  have of_f : bindL (envOfC qual iS s.heap.objs.size fI cdv).kindOf [(("self" : Str), .ref e), (f, v)] (fun _ => none) f = some v := by
    have a1 : (envOfC qual iS s.heap.objs.size fI cdv).kindOf f = some .local := s2
    simp only [bindL, a1, if_true]
  have of_s : bindL (envOfC qual iS s.heap.objs.size fI cdv).kindOf [(("self" : Str), .ref e), (f, v)] (fun _ => none) ("self" : Str) = some (.ref e) := by
    have a1 : (envOfC qual iS s.heap.objs.size fI cdv).kindOf f = some .local := s2
    have a2 : (envOfC qual iS s.heap.objs.size fI cdv).kindOf ("self" : Str) = some .local := s1
    simp only [bindL, a1, a2, if_true]
    rw [if_neg (fun z => hf1 z.symm)]
  show wpAny _ _ (execs _ _) _ _ _
  refine wpAny_execs_cons (plainObj_wpAny_Assign_Attribute ?_)
  apply ldE (v := v) ns of_f _ sk s2 hf2
  apply ldE (v := .ref e) ns of_s _ sk s1 (by decide)
  refine set_plain X1 (ox := excO C t0) (od := none) ⟨at_e, rfl, rfl, trivial⟩ T.sa ?_
  refine stored ok X1 at_e hcl (show excTail b.bm (.ref C :: bm) = true from hbm) rfl T.noN ?_
  intro h3 tk3 dx keep3 dn dne at3 ns3
  show wpAny _ _ (execs _ _) _ _ _
  have z : s.heap.objs.size < hh.objs.size := ns.lt
  refine wpAny_execs_nil (want h3 tk3 dx ?_)
  exact { keep := fun c o hc q => keep3 c o hc (keep c o q), obj := at3, dbig := Nat.le_of_lt (Nat.lt_of_lt_of_le z dn), dne := dne, ns := ns3 }
theorem run_made (ok : b.Ok) (T : ErrTxt b x f qual K mg C fI) (hf1 : ¬ f = ("self" : Str)) (hf2 : (f == ("__debug__" : Str)) = false)
    (bind : ∀ (oc : Value) (od : Option Addr) (doc pm : Value) (an : Option Addr) (cdv ct : Value) (p1 p2 q1 q2 q3 q4 : Pos) (iS : Scope) (u v : Value),
      bindArgs (fnOf "__init__" qual (iA f p1 p2) (iB f q1 q2 q3 q4) iS .none .none doc pm an cdv ct) ⟨[u, v], []⟩ = pure [(("self" : Str), u), (f, v)])
    {v : Value} (X : K.In s.heap) (hlim : s.heap.NoLimit) (hroom : A.depth + 1 < recursionLimit)
    (want : ∀ h' tk e d, Made1 s.heap h' e C d f v → R (.ok (.ret (.ref e))) { s with heap := h', toks := tk }) :
    codeAny (model prog w) A (.call (.ref C) ⟨[v], []⟩) R s := by
  obtain ⟨nm, q, N, bs, bm, sn, sub, ab, col, dd, k0, k1, k2, k3, k5, hC, hbm⟩ := T.cls
  obtain ⟨hp, g, dr, tk, os⟩ := s
  have keep : ∀ c o, hp.get? c = some o → ((hp.push (kdv_tup [v])).push (excO C hp.objs.size)).get? c = some o := by
    intro c o z
    exact Heap.get?_push_of_some _ (Heap.get?_push_of_some _ z)
  have there : ((hp.push (kdv_tup [v])).push (excO C hp.objs.size)).get? (hp.objs.size + 1) = some (excO C hp.objs.size) := by heap_get
  have new : K.lookup (hp.objs.size + 1) = none := by
    cases e : K.lookup (hp.objs.size + 1) with
    | none => rfl
    | some o => exact absurd (Nat.lt_of_succ_lt (Heap.lt_size (X _ _ e))) (Nat.lt_irrefl _)
  apply call_own ok.fb (fun X => excTail_contains X bm hbm) (X _ _ hC) (looks_findIn X T.iC) (fun self => bind_fn X self T.tC) (one_le_line v)
  refine run_init (s := ⟨(hp.push (kdv_tup [v])).push (excO C hp.objs.size), g, dr, tk, os⟩) ok T hf1 hf2 bind (X.keeps keep) (hlim.keeps keep) there new hroom ?_
  rintro h' tk' dx ⟨keep2, at2, dn, dne, ns2⟩
  have z : hp.objs.size + 1 + 1 ≤ dx := by
    have q := dn
    rw [Heap.size_push, Heap.size_push] at q
    exact q
  refine ⟨rfl, want h' tk' (hp.objs.size + 1) dx ?_⟩
  refine { keep := fun c o q => keep2 c o ?_ (keep c o q), new := Nat.le_succ _, obj := ⟨_, _, at2, rfl, rfl, rfl, rfl⟩, dbig := (by show hp.objs.size ≤ dx; omega), dne := dne, ns := ns2 }
  exact Nat.ne_of_lt (Nat.lt_succ_of_lt (Heap.lt_size q))
end
end OwnE
end PySem
namespace L2
open PySem PySem.Spec PyProof.Rows
theorem relO_one {f : Str} {v : V} {v' : Value} (r : RelV v v') (y : Str) : RelO (List.lookup y [(f, v)]) (if y = f then some v' else none) := by
  by_cases h : y = f
  · subst h
    rw [if_pos rfl]
    have q : List.lookup y [(y, v)] = some v := by simp [List.lookup]
    rw [q]
    exact r
  · rw [if_neg h]
    have q1 : (y == f) = false := by simpa using h
    have q : List.lookup y [(f, v)] = none := by simp [List.lookup, q1]
    rw [q]
    trivial
section
variable {X : Cx} {b : OwnE.Base} {x f qual : Str} {C fI : Addr}
/-- what an error class's text gives, at any state -/
structure ErrOk (b : OwnE.Base) (x f qual : Str) (K : PySem.W.Frag) (mg : Str → Option Value) (C fI : Addr) : Prop where
  ok : b.Ok
  T : PySem.OwnE.ErrTxt b x f qual K mg C fI
  hf1 : ¬ f = ("self" : Str)
  hf2 : (f == ("__debug__" : Str)) = false
  bind : ∀ (oc : Value) (od : Option Addr) (doc pm : Value) (an : Option Addr) (cdv ct : Value) (p1 p2 q1 q2 q3 q4 : Pos) (iS : Scope) (u v : Value),
      bindArgs (PySem.W.fnOf "__init__" qual (OwnE.iA f p1 p2) (OwnE.iB f q1 q2 q3 q4) iS .none .none doc pm an cdv ct) ⟨[u, v], []⟩ = pure [(("self" : Str), u), (f, v)]
/-- x(e) -/
def tMkE (C : Addr) (f : Str) (ta : TA) : St → Hp → XK → Prop := fun σ H Q => ta σ H fun vs H1 => ∃ v, vs = [v] ∧ ∀ d, H1 d = none → Q (.ref C) (some d) (upd H1 d (.xd [(f, v)]))
theorem pmk_E {a : Expr} {ta : TA} {p pos : Pos} {k : Nat} (T : ErrOk b x f qual X.K X.mg C fI) (hr : Room k X.A) (ha : PA X [a] ta) (hg : Gl X x := by rfl) (hdb : (x == ("__debug__" : Str)) = false := by decide)
    (he : starEach (a :: []) X.env = (false, eval a X.env) :: starEach [] X.env := by rfl) (hpl : (backTo pos (starEach [] X.env)).any (·.1) = false := by rfl) :
    PMk X (.Call (.Name x p) [a] [] pos) (tMkE C f ta) := by
  intro pins s σ H Q I h
  apply wpAny_Call_Name_kw
  apply ld_glob I hg T.T.gC _ hdb
  apply PySem.W.callWith_K (h₀ := X.base) I.ok.mod.kin T.T.kC _ he hpl
  refine thn (ha.run pos pins s σ H _ I h) ?_
  rintro us s1 ⟨vs, H1, I1, r1, v, ev, q1⟩
  subst ev
  refine ⟨I1.kIn, ?_⟩
  match us, r1 with
  | [v'], .cons rv .nil =>
    show wpAny _ _ (call (.ref C) [v']) _ _ _
    have hlim := I1.nolimit
    obtain ⟨hp, g, dr, tk, os⟩ := s1
    apply wpAny_call
    refine PySem.OwnE.run_made T.ok T.T T.hf1 T.hf2 T.bind I1.kIn hlim (by have := hr.dp; omega) ?_
    intro h' tk' e d M
    show MkP X pins σ Q (.ref e) ⟨h', g, dr, tk', os⟩
    obtain ⟨oe, fv, hoe, hc, hd, hdat, h1⟩ := M.obj
    have hns := M.ns
    obtain ⟨G', g1, g2⟩ := restrict h' fun c => decide (c ≠ e)
    have gk : ∀ c, c ≠ e → G'.get? c = h'.get? c := fun c hc => g1 c (decide_eq_true hc)
    have ge : G'.get? e = none := g2 e (by simp)
    have old : ∀ c o, hp.get? c = some o → G'.get? c = some o := by
      intro c o q
      rw [gk c (Nat.ne_of_lt (Nat.lt_of_lt_of_le (Heap.lt_size q) M.new))]
      exact M.keep c o q
    have ob : ObjOk X.prog X.w (upd H1 d (.xd [(f, v)])) G' d (.xd [(f, v)]) := ⟨_, hns.at (fun o q => (gk d M.dne).trans q), fun y => relO_one rv y⟩
    have J : Inv X pins σ (upd H1 d (.xd [(f, v)])) ⟨G', g, dr, tk', os⟩ := I1.laid (t' := tk') old M.dbig ob
    refine ⟨e, oe, fv, ⟨G', g, dr, tk', os⟩, _, .ref C, some d, rfl, J, ?_, ge, hoe, ⟨hc, hd⟩, hdat, h1, ?_, rfl, I1.bare, raises_own T.T.exC T.T.tyC, q1 d (I1.hok.fresh M.dbig)⟩
    · intro c o q
      by_cases hc : c = e
      · have q' : G'.get? c = some o := q
        rw [hc, ge] at q'
        cases q'
      · exact (gk c hc).symm.trans q
    · rw [upd_ne (Ne.symm M.dne)]
      exact I1.hok.fresh M.new
/-- raise x(e) -/
def tRaiseE (C : Addr) (f : Str) (W : WX) (ta : TA) : TS := fun _ σ H => tMkE C f ta σ H fun cls d H' => W cls d σ H'
theorem ps_raiseE {a : Expr} {ta : TA} {W : WX} {p pos pos2 : Pos} {k : Nat} (hc : X.calm = true) (T : ErrOk b x f qual X.K X.mg C fI) (hr : Room k X.A) (tk : Takes X W) (ha : PA X [a] ta) (hg : Gl X x := by rfl) (hdb : (x == ("__debug__" : Str)) = false := by decide)
    (he : starEach (a :: []) X.env = (false, eval a X.env) :: starEach [] X.env := by rfl) (hpl : (backTo pos (starEach [] X.env)).any (·.1) = false := by rfl) :
    PS X (.Raise (some (.Call (.Name x p) [a] [] pos)) none pos2) (tRaiseE C f W ta) := ps_raise hc tk (pmk_E T hr ha hg hdb he hpl)
/-- e.f, e the error that the suite holds (at a; its class cls, its dict d) -/
def tByE (C : Addr) (f : Str) (a : Addr) (cls : Value) (d : Option Addr) (te : TE) : TE := fun σ H Q => te σ H fun y H1 => y = .ref a ∧ cls = .ref C ∧ ∃ (dd : Addr) (v : V), d = some dd ∧ H1 dd = some (.xd [(f, v)]) ∧ Q v H1
theorem pe_byE {a : Addr} {oe : Obj} {cls : Value} {d : Option Addr} {pn : List (Addr × Obj)} {e : Expr} {te : TE} {pos : Pos} (T : ErrOk b x f qual X.K X.mg C fI) (hz : Zc cls d oe) (hf : ∃ vs, oe.data = .fields vs) (he : PE (X.suite a ((a, oe) :: pn)) e te)
    (hb : attributeBase e f X.env (eval e X.env) = eval e X.env := by rfl) :
    PE (X.suite a ((a, oe) :: pn)) (.Attribute e f pos) (tByE C f a cls d te) := by
  constructor
  intro pins s σ H Q I h
  refine attr_of hb (thn (he.run pins s σ H _ I h) ?_)
  rintro u s1 ⟨y, H1, I1, ry, ey, ec, dd, v, ed, ea, q⟩
  subst ey ec ed
  obtain rfl : u = Value.ref a := ry
  have ha := (I1.pin (a, oe) (List.mem_append_left _ List.mem_cons_self)).1
  obtain ⟨vs, hd⟩ := hf
  obtain ⟨mA, hns, hr⟩ := (I1.hok dd _ ea : ObjOk X.prog X.w H1 s1.heap dd (.xd [(f, v)]))
  obtain ⟨od, ho, hl⟩ := lookIn_ns hns
  have l : List.lookup f [(f, v)] = some v := by simp [List.lookup]
  obtain ⟨u, hu, ru⟩ := RelO.some_of (v := v) (o := mA f) (by rw [← l]; exact hr f)
  have J : PySem.W.InstAt s1.heap a oe C (some od) := by
    refine ⟨ha, hz.1, ?_, ?_⟩
    · unfold PySem.W.notCls
      rw [hd] <;> rfl
    · rw [hz.2]
      exact ho
  exact HandSPX.exc_get I1.kIn J T.T.ga T.T.gg T.T.exC (PySem.W.findObj_own T.T.hdC T.T.noN rfl (by rw [hl, hu])) (handed_of ru) ⟨v, H1, I1.tok _, ru, q⟩
end
end L2
namespace PySem.OwnE
def bVE : Base := ⟨"ValueError", "ValueError.__new__", "ValueError.__init__", [Value.type "ValueError", Value.type "Exception", Value.type "BaseException", Value.type "object"]⟩
def bLE : Base := ⟨"LookupError", "LookupError.__new__", "LookupError.__init__", [Value.type "LookupError", Value.type "Exception", Value.type "BaseException", Value.type "object"]⟩
def bRE : Base := ⟨"RuntimeError", "RuntimeError.__new__", "RuntimeError.__init__", [Value.type "RuntimeError", Value.type "Exception", Value.type "BaseException", Value.type "object"]⟩
def bOE : Base := ⟨"OverflowError", "OverflowError.__new__", "OverflowError.__init__", [Value.type "OverflowError", Value.type "ArithmeticError", Value.type "Exception", Value.type "BaseException", Value.type "object"]⟩
theorem bVE_ok : bVE.Ok := ⟨F.excBase_ValueError, F.store_ValueError, rfl⟩
theorem bLE_ok : bLE.Ok := ⟨F.excBase_LookupError, F.store_LookupError, rfl⟩
theorem bRE_ok : bRE.Ok := ⟨F.excBase_RuntimeError, F.store_RuntimeError, rfl⟩
theorem bOE_ok : bOE.Ok := ⟨F.excBase_OverflowError, F.store_OverflowError, rfl⟩
/-- an error of its own class is what the class's clause names -/
theorem exm_own {K : W.Frag} {S : Addr} (h1 : W.subIn K (.ref S) (.type "BaseException") = some true) (h2 : W.isClsIn K S = true) (h3 : W.typeIn K (.ref S) = some (.type "type")) (h4 : W.subIn K (.ref S) (.ref S) = some true) : W.exmOne K (.ref S) (.ref S) = some true := by
  have e1 : (W.subIn K (.ref S) (.type "BaseException") == some true) = true := by
    rw [h1]
    rfl
  have e2 : ((W.clsIn K S).isSome && W.typeIn K (.ref S) == some (.type "type")) = true := by
    rw [show (W.clsIn K S).isSome = true from h2, h3]
    rfl
  unfold W.exmOne
  rw [if_pos e1]
  show (if ((W.clsIn K S).isSome && W.typeIn K (.ref S) == some (.type "type")) = true then W.subIn K (.ref S) (.ref S) else none) = some true
  rw [if_pos e2]
  exact h4
/-- what a clause of the class S says of an error of the class R -/
theorem exm_to {K : W.Frag} {R S : Addr} {b : Bool} (h1 : W.subIn K (.ref S) (.type "BaseException") = some true) (h2 : W.isClsIn K S = true) (h3 : W.typeIn K (.ref S) = some (.type "type")) (h4 : W.subIn K (.ref R) (.ref S) = some b) : W.exmOne K (.ref R) (.ref S) = some b := by
  have e1 : (W.subIn K (.ref S) (.type "BaseException") == some true) = true := by
    rw [h1]
    rfl
  have e2 : ((W.clsIn K S).isSome && W.typeIn K (.ref S) == some (.type "type")) = true := by
    rw [show (W.clsIn K S).isSome = true from h2, h3]
    rfl
  unfold W.exmOne
  rw [if_pos e1]
  show (if ((W.clsIn K S).isSome && W.typeIn K (.ref S) == some (.type "type")) = true then W.subIn K (.ref R) (.ref S) else none) = some b
  rw [if_pos e2]
  exact h4
end PySem.OwnE

/-! Where the text's defs, methods, classes and errors stand. -/
namespace Sb
open PySem PySem.Spec PyProof.Rows L2
structure Dn (K : PySem.W.Frag) (mg : Str → Option Value) (nm : Str) (st : Stmt) (ps : List Str) where
  f : Addr
  fd : FuncData
  F : Fun K nm nm st f fd
  b : Binds K fd ps []
  g : mg nm = some (.ref f)
structure Mn (K : PySem.W.Frag) (C : Addr) (nm qual : Str) (st : Stmt) (ps : List Str) where
  f : Addr
  fd : FuncData
  F : Fun K nm qual st f fd
  b : Binds K fd ps []
  M : Meth K C nm f
structure Cn (K : PySem.W.Frag) (mg : Str → Option Value) (nm : Str) where
  C : Addr
  cl : Cls K C
  g : mg nm = some (.ref C)
structure En (K : PySem.W.Frag) (mg : Str → Option Value) (bs : OwnE.Base) (nm fld qual : Str) where
  C : Addr
  i : Addr
  e : L2.ErrOk bs nm fld qual K mg C i
end Sb

/-! Data of any kind: scalars, tuples, lists, the empty dict; none of it lies at p. -/
namespace Sb
open PySem PySem.Spec PyProof.Rows L2
mutual
inductive LD (p : Addr) (H : Hp) : V → PyData → Prop
  | non : LD p H .non .none
  | bl (b : Bool) : LD p H (.bl b) (.bool b)
  | int (i : Int) : LD p H (.int i) (.int i)
  | str (x : Str) : LD p H (.str x) (.str x)
  | tup {a : Addr} {xs : List V} {ds : List PyData} : a ≠ p → H a = some (.tup xs) → LDs p H xs ds → LD p H (.ref a) (.tuple ds)
  | lst {a : Addr} {xs : List V} {ds : List PyData} : a ≠ p → a ≠ sysModules → H a = some (.lst xs) → LDs p H xs ds → LD p H (.ref a) (.list ds)
  | dic {a : Addr} : a ≠ p → H a = some (.dK []) → LD p H (.ref a) (.dict [])
  | dct {a : Addr} : a ≠ p → H a = some (.dT []) → LD p H (.ref a) (.dict [])
inductive LDs (p : Addr) (H : Hp) : List V → List PyData → Prop
  | nil : LDs p H [] []
  | cons {v : V} {vs : List V} {d : PyData} {ds : List PyData} : LD p H v d → LDs p H vs ds → LDs p H (v :: vs) (d :: ds)
end
/-- all but p stands -/
abbrev But (p : Addr) (H H' : Hp) : Prop := ∀ b o, H b = some o → b ≠ p → H' b = some o
theorem But.same {p : Addr} {H H' : Hp} (h : Same H H') : But p H H' := fun b o e _ => h b o e
mutual
theorem LD.mono {p : Addr} {H H' : Hp} (t : But p H H') : ∀ {v : V} (d : PyData), LD p H v d → LD p H' v d
  | _, .none, h => by cases h; exact .non
  | _, .bool b, h => by cases h; exact .bl b
  | _, .int i, h => by cases h; exact .int i
  | _, .str x, h => by cases h; exact .str x
  | _, .tuple ds, h => by
    cases h with
    | tup n e r => exact .tup n (t _ _ e n) (LDs.mono t ds r)
  | _, .list ds, h => by
    cases h with
    | lst n m e r => exact .lst n m (t _ _ e n) (LDs.mono t ds r)
  | _, .dict _, h => by
    cases h with
    | dic n e => exact .dic n (t _ _ e n)
    | dct n e => exact .dct n (t _ _ e n)
theorem LDs.mono {p : Addr} {H H' : Hp} (t : But p H H') : ∀ {vs : List V} (ds : List PyData), LDs p H vs ds → LDs p H' vs ds
  | _, [], h => by cases h; exact .nil
  | _, d :: ds, h => by
    cases h with
    | cons a r => exact .cons (LD.mono t d a) (LDs.mono t ds r)
end
theorem LDs.length {p : Addr} {H : Hp} : ∀ {vs : List V} {ds : List PyData}, LDs p H vs ds → vs.length = ds.length
  | _, _, .nil => rfl
  | _, _, .cons _ r => congrArg (· + 1) r.length
theorem LDs.get {p : Addr} {H : Hp} : ∀ {vs : List V} {ds : List PyData} {i : Nat} {v : V}, LDs p H vs ds → vs[i]? = some v → ∃ d, ds[i]? = some d ∧ LD p H v d
  | _, _, _, _, .nil, e => by simp at e
  | _, _, 0, _, .cons a _, e => by
    simp at e
    subst e
    exact ⟨_, rfl, a⟩
  | _, _, i + 1, v, .cons _ r, e => by
    obtain ⟨d, h1, h2⟩ := LDs.get (i := i) (v := v) r (by simpa using e)
    exact ⟨d, by simpa using h1, h2⟩
theorem LDs.at {p : Addr} {H : Hp} : ∀ {vs : List V} {ds : List PyData} {i : Nat} {d : PyData}, LDs p H vs ds → ds[i]? = some d → ∃ v, vs[i]? = some v ∧ LD p H v d
  | _, _, _, _, .nil, e => by simp at e
  | _, _, 0, _, .cons a _, e => by
    simp at e
    subst e
    exact ⟨_, rfl, a⟩
  | _, _, i + 1, v, .cons _ r, e => by
    obtain ⟨d, h1, h2⟩ := LDs.at (i := i) (d := v) r (by simpa using e)
    exact ⟨d, by simpa using h1, h2⟩
theorem LDs.app {p : Addr} {H : Hp} : ∀ {vs us : List V} {ds es : List PyData}, LDs p H vs ds → LDs p H us es → LDs p H (vs ++ us) (ds ++ es)
  | _, _, _, _, .nil, s => s
  | _, _, _, _, .cons a r, s => .cons a (r.app s)
theorem LDs.take {p : Addr} {H : Hp} : ∀ {vs : List V} {ds : List PyData} (n : Nat), LDs p H vs ds → LDs p H (vs.take n) (ds.take n)
  | _, _, 0, _ => .nil
  | _, _, _ + 1, .nil => .nil
  | _, _, n + 1, .cons a r => .cons a (r.take n)
theorem LDs.drop {p : Addr} {H : Hp} : ∀ {vs : List V} {ds : List PyData} (n : Nat), LDs p H vs ds → LDs p H (vs.drop n) (ds.drop n)
  | _, _, 0, r => r
  | _, _, _ + 1, .nil => .nil
  | _, _, n + 1, .cons _ r => r.drop n
mutual
theorem TD.ld {p : Addr} {H : Hp} (hp : ∀ xs, H p ≠ some (.tup xs)) : ∀ {v : V} (d : PyData), TD H v d → LD p H v d
  | _, .none, h => by cases h; exact .non
  | _, .bool b, h => by cases h; exact .bl b
  | _, .int i, h => by cases h; exact .int i
  | _, .str x, h => by cases h; exact .str x
  | _, .tuple ds, h => by
    cases h with
    | tup e r => exact .tup (fun z => hp _ (z ▸ e)) e (TDs.ld hp ds r)
  | _, .list _, h => by cases h
  | _, .dict _, h => by cases h
theorem TDs.ld {p : Addr} {H : Hp} (hp : ∀ xs, H p ≠ some (.tup xs)) : ∀ {vs : List V} (ds : List PyData), TDs H vs ds → LDs p H vs ds
  | _, [], h => by cases h; exact .nil
  | _, d :: ds, h => by
    cases h with
    | cons a r => exact .cons (TD.ld hp d a) (TDs.ld hp ds r)
end
/-! it is read off the heap -/
section
variable {X : Cx} {pins : List (Addr × Obj)} {σ : L2.St} {H : Hp} {s : Shared} {p : Addr}
mutual
theorem LD.reads (I : L2.Inv X pins σ H s) : ∀ (d : PyData) (v : V) (u : Value), LD p H v d → RelV v u → ∃ as, Reads s.heap u d as ∧ sysModules ∉ as
  | .none, _, _, h, r => by cases h; cases r; exact ⟨_, Reads.none, List.not_mem_nil⟩
  | .bool b, _, _, h, r => by cases h; cases r; exact ⟨_, Reads.bool b, List.not_mem_nil⟩
  | .int i, _, _, h, r => by cases h; obtain ⟨t, rfl⟩ := r; exact ⟨_, Reads.int i t, List.not_mem_nil⟩
  | .str x, _, _, h, r => by cases h; obtain ⟨t, rfl⟩ := r; exact ⟨_, Reads.str x t, List.not_mem_nil⟩
  | .list ds, _, _, h, r => by
    cases h with
    | lst n m e hs =>
      cases r
      obtain ⟨its, rv, ⟨o, k, ho, hc, _, hd⟩, _⟩ := I.list (SqL.of e)
      obtain ⟨as, hr, hn⟩ := LDs.reads I ds _ its hs rv
      refine ⟨_, Reads.list ho hc hd hr, fun z => ?_⟩
      rcases List.mem_cons.mp z with z | z
      · exact m z.symm
      · exact hn z
  | .tuple ds, _, _, h, r => by
    cases h with
    | tup n e hs =>
      cases r
      obtain ⟨its, rv, ⟨o, ho, hc, k, hd⟩, _⟩ := I.tuple (SqT.of e)
      obtain ⟨as, hr, hn⟩ := LDs.reads I ds _ its hs rv
      exact ⟨_, Reads.tuple ho hc hd hr, hn⟩
  | .dict _, _, _, h, r => by
    cases h with
    | @dic a n e =>
      cases r
      obtain ⟨_, low, vs, rel, o, es, ep, ho, ex, hd, _, pr, _⟩ := dk_of I.hok e
      cases rel
      have hes : es.toList = [] := List.eq_nil_of_length_eq_zero (Pairs.length pr)
      refine ⟨_, Reads.dict (kvs := []) ho ex.1 hd (by rw [hes]; exact .nil) (by rw [hes]; exact .nil), fun z => ?_⟩
      have z' : sysModules = a := by simpa using z
      rw [← z'] at low
      simp at low
    | @dct a n e =>
      cases r
      obtain ⟨_, low, xs, rel, o, es, ep, ho, ex, hd, pr, _⟩ := dt_of I.hok e
      cases rel
      have hes : es.toList = [] := pr
      refine ⟨_, Reads.dict (kvs := []) ho ex.1 hd (by rw [hes]; exact .nil) (by rw [hes]; exact .nil), fun z => ?_⟩
      have z' : sysModules = a := by simpa using z
      rw [← z'] at low
      simp at low
theorem LDs.reads (I : L2.Inv X pins σ H s) : ∀ (ds : List PyData) (vs : List V) (us : List Value), LDs p H vs ds → Vals vs us → ∃ as, ReadsAll s.heap us ds as ∧ sysModules ∉ as
  | [], _, _, h, r => by cases h; cases r; exact ⟨_, ReadsAll.nil, List.not_mem_nil⟩
  | d :: ds, _, _, h, r => by
    cases h with
    | cons h1 h2 =>
      cases r with
      | cons r1 r2 =>
        obtain ⟨as, q1, n1⟩ := LD.reads I d _ _ h1 r1
        obtain ⟨bs, q2, n2⟩ := LDs.reads I ds _ _ h2 r2
        refine ⟨_, ReadsAll.cons q1 q2, fun z => ?_⟩
        rcases List.mem_append.mp z with z | z
        · exact n1 z
        · exact n2 z
end
end
/-- its type -/
def tyN : PyData → String
  | .none => "NoneType"
  | .bool _ => "bool"
  | .int _ => "int"
  | .str _ => "str"
  | .list _ => "list"
  | .tuple _ => "tuple"
  | .dict _ => "dict"
theorem LD.ty {K : PySem.W.Frag} {p : Addr} {H : Hp} {v : V} {d : PyData} (h : LD p H v d) : TyX K H v (.type (tyN d)) := by
  cases h with
  | non => exact .base .non
  | bl b => exact .base (.bl b)
  | int i => exact .base (.int i)
  | str x => exact .base (.str x)
  | tup n e r => exact .base (.tup e)
  | lst n m e r => exact .base (.lst e)
  | dic n e => exact .base (.dK e)
  | dct n e => exact .base (.dT e)
def isIntD : PyData → Bool
  | .int _ => true
  | .bool _ => true
  | _ => false
def isBoolD : PyData → Bool
  | .bool _ => true
  | _ => false
def isTupD : PyData → Bool
  | .tuple _ => true
  | _ => false
theorem kit_int (K : PySem.W.Frag) (d : PyData) : PySem.W.kitOne K (.type (tyN d)) (.type "int") = some (isIntD d) := by
  cases d <;> first | rfl | decide +kernel | kernel_rfl
theorem kit_bool (K : PySem.W.Frag) (d : PyData) : PySem.W.kitOne K (.type (tyN d)) (.type "bool") = some (isBoolD d) := by
  cases d <;> first | rfl | decide +kernel | kernel_rfl
theorem kit_tup (K : PySem.W.Frag) (d : PyData) : PySem.W.kitOne K (.type (tyN d)) (.type "tuple") = some (isTupD d) := by
  cases d <;> first | rfl | decide +kernel | kernel_rfl
section
variable {X : Cx}
/-- isinstance(x, T) -/
def rIsL (T : String) (f : PyData → Bool) : List V → Hp → VK → Prop := fun xs H Q => ∃ p v d, xs = [v, .ty T] ∧ LD p H v d ∧ Q (.bl (f d)) H
theorem call_isL {T : String} {f : PyData → Bool} (hf : ∀ K d, PySem.W.kitOne K (.type (tyN d)) (.type T) = some (f d)) : CallR X (.builtin "isinstance") (rIsL T f) := by
  intro pins s σ H xs us Q I r h
  obtain ⟨p, v, d, rfl, hv, q⟩ := h
  exact call_isi pins s σ H _ us Q I r ⟨v, .ty T, _, _, _, rfl, .ty T, hv.ty, hf _ d, q⟩
/-- repr -/
def rReprL : List V → Hp → VK → Prop := fun xs H Q => ∃ p v d, xs = [v] ∧ LD p H v d ∧ d.showable = true ∧ d.depth ≤ 60 ∧ d.shown.length ≤ sizeLine ∧ Q (.str d.shown) H
theorem call_reprL (gd : X.A.guards = some []) (hu : X.A.units + 64 < cLine) : CallR X (.builtin "repr") rReprL := by
  intro pins s σ H xs us Q I r h
  obtain ⟨p, v, d, rfl, hv, hs, hd, hz, q⟩ := h
  by_cases hn : d.hasDict = false ∧ ∀ a, v ≠ .ref a
  · have dp : Dp X.K H v d := by
      cases hv with
      | non => exact .non
      | bl b => exact .bl b
      | int i => exact .int i
      | str x => exact .str x
      | tup n e r => exact absurd rfl (hn.2 _)
      | lst n m e r => exact absurd rfl (hn.2 _)
      | dic n e => exact absurd rfl (hn.2 _)
      | dct n e => exact absurd rfl (hn.2 _)
    exact call_reprD gd hu pins s σ H _ us Q I r ⟨v, d, rfl, dp, hs, hn.1, hd, hz, q⟩
  · obtain ⟨a, rfl⟩ : ∃ a, v = .ref a := by
      cases hv with
      | non => exact absurd ⟨rfl, fun _ z => by cases z⟩ hn
      | bl b => exact absurd ⟨rfl, fun _ z => by cases z⟩ hn
      | int i => exact absurd ⟨rfl, fun _ z => by cases z⟩ hn
      | str x => exact absurd ⟨rfl, fun _ z => by cases z⟩ hn
      | tup n e r => exact ⟨_, rfl⟩
      | lst n m e r => exact ⟨_, rfl⟩
      | dic n e => exact ⟨_, rfl⟩
      | dct n e => exact ⟨_, rfl⟩
    obtain ⟨u, rfl, ru⟩ := vals1 r
    obtain rfl : u = Value.ref a := ru
    obtain ⟨as, rd, low⟩ := LD.reads I d _ _ hv rfl
    exact repr_of_reads' rd hs (fun _ => low) gd (by omega) (fun _ _ z => z) (fun h' u' tk hk => ⟨.str d.shown, H, I.kept (fun b o z => hk b o z), ⟨_, rfl⟩, q⟩) hz
/-- list(t), where it lies -/
def rLstL : List V → Hp → VK → Prop := fun xs H Q => ∃ a ys, xs = [.ref a] ∧ H a = some (.tup ys) ∧ ∀ l, H l = none → l ≠ sysModules → Q (.ref l) (upd H l (.lst ys))
theorem call_lstL : CallR X (.type "list") rLstL := by
  intro pins s σ H xs us Q I r h
  obtain ⟨a, ys, rfl, ha, q⟩ := h
  obtain ⟨u, rfl, rx⟩ := vals1 r
  obtain rfl : u = Value.ref a := rx
  obtain ⟨its, rv, ⟨o, ho, hc, n, hd⟩, hz⟩ := I.tuple (SqT.of ha)
  have hl := rv.length
  refine call_list_seq a (.inr rfl) ho hc hd (fun h' c' kp e => ?_) (by simp only [List.size_toArray] <;> omega)
  exact ⟨.ref s.heap.objs.size, _, I.laid (t' := s.toks) kp (Nat.le_refl _) (show ObjOk X.prog X.w _ h' _ (.lst ys) from ⟨hz, its, c', rv, e⟩), rfl, q _ (I.hok.fresh (Nat.le_refl _)) (Nat.ne_of_gt I.big)⟩
/-- t != () -/
def rNe0 : R2 := fun x y H Q => ∃ a b xs, x = .ref a ∧ y = .ref b ∧ H a = some (.tup xs) ∧ H b = some (.tup []) ∧ Q (.bl (!xs.isEmpty)) H
theorem op_ne0 (hu : X.A.units + 64 < cLine) : OpR X (compareOp .NotEq) rNe0 := by
  intro pins s σ H x y v u Q I rx ry h
  obtain ⟨a, b, xs, rfl, rfl, ha, hb, q⟩ := h
  cases rx
  cases ry
  obtain ⟨its, r1, t1, _⟩ := I.tuple (SqT.of ha)
  obtain ⟨its2, r2, t2, _⟩ := I.tuple (SqT.of hb)
  cases r2
  have l1 := r1.length
  refine SeqAt.RcNeAt.tuples (e := fun _ => true) t1 t2 (by omega) (fun j _ h2 => absurd h2 (Nat.not_lt_zero _)) X.prog X.w X.xe (EP X pins σ Q) ⟨.bl _, H, I, rfl, ?_⟩
  have e : (!((List.range (min its.toArray.size ([] : List Value).toArray.size)).all (fun _ => true) && its.toArray.size == ([] : List Value).toArray.size)) = !xs.isEmpty := by
    cases xs with
    | nil => cases r1; rfl
    | cons z zs => cases r1; simp
  rw [e]
  exact q
/-- two pairs of texts, != -/
def rNeS : R2 := fun x y H Q => ∃ a b s1 s2 t1 t2, x = .ref a ∧ y = .ref b ∧ H a = some (.tup [.str s1, .str s2]) ∧ H b = some (.tup [.str t1, .str t2]) ∧ Q (.bl (!(s1 == t1 && s2 == t2))) H
theorem op_neS (hu : X.A.units + 64 < cLine) : OpR X (compareOp .NotEq) rNeS := by
  intro pins s σ H x y v u Q I rx ry h
  obtain ⟨a, b, s1, s2, t1, t2, rfl, rfl, ha, hb, q⟩ := h
  cases rx
  cases ry
  obtain ⟨its, r1, T1, _⟩ := I.tuple (SqT.of ha)
  obtain ⟨its2, r2, T2, _⟩ := I.tuple (SqT.of hb)
  obtain ⟨a1, a2, rfl, ra1, ra2⟩ := vals2 r1
  obtain ⟨b1, b2, rfl, rb1, rb2⟩ := vals2 r2
  obtain ⟨k1, rfl⟩ := ra1
  obtain ⟨k2, rfl⟩ := ra2
  obtain ⟨k3, rfl⟩ := rb1
  obtain ⟨k4, rfl⟩ := rb2
  refine SeqAt.RcNeAt.tuples (e := fun j => if j = 0 then s1 == t1 else s2 == t2) T1 T2 (by omega) (fun j h1 h2 => ?_) X.prog X.w X.xe (EP X pins σ Q) ⟨.bl _, H, I, rfl, ?_⟩
  · match j, h1, h2 with
    | 0, _, _ => exact SeqAt.EqAt.str_str _ _ _ _
    | 1, _, _ => exact SeqAt.EqAt.str_str _ _ _ _
  · have e : ((List.range (min 2 2)).all (fun j => if j = 0 then s1 == t1 else s2 == t2) && (2 == 2 : Bool)) = (s1 == t1 && s2 == t2) := by
      simp [List.range, List.range.loop]
    show Q (.bl (!((List.range (min 2 2)).all (fun j => if j = 0 then s1 == t1 else s2 == t2) && (2 == 2 : Bool)))) H
    rw [e]
    exact q
/-- t[lo:hi], t + u -/
def rSlL (p : Addr) : V → Option Int → Option Int → Hp → VK → Prop := fun x lo hi H Q => ∃ ds, LD p H x (.tuple ds) ∧ H p ≠ none ∧ ∀ a H', Same H H' → LD p H' (.ref a) (.tuple (cutA ds lo hi)) → Q (.ref a) H'
theorem LDs.cut {p : Addr} {H : Hp} {xs : List V} {ds : List PyData} (h : LDs p H xs ds) (lo hi : Option Int) : LDs p H (cutV xs lo hi) (cutA ds lo hi) := by
  unfold cutV cutA
  rw [h.length]
  exact (h.drop _).take _
theorem LD.isTup {p : Addr} {H : Hp} {v : V} {ds : List PyData} (h : LD p H v (.tuple ds)) : ∃ a xs, v = .ref a ∧ a ≠ p ∧ H a = some (.tup xs) ∧ LDs p H xs ds := by
  cases h with
  | tup n e r => exact ⟨_, _, rfl, n, e, r⟩
theorem ne_at {p q : Addr} {H : Hp} (hp : H p ≠ none) (hq : H q = none) : q ≠ p := fun e => hp (e ▸ hq)
theorem sl_L {p : Addr} : SlR X (rSlL p) := by
  intro pins s σ H x v vl vu lo hi sl Q I rx hs pl pu h
  refine sl_tupA pins s σ H x v vl vu lo hi sl Q I rx hs pl pu ?_
  obtain ⟨ds, hT, hp, q⟩ := h
  obtain ⟨a, xs, rfl, n, ha, hx⟩ := hT.isTup
  refine ⟨a, xs, rfl, SqT.of ha, ?_, ?_⟩
  · rintro ⟨e1, e2⟩
    refine q a H (Same.refl H) ?_
    have e : cutA ds lo hi = ds := by
      unfold cutA
      rw [← hx.length, e1, e2, List.drop_zero, Nat.sub_zero]
      exact List.take_of_length_le (by rw [hx.length]; exact Nat.le_refl _)
    rw [e]
    exact hT
  · intro _ t nt
    exact q t _ (same_new nt) (.tup (ne_at hp nt) upd_same (LDs.mono (But.same (same_new nt)) _ (hx.cut lo hi)))
def rCatL (p : Addr) : R2 := fun x y H Q => ∃ ds es, LD p H x (.tuple ds) ∧ LD p H y (.tuple es) ∧ H p ≠ none ∧ ds.length + es.length ≤ 100000 ∧ ∀ a H', Same H H' → LD p H' (.ref a) (.tuple (ds ++ es)) → Q (.ref a) H'
theorem op_catL {p : Addr} : OpR X (binaryOp .Add) (rCatL p) := opImp op_catA fun x y H Q h => by
  obtain ⟨ds, es, h1, h2, hp, hl, q⟩ := h
  obtain ⟨a, xs, rfl, n1, ha, hx⟩ := h1.isTup
  obtain ⟨b, ys, rfl, n2, hb, hy⟩ := h2.isTup
  have lx := hx.length
  have ly := hy.length
  refine ⟨a, b, xs, ys, rfl, rfl, SqT.of ha, SqT.of hb, ?_, ?_, ?_, ?_⟩
  · rw [lx, ly]
    exact Nat.le_trans hl (by decide)
  · intro e
    subst e
    cases hx
    exact q b H (Same.refl H) h2
  · intro _ e
    subst e
    cases hy
    exact q a H (Same.refl H) (by rw [List.append_nil]; exact h1)
  · intro _ _ t nt
    exact q t _ (same_new nt) (.tup (ne_at hp nt) upd_same (LDs.mono (But.same (same_new nt)) _ (hx.app hy)))
end
/-! small enough to be shown -/
mutual
def wt : PyData → Nat
  | .list xs => wts xs + 1
  | .tuple xs => wts xs + 1
  | .dict _ => 1
  | _ => 1
def wts : List PyData → Nat
  | [] => 0
  | x :: r => wt x + wts r
end
mutual
def Sm : PyData → Prop
  | .int i => i.natAbs < 10 ^ 99
  | .str x => (reprText x).length ≤ 100
  | .list xs => Sms xs
  | .tuple xs => Sms xs
  | .dict kvs => kvs = []
  | _ => True
def Sms : List PyData → Prop
  | [] => True
  | x :: r => Sm x ∧ Sms r
end
theorem Sms.get : ∀ {ds : List PyData} {i : Nat} {d : PyData}, Sms ds → ds[i]? = some d → Sm d
  | _ :: _, 0, _, h, e => by simp at e; exact e ▸ h.1
  | _ :: r, i + 1, _, h, e => Sms.get (ds := r) (i := i) h.2 (by simpa using e)
theorem Sms.app : ∀ {ds es : List PyData}, Sms ds → Sms es → Sms (ds ++ es)
  | [], _, _, h => h
  | _ :: _, _, h, g => ⟨h.1, Sms.app h.2 g⟩
theorem Sms.take : ∀ {ds : List PyData} (n : Nat), Sms ds → Sms (ds.take n)
  | _, 0, _ => trivial
  | [], _ + 1, _ => trivial
  | _ :: _, n + 1, h => ⟨h.1, Sms.take n h.2⟩
theorem Sms.drop : ∀ {ds : List PyData} (n : Nat), Sms ds → Sms (ds.drop n)
  | _, 0, h => h
  | [], _ + 1, _ => trivial
  | _ :: _, n + 1, h => Sms.drop n h.2
theorem wts_app : ∀ (ds es : List PyData), wts (ds ++ es) = wts ds + wts es
  | [], es => by simp [wts]
  | d :: r, es => by
    simp only [List.cons_append, wts, wts_app r es]
    omega
theorem wts_take_drop (ds : List PyData) (n : Nat) : wts (ds.take n) + wts (ds.drop n) = wts ds := by
  rw [← wts_app, List.take_append_drop]
theorem wts_get : ∀ {ds : List PyData} {i : Nat} {d : PyData}, ds[i]? = some d → wt d ≤ wts ds
  | _ :: _, 0, _, e => by
    simp at e
    subst e
    simp only [wts]
    omega
  | _ :: r, i + 1, _, e => by
    have := wts_get (ds := r) (i := i) (by simpa using e)
    simp only [wts]
    omega
theorem depthAll_app : ∀ (ds es : List PyData), PyData.depthAll (ds ++ es) = max (PyData.depthAll ds) (PyData.depthAll es)
  | [], es => by simp [PyData.depthAll]
  | d :: r, es => by
    simp only [List.cons_append, PyData.depthAll, depthAll_app r es]
    omega
theorem depth_get : ∀ {ds : List PyData} {i : Nat} {d : PyData}, ds[i]? = some d → d.depth ≤ PyData.depthAll ds
  | _ :: _, 0, _, e => by
    simp at e
    subst e
    simp only [PyData.depthAll]
    omega
  | _ :: r, i + 1, _, e => by
    have := depth_get (ds := r) (i := i) (by simpa using e)
    simp only [PyData.depthAll]
    omega
theorem depth_cut (ds : List PyData) (n : Nat) : PyData.depthAll (ds.take n) ≤ PyData.depthAll ds ∧ PyData.depthAll (ds.drop n) ≤ PyData.depthAll ds := by
  have h := depthAll_app (ds.take n) (ds.drop n)
  rw [List.take_append_drop] at h
  omega
mutual
theorem sm_shown : ∀ d : PyData, Sm d → d.showable = true ∧ d.shown.length + 2 ≤ 110 * wt d
  | .none, _ => ⟨rfl, by decide⟩
  | .bool b, _ => ⟨rfl, by cases b <;> decide⟩
  | .int i, h => by
    have n := Nice.int h
    refine ⟨n.sho, ?_⟩
    have := n.len
    show _ ≤ 110 * 1
    omega
  | .str x, h => by
    refine ⟨rfl, ?_⟩
    have h' : (reprText x).length ≤ 100 := h
    show (reprText x).length + 2 ≤ 110 * 1
    omega
  | .list xs, h => by
    obtain ⟨a, b, c⟩ := sms_shown xs h
    refine ⟨a, ?_⟩
    have l := listText_len_le (PyData.shownAll xs)
    simp only [PyData.shown, wt]
    omega
  | .tuple xs, h => by
    obtain ⟨a, b, c⟩ := sms_shown xs h
    refine ⟨a, ?_⟩
    have l := tupleText_len_le (PyData.shownAll xs)
    simp only [PyData.shown, wt]
    omega
  | .dict kvs, h => by
    have h' : kvs = [] := h
    subst h'
    exact ⟨rfl, by decide⟩
theorem sms_shown : ∀ ds : List PyData, Sms ds → PyData.showableAll ds = true ∧ ((PyData.shownAll ds).map (·.length)).sum + 2 * (PyData.shownAll ds).length ≤ 110 * wts ds ∧ (PyData.shownAll ds).length = ds.length
  | [], _ => ⟨rfl, by decide, rfl⟩
  | d :: ds, h => by
    obtain ⟨a, b⟩ := sm_shown d h.1
    obtain ⟨c, e, f⟩ := sms_shown ds h.2
    refine ⟨by simp only [PyData.showableAll, a, c, Bool.and_self], ?_, by simp only [PyData.shownAll, List.length_cons, f]⟩
    simp only [PyData.shownAll, List.map_cons, List.sum_cons, List.length_cons, wts]
    omega
end
end Sb

/-! o.m(..), C(..): calls of promises that know that no repr is under way. -/
namespace Sb
open PySem PySem.Spec PyProof.Rows L2
/-- how a method's call is read -/
abbrev MethForm (X : Cx) (o : Expr) (m : Str) (es : List Expr) (pos apos : Pos) (pl : Sem Bool) : Prop :=
  eval (.Call (.Attribute o m apos) es [] pos) X.env = (do let ov ← eval o X.env; standAt apos.atName; let (f, first) ← holding [ov] (getMethod ov m pl); callWith pos f first (backTo pos (starEach es X.env)) (backToKw pos (keywordEach [] X.env)))
section
variable {X : Cx} {CX : CXT} {k : Nat} {f C : Addr} {fd : FuncData} {ps : List Str} {sp : Sp} {dvs : List V} {ds : List Value} {x m : Str} {p pos apos : Pos} {e o : Expr} {es : List Expr} {ta : TE} {t : TA} {E : XK}
/-- o.m(e, ..) -/
theorem pe_methG {pl : Sem Bool} (ho : PE X o ta) (c : Cls X.K C) (hm : Meth X.K C m f) (F : FnG X.prog X.w X.K X.mg X.base CX k f fd ps sp) (gd : X.A.guards = some []) (hr : Room k X.A) (hb : Binds X.K fd ps ds) (hd : Vals dvs ds) (hx : Passes CX X E) (ha : PA X (e :: es) t)
    (hst : starEach (e :: es) X.env = (false, eval e X.env) :: starEach es X.env := by rfl) (hpl : (backTo pos (starEach es X.env)).any (·.1) = false := by rfl)
    (ht : MethForm X o m (e :: es) pos apos pl := by rfl) : PE X (.Call (.Attribute o m apos) (e :: es) [] pos) (tMeth C m sp dvs E ta t) := by
  constructor
  intro pins s σ H Q I h
  refine PySem.W.methodCall_KW (pl := pl) (thn (ho.run pins s σ H _ I h) ?_) ht
  rintro u s1 ⟨y, H1, I1, ry, a, dx, fs, rfl, ea, l, q⟩
  obtain rfl : u = Value.ref a := ry
  refine getmeth_ok I1 ea c hm l ?_
  refine PySem.W.callWith_K (first := [.ref a]) (h₀ := X.base) I.ok.mod.kin hm.kp (thn (ha.run pos pins s1 σ H1 _ I1 q) ?_) hst hpl
  rintro us s2 ⟨vs, H2, I2, r, q2⟩
  exact ⟨I2.kIn, runG (us := .ref a :: us) (vs := .ref a :: vs) F gd hr hb hd (fun er s' z => hx pins σ H2 s2 er s' I2 z) I2 (.cons rfl r) q2⟩
/-- o.m() -/
theorem pe_meth0G {pl : Sem Bool} (ho : PE X o ta) (c : Cls X.K C) (hm : Meth X.K C m f) (F : FnG X.prog X.w X.K X.mg X.base CX k f fd ps sp) (gd : X.A.guards = some []) (hr : Room k X.A) (hb : Binds X.K fd ps ds) (hd : Vals dvs ds) (hx : Passes CX X E)
    (ht : MethForm X o m [] pos apos pl := by rfl) : PE X (.Call (.Attribute o m apos) [] [] pos) (tMeth C m sp dvs E ta tNil) := by
  constructor
  intro pins s σ H Q I h
  refine PySem.W.methodCall_KW (pl := pl) (thn (ho.run pins s σ H _ I h) ?_) ht
  rintro u s1 ⟨y, H1, I1, ry, a, dx, fs, rfl, ea, l, q⟩
  obtain rfl : u = Value.ref a := ry
  refine getmeth_ok I1 ea c hm l ?_
  exact PySem.W.callWith_K0 (first := [.ref a]) I1.kIn hm.kp (runG (us := [.ref a]) (vs := [.ref a]) F gd hr hb hd (fun er s' z => hx pins σ H1 s1 er s' I1 z) I1 (.cons rfl .nil) q)
/-- the same, what is raised wished for at the slots -/
theorem pe_methGS {pl : Sem Bool} {E : L2.St → XK} (ho : PE X o ta) (c : Cls X.K C) (hm : Meth X.K C m f) (F : FnG X.prog X.w X.K X.mg X.base CX k f fd ps sp) (gd : X.A.guards = some []) (hr : Room k X.A) (hb : Binds X.K fd ps []) (hx : ∀ σ, PassesAt CX X σ (E σ)) (ha : PA X (e :: es) t)
    (hst : starEach (e :: es) X.env = (false, eval e X.env) :: starEach es X.env := by rfl) (hpl : (backTo pos (starEach es X.env)).any (·.1) = false := by rfl)
    (ht : MethForm X o m (e :: es) pos apos pl := by rfl) : PE X (.Call (.Attribute o m apos) (e :: es) [] pos) (fun σ H Q => tMeth C m sp [] (E σ) ta t σ H Q) := by
  constructor
  intro pins s σ H Q I h
  refine PySem.W.methodCall_KW (pl := pl) (thn (ho.run pins s σ H _ I h) ?_) ht
  rintro u s1 ⟨y, H1, I1, ry, a, dx, fs, rfl, ea, l, q⟩
  obtain rfl : u = Value.ref a := ry
  refine getmeth_ok I1 ea c hm l ?_
  refine PySem.W.callWith_K (first := [.ref a]) (h₀ := X.base) I.ok.mod.kin hm.kp (thn (ha.run pos pins s1 σ H1 _ I1 q) ?_) hst hpl
  rintro us s2 ⟨vs, H2, I2, r, q2⟩
  exact ⟨I2.kIn, runG (us := .ref a :: us) (vs := .ref a :: vs) F gd hr hb .nil (fun er s' z => hx σ pins H2 s2 er s' I2 z) I2 (.cons rfl r) q2⟩
/-- C(e, ..) -/
theorem make_runG {pins : List (Addr × Obj)} {σ : L2.St} {H : Hp} {s : Shared} {Q : VK} {us : List Value} {vs : List V} (M : Mk X.K C f) (F : FnG X.prog X.w X.K X.mg X.base CX k f fd ps sp) (gd : X.A.guards = some []) (hr : Room (k + 1) X.A) (hb : Binds X.K fd ps ds) (hd : Vals dvs ds)
    (hx : ∀ (e : Value) (s' : Shared) (H0 : Hp) (s0 : Shared), L2.Inv X pins σ H0 s0 → CX X.stack H0 s0 E e s' → X.xe e s') (I : L2.Inv X pins σ H s) (r : Vals vs us)
    (h : ∀ x dx, H x = none → H dx = none → dx ≠ x → sp (.ref x :: (vs ++ dvs)) (upd (upd H dx (.own x)) x (.ins C dx [])) (fun v H2 => v = .non ∧ Q (.ref x) H2) E) : wpAny (model X.prog X.w) X.A (call (.ref C) us) (EP X pins σ Q) X.xe s := by
  have q := h (s.heap.objs.size + 1) s.heap.objs.size (I.hok.fresh (Nat.le_succ _)) (I.hok.fresh (Nat.le_refl _)) (Nat.ne_of_lt (Nat.lt_succ_self _))
  have J := Inv.made (C := C) I
  have rr : Vals (V.ref (s.heap.objs.size + 1) :: (vs ++ dvs)) (Value.ref (s.heap.objs.size + 1) :: (us ++ ds)) := .cons rfl (r.append hd)
  have nl : (Value.ref (s.heap.objs.size + 1) :: us ++ ds).length = ps.length := rr.length ▸ F.len _ _ _ _ q
  apply wpAny_call
  refine make_map (f := f) I.kIn M.makes M.init (beq_iff_eq.mp M.fn) ?_
  refine codeAny_mono (F.run _ X.stack _ _ ⟨Value.ref (s.heap.objs.size + 1) :: us, []⟩ (Value.ref (s.heap.objs.size + 1) :: (us ++ ds)) _ _ E gd (hr.make C us []) (J.env0.make C us []) (hb _ (Value.ref (s.heap.objs.size + 1) :: us) J.kIn nl) rr q) ?_
  intro res s' z
  match res, z with
  | .error er, z => exact hx er s' _ _ J z
  | .ok (.ret u), z =>
    obtain ⟨v, H', J', rv, rfl, q'⟩ := J.after z
    exact ⟨rv, V.ref (s.heap.objs.size + 1), H', J', rfl, q'⟩
  | .ok .next, z => exact z.elim
  | .ok .brk, z => exact z.elim
  | .ok .cont, z => exact z.elim
theorem pe_makeG (M : Mk X.K C f) (F : FnG X.prog X.w X.K X.mg X.base CX k f fd ps sp) (gd : X.A.guards = some []) (hr : Room (k + 1) X.A) (hg : Gl X x) (hm : X.mg x = some (.ref C)) (hb : Binds X.K fd ps ds) (hd : Vals dvs ds) (hx : Passes CX X E) (ha : PA X (e :: es) t)
    (hdb : (x == ("__debug__" : Str)) = false := by decide) (he : starEach (e :: es) X.env = (false, eval e X.env) :: starEach es X.env := by rfl) (hpl : (backTo pos (starEach es X.env)).any (·.1) = false := by rfl) : PE X (.Call (.Name x p) (e :: es) [] pos) (tMake C sp dvs E t) := by
  constructor
  intro pins s σ H Q I h
  apply wpAny_Call_Name_kw
  apply ld_glob I hg hm _ hdb
  apply PySem.W.callWith_K (h₀ := X.base) I.ok.mod.kin M.kp _ he hpl
  refine thn (ha.run pos pins s σ H _ I h) ?_
  rintro us s1 ⟨vs, H1, I1, r, q⟩
  exact ⟨I1.kIn, make_runG M F gd hr hb hd (fun er s' H0 s0 J z => hx pins σ H0 s0 er s' J z) I1 r q⟩
/-- the same, what is raised wished for at the slots -/
def tMakeS (C : Addr) (sp : Sp) (E : L2.St → XK) (t : TA) : TE := fun σ H Q => tMake C sp [] (E σ) t σ H Q
theorem pe_makeGS {E : L2.St → XK} (M : Mk X.K C f) (F : FnG X.prog X.w X.K X.mg X.base CX k f fd ps sp) (gd : X.A.guards = some []) (hr : Room (k + 1) X.A) (hg : Gl X x) (hm : X.mg x = some (.ref C)) (hb : Binds X.K fd ps []) (hx : ∀ σ, PassesAt CX X σ (E σ)) (ha : PA X (e :: es) t)
    (hdb : (x == ("__debug__" : Str)) = false := by decide) (he : starEach (e :: es) X.env = (false, eval e X.env) :: starEach es X.env := by rfl) (hpl : (backTo pos (starEach es X.env)).any (·.1) = false := by rfl) : PE X (.Call (.Name x p) (e :: es) [] pos) (tMakeS C sp E t) := by
  constructor
  intro pins s σ H Q I h
  apply wpAny_Call_Name_kw
  apply ld_glob I hg hm _ hdb
  apply PySem.W.callWith_K (h₀ := X.base) I.ok.mod.kin M.kp _ he hpl
  refine thn (ha.run pos pins s σ H _ I h) ?_
  rintro us s1 ⟨vs, H1, I1, r, q⟩
  exact ⟨I1.kIn, make_runG M F gd hr hb .nil (fun er s' H0 s0 J z => hx σ pins H0 s0 er s' J z) I1 r q⟩
/-- len(x), x's class has its own __len__ -/
def rLenG (C : Addr) (sp : Sp) : List V → Hp → VK → Prop := fun xs H Q => ∃ (a dx : Addr) (fs : List (Str × V)), xs = [.ref a] ∧ H a = some (.ins C dx fs) ∧
  sp [.ref a] H (fun v H2 => ∃ n : Nat, v = .int n ∧ n ≤ 1000 ∧ Q (.int n) H2) fun _ _ _ => False
theorem call_lenG {sp : Sp} (at_ : PySem.W.findIn X.K (.ref C) "__len__" = some (some (.ref f))) (tf : PySem.W.typeIn X.K (.ref f) = some (.type "function")) (F : FnG X.prog X.w X.K X.mg X.base CX0 k f fd ps sp) (gd : X.A.guards = some []) (hr : Room (k + 1) X.A) (hb : Binds X.K fd ps []) :
    CallR X (.builtin "len") (rLenG C sp) := by
  intro pins s σ H xs us Q I r h
  obtain ⟨a, dx, fs, rfl, ha, want⟩ := h
  obtain ⟨u, rfl, ru⟩ := vals1 r
  obtain rfl : u = Value.ref a := ru
  obtain ⟨mA, O, _⟩ := ins_get I.hok ha
  obtain ⟨od, J, _⟩ := O.look
  refine PySem.Calls.call_function_entry kind_len plain_len entry_len (args_len1 _) ?_
  unfold Builtin.«len»
  refine wpAny_bind (m := oneArg "len" _) ?_
  apply wpAny_pure
  have nl : ([.ref a] : List Value).length = ps.length := by
    have z := F.len _ _ _ _ want
    exact z
  have run := F.run X.A.in1 X.stack s H ⟨[.ref a], []⟩ [.ref a] [.ref a] _ _ gd hr.in1 I.env0.in1 (hb s [.ref a] I.kIn (by rw [List.append_nil]; exact nl)) (.cons rfl .nil) want
  refine wpAny_bind (m := callSpecial? (.ref a) (Str.ofString "__len__")) (PySem.W.special_fn I.kIn J at_ tf (wpAny_call (codeAny_mono run ?_)))
  intro res s' z
  match res, z with
  | .error er, z => exact z.elim
  | .ok .next, z => exact z.elim
  | .ok .brk, z => exact z.elim
  | .ok .cont, z => exact z.elim
  | .ok (.ret u), z =>
    obtain ⟨v, H', J', rv, n, rfl, hn, q⟩ := I.after z
    obtain ⟨t, rfl⟩ := rv
    show wpAny _ _ (holding [Value.int (n : Int) t] (asIndex (Value.int (n : Int) t)) >>= _) _ _ s'
    refine wpAny_bind (wpAny_holding (wpAny_pure ?_))
    refine wpAny_bind (wpAny_letGo ?_)
    have e1 : ¬ ((n : Nat) : Int) < 0 := by omega
    have e2 : ¬ ((n : Nat) : Int) ≥ 2 ^ 63 := by omega
    show wpAny _ _ (if ((n : Nat) : Int) < 0 then _ else _) _ _ _
    rw [if_neg e1]
    show wpAny _ _ (if ((n : Nat) : Int) ≥ 2 ^ 63 then _ else _) _ _ _
    rw [if_neg e2]
    refine wpAny_bind (wpAny_mkInt ?_)
    apply wpAny_pure
    exact ⟨_, rfl, .int n, H', J'.tok _, ⟨_, rfl⟩, q⟩
end
end Sb

/-! try with several clauses, each with a name or without. -/
namespace Sb
open PySem PySem.Spec PyProof.Rows L2
abbrev TSx := Addr → Value → Option Addr → TS
/-- behind a named clause its name is gone -/
def gone (i : Nat) (D : Ends) : Ends := { nx := fun σ H => D.nx (σ.set i none) H, rt := D.rt, bk := fun σ H => D.bk (σ.set i none) H, ct := fun σ H => D.ct (σ.set i none) H }
/-- what a clause asks once it is the one -/
def onCl (nm : Option Nat) (ts : TSx) (D : Ends) : WX := fun cls d σ H => match nm with
  | none => ∀ a, H a = none → ts a cls d D σ H
  | some i => ∀ a, H a = none → ts a cls d (gone i D) (σ.set i (some (.ref a))) H
def wMix (K : PySem.W.Frag) (Wout : WX) (D : Ends) : List (Value × Option Nat × TSx) → WX
  | [] => Wout
  | (c, nm, ts) :: r => fun cls d σ H => ∃ b, PySem.W.exmOne K cls c = some b ∧ (b = true → onCl nm ts D cls d σ H) ∧ (b = false → wMix K Wout D r cls d σ H)
/-- a clause's suite, read in the suite's context -/
abbrev Suite (X : Cx) (b : List Stmt) (ts : TSx) : Prop := ∀ (a : Addr) (oe : Obj) (cls : Value) (d : Option Addr) (pn : List (Addr × Obj)), Zc cls d oe → (∃ vs, oe.data = .fields vs) → PSs (X.suite a ((a, oe) :: pn)) b (ts a cls d)
inductive MixOk (X : Cx) : List ExceptHandler → List (Value × Option Nat × TSx) → Prop
  | nil : MixOk X [] []
  | plain {x : Str} {c : Value} {ts : TSx} {b0 : Stmt} {b : List Stmt} {np p : Pos} {hds : List ExceptHandler} {l : List (Value × Option Nat × TSx)} (hc : Names X x c) (hsu : Suite X (b0 :: b) ts) (r : MixOk X hds l) :
      MixOk X (.ExceptHandler (some (.Name x np)) none (b0 :: b) p :: hds) ((c, none, ts) :: l)
  | named {x n : Str} {i : Nat} {c : Value} {ts : TSx} {b0 : Stmt} {b : List Stmt} {np p : Pos} {hds : List ExceptHandler} {l : List (Value × Option Nat × TSx)} (hi : X.N[i]? = some n) (hln : X.env.kindOf n = some .local) (hc : Names X x c) (hsu : Suite X (b0 :: b) ts) (r : MixOk X hds l) :
      MixOk X (.ExceptHandler (some (.Name x np)) (some n) (b0 :: b) p :: hds) ((c, some i, ts) :: l)
section
variable {X : Cx} {body : List Stmt} {h0 : ExceptHandler} {hds : List ExceptHandler} {l : List (Value × Option Nat × TSx)} {pos : Pos} {tb : WX → TS} {Wout : WX}
theorem ps_try_mix (hs : X.stack = X.env :: X.outer) (hf : X.env.frame = some X.env.locals) (hN : X.N.Nodup) (tk : L2.Takes X Wout)
    (hb : ∀ (W : WX) (pn : List (Addr × Obj)) (xe : Value → Shared → Prop), L2.Takes (X.tr pn xe) W → PassesOwn (model X.prog X.w) X.A X.env xe → PSs (X.tr pn xe) body (tb W)) (hh : MixOk X (h0 :: hds) l) :
    PS X (.Try body (h0 :: hds) [] [] pos) (fun D σ H => tb (wMix X.K Wout D l) D σ H) := by
  constructor
  intro pins s σ H D I h
  have ok := I.ok
  have hfr : X.A.frames = some (X.env :: X.outer) := hs ▸ ok.frames
  let XE : Value → Shared → Prop := fun e s1 => wpAny (model X.prog X.w) X.A (noteFrame e X.env) (fun _ s2 => wpAny (model X.prog X.w) X.A (setFlight e none) (fun _ s3 => wpAny (model X.prog X.w) X.A (handleBy e X.env (h0 :: hds)) (SP X pins D) X.xe s3) X.xe s2) X.xe s1
  have takes : L2.Takes (X.tr (X.pn ++ pins) XE) (wMix X.K Wout D l) := by
    rintro u s' ⟨a, B, sI, pins', σ', H', cls, d, rfl, J', nb, up, sky, na, os, ag, w⟩
    have J : L2.Inv X pins σ' H' sI := J'.ofTry ok
    replace sky : Sky B (X.env :: X.outer) a (Zc cls d) X.env.locals s'.heap := hs ▸ sky
    show wpAny (model X.prog X.w) X.A (noteFrame (.ref a) X.env) _ _ _
    refine Sky.land Zc.steady hfr hf sky fun h3 fl3 up3 => ?_
    have J3 : L2.Inv X pins σ' H' { s' with heap := h3 } := J.landed nb fl3.1 (up.trans up3) os ag
    obtain ⟨oe3, vs3, he3, hz3, hd3⟩ := fl3.there
    have off : a ∉ frs (X.env :: X.outer) := fun hm => by
      obtain ⟨_, o', e', hn⟩ := fl3.2.2.1.mem hm
      rw [he3] at e'
      cases e'
      exact hn _ hd3
    have nL : a ≠ X.env.locals := fun z => off (List.mem_filterMap.mpr ⟨X.env, List.mem_cons_self, z ▸ hf⟩)
    have nF : a ∉ X.fs := fun hm => by
      obtain ⟨e, he, q⟩ := List.mem_filterMap.mp hm
      exact off (List.mem_filterMap.mpr ⟨e, List.mem_cons_of_mem _ he, q⟩)
    have S3 := J3.suite he3 hd3 na nL nF
    have LT : PySem.W.Looks (model X.prog X.w) h3 (typeOf (.ref a)) cls := fun A Q E s k q => wpAny_typeOf_ref (k _ _ he3) (hz3.1 ▸ q)
    -- the clause's class is read
    have test : ∀ {x : Str} {c : Value} {np : Pos} {Q : Value → Shared → Prop} {E : Value → Shared → Prop}, Names X x c → Q c { s' with heap := h3 } → wpAny (model X.prog X.w) (X.A.mark (some (.ref a))) (eval (.Name x np) X.env) Q E { s' with heap := h3 } := by
      rintro x c np Q E ⟨hg, hdb, hm | ⟨hm, hv, hnn⟩⟩ q
      · exact ld_glob (X := X.suite a ((a, oe3) :: (X.pn ++ pins))) S3 hg hm q hdb
      · exact ld_blt (X := X.suite a ((a, oe3) :: (X.pn ++ pins))) S3 hg hm hv q hnn hdb
    have go : ∀ {hds' : List ExceptHandler} {l' : List (Value × Option Nat × TSx)}, MixOk X hds' l' → wMix X.K Wout D l' cls d σ' H' → wpAny (model X.prog X.w) X.A (handleBy (.ref a) X.env hds') (SP X pins D) X.xe { s' with heap := h3 } := by
      intro hds' l' hk
      induction hk with
      | nil =>
        intro w
        apply wpAny_handleBy_nil
        obtain ⟨k1, k2, k3, oe, vs, T, oT, ts', he, hz, hd, h1, hr⟩ := id fl3
        unfold PySem.passOn
        refine wpAny_bind (wpAny_field he hd h1 ?_)
        rw [if_neg (show ¬ ((Value.ref T == Value.none) = true) by simp)]
        have out : wpAny (model X.prog X.w) X.A (setFlight (.ref a) X.env.frame) (fun _ s4 => wpAny (model X.prog X.w) X.A (throw (.ref a) : Sem Flow) (SP X pins D) X.xe s4) X.xe { s' with heap := h3 } := by
          rw [hf]
          refine HandSPX.setFlight_upZ fl3 fun h4 hh4 up4 => wpAny_throw (tk _ _ ⟨a, B, sI, pins, σ', H', cls, d, rfl, J, nb, (up.trans up3).trans up4, .inr (.inr ?_), na, os, ag, w⟩)
          rw [hs]
          exact hh4
        first | exact wpAny_bind (wpAny_pure (wpAny_bind out)) | exact wpAny_bind out
      | @plain x c ts b0 b np p hds2 l2 hc hsu r ih =>
        rintro ⟨k, hk1, yes, no⟩
        refine wpAny_handleBy_cons (codeAny_handlers_test ?_) (fun q => by cases q)
        refine test hc ((PySem.W.exm_one (M := model X.prog X.w) J3.kIn LT hk1).here ?_)
        cases k with
        | false => exact ih (no rfl)
        | true =>
          refine codeAny_handlers_suite (HandSPX.lands_againZ fl3 fun h4 fl4 up4 => ?_)
          have J4 : L2.Inv X pins σ' H' { s' with heap := h4 } := J.landed nb fl4.1 ((up.trans up3).trans up4) os ag
          obtain ⟨oe4, vs4, he4, hz4, hd4⟩ := fl4.there
          refine wpAny_mono ((hsu a oe4 cls d (X.pn ++ pins) hz4 ⟨_, hd4⟩).run [] _ _ H' _ (J4.suite he4 hd4 na nL nF) (yes rfl a na)) ?_ (fun _ _ z => z.elim)
          intro f s6 hsp
          match f, hsp with
          | .next, ⟨σ6, H6, S6, q6⟩ => exact ⟨_, _, S6.unsuite ok, q6⟩
          | .brk, ⟨σ6, H6, S6, q6⟩ => exact ⟨_, _, S6.unsuite ok, q6⟩
          | .cont, ⟨σ6, H6, S6, q6⟩ => exact ⟨_, _, S6.unsuite ok, q6⟩
          | .ret u, ⟨v6, σ6, H6, S6, r6, q6⟩ => exact ⟨_, _, _, S6.unsuite ok, r6, q6⟩
      | @named x n i c ts b0 b np p hds2 l2 hi hln hc hsu r ih =>
        rintro ⟨k, hk1, yes, no⟩
        refine wpAny_handleBy_cons (codeAny_handlers_test ?_) (fun q => by cases q)
        refine test hc ((PySem.W.exm_one (M := model X.prog X.w) J3.kIn LT hk1).here ?_)
        cases k with
        | false => exact ih (no rfl)
        | true =>
          refine codeAny_handlers_suite_as (HandSPX.lands_againZ fl3 fun h4 fl4 up4 => ?_)
          have J4 : L2.Inv X pins σ' H' { s' with heap := h4 } := J.landed nb fl4.1 ((up.trans up3).trans up4) os ag
          obtain ⟨oe4, vs4, he4, hz4, hd4⟩ := fl4.there
          refine store_ok (X := X.suite a ((a, oe4) :: (X.pn ++ pins))) (v := .ref a) (J4.suite he4 hd4 na nL nF) hN hi (.inl hln) rfl (fun s5 S5 => ?_) (.inr hln)
          refine wpAny_mono ((hsu a oe4 cls d (X.pn ++ pins) hz4 ⟨_, hd4⟩).run [] s5 _ H' _ S5 (yes rfl a na)) ?_ (fun _ _ z => z.elim)
          intro f s6 hsp
          match f, hsp with
          | .next, ⟨σ6, H6, S6, q6⟩ => exact gone_ok (S6.unsuite ok) hN hi hln fun s7 J7 => ⟨_, _, J7, q6⟩
          | .brk, ⟨σ6, H6, S6, q6⟩ => exact gone_ok (S6.unsuite ok) hN hi hln fun s7 J7 => ⟨_, _, J7, q6⟩
          | .cont, ⟨σ6, H6, S6, q6⟩ => exact gone_ok (S6.unsuite ok) hN hi hln fun s7 J7 => ⟨_, _, J7, q6⟩
          | .ret u, ⟨v6, σ6, H6, S6, r6, q6⟩ => exact gone_ok (S6.unsuite ok) hN hi hln fun s7 J7 => ⟨_, _, _, J7, r6, q6⟩
    exact go hh w
  refine wpAny_Try_except (wpAny_mono ((hb (wMix X.K Wout D l) (X.pn ++ pins) XE takes PassesOwn.looking).run [] s σ H D (I.toTry _) h) ?_ (fun e s1 he => he))
  intro f s1 hsp
  match f, hsp with
  | .next, ⟨σ', H', J', q⟩ => exact wpAny_execs_nil ⟨σ', H', J'.ofTry ok, q⟩
  | .brk, ⟨σ', H', J', q⟩ => exact ⟨σ', H', J'.ofTry ok, q⟩
  | .cont, ⟨σ', H', J', q⟩ => exact ⟨σ', H', J'.ofTry ok, q⟩
  | .ret u, ⟨v, σ', H', J', r, q⟩ => exact ⟨v, σ', H', J'.ofTry ok, r, q⟩
end
end Sb

/-! sorted(d, key=f) over a dict whose keys are tuples; f gives rows of ints. -/
namespace Sb
open PySem PySem.Spec PyProof.Rows L2
open PySem.W (EachIs KeyPure KeepsBut dataLe AllAlike Sortable)
abbrev KRow := List Key × Addr × Value
/-- the keys in the order of their ranks -/
def srt (rank : List Key → List Int) (ks : List (List Key)) : List (List Key) := ks.mergeSort fun a b => decide (rank a ≤ rank b)
/-- key tuples, at these addresses -/
def IsKs (H : Hp) (ks : List (List Key)) (bs : List Addr) : Prop := Paired (fun k b => H b = some (.tup (k.map kV))) ks bs
/-- f is a function that gives a key tuple its rank -/
structure KeyFn (X : Cx) (f : Addr) (rank : List Key → List Int) (ok : List Key → Prop) : Prop where
  run : ∀ (s : Shared) (A : Around) (a : Addr) (its : List Value) (k : List Key), X.K.In s.heap → s.heap.Ns mainGlobals X.mg → s.heap.NoLimit → A.depth + 1 < recursionLimit → A.handled = none → ok k → Vals (k.map kV) its →
    IsTup s.heap a its.toArray → wpAny (model X.prog X.w) A (call (.ref f) [.ref a]) (KeyPure (.tuple ((rank k).map .int)) s) (fun _ _ => False) s
  some_ : ∀ k, ∃ x r, rank k = x :: r
  same : ∀ a b, (rank a).length = (rank b).length
theorem each_refs : ∀ ks : List KRow, EachIs (fun (v : Value) (x : KRow) => v = .ref x.2.1) (ks.map fun x => Value.ref x.2.1) ks
  | [] => .nil
  | _ :: r => .cons rfl (each_refs r)
theorem refs_each : ∀ {out : List Value} {ks : List KRow}, EachIs (fun (v : Value) (x : KRow) => v = .ref x.2.1) out ks → out = (ks.map fun x => x.2.1).map Value.ref
  | _, _, .nil => rfl
  | _, _, .cons h t => by
    rw [List.map_cons, List.map_cons, ← refs_each t, h]
theorem isKs_of {H : Hp} : ∀ {ks : List KRow}, (∀ x ∈ ks, H x.2.1 = some (.tup (x.1.map kV))) → IsKs H (ks.map (·.1)) (ks.map fun x => x.2.1)
  | [], _ => .nil
  | x :: r, h => .cons (h x List.mem_cons_self) (isKs_of fun y hy => h y (List.mem_cons_of_mem _ hy))
theorem kt_mem {H : Hp} {kvs : List (List Key × V)} {xs : List KRow} (r : KT H kvs xs) : kvs.map (·.1) = xs.map (·.1) ∧ ∀ x ∈ xs, H x.2.1 = some (.tup (x.1.map kV)) := by
  induction r with
  | nil => exact ⟨rfl, fun _ h => by cases h⟩
  | @cons a b l1 l2 h t ih =>
    refine ⟨by rw [List.map_cons, List.map_cons, h.1, ih.1], fun x hx => ?_⟩
    rcases List.mem_cons.mp hx with rfl | hx
    · rw [← h.1]
      exact h.2.1
    · exact ih.2 x hx
theorem alike_rows : ∀ (xs ys : List Int), PySem.W.alike (.tuple (xs.map .int)) (.tuple (ys.map .int)) = true := fun xs ys => PySem.W.alike_ints xs ys
theorem le_rows (rank : List Key → List Int) : dataLe false (fun x : KRow => PyData.tuple ((rank x.1).map .int)) = fun p q => decide (rank p.1 ≤ rank q.1) := by
  have e := PySem.W.dataLe_rows (β := KRow) (fun x => rank x.1)
  rw [← e]
  funext p q
  rfl
/-- sorted(d, key=f) -/
def rSortT (f : Addr) (rank : List Key → List Int) (ok : List Key → Prop) : List V → List V → Hp → VK → Prop := fun xs zs H Q => ∃ (d : Addr) (kvs : List (List Key × V)), xs = [.ref d] ∧ zs = [.ref f] ∧ H d = some (.dT kvs) ∧ (∀ k ∈ kvs.map (·.1), ok k) ∧
  ∀ p bs, H p = none → IsKs H (srt rank (kvs.map (·.1))) bs → Q (.ref p) (upd H p (.lst (bs.map V.ref)))
theorem call_sortT {X : Cx} {f : Addr} {rank : List Key → List Int} {ok : List Key → Prop} {k0 : Nat} (hc : X.calm = true) (hr : Room (k0 + 1) X.A) (F : KeyFn X f rank ok) : CallRK X (.builtin "sorted") ["key"] (rSortT f rank ok) := by
  intro pins s σ H xs zs us ws Q I r rz h
  obtain ⟨d, kvs, rfl, rfl, hd, hok, q⟩ := h
  obtain ⟨u, rfl, rx⟩ := vals1 r
  obtain ⟨u2, rfl, rx2⟩ := vals1 rz
  obtain rfl : u = Value.ref d := rx
  obtain rfl : u2 = Value.ref f := rx2
  obtain ⟨z, lo, ks, pr, o, es, ep, ho, hx, hdt, he, hn⟩ := (show ObjOk X.prog X.w H s.heap d (.dT kvs) from I.hok d _ hd)
  have l1 : es.size = ks.length := size_of_entries he
  obtain ⟨ek, hks⟩ := kt_mem pr
  have l2 : kvs.length = ks.length := Paired.length pr
  show wpAny _ _ (call (.builtin "sorted") [.ref d] [(Str.ofString "key", .ref f)]) _ _ _
  refine PyProof.Rows.call_function_entry_kw PyProof.Rows.kind_sorted PyProof.Rows.plain_sorted PyProof.Rows.entry_sorted (PyProof.Rows.ksk_s1 _ _) ?_
  unfold Builtin.«sorted»
  refine wpAny_bind (m := checkCount "sorted" 1 1 _) ?_
  apply wpAny_pure
  refine wpAny_bind (PySem.W.kdu_collect (A := X.A.in1) (kdl_raw lo hx hdt) (I.ok.hd hc) ho (by omega) fun h' tk acc kp it => ?_)
  have ea : acc.toList = ks.map fun x => Value.ref x.2.1 := by
    apply List.ext_getElem?
    intro j
    have la : acc.toList.length = ks.length := by
      rw [Array.length_toList, it.1, l1]
    rw [List.getElem?_map]
    by_cases hj : j < ks.length
    · have e1 : acc.toList[j]? = some acc.toList[j] := List.getElem?_eq_getElem (by omega)
      obtain ⟨en, hen, hv⟩ := it.2 j _ ((Array.getElem?_toList).symm.trans e1)
      have e2 := entry_at he j
      rw [hen, List.getElem?_eq_getElem hj] at e2
      have e3 : en = entryOfKey (tupleKind (mixKind X.prog X.w)) ks[j] := Option.some.inj e2
      rw [e1, hv, e3, List.getElem?_eq_getElem hj]
      rfl
    · rw [List.getElem?_eq_none (by omega), List.getElem?_eq_none (by omega)]
      rfl
  have la : acc.toList.length = ks.length := by rw [ea, List.length_map]
  have I1 : Inv X pins σ H { s with heap := h', toks := tk } := I.kept kp
  refine wpAny_bind (wpAny_newList ?_ (by omega))
  have hoL : (h'.push (seqObj "list" acc.toList.toArray 0)).get? h'.objs.size = some (seqObj "list" acc.toList.toArray 0) := Heap.get?_push_size _ rfl
  have up : ∀ c o, h'.get? c = some o → (h'.push (seqObj "list" acc.toList.toArray 0)).get? c = some o := fun c o e => Heap.get?_push_of_some _ e
  show wpAny _ _ _ _ _ { s with heap := h'.push (seqObj "list" acc.toList.toArray 0), toks := tk }
  refine wpAny_bind (wpAny_holding (wpAny_call_entry_kw PyProof.Rows.slot_list_sort ⟨_, hoL, rfl⟩ PyProof.Rows.entry_list_sort ?body (PyProof.Rows.ksk_l1 _ _)))
  rw [PyProof.Rows.ksk_t1]
  have each : EachIs (fun (v : Value) (x : KRow) => v = .ref x.2.1) acc.toList ks := by rw [ea]; exact each_refs ks
  have ne : ∀ {c : Addr} {o : Obj}, h'.get? c = some o → c ≠ h'.objs.size := fun e => Nat.ne_of_lt (Heap.lt_size e)
  refine PySem.W.keyH_tree (kz := ks.map fun x => PyData.tuple ((rank x.1).map .int)) (s := { s with heap := h'.push (seqObj "list" acc.toList.toArray 0), toks := tk }) hoL (by rw [List.length_map, la]) (by omega)
    (AllAlike.of fun a b => alike_rows _ _) (Sortable.tuples fun b => ?_) ?_ (PySem.W.keyH_turns (s := { s with heap := h'.push (seqObj "list" acc.toList.toArray 0), toks := tk }) each fun v x hR hxk h2 tk2 kp2 => ?_) fun h3 tk3 out c kp3 hD ko => ?_
  · obtain ⟨x, r, e⟩ := F.some_ b.1
    exact ⟨_, _, by rw [e]; rfl⟩
  · intro dd hdd
    obtain ⟨x, _, rfl⟩ := List.mem_map.mp hdd
    have dp : PyData.depth (.tuple ((rank x.1).map PyData.int)) = 1 := by
      show PyData.depthAll _ + 1 = 1
      rw [PySem.W.depth_ints]
    rw [dp]
    have := hr.un
    show X.A.units + 1 + 1 + 1 < cLine
    omega
  · rw [hR]
    obtain ⟨_, its, rv, it1⟩ := (show ObjOk X.prog X.w H h' x.2.1 (.tup (x.1.map kV)) from I1.hok _ _ (hks x hxk))
    have k2 : ∀ c o, h'.get? c = some o → h2.get? c = some o := fun c o e => kp2 c o (ne e) (up c o e)
    refine F.run { s with heap := h2, toks := tk2 } _ x.2.1 its x.1 (I1.kIn.keeps k2) ((I1.mod.glob.keeps I1.bk).keeps k2) (I1.nolimit.keeps k2) ?_ ?_ (hok _ (by rw [ek]; exact List.mem_map.mpr ⟨x, hxk, rfl⟩)) rv ?_
    · have := hr.dp
      show X.A.depth + 1 < recursionLimit
      omega
    · exact I.ok.hd hc
    · obtain ⟨ob, h1, r⟩ := it1
      exact ⟨ob, k2 _ _ h1, r⟩
  · have eo := PySem.W.keyedOut_each (fun x : KRow => PyData.tuple ((rank x.1).map .int)) ko each
    have lo2 := ko.length (by rw [List.length_map, la])
    rw [le_rows] at eo
    have er := refs_each eo
    have hmem : ∀ x ∈ ks.mergeSort (fun p q => decide (rank p.1 ≤ rank q.1)), H x.2.1 = some (.tup (x.1.map kV)) := fun x hx => hks x ((List.mergeSort_perm ks _).mem_iff.mp hx)
    have em : (ks.mergeSort (fun p q => decide (rank p.1 ≤ rank q.1))).map (·.1) = srt rank (kvs.map (·.1)) := by
      unfold srt
      rw [ek]
      exact List.map_mergeSort fun a _ b _ => rfl
    have isk := isKs_of hmem
    rw [em] at isk
    have keep3 : ∀ b o, h'.get? b = some o → h3.get? b = some o := fun b o e => kp3 b o (ne e) (up b o e)
    have rv : Vals (((ks.mergeSort (fun p q => decide (rank p.1 ≤ rank q.1))).map fun x => x.2.1).map V.ref) out := by
      rw [er]
      exact vals_refs _
    have hz : (((ks.mergeSort (fun p q => decide (rank p.1 ≤ rank q.1))).map fun x => x.2.1).map V.ref).length ≤ sizeLine := by
      rw [rv.length]
      omega
    refine ⟨_, rfl, ?_⟩
    apply wpAny_pure
    refine ⟨_, rfl, .ref h'.objs.size, _, I1.laid (t' := tk3) (o := .lst (((ks.mergeSort (fun p q => decide (rank p.1 ≤ rank q.1))).map fun x => x.2.1).map V.ref)) keep3 (Nat.le_refl _) ⟨hz, out, c, rv, hD⟩, rfl, q _ _ (I1.hok.fresh (Nat.le_refl _)) isk⟩
end Sb

/-! {k: v for x in ..} with tuples for keys. -/
namespace Sb
open PySem PySem.Spec PyProof.Rows L2
section
variable {X : Cx} {pins : List (Addr × Obj)} {σ : L2.St} {H : Hp}
/-- D[k] = v, k the tuple at b -/
theorem putT_ok {s : Shared} {E : Value → Shared → Prop} {D b : Addr} {kvs : List (List Key × V)} {k : List Key} {v : V} {r : Value} {Q : Unit → Shared → Prop} (hu : X.A.units + 1 < cLine) (I : L2.Inv X pins σ H s) (hD : H D = some (.dT kvs)) (hb : H b = some (.tup (k.map kV))) (hz : kvs.length < sizeLine)
    (rv : RelV v r) (want : ∀ s', L2.Inv X pins σ (upd H D (.dT (putK kvs k v))) s' → Q () s') : wpAny (model X.prog X.w) X.A (dictSet D (.ref b) r) Q E s := by
  obtain ⟨z, low, xs, rel, dd⟩ := dt_of I.hok hD
  have l1 : xs.length ≤ sizeLine := Paired.length rel ▸ z
  have l2 := length_putK kvs k v
  refine wpAny_dictSet_heap (hsz := l1) ?room (key_of I.hok hb) dd fun h' dd' but => want _ ?_
  case room => show X.A.units < cLine; omega
  obtain ⟨q, es, ep, g1, g2, g3, g4, _, g5⟩ := dd'
  refine d_write I (by rw [hD]; trivial) but ⟨q, g1⟩ ⟨by omega, low, _, (rel.put k hb rv).keeps fun c ys ec => ?_, q, es, ep, g1, g2, g3, g4, g5⟩
  rw [upd_ne (ne_of ec hD fun z => nomatch z)]
  exact ec
end
/-- what the turns are to show; D: the new dict -/
def DcW (J : It) (g : TG) (tt : TT) (tk tv : TE) (vs : List Nat) (σ : L2.St) (D : Addr) (Qd : Hp → Prop) (H0 : Hp) : Prop := ∃ W : Nat → Nat → Hp → Prop, (∃ m, W 0 m H0) ∧ ∀ i m H, W i m H →
  (J.stop i H ∧ Qd H) ∨ (J.go i H ∧ ∃ Nx : Hp → Prop, (∀ H', Nx H' → ∃ m', m' < m ∧ W (i + 1) m' H') ∧ ∀ x H', J.yld i H x H' → g x (wipe σ vs) H' fun σ2 H2 => wipe σ2 vs = wipe σ vs ∧ tt σ2 H2 fun b H3 =>
    if b = true then tk σ2 H3 fun y H4 => tv σ2 H4 fun z H5 => ∃ kvs k t, y = .ref t ∧ H5 t = some (.tup (k.map kV)) ∧ H5 D = some (.dT kvs) ∧ kvs.length < sizeLine ∧ Nx (upd H5 D (.dT (putK kvs k z))) else Nx H3)
def tDcT (wi : TI) (g : TG) (tt : TT) (tk tv : TE) (vs : List Nat) : TE := fun σ H Q => wi σ H fun J H1 => ∀ D, H1 D = none → DcW J g tt tk tv vs σ D (Q (.ref D)) (upd H1 D (.dT []))
section
variable {X : Cx} {kx vx tg iter : Expr} {ifs : List Expr} {scope : Scope} {own : List (Str × Nat)} {pos : Pos} {wi : TI} {g : TG} {tt : TT} {tk tv : TE}
theorem pe_dcT (hc : X.calm = true) (hN : X.N.Nodup) (hu : X.A.units + 1 < cLine) (hi : PI X tg iter wi) (ok : BlkOk X.N X.env.scope scope own) (hg : ∀ (s : Shared) (H : Hp) (C : Addr) (cl : List (Str × Addr)) (fp : List Addr), PG (X.blk s H scope (compEnvC scope cl C X.env) fp) tg g) (ht : ∀ (s : Shared) (H : Hp) (C : Addr) (cl : List (Str × Addr)) (fp : List Addr), PTs (X.blk s H scope (compEnvC scope cl C X.env) fp) ifs tt) (hk : ∀ (s : Shared) (H : Hp) (C : Addr) (cl : List (Str × Addr)) (fp : List Addr), PE (X.blk s H scope (compEnvC scope cl C X.env) fp) kx tk)
    (hv : ∀ (s : Shared) (H : Hp) (C : Addr) (cl : List (Str × Addr)) (fp : List Addr), PE (X.blk s H scope (compEnvC scope cl C X.env) fp) vx tv) (hs : ∀ x, foldedSetIterable iter X.env x = pure x := by intro _; rfl) : PE X (.DictComp kx vx [⟨tg, iter, ifs, 0⟩] scope pos) (tDcT wi g tt tk tv (own.map (·.2))) := by
  constructor
  intro pins s σ H Q I h
  rw [arm_eval_DictComp]
  have closed : ∀ y ∈ scope.names, y.2 = .free → ∃ c, X.env.cells.lookup y.1 = some c := by
    intro y hy e
    exact (ok.free y hy e).elim (fun k => I.ok.has _ (.inl k)) (fun k => I.ok.has _ (.inr k))
  refine wpAny_comprehension_free rfl hs (closure_ok closed) ok.kind (fun y hy e => by rw [ok.uniq y hy, e]) ?_
  refine thn (hi.run pins s σ H _ I h) fun xv s1 hx => thn hx ?_
  rintro itv s2 ⟨it, fp, tn, J, H2, rfl, I2, T, st2, f2, q⟩
  refine wpAny_newObj_type (newEnv_comp ?_)
  generalize eD : s2.heap.objs.size = D
  have nD : H2 D = none := I2.hok.fresh (Nat.le_of_eq eD)
  obtain ⟨W, ⟨m0, w0⟩, turn⟩ := q D nD
  -- D is laid
  generalize es3 : ({ s2 with heap := s2.heap.push { cls := .type "dict", data := .dict #[] } } : Shared) = s3
  have h3 : s3.heap = s2.heap.push { cls := .type "dict", data := .dict #[] } := by
    rw [← es3]
  generalize eH3 : upd H2 D (.dT []) = H3 at w0
  have I3 : L2.Inv X pins σ H3 s3 := by
    have lay := I2.laid (t' := s2.toks) (h' := s2.heap.push { cls := .type "dict", data := .dict #[] }) (fun b o e => Heap.get?_push_of_some _ e) (Nat.le_of_eq eD) (eD ▸ dt_empty s2.heap I2.big)
    rw [← es3, ← eH3]
    exact lay
  have small : ∀ b ∈ fp, b < s2.heap.objs.size := by
    intro b hb
    obtain ⟨o, e, _⟩ := T.obj _ _ st2 b hb
    exact Heap.lt_size e
  have f3 : ∀ b ∈ fp, FpOk X pins H3 b ∧ b < s3.heap.objs.size := by
    intro b hb
    have lt := small b hb
    constructor
    · refine ⟨?_, (f2 b hb).2⟩
      rw [← eH3, upd_ne (eD ▸ Nat.ne_of_lt lt)]
      exact (f2 b hb).1
    · rw [h3, Heap.size_push]
      exact Nat.lt_succ_of_lt lt
  have n3 : ∀ b ∈ fp, H3 b = none := fun b hb => (f3 b hb).1.1
  have st3 : tn 0 s3.heap := by
    refine T.keep _ _ _ st2 ?_
    rw [h3]
    exact fun b _ o e => Heap.get?_push_of_some _ e
  have I4 := block_start I3 ok hN f3
  show codeAny _ _ (.compStart (.DictComp kx vx [⟨tg, iter, ifs, 0⟩] scope pos) 0 (.ref it) (.ref D) (compEnvC scope (cellsFrom (s3.heap.objs.size + 1) scope.names (cloFrom X.env.cells scope.names [])) s3.heap.objs.size X.env)) (compPost (model X.prog X.w) X.A X.xe none _ (.ref D) s3.heap.objs.size) { s3 with heap := pushCells (s3.heap.push { cls := .type "dict", data := .dict #[] }) scope.names }
  have bg := hg s3 H3 s3.heap.objs.size (cellsFrom (s3.heap.objs.size + 1) scope.names (cloFrom X.env.cells scope.names [])) fp
  have bt := ht s3 H3 s3.heap.objs.size (cellsFrom (s3.heap.objs.size + 1) scope.names (cloFrom X.env.cells scope.names [])) fp
  have bk := hk s3 H3 s3.heap.objs.size (cellsFrom (s3.heap.objs.size + 1) scope.names (cloFrom X.env.cells scope.names [])) fp
  have bv := hv s3 H3 s3.heap.objs.size (cellsFrom (s3.heap.objs.size + 1) scope.names (cloFrom X.env.cells scope.names [])) fp
  generalize ece : compEnvC scope (cellsFrom (s3.heap.objs.size + 1) scope.names (cloFrom X.env.cells scope.names [])) s3.heap.objs.size X.env = ce at I4 bg bt bk bv ⊢
  have cL : ce.locals = s3.heap.objs.size := ece ▸ rfl
  generalize es4 : ({ s3 with heap := pushCells (s3.heap.push { cls := .type "dict", data := .dict #[] }) scope.names } : Shared) = s4 at I4 ⊢
  have st4 : tn 0 s4.heap := by
    refine T.keep _ _ _ st3 fun b _ o e => ?_
    rw [← es4]
    exact pushCells_keeps _ _ _ _ (Heap.get?_push_of_some _ e)
  have stat : ∀ {σ' : L2.St} {H' : Hp} {s' : Shared}, L2.Inv (X.blk s3 H3 scope ce fp) [] σ' H' s' → (∀ b ∈ fp, H' b = none) → ∀ b ∈ fp, FpOk (X.blk s3 H3 scope ce fp) [] H' b := by
    intro σ' H' s' J' hn b hb
    refine ⟨hn b hb, (J'.ok.exf b hb).1, J'.ok.exfs b hb, .inl hb, (J'.ok.exf b hb).2, fun p hp => ?_⟩
    have z : p ∈ ([] : List (Addr × Obj)) ++ [] := hp
    simp at z
  -- the loop's state
  let At : Nat → Shared → Prop := fun n s' => ∃ i H', L2.Inv (X.blk s3 H3 scope ce fp) [] (wipe σ (own.map (·.2))) H' s' ∧ tn i s'.heap ∧ (∀ b ∈ fp, H' b = none) ∧ W i n H'
  have loop : codeAny (model X.prog X.w) X.A (.compLoop (.DictComp kx vx [⟨tg, iter, ifs, 0⟩] scope pos) 0 (.ref it) (.ref D) ce) (compPost (model X.prog X.w) X.A X.xe none (EP X pins σ Q) (.ref D) s3.heap.objs.size) s4 := by
    refine compLoop_anyD At ?_ m0 ⟨0, H3, I4, st4, n3, w0⟩
    rintro n s5 ⟨i, H5, I5, st5, n5, w5⟩
    rcases turn i n H5 w5 with ⟨stop, done⟩ | ⟨go, Nx, hNx, step⟩
    · refine thnF (T.done (X.blk s3 H3 scope ce fp) rfl rfl rfl hc i [] s5 _ H5 (fun _ _ => False) I5 (stat I5 n5) st5 stop) ?_
      rintro r s6 ⟨rfl, I6⟩
      have I7 : L2.Inv X pins σ H5 s6 := by
        refine I3.call' (ch := fp) I6.os I6.base I6.hok I6.bare fun b hb => ?_
        have z := (f3 b hb).1.2
        exact ⟨z.2.2.1, z.1, z.2.2.2.1, z.2.2.2.2⟩
      have free := I6.free
      rw [show (X.blk s3 H3 scope ce fp).env.locals = s3.heap.objs.size from cL] at free
      obtain ⟨m, hn, _⟩ := I6.loc
      have hn : s6.heap.Ns ce.locals m := hn
      rw [cL] at hn
      refine ⟨m, hn, fun h'' sb => ?_⟩
      obtain ⟨g0, g1, g2, g3, g4, g5⟩ := I3.fpOk (Nat.le_refl _) free
      exact ⟨.ref D, H5, I7.turned (t' := s6.toks) (fun b o hb e => (sb.2 b hb).trans e) g0 g1 g3 g4 g5, rfl, done⟩
    · refine thnF (T.item (X.blk s3 H3 scope ce fp) rfl rfl rfl hc i [] s5 _ H5 (fun _ _ => False) I5 (stat I5 n5) st5 go) ?_
      rintro r s6 ⟨u, rfl, go6⟩
      refine thnF go6 ?_
      rintro _ s7 ⟨x, H7, I7, r7, y7, st7, n7⟩
      refine thnF (bg.run _ s7 _ H7 x u _ (I7.pinned (stat I7 n7) (T.obj _ _ st7)) r7 (step x H7 y7)) ?_
      rintro _ s8 ⟨σ8, H8, I8, hw8, q8⟩
      refine thnF (bt.run _ s8 σ8 H8 _ I8 q8) ?_
      rintro b s9 ⟨H9, I9, q9⟩
      have next : ∀ {s' : Shared} {H' : Hp}, L2.Inv (X.blk s3 H3 scope ce fp) ([] ++ pinsAt fp s7.heap) σ8 H' s' → Nx H' → ∃ m, m < n ∧ At m s' := by
        intro s' H' J' nx
        obtain ⟨m', lt, w'⟩ := hNx H' nx
        have pinned : ∀ b ∈ fp, ∀ o, s7.heap.get? b = some o → s'.heap.get? b = some o ∧ H' b = none := by
          intro b hb o e
          have z := J'.pin (b, o) (List.mem_append_right _ (List.mem_append_right _ (mem_pinsAt hb e)))
          exact ⟨z.1, z.2.1⟩
        refine ⟨m', lt, i + 1, H', (J'.unpinned (pins := [])).weak ?_ ?_, T.keep _ _ _ st7 fun b hb o e => (pinned b hb o e).1, ?_, w'⟩
        · rw [← hw8, wipe_length]
        · intro j v e
          rw [← hw8] at e
          exact (wipe_some e).1
        · intro b hb
          obtain ⟨o, e, _⟩ := T.obj _ _ st7 b hb
          exact (pinned b hb o e).2
      cases b with
      | false => exact next I9 q9
      | true =>
        refine thnF (bk.run _ s9 σ8 H9 _ I9 q9) ?_
        rintro z1 s10 ⟨yk, H10, I10, r10, q10⟩
        refine thnF (bv.run _ s10 σ8 H10 _ I10 q10) ?_
        rintro z2 s11 ⟨yv, H11, I11, r11, kvs, k, t, rfl, ht11, hD11, lt11, nx⟩
        obtain rfl : z1 = Value.ref t := r10
        exact putT_ok (X := X.blk s3 H3 scope ce fp) hu I11 hD11 ht11 lt11 r11 fun s12 I12 => next I12 nx
  exact codeAny_compStart_dict loop (T.self X.A 0 _ _ _ st4 loop)
end
theorem dcT_list {K : PySem.W.Frag} {a : Addr} {xs : List V} {g : TG} {tt : TT} {tk tv : TE} {vs : List Nat} {σ : L2.St} {H0 : Hp} {D : Addr} {Qd : Hp → Prop} (Pv : Nat → Hp → Prop) (h0 : Pv 0 H0) (hl : ∀ i H, Pv i H → SqL K H a xs)
    (hs : ∀ i x H, xs[i]? = some x → Pv i H → g x (wipe σ vs) H fun σ2 H2 => wipe σ2 vs = wipe σ vs ∧ tt σ2 H2 fun b H3 =>
      if b = true then tk σ2 H3 fun y H4 => tv σ2 H4 fun z H5 => ∃ kvs k t, y = .ref t ∧ H5 t = some (.tup (k.map kV)) ∧ H5 D = some (.dT kvs) ∧ kvs.length < sizeLine ∧ Pv (i + 1) (upd H5 D (.dT (putK kvs k z))) else Pv (i + 1) H3) (hd : ∀ H, Pv xs.length H → Qd H) :
    DcW (Itl K a) g tt tk tv vs σ D Qd H0 := by
  refine ⟨fun i m H => m + i = xs.length ∧ Pv i H, ⟨xs.length, rfl, h0⟩, fun i m H ⟨hm, p⟩ => ?_⟩
  have q := hl i H p
  cases m with
  | zero =>
    have e : i = xs.length := by omega
    subst e
    exact .inl ⟨⟨xs, q, Nat.le_refl _⟩, hd H p⟩
  | succ m =>
    have h1 : i < xs.length := by omega
    have hx := List.getElem?_eq_getElem h1
    refine .inr ⟨⟨xs, _, q, hx⟩, Pv (i + 1), fun H' p' => ⟨m, Nat.lt_succ_self m, by omega, p'⟩, ?_⟩
    rintro v H' ⟨rfl, f1⟩
    exact hs i v _ (f1 xs q) p
end Sb

/-! x == text, x of any kind but a dict. -/
namespace Sb
open PySem PySem.Spec PyProof.Rows L2
def isStrD (d : PyData) (z : Str) : Bool := match d with
  | .str y => y == z
  | _ => false
def isDctD : PyData → Bool
  | .dict _ => true
  | _ => false
def rEqS : R2 := fun x y H Q => ∃ p d z, LD p H x d ∧ isDctD d = false ∧ y = .str z ∧ Q (.bl (isStrD d z)) H
theorem op_eqS {X : Cx} (hu : X.A.units + 64 < cLine) : OpR X (compareOp .Eq) rEqS := by
  intro pins s σ H x y v u Q I rx ry h
  obtain ⟨p, d, z, hx, hd, rfl, q⟩ := h
  obtain ⟨tz, rfl⟩ := ry
  have fin : ∀ {b : Bool}, SeqAt.RcAt X.A s v (.str z tz) b → Q (.bl b) H → wpAny (model X.prog X.w) X.A (compareOp .Eq v (.str z tz)) (EP X pins σ Q) X.xe s := fun r g => r X.prog X.w X.xe _ ⟨.bl _, H, I, rfl, g⟩
  cases hx with
  | non =>
    cases rx
    exact fin (SeqAt.RcAt.none_str _ _) q
  | bl b =>
    cases rx
    exact fin (SeqAt.RcAt.bool_str _ _ _) q
  | int i =>
    obtain ⟨t, rfl⟩ := rx
    exact fin (SeqAt.RcAt.int_str _ _ _ _) q
  | str y =>
    obtain ⟨t, rfl⟩ := rx
    exact fin (SeqAt.RcAt.str_str _ _ _ _) q
  | tup n e r =>
    cases rx
    obtain ⟨its, rv, pl, _⟩ := I.tuple (SqT.of e)
    exact fin (SeqAt.RcAt.tuple_str _ _ pl (by omega)) q
  | lst n m e r =>
    cases rx
    obtain ⟨its, rv, pl, _⟩ := I.list (SqL.of e)
    exact fin (SeqAt.RcAt.list_str _ _ pl.isList (by omega)) q
  | dic n e => cases hd
  | dct n e => cases hd
/-- [e, ..], where it lies -/
def tLstB (t : TA) : TE := fun σ H Q => t σ H fun xs H1 => xs.length ≤ sizeLine ∧ ∀ p, H1 p = none → p ≠ sysModules → Q (.ref p) (upd H1 p (.lst xs))
theorem pe_lstB {X : Cx} {es : List Expr} {pos : Pos} {t : TA} (h : PA X es t) : PE X (.List es pos) (tLstB t) := by
  constructor
  intro pins s σ H Q I hq
  refine wpAny_List_spliced (thn (h.run pos pins s σ H _ I hq) ?_)
  rintro us s1 ⟨xs, H1, I1, r, z, q⟩
  refine ⟨r.length ▸ z, .ref s1.heap.objs.size, _, I1.laid (t' := s1.toks) (o := .lst xs) (fun b u e => Heap.get?_push_of_some _ e) (Nat.le_refl _) ⟨z, us, 0, r, Heap.get?_push_size _ rfl⟩, rfl, q _ (I1.hok.fresh (Nat.le_refl _)) (Nat.ne_of_gt I1.big)⟩
end Sb

/-! len(set(t)), t a tuple of ints and texts; t.index(n), t a tuple of ints. -/
namespace Sb
open PySem PySem.Spec PyProof.Rows L2
instance memKey (k : Key) (l : List Key) : Decidable (k ∈ l) := @List.instDecidableMemOfLawfulBEq Key instBEqOfDecidableEq inferInstance k l
theorem setOfK_congr {prog : Program} {w : World} {h : Heap} {a : Addr} {S S' : Key → Bool} {n n' : Nat} (hS : h.SetOf (mixKind prog w) a S n) (e : ∀ k, S k = S' k) (en : n = n') : h.SetOf (mixKind prog w) a S' n' := by
  have : S = S' := funext e
  subst this
  subst en
  exact hS
def uniqK (l : List Key) : List Key := l.foldl (fun acc k => if k ∈ acc then acc else acc ++ [k]) []
theorem uniqK_snoc (l : List Key) (x : Key) : uniqK (l ++ [x]) = if x ∈ uniqK l then uniqK l else uniqK l ++ [x] := by
  unfold uniqK
  rw [List.foldl_append]
  rfl
theorem uniqK_len : ∀ (n : Nat) (l : List Key), l.length = n → (uniqK l).length ≤ l.length ∧ (∀ k, k ∈ uniqK l ↔ k ∈ l) ∧ (l.Nodup → uniqK l = l) ∧ ((uniqK l).length = l.length → l.Nodup)
  | 0, l, h => by
    obtain rfl := List.eq_nil_of_length_eq_zero h
    exact ⟨Nat.le_refl _, fun k => Iff.rfl, fun _ => rfl, fun _ => List.nodup_nil⟩
  | n + 1, l, h => by
    have hl : l ≠ [] := by intro e; subst e; cases h
    obtain ⟨r, x, rfl⟩ : ∃ r x, l = r ++ [x] := ⟨l.dropLast, l.getLast hl, (List.dropLast_concat_getLast hl).symm⟩
    have hr : r.length = n := by rw [List.length_append] at h; simpa using h
    obtain ⟨a, b, c, d⟩ := uniqK_len n r hr
    rw [uniqK_snoc]
    by_cases hx : x ∈ uniqK r
    · rw [if_pos hx]
      have hx' := (b x).mp hx
      refine ⟨by rw [List.length_append]; exact Nat.le_trans a (Nat.le_add_right _ _), fun k => ?_, fun nd => ?_, fun e => ?_⟩
      · rw [b k, List.mem_append]
        constructor
        · exact .inl
        · rintro (z | z)
          · exact z
          · rw [List.mem_singleton] at z
            exact z ▸ hx'
      · exact absurd hx' (fun z => (List.nodup_append.mp nd).2.2 x z x List.mem_cons_self rfl)
      · rw [List.length_append, List.length_singleton] at e
        omega
    · rw [if_neg hx]
      have hx' : x ∉ r := fun z => hx ((b x).mpr z)
      refine ⟨by rw [List.length_append, List.length_append]; exact Nat.add_le_add_right a _, fun k => ?_, fun nd => ?_, fun e => ?_⟩
      · rw [List.mem_append, List.mem_append, b k]
      · rw [c (List.nodup_append.mp nd).1]
      · rw [List.length_append, List.length_append] at e
        have nd := d (Nat.add_right_cancel e)
        refine List.nodup_append.mpr ⟨nd, by simp, fun a ha b hb => ?_⟩
        rw [List.mem_singleton] at hb
        subst hb
        rintro rfl
        exact hx' ha
section
variable {prog : Program} {w : World} {A : Around} {R : Result → Shared → Prop} {I : Addr} {fp wr : List Addr} {G : Array GenState → Array GenState → Prop} {n : Nat} {P : Nat → Value → Prop} {St : Nat → Shared → Prop}
theorem loopMix (W : WalksS prog w A.in1 I fp wr G n P St) (S : Addr) (hSf : S ∉ fp) (xs : List Key) (hsz : xs.length = n) (hn1 : n ≤ 50)
    (hval : ∀ i v, P i v → ∃ k, xs[i]? = some k ∧ RelV (kV k) v) :
    ∀ (k i : Nat) (s : Shared), n - i = k → i ≤ n → St i s →
      s.heap.SetOf (mixKind prog w) S (fun k' => decide (k' ∈ uniqK (xs.take i))) (uniqK (xs.take i)).length →
      (∀ s', Moved (S :: wr) G s s' → s'.heap.SetOf (mixKind prog w) S (fun k' => decide (k' ∈ uniqK (xs.take n))) (uniqK (xs.take n)).length → R (.ok (.ret .none)) s') →
      codeAny (model prog w) A (.builtin "set.update.loop" ⟨[.ref S, .ref I], []⟩) R s := by
  have hSw : S ∉ wr := fun h => hSf (W.sub _ h)
  have hsub : ∀ b ∈ wr, b ∈ S :: wr := fun b hb => List.mem_cons_of_mem _ hb
  intro k
  induction k with
  | zero =>
    intro i s hk hi hst hS hR
    have hin : i = n := by omega
    subst hin
    refine codeAny_builtin PyProof.Rows.F.entry_set_update_loop ?_
    rw [Around.under_plainId PyProof.Rows.F.plain_set_update_loop _]
    show wpAny _ A.in1 (pyNext (.ref I) >>= _) _ _ s
    refine wpAny_bind (W.done s _ _ hst fun s' hm => ?_)
    show wpAny _ A.in1 (ret Value.none) _ _ s'
    exact wpAny_pure (hR s' (hm.mono hsub) (by
      obtain ⟨o, es, ep, t, ho, rest⟩ := hS
      exact ⟨o, es, ep, t, hm.heap S _ hSw ho, rest⟩))
  | succ k ih =>
    intro i s hk hi hst hS hR
    have hlt : i < n := by omega
    refine codeAny_builtin PyProof.Rows.F.entry_set_update_loop ?_
    rw [Around.under_plainId PyProof.Rows.F.plain_set_update_loop _]
    show wpAny _ A.in1 (pyNext (.ref I) >>= _) _ _ s
    refine wpAny_bind (W.item i s _ _ hlt hst fun v s' hP hst' hm => ?_)
    obtain ⟨x, hx, rv⟩ := hval i v hP
    have hS' : s'.heap.SetOf (mixKind prog w) S (fun k' => decide (k' ∈ uniqK (xs.take i))) (uniqK (xs.take i)).length := by
      obtain ⟨o, es, ep, tb, ho, rest⟩ := hS
      exact ⟨o, es, ep, tb, hm.heap S _ hSw ho, rest⟩
    show wpAny _ A.in1 (holding [v] (setAdd S v) >>= _) _ _ s'
    refine wpAny_bind (wpAny_holding ?_)
    unfold setAdd
    refine wpAny_holding ?_
    refine wpAny_bind ((mixKind prog w).pyHash (k := x) (kV_is rv) ?_)
    have lu : (uniqK (xs.take i)).length ≤ i := Nat.le_trans (uniqK_len _ _ rfl).1 (by rw [List.length_take]; exact Nat.min_le_left _ _)
    refine wpAny_setAddHashed_of (knd := mixKind prog w) (s := { s' with toks := s'.toks + 1 }) (kV_is rv) (key_scan rv) hS' (by unfold scanBound; omega) fun h' hsb hS2 => ?_
    have hSi : h'.SetOf (mixKind prog w) S (fun k' => decide (k' ∈ uniqK (xs.take (i + 1)))) (uniqK (xs.take (i + 1))).length := by
      have e : xs.take (i + 1) = xs.take i ++ [x] := by rw [List.take_add_one, hx]; rfl
      rw [e, uniqK_snoc]
      refine setOfK_congr hS2 (fun k' => ?_) ?_
      · by_cases h : x ∈ uniqK (xs.take i)
        · rw [if_pos h]
          by_cases e2 : k' = x
          · subst e2; simp [h]
          · simp [e2]
        · rw [if_neg h]
          simp [List.mem_append]
      · by_cases h : x ∈ uniqK (xs.take i)
        · rw [if_pos h, decide_eq_true h]; rfl
        · rw [if_neg h, decide_eq_false h, List.length_append]; rfl
    refine wpAny_pure ⟨plainId_quiet PyProof.Rows.F.plain_set_update_loop _, ih (i + 1) _ (by omega) hlt (W.frame _ s' _ _ hst' (Nat.le_succ _) fun b hb o e => ?_) hSi fun s'' hm'' hS'' => ?_⟩
    · rw [hsb.2 b (fun h : b = S => hSf (by rw [← h]; exact hb))]; exact e
    · refine hR s'' (Moved.trans W.gtrans ((hm.mono hsub).then_heap (Nat.le_succ _) fun b o hb e => ?_) hm'') hS''
      rw [hsb.2 b (fun h : b = S => hb (by rw [h]; exact List.mem_cons_self))]; exact e
end
section
variable {prog : Program} {w : World} {A : Around} {E : Value → Shared → Prop} {s : Shared}
theorem call_set_tupleM {l : Addr} {items : Array Value} {xs : List Key} {Q : Value → Shared → Prop}
    (hh : A.handled = none) (hl : s.heap.IsTuple l items) (hi : Vals (xs.map kV) items.toList) (hn1 : xs.length ≤ 50)
    (h : ∀ (h' : Heap) (tk : Nat), h'.SetOf (mixKind prog w) s.heap.objs.size (fun k' => decide (k' ∈ uniqK (xs.take items.size))) (uniqK (xs.take items.size)).length →
      (∀ b o, b < s.heap.objs.size → s.heap.get? b = some o → h'.get? b = some o) → Q (.ref s.heap.objs.size) { s with heap := h', toks := tk }) :
    wpAny (model prog w) A (call (.type "set") [.ref l]) Q E s := by
  obtain ⟨c, tl, hmro⟩ := PySem.F.called_set.mro
  have hmade := PySem.F.called_set.made
  have hsub := PySem.F.called_set.sub
  refine wpAny_call (codeAny_of_tree ?_)
  show wpAny _ _ (callAny (.type "set") _) _ _ _
  refine wpAny_pure ⟨Code.quiet_builtin _ (by decide +kernel), codeAny_builtin PySem.F.entry_type_call ?_⟩
  rw [Around.under_plain (weight_type_call_type "set" [.ref l] []) rfl]
  have h1 := PySem.F.called_set.notType
  have h2 := PySem.F.called_set.canCreate
  have hct := PySem.F.typeCall_set_1 (.ref l)
  repeat (any_goals (first | assumption | wp_step))
  refine codeAny_mono (code_set_new_1 (.ref l) (E := E) (Q₁ := fun obj s₁ => ∃ led : Bool, obj = .ref s.heap.objs.size ∧ s₁ = { s with heap := s.heap.push { cls := .type "set", dict := none, data := .set #[] 0 (.fresh 0 0 led) } }) fun led => ⟨led, rfl, rfl⟩) fun r s₁ hr => ?_
  cases r with
  | error e => exact hr
  | ok fl =>
    cases fl with
    | ret obj =>
      obtain ⟨led, rfl, rfl⟩ := hr
      have hS : (s.heap.push { cls := .type "set", dict := none, data := .set #[] 0 (.fresh 0 0 led) }).get? s.heap.objs.size = some { cls := .type "set", dict := none, data := .set #[] 0 (.fresh 0 0 led) } := Heap.get?_push_size _ rfl
      have hT : Shared.TypeIs { s with heap := s.heap.push { cls := .type "set", dict := none, data := .set #[] 0 (.fresh 0 0 led) } } (.ref s.heap.objs.size) "set" := ⟨_, hS, rfl⟩
      have hli := PySem.F.called_set.init.lookup
      have hbi := PySem.F.called_set.init.bind (.ref s.heap.objs.size)
      repeat (any_goals (first | assumption | wp_step))
      refine codeAny_mono (codeAny_call_builtin (R := wants (fun r s₂ => r = .none ∧ ∃ h' tk, s₂ = { s with heap := h', toks := tk } ∧
          h'.SetOf (mixKind prog w) s.heap.objs.size (fun k' => decide (k' ∈ uniqK (xs.take items.size))) (uniqK (xs.take items.size)).length ∧
          (∀ b o, b < s.heap.objs.size → s.heap.get? b = some o → h'.get? b = some o)) E) PySem.F.called_set.init.plain PySem.F.entry_set_init (check_set_init_1 hT ?_)) fun r₂ s₂ hr₂ => ?_
      · obtain ⟨ol, hol, hcl, nl, hdl⟩ := hl
        obtain ⟨ocls, odict, odata, oslots⟩ := ol
        simp only at hcl hdl
        subst hcl; subst hdl
        have hol' : (s.heap.push { cls := .type "set", dict := none, data := .set #[] 0 (.fresh 0 0 led) }).get? l = some { cls := .type "tuple", dict := odict, data := .seq items nl, slots := oslots } := Heap.get?_push_of_some _ hol
        have hsls := PySem.F.sub_tuple_set
        have hslf := PySem.F.sub_tuple_frozenset
        have hne : (Value.type "tuple" == Value.type "dict") = false := by decide
        have hl1 : (s.heap.push { cls := .type "set", dict := none, data := .set #[] 0 (.fresh 0 0 led) }).IsTuple l items := ⟨_, hol', rfl, nl, rfl⟩
        unfold Builtin.«set.__init__» noKeywords Builtin.Frozenset.updateFrom
        generalize hPI : pyIter = PI
        wp_walk
        subst hPI
        refine wpAny_pyIter_tuple hl1 ?_
        refine wpAny_bind (wpAny_runValue ?_)
        have hlS : l < s.heap.objs.size := Heap.lt_size hol
        have hh3 : A.in1.in1.in1.handled = none := by simp [hh]
        have hneI : l ≠ (s.heap.push { cls := .type "set", dict := none, data := .set #[] 0 (.fresh 0 0 led) }).objs.size := by
          rw [Heap.size_push]; exact Nat.ne_of_lt (Nat.lt_succ_of_lt hlS)
        have hSf : s.heap.objs.size ∉ [(s.heap.push { cls := .type "set", dict := none, data := .set #[] 0 (.fresh 0 0 led) }).objs.size, l] := by
          rw [Heap.size_push]; simp only [List.mem_cons, List.mem_singleton, List.not_mem_nil, or_false, not_or]
          exact ⟨Nat.ne_of_lt (Nat.lt_succ_self _), Nat.ne_of_gt hlS⟩
        have hsz : xs.length = items.size := by rw [← Array.length_toList, ← hi.length, List.length_map]
        have hval : ∀ (i : Nat) (v : Value), items[i]? = some v → ∃ k, xs[i]? = some k ∧ RelV (kV k) v := fun i v hv => by
          have hlt : i < items.size := (Array.getElem?_eq_some_iff.mp hv).1
          have hlx : i < xs.length := by omega
          refine ⟨xs[i], List.getElem?_eq_getElem hlx, ?_⟩
          obtain ⟨w', hw, rw'⟩ := hi.get (i := i) (x := kV xs[i]) (by rw [List.getElem?_map, List.getElem?_eq_getElem hlx]; rfl)
          rw [Array.getElem?_toList] at hw
          rw [hv] at hw
          cases hw
          exact rw'
        refine loopMix ((Walks.tuple hh3 _ l hneI items).toS) s.heap.objs.size
          hSf xs hsz (by rw [← hsz]; exact hn1) hval (items.size - 0) 0 _ (by omega) (Nat.zero_le _)
          ⟨⟨_, Heap.get?_push_size _ rfl, rfl, rfl⟩, (hl1.push _)⟩ ?hS0 ?hR
        case hS0 =>
          have hget : ((s.heap.push { cls := .type "set", dict := none, data := .set #[] 0 (.fresh 0 0 led) }).push { cls := .type "tuple_iterator", data := .fields #[.ref l, .int 0 0] }).get? s.heap.objs.size
              = some { cls := .type "set", dict := none, data := .set #[] 0 (.fresh 0 0 led) } := Heap.get?_push_of_some _ hS
          exact ⟨_, #[], 0, _, hget, ⟨rfl, rfl, rfl⟩, rfl, (fun e he => by simp at he), (fun k => by simp [uniqK]), (by decide), (by rfl), rfl⟩
        case hR =>
          intro s' hm hS'
          obtain ⟨h', g', d', tk', os'⟩ := s'
          have eg : g' = s.gens := hm.gens
          have ed : d' = s.drawn := hm.drawn
          have eo : os' = s.os := hm.os
          subst eg; subst ed; subst eo
          show wpAny _ _ _ _ _ _
          refine wpAny_pure ?_
          show wpAny _ _ (ret Value.none) _ _ _
          refine wpAny_pure ⟨rfl, h', tk', rfl, hS', fun b o hb e => ?_⟩
          have hb1 : b ≠ s.heap.objs.size := Nat.ne_of_lt hb
          have hb2 : b ≠ (s.heap.push { cls := .type "set", dict := none, data := .set #[] 0 (.fresh 0 0 led) }).objs.size := by
            rw [Heap.size_push]; exact Nat.ne_of_lt (Nat.lt_succ_of_lt hb)
          exact hm.heap b o (by simp only [List.mem_cons, List.mem_singleton, List.not_mem_nil, or_false, not_or]; exact ⟨hb1, hb2⟩) (Heap.get?_push_of_some _ (Heap.get?_push_of_some _ e))
      · cases r₂ with
        | error e => exact hr₂
        | ok fl₂ =>
          cases fl₂ with
          | ret r =>
            obtain ⟨rfl, h', tk, rfl, hS', hk'⟩ := hr₂
            repeat (any_goals (first | assumption | wp_step))
            exact h _ _ hS' hk'
          | _ => exact hr₂.elim
    | _ => exact hr.elim
end
section
variable {X : Cx}
def tLenSetM (ta : TE) : TE := fun σ H Q => ta σ H fun x H1 => ∃ (l : Addr) (xs : List Key), x = .ref l ∧ H1 l = some (.tup (xs.map kV)) ∧ xs.length ≤ 50 ∧ Q (.int (uniqK xs).length) H1
theorem pe_lenSetM {a : Expr} {ta : TE} {p p2 q pos : Pos} (hc : X.calm = true) (hg : Gl X "len") (hm : X.mg "len" = none) (hg2 : Gl X "set") (hm2 : X.mg "set" = none) (ha : PE X a ta)
    (na : starEach [a] X.env = (false, eval a X.env) :: starEach [] X.env := by rfl) : PE X (.Call (.Name "len" p) [.Call (.Name "set" p2) [a] [] q] [] pos) (tLenSetM ta) := by
  refine ⟨fun pins s σ H Q I h => ?_⟩
  refine Call_ (ld_blt I hg hm boot_len ?_)
  refine PyProof.Rows.callWith_builtin1 (PyProof.Rows.args_cons ?_ rfl) rfl rfl
  refine Call_ (ld_blt I hg2 hm2 boot_set ?_)
  refine PyProof.Rows.callWith_type1 (PyProof.Rows.args_cons (thn (ha.run pins s σ H _ I h) fun v s1 ⟨x, H1, I1, r1, q1⟩ => PyProof.Rows.args_nil ?_) na) na rfl
  obtain ⟨l, xs, rfl, hq, h1, q1⟩ := q1
  cases r1
  obtain ⟨its, r, pl, hz⟩ := I1.tuple (SqT.of hq)
  refine call_set_tupleM (I1.ok.hd hc) pl (by simpa using r) h1 fun h' tk hS hk => ?_
  refine PyProof.Rows.args_nil ?_
  have hl : its.toArray.size = xs.length := by rw [List.size_toArray, ← r.length, List.length_map]
  rw [hl, List.take_length] at hS
  obtain ⟨o, es, ep, t, ho, hex, hd, _, _, _, hf, hn⟩ := hS
  have I2 : L2.Inv X pins σ H1 { s1 with heap := h', toks := tk } := I1.kept fun b o e => hk b o (Heap.lt_size e) e
  have lu := (uniqK_len _ xs rfl).1
  refine call_len_set ho hex hd hf (by rw [hn] <;> omega) ⟨.int (uniqK xs).length, H1, I2.tok _, ⟨_, by rw [hn]⟩, q1⟩
/-- t.index(n), the first place -/
def rIdxI (K : PySem.W.Frag) : V → List V → Hp → VK → Prop := fun x xs H Q => ∃ (p : Addr) (ys : List Int) (z : Int) (j : Nat), x = .ref p ∧ xs = [.int z] ∧ SqT K H p (ys.map V.int) ∧ ys[j]? = some z ∧ (∀ m, m < j → ys[m]? ≠ some z) ∧ Q (.int (j : Nat)) H
theorem flat_ints (ys : List Int) : (ys.map V.int).all flatV = true := by
  rw [List.all_map]
  exact List.all_eq_true.mpr fun _ _ => rfl
theorem mt_tup_indexI : MtR X "tuple.index" (rIdxI X.K) := by
  intro pins s σ H x xs v us Q I rx rs h
  obtain ⟨p, ys, z, j, rfl, rfl, hq, hy, hno, q⟩ := h
  cases rx
  obtain ⟨u, rfl, t, rfl⟩ := vals1 rs
  obtain ⟨its, r, pl, hz⟩ := I.tuple hq
  obtain ⟨⟨cls, dd, dt, sl⟩, ho, hc, n, hd⟩ := pl
  simp only at hc hd
  subst hc
  subst hd
  have hl : its.toArray.size = ys.length := by rw [List.size_toArray, ← r.length, List.length_map]
  have hj : j < its.toArray.size := by rw [hl]; exact (List.getElem?_eq_some_iff.mp hy).1
  have at' : ∀ (m : Nat) (hm : m < its.toArray.size), ∃ y t', ys[m]? = some y ∧ its.toArray[m] = Value.int y t' := fun m hm => by
    have hm' : m < ys.length := by rw [← hl]; exact hm
    obtain ⟨w, hw, t', hw'⟩ := r.get (i := m) (x := .int ys[m]) (by simp [hm'])
    refine ⟨ys[m], t', List.getElem?_eq_getElem hm', ?_⟩
    have e := (List.getElem?_eq_some_iff.mp hw).2
    rw [← hw', ← e]
    simp
  refine call_meets PySem.F.slot_tuple_index ⟨_, ho, rfl⟩ PySem.F.entry_tuple_index (PySem.F.args_tuple_index_2 _ _) (TI.tuple_indexAt p its.toArray n dd sl (.int z t) (eqU (.int z)) j hj ?_ ?_)
    ⟨ho, fun w hw => mem_eqAt (x := .int z) ⟨t, rfl⟩ rfl r (flat_ints ys) w (by simpa using hw), ⟨.int (j : Nat), H, I.tok _, ⟨_, rfl⟩, q⟩⟩
  · obtain ⟨y, t', h1, h2⟩ := at' j hj
    rw [hy] at h1
    cases h1
    rw [h2]
    show (z == z) = true
    exact beq_self_eq_true z
  · intro m hm hmj
    obtain ⟨y, t', h1, h2⟩ := at' m hm
    rw [h2]
    show (y == z) = false
    have : y ≠ z := fun e => hno m hmj (by rw [h1, e])
    exact beq_eq_false_iff_ne.mpr this
end
end Sb

/-! t * k for tuples of data, the empty one too. -/
namespace Sb
open PySem PySem.Spec PyProof.Rows L2
theorem tuple_mul0 (l : Addr) (n : Nat) (dd : Option Addr) (sl : Array (Option Value)) (x : Int) (u : Tok) (hx : -(2 ^ 63) ≤ x ∧ x < 2 ^ 63) :
    Meets (Builtin.«tuple.__mul__» ⟨[.ref l, .int x u], []⟩) (fun _ R s => s.heap.get? l = some { cls := .type "tuple", dict := dd, data := .seq #[] n, slots := sl } ∧ R (.ok (.ret (Value.ref l))) s) :=
  .of_wp fun P w A R s h => by
    obtain ⟨hp, g, d, tk, os⟩ := s
    obtain ⟨hl, h⟩ := h
    have f1 := AutoSeq1.idx_int
    have c0 : (decide (x < -(2 ^ 63)) || decide (x ≥ 2 ^ 63)) = false := by
      rw [decide_eq_false (by omega), decide_eq_false (by omega)] <;> rfl
    wp_walk using wpAny_loadPart' hl
    refine wpAny_ite_false (decide_eq_false (by rw [c0]; exact Bool.false_ne_true)) ?_
    wp_walk using wpAny_loadPart' hl
    exact ⟨_, rfl, h⟩
theorem TDs.flat {H : Hp} {xs : List V} {ds : List PyData} (h : TDs H xs ds) : ∀ k, TDs H (List.replicate k xs).flatten (List.replicate k ds).flatten
  | 0 => .nil
  | k + 1 => h.app (h.flat k)
def rMulD : R2 := fun x y H Q => ∃ ds k, TD H x (.tuple ds) ∧ y = .int k ∧ 2 ≤ k ∧ k ≤ 1000 ∧ ds.length ≤ 1000 ∧ ∀ p H', Same H H' → TD H' (.ref p) (.tuple (List.replicate k.toNat ds).flatten) → Q (.ref p) H'
section
variable {X : Cx}
theorem op_mulD : OpR X (binaryOp .Mult) rMulD := by
  intro pins s σ H x y v u Q I rx ry h
  obtain ⟨ds, k, hT, rfl, h1, h2, hz, q⟩ := h
  obtain ⟨l, xs, rfl, hl, hx⟩ := hT.isTup
  have lx := hx.length
  by_cases hne : xs = []
  · subst hne
    cases hx
    cases rx
    obtain ⟨t, rfl⟩ := ry
    obtain ⟨its, r, ⟨⟨cls, dd, data, sl⟩, ho, hc, n, hd⟩, hs⟩ := I.tuple (SqT.of hl)
    cases r
    simp only at hc hd
    subst hc hd
    refine wpAny_binaryOp_repeat_ref (T := "tuple") (U := "int") (by decide) ⟨_, ho, rfl⟩ (fun s' => typeIs_int s' k t) noFill_tuple_mul PySem.F.fills_int_mul PySem.F.slot_int_rmul repeat_tuple PySem.F.slot_int_index.lookup
      (call_meets PySem.F.slot_int_rmul (typeIs_int s k t) PySem.F.entry_int_rmul (PySem.F.args_int_rmul_2 _ _) (int_rmul_tuple k t l #[] n dd sl)
        ⟨ho, rfl, ⟨_, ho, rfl⟩, call_meets PySem.F.slot_tuple_mul ⟨_, ho, rfl⟩ PySem.F.entry_tuple_mul (PySem.F.args_tuple_mul_2 _ _) (tuple_mul0 l n dd sl k t (by omega)) ⟨ho, ?_⟩⟩)
    refine ⟨.ref l, H, I, rfl, q l H (Same.refl H) ?_⟩
    have e : (List.replicate k.toNat ([] : List PyData)).flatten = [] := by simp
    rw [e]
    exact hT
  · exact op_repT pins s σ H _ _ v u Q I rx ry ⟨l, k, xs, rfl, rfl, SqT.of hl, hne, h1, h2, by omega, fun p np => q p _ (same_new np) (.tup upd_same (TDs.mono (Tups.new np) _ (hx.flat k.toNat)))⟩
end
end Sb

/-! t * 0 and t * 1, t a tuple that is not empty. -/
namespace Sb
open PySem PySem.Spec PyProof.Rows L2
theorem tuple_mul1 (l : Addr) (items : Array Value) (n : Nat) (sl : Array (Option Value)) (dd : Option Addr) (x : Int) (u : Tok) (hx : x = 1) :
    Meets (Builtin.«tuple.__mul__» ⟨[.ref l, .int x u], []⟩) (fun _ R s => s.heap.get? l = some { cls := .type "tuple", dict := dd, data := .seq items n, slots := sl } ∧ R (.ok (.ret (Value.ref l))) s) :=
  .of_wp fun P w A R s h => by
    obtain ⟨hp, g, d, tk, os⟩ := s
    obtain ⟨hl, h⟩ := h
    have f1 := AutoSeq1.idx_int
    have c1 : (items.isEmpty || x == 1) = true := by rw [show (x == 1) = true by rw [hx]; rfl, Bool.or_true]
    have c0 : (decide (x < -(2 ^ 63)) || decide (x ≥ 2 ^ 63)) = false := by subst hx; decide
    wp_walk using wpAny_loadPart' hl
    exact ⟨_, rfl, h⟩
theorem tuple_mulZ (l : Addr) (items : Array Value) (n : Nat) (sl : Array (Option Value)) (dd : Option Addr) (x : Int) (u : Tok) (hx : x = 0) (he : items.isEmpty = false) :
    Meets (Builtin.«tuple.__mul__» ⟨[.ref l, .int x u], []⟩) (fun _ R s => s.heap.get? l = some { cls := .type "tuple", dict := dd, data := .seq items n, slots := sl } ∧ R (.ok (.ret (Value.ref s.heap.objs.size))) { s with heap := s.heap.push { cls := Value.type "tuple", data := Data.seq #[] }, toks := s.toks }) :=
  .of_wp fun P w A R s h => by
    obtain ⟨hp, g, d, tk, os⟩ := s
    obtain ⟨hl, h⟩ := h
    have f1 := AutoSeq1.idx_int
    have c1 : (items.isEmpty || x == 1) = false := by rw [he, hx]; rfl
    have c2 : (decide (x ≤ 0) || items.isEmpty) = true := by rw [hx]; rfl
    have c0 : (decide (x < -(2 ^ 63)) || decide (x ≥ 2 ^ 63)) = false := by subst hx; decide
    wp_walk using wpAny_loadPart' hl
    exact ⟨_, rfl, h⟩
def rMul01 (K : PySem.W.Frag) : R2 := fun x y H Q => ∃ l xs k, x = .ref l ∧ y = .int k ∧ SqT K H l xs ∧ xs ≠ [] ∧ (k = 0 ∨ k = 1) ∧ (k = 1 → Q (.ref l) H) ∧ (k = 0 → ∀ p, H p = none → Q (.ref p) (upd H p (.tup [])))
section
variable {X : Cx}
theorem op_mul01 : OpR X (binaryOp .Mult) (rMul01 X.K) := by
  intro pins s σ H x y v u Q I rx ry h
  obtain ⟨l, xs, k, rfl, rfl, hT, hne, hk, q1, q0⟩ := h
  cases rx
  obtain ⟨t, rfl⟩ := ry
  obtain ⟨its, r, ⟨⟨cls, dd, data, sl⟩, ho, hc, n, hd⟩, hs⟩ := I.tuple hT
  simp only at hc hd
  subst hc hd
  have hi : its.toArray.isEmpty = false := by
    cases its with
    | nil => exact absurd (List.eq_nil_of_length_eq_zero r.length) hne
    | cons a b => rfl
  rcases hk with rfl | rfl
  · refine wpAny_binaryOp_repeat_ref (T := "tuple") (U := "int") (by decide) ⟨_, ho, rfl⟩ (fun s' => typeIs_int s' 0 t) noFill_tuple_mul PySem.F.fills_int_mul PySem.F.slot_int_rmul repeat_tuple PySem.F.slot_int_index.lookup
      (call_meets PySem.F.slot_int_rmul (typeIs_int s 0 t) PySem.F.entry_int_rmul (PySem.F.args_int_rmul_2 _ _) (int_rmul_tuple 0 t l its.toArray n dd sl)
        ⟨ho, rfl, ⟨_, ho, rfl⟩, call_meets PySem.F.slot_tuple_mul ⟨_, ho, rfl⟩ PySem.F.entry_tuple_mul (PySem.F.args_tuple_mul_2 _ _) (tuple_mulZ l its.toArray n sl dd 0 t rfl hi) ⟨ho, ?_⟩⟩)
    exact ⟨.ref s.heap.objs.size, _, I.laid (t' := s.toks) (o := .tup []) (fun b o e => Heap.get?_push_of_some _ e) (Nat.le_refl _) ⟨by show 0 ≤ sizeLine; decide, [], .nil, _, Heap.get?_push_size _ rfl, rfl, _, rfl⟩, rfl, q0 rfl _ (I.hok.fresh (Nat.le_refl _))⟩
  · refine wpAny_binaryOp_repeat_ref (T := "tuple") (U := "int") (by decide) ⟨_, ho, rfl⟩ (fun s' => typeIs_int s' 1 t) noFill_tuple_mul PySem.F.fills_int_mul PySem.F.slot_int_rmul repeat_tuple PySem.F.slot_int_index.lookup
      (call_meets PySem.F.slot_int_rmul (typeIs_int s 1 t) PySem.F.entry_int_rmul (PySem.F.args_int_rmul_2 _ _) (int_rmul_tuple 1 t l its.toArray n dd sl)
        ⟨ho, rfl, ⟨_, ho, rfl⟩, call_meets PySem.F.slot_tuple_mul ⟨_, ho, rfl⟩ PySem.F.entry_tuple_mul (PySem.F.args_tuple_mul_2 _ _) (tuple_mul1 l its.toArray n sl dd 1 t rfl) ⟨ho, ?_⟩⟩)
    exact ⟨.ref l, H, I, rfl, q1 rfl⟩
end
end Sb

/-! Tuples whose object is known to have no dict: their methods may be called. -/
namespace Sb
open PySem PySem.Spec PyProof.Rows L2
section
variable {X : Cx}
/-- (e, ..), its object known -/
def tTupF (t : TA) : TE := fun σ H Q => t σ H fun xs H1 => xs.length ≤ sizeLine ∧ ∀ p ob, H1 p = none → ob.dict = none → Q (.ref p) (upd H1 p (.frz ob (.tup xs)))
theorem pe_tupF {es : List Expr} {x1} {pos : Pos} {t : TA} (h : PA X es t) : PE X (.Tuple es x1 pos) (tTupF t) := by
  refine ⟨fun pins s σ H Q I hq => ?_⟩
  refine wpAny_Tuple_spliced (thn (h.run pos pins s σ H _ I hq) fun us s1 ⟨xs, H1, I1, r, z, q⟩ => ⟨by rw [← r.length]; exact z, ?_⟩)
  have hf : H1 s1.heap.objs.size = none := I1.hok.fresh (Nat.le_refl _)
  refine ⟨.ref s1.heap.objs.size, upd H1 s1.heap.objs.size (.frz { cls := .type "tuple", data := .seq us.toArray } (.tup xs)), I1.laid (t' := s1.toks) (fun b u e => Heap.get?_push_of_some _ e) (Nat.le_refl _) ?_, rfl, q _ _ hf rfl⟩
  exact ⟨Heap.get?_push_size _ rfl, z, us, r, ⟨_, Heap.get?_push_size _ rfl, rfl, _, rfl⟩⟩
/-- tuple(xs) -/
def rTupF (K : PySem.W.Frag) : List V → Hp → VK → Prop := fun xs H Q => ∃ p ys, xs = [.ref p] ∧ SqL K H p ys ∧ ∀ l ob, H l = none → ob.dict = none → Q (.ref l) (upd H l (.frz ob (.tup ys)))
theorem call_tupleF : CallR X (.type "tuple") (rTupF X.K) := by
  intro pins s σ H xs us Q I r h
  obtain ⟨p, ys, rfl, hq, q⟩ := h
  obtain ⟨u, rfl, rx⟩ := vals1 r
  cases rx
  obtain ⟨its, r', pl, hz⟩ := I.list hq
  have hlen := r'.length
  refine call_tuple_list pl.isList (fun h' kp => ?_) (by simp only [List.size_toArray] <;> omega)
  have I1 : L2.Inv X pins σ H { s with heap := h' } := I.kept (t' := s.toks) kp
  have I2 : L2.Inv X pins σ (upd H h'.objs.size (.frz { cls := .type "tuple", data := .seq its.toArray } (.tup ys))) { s with heap := h'.push { cls := .type "tuple", data := .seq its.toArray } } :=
    I1.laid (t' := s.toks) (fun b o e => Heap.get?_push_of_some _ e) (Nat.le_refl _) (show ObjOk X.prog X.w _ _ _ (.frz _ (.tup ys)) from ⟨Heap.get?_push_size _ rfl, hz, its, r', IsTup.new _ _⟩)
  exact ⟨.ref h'.objs.size, _, I2, rfl, q _ _ (I1.hok.fresh (Nat.le_refl _)) rfl⟩
/-- t.m(e, ..) -/
def tBMT (r : V → List V → Hp → VK → Prop) (to : TE) (t : TA) : TE := fun σ H Q => to σ H fun x H1 => (∃ p ob xs, x = V.ref p ∧ H1 p = some (.frz ob (.tup xs)) ∧ ob.dict = none) ∧ t σ H1 fun xs H2 => r x xs H2 Q
variable {o e : Expr} {es : List Expr} {to : TE} {t : TA} {name : Str} {apos cpos : Pos} {id : String} {r : V → List V → Hp → VK → Prop}
theorem pe_bmT (pa : PlainAttrs "tuple") (slot : Slot "tuple" name id) (hty : typeOf (.builtin id) = pure (.type "method_descriptor")) (hm : MtR X id r) (ho : PE X o to) (ha : PA X (e :: es) t)
    (hbase : attributeBase o name X.env (eval o X.env) = eval o X.env := by rfl)
    (hfew : ((backTo cpos (starEach (e :: es) X.env)).all (fun x => !x.1) && (backToKw cpos (keywordEach [] X.env)).all (fun x => x.1.isSome)
      && decide ((e :: es).length + ([] : List Keyword).length + (if ([] : List Keyword).isEmpty then 0 else 1) < 30)) = true := by rfl)
    (hline : (apos.endLine == cpos.line) = true := by rfl) (hs : starEach (e :: es) X.env = (false, eval e X.env) :: starEach es X.env := by rfl) (hplain : (backTo cpos (starEach es X.env)).any (·.1) = false := by rfl) :
    PE X (.Call (.Attribute o name apos) (e :: es) [] cpos) (tBMT r to t) := by
  refine ⟨fun pins s σ H Q I h => ?_⟩
  refine wpAny_Call_method_late hbase hfew hline rfl (thn (ho.run pins s σ H _ I h) fun v s1 ⟨x, H1, I1, r1, ⟨p, ob, xs, ex, hp, hd⟩, q1⟩ => ?_)
  subst ex
  obtain rfl : v = Value.ref p := r1
  obtain ⟨g, z, its, rv, o', ho', hc, n, hdat⟩ := (show ObjOk X.prog X.w H1 s1.heap p (.frz ob (.tup xs)) from I1.hok p _ hp)
  have eo : o' = ob := by
    rw [g] at ho'
    exact (Option.some.inj ho').symm
  subst eo
  refine ⟨"tuple", id, pa, slot, hty, ⟨o', g, hc⟩, fun a e2 => ?_, ?_⟩
  · cases e2
    exact ⟨o', g, hd⟩
  have hA := ha.run cpos pins s1 σ H1 _ I1 q1
  rw [hs] at hA ⊢
  refine Calls.callWith_builtin (by show (false || (backTo cpos (starEach es X.env)).any (·.1)) = false; rw [hplain] <;> rfl) (Calls.evalArgs_plain ?_)
  exact thn hA fun us s2 ⟨vs, H2, I2, r2, q2⟩ => hm pins s2 σ H2 (.ref p) vs (.ref p) us Q I2 rfl r2 q2
end
/-- held values, in order, at a -/
def HT (H : Hp) (a : Addr) (ns : List Int) : Prop := ∃ ob, H a = some (.frz ob (.tup (ns.map V.int))) ∧ ob.dict = none
theorem HT.sq {K : PySem.W.Frag} {H : Hp} {a : Addr} {ns : List Int} (h : HT H a ns) : SqT K H a (ns.map V.int) := by
  obtain ⟨ob, e, _⟩ := h
  exact .inl (.inr ⟨ob, e⟩)
theorem HT.mono {H H' : Hp} {a : Addr} {ns : List Int} (h : HT H a ns) (s : Same H H') : HT H' a ns := by
  obtain ⟨ob, e, d⟩ := h
  exact ⟨ob, s _ _ e, d⟩
theorem HT.ty {H : Hp} {a : Addr} {ns : List Int} (h : HT H a ns) : ∃ p ob xs, V.ref a = V.ref p ∧ H p = some (.frz ob (.tup xs)) ∧ ob.dict = none := by
  obtain ⟨ob, e, d⟩ := h
  exact ⟨a, ob, _, rfl, e, d⟩
theorem inV_ints (v : Int) : ∀ ns : List Int, inV (.int v) (ns.map V.int) = decide (v ∈ ns)
  | [] => rfl
  | n :: r => by
    have ih := inV_ints v r
    unfold inV at ih ⊢
    rw [List.map_cons, List.any_cons, ih]
    by_cases h : n = v
    · subst h
      simp [eqV]
    · have h' : ¬ v = n := fun e => h e.symm
      simp [eqV, h, h', List.mem_cons]
end Sb

/-! Numbered streams: the mathematics. -/
namespace Sb
open PySem PySem.Spec PyProof.Rows L2
def grow (names : List Int) (v : Int) : List Int := if v ∈ names then names else names ++ [v]
def numGo : List Int → List (Int × Int) → List (Int × Int)
  | _, [] => []
  | names, m :: r => (m.1, ((grow names m.2).idxOf m.2 : Nat)) :: numGo (grow names m.2) r
def numb (ms : List (Int × Int)) : List (Int × Int) := numGo [] ms
def seen (names : List Int) (ms : List (Int × Int)) : List Int := ms.foldl (fun n m => grow n m.2) names
theorem numGo_len : ∀ (ms : List (Int × Int)) (names : List Int), (numGo names ms).length = ms.length
  | [], _ => rfl
  | m :: r, names => by simp only [numGo, List.length_cons, numGo_len r]
theorem numb_len (ms : List (Int × Int)) : (numb ms).length = ms.length := numGo_len ms []
theorem numGo_snoc : ∀ (ms : List (Int × Int)) (names : List Int) (m : Int × Int), numGo names (ms ++ [m]) = numGo names ms ++ [(m.1, (((grow (seen names ms) m.2).idxOf m.2 : Nat) : Int))]
  | [], _, _ => rfl
  | x :: r, names, m => by
    simp only [List.cons_append, numGo, numGo_snoc r (grow names x.2) m]
    rfl
theorem numGo_take : ∀ (ms : List (Int × Int)) (names : List Int) (n : Nat), numGo names (ms.take n) = (numGo names ms).take n
  | [], _, n => by simp [numGo]
  | x :: r, names, 0 => by simp [numGo]
  | x :: r, names, n + 1 => by simp only [List.take_succ_cons, numGo, numGo_take r]
theorem numb_take (ms : List (Int × Int)) (n : Nat) : numb (ms.take n) = (numb ms).take n := numGo_take ms [] n
theorem seen_snoc (ms : List (Int × Int)) (names : List Int) (m : Int × Int) : seen names (ms ++ [m]) = grow (seen names ms) m.2 := by
  unfold seen
  rw [List.foldl_append]
  rfl
theorem grow_len (names : List Int) (v : Int) : (grow names v).length ≤ names.length + 1 := by
  unfold grow
  split
  · omega
  · simp
theorem seen_len : ∀ (ms : List (Int × Int)) (names : List Int), (seen names ms).length ≤ names.length + ms.length
  | [], names => Nat.le_refl _
  | m :: r, names => by
    have h := seen_len r (grow names m.2)
    have g := grow_len names m.2
    show (seen (grow names m.2) r).length ≤ _
    rw [List.length_cons]
    omega
theorem mem_grow (names : List Int) (v : Int) : v ∈ grow names v := by
  unfold grow
  split
  · assumption
  · simp
theorem idx_append {names : List Int} {v : Int} (h : v ∈ names) (t : List Int) : (names ++ t).idxOf v = names.idxOf v := by
  induction names with
  | nil => cases h
  | cons x r ih =>
    simp only [List.cons_append, List.idxOf_cons]
    by_cases e : x == v
    · simp [e]
    · rcases List.mem_cons.mp h with rfl | h
      · simp at e
      · simp [e, ih h]
theorem idx_new {names : List Int} {v : Int} (h : v ∉ names) : (names ++ [v]).idxOf v = names.length := by
  induction names with
  | nil => simp
  | cons x r ih =>
    have hx : ¬ x = v := fun e => h (by rw [e]; exact List.mem_cons_self)
    have hr : v ∉ r := fun e => h (List.mem_cons_of_mem _ e)
    simp only [List.cons_append, List.idxOf_cons, List.length_cons]
    rw [ih hr]
    have e1 : (x == v) = false := by simpa using hx
    rw [e1]
    rfl
theorem idx_lt {names : List Int} {v : Int} (h : v ∈ names) : names.idxOf v < names.length := List.idxOf_lt_length_iff.mpr h
/-! renaming -/
theorem idx_map {f : Int → Int} (hf : ∀ x y, f x = f y → x = y) (v : Int) : ∀ names : List Int, (names.map f).idxOf (f v) = names.idxOf v
  | [] => by simp
  | x :: r => by
    simp only [List.map_cons, List.idxOf_cons, idx_map hf v r]
    by_cases e : x = v
    · subst e; simp
    · have : ¬ f x = f v := fun z => e (hf _ _ z)
      have e1 : (x == v) = false := by simpa using e
      have e2 : (f x == f v) = false := by simpa using this
      rw [e1, e2]
theorem mem_map_inj {f : Int → Int} (hf : ∀ x y, f x = f y → x = y) {v : Int} {names : List Int} : f v ∈ names.map f ↔ v ∈ names := by
  constructor
  · intro h
    obtain ⟨u, hu, e⟩ := List.mem_map.mp h
    rw [← hf _ _ e]
    exact hu
  · intro h
    exact List.mem_map.mpr ⟨v, h, rfl⟩
theorem grow_map {f : Int → Int} (hf : ∀ x y, f x = f y → x = y) (names : List Int) (v : Int) : grow (names.map f) (f v) = (grow names v).map f := by
  unfold grow
  by_cases h : v ∈ names
  · rw [if_pos h, if_pos ((mem_map_inj hf).mpr h)]
  · rw [if_neg h, if_neg (fun z => h ((mem_map_inj hf).mp z)), List.map_append]
    rfl
theorem numGo_map {f : Int → Int} (hf : ∀ x y, f x = f y → x = y) : ∀ (ms : List (Int × Int)) (names : List Int), numGo (names.map f) (ms.map fun m => (m.1, f m.2)) = numGo names ms
  | [], _ => rfl
  | m :: r, names => by
    simp only [List.map_cons, numGo, grow_map hf, idx_map hf, numGo_map hf r]
theorem numb_map {f : Int → Int} (hf : ∀ x y, f x = f y → x = y) (ms : List (Int × Int)) : numb (ms.map fun m => (m.1, f m.2)) = numb ms := numGo_map hf ms []
/-! numbered twice -/
def iot (k : Nat) : List Int := (List.range k).map (fun i : Nat => (i : Int))
theorem iot_succ (k : Nat) : iot (k + 1) = iot k ++ [(k : Int)] := by
  unfold iot
  rw [List.range_succ, List.map_append]
  rfl
theorem mem_iot {j k : Nat} : (j : Int) ∈ iot k ↔ j < k := by
  unfold iot
  rw [List.mem_map]
  constructor
  · rintro ⟨a, ha, e⟩
    have := List.mem_range.mp ha
    omega
  · intro h
    exact ⟨j, List.mem_range.mpr h, rfl⟩
theorem idx_iot : ∀ {k j : Nat}, j < k → (iot k).idxOf (j : Int) = j
  | 0, _, h => absurd h (Nat.not_lt_zero _)
  | k + 1, j, h => by
    rw [iot_succ]
    by_cases e : j < k
    · rw [idx_append (mem_iot.mpr e), idx_iot e]
    · have : j = k := by omega
      subst this
      rw [idx_new (fun z => Nat.lt_irrefl _ (mem_iot.mp z))]
      simp [iot]
theorem iot_len (k : Nat) : (iot k).length = k := by simp [iot]
theorem numGo_idem : ∀ (ms : List (Int × Int)) (names : List Int), numGo (iot names.length) (numGo names ms) = numGo names ms
  | [], _ => rfl
  | m :: r, names => by
    by_cases h : m.2 ∈ names
    · have e : grow names m.2 = names := if_pos h
      have hl := idx_lt h
      have g : grow (iot names.length) (names.idxOf m.2 : Nat) = iot names.length := if_pos (mem_iot.mpr hl)
      simp only [numGo, e, g, idx_iot hl, numGo_idem r names]
    · have e : grow names m.2 = names ++ [m.2] := if_neg h
      have g : grow (iot names.length) ((names.length : Nat) : Int) = iot (names.length + 1) := by
        rw [iot_succ]
        exact if_neg (fun z => Nat.lt_irrefl _ (mem_iot.mp z))
      have ih := numGo_idem r (names ++ [m.2])
      rw [List.length_append] at ih
      simp only [numGo, e, idx_new h, g, idx_iot (Nat.lt_succ_self _)]
      exact congrArg _ ih
theorem numb_idem (ms : List (Int × Int)) : numb (numb ms) = numb ms := by
  have h := numGo_idem ms []
  exact h
theorem numGo_mem : ∀ (ms : List (Int × Int)) (names : List Int) (m : Int × Int), m ∈ numGo names ms → 0 ≤ m.2 ∧ m.2 < names.length + ms.length ∧ ∃ x ∈ ms, x.1 = m.1
  | [], _, _, h => by cases h
  | x :: r, names, m, h => by
    rcases List.mem_cons.mp h with rfl | h
    · refine ⟨by omega, ?_, x, List.mem_cons_self, rfl⟩
      have := idx_lt (mem_grow names x.2)
      have := grow_len names x.2
      rw [List.length_cons]
      show ((List.idxOf x.2 (grow names x.2) : Nat) : Int) < _
      omega
    · obtain ⟨a, b, y, hy, e⟩ := numGo_mem r (grow names x.2) m h
      have := grow_len names x.2
      refine ⟨a, ?_, y, List.mem_cons_of_mem _ hy, e⟩
      rw [List.length_cons]
      omega
theorem numb_short {ms : List (Int × Int)} (h : Short ms) (hl : ms.length ≤ 100000) : Short (numb ms) := by
  intro m hm
  obtain ⟨a, b, x, hx, e⟩ := numGo_mem ms [] m hm
  refine ⟨?_, ?_⟩
  · rw [← e]
    exact (h x hx).1
  · have : m.2 < 100000 + 1 := by simp at b; omega
    omega
/-! the dict of numbers -/
def DN (kvs : List (Key × V)) (names : List Int) : Prop := kvs.length = names.length ∧ ∀ v : Int, valV kvs (Sum.inl v : Key) = if v ∈ names then some (.int (names.idxOf v : Nat)) else none
theorem DN.nil : DN [] [] := ⟨rfl, fun v => by rw [if_neg (by simp)]; rfl⟩
theorem DN.in {kvs : List (Key × V)} {names : List Int} (h : DN kvs names) {v : Int} (hv : v ∈ names) : valV kvs (Sum.inl v : Key) = some (.int (names.idxOf v : Nat)) := by rw [h.2, if_pos hv]
theorem DN.out {kvs : List (Key × V)} {names : List Int} (h : DN kvs names) {v : Int} (hv : v ∉ names) : valV kvs (Sum.inl v : Key) = none := by rw [h.2, if_neg hv]
theorem DN.put {kvs : List (Key × V)} {names : List Int} (h : DN kvs names) {v : Int} (hv : v ∉ names) : DN (putK kvs (Sum.inl v : Key) (.int (kvs.length : Nat))) (names ++ [v]) := by
  refine ⟨?_, fun u => ?_⟩
  · rw [putK_new _ (h.out hv), List.length_append, List.length_append, h.1]
    rfl
  · rw [valV_put]
    by_cases e : u = v
    · subst e
      rw [if_pos rfl, if_pos (by simp), idx_new hv, h.1]
    · rw [if_neg (fun z => e (Sum.inl.inj z)), h.2]
      by_cases hu : u ∈ names
      · rw [if_pos hu, if_pos (List.mem_append_left _ hu), idx_append hu]
      · rw [if_neg hu, if_neg]
        intro z
        rcases List.mem_append.mp z with z | z
        · exact hu z
        · simp at z
          exact e z
end Sb

/-! len(set(xs)), xs a list of ints and texts. -/
namespace Sb
open PySem PySem.Spec PyProof.Rows L2
section
variable {prog : Program} {w : World} {A : Around} {E : Value → Shared → Prop} {s : Shared}
theorem call_set_listM {l : Addr} {items : Array Value} {xs : List Key} {Q : Value → Shared → Prop}
    (hh : A.handled = none) (hl : s.heap.IsList l items) (hi : Vals (xs.map kV) items.toList) (hn1 : xs.length ≤ 50)
    (h : ∀ (h' : Heap) (tk : Nat), h'.SetOf (mixKind prog w) s.heap.objs.size (fun k' => decide (k' ∈ uniqK (xs.take items.size))) (uniqK (xs.take items.size)).length →
      (∀ b o, b < s.heap.objs.size → s.heap.get? b = some o → h'.get? b = some o) → Q (.ref s.heap.objs.size) { s with heap := h', toks := tk }) :
    wpAny (model prog w) A (call (.type "set") [.ref l]) Q E s := by
  obtain ⟨c, tl, hmro⟩ := PySem.F.called_set.mro
  have hmade := PySem.F.called_set.made
  have hsub := PySem.F.called_set.sub
  refine wpAny_call (codeAny_of_tree ?_)
  show wpAny _ _ (callAny (.type "set") _) _ _ _
  refine wpAny_pure ⟨Code.quiet_builtin _ (by decide +kernel), codeAny_builtin PySem.F.entry_type_call ?_⟩
  rw [Around.under_plain (weight_type_call_type "set" [.ref l] []) rfl]
  have h1 := PySem.F.called_set.notType
  have h2 := PySem.F.called_set.canCreate
  have hct := PySem.F.typeCall_set_1 (.ref l)
  repeat (any_goals (first | assumption | wp_step))
  refine codeAny_mono (code_set_new_1 (.ref l) (E := E) (Q₁ := fun obj s₁ => ∃ led : Bool, obj = .ref s.heap.objs.size ∧ s₁ = { s with heap := s.heap.push { cls := .type "set", dict := none, data := .set #[] 0 (.fresh 0 0 led) } }) fun led => ⟨led, rfl, rfl⟩) fun r s₁ hr => ?_
  cases r with
  | error e => exact hr
  | ok fl =>
    cases fl with
    | ret obj =>
      obtain ⟨led, rfl, rfl⟩ := hr
      have hS : (s.heap.push { cls := .type "set", dict := none, data := .set #[] 0 (.fresh 0 0 led) }).get? s.heap.objs.size = some { cls := .type "set", dict := none, data := .set #[] 0 (.fresh 0 0 led) } := Heap.get?_push_size _ rfl
      have hT : Shared.TypeIs { s with heap := s.heap.push { cls := .type "set", dict := none, data := .set #[] 0 (.fresh 0 0 led) } } (.ref s.heap.objs.size) "set" := ⟨_, hS, rfl⟩
      have hli := PySem.F.called_set.init.lookup
      have hbi := PySem.F.called_set.init.bind (.ref s.heap.objs.size)
      repeat (any_goals (first | assumption | wp_step))
      refine codeAny_mono (codeAny_call_builtin (R := wants (fun r s₂ => r = .none ∧ ∃ h' tk, s₂ = { s with heap := h', toks := tk } ∧
          h'.SetOf (mixKind prog w) s.heap.objs.size (fun k' => decide (k' ∈ uniqK (xs.take items.size))) (uniqK (xs.take items.size)).length ∧
          (∀ b o, b < s.heap.objs.size → s.heap.get? b = some o → h'.get? b = some o)) E) PySem.F.called_set.init.plain PySem.F.entry_set_init (check_set_init_1 hT ?_)) fun r₂ s₂ hr₂ => ?_
      · obtain ⟨ol, hol, hcl, nl, hdl⟩ := hl
        obtain ⟨ocls, odict, odata, oslots⟩ := ol
        simp only at hcl hdl
        subst hcl; subst hdl
        have hol' : (s.heap.push { cls := .type "set", dict := none, data := .set #[] 0 (.fresh 0 0 led) }).get? l = some { cls := .type "list", dict := odict, data := .seq items nl, slots := oslots } := Heap.get?_push_of_some _ hol
        have hsls := PySem.F.sub_list_set
        have hslf := PySem.F.sub_list_frozenset
        have hne : (Value.type "list" == Value.type "dict") = false := by decide
        have hl1 : (s.heap.push { cls := .type "set", dict := none, data := .set #[] 0 (.fresh 0 0 led) }).IsList l items := ⟨_, hol', rfl, nl, rfl⟩
        unfold Builtin.«set.__init__» noKeywords Builtin.Frozenset.updateFrom
        generalize hPI : pyIter = PI
        wp_walk
        subst hPI
        refine wpAny_pyIter_list hl1 ?_
        refine wpAny_bind (wpAny_runValue ?_)
        have hlS : l < s.heap.objs.size := Heap.lt_size hol
        have hh3 : A.in1.in1.in1.handled = none := by simp [hh]
        have hneI : l ≠ (s.heap.push { cls := .type "set", dict := none, data := .set #[] 0 (.fresh 0 0 led) }).objs.size := by
          rw [Heap.size_push]; exact Nat.ne_of_lt (Nat.lt_succ_of_lt hlS)
        have hSf : s.heap.objs.size ∉ [(s.heap.push { cls := .type "set", dict := none, data := .set #[] 0 (.fresh 0 0 led) }).objs.size, l] := by
          rw [Heap.size_push]; simp only [List.mem_cons, List.mem_singleton, List.not_mem_nil, or_false, not_or]
          exact ⟨Nat.ne_of_lt (Nat.lt_succ_self _), Nat.ne_of_gt hlS⟩
        have hsz : xs.length = items.size := by rw [← Array.length_toList, ← hi.length, List.length_map]
        have hval : ∀ (i : Nat) (v : Value), items[i]? = some v → ∃ k, xs[i]? = some k ∧ RelV (kV k) v := fun i v hv => by
          have hlt : i < items.size := (Array.getElem?_eq_some_iff.mp hv).1
          have hlx : i < xs.length := by omega
          refine ⟨xs[i], List.getElem?_eq_getElem hlx, ?_⟩
          obtain ⟨w', hw, rw'⟩ := hi.get (i := i) (x := kV xs[i]) (by rw [List.getElem?_map, List.getElem?_eq_getElem hlx]; rfl)
          rw [Array.getElem?_toList] at hw
          rw [hv] at hw
          cases hw
          exact rw'
        refine loopMix ((Walks.list hh3 _ l hneI items).toS) s.heap.objs.size
          hSf xs hsz (by rw [← hsz]; exact hn1) hval (items.size - 0) 0 _ (by omega) (Nat.zero_le _)
          ⟨⟨_, Heap.get?_push_size _ rfl, rfl, rfl⟩, (hl1.push _)⟩ ?hS0 ?hR
        case hS0 =>
          have hget : ((s.heap.push { cls := .type "set", dict := none, data := .set #[] 0 (.fresh 0 0 led) }).push { cls := .type "list_iterator", data := .fields #[.ref l, .int 0 0] }).get? s.heap.objs.size
              = some { cls := .type "set", dict := none, data := .set #[] 0 (.fresh 0 0 led) } := Heap.get?_push_of_some _ hS
          exact ⟨_, #[], 0, _, hget, ⟨rfl, rfl, rfl⟩, rfl, (fun e he => by simp at he), (fun k => by simp [uniqK]), (by decide), (by rfl), rfl⟩
        case hR =>
          intro s' hm hS'
          obtain ⟨h', g', d', tk', os'⟩ := s'
          have eg : g' = s.gens := hm.gens
          have ed : d' = s.drawn := hm.drawn
          have eo : os' = s.os := hm.os
          subst eg; subst ed; subst eo
          show wpAny _ _ _ _ _ _
          refine wpAny_pure ?_
          show wpAny _ _ (ret Value.none) _ _ _
          refine wpAny_pure ⟨rfl, h', tk', rfl, hS', fun b o hb e => ?_⟩
          have hb1 : b ≠ s.heap.objs.size := Nat.ne_of_lt hb
          have hb2 : b ≠ (s.heap.push { cls := .type "set", dict := none, data := .set #[] 0 (.fresh 0 0 led) }).objs.size := by
            rw [Heap.size_push]; exact Nat.ne_of_lt (Nat.lt_succ_of_lt hb)
          exact hm.heap b o (by simp only [List.mem_cons, List.mem_singleton, List.not_mem_nil, or_false, not_or]; exact ⟨hb1, hb2⟩) (Heap.get?_push_of_some _ (Heap.get?_push_of_some _ e))
      · cases r₂ with
        | error e => exact hr₂
        | ok fl₂ =>
          cases fl₂ with
          | ret r =>
            obtain ⟨rfl, h', tk, rfl, hS', hk'⟩ := hr₂
            repeat (any_goals (first | assumption | wp_step))
            exact h _ _ hS' hk'
          | _ => exact hr₂.elim
    | _ => exact hr.elim
end
section
variable {X : Cx}
def tLenSetL (K : PySem.W.Frag) (ta : TE) : TE := fun σ H Q => ta σ H fun x H1 => ∃ (l : Addr) (xs : List Key), x = .ref l ∧ SqL K H1 l (xs.map kV) ∧ xs.length ≤ 50 ∧ Q (.int (uniqK xs).length) H1
theorem pe_lenSetL {a : Expr} {ta : TE} {p p2 q pos : Pos} (hc : X.calm = true) (hg : Gl X "len") (hm : X.mg "len" = none) (hg2 : Gl X "set") (hm2 : X.mg "set" = none) (ha : PE X a ta)
    (na : starEach [a] X.env = (false, eval a X.env) :: starEach [] X.env := by rfl) : PE X (.Call (.Name "len" p) [.Call (.Name "set" p2) [a] [] q] [] pos) (tLenSetL X.K ta) := by
  refine ⟨fun pins s σ H Q I h => ?_⟩
  refine Call_ (ld_blt I hg hm boot_len ?_)
  refine PyProof.Rows.callWith_builtin1 (PyProof.Rows.args_cons ?_ rfl) rfl rfl
  refine Call_ (ld_blt I hg2 hm2 boot_set ?_)
  refine PyProof.Rows.callWith_type1 (PyProof.Rows.args_cons (thn (ha.run pins s σ H _ I h) fun v s1 ⟨x, H1, I1, r1, q1⟩ => PyProof.Rows.args_nil ?_) na) na rfl
  obtain ⟨l, xs, rfl, hq, h1, q1⟩ := q1
  cases r1
  obtain ⟨its, r, pl, hz⟩ := I1.list hq
  refine call_set_listM (I1.ok.hd hc) pl.isList (by simpa using r) h1 fun h' tk hS hk => ?_
  refine PyProof.Rows.args_nil ?_
  have hl : its.toArray.size = xs.length := by rw [List.size_toArray, ← r.length, List.length_map]
  rw [hl, List.take_length] at hS
  obtain ⟨o, es, ep, t, ho, hex, hd, _, _, _, hf, hn⟩ := hS
  have I2 : L2.Inv X pins σ H1 { s1 with heap := h', toks := tk } := I1.kept fun b o e => hk b o (Heap.lt_size e) e
  have lu := (uniqK_len _ xs rfl).1
  refine call_len_set ho hex hd hf (by rw [hn] <;> omega) ⟨.int (uniqK xs).length, H1, I2.tok _, ⟨_, by rw [hn]⟩, q1⟩
end
end Sb

/-! Dicts with tuple keys: against the empty one, shown, displayed; a dict against a text. -/
namespace Sb
open PySem PySem.Spec PyProof.Rows L2
section
variable {prog : Program} {w : World} {A : Around} {E : Value → Shared → Prop} {s : Shared}
theorem samePairs_empty {nm : String} {a b : Addr} {oa ob : Obj} {es es' : Array DictEntry} {ep ep' : Nat} {Q : Bool → Shared → Prop} (ha : (a == sysModules) = false) (hb : (b == sysModules) = false)
    (hoa : s.heap.get? a = some oa) (hda : oa.data = .dict es ep) (hob : s.heap.get? b = some ob) (hdb : ob.data = .dict es' ep') (h0 : es'.size = 0) (h : Q (decide (es.size = 0)) s) :
    wpAny (model prog w) A (Builtin.Dict.samePairs nm a b) Q E s := by
  unfold Builtin.Dict.samePairs Builtin.Dict.showsAll
  rw [if_neg (show ¬ (a == sysModules) = true by rw [ha]; exact Bool.false_ne_true), if_neg (show ¬ (b == sysModules) = true by rw [hb]; exact Bool.false_ne_true)]
  refine wpAny_bind (wpAny_pure (wpAny_bind (wpAny_pure ?_)))
  refine wpAny_bind (wpAny_dictEntries hoa hda ?_)
  dsimp only
  refine wpAny_bind (wpAny_dictEntries hob hdb ?_)
  by_cases hsz : es.size = 0
  case neg =>
    rw [if_pos (by simp [h0, hsz])]
    rw [decide_eq_false hsz] at h
    exact wpAny_bind (wpAny_rule (wpAny_pure h))
  case pos =>
    rw [decide_eq_true hsz] at h
    rw [if_neg (by rw [hsz, h0]; simp)]
    refine wpAny_bind (wpAny_dictEpoch hoa hda ?_)
    refine wpAny_bind ?_
    rw [Std.Legacy.Range.forIn_eq_forIn_range']
    simp only [Std.Legacy.Range.size, Nat.sub_zero, Nat.add_sub_cancel, Nat.div_one]
    rw [hsz]
    exact wpAny_pure (wpAny_pure h)
theorem rc_dictE {neg : Bool} {a b : Addr} {oa ob : Obj} {es es' : Array DictEntry} {ep ep' : Nat} {Q : Value → Shared → Prop} (ha : (a == sysModules) = false) (hb : (b == sysModules) = false)
    (hoa : s.heap.get? a = some oa) (hca : oa.ExactDict) (hda : oa.data = .dict es ep) (hob : s.heap.get? b = some ob) (hcb : ob.ExactDict) (hdb : ob.data = .dict es' ep') (h0 : es'.size = 0) (hu : A.units < cLine) (h : Q (.bool (if neg then !decide (es.size = 0) else decide (es.size = 0))) s) :
    wpAny (model prog w) A (compareOp (if neg then .NotEq else .Eq) (.ref a) (.ref b)) Q E s := by
  have ta : s.TypeIs (.ref a) "dict" := ⟨oa, hoa, hca.1⟩
  have tb : s.TypeIs (.ref b) "dict" := ⟨ob, hob, hcb.1⟩
  cases neg with
  | false =>
    refine wpAny_richCompare_same_room (op := .Eq) ta tb PySem.F.slot_dict_eq (wpAny_call_entry PySem.F.slot_dict_eq ta PySem.F.entry_dict_eq ?_ (PySem.F.args_dict_eq_2 _ _)) hu
    show wpAny _ _ (Builtin.Dict.dictSlotArgs "__eq__" ⟨[.ref a, .ref b], []⟩ >>= _) _ _ s
    refine wpAny_bind ?_
    unfold Builtin.Dict.dictSlotArgs
    refine wpAny_bind (wpAny_notOrdered_dict ta ?_)
    show wpAny _ _ (pure (Value.ref a, Value.ref b)) _ _ s
    refine wpAny_pure ?_
    refine wpAny_bind (wpAny_isInstance (T := "dict") tb PySem.F.sub_dict_dict ?_)
    simp only [Bool.not_true, Bool.false_eq_true, if_false]
    refine wpAny_bind (wpAny_pure (wpAny_bind (wpAny_pure ?_)))
    refine wpAny_bind (samePairs_empty ha hb hoa hda hob hdb h0 ?_)
    refine wpAny_pure ⟨_, rfl, ?_, ?_⟩
    · exact fun x => nomatch x
    · simpa using h
  | true =>
    refine wpAny_richCompare_same_room (op := .NotEq) ta tb PySem.F.slot_dict_ne (wpAny_call_entry PySem.F.slot_dict_ne ta PySem.F.entry_dict_ne ?_ (PySem.F.args_dict_ne_2 _ _)) hu
    show wpAny _ _ (Builtin.Dict.dictSlotArgs "__ne__" ⟨[.ref a, .ref b], []⟩ >>= _) _ _ s
    refine wpAny_bind ?_
    unfold Builtin.Dict.dictSlotArgs
    refine wpAny_bind (wpAny_notOrdered_dict ta ?_)
    show wpAny _ _ (pure (Value.ref a, Value.ref b)) _ _ s
    refine wpAny_pure ?_
    refine wpAny_bind (wpAny_isInstance (T := "dict") tb PySem.F.sub_dict_dict ?_)
    simp only [Bool.not_true, Bool.false_eq_true, if_false]
    refine wpAny_bind (wpAny_pure (wpAny_bind (wpAny_pure ?_)))
    refine wpAny_bind (samePairs_empty ha hb hoa hda hob hdb h0 ?_)
    refine wpAny_pure ⟨_, rfl, ?_, ?_⟩
    · exact fun x => nomatch x
    · simpa using h
theorem dict_eq_str (l : Addr) (o : Obj) (b : Str) (u : Tok) {Q : Value → Shared → Prop} (ho : s.heap.get? l = some o) (hc : o.ExactDict) (hq : Q .notImplemented s) : wpAny (model prog w) A (call (.builtin "dict.__eq__") [.ref l, .str b u]) Q E s := by
  have ta : s.TypeIs (.ref l) "dict" := ⟨o, ho, hc.1⟩
  refine wpAny_call_entry PySem.F.slot_dict_eq ta PySem.F.entry_dict_eq ?_ (PySem.F.args_dict_eq_2 _ _)
  show wpAny _ _ (Builtin.Dict.dictSlotArgs "__eq__" ⟨[.ref l, .str b u], []⟩ >>= _) _ _ s
  refine wpAny_bind ?_
  unfold Builtin.Dict.dictSlotArgs
  refine wpAny_bind (wpAny_notOrdered_dict ta ?_)
  show wpAny _ _ (pure (Value.ref l, Value.str b u)) _ _ s
  refine wpAny_pure ?_
  refine wpAny_bind (wpAny_isInstance (T := "str") (typeIs_str s b u) PySem.F.sub_str_dict ?_)
  exact wpAny_bind (wpAny_rule (wpAny_pure ⟨_, rfl, hq⟩))
theorem str_eq_obj (b : Str) (u : Tok) (l : Addr) (c : Value) (es : Array DictEntry) (ep : Nat) (dd : Option Addr) (sl : Array (Option Value)) :
    Meets (Builtin.«str.__eq__» ⟨[.str b u, .ref l], []⟩) (fun _ R s => s.heap.get? l = some { cls := c, dict := dd, data := .dict es ep, slots := sl } ∧ R (.ok (.ret .notImplemented)) s) :=
  .of_wp fun prog w A R s h => by obtain ⟨hp, g, d, tk, os⟩ := s; obtain ⟨hl, h⟩ := h; wp_walk using wpAny_loadPart' hl, wpAny_load hl; exact ⟨_, rfl, h⟩
theorem rc_dict_str {l : Addr} {o : Obj} {es : Array DictEntry} {ep : Nat} (b : Str) (u : Tok) (ho : s.heap.get? l = some o) (hc : o.ExactDict) (hd : o.data = .dict es ep) (hu : A.units < cLine) {Q : Value → Shared → Prop} (h : Q (.bool false) s) : wpAny (model prog w) A (compareOp .Eq (.ref l) (.str b u)) Q E s := by
  obtain ⟨cls, dd, data, sl⟩ := o
  simp only at hd
  subst hd
  exact SeqAt.rc_eq_decline_or (k := false) ⟨_, ho, hc.1⟩ (typeIs_str s b u) (by decide) PySem.F.sub_str_dict PySem.F.slot_dict_eq PySem.F.slot_str_eq_refl
    (fun _ hq => dict_eq_str l _ b u ho hc hq)
    (fun _ hq => call_meets PySem.F.slot_str_eq_refl (typeIs_str s b u) PySem.F.entry_str_eq (PySem.F.args_str_eq_2 _ _) (str_eq_obj b u l cls es ep dd sl) ⟨ho, hq⟩)
    (fun _ hq => wpAny_of_eq (rfl : isSame (.ref l) (.str b u) = pure false) hq) (.inr hu) h
end
section
variable {X : Cx}
/-- x == {}, x != {} -/
def rDE (neg : Bool) : R2 := fun x y H Q => ∃ a b kvs, x = .ref a ∧ y = .ref b ∧ H a = some (.dT kvs) ∧ (H b = some (.dK []) ∨ H b = some (.dT [])) ∧ Q (.bl (if neg then !decide (kvs.length = 0) else decide (kvs.length = 0))) H
theorem op_dE {neg : Bool} (hu : X.A.units + 64 < cLine) : OpR X (compareOp (if neg then .NotEq else .Eq)) (rDE neg) := by
  intro pins s σ H x y v u Q I rx ry h
  obtain ⟨a, b, kvs, rfl, rfl, ha, hb, q⟩ := h
  cases rx
  cases ry
  obtain ⟨z, low, xs, rel, o, es, ep, ho, ex, hd, pr, _⟩ := dt_of I.hok ha
  have l1 : es.size = kvs.length := by
    have : es.toList.length = xs.length := by rw [pr, List.length_map]
    rw [Array.length_toList] at this
    rw [this, ← Paired.length rel]
  obtain ⟨lowb, ob, es', ep', hob, exb, hdb, l2⟩ : (b == sysModules) = false ∧ ∃ ob es' ep', s.heap.get? b = some ob ∧ ob.ExactDict ∧ ob.data = .dict es' ep' ∧ es'.size = 0 := by
    rcases hb with hb | hb
    · obtain ⟨_, low, vs, rel, o, es, ep, ho, ex, hd, _, pr, _⟩ := dk_of I.hok hb
      cases rel
      have hes : es.toList = [] := List.eq_nil_of_length_eq_zero (Pairs.length pr)
      exact ⟨low, o, es, ep, ho, ex, hd, by rw [← Array.length_toList, hes]; rfl⟩
    · obtain ⟨_, low, xs, rel, o, es, ep, ho, ex, hd, pr, _⟩ := dt_of I.hok hb
      cases rel
      have hes : es.toList = [] := pr
      exact ⟨low, o, es, ep, ho, ex, hd, by rw [← Array.length_toList, hes]; rfl⟩
  refine rc_dictE low lowb ho ex hd hob exb hdb l2 (by omega) ⟨.bl _, H, I, rfl, ?_⟩
  rw [l1]
  exact q
/-- x == text, x of any kind -/
def rEqS' : R2 := fun x y H Q => ∃ p d z, LD p H x d ∧ y = .str z ∧ Q (.bl (isStrD d z)) H
theorem op_eqS' (hu : X.A.units + 64 < cLine) : OpR X (compareOp .Eq) rEqS' := by
  intro pins s σ H x y v u Q I rx ry h
  obtain ⟨p, d, z, hx, rfl, q⟩ := h
  by_cases hd : isDctD d = false
  · exact op_eqS hu pins s σ H _ _ v u Q I rx ry ⟨p, d, z, hx, hd, rfl, q⟩
  · obtain ⟨tz, rfl⟩ := ry
    cases hx with
    | @dic a n e =>
      cases rx
      obtain ⟨_, low, vs, rel, o, es, ep, ho, ex, hdt, _⟩ := dk_of I.hok e
      exact rc_dict_str z tz ho ex hdt (by omega) ⟨.bl _, H, I, rfl, q⟩
    | @dct a n e =>
      cases rx
      obtain ⟨_, low, xs, rel, o, es, ep, ho, ex, hdt, _⟩ := dt_of I.hok e
      exact rc_dict_str z tz ho ex hdt (by omega) ⟨.bl _, H, I, rfl, q⟩
    | _ => exact absurd rfl hd
end
end Sb

/-! Dicts with tuple keys: shown; a display of one pair. -/
namespace Sb
open PySem PySem.Spec PyProof.Rows L2
def keyD : Key → PyData
  | .inl n => .int n
  | .inr s => .str s
theorem ld_keys {p : Addr} {H : Hp} : ∀ ks : List Key, LDs p H (ks.map kV) (ks.map keyD)
  | [] => .nil
  | .inl n :: r => .cons (.int n) (ld_keys r)
  | .inr s :: r => .cons (.str s) (ld_keys r)
def rowsD (R : List (List Key × PyData)) : List (PyData × PyData) := R.map fun p => (.tuple (p.1.map keyD), p.2)
section
variable {X : Cx} {pins : List (Addr × Obj)} {σ : L2.St} {H : Hp} {s : Shared}
theorem reads_rows (I : L2.Inv X pins σ H s) {p : Addr} (hp : ∀ xs, H p ≠ some (.tup xs)) : ∀ {kvs : List (List Key × V)} {R : List (List Key × PyData)} {xs : List KRow}, Paired (fun p q => p.1 = q.1 ∧ TD H p.2 q.2) kvs R → KT H kvs xs →
    (∃ as, ReadsAll s.heap (xs.map fun x => Value.ref x.2.1) ((rowsD R).map (·.1)) as ∧ sysModules ∉ as) ∧ ∃ bs, ReadsAll s.heap (xs.map fun x => x.2.2) ((rowsD R).map (·.2)) bs ∧ sysModules ∉ bs
  | _, _, _, .nil, h => by
    cases h
    exact ⟨⟨_, .nil, List.not_mem_nil⟩, ⟨_, .nil, List.not_mem_nil⟩⟩
  | _, _, _, .cons (a := u) (b := w) ab r, h => by
    cases h with
    | @cons _ x _ _ c t =>
      obtain ⟨⟨as, h1, n1⟩, ⟨bs, h2, n2⟩⟩ := reads_rows I hp r t
      have hx : H x.2.1 = some (.tup (u.1.map kV)) := c.2.1
      have nx : x.2.1 ≠ p := fun e => hp _ (e ▸ hx)
      obtain ⟨as', q1, m1⟩ := LD.reads I (.tuple (u.1.map keyD)) (.ref x.2.1) (.ref x.2.1) (.tup nx hx (ld_keys u.1)) rfl
      obtain ⟨bs', q2, m2⟩ := LD.reads I w.2 u.2 x.2.2 (TD.ld hp _ ab.2) c.2.2
      rw [ab.1] at q1
      refine ⟨⟨_, .cons q1 h1, fun z => ?_⟩, ⟨_, .cons q2 h2, fun z => ?_⟩⟩
      · rcases List.mem_append.mp z with z | z
        · exact m1 z
        · exact n1 z
      · rcases List.mem_append.mp z with z | z
        · exact m2 z
        · exact n2 z
theorem reads_dT (I : L2.Inv X pins σ H s) {a : Addr} {kvs : List (List Key × V)} {R : List (List Key × PyData)} (hd : H a = some (.dT kvs)) (hk : Paired (fun p q => p.1 = q.1 ∧ TD H p.2 q.2) kvs R) : ∃ as, Reads s.heap (.ref a) (.dict (rowsD R)) as ∧ sysModules ∉ as := by
  obtain ⟨_, low, xs, rel, o, es, ep, ho, ex, hdt, pr, _⟩ := dt_of I.hok hd
  obtain ⟨⟨as, h1, n1⟩, ⟨bs, h2, n2⟩⟩ := reads_rows I (p := a) (fun xs z => by rw [hd] at z; cases z) hk rel
  refine ⟨_, Reads.dict ho ex.1 hdt (as := as) (bs := bs) ?_ ?_, fun z => ?_⟩
  · rw [pr, List.map_map]
    exact h1
  · rw [pr, List.map_map]
    exact h2
  · have z' : sysModules = a ∨ sysModules ∈ as ∨ sysModules ∈ bs := by simpa using z
    rcases z' with z' | z' | z'
    · rw [← z'] at low
      simp at low
    · exact n1 z'
    · exact n2 z'
end
section
variable {X : Cx}
/-- repr of a dict with tuple keys -/
def rReprT : List V → Hp → VK → Prop := fun xs H Q => ∃ (a : Addr) (kvs : List (List Key × V)) (R : List (List Key × PyData)), xs = [.ref a] ∧ H a = some (.dT kvs) ∧ Paired (fun p q => p.1 = q.1 ∧ TD H p.2 q.2) kvs R ∧
  (PyData.dict (rowsD R)).showable = true ∧ (PyData.dict (rowsD R)).depth ≤ 60 ∧ (PyData.dict (rowsD R)).shown.length ≤ sizeLine ∧ Q (.str (PyData.dict (rowsD R)).shown) H
theorem call_reprT (gd : X.A.guards = some []) (hu : X.A.units + 64 < cLine) : CallR X (.builtin "repr") rReprT := by
  intro pins s σ H xs us Q I r h
  obtain ⟨a, kvs, R, rfl, ha, hk, hs, hd, hz, q⟩ := h
  obtain ⟨u, rfl, ru⟩ := vals1 r
  obtain rfl : u = Value.ref a := ru
  obtain ⟨as, rd, low⟩ := reads_dT I ha hk
  exact repr_of_reads' rd hs (fun _ => low) gd (by omega) (fun _ _ z => z) (fun h' u' tk hk => ⟨.str _, H, I.kept (fun b o z => hk b o z), ⟨_, rfl⟩, q⟩) hz
/-- {k: v}, k a tuple -/
def tDispT (tk tv : TE) : TE := fun σ H Q => ∀ p, H p = none → tk σ (upd H p (.dT [])) fun x H1 => tv σ H1 fun y H2 => ∃ k b, x = .ref b ∧ H2 b = some (.tup (k.map kV)) ∧ H2 p = some (.dT []) ∧ Q (.ref p) (upd H2 p (.dT [(k, y)]))
theorem pe_dispT {k v : Expr} {pos : Pos} {tk tv : TE} (hu : X.A.units + 1 < cLine) (hk : PE X k tk) (hv : PE X v tv) : PE X (.Dict [some k] [v] pos) (tDispT tk tv) := by
  refine ⟨fun pins s σ H Q I q => ?_⟩
  have hn := I.hok.fresh (Nat.le_refl s.heap.objs.size)
  have I1 := I.laid (a := s.heap.objs.size) (o := .dT []) (h' := s.heap.push { cls := .type "dict", data := .dict #[] }) (t' := s.toks) (fun _ _ q => Heap.get?_push_of_some _ q) (Nat.le_refl _) (dt_empty s.heap I.big)
  rw [arm_eval_Dict, zip_pairTrees [some k] [v] X.env pos rfl rfl, dictDisplay_pairs (pairTrees [some k] [v] X.env pos) (by intro z; cases z) (by rw [pairTrees_length [some k] [v] X.env pos rfl rfl]; show 1 < 17; decide)]
  refine wpAny_bind (wpAny_standAt (wpAny_bind (wpAny_subDictH (knd := tupleKind (mixKind X.prog X.w)) (Q := fun d s' => wpAny (model X.prog X.w) X.A (pure (Value.ref d)) _ _ s') (show X.A.units < cLine by omega) (by rw [pairTrees_length [some k] [v] X.env pos rfl rfl]; show 1 ≤ 15; decide) ?_)))
  refine pairTrees_cons_walk (thn (hk.run pins _ σ _ _ I1 (q _ hn)) fun u s1 ⟨x, H1, I2, rx, q1⟩ => thn (hv.run pins s1 σ H1 _ I2 q1) fun w2 s2 ⟨y, H2, I3, ry, kk, b, ex, hb, hd, q2⟩ => pairTrees_nil_walk ?_)
  subst ex
  obtain rfl : u = Value.ref b := rx
  obtain ⟨z, low, xs, rel, dd⟩ := dt_of I3.hok hd
  cases rel
  refine ⟨[(kk, b, w2)], ⟨rfl, rfl, key_of I3.hok hb, trivial⟩, dd, fun h' tk' dd' hs => wpAny_pure ⟨.ref s.heap.objs.size, _, ?_, rfl, q2⟩⟩
  obtain ⟨qo, es, ep, g1, g2, g3, g4, _, g5⟩ := dd'
  refine d_write I3 (by rw [hd]; trivial) hs ⟨qo, g1⟩ ⟨by show 1 ≤ sizeLine; decide, low, [(kk, b, w2)], .cons ⟨rfl, ?_, ry⟩ .nil, qo, es, ep, g1, g2, g3, g4, g5⟩
  rw [upd_ne (ne_of hb hd fun z => nomatch z)]
  exact hb
end
end Sb

/-! A list's display whose list is no module's table. -/
namespace Sb
open PySem PySem.Spec PyProof.Rows L2
section
variable {X : Cx}
def tLstS (t : TA) : TE := fun σ H Q => t σ H fun xs H1 => xs.length ≤ sizeLine ∧ ∀ (p : Addr), H1 p = none → p ≠ sysModules → Q (V.ref p) (upd H1 p (HO.lst xs))
theorem pe_lstS {es : List Expr} {t : TA} {pos : Pos} (h : PA X es t) : PE X (.List es pos) (tLstS t) := by
  refine ⟨fun pins s σ H Q I q => ?_⟩
  rw [arm_eval_List]
  refine wpAny_bind (wpAny_standAt (wpAny_bind (thn (h.run pos pins s σ H _ I q) fun vs s1 ⟨xs, H1, I1, r1, hz, q1⟩ => ?_)))
  have lv : vs.toArray.size = xs.length := by rw [List.size_toArray, r1.length]
  show wpAny _ _ (if vs.toArray.size > sizeLine then _ else newObjAsIs (Value.type "list") (Data.seq vs.toArray)) _ _ _
  rw [if_neg (by rw [lv]; omega)]
  unfold newObjAsIs
  refine wpAny_bind (wpAny_alloc ?_)
  refine wpAny_pure ?_
  have kp : ∀ b o, s1.heap.get? b = some o → (s1.heap.push { cls := .type "list", data := .seq vs.toArray }).get? b = some o := fun _ _ e => Heap.get?_push_of_some _ e
  exact ⟨.ref s1.heap.objs.size, _, I1.laid (t' := s1.toks) kp (Nat.le_refl _) (show ObjOk X.prog X.w _ _ _ (.lst xs) from ⟨hz, vs, _, r1, by first | rfl | exact Heap.get?_push_size _ rfl⟩), rfl, q1 _ (I1.hok.fresh (Nat.le_refl _)) (Nat.ne_of_gt I1.big)⟩
/-- l != [] -/
def rNeL0 : R2 := fun x y H Q => ∃ a b xs, x = .ref a ∧ y = .ref b ∧ H a = some (.lst xs) ∧ H b = some (.lst []) ∧ Q (.bl (!xs.isEmpty)) H
theorem op_neL0 (hu : X.A.units + 64 < cLine) : OpR X (compareOp .NotEq) rNeL0 := by
  intro pins s σ H x y v u Q I rx ry h
  obtain ⟨a, b, xs, rfl, rfl, ha, hb, q⟩ := h
  cases rx
  cases ry
  obtain ⟨its, r1, t1, _⟩ := I.list (SqL.of (K := X.K) ha)
  obtain ⟨its2, r2, t2, _⟩ := I.list (SqL.of (K := X.K) hb)
  cases r2
  cases xs with
  | nil =>
    cases r1
    refine SeqAt.RcNeAt.lists (e := fun _ => true) t1.isList t2.isList rfl (by omega) (fun j _ h2 => absurd h2 (Nat.not_lt_zero _)) X.prog X.w X.xe (EP X pins σ Q) ⟨.bl _, H, I, rfl, q⟩
  | cons z zs =>
    cases r1
    refine SeqAt.RcNeAt.lists_lengths t1.isList t2.isList (by rfl) (by omega) X.prog X.w X.xe (EP X pins σ Q) ⟨.bl _, H, I, rfl, q⟩
end
end Sb

/-! Dicts with tuple keys: del, pop, clear. -/
namespace Sb
open PySem PySem.Spec PyProof.Rows L2
theorem meetsDelT {K : Type} [DecidableEq K] {prog : Program} {w : World} {knd : HeapKind prog w K} {d b : Addr} {k : K} :
    MeetsIn prog w (Builtin.«dict.__delitem__» ⟨[.ref d, .ref b], []⟩) fun A R s => ∃ xs p, knd.room A.in1 ∧ knd.is s.heap k b ∧ Heap.DictOfH knd s.heap d xs ∧ xs.length ≤ sizeLine ∧ atKey xs k = some p ∧
      ∀ (h' : Heap) (tk : Nat), Heap.DictOfH knd h' d (DT.dropH xs k) → Heap.SameBut d s.heap h' → R (.ok (.ret .none)) { s with heap := h', toks := tk } :=
  MeetsIn.of_wp fun A R s ⟨xs, p, hu, hk, hm, hz, hp, q⟩ => by
    show wpAny _ _ (Builtin.Dict.dictSlotArgs "__delitem__" ⟨[.ref d, .ref b], []⟩ >>= _) _ _ s
    refine wpAny_bind ?_
    unfold Builtin.Dict.dictSlotArgs
    refine wpAny_bind (wpAny_notOrdered_dict (Heap.DictOfH.typeIs hm) ?_)
    show wpAny _ _ (pure (Value.ref d, Value.ref b)) _ _ s
    refine wpAny_pure ?_
    refine wpAny_bind (wpAny_pure ?_)
    refine wpAny_bind (DT.takeH hu hk hm hz (fun z => by rw [hp] at z; cases z) fun p' e hp' ev h' dd sb => ?_)
    refine wpAny_bind (wpAny_letGo ?_)
    exact wpAny_pure ⟨_, rfl, q _ _ dd sb⟩
theorem meetsPop1 {K : Type} [DecidableEq K] {prog : Program} {w : World} {knd : HeapKind prog w K} {d b : Addr} {k : K} :
    MeetsIn prog w (Builtin.«dict.pop» ⟨[.ref d, .ref b], []⟩) fun A R s => ∃ xs p, (d == sysModules) = false ∧ knd.room A.in1 ∧ knd.is s.heap k b ∧ Heap.DictOfH knd s.heap d xs ∧ xs.length ≤ sizeLine ∧ atKey xs k = some p ∧
      ∀ (h' : Heap) (tk : Nat), Heap.DictOfH knd h' d (DT.dropH xs k) → Heap.SameBut d s.heap h' → R (.ok (.ret p.2)) { s with heap := h', toks := tk } :=
  MeetsIn.of_wp fun A R s ⟨xs, p, hd, hu, hk, hm, hz, hp, q⟩ => by
    show wpAny _ _ (Builtin.Dict.keyAndDefault "pop" ⟨[.ref d, .ref b], []⟩ >>= _) _ _ s
    refine wpAny_bind ?_
    unfold Builtin.Dict.keyAndDefault
    refine wpAny_bind (wpAny_notOrdered_dict (Heap.DictOfH.typeIs hm) ?_)
    show wpAny _ _ (pure (d, Value.ref b, none)) _ _ s
    refine wpAny_pure ?_
    have hm2 := hm
    obtain ⟨o, es, ep, ho, hc, hdat, he, _, hn⟩ := hm2
    have hes := size_of_entries he
    have hx : xs ≠ [] := fun z => by
      rw [z] at hp
      cases hp
    have hne : es.isEmpty = false := by
      have : 0 < xs.length := List.length_pos_iff.mpr hx
      rw [Array.isEmpty_eq_false_iff]
      intro z
      rw [z] at hes
      simp at hes
      omega
    show wpAny _ _ (dictEntries d >>= _) _ _ s
    refine wpAny_bind (wpAny_dictEntries ho hdat (wpAny_bind (wpAny_pure ?_)))
    simp only [hne, Bool.false_eq_true, if_false]
    refine wpAny_bind (DT.takeH hu hk hm hz (fun z => by rw [hp] at z; cases z) fun p' e hp' ev h' dd sb => ?_)
    have ep' : p = p' := Option.some.inj (hp.symm.trans hp')
    subst ep'
    simp only [Option.isNone_some, Bool.false_eq_true, if_false]
    refine wpAny_bind (wpAny_letGo ?_)
    exact wpAny_pure ⟨_, rfl, by rw [ev]; exact q _ _ dd sb⟩
theorem meetsClearT {K : Type} [DecidableEq K] {prog : Program} {w : World} {knd : HeapKind prog w K} {d : Addr} :
    MeetsIn prog w (Builtin.«dict.clear» ⟨[.ref d], []⟩) fun A R s => ∃ xs, Heap.DictOfH knd s.heap d xs ∧
      ∀ (h' : Heap), Heap.DictOfH knd h' d [] → Heap.SameBut d s.heap h' → R (.ok (.ret .none)) { s with heap := h' } :=
  MeetsIn.of_wp fun A R s ⟨xs, hm, q⟩ => by
    show wpAny _ _ (Builtin.Dict.noArgs "clear" ⟨[.ref d], []⟩ >>= _) _ _ s
    refine wpAny_bind ?_
    unfold Builtin.Dict.noArgs
    refine wpAny_bind (wpAny_notOrdered_dict (Heap.DictOfH.typeIs hm) ?_)
    show wpAny _ _ (pure d) _ _ s
    refine wpAny_pure ?_
    obtain ⟨o, es, ep, ho, hc, hdat, he, hk, hn⟩ := hm
    refine wpAny_bind (wpAny_dictEntries ho hdat ?_)
    unfold bearsInstanceDictMark
    refine wpAny_bind (wpAny_bind (wpAny_load ho (wpAny_pure ?_)))
    refine wpAny_bind (wpAny_updateDictKeysTo ho hdat ?_ (Nat.zero_le _))
    have fin : R (.ok (.ret .none)) { s with heap := s.heap.update d (Obj.mapDictKeys fun _ => #[]) } := by
      obtain ⟨cls, dd, data, sl⟩ := o
      have e : data = .dict es ep := hdat
      subst e
      refine q _ ⟨Obj.mapDictKeys (fun _ => #[]) ⟨cls, dd, .dict es ep, sl⟩, #[], ep + 1, Heap.get?_update_self _ ho rfl, hc, rfl, rfl, (fun x z => by cases z), List.nodup_nil⟩ ⟨?_, fun b nb => Heap.get?_update_other _ _ (fun e => nb e.symm)⟩
      exact Heap.size_update _ _ _
    dsimp only
    split
    · exact wpAny_bind (wpAny_letGo (wpAny_pure ⟨_, rfl, fin⟩))
    · exact wpAny_pure ⟨_, rfl, fin⟩
section
variable {X : Cx}
/-- del d[k], k a tuple -/
def sDDelT (td ty : TE) : TS := fun D σ H => td σ H fun x H1 => ty σ H1 fun y H2 => ∃ a kvs k b, x = .ref a ∧ H2 a = some (.dT kvs) ∧ y = .ref b ∧ H2 b = some (.tup (k.map kV)) ∧ (valV kvs k).isSome = true ∧ D.nx σ (upd H2 a (.dT (dropK kvs k)))
theorem dt_drop {pins : List (Addr × Obj)} {σ : L2.St} {H : Hp} {s : Shared} {a : Addr} {kvs : List (List Key × V)} {k : List Key} {xs : List KRow} {h' : Heap} {tk : Nat} (I : L2.Inv X pins σ H s) (e : H a = some (.dT kvs)) (rel : KT H kvs xs) (dd : Heap.DictOfH (tupleKind (mixKind X.prog X.w)) h' a (DT.dropH xs k)) (hs : Heap.SameBut a s.heap h') :
    L2.Inv X pins σ (upd H a (.dT (dropK kvs k))) { s with heap := h', toks := tk } := by
  obtain ⟨z, hd, _, _, _⟩ := dt_of I.hok e
  have hq := dd
  obtain ⟨o, es, ep, h1, h2, h3, h4, h5, h6⟩ := hq
  refine d_write I (by rw [e]; trivial) hs ⟨o, h1⟩ ⟨Nat.le_trans (dropK_le kvs k) z, hd, DT.dropH xs k, KT.keeps (DX.KT_drop k rel) fun c ys ec => ?_, o, es, ep, h1, h2, h3, h4, h6⟩
  rw [upd_ne (ne_of ec e fun z => nomatch z)]
  exact ec
theorem at_of {H : Hp} {kvs : List (List Key × V)} {k : List Key} {xs : List KRow} (rel : KT H kvs xs) (h : (valV kvs k).isSome = true) : ∃ p v, atKey xs k = some p ∧ valV kvs k = some v ∧ L2.RelV v p.2 := by
  have r := KT.val rel k
  cases ev : valV kvs k with
  | none => rw [ev] at h; cases h
  | some v =>
    rw [ev] at r
    cases hp : atKey xs k with
    | none => rw [hp] at r; exact r.elim
    | some p =>
      rw [hp] at r
      exact ⟨p, v, rfl, rfl, r⟩
theorem ps_ddelT {o i : Expr} {pos tpos : Pos} {td ty : TE} (hu : X.A.units + 1 < cLine) (ho : PE X o td) (hi : PE X i ty) : PS X (.Delete [.Subscript o i tpos] pos) (sDDelT td ty) := by
  refine ⟨fun pins s σ H D I h => ?_⟩
  refine wpAny_Delete (wpAny_deleteEach_cons (wpAny_delete_Subscript (thn (ho.run pins s σ H _ I h) fun u s1 ⟨x, H1, I1, rx, q1⟩ => thn (hi.run pins s1 σ H1 _ I1 q1) fun iv s2 ⟨y, H2, I2, ry, a, kvs, k, b, ex, e, ey, eb, l, q2⟩ => ?_)))
  subst ex ey
  obtain rfl : u = Value.ref a := rx
  obtain rfl : iv = Value.ref b := ry
  obtain ⟨z, hd, xs, rel, dd⟩ := dt_of I2.hok e
  obtain ⟨p, v, hp, ev, rv⟩ := at_of rel l
  refine wpAny_delItem_slot (Heap.DictOfH.typeIs dd) (by decide) PySem.F.slot_dict_delitem (call_meetsIn PySem.F.slot_dict_delitem (Heap.DictOfH.typeIs dd) PySem.F.entry_dict_delitem (PySem.F.args_dict_delitem_2 _ _) meetsDelT ⟨xs, p, tupleKind_room_in1 hu, key_of I2.hok eb, dd, by rw [← Paired.length rel]; exact z, hp, fun h' tk dd' hs => ?_⟩)
  exact wpAny_deleteEach_nil ⟨σ, _, dt_drop I2 e rel dd' hs, q2⟩
/-- d.pop(k), k a tuple that is there -/
def rPop1 : V → List V → Hp → VK → Prop := fun x xs H Q => ∃ (a : Addr) (kvs : List (List Key × V)) (k : List Key) (b : Addr) (v : V), x = .ref a ∧ xs = [.ref b] ∧ H a = some (.dT kvs) ∧ H b = some (.tup (k.map kV)) ∧ valV kvs k = some v ∧ Q v (upd H a (.dT (dropK kvs k)))
theorem mt_pop1T (hu : X.A.units + 1 < cLine) : MtR X "dict.pop" rPop1 := by
  intro pins s σ H x xs v us Q I rx rxs h
  obtain ⟨a, kvs, k, b, v0, rfl, rfl, ha, hb, ev, q⟩ := h
  obtain ⟨u, rfl, ru⟩ := vals1 rxs
  obtain rfl : u = Value.ref b := ru
  obtain rfl : v = Value.ref a := rx
  obtain ⟨z, hd, xs', rel, dd⟩ := dt_of I.hok ha
  obtain ⟨p, v1, hp, ev1, rv⟩ := at_of rel (by rw [ev]; rfl)
  rw [ev] at ev1
  obtain rfl : v0 = v1 := Option.some.inj ev1
  refine call_meetsIn PySem.F.slot_dict_pop (Heap.DictOfH.typeIs dd) PySem.F.entry_dict_pop (PySem.F.args_dict_pop_2 _ _) meetsPop1 ⟨xs', p, hd, tupleKind_room_in1 hu, key_of I.hok hb, dd, by rw [← Paired.length rel]; exact z, hp, fun h' tk dd' hs => ?_⟩
  exact ⟨v0, _, dt_drop I ha rel dd' hs, rv, q⟩
/-- d.clear() -/
def rClearT : V → List V → Hp → VK → Prop := fun x xs H Q => ∃ (a : Addr) (kvs : List (List Key × V)), x = .ref a ∧ xs = [] ∧ H a = some (.dT kvs) ∧ Q .non (upd H a (.dT []))
theorem mtd_clearT : MtR X "dict.clear" rClearT := by
  intro pins s σ H x xs v us Q I rx rxs h
  obtain ⟨a, kvs, rfl, rfl, ha, q⟩ := h
  cases rxs
  obtain rfl : v = Value.ref a := rx
  obtain ⟨z, hd, xs', rel, dd⟩ := dt_of I.hok ha
  refine call_meetsIn PySem.F.slot_dict_clear (Heap.DictOfH.typeIs dd) PySem.F.entry_dict_clear (PySem.F.args_dict_clear_1 _) meetsClearT ⟨xs', dd, fun h' dd' hs => ?_⟩
  obtain ⟨o, es, ep, h1, h2, h3, h4, _, h6⟩ := dd'
  exact ⟨.non, _, d_write (ob := .dT []) I (by rw [ha]; trivial) hs ⟨o, h1⟩ ⟨Nat.zero_le _, hd, [], .nil, o, es, ep, h1, h2, h3, h4, h6⟩, rfl, q⟩
end
end Sb

/-! sorted(keys, key=f), the keys tuples in a list. -/
namespace Sb
open PySem PySem.Spec PyProof.Rows L2
open PySem.W (EachIs KeyPure KeepsBut dataLe AllAlike Sortable)
theorem vals_refs' : ∀ {bs : List Addr} {its : List Value}, Vals (bs.map V.ref) its → its = bs.map Value.ref
  | [], _, h => by cases h; rfl
  | b :: r, _, h => by
    cases h with
    | cons a t =>
      rw [vals_refs' t]
      have : _ = Value.ref b := a
      rw [this]
      rfl
theorem ks_rows {H : Hp} : ∀ {kk : List (List Key)} {bs : List Addr}, IsKs H kk bs → ∃ ks : List KRow, ks.map (·.1) = kk ∧ (ks.map fun x => x.2.1) = bs ∧ ∀ x ∈ ks, H x.2.1 = some (.tup (x.1.map kV))
  | _, _, .nil => ⟨[], rfl, rfl, fun _ z => by cases z⟩
  | _, _, .cons (a := k) (b := b) h r => by
    obtain ⟨ks, e1, e2, e3⟩ := ks_rows r
    refine ⟨(k, b, Value.none) :: ks, by rw [List.map_cons, e1], by rw [List.map_cons, e2], fun x hx => ?_⟩
    rcases List.mem_cons.mp hx with rfl | hx
    · exact h
    · exact e3 x hx
def rSortTL (f : Addr) (rank : List Key → List Int) (ok : List Key → Prop) : List V → List V → Hp → VK → Prop := fun xs zs H Q => ∃ (l : Addr) (kk : List (List Key)) (bs : List Addr), xs = [.ref l] ∧ zs = [.ref f] ∧ H l = some (.lst (bs.map V.ref)) ∧ IsKs H kk bs ∧ (∀ k ∈ kk, ok k) ∧
  ∀ p cs, H p = none → IsKs H (srt rank kk) cs → Q (.ref p) (upd H p (.lst (cs.map V.ref)))
theorem call_sortTL {X : Cx} {f : Addr} {rank : List Key → List Int} {ok : List Key → Prop} {k0 : Nat} (hc : X.calm = true) (hr : Room (k0 + 1) X.A) (F : KeyFn X f rank ok) : CallRK X (.builtin "sorted") ["key"] (rSortTL f rank ok) := by
  intro pins s σ H xs zs us ws Q I r rz h
  obtain ⟨d, kk, bs, rfl, rfl, hd, hik, hok, q⟩ := h
  obtain ⟨u, rfl, rx⟩ := vals1 r
  obtain ⟨u2, rfl, rx2⟩ := vals1 rz
  obtain rfl : u = Value.ref d := rx
  obtain rfl : u2 = Value.ref f := rx2
  obtain ⟨ks, ek, eb, hks⟩ := ks_rows hik
  obtain ⟨its, rv0, pl, hz⟩ := I.list (SqL.of (K := X.K) hd)
  have lk : ks.length = bs.length := by rw [← eb, List.length_map]
  have hz0 : bs.length ≤ sizeLine := by
    rw [List.length_map] at hz
    exact hz
  have hz1 : ks.length ≤ sizeLine := lk ▸ hz0
  show wpAny _ _ (call (.builtin "sorted") [.ref d] [(Str.ofString "key", .ref f)]) _ _ _
  refine PyProof.Rows.call_function_entry_kw PyProof.Rows.kind_sorted PyProof.Rows.plain_sorted PyProof.Rows.entry_sorted (PyProof.Rows.ksk_s1 _ _) ?_
  unfold Builtin.«sorted»
  refine wpAny_bind (m := checkCount "sorted" 1 1 _) ?_
  apply wpAny_pure
  have ea : its.toArray.toList = ks.map fun x => Value.ref x.2.1 := by
    have : its = bs.map Value.ref := vals_refs' rv0
    rw [this, ← eb, List.map_map]
    rfl
  obtain ⟨o, ho, hcl, n, hdt⟩ := pl.isList
  refine wpAny_bind (wpAny_collect_seq (A := X.A.in1) d (.inl rfl) ho hcl hdt (fun h' kp => ?_) (by rw [← Array.length_toList, ea, List.length_map, lk]; exact hz0))
  generalize its.toArray = acc at ea ⊢
  generalize s.toks = tk
  have la : acc.toList.length = ks.length := by rw [ea, List.length_map]
  have I1 : Inv X pins σ H { s with heap := h', toks := tk } := I.kept kp
  refine wpAny_bind (wpAny_newList ?_ (by omega))
  have hoL : (h'.push (seqObj "list" acc.toList.toArray 0)).get? h'.objs.size = some (seqObj "list" acc.toList.toArray 0) := Heap.get?_push_size _ rfl
  have up : ∀ c o, h'.get? c = some o → (h'.push (seqObj "list" acc.toList.toArray 0)).get? c = some o := fun c o e => Heap.get?_push_of_some _ e
  show wpAny _ _ _ _ _ { s with heap := h'.push (seqObj "list" acc.toList.toArray 0), toks := tk }
  refine wpAny_bind (wpAny_holding (wpAny_call_entry_kw PyProof.Rows.slot_list_sort ⟨_, hoL, rfl⟩ PyProof.Rows.entry_list_sort ?body (PyProof.Rows.ksk_l1 _ _)))
  rw [PyProof.Rows.ksk_t1]
  have each : EachIs (fun (v : Value) (x : KRow) => v = .ref x.2.1) acc.toList ks := by rw [ea]; exact each_refs ks
  have ne : ∀ {c : Addr} {o : Obj}, h'.get? c = some o → c ≠ h'.objs.size := fun e => Nat.ne_of_lt (Heap.lt_size e)
  refine PySem.W.keyH_tree (kz := ks.map fun x => PyData.tuple ((rank x.1).map .int)) (s := { s with heap := h'.push (seqObj "list" acc.toList.toArray 0), toks := tk }) hoL (by rw [List.length_map, la]) (by omega)
    (AllAlike.of fun a b => alike_rows _ _) (Sortable.tuples fun b => ?_) ?_ (PySem.W.keyH_turns (s := { s with heap := h'.push (seqObj "list" acc.toList.toArray 0), toks := tk }) each fun v x hR hxk h2 tk2 kp2 => ?_) fun h3 tk3 out c kp3 hD ko => ?_
  · obtain ⟨x, r, e⟩ := F.some_ b.1
    exact ⟨_, _, by rw [e]; rfl⟩
  · intro dd hdd
    obtain ⟨x, _, rfl⟩ := List.mem_map.mp hdd
    have dp : PyData.depth (.tuple ((rank x.1).map PyData.int)) = 1 := by
      show PyData.depthAll _ + 1 = 1
      rw [PySem.W.depth_ints]
    rw [dp]
    have := hr.un
    show X.A.units + 1 + 1 + 1 < cLine
    omega
  · rw [hR]
    obtain ⟨_, its, rv, it1⟩ := (show ObjOk X.prog X.w H h' x.2.1 (.tup (x.1.map kV)) from I1.hok _ _ (hks x hxk))
    have k2 : ∀ c o, h'.get? c = some o → h2.get? c = some o := fun c o e => kp2 c o (ne e) (up c o e)
    refine F.run { s with heap := h2, toks := tk2 } _ x.2.1 its x.1 (I1.kIn.keeps k2) ((I1.mod.glob.keeps I1.bk).keeps k2) (I1.nolimit.keeps k2) ?_ ?_ (hok _ (by rw [← ek]; exact List.mem_map.mpr ⟨x, hxk, rfl⟩)) rv ?_
    · have := hr.dp
      show X.A.depth + 1 < recursionLimit
      omega
    · exact I.ok.hd hc
    · obtain ⟨ob, h1, r⟩ := it1
      exact ⟨ob, k2 _ _ h1, r⟩
  · have eo := PySem.W.keyedOut_each (fun x : KRow => PyData.tuple ((rank x.1).map .int)) ko each
    have lo2 := ko.length (by rw [List.length_map, la])
    rw [le_rows] at eo
    have er := refs_each eo
    have hmem : ∀ x ∈ ks.mergeSort (fun p q => decide (rank p.1 ≤ rank q.1)), H x.2.1 = some (.tup (x.1.map kV)) := fun x hx => hks x ((List.mergeSort_perm ks _).mem_iff.mp hx)
    have em : (ks.mergeSort (fun p q => decide (rank p.1 ≤ rank q.1))).map (·.1) = srt rank kk := by
      unfold srt
      rw [← ek]
      exact List.map_mergeSort fun a _ b _ => rfl
    have isk := isKs_of hmem
    rw [em] at isk
    have keep3 : ∀ b o, h'.get? b = some o → h3.get? b = some o := fun b o e => kp3 b o (ne e) (up b o e)
    have rv : Vals (((ks.mergeSort (fun p q => decide (rank p.1 ≤ rank q.1))).map fun x => x.2.1).map V.ref) out := by
      rw [er]
      exact vals_refs _
    have hz : (((ks.mergeSort (fun p q => decide (rank p.1 ≤ rank q.1))).map fun x => x.2.1).map V.ref).length ≤ sizeLine := by
      rw [rv.length]
      omega
    refine ⟨_, rfl, ?_⟩
    apply wpAny_pure
    refine ⟨_, rfl, .ref h'.objs.size, _, I1.laid (t' := tk3) (o := .lst (((ks.mergeSort (fun p q => decide (rank p.1 ≤ rank q.1))).map fun x => x.2.1).map V.ref)) keep3 (Nat.le_refl _) ⟨hz, out, c, rv, hD⟩, rfl, q _ _ (I1.hok.fresh (Nat.le_refl _)) isk⟩
end Sb

/-! list(d.items()), the keys tuples. -/
namespace Sb
open PySem PySem.Spec PyProof.Rows L2
theorem tds_get {H : Hp} : ∀ {as : List Addr} {R : List PyData}, as.length = R.length → (∀ (j : Nat) (a : Addr) (d : PyData), as[j]? = some a → R[j]? = some d → TD H (.ref a) d) → TDs H (as.map V.ref) R
  | [], [], _, _ => .nil
  | [], _ :: _, h, _ => by cases h
  | _ :: _, [], h, _ => by cases h
  | a :: as, d :: R, h, g => .cons (g 0 a d rfl rfl) (tds_get (Nat.succ.inj h) fun j a d h1 h2 => g (j + 1) a d h1 h2)
theorem tds_keys {H : Hp} : ∀ ks : List Key, TDs H (ks.map kV) (ks.map keyD)
  | [] => .nil
  | .inl n :: r => .cons (.int n) (tds_keys r)
  | .inr s :: r => .cons (.str s) (tds_keys r)
def itemD (r : List Key × PyData) : PyData := .tuple [.tuple (r.1.map keyD), r.2]
section
variable {X : Cx}
def rListItT : List V → Hp → VK → Prop := fun xs H Q => ∃ (p a : Addr) (kvs : List (List Key × V)) (R : List (List Key × PyData)), xs = [.ref p] ∧ H p = some (DX.itemsO p a) ∧ H a = some (.dT kvs) ∧ Paired (fun p q => p.1 = q.1 ∧ TD H p.2 q.2) kvs R ∧
  ∀ (l : Addr) (as : List Addr) H', Same H H' → H l = none → H' l = some (.lst (as.map V.ref)) → TDs H' (as.map V.ref) (R.map itemD) → Q (.ref l) H'
theorem call_listItT (hc : X.calm = true) : CallR X (.type "list") rListItT := by
  intro pins s σ H xs us Q I r h
  obtain ⟨p, a, kvs, R, rfl, hp, ha, hkv, q⟩ := h
  obtain ⟨u, rfl, ru⟩ := vals1 r
  obtain rfl : u = Value.ref p := ru
  have view : s.heap.IsItemsView p a := (show ObjOk X.prog X.w H s.heap p (DX.itemsO p a) from I.hok p _ hp).1
  obtain ⟨z, hd, xs', rel, o, es, ep, ho, hx, hdat, hes, his, hn⟩ := dt_of I.hok ha
  have l1 : kvs.length = xs'.length := Paired.length rel
  have l2 : es.size = xs'.length := size_of_entries hes
  have l3 : kvs.length = R.length := Paired.length hkv
  refine PySem.W.dil_call (I.ok.hd hc) view ⟨o, ho, hx, hdat⟩ (by rw [l2, ← l1]; exact z) fun h' tk acc c as hk hl las G eacc => ?_
  have lak : as.length = kvs.length := by omega
  have nd : as.Nodup := G.rise.imp fun h => Nat.ne_of_lt h
  have hz : (as.map V.ref).length ≤ sizeLine := by rw [List.length_map, lak]; exact z
  have I1 : L2.Inv X pins σ (upd H s.heap.objs.size (.lst (as.map V.ref))) { s with heap := h', toks := tk } := I.laid (t' := tk) hk (Nat.le_refl _) (show ObjOk X.prog X.w _ h' _ (.lst (as.map V.ref)) from ⟨hz, as.map Value.ref, c, vals_refs _, by
    rw [hl]
    have : acc = (as.map Value.ref).toArray := by
      apply Array.ext'
      rw [eacc]
    rw [this]⟩)
  have nS : H s.heap.objs.size = none := I.hok.fresh (Nat.le_refl _)
  have row : ∀ (j : Nat) (b : Addr), as[j]? = some b → ∃ (kv : List Key × V) (r : List Key × PyData) (x : KRow), kvs[j]? = some kv ∧ R[j]? = some r ∧ xs'[j]? = some x ∧ kv.1 = r.1 ∧ TD H kv.2 r.2 ∧ kv.1 = x.1 ∧ H x.2.1 = some (.tup (kv.1.map kV)) ∧ L2.RelV kv.2 x.2.2 ∧ h'.get? b = some { cls := .type "tuple", data := .seq #[.ref x.2.1, x.2.2] } := by
    intro j b hj
    obtain ⟨hj1, hg⟩ := G.pairs j b hj
    have hx1 : j < xs'.length := by omega
    have hxj := List.getElem?_eq_getElem hx1
    obtain ⟨kv, hkj, e1, e2, e3⟩ := DX.pget rel hxj
    have hrj : j < R.length := by omega
    have hR := List.getElem?_eq_getElem hrj
    obtain ⟨kv', hkj', e4, e5⟩ := DX.pget hkv hR
    have : kv' = kv := Option.some.inj (hkj'.symm.trans hkj)
    subst this
    have e6 := entry_at hes j
    rw [hxj, Array.getElem?_eq_getElem hj1] at e6
    have e7 : es[j] = entryOfKey (tupleKind (mixKind X.prog X.w)) xs'[j] := Option.some.inj e6
    rw [e7] at hg
    exact ⟨kv', R[j], xs'[j], hkj, hR, hxj, e4, e5, e1, e2, e3, hg⟩
  obtain ⟨H2, I2, k2, t2⟩ := DX.takeT (P := fun b vs => ∃ (j : Nat) (kv : List Key × V) (r : List Key × PyData) (x : Addr), as[j]? = some b ∧ kvs[j]? = some kv ∧ R[j]? = some r ∧ kv.1 = r.1 ∧ TD H kv.2 r.2 ∧ H x = some (.tup (kv.1.map kV)) ∧ vs = [V.ref x, kv.2]) I as _ I1 nd (fun b hb => by
    obtain ⟨j, hj⟩ := List.mem_iff_getElem?.mp hb
    have lt : s.heap.objs.size < b := G.above b hb
    obtain ⟨kv, r, x, e1, e2, e3, e4, e5, e6, e7, e8, e9⟩ := row j b hj
    refine ⟨Nat.le_of_lt lt, ?_, [V.ref x.2.1, kv.2], ⟨j, kv, r, x.2.1, hj, e1, e2, e4, e5, e7, rfl⟩, fun H2 => ⟨by show 2 ≤ sizeLine; decide, [.ref x.2.1, x.2.2], .cons rfl (.cons e8 .nil), _, e9, rfl, _, rfl⟩⟩
    rw [upd_ne (Nat.ne_of_gt lt)]
    exact I.hok.fresh (Nat.le_of_lt lt))
  have sm : Same H H2 := fun b o e => k2 b o (by rw [upd_ne (ne_of_none e nS)]; exact e)
  refine ⟨.ref s.heap.objs.size, H2, I2, rfl, q _ as H2 sm nS (k2 _ _ upd_same) (tds_get (by rw [List.length_map, lak, l3]) fun j b d hj hd => ?_)⟩
  obtain ⟨vs, ⟨j', kv, r, x, f1, f2, f3, f4, f5, f6, rfl⟩, hb2⟩ := t2 b (List.mem_of_getElem? hj)
  have ej : j' = j := by
    have h1 := (List.getElem?_eq_some_iff.mp f1)
    have h2 := (List.getElem?_eq_some_iff.mp hj)
    obtain ⟨a1, a2⟩ := h1
    obtain ⟨b1, b2⟩ := h2
    exact (List.getElem_inj nd).mp (a2.trans b2.symm)
  subst ej
  rw [List.getElem?_map, f3] at hd
  obtain rfl : itemD r = d := Option.some.inj hd
  refine .tup hb2 (.cons (.tup (sm _ _ f6) ?_) (.cons (f5.mono (Tups.same sm)) .nil))
  rw [f4]
  exact tds_keys _
end
end Sb

/-! for k, v in d.items(), the keys tuples. -/
namespace Sb
open PySem PySem.Spec PyProof.Rows L2
def Itit (d : Addr) (o : Obj) (kvs : List (List Key × V)) : It where
  go i H := H d = some (.frz o (.dT kvs)) ∧ i < kvs.length
  yld i H x H' := ∃ T k v q, kvs[i]? = some (k, v) ∧ x = V.ref T ∧ H q = some (.tup (k.map kV)) ∧ H T = none ∧ H' = upd H T (.tup [.ref q, v])
  stop i H := H d = some (.frz o (.dT kvs)) ∧ kvs.length ≤ i
theorem frzT' {X : Cx} {pins : List (Addr × Obj)} {σ : L2.St} {H : Hp} {s : Shared} {d : Addr} {o : Obj} {kvs : List (List Key × V)} (I : L2.Inv X pins σ H s) (hd : H d = some (.frz o (.dT kvs))) :
    s.heap.get? d = some o ∧ o.ExactDict ∧ (d == sysModules) = false ∧ ∃ es ep, o.data = .dict es ep ∧ es.size = kvs.length ∧ ∀ (i : Nat) (k : List Key) (v : V), kvs[i]? = some (k, v) → ∃ en q, es[i]? = some en ∧ en.key = Value.ref q ∧ H q = some (.tup (k.map kV)) ∧ L2.RelV v en.val := by
  have x : ObjOk X.prog X.w H s.heap d (.frz o (.dT kvs)) := I.hok d _ hd
  simp only [ObjOk] at x
  obtain ⟨h1, z, h2, xs, rel, o', es, ep, h3, h4, h5, h6, h7⟩ := x
  have eo : o' = o := Option.some.inj (h3.symm.trans h1)
  subst eo
  have l1 : kvs.length = xs.length := Paired.length rel
  refine ⟨h1, h4, h2, es, ep, h5, by rw [size_of_entries h6, l1], fun i k v hi => ?_⟩
  have lt : i < xs.length := by
    have := (List.getElem?_eq_some_iff.mp hi).1
    omega
  have hx := List.getElem?_eq_getElem lt
  obtain ⟨kv, hk, e1, e2, e3⟩ := DX.pget rel hx
  have ek : kv = (k, v) := Option.some.inj (hk.symm.trans hi)
  subst ek
  have e6 := entry_at h6 i
  rw [hx] at e6
  exact ⟨_, xs[i].2.1, e6, rfl, e2, e3⟩
theorem turn_itemsT {P : Program} {w : World} {K : PySem.W.Frag} {d : Addr} {o : Obj} {es : Array DictEntry} {ep : Nat} {kvs : List (List Key × V)} {elts : List Expr} {kk : Nat} {tpos : Pos} (it : Addr) (hod : o.data = .dict es ep) :
    Turn P w K (.Tuple elts kk tpos) (Itit d o kvs) [it] it fun i h => ∃ ok ov, IsItemIter h it d i kvs.length ep ok ov where
  mem := List.mem_cons_self
  obj := fun i h ⟨ok, ov, e⟩ b hb => by
    obtain rfl : b = it := by simpa using hb
    exact ⟨_, e, fun v z => nomatch z⟩
  keep := fun i h h' ⟨ok, ov, e⟩ k => ⟨ok, ov, k it List.mem_cons_self _ e⟩
  item := by
    intro X hP hw hK hc i pins s σ H E I hf st hg
    subst hP hw
    obtain ⟨hd, hi⟩ := hg
    obtain ⟨hgd, hx, hs, es', ep', hdt, hsz, ent⟩ := frzT' I hd
    obtain ⟨e1, e2⟩ := dict_ep hod hdt
    subst e1 e2
    obtain ⟨⟨k, v⟩, hkv⟩ : ∃ p, kvs[i]? = some p := ⟨_, List.getElem?_eq_getElem hi⟩
    obtain ⟨en, q, hen, hkey, hq, rv⟩ := ent i k v hkv
    obtain ⟨ok, ov, he⟩ := st
    rw [← hsz] at he
    have hlt := Heap.lt_size he
    have hlt' : i < es'.size := by omega
    have een : es'[i] = en := Option.some.inj ((Array.getElem?_eq_getElem hlt').symm.trans hen)
    refine wpAny_pyNext_items_item_raw he ⟨o, hgd, hx, hdt⟩ hlt' fun h' ho hT hz hk => ⟨_, rfl, ?_⟩
    rw [een] at ho hT
    refine wpAny_letOwnedTupleGo_items ho fun h'' he' sb => ?_
    have hT2 : h''.get? s.heap.objs.size = some { cls := .type "tuple", data := .seq #[en.key, en.val] } := (sb.2 _ (Nat.ne_of_gt hlt)).trans hT
    have new : ObjOk X.prog X.w (upd H s.heap.objs.size (.tup [.ref q, v])) h'' s.heap.objs.size (.tup [.ref q, v]) := ⟨by show 2 ≤ sizeLine; decide, [en.key, en.val], .cons hkey (.cons rv .nil), _, hT2, rfl, _, rfl⟩
    have I1 := Inv.turnedNew (t' := s.toks) I (ch := [it]) (fun b ob hb e => by
      have nb : b ≠ it := fun z => hb (z ▸ List.mem_cons_self)
      exact (sb.2 b nb).trans (hk b ob nb e)) hf (Nat.le_refl _) new
    refine ⟨.ref s.heap.objs.size, _, I1, rfl, ⟨_, k, v, q, hkv, rfl, hq, I.hok.fresh (Nat.le_refl _), rfl⟩, ⟨_, _, by rw [hsz] at he'; exact he'⟩, fun b hb => ?_⟩
    obtain rfl : b = it := by simpa using hb
    rw [upd_ne (Nat.ne_of_lt hlt)]
    exact (hf b List.mem_cons_self).1
  done := by
    intro X hP hw hK hc i pins s σ H E I hf st hg
    subst hP hw
    obtain ⟨hd, hi⟩ := hg
    obtain ⟨hgd, hx, hs, es', ep', hdt, hsz, ent⟩ := frzT' I hd
    obtain ⟨e1, e2⟩ := dict_ep hod hdt
    subst e1 e2
    obtain ⟨f0, f1, f2, f3, f4, f5⟩ := hf it List.mem_cons_self
    obtain ⟨ok, ov, he⟩ := st
    rw [← hsz] at he
    exact wpAny_pyNext_items_end_raw (I.ok.hd hc) he ⟨o, hgd, hx, hdt⟩ (by omega) fun h' eb => ⟨rfl, Inv.turned I (fun b ob hb e => eb b ob hb e) f0 f1 f3 f4 f5⟩
  self := fun A i s Q E ⟨_, _, e⟩ h => PySem.W.kcp_self e h
section
variable {X : Cx}
def iItemsT (td : TE) : TI := fun σ H R => td σ H fun x H1 => ∃ d o kvs, x = V.ref d ∧ H1 d = some (.frz o (.dT kvs)) ∧ R (Itit d o kvs) H1
theorem pi_itemsT {e : Expr} {td : TE} {apos cpos : Pos} {elts : List Expr} {kk : Nat} {tpos : Pos} (he : PE X e td) (hbase : attributeBase e (Str.ofString "items") X.env (eval e X.env) = eval e X.env := by rfl) (hline : (apos.endLine == cpos.line) = true := by rfl) :
    PI X (.Tuple elts kk tpos) (.Call (.Attribute e (Str.ofString "items") apos) [] [] cpos) (iItemsT td) := by
  refine ⟨fun pins s σ H R I h => ?_⟩
  refine wpAny_Call_method hbase rfl hline PySem.F.plainAttrs_dict PySem.F.slot_dict_items PySem.F.type_dict_items (thn (he.run pins s σ H _ I h) fun u s1 ⟨x, H1, I1, rx, d, o, kvs, ex, hd, q⟩ => ?_)
  subst ex
  obtain rfl : u = Value.ref d := rx
  obtain ⟨hgd, hx, hs, es, ep, hdt, hsz, ent⟩ := frzT' I1 hd
  have raw : DT.Raw s1.heap d es ep := ⟨o, hgd, hx, hdt⟩
  refine ⟨DT.Raw.typeIs raw, fun a e => by cases e; exact ⟨o, hgd, hx.2.1⟩, ?_⟩
  have I2 : L2.Inv X pins σ H1 { s1 with heap := s1.heap.push { cls := .type "dict_items", data := .fields #[.ref d] } } := Inv.kept I1 fun b ob q => Heap.get?_push_of_some _ q
  have fin := DT.iterI (prog := X.prog) (w := X.w) (A := X.A) (E := X.xe) (Q := PIE X pins σ (.Tuple elts kk tpos) R) (s := { s1 with heap := s1.heap.push { cls := .type "dict_items", data := .fields #[.ref d] } }) (v := s1.heap.objs.size) ⟨_, Heap.get?_push_size _ rfl, rfl, rfl⟩ (DT.Raw.push raw _) (pi_one I2 _ (turn_itemsT _ hdt) ⟨.none, .none, by rw [← hsz]; exact Heap.get?_push_size _ rfl⟩ q)
  refine method_meetsIn PySem.F.slot_dict_items PySem.F.entry_dict_items rfl (PySem.evalArgs_none ⟨rfl, DT.Raw.typeIs raw, PySem.F.args_dict_items_1 _, _, DT.meetsItems hs, raw, fin⟩)
end
theorem walk_itemsT {d : Addr} {o : Obj} {kvs : List (List Key × V)} : Walk (Itit d o kvs) kvs.length (fun H => H d = some (.frz o (.dT kvs))) (fun i H x H' => ∃ T k v q, kvs[i]? = some (k, v) ∧ x = V.ref T ∧ H q = some (.tup (k.map kV)) ∧ H T = none ∧ H' = upd H T (.tup [.ref q, v])) where
  goes := fun _ _ hi q => ⟨q, hi⟩
  stops := fun _ q => ⟨q, Nat.le_refl _⟩
  yields := fun _ _ _ _ _ _ y => y
end Sb

/-! isinstance of a caught error that has fields. -/
namespace Sb
open PySem PySem.Spec PyProof.Rows L2
theorem kit_sub {K : PySem.W.Frag} {C : Addr} {T : String} {b : Bool} (h : PySem.W.subIn K (.ref C) (.type T) = some b) (m : PySem.W.kitMeta T = true) : PySem.W.kitOne K (.ref C) (.type T) = some b := by
  unfold PySem.W.kitOne
  rw [if_neg (fun z => by cases (beq_iff_eq.mp z))]
  unfold PySem.W.kitCls
  dsimp only
  rw [if_pos m]
  exact h
section
open L2
def rIsED (K : PySem.W.Frag) (D a : Addr) (cls : Value) (d : Option Addr) : List V → Hp → VK → Prop := fun xs H Q => ∃ (c : V) (cv : Value) (b : Bool) (dd : Addr) (fs : List (Str × V)), xs = [.ref a, c] ∧ cls = .ref D ∧ d = some dd ∧ H dd = some (.xd fs) ∧ (∀ u, RelV c u → u = cv) ∧ PySem.W.kitOne K (.ref D) cv = some b ∧ Q (.bl b) H
theorem call_isED {X : Cx} {a D : Addr} {oe : Obj} {cls : Value} {d : Option Addr} {pn : List (Addr × Obj)} (C : ExcC X.K D) (hz : Zc cls d oe) (hf : ∃ vs, oe.data = .fields vs) : CallR (X.suite a ((a, oe) :: pn)) (.builtin "isinstance") (rIsED X.K D a cls d) := by
  intro pins s σ H xs us Q I r h
  obtain ⟨c, cv, b, dd, fs, rfl, rfl, rfl, hdd, hcv, e, q⟩ := h
  cases r with
  | cons rx rr =>
    cases rr with
    | cons rt rr =>
      cases rr
      cases rx
      have ec := hcv _ rt
      subst ec
      obtain ⟨hget, _⟩ := I.pin (a, oe) (List.mem_append.mpr (.inl List.mem_cons_self))
      obtain ⟨vs, hv⟩ := hf
      obtain ⟨od, hod⟩ : ∃ od, s.heap.get? dd = some od := by
        obtain ⟨mA, ⟨od, es, ep, e, c⟩, r⟩ := (show ObjOk X.prog X.w H s.heap dd (.xd fs) from I.hok dd _ hdd)
        exact ⟨_, e⟩
      have J : PySem.W.InstAt s.heap a oe D (some od) := by
        obtain ⟨oc, odd, oda, osl⟩ := oe
        obtain ⟨h1, h2⟩ := hz
        dsimp only at h1 h2 hv
        subst h1 h2 hv
        exact ⟨hget, rfl, rfl, hod⟩
      obtain ⟨cdD, hcD, _⟩ := PySem.W.any_some C.hd
      exact PySem.W.kia_one (PySem.W.kitx_exc (od := some od) (by rw [hcD]; rfl) C.hg C.hk C.hs C.ha C.hn C.ht C.hm) I.kIn J e (fun z => nomatch z) fun tk => ⟨.bl b, H, I.kept (t' := tk) fun _ _ z => z, rfl, q⟩
end
end Sb

/-! sorted(a list of data), by the data's own order. -/
namespace Sb
open PySem PySem.Spec PyProof.Rows L2
open PySem.W (EachIs dataLe AllAlike Sortable)
/-- an item beside what it stands for -/
def rSortDd (K : PySem.W.Frag) {δ : Type} (enc : δ → PyData) : List V → Hp → VK → Prop := fun xs H Q => ∃ (l : Addr) (bs : List (V × δ)), xs = [.ref l] ∧ SqL K H l (bs.map (·.1)) ∧ (∀ b ∈ bs, Dp K H b.1 (enc b.2)) ∧ (∀ b b' : δ, PySem.W.alike (enc b) (enc b') = true) ∧ (∀ b : δ, ∃ x r, enc b = .tuple (x :: r)) ∧ (∀ b ∈ bs, (enc b.2).depth ≤ 8) ∧
  ∀ p, H p = none → Q (.ref p) (upd H p (.lst ((bs.mergeSort (dataLe false fun b => enc b.2)).map (·.1))))
theorem each_vals {δ : Type} : ∀ {bs : List (V × δ)} {us : List Value}, Vals (bs.map (·.1)) us → EachIs (fun u b => RelV b.1 u) us bs
  | [], _, h => by cases h; exact .nil
  | b :: bs, _, h => by
    cases h with
    | cons a t => exact .cons a (each_vals t)
theorem vals_each {δ : Type} : ∀ {bs : List (V × δ)} {us : List Value}, EachIs (fun u b => RelV b.1 u) us bs → Vals (bs.map (·.1)) us
  | [], _, h => by cases h; exact .nil
  | b :: bs, _, h => by
    cases h with
    | cons a t => exact .cons a (vals_each t)
theorem call_sortDd {X : Cx} {δ : Type} {enc : δ → PyData} (hu : X.A.units + 64 < cLine) : CallR X (.builtin "sorted") (rSortDd X.K enc) := by
  intro pins s σ H xs us Q I r h
  obtain ⟨l, bs, rfl, hl, hD, hal, hk, hdp, q⟩ := h
  obtain ⟨u, rfl, rx⟩ := vals1 r
  obtain rfl : u = Value.ref l := rx
  obtain ⟨its, rv, pl, hz⟩ := I.list hl
  have each := each_vals rv
  have le : its.length = bs.length := each.length
  have reads : EachIs (fun v b => ∃ as, Reads s.heap v (enc b.2) as) its bs := by
    have : ∀ {bs : List (V × δ)} {us : List Value}, (∀ b ∈ bs, Dp X.K H b.1 (enc b.2)) → EachIs (fun u b => RelV b.1 u) us bs → EachIs (fun v b => ∃ as, Reads s.heap v (enc b.2) as) us bs := by
      intro bs
      induction bs with
      | nil => intro us _ h; cases h; exact .nil
      | cons b bs ih =>
        intro us hd h
        cases h with
        | cons a t => exact .cons (Dp.reads I _ _ _ (hd b List.mem_cons_self) a) (ih (fun x hx => hd x (List.mem_cons_of_mem _ hx)) t)
    exact this hD each
  rw [List.length_map] at hz
  refine PySem.W.sorted_data (R := fun u b => RelV b.1 u) (enc := fun b : V × δ => enc b.2) pl.isList each reads (AllAlike.of fun a b => hal _ _) (Sortable.tuples fun b => hk _) hz (fun b hb => ?_) fun out lo ho => ?_
  · have := hdp b hb
    omega
  · obtain ⟨e, ee⟩ := sortedAll_at s.heap its (List.toArray out)
    have vo := vals_each ho
    have k : ∀ c o, s.heap.get? c = some o → (sortedAll s.heap its (List.toArray out)).get? c = some o := fun c o hc => sortedAll_old hc
    have hz2 : ((bs.mergeSort (dataLe false fun b => enc b.2)).map (·.1)).length ≤ sizeLine := by
      rw [List.length_map, (List.mergeSort_perm _ _).length_eq]
      exact hz
    exact ⟨.ref (s.heap.objs.size + 1), _, I.laid (o := .lst ((bs.mergeSort (dataLe false fun b => enc b.2)).map (·.1))) (t' := s.toks) k (Nat.le_succ _) ⟨hz2, out, e, vo, ee⟩, rfl, q _ (I.hok.fresh (Nat.le_succ _))⟩
end Sb

/-! Dicts whose keys are nested tuples (situations): {}, k in d, d[k], d[k] = v, sorted(d). -/
namespace Sb
open PySem PySem.Spec PyProof.Rows L2
open PySem.W (EachIs dataLe AllAlike Sortable)
mutual
/-- a nested key as data -/
def nkD : NestedKey → PyData
  | .none => .none
  | .num i => .int i
  | .text x => .str x
  | .tup ks => .tuple (nkDs ks)
def nkDs : List NestedKey → List PyData
  | [] => []
  | k :: r => nkD k :: nkDs r
end
mutual
theorem nkD_depth : ∀ k : NestedKey, (nkD k).depth ≤ k.depth
  | .none => Nat.zero_le _
  | .num _ => Nat.zero_le _
  | .text _ => Nat.zero_le _
  | .tup ks => by
    have := nkDs_depth ks
    show PyData.depthAll (nkDs ks) + 1 ≤ NestedKey.depth (.tup ks)
    rw [NestedKey.depth]
    omega
theorem nkDs_depth : ∀ ks : List NestedKey, PyData.depthAll (nkDs ks) ≤ NestedKey.depthAll ks
  | [] => Nat.zero_le _
  | k :: r => by
    have h1 := nkD_depth k
    have h2 := nkDs_depth r
    show max (nkD k).depth (PyData.depthAll (nkDs r)) ≤ NestedKey.depthAll (k :: r)
    rw [NestedKey.depthAll]
    omega
end
abbrev NRow := NestedKey × Addr × Value
/-- what stands at a: a dict of these entries -/
def NO (P : Program) (w : World) (a : Addr) (xs : List NRow) : HO := .ext fun h => (a == sysModules) = false ∧ xs.length ≤ sizeLine ∧ ∃ o es ep, h.get? a = some o ∧ o.ExactDict ∧ o.data = .dict es ep ∧ es.toList = xs.map (entryOfKey (nestedKind P w)) ∧ (xs.map (·.1)).Nodup
/-- a key's value, in the heap -/
def NKey (H : Hp) (k : NestedKey) (v : V) : Prop := k.depth ≤ 8 ∧ TD H v (nkD k) ∧ ∃ ks, k = .tup ks
theorem NKey.mono {H H' : Hp} {k : NestedKey} {v : V} (t : Tups H H') (h : NKey H k v) : NKey H' k v := ⟨h.1, TD.mono t _ h.2.1, h.2.2⟩
abbrev NRel (H : Hp) : List (NestedKey × V) → List NRow → Prop := Paired fun p q => p.1 = q.1 ∧ NKey H p.1 (.ref q.2.1) ∧ RelV p.2 q.2.2
theorem NRel.mono {H H' : Hp} {kvs : List (NestedKey × V)} {xs : List NRow} (t : Tups H H') (h : NRel H kvs xs) : NRel H' kvs xs := Paired.mapP h fun _ _ z => ⟨z.1, z.2.1.mono t, z.2.2⟩
theorem NRel.val {H : Hp} {kvs : List (NestedKey × V)} {xs : List NRow} (r : NRel H kvs xs) (k : NestedKey) : RelO (valV kvs k) ((atKey xs k).map (·.2)) := by
  induction r with
  | nil => exact True.intro
  | @cons p q ps qs h t ih =>
    by_cases e : p.1 = k
    · have e' : q.1 = k := h.1.symm.trans e
      have b : atKey (q :: qs) k = some q.2 := by simp [atKey, List.find?_cons, e']
      rw [valV_pos e, b]
      exact h.2.2
    · have e' : ¬ q.1 = k := fun z => e (h.1.trans z)
      have b : atKey (q :: qs) k = atKey qs k := by simp [atKey, List.find?_cons, e']
      rw [valV_neg e, b]
      exact ih
theorem NRel.repl {H : Hp} {kvs : List (NestedKey × V)} {xs : List NRow} (r : NRel H kvs xs) (k : NestedKey) {y : V} {u : Value} (ry : RelV y u) : NRel H (kvs.map fun kv => if kv.1 = k then (kv.1, y) else kv) (xs.map (putAt k u)) := by
  induction r with
  | nil => exact .nil
  | @cons p q ps qs h t ih =>
    refine .cons ?_ ih
    dsimp only
    by_cases e : p.1 = k
    · have e' : q.1 = k := h.1.symm.trans e
      rw [if_pos e, show putAt k u q = (q.1, q.2.1, u) from if_pos e']
      exact ⟨h.1, h.2.1, ry⟩
    · have e' : ¬ q.1 = k := fun z => e (h.1.trans z)
      rw [if_neg e, show putAt k u q = q from if_neg e']
      exact h
theorem NRel.put {H : Hp} {kvs : List (NestedKey × V)} {xs : List NRow} (r : NRel H kvs xs) {k : NestedKey} {b : Addr} {y : V} {u : Value} (hb : NKey H k (.ref b)) (ry : RelV y u) : NRel H (putK kvs k y) (storedH xs k b u) := by
  have e : (kvs.any fun kv => decide (kv.1 = k)) = (atKey xs k).isSome := by
    rw [valV_any, (r.val k).isSome_eq, Option.isSome_map]
  unfold putK storedH
  rw [e]
  by_cases q : (atKey xs k).isSome = true
  · rw [if_pos q, if_pos q]
    exact r.repl k ry
  · rw [if_neg q, if_neg q]
    exact Paired.snoc r ⟨rfl, hb, ry⟩
/-- at a stands a dict of these keys and values -/
def NDict (P : Program) (w : World) (H : Hp) (a : Addr) (kvs : List (NestedKey × V)) : Prop := ∃ xs, H a = some (NO P w a xs) ∧ NRel H kvs xs
theorem NDict.keep {P : Program} {w : World} {H H' : Hp} {a : Addr} {kvs : List (NestedKey × V)} (h : NDict P w H a kvs) (t : Tups H H') (k : ∀ o, H a = some o → H' a = some o) : NDict P w H' a kvs := by
  obtain ⟨xs, e, r⟩ := h
  exact ⟨xs, k _ e, r.mono t⟩
theorem NDict.mono {P : Program} {w : World} {H H' : Hp} {a : Addr} {kvs : List (NestedKey × V)} (h : NDict P w H a kvs) (s : Same H H') : NDict P w H' a kvs := h.keep (Tups.same s) (fun _ z => s _ _ z)
theorem NDict.some {P : Program} {w : World} {H : Hp} {a : Addr} {kvs : List (NestedKey × V)} (h : NDict P w H a kvs) : ∃ φ, H a = some (.ext φ) := let ⟨_, e, _⟩ := h; ⟨_, e⟩
section
variable {X : Cx} {pins : List (Addr × Obj)} {σ : L2.St} {H : Hp} {s : Shared} {a : Addr} {kvs : List (NestedKey × V)} {k : NestedKey} {y v : V} {u r : Value} {A : Around} {E : Value → Shared → Prop}
mutual
theorem nested_of (I : Inv X pins σ H s) : ∀ (k : NestedKey) (v : V) (u : Value), TD H v (nkD k) → RelV v u → NestedIs s.heap k u
  | .none, _, u, h, r => by
    cases h
    obtain rfl : u = Value.none := r
    exact .none
  | .num i, _, u, h, r => by
    cases h
    obtain ⟨t, rfl⟩ := r
    exact .int i t
  | .text x, _, u, h, r => by
    cases h
    obtain ⟨t, rfl⟩ := r
    exact .text x t
  | .tup ks, _, u, h, r => by
    cases h with
    | @tup a xs ds e d =>
      obtain rfl : u = Value.ref a := r
      obtain ⟨_, its, rv, o, h1, h2, n, h3⟩ := (show ObjOk X.prog X.w H s.heap a (.tup xs) from I.hok a _ e)
      exact .tup h1 h2 h3 (by simpa using nested_all I ks xs its d rv)
theorem nested_all (I : Inv X pins σ H s) : ∀ (ks : List NestedKey) (vs : List V) (us : List Value), TDs H vs (nkDs ks) → Vals vs us → NestedAll s.heap ks us
  | [], _, _, h, r => by
    cases h
    cases r
    exact .nil
  | k :: ks, _, _, h, r => by
    cases h with
    | cons h1 h2 =>
      cases r with
      | cons r1 r2 => exact .cons (nested_of I k _ _ h1 r1) (nested_all I ks _ _ h2 r2)
end
mutual
theorem nested_rd (I : Inv X pins σ H s) : ∀ (k : NestedKey) (v : V) (u : Value), TD H v (nkD k) → RelV v u → Reads s.heap u (nkD k) []
  | .none, _, u, h, r => by
    cases h
    obtain rfl : u = Value.none := r
    exact .none
  | .num i, _, u, h, r => by
    cases h
    obtain ⟨t, rfl⟩ := r
    exact .int i t
  | .text x, _, u, h, r => by
    cases h
    obtain ⟨t, rfl⟩ := r
    exact .str x t
  | .tup ks, _, u, h, r => by
    cases h with
    | @tup a xs ds e d =>
      obtain rfl : u = Value.ref a := r
      obtain ⟨_, its, rv, o, h1, h2, n, h3⟩ := (show ObjOk X.prog X.w H s.heap a (.tup xs) from I.hok a _ e)
      exact .tuple h1 h2 h3 (by simpa using nested_rds I ks xs its d rv)
theorem nested_rds (I : Inv X pins σ H s) : ∀ (ks : List NestedKey) (vs : List V) (us : List Value), TDs H vs (nkDs ks) → Vals vs us → ReadsAll s.heap us (nkDs ks) []
  | [], _, _, h, r => by
    cases h
    cases r
    exact .nil
  | k :: ks, _, _, h, r => by
    cases h with
    | cons h1 h2 =>
      cases r with
      | cons r1 r2 => exact .cons (as := []) (bs := []) (nested_rd I k _ _ h1 r1) (nested_rds I ks _ _ h2 r2)
end
theorem nkey_of (I : Inv X pins σ H s) {b : Addr} (h : NKey H k (.ref b)) : (nestedKind X.prog X.w).is s.heap k b := ⟨nested_of I k _ _ h.2.1 rfl, h.1⟩
theorem nd_of (I : Inv X pins σ H s) (h : NDict X.prog X.w H a kvs) : (a == sysModules) = false ∧ kvs.length ≤ sizeLine ∧ ∃ xs, NRel H kvs xs ∧ xs.length ≤ sizeLine ∧ s.heap.DictOfH (nestedKind X.prog X.w) a xs := by
  obtain ⟨xs, e, r⟩ := h
  obtain ⟨⟨c1, c2, o, es, ep, h1, h2, h3, h4, h5⟩, _⟩ := (show ObjOk X.prog X.w H s.heap a (NO X.prog X.w a xs) from I.hok a _ e)
  refine ⟨c1, by rw [Paired.length r]; exact c2, xs, r, c2, o, es, ep, h1, h2, h3, h4, fun x hx => ?_, h5⟩
  have all : ∀ {l : List (NestedKey × V)} {m : List NRow}, NRel H l m → ∀ x ∈ m, (nestedKind X.prog X.w).is s.heap x.1 x.2.1 := by
    intro l m q
    induction q with
    | nil => intro x hx; exact nomatch hx
    | @cons p q ps qs hq t ih =>
      intro x hx
      rcases List.mem_cons.mp hx with e | hx
      · subst e
        exact nkey_of I (by rw [← hq.1]; exact hq.2.1)
      · exact ih x hx
  exact all r x hx
theorem room8 (hu : A.units + 64 < cLine) : (nestedKind X.prog X.w).room A.in1 := by
  show A.units + 1 + 8 < cLine
  omega
/-- k in d, k not in d -/
def rInN (P : Program) (w : World) (neg : Bool) : R2 := fun x y H Q => ∃ a k kvs, y = .ref a ∧ NKey H k x ∧ NDict P w H a kvs ∧ Q (.bl (if neg then !(valV kvs k).isSome else (valV kvs k).isSome)) H
theorem nk_ref (h : NKey H k y) : ∃ b, y = .ref b := by
  obtain ⟨_, t, ks, rfl⟩ := h
  cases t
  exact ⟨_, rfl⟩
theorem op_inN (hu : X.A.units + 64 < cLine) : OpR X (compareOp .In) (rInN X.prog X.w false) := by
  intro pins s σ H x y v u Q I rx ry h
  obtain ⟨a, k, kvs, rfl, hk, hd, q⟩ := h
  obtain ⟨b, rfl⟩ := nk_ref hk
  obtain rfl : v = Value.ref b := rx
  obtain rfl : u = Value.ref a := ry
  obtain ⟨c1, c2, xs, rel, _, dd⟩ := nd_of I hd
  refine wpAny_in_heap (room8 hu) (nkey_of I hk) c1 dd ?_
  have e := (rel.val k).isSome_eq
  rw [Option.isSome_map] at e
  rw [← e]
  exact ⟨.bl (valV kvs k).isSome, H, I.tok _, rfl, q⟩
theorem op_notInN (hu : X.A.units + 64 < cLine) : OpR X (compareOp .NotIn) (rInN X.prog X.w true) := by
  intro pins s σ H x y v u Q I rx ry h
  obtain ⟨a, k, kvs, rfl, hk, hd, q⟩ := h
  obtain ⟨b, rfl⟩ := nk_ref hk
  obtain rfl : v = Value.ref b := rx
  obtain rfl : u = Value.ref a := ry
  obtain ⟨c1, c2, xs, rel, _, dd⟩ := nd_of I hd
  refine wpAny_notIn_heap (room8 hu) (nkey_of I hk) c1 dd ?_
  have e := (rel.val k).isSome_eq
  rw [Option.isSome_map] at e
  rw [← e]
  exact ⟨.bl (!(valV kvs k).isSome), H, I.tok _, rfl, q⟩
/-- d[k], there -/
def tGetN (P : Program) (w : World) (td ty : TE) : TE := fun σ H Q => td σ H fun x H1 => ty σ H1 fun y H2 => ∃ a k kvs v, x = .ref a ∧ NKey H2 k y ∧ NDict P w H2 a kvs ∧ valV kvs k = some v ∧ Q v H2
theorem pe_getN {value slice : Expr} {pos : Pos} {td ty : TE} (hu : X.A.units + 64 < cLine) (ho : PE X value td) (hi : PE X slice ty) (hs : NoSl slice := by intro _ _; rfl) : PE X (.Subscript value slice pos) (tGetN X.prog X.w td ty) := by
  refine ⟨fun pins s σ H Q I h => ?_⟩
  refine subD_of (T := "dict") (id := "dict.__getitem__") (by first | exact slot_dict_getitem.lookup | exact PySem.F.slot_dict_getitem.lookup) hs (thn (ho.run pins s σ H _ I h) fun u s1 ⟨x, H1, I1, rx, q1⟩ => thn (hi.run pins s1 σ H1 _ I1 q1) fun iv s2 ⟨y, H2, I2, ry, a, k, kvs, v, ex, hk, hd, l, q2⟩ => ?_)
  subst ex
  obtain rfl : u = Value.ref a := rx
  obtain ⟨b, rfl⟩ := nk_ref hk
  obtain rfl : iv = Value.ref b := ry
  obtain ⟨c1, c2, xs, rel, _, dd⟩ := nd_of I2 hd
  obtain ⟨w', hw, rw'⟩ := RelO.some_of (v := v) (o := (atKey xs k).map (·.2)) (by rw [← l]; exact rel.val k)
  obtain ⟨p, hp, hp2⟩ := Option.map_eq_some_iff.mp hw
  refine ⟨dd.typeIs, wpAny_getItem_heap (room8 hu) (nkey_of I2 hk) dd hp ?_⟩
  rw [hp2]
  exact ⟨v, H2, I2.tok _, rw', q2⟩
/-- d[k] = v -/
def sPutN (P : Program) (w : World) (td ty tv : TE) : TS := fun D σ H => tv σ H fun v H1 => td σ H1 fun x H2 => ty σ H2 fun y H3 => ∃ a k kvs, x = .ref a ∧ NKey H3 k y ∧ NDict P w H3 a kvs ∧ kvs.length < sizeLine ∧
  ∀ H4, (∀ c, c ≠ a → H4 c = H3 c) → NDict P w H4 a (putK kvs k v) → D.nx σ H4
theorem ps_putN {o i value : Expr} {pos pos' : Pos} {td ty tv : TE} (hu : X.A.units + 64 < cLine) (ho : PE X o td) (hi : PE X i ty) (hv : PE X value tv) (hs : swapsWith value (some (.Subscript o i pos')) pos.line X.env = pure false) :
    PS X (.Assign [.Subscript o i pos'] value pos) (sPutN X.prog X.w td ty tv) := by
  refine ⟨fun pins s σ H D I h => ?_⟩
  refine wpAny_Assign_Subscript (thn (hv.run pins s σ H _ I h) fun r s1 ⟨v, H1, I1, rv, q1⟩ => thn (ho.run pins s1 σ H1 _ I1 q1) fun u s2 ⟨x, H2, I2, rx, q2⟩ => thn (hi.run pins s2 σ H2 _ I2 q2) fun iv s3 ⟨y, H3, I3, ry, a, k, kvs, ex, hk, hd, hl, q3⟩ => ?_) hs
  subst ex
  obtain rfl : u = Value.ref a := rx
  obtain ⟨b, rfl⟩ := nk_ref hk
  obtain rfl : iv = Value.ref b := ry
  obtain ⟨c1, c2, xs, rel, hz, dd⟩ := nd_of I3 hd
  obtain ⟨φ, ea⟩ := hd.some
  refine wpAny_setItem_heap (hsz := hz) (room8 hu) (nkey_of I3 hk) dd fun h' dd' hs' => ?_
  obtain ⟨q, es, ep, hq, h2, h3, h4, _, h5⟩ := dd'
  have rel' := rel.put hk rv
  have ll : (putK kvs k v).length ≤ kvs.length + 1 := length_putK kvs k v
  have lx : (storedH xs k b r).length ≤ sizeLine := by
    rw [← Paired.length rel']
    omega
  have tp : Tups H3 (upd H3 a (NO X.prog X.w a (storedH xs k b r))) := Tups.put ea (fun _ z => nomatch z)
  refine ⟨σ, upd H3 a (NO X.prog X.w a (storedH xs k b r)), d_write I3 (by rw [ea]; exact True.intro) hs' ⟨q, hq⟩ ⟨⟨c1, lx, q, es, ep, hq, h2, h3, h4, h5⟩, ⟨q, hq⟩, ?_⟩, q3 _ (fun c hc => upd_ne hc) ⟨_, upd_same, rel'.mono tp⟩⟩
  rintro h1 h2 ⟨d1, d2, o, es, ep, e1, e2⟩ kp
  exact ⟨d1, d2, o, es, ep, kp _ e1, e2⟩
/-- {}, to be such a dict -/
def tNewN (P : Program) (w : World) : TE := fun _ H Q => ∀ p, H p = none → Q (.ref p) (upd H p (NO P w p []))
theorem NDict.new {P : Program} {w : World} {H : Hp} {p : Addr} : NDict P w (upd H p (NO P w p [])) p [] := ⟨[], upd_same, .nil⟩
theorem pe_newN {pos : Pos} : PE X (.Dict [] [] pos) (tNewN X.prog X.w) := ⟨fun pins s σ H Q I h => by
  have hb : (s.heap.objs.size == sysModules) = false := beq_eq_false_iff_ne.mpr (Ne.symm (Nat.ne_of_lt I.big))
  refine wpAny_Dict_empty ⟨.ref s.heap.objs.size, _, I.laid (a := s.heap.objs.size) (o := NO X.prog X.w s.heap.objs.size []) (t' := s.toks) (fun _ _ q => Heap.get?_push_of_some _ q) (Nat.le_refl _) ⟨⟨hb, Nat.zero_le _, _, #[], 0, Heap.get?_push_size _ rfl, ⟨rfl, rfl, rfl⟩, rfl, rfl, List.nodup_nil⟩, ⟨_, Heap.get?_push_size _ rfl⟩, ?_⟩, rfl, h _ (I.hok.fresh (Nat.le_refl _))⟩
  rintro h1 h2 ⟨d1, d2, o, es, ep, e1, e2⟩ kp
  exact ⟨d1, d2, o, es, ep, kp _ e1, e2⟩⟩
theorem each_refsN : ∀ ks : List NRow, EachIs (fun (v : Value) (x : NRow) => v = .ref x.2.1) (ks.map fun x => Value.ref x.2.1) ks
  | [] => .nil
  | _ :: r => .cons rfl (each_refsN r)
theorem refs_eachN : ∀ {out : List Value} {ks : List NRow}, EachIs (fun (v : Value) (x : NRow) => v = .ref x.2.1) out ks → out = (ks.map fun x => x.2.1).map Value.ref
  | _, _, .nil => rfl
  | _, _, .cons h t => by
    rw [List.map_cons, List.map_cons, ← refs_eachN t, h]
/-- these keys at these addresses -/
def IsNK (H : Hp) (ks : List NestedKey) (bs : List Addr) : Prop := Paired (fun k b => NKey H k (.ref b)) ks bs
theorem IsNK.mono {H H' : Hp} {ks : List NestedKey} {bs : List Addr} (h : IsNK H ks bs) (t : Tups H H') : IsNK H' ks bs := Paired.mapP h fun _ _ z => z.mono t
theorem isNK_of {H : Hp} : ∀ {ks : List NRow}, (∀ x ∈ ks, NKey H x.1 (.ref x.2.1)) → IsNK H (ks.map (·.1)) (ks.map fun x => x.2.1)
  | [], _ => .nil
  | x :: r, h => .cons (h x List.mem_cons_self) (isNK_of fun y hy => h y (List.mem_cons_of_mem _ hy))
theorem nrel_mem {H : Hp} {kvs : List (NestedKey × V)} {xs : List NRow} (r : NRel H kvs xs) : kvs.map (·.1) = xs.map (·.1) ∧ ∀ x ∈ xs, NKey H x.1 (.ref x.2.1) := by
  induction r with
  | nil => exact ⟨rfl, fun _ h => by cases h⟩
  | @cons a b l1 l2 h t ih =>
    refine ⟨by rw [List.map_cons, List.map_cons, h.1, ih.1], fun x hx => ?_⟩
    rcases List.mem_cons.mp hx with rfl | hx
    · rw [← h.1]
      exact h.2.1
    · exact ih.2 x hx
/-- the keys in the order of their data -/
def srtN (ks : List NestedKey) : List NestedKey := ks.mergeSort (dataLe false nkD)
/-- all these data are alike, none empty -/
def NOrd (ks : List NestedKey) : Prop := (∀ a ∈ ks, ∀ b ∈ ks, PySem.W.alike (nkD a) (nkD b) = true) ∧ ∀ a ∈ ks, ∃ x r, nkD a = .tuple (x :: r)
/-- sorted(d) -/
def rSortN (P : Program) (w : World) : List V → Hp → VK → Prop := fun xs H Q => ∃ (d : Addr) (kvs : List (NestedKey × V)), xs = [.ref d] ∧ NDict P w H d kvs ∧ NOrd (kvs.map (·.1)) ∧ ∀ p bs, H p = none → IsNK H (srtN (kvs.map (·.1))) bs → Q (.ref p) (upd H p (.lst (bs.map V.ref)))
theorem call_sortN (hc : X.calm = true) (hu : X.A.units + 64 < cLine) : CallR X (.builtin "sorted") (rSortN X.prog X.w) := by
  intro pins s σ H xs us Q I r h
  obtain ⟨d, kvs, rfl, hd, hord, q⟩ := h
  obtain ⟨u, rfl, rx⟩ := vals1 r
  obtain rfl : u = Value.ref d := rx
  obtain ⟨lo, c2, ks, rel, hz, o, es, ep, ho, hx, hdt, he, hki, hn⟩ := nd_of I hd
  have l1 : es.size = ks.length := size_of_entries he
  obtain ⟨ek, hks⟩ := nrel_mem rel
  show wpAny _ _ (call (.builtin "sorted") [.ref d]) _ _ _
  refine PySem.Calls.call_function_entry PyProof.Rows.kind_sorted PyProof.Rows.plain_sorted PyProof.Rows.entry_sorted (by first | exact args_sorted1 _ | exact PyProof.Rows.args_sorted1 _ | exact PySem.args_sorted1 _) ?_
  unfold Builtin.«sorted»
  refine wpAny_bind (m := checkCount "sorted" 1 1 _) (wpAny_pure ?_)
  refine wpAny_bind (PySem.W.kdu_collect (A := X.A.in1) (kdl_raw lo hx hdt) (I.ok.hd hc) ho (by omega) fun h' tk acc kp it => ?_)
  have ea : acc.toList = ks.map fun x => Value.ref x.2.1 := by
    apply List.ext_getElem?
    intro j
    have la : acc.toList.length = ks.length := by
      rw [Array.length_toList, it.1, l1]
    rw [List.getElem?_map]
    by_cases hj : j < ks.length
    · have e1 : acc.toList[j]? = some acc.toList[j] := List.getElem?_eq_getElem (by omega)
      obtain ⟨en, hen, hv⟩ := it.2 j _ ((Array.getElem?_toList).symm.trans e1)
      have e2 := entry_at he j
      rw [hen, List.getElem?_eq_getElem hj] at e2
      have e3 : en = entryOfKey (nestedKind X.prog X.w) ks[j] := Option.some.inj e2
      rw [e1, hv, e3, List.getElem?_eq_getElem hj]
      rfl
    · rw [List.getElem?_eq_none (by omega), List.getElem?_eq_none (by omega)]
      rfl
  have la : acc.toList.length = ks.length := by rw [ea, List.length_map]
  have I1 : Inv X pins σ H { s with heap := h', toks := tk } := I.kept kp
  refine wpAny_bind (wpAny_newList ?_ (by omega))
  have hoL : (h'.push (seqObj "list" acc.toList.toArray 0)).get? h'.objs.size = some (seqObj "list" acc.toList.toArray 0) := Heap.get?_push_size _ rfl
  have up : ∀ c o, h'.get? c = some o → (h'.push (seqObj "list" acc.toList.toArray 0)).get? c = some o := fun c o e => Heap.get?_push_of_some _ e
  show wpAny _ _ _ _ _ { s with heap := h'.push (seqObj "list" acc.toList.toArray 0), toks := tk }
  have each : EachIs (fun (v : Value) (x : NRow) => v = .ref x.2.1) acc.toList ks := by rw [ea]; exact each_refsN ks
  have ne : ∀ {c : Addr} {o : Obj}, h'.get? c = some o → c ≠ h'.objs.size := fun e => Nat.ne_of_lt (Heap.lt_size e)
  have er : EachIs (fun (v : Value) (x : NRow) => ∃ as, Reads (h'.push (seqObj "list" acc.toList.toArray 0)) v (nkD x.1) as ∧ h'.objs.size ∉ as) acc.toList ks := by
    have all : ∀ l : List NRow, (∀ x ∈ l, x ∈ ks) → EachIs (fun (v : Value) (x : NRow) => ∃ as, Reads (h'.push (seqObj "list" acc.toList.toArray 0)) v (nkD x.1) as ∧ h'.objs.size ∉ as) (l.map fun x => Value.ref x.2.1) l := by
      intro l
      induction l with
      | nil => intro _; exact .nil
      | cons x l ih =>
        intro hl
        exact .cons ⟨[], PyProof.Rows.Reads.keeps up (nested_rd I1 x.1 (.ref x.2.1) (.ref x.2.1) (hks x (hl x List.mem_cons_self)).2.1 rfl), List.not_mem_nil⟩ (ih fun y hy => hl y (List.mem_cons_of_mem _ hy))
    have e2 := all ks fun _ h => h
    rw [← ea] at e2
    exact e2
  have hmem : ∀ x ∈ ks, x.1 ∈ kvs.map (·.1) := fun x hx => by rw [ek]; exact List.mem_map.mpr ⟨x, hx, rfl⟩
  refine wpAny_bind (wpAny_holding (PySem.W.list_sort_data (s := { s with heap := h'.push (seqObj "list" acc.toList.toArray 0), toks := tk }) (R := fun (v : Value) (x : NRow) => v = .ref x.2.1) (enc := fun x : NRow => nkD x.1) (bs := ks) hoL each er ?_ (.inl ?_) hz (fun b hb => ?_) fun out lo ho => ?_))
  · intro a ha b hb
    obtain ⟨x, hx, rfl⟩ := List.mem_map.mp ha
    obtain ⟨y, hy, rfl⟩ := List.mem_map.mp hb
    exact hord.1 _ (hmem x hx) _ (hmem y hy)
  · intro a ha
    obtain ⟨x, hx, rfl⟩ := List.mem_map.mp ha
    exact hord.2 _ (hmem x hx)
  · have d8 := (hks b hb).1
    have dd := nkD_depth b.1
    show X.A.units + 1 + 1 + (nkD b.1).depth < cLine
    omega
  · have eo := refs_eachN ho
    have hm2 : ∀ x ∈ ks.mergeSort (dataLe false fun x : NRow => nkD x.1), NKey H x.1 (.ref x.2.1) := fun x hx => hks x ((List.mergeSort_perm ks _).mem_iff.mp hx)
    have em : (ks.mergeSort (dataLe false fun x : NRow => nkD x.1)).map (·.1) = srtN (kvs.map (·.1)) := by
      unfold srtN
      rw [ek]
      exact List.map_mergeSort fun a _ b _ => rfl
    have isk := isNK_of hm2
    rw [em] at isk
    obtain ⟨ep2, hD⟩ := PyProof.Rows.sortedHeap_at (vs := acc.toList) (out := out.toArray) hoL
    have keep3 : ∀ b o, h'.get? b = some o → (PyProof.Rows.sortedHeap (h'.push (seqObj "list" acc.toList.toArray 0)) h'.objs.size acc.toList out.toArray).get? b = some o := fun b o e => by
      rw [PyProof.Rows.sortedHeap_old (ne e) (Nat.lt_of_lt_of_le (Heap.lt_size e) (by rw [Heap.size_push]; exact Nat.le_succ _))]
      exact up b o e
    have rv : Vals (((ks.mergeSort (dataLe false fun x : NRow => nkD x.1)).map fun x => x.2.1).map V.ref) out := by
      rw [eo]
      exact vals_refs _
    have hz2 : (((ks.mergeSort (dataLe false fun x : NRow => nkD x.1)).map fun x => x.2.1).map V.ref).length ≤ sizeLine := by
      rw [rv.length]
      omega
    apply wpAny_pure
    exact ⟨_, rfl, .ref h'.objs.size, _, I1.laid (t' := tk) (o := .lst (((ks.mergeSort (dataLe false fun x : NRow => nkD x.1)).map fun x => x.2.1).map V.ref)) keep3 (Nat.le_refl _) ⟨hz2, out, ep2, rv, hD⟩, rfl, q _ _ (I1.hok.fresh (Nat.le_refl _)) isk⟩
end
end Sb

/-! Dicts whose keys are nested tuples: a walk over the keys, list(d), {k: v}, x = {k: v for ..}. -/
namespace Sb
open PySem PySem.Spec PyProof.Rows L2
/-- the keys of the locked dict at d -/
def ItN (P : Program) (w : World) (d : Addr) (o : Obj) (xs : List NRow) : It :=
  ⟨fun i H => H d = some (.frz o (NO P w d xs)) ∧ i < xs.length, fun i H x H' => H' = H ∧ ∃ r, xs[i]? = some r ∧ x = .ref r.2.1, fun i H => H d = some (.frz o (NO P w d xs)) ∧ xs.length ≤ i⟩
section
variable {P : Program} {w : World} {K : PySem.W.Frag} {tg : Expr} {d : Addr} {o : Obj} {es : Array DictEntry} {ep : Nat}
theorem frzN {X : Cx} {pins : List (Addr × Obj)} {σ : L2.St} {H : Hp} {s : Shared} {xs : List NRow} (I : Inv X pins σ H s) (h : H d = some (.frz o (NO X.prog X.w d xs))) :
    (d == sysModules) = false ∧ s.heap.get? d = some o ∧ o.ExactDict ∧ ∃ (es : Array DictEntry) (ep : Nat), o.data = .dict es ep ∧ es.size = xs.length ∧ ∀ (i : Nat) (r : NRow), xs[i]? = some r → ∃ en : DictEntry, es[i]? = some en ∧ en.key = .ref r.2.1 := by
  obtain ⟨hd, ⟨c1, c2, o', es, ep, ho, hx, hdt, he, hn⟩, _⟩ := I.hok d _ h
  rw [hd] at ho
  cases ho
  refine ⟨c1, hd, hx, es, ep, hdt, size_of_entries he, fun i r e => ?_⟩
  have q := entry_at he i
  rw [e] at q
  exact ⟨_, q, rfl⟩
theorem turn_keysN {xs : List NRow} (it : Addr) (hod : o.data = .dict es ep) : Turn P w K tg (ItN P w d o xs) [it] it (fun i h => h.IsKeyIter it d i xs.length ep) where
  mem := by simp
  obj := fun i h st b hb => by
    have e : b = it := by simpa using hb
    subst e
    obtain ⟨oi, e, c, dd⟩ := st
    exact ⟨oi, e, fun v z => by rw [dd] at z; cases z⟩
  keep := fun i h h' st k => st.at fun oi e => k it (by simp) oi e
  item := by
    intro X hP hw hK hc i pins s σ H E I hf st hg
    subst hP hw hK
    obtain ⟨hd, hi⟩ := hg
    obtain ⟨f0, f1, f2, f3, f4, f5⟩ := hf it (by simp)
    obtain ⟨hs, hgd, hx, es', ep', hdt, hsz, ent⟩ := frzN I hd
    obtain ⟨rfl, rfl⟩ := dict_ep hod hdt
    obtain ⟨r, hr⟩ : ∃ p, xs[i]? = some p := ⟨xs[i], List.getElem?_eq_getElem hi⟩
    obtain ⟨en, hen, hkey⟩ := ent i r hr
    refine next_key_item st hgd hdt hsz hen fun h' st' sb => ?_
    have I1 : Inv X pins σ H { s with heap := h' } := I.turned (t' := s.toks) (fun b ob hb e => (sb.2 b hb).trans e) f0 f1 f3 f4 f5
    obtain ⟨oi, e, c, dd⟩ := id st'
    exact ⟨en.key, rfl, go_of (s := { s with heap := h' }) e c dd (by decide) ⟨.ref r.2.1, H, I1, hkey, ⟨rfl, r, hr, rfl⟩, st', fun b hb => (hf b hb).1⟩⟩
  done := by
    intro X hP hw hK hc i pins s σ H E I hf st hg
    subst hP hw hK
    obtain ⟨hd, hi⟩ := hg
    obtain ⟨f0, f1, f2, f3, f4, f5⟩ := hf it (by simp)
    obtain ⟨hs, hgd, hx, es', ep', hdt, hsz, ent⟩ := frzN I hd
    obtain ⟨rfl, rfl⟩ := dict_ep hod hdt
    exact next_key_end (I.ok.hd hc) st hgd hdt hsz hi fun h' eb => ⟨rfl, I.turned (t' := s.toks) (fun b ob hb e => eb b ob hb e) f0 f1 f3 f4 f5⟩
  self := fun A i s Q E st h => by
    refine wpAny_pyIter_slot st.typeIs F.slot_dict_keyiterator_iter (wpAny_call_entry F.slot_dict_keyiterator_iter st.typeIs F.entry_dict_keyiterator_iter ?_ (F.args_dict_keyiterator_iter_1 _))
    show wpAny _ _ (ret (.ref it)) _ _ s
    exact wpAny_pure ⟨_, rfl, "dict_keyiterator", _, st.typeIs, F.slot_dict_keyiterator_next.lookup, h⟩
end
def iKeysN (P : Program) (w : World) (td : TE) : TI := fun σ H R => td σ H fun x H1 => ∃ d o xs, x = .ref d ∧ H1 d = some (.frz o (NO P w d xs)) ∧ R (ItN P w d o xs) H1
theorem pi_keysN {X : Cx} {tg e : Expr} {td : TE} (he : PE X e td) : PI X tg e (iKeysN X.prog X.w td) := by
  refine ⟨fun pins s σ H R I h => ?_⟩
  refine thn (he.run pins s σ H _ I h) fun u s1 ⟨x, H1, I1, rx, d, o, xs, ex, hd, q⟩ => ?_
  subst ex
  obtain rfl : u = Value.ref d := rx
  obtain ⟨hs, hgd, hx, es, ep, hdt, hsz, ent⟩ := frzN I1 hd
  refine iter_keys hs hgd hx hdt (pi_one (tk := s1.toks) I1 _ (turn_keysN _ hdt) ⟨_, Heap.get?_push_size _ rfl, rfl, ?_⟩ q)
  rw [hsz] <;> rfl
theorem walk_keysN {P : Program} {w : World} {d : Addr} {o : Obj} {xs : List NRow} : Walk (ItN P w d o xs) xs.length (fun H => H d = some (.frz o (NO P w d xs))) (fun i H x H' => H' = H ∧ ∃ r, xs[i]? = some r ∧ x = .ref r.2.1) :=
  ⟨fun _ _ hi q => ⟨q, hi⟩, fun _ q => ⟨q, Nat.le_refl _⟩, fun _ _ _ _ _ _ y => y⟩
/-- list(d) -/
def rListN (P : Program) (w : World) : List V → Hp → VK → Prop := fun xs H Q => ∃ (d : Addr) (rs : List NRow), xs = [.ref d] ∧ H d = some (NO P w d rs) ∧ ∀ p, H p = none → Q (.ref p) (upd H p (.lst (rs.map fun r => V.ref r.2.1)))
theorem call_listN {X : Cx} (hc : X.calm = true) : CallR X (.type "list") (rListN X.prog X.w) := by
  intro pins s σ H xs us Q I r h
  obtain ⟨d, ks, rfl, hd, q⟩ := h
  obtain ⟨u, rfl, rx⟩ := vals1 r
  obtain rfl : u = Value.ref d := rx
  obtain ⟨⟨hs, c2, o, es, ep, ho, hx, hdt, he, hn⟩, _⟩ := (show ObjOk X.prog X.w H s.heap d (NO X.prog X.w d ks) from I.hok d _ hd)
  have l1 : es.size = ks.length := size_of_entries he
  refine PySem.W.kdl_call (kdl_raw hs hx hdt) (I.ok.hd hc) ho (by omega) fun h' tk acc' c' kp e it => ?_
  have ea : acc'.toList = ks.map fun x => Value.ref x.2.1 := by
    have hl : acc'.toList.length = ks.length := by rw [Array.length_toList, it.1]; exact l1
    apply List.ext_getElem?
    intro j
    rw [List.getElem?_map]
    cases hj : acc'.toList[j]? with
    | none =>
      have h1 := List.getElem?_eq_none_iff.mp hj
      rw [List.getElem?_eq_none (by omega)]
      all_goals rfl
    | some v =>
      obtain ⟨en, hen, hv⟩ := it.2 j v (by rw [← Array.getElem?_toList]; exact hj)
      have qe := entry_at he j
      rw [hen] at qe
      cases hb : ks[j]? with
      | none =>
        rw [hb] at qe
        exact nomatch (show some en = none from qe)
      | some b =>
        rw [hb] at qe
        have e2 : en = entryOfKey (nestedKind X.prog X.w) b := Option.some.inj qe
        rw [hv, e2]
        all_goals rfl
  have eb : acc'.toList = (ks.map fun x => x.2.1).map Value.ref := by rw [ea, List.map_map]; all_goals rfl
  have rv : Vals ((ks.map fun x => x.2.1).map V.ref) acc'.toList := by rw [eb]; exact vals_refs _
  have hz : ((ks.map fun x => x.2.1).map V.ref).length ≤ sizeLine := by rw [List.length_map, List.length_map]; omega
  have q' := q _ (I.hok.fresh (Nat.le_refl _))
  have em : (ks.map fun r => V.ref r.2.1) = (ks.map fun x => x.2.1).map V.ref := by rw [List.map_map]; rfl
  rw [em] at q'
  refine ⟨.ref s.heap.objs.size, _, I.laid (t' := tk) (o := .lst ((ks.map fun x => x.2.1).map V.ref)) kp (Nat.le_refl _) ?_, rfl, q'⟩
  exact ⟨hz, acc'.toList, c', rv, by rw [Array.toArray_toList]; exact e⟩
section
variable {X : Cx} {pins : List (Addr × Obj)} {σ : L2.St} {H : Hp}
theorem no_write {s : Shared} {D b : Addr} {kvs : List (NestedKey × V)} {k : NestedKey} {v : V} {r : Value} {h' : Heap} {tk : Nat} {xs : List NRow} (I : L2.Inv X pins σ H s) {φ : Heap → Prop} (ea : H D = some (.ext φ)) (rel : NRel H kvs xs) (hl : kvs.length < sizeLine) (lo : (D == sysModules) = false) (hk : NKey H k (.ref b)) (rv : RelV v r)
    (dd' : h'.DictOfH (nestedKind X.prog X.w) D (storedH xs k b r)) (sb : Heap.SameBut D s.heap h') :
    L2.Inv X pins σ (upd H D (NO X.prog X.w D (storedH xs k b r))) { s with heap := h', toks := tk } ∧ NDict X.prog X.w (upd H D (NO X.prog X.w D (storedH xs k b r))) D (putK kvs k v) := by
  obtain ⟨q, es, ep, hq, h2, h3, h4, _, h5⟩ := dd'
  have rel' := rel.put hk rv
  have ll : (putK kvs k v).length ≤ kvs.length + 1 := length_putK kvs k v
  have lx : (storedH xs k b r).length ≤ sizeLine := by
    rw [← Paired.length rel']
    omega
  have tp : Tups H (upd H D (NO X.prog X.w D (storedH xs k b r))) := Tups.put ea (fun _ z => nomatch z)
  refine ⟨d_write I (by rw [ea]; exact True.intro) sb ⟨q, hq⟩ ⟨⟨lo, lx, q, es, ep, hq, h2, h3, h4, h5⟩, ⟨q, hq⟩, ?_⟩, ⟨_, upd_same, rel'.mono tp⟩⟩
  rintro h1 h2 ⟨d1, d2, o, es, ep, e1, e2⟩ kp
  exact ⟨d1, d2, o, es, ep, kp _ e1, e2⟩
theorem putN_ok {s : Shared} {E : Value → Shared → Prop} {D b : Addr} {kvs : List (NestedKey × V)} {k : NestedKey} {v : V} {r : Value} {Q : Unit → Shared → Prop} (hu : X.A.units + 64 < cLine) (I : L2.Inv X pins σ H s) (hD : NDict X.prog X.w H D kvs) (hb : NKey H k (.ref b)) (hz : kvs.length < sizeLine)
    (rv : RelV v r) (want : ∀ s' H', L2.Inv X pins σ H' s' → (∀ c, c ≠ D → H' c = H c) → NDict X.prog X.w H' D (putK kvs k v) → Q () s') : wpAny (model X.prog X.w) X.A (dictSet D (.ref b) r) Q E s := by
  obtain ⟨lo, c2, xs, rel, l1, dd⟩ := nd_of I hD
  obtain ⟨φ, ea⟩ := hD.some
  refine wpAny_dictSet_heap (hsz := l1) ?room (nkey_of I hb) dd fun h' dd' but => ?_
  case room =>
    show X.A.units + 8 < cLine
    omega
  obtain ⟨I2, N2⟩ := no_write (tk := _) I ea rel hz lo hb rv dd' but
  exact want _ _ I2 (fun c hc => upd_ne hc) N2
end
/-- what the turns are to show; D: the new dict -/
def DcN (P : Program) (w : World) (J : It) (g : TG) (tt : TT) (tk tv : TE) (vs : List Nat) (σ : L2.St) (D : Addr) (Qd : Hp → Prop) (H0 : Hp) : Prop := ∃ W : Nat → Nat → Hp → Prop, (∃ m, W 0 m H0) ∧ ∀ i m H, W i m H →
  (J.stop i H ∧ Qd H) ∨ (J.go i H ∧ ∃ Nx : Hp → Prop, (∀ H', Nx H' → ∃ m', m' < m ∧ W (i + 1) m' H') ∧ ∀ x H', J.yld i H x H' → g x (wipe σ vs) H' fun σ2 H2 => wipe σ2 vs = wipe σ vs ∧ tt σ2 H2 fun b H3 =>
    if b = true then tk σ2 H3 fun y H4 => tv σ2 H4 fun z H5 => ∃ kvs k, NKey H5 k y ∧ NDict P w H5 D kvs ∧ kvs.length < sizeLine ∧ ∀ H6, (∀ c, c ≠ D → H6 c = H5 c) → NDict P w H6 D (putK kvs k z) → Nx H6 else Nx H3)
def tDcN (P : Program) (w : World) (wi : TI) (g : TG) (tt : TT) (tk tv : TE) (vs : List Nat) : TE := fun σ H Q => wi σ H fun J H1 => ∀ D, H1 D = none → DcN P w J g tt tk tv vs σ D (Q (.ref D)) (upd H1 D (NO P w D []))
section
variable {X : Cx}
theorem dcN_core {pins : List (Addr × Obj)} {s : Shared} {σ : L2.St} {H : Hp} {Q : VK} {kx vx tg iter : Expr} {ifs : List Expr} {scope : Scope} {own : List (Str × Nat)} {pos pos' : Pos} {wi : TI} {g : TG} {tt : TT} {tk tv : TE} {use : Option (Value → Sem Unit)} {Qf : Value → Shared → Prop}
    (hc : X.calm = true) (hN : X.N.Nodup) (hu : X.A.units + 64 < cLine) (I : L2.Inv X pins σ H s) (hi : PI X tg iter wi) (ok : BlkOk X.N X.env.scope scope own)
    (hg : ∀ (s : Shared) (H : Hp) (C : Addr) (cl : List (Str × Addr)) (fp : List Addr), PG (X.blk s H scope (compEnvC scope cl C X.env) fp) tg g) (ht : ∀ (s : Shared) (H : Hp) (C : Addr) (cl : List (Str × Addr)) (fp : List Addr), PTs (X.blk s H scope (compEnvC scope cl C X.env) fp) ifs tt)
    (hk : ∀ (s : Shared) (H : Hp) (C : Addr) (cl : List (Str × Addr)) (fp : List Addr), PE (X.blk s H scope (compEnvC scope cl C X.env) fp) kx tk)
    (hv : ∀ (s : Shared) (H : Hp) (C : Addr) (cl : List (Str × Addr)) (fp : List Addr), PE (X.blk s H scope (compEnvC scope cl C X.env) fp) vx tv) (hs : ∀ x, foldedSetIterable iter X.env x = pure x)
    (h : tDcN X.prog X.w wi g tt tk tv (own.map (·.2)) σ H Q)
    (hRR : ∀ D C s' m H', L2.Inv X pins σ H' s' → Q (.ref D) H' → s'.heap.Ns C m → FpOk X pins H' C → compPost (model X.prog X.w) X.A X.xe use Qf (.ref D) C (.ok .next) s') :
    wpAny (model X.prog X.w) X.A (comprehension (.DictComp kx vx [⟨tg, iter, ifs, 0⟩] scope pos) scope X.env pos' newDict false (eval iter X.env) use) Qf X.xe s := by
  have closed : ∀ y ∈ scope.names, y.2 = .free → ∃ c, X.env.cells.lookup y.1 = some c := by
    intro y hy e
    exact (ok.free y hy e).elim (fun k => I.ok.has _ (.inl k)) (fun k => I.ok.has _ (.inr k))
  refine wpAny_comprehension_free (use := use) rfl hs (closure_ok closed) ok.kind (fun y hy e => by rw [ok.uniq y hy, e]) ?_
  refine thn (hi.run pins s σ H _ I h) fun xv s1 hx => thn hx ?_
  rintro itv s2 ⟨it, fp, tn, J, H2, rfl, I2, T, st2, f2, q⟩
  refine wpAny_newObj_type (newEnv_comp ?_)
  generalize eD : s2.heap.objs.size = D
  have nD : H2 D = none := I2.hok.fresh (Nat.le_of_eq eD)
  obtain ⟨W, ⟨m0, w0⟩, turn⟩ := q D nD
  generalize es3 : ({ s2 with heap := s2.heap.push { cls := .type "dict", data := .dict #[] } } : Shared) = s3
  have h3 : s3.heap = s2.heap.push { cls := .type "dict", data := .dict #[] } := by
    rw [← es3]
  generalize eH3 : upd H2 D (NO X.prog X.w D []) = H3 at w0
  have I3 : L2.Inv X pins σ H3 s3 := by
    have hb : (s2.heap.objs.size == sysModules) = false := beq_eq_false_iff_ne.mpr (Ne.symm (Nat.ne_of_lt I2.big))
    have lay := I2.laid (a := s2.heap.objs.size) (o := NO X.prog X.w s2.heap.objs.size []) (t' := s2.toks) (h' := s2.heap.push { cls := .type "dict", data := .dict #[] }) (fun b o e => Heap.get?_push_of_some _ e) (Nat.le_refl _) ⟨⟨hb, Nat.zero_le _, _, #[], 0, Heap.get?_push_size _ rfl, ⟨rfl, rfl, rfl⟩, rfl, rfl, List.nodup_nil⟩, ⟨_, Heap.get?_push_size _ rfl⟩, (by
      rintro h1 h2 ⟨d1, d2, o, es, ep, e1, e2⟩ kp
      exact ⟨d1, d2, o, es, ep, kp _ e1, e2⟩)⟩
    rw [← es3, ← eH3, ← eD]
    exact lay
  have small : ∀ b ∈ fp, b < s2.heap.objs.size := by
    intro b hb
    obtain ⟨o, e, _⟩ := T.obj _ _ st2 b hb
    exact Heap.lt_size e
  have f3 : ∀ b ∈ fp, FpOk X pins H3 b ∧ b < s3.heap.objs.size := by
    intro b hb
    have lt := small b hb
    constructor
    · refine ⟨?_, (f2 b hb).2⟩
      rw [← eH3, upd_ne (eD ▸ Nat.ne_of_lt lt)]
      exact (f2 b hb).1
    · rw [h3, Heap.size_push]
      exact Nat.lt_succ_of_lt lt
  have n3 : ∀ b ∈ fp, H3 b = none := fun b hb => (f3 b hb).1.1
  have st3 : tn 0 s3.heap := by
    refine T.keep _ _ _ st2 ?_
    rw [h3]
    exact fun b _ o e => Heap.get?_push_of_some _ e
  have I4 := block_start I3 ok hN f3
  show codeAny _ _ (.compStart (.DictComp kx vx [⟨tg, iter, ifs, 0⟩] scope pos) 0 (.ref it) (.ref D) (compEnvC scope (cellsFrom (s3.heap.objs.size + 1) scope.names (cloFrom X.env.cells scope.names [])) s3.heap.objs.size X.env)) (compPost (model X.prog X.w) X.A X.xe use Qf (.ref D) s3.heap.objs.size) { s3 with heap := pushCells (s3.heap.push { cls := .type "dict", data := .dict #[] }) scope.names }
  have bg := hg s3 H3 s3.heap.objs.size (cellsFrom (s3.heap.objs.size + 1) scope.names (cloFrom X.env.cells scope.names [])) fp
  have bt := ht s3 H3 s3.heap.objs.size (cellsFrom (s3.heap.objs.size + 1) scope.names (cloFrom X.env.cells scope.names [])) fp
  have bk := hk s3 H3 s3.heap.objs.size (cellsFrom (s3.heap.objs.size + 1) scope.names (cloFrom X.env.cells scope.names [])) fp
  have bv := hv s3 H3 s3.heap.objs.size (cellsFrom (s3.heap.objs.size + 1) scope.names (cloFrom X.env.cells scope.names [])) fp
  generalize ece : compEnvC scope (cellsFrom (s3.heap.objs.size + 1) scope.names (cloFrom X.env.cells scope.names [])) s3.heap.objs.size X.env = ce at I4 bg bt bk bv ⊢
  have cL : ce.locals = s3.heap.objs.size := ece ▸ rfl
  generalize es4 : ({ s3 with heap := pushCells (s3.heap.push { cls := .type "dict", data := .dict #[] }) scope.names } : Shared) = s4 at I4 ⊢
  have st4 : tn 0 s4.heap := by
    refine T.keep _ _ _ st3 fun b _ o e => ?_
    rw [← es4]
    exact pushCells_keeps _ _ _ _ (Heap.get?_push_of_some _ e)
  have stat : ∀ {σ' : L2.St} {H' : Hp} {s' : Shared}, L2.Inv (X.blk s3 H3 scope ce fp) [] σ' H' s' → (∀ b ∈ fp, H' b = none) → ∀ b ∈ fp, FpOk (X.blk s3 H3 scope ce fp) [] H' b := by
    intro σ' H' s' J' hn b hb
    refine ⟨hn b hb, (J'.ok.exf b hb).1, J'.ok.exfs b hb, .inl hb, (J'.ok.exf b hb).2, fun p hp => ?_⟩
    have z : p ∈ ([] : List (Addr × Obj)) ++ [] := hp
    simp at z
  let At : Nat → Shared → Prop := fun n s' => ∃ i H', L2.Inv (X.blk s3 H3 scope ce fp) [] (wipe σ (own.map (·.2))) H' s' ∧ tn i s'.heap ∧ (∀ b ∈ fp, H' b = none) ∧ W i n H'
  have loop : codeAny (model X.prog X.w) X.A (.compLoop (.DictComp kx vx [⟨tg, iter, ifs, 0⟩] scope pos) 0 (.ref it) (.ref D) ce) (compPost (model X.prog X.w) X.A X.xe use Qf (.ref D) s3.heap.objs.size) s4 := by
    refine compLoop_anyD At ?_ m0 ⟨0, H3, I4, st4, n3, w0⟩
    rintro n s5 ⟨i, H5, I5, st5, n5, w5⟩
    rcases turn i n H5 w5 with ⟨stop, done⟩ | ⟨go, Nx, hNx, step⟩
    · refine thnF (T.done (X.blk s3 H3 scope ce fp) rfl rfl rfl hc i [] s5 _ H5 (fun _ _ => False) I5 (stat I5 n5) st5 stop) ?_
      rintro r s6 ⟨rfl, I6⟩
      have I7 : L2.Inv X pins σ H5 s6 := by
        refine I3.call' (ch := fp) I6.os I6.base I6.hok I6.bare fun b hb => ?_
        have z := (f3 b hb).1.2
        exact ⟨z.2.2.1, z.1, z.2.2.2.1, z.2.2.2.2⟩
      have free := I6.free
      rw [show (X.blk s3 H3 scope ce fp).env.locals = s3.heap.objs.size from cL] at free
      obtain ⟨m, hn, _⟩ := I6.loc
      have hn : s6.heap.Ns ce.locals m := hn
      rw [cL] at hn
      exact hRR D s3.heap.objs.size s6 m H5 I7 done hn (I3.fpOk (Nat.le_refl _) free)
    · refine thnF (T.item (X.blk s3 H3 scope ce fp) rfl rfl rfl hc i [] s5 _ H5 (fun _ _ => False) I5 (stat I5 n5) st5 go) ?_
      rintro r s6 ⟨u, rfl, go6⟩
      refine thnF go6 ?_
      rintro _ s7 ⟨x, H7, I7, r7, y7, st7, n7⟩
      refine thnF (bg.run _ s7 _ H7 x u _ (I7.pinned (stat I7 n7) (T.obj _ _ st7)) r7 (step x H7 y7)) ?_
      rintro _ s8 ⟨σ8, H8, I8, hw8, q8⟩
      refine thnF (bt.run _ s8 σ8 H8 _ I8 q8) ?_
      rintro b s9 ⟨H9, I9, q9⟩
      have next : ∀ {s' : Shared} {H' : Hp}, L2.Inv (X.blk s3 H3 scope ce fp) ([] ++ pinsAt fp s7.heap) σ8 H' s' → Nx H' → ∃ m, m < n ∧ At m s' := by
        intro s' H' J' nx
        obtain ⟨m', lt, w'⟩ := hNx H' nx
        have pinned : ∀ b ∈ fp, ∀ o, s7.heap.get? b = some o → s'.heap.get? b = some o ∧ H' b = none := by
          intro b hb o e
          have z := J'.pin (b, o) (List.mem_append_right _ (List.mem_append_right _ (mem_pinsAt hb e)))
          exact ⟨z.1, z.2.1⟩
        refine ⟨m', lt, i + 1, H', (J'.unpinned (pins := [])).weak ?_ ?_, T.keep _ _ _ st7 fun b hb o e => (pinned b hb o e).1, ?_, w'⟩
        · rw [← hw8, wipe_length]
        · intro j v e
          rw [← hw8] at e
          exact (wipe_some e).1
        · intro b hb
          obtain ⟨o, e, _⟩ := T.obj _ _ st7 b hb
          exact (pinned b hb o e).2
      cases b with
      | false => exact next I9 q9
      | true =>
        refine thnF (bk.run _ s9 σ8 H9 _ I9 q9) ?_
        rintro z1 s10 ⟨yk, H10, I10, r10, q10⟩
        refine thnF (bv.run _ s10 σ8 H10 _ I10 q10) ?_
        rintro z2 s11 ⟨yv, H11, I11, r11, kvs, k, hk11, hD11, lt11, nx⟩
        obtain ⟨t, rfl⟩ := nk_ref hk11
        obtain rfl : z1 = Value.ref t := r10
        exact putN_ok (X := X.blk s3 H3 scope ce fp) hu I11 hD11 hk11 lt11 r11 fun s12 H12 I12 k12 n12 => next I12 (nx H12 k12 n12)
  exact codeAny_compStart_dict loop (T.self X.A 0 _ _ _ st4 loop)
theorem ps_setDcN {i : Nat} {y : Str} {py : Pos} {kx vx tg iter : Expr} {ifs : List Expr} {scope : Scope} {own : List (Str × Nat)} {pos spos : Pos} {wi : TI} {g : TG} {tt : TT} {tk tv : TE} (hc : X.calm = true) (hN : X.N.Nodup) (hu : X.A.units + 64 < cLine) (hy : X.N[i]? = some y) (hyl : X.env.scope.names.lookup y = some .local)
    (hsw : swapsWith (.DictComp kx vx [⟨tg, iter, ifs, 0⟩] scope pos) (some (.Name y py)) spos.line X.env = pure true) (hi : PI X tg iter wi) (ok : BlkOk X.N X.env.scope scope own)
    (hg : ∀ (s : Shared) (H : Hp) (C : Addr) (cl : List (Str × Addr)) (fp : List Addr), PG (X.blk s H scope (compEnvC scope cl C X.env) fp) tg g) (ht : ∀ (s : Shared) (H : Hp) (C : Addr) (cl : List (Str × Addr)) (fp : List Addr), PTs (X.blk s H scope (compEnvC scope cl C X.env) fp) ifs tt)
    (hk : ∀ (s : Shared) (H : Hp) (C : Addr) (cl : List (Str × Addr)) (fp : List Addr), PE (X.blk s H scope (compEnvC scope cl C X.env) fp) kx tk)
    (he : ∀ (s : Shared) (H : Hp) (C : Addr) (cl : List (Str × Addr)) (fp : List Addr), PE (X.blk s H scope (compEnvC scope cl C X.env) fp) vx tv) (hs : ∀ x, foldedSetIterable iter X.env x = pure x := by intro _; rfl) :
    PS X (.Assign [.Name y py] (.DictComp kx vx [⟨tg, iter, ifs, 0⟩] scope pos) spos) (tAsg (tDcN X.prog X.w wi g tt tk tv (own.map (·.2))) (gName i)) := by
  refine ⟨fun pins s σ H D I h => ?_⟩
  rw [exec_Assign_Name_used _ _ _ _ hsw]
  refine wpAny_bind (wpAny_standAt (wpAny_bind ?_))
  show wpAny _ X.A (do let _ ← comprehension (.DictComp kx vx [⟨tg, iter, ifs, 0⟩] scope pos) scope X.env (firstIterPos [⟨tg, iter, ifs, 0⟩] pos) newDict false (eval iter X.env) (some (assign (.Name y py) X.env))) _ _ s
  have h : tDcN X.prog X.w wi g tt tk tv (own.map (·.2)) σ H (fun x H1 => gName i x σ H1 D.nx) := h
  refine wpAny_bind (thn (dcN_core (Qf := fun _ s' => SP X pins D .next s') hc hN hu I hi ok hg ht hk he hs h fun L C s' m H' I' q hn f => ?_) fun _ s' hq => wpAny_pure (wpAny_pure hq))
  show wpAny _ _ (assign (.Name y py) X.env (.ref L)) _ _ _
  refine wpAny_assign_Name (store_ok2 (v := V.ref L) I' hN hy (.inl hyl) rfl (fun s2 I2 ⟨a, sb, ha⟩ => ?_) (.inr hyl))
  obtain ⟨f0, f1, f2, f3, f4, f5⟩ := f
  have haC : C ≠ a := by
    rcases ha with z | z
    · rw [z]; exact f1
    · exact fun e => f4 y a z e.symm
  exact ⟨m, hn.sameBut sb haC, fun h3 sb3 => ⟨_, H', I2.turned (t' := s2.toks) (fun b o hb e => (sb3.2 b hb).trans e) f0 f1 f3 f4 f5, q⟩⟩
/-- over any walk -/
theorem dcN_it {P : Program} {w : World} {J : It} {n : Nat} {Ok : Hp → Prop} {Y : Nat → Hp → V → Hp → Prop} {g : TG} {tt : TT} {tk tv : TE} {vs : List Nat} {σ : L2.St} {H0 : Hp} {D : Addr} {Qd : Hp → Prop} (wk : Walk J n Ok Y) (Pv : Nat → Hp → Prop) (h0 : Pv 0 H0) (hl : ∀ i H, Pv i H → Ok H)
    (hs : ∀ i x H H', i < n → Pv i H → Y i H x H' → g x (wipe σ vs) H' fun σ2 H2 => wipe σ2 vs = wipe σ vs ∧ tt σ2 H2 fun b H3 =>
      if b = true then tk σ2 H3 fun y H4 => tv σ2 H4 fun z H5 => ∃ kvs k, NKey H5 k y ∧ NDict P w H5 D kvs ∧ kvs.length < sizeLine ∧ ∀ H6, (∀ c, c ≠ D → H6 c = H5 c) → NDict P w H6 D (putK kvs k z) → Pv (i + 1) H6 else Pv (i + 1) H3) (hd : ∀ H, Pv n H → Qd H) :
    DcN P w J g tt tk tv vs σ D Qd H0 := by
  refine ⟨fun i m H => m + i = n ∧ Pv i H, ⟨n, rfl, h0⟩, fun i m H ⟨hm, p⟩ => ?_⟩
  have q := hl i H p
  cases m with
  | zero =>
    have e : i = n := by omega
    subst e
    exact .inl ⟨wk.stops _ q, hd H p⟩
  | succ m =>
    have h1 : i < n := by omega
    refine .inr ⟨wk.goes i _ h1 q, Pv (i + 1), fun H' p' => ⟨m, Nat.lt_succ_self m, by omega, p'⟩, ?_⟩
    intro v H' y
    exact hs i v H H' h1 p (wk.yields i H v H' h1 q y)
/-- {k: v} -/
def tDispN (P : Program) (w : World) (tk tv : TE) : TE := fun σ H Q => ∀ p, H p = none → tk σ (upd H p (NO P w p [])) fun x H1 => tv σ H1 fun y H2 => ∃ k, NKey H2 k x ∧ H2 p = some (NO P w p []) ∧ ∀ H3, (∀ c, c ≠ p → H3 c = H2 c) → NDict P w H3 p [(k, y)] → Q (.ref p) H3
theorem pe_dispN {k v : Expr} {pos : Pos} {tk tv : TE} (hu : X.A.units + 64 < cLine) (hk : PE X k tk) (hv : PE X v tv) : PE X (.Dict [some k] [v] pos) (tDispN X.prog X.w tk tv) := by
  refine ⟨fun pins s σ H Q I q => ?_⟩
  have hn := I.hok.fresh (Nat.le_refl s.heap.objs.size)
  have hb : (s.heap.objs.size == sysModules) = false := beq_eq_false_iff_ne.mpr (Ne.symm (Nat.ne_of_lt I.big))
  have I1 := I.laid (a := s.heap.objs.size) (o := NO X.prog X.w s.heap.objs.size []) (h' := s.heap.push { cls := .type "dict", data := .dict #[] }) (t' := s.toks) (fun _ _ q => Heap.get?_push_of_some _ q) (Nat.le_refl _) ⟨⟨hb, Nat.zero_le _, _, #[], 0, Heap.get?_push_size _ rfl, ⟨rfl, rfl, rfl⟩, rfl, rfl, List.nodup_nil⟩, ⟨_, Heap.get?_push_size _ rfl⟩, (by
      rintro h1 h2 ⟨d1, d2, o, es, ep, e1, e2⟩ kp
      exact ⟨d1, d2, o, es, ep, kp _ e1, e2⟩)⟩
  rw [arm_eval_Dict, zip_pairTrees [some k] [v] X.env pos rfl rfl, dictDisplay_pairs (pairTrees [some k] [v] X.env pos) (by intro z; cases z) (by rw [pairTrees_length [some k] [v] X.env pos rfl rfl]; show 1 < 17; decide)]
  refine wpAny_bind (wpAny_standAt (wpAny_bind (wpAny_subDictH (knd := nestedKind X.prog X.w) (Q := fun d s' => wpAny (model X.prog X.w) X.A (pure (Value.ref d)) _ _ s') (show X.A.units + 8 < cLine by omega) (by rw [pairTrees_length [some k] [v] X.env pos rfl rfl]; show 1 ≤ 15; decide) ?_)))
  refine pairTrees_cons_walk (thn (hk.run pins _ σ _ _ I1 (q _ hn)) fun u s1 ⟨x, H1, I2, rx, q1⟩ => thn (hv.run pins s1 σ H1 _ I2 q1) fun w2 s2 ⟨y, H2, I3, ry, kk, hb2, hd, q2⟩ => pairTrees_nil_walk ?_)
  obtain ⟨b, rfl⟩ := nk_ref hb2
  obtain rfl : u = Value.ref b := rx
  have hND : NDict X.prog X.w H2 s.heap.objs.size [] := ⟨[], hd, .nil⟩
  obtain ⟨lo, c2, xs, rel, l1, dd⟩ := nd_of I3 hND
  cases rel
  refine ⟨[(kk, b, w2)], ⟨rfl, rfl, nkey_of I3 hb2, trivial⟩, dd, fun h' tk' dd' hs => ?_⟩
  obtain ⟨I4, N4⟩ := no_write (kvs := []) (k := kk) (v := y) (b := b) (r := w2) (tk := tk') I3 hd .nil (by show 0 < sizeLine; decide) lo hb2 ry dd' hs
  exact wpAny_pure ⟨.ref s.heap.objs.size, _, I4, rfl, q2 _ (fun c hc => upd_ne hc) N4⟩
end
end Sb
namespace Sb
open PySem PySem.Spec PyProof.Rows L2
/-- .. that may be locked -/
def NDictR (P : Program) (w : World) (H : Hp) (a : Addr) (kvs : List (NestedKey × V)) : Prop := ∃ xs, Rd H a (NO P w a xs) ∧ NRel H kvs xs
section
variable {X : Cx} {pins : List (Addr × Obj)} {σ : L2.St} {H : Hp} {s : Shared} {a : Addr} {kvs : List (NestedKey × V)}
theorem nd_ofR (I : L2.Inv X pins σ H s) (h : NDictR X.prog X.w H a kvs) : ∃ xs, NRel H kvs xs ∧ s.heap.DictOfH (nestedKind X.prog X.w) a xs := by
  obtain ⟨xs, e, r⟩ := h
  obtain ⟨⟨c1, c2, o, es, ep, h1, h2, h3, h4, h5⟩, _⟩ := (show ObjOk X.prog X.w H s.heap a (NO X.prog X.w a xs) from e.ok I.hok)
  refine ⟨xs, r, o, es, ep, h1, h2, h3, h4, fun x hx => ?_, h5⟩
  exact nkey_of I ((nrel_mem r).2 x hx)
def tGetNR (P : Program) (w : World) (td ty : TE) : TE := fun σ H Q => td σ H fun x H1 => ty σ H1 fun y H2 => ∃ a k kvs v, x = .ref a ∧ NKey H2 k y ∧ NDictR P w H2 a kvs ∧ valV kvs k = some v ∧ Q v H2
theorem pe_getNR {value slice : Expr} {pos : Pos} {td ty : TE} (hu : X.A.units + 64 < cLine) (ho : PE X value td) (hi : PE X slice ty) (hs : NoSl slice := by intro _ _; rfl) : PE X (.Subscript value slice pos) (tGetNR X.prog X.w td ty) := by
  refine ⟨fun pins s σ H Q I h => ?_⟩
  refine subD_of (T := "dict") (id := "dict.__getitem__") (by first | exact slot_dict_getitem.lookup | exact PySem.F.slot_dict_getitem.lookup) hs (thn (ho.run pins s σ H _ I h) fun u s1 ⟨x, H1, I1, rx, q1⟩ => thn (hi.run pins s1 σ H1 _ I1 q1) fun iv s2 ⟨y, H2, I2, ry, a, k, kvs, v, ex, hk, hd, l, q2⟩ => ?_)
  subst ex
  obtain rfl : u = Value.ref a := rx
  obtain ⟨b, rfl⟩ := nk_ref hk
  obtain rfl : iv = Value.ref b := ry
  obtain ⟨xs, rel, dd⟩ := nd_ofR I2 hd
  obtain ⟨w', hw, rw'⟩ := RelO.some_of (v := v) (o := (atKey xs k).map (·.2)) (by rw [← l]; exact rel.val k)
  obtain ⟨p, hp, hp2⟩ := Option.map_eq_some_iff.mp hw
  refine ⟨dd.typeIs, wpAny_getItem_heap (room8 hu) (nkey_of I2 hk) dd hp ?_⟩
  rw [hp2]
  exact ⟨v, H2, I2.tok _, rw', q2⟩
end
end Sb

/-! tuple(range(..)), its own object known. -/
namespace Sb
open PySem PySem.Spec PyProof.Rows L2
section
variable {X : Cx} {e : Expr} {te : L2.St → Hp → (Int → Int → Hp → Prop) → Prop}
def tTupRgF (te : L2.St → Hp → (Int → Int → Hp → Prop) → Prop) : TE := fun σ H Q => te σ H fun a b H1 => RgOk a b ∧ ∀ q ob, H1 q = none → ob.dict = none → Q (.ref q) (upd H1 q (.frz ob (.tup (rgV a b))))
theorem pe_tupRgF {p pos : Pos} (hc : X.calm = true) (hg : Gl X "tuple") (hm : X.mg "tuple" = none) (he : PRg X e te) (na : starEach [e] X.env = (false, eval e X.env) :: starEach [] X.env := by rfl) : PE X (.Call (.Name "tuple" p) [e] [] pos) (tTupRgF te) := by
  refine ⟨fun pins s σ H Q I h => ?_⟩
  refine Call_ (ld_blt I hg hm (show bootBuiltins "tuple" = some (.type "tuple") by decide +kernel) (PyProof.Rows.callWith_type1 (args_cons (thn (he pins s σ H _ I h) fun x s1 ⟨r, a, b, t, u, v, H1, ex, hr, I1, ok, q⟩ => args_nil ?_) na) na))
  subst ex
  obtain ⟨b1, b2, b3, b4, b5⟩ := ok
  refine call_tuple_range (n := (b - a).toNat) (I1.ok.hd hc) hr (small_one b1 b2 b3 b4) (rangeSize_nat a b) b5 fun h' tk acc hk hi => ?_
  have I2 : Inv X pins σ H1 { s1 with heap := h', toks := tk } := I1.kept hk
  refine ⟨.ref h'.objs.size, upd H1 h'.objs.size (.frz { cls := .type "tuple", data := .seq acc.toList.toArray } (.tup (rgV a b))), I2.laid (t' := tk) (fun c o e => Heap.get?_push_of_some _ e) (Nat.le_refl _) (show ObjOk X.prog X.w _ _ _ (.frz _ (.tup (rgV a b))) from ⟨?_, ?_, acc.toList, vals_rg hi, ?_⟩), rfl, q _ _ (I2.hok.fresh (Nat.le_refl _)) rfl⟩
  · rw [Array.toArray_toList]
    exact Heap.get?_push_size _ rfl
  · rw [rgV_length, sizeLine_eq]; omega
  · rw [Array.toArray_toList]; exact IsTup.new _ _
end
end Sb

/-! l == [] -/
namespace Sb
open PySem PySem.Spec PyProof.Rows L2
section
variable {X : Cx}
def rEqL0 : R2 := fun x y H Q => ∃ a b xs, x = .ref a ∧ y = .ref b ∧ H a = some (.lst xs) ∧ H b = some (.lst []) ∧ Q (.bl xs.isEmpty) H
theorem op_eqL0 (hu : X.A.units + 64 < cLine) : OpR X (compareOp .Eq) rEqL0 := by
  intro pins s σ H x y v u Q I rx ry h
  obtain ⟨a, b, xs, rfl, rfl, ha, hb, q⟩ := h
  cases rx
  cases ry
  obtain ⟨its, r1, t1, _⟩ := I.list (SqL.of (K := X.K) ha)
  obtain ⟨its2, r2, t2, _⟩ := I.list (SqL.of (K := X.K) hb)
  cases r2
  cases xs with
  | nil =>
    cases r1
    refine SeqAt.RcAt.lists (e := fun _ => true) t1.isList t2.isList rfl (by omega) (fun j _ h2 => absurd h2 (Nat.not_lt_zero _)) X.prog X.w X.xe (EP X pins σ Q) ⟨.bl _, H, I, rfl, q⟩
  | cons z zs =>
    cases r1
    refine SeqAt.RcAt.lists_lengths t1.isList t2.isList (by rfl) (by omega) X.prog X.w X.xe (EP X pins σ Q) ⟨.bl _, H, I, rfl, q⟩
end
end Sb

/-! for i, x in enumerate(tuple). -/
namespace Sb
open PySem PySem.Spec PyProof.Rows L2
theorem meets_enumT (a : Addr) (items : Array Value) :
    Meets (Builtin.«enumerate.__new__» ⟨[.type "enumerate", .ref a], []⟩) (fun _ R s => s.heap.IsTuple a items ∧
      R (.ok (.ret (.ref (s.heap.push { cls := .type "tuple_iterator", data := .fields #[.ref a, .int 0 0] }).objs.size)))
        { s with heap := (s.heap.push { cls := .type "tuple_iterator", data := .fields #[.ref a, .int 0 0] }).push { cls := .type "enumerate", data := .fields #[.none, .bool false, .ref s.heap.objs.size, rawInt 0, .none, .none] } }) :=
  .of_wp fun prog w A R s h => by
    obtain ⟨hp, g, d, tk, os⟩ := s
    obtain ⟨h1, h⟩ := h
    have hsub := sub_enumerate
    obtain ⟨⟨c, dct, dt, sl⟩, hl, hc, n, hd⟩ := id h1
    replace hc : c = .type "tuple" := hc
    replace hd : dt = .seq items n := hd
    subst hc hd
    have q1 : ∀ {A' : Around} {E : Value → Shared → Prop} {Q : Value → Shared → Prop}, Q (.ref hp.objs.size) ⟨hp.push { cls := .type "tuple_iterator", data := .fields #[.ref a, .int 0 0] }, g, d, tk, os⟩ → wpAny (model prog w) A' (pyIter (.ref a)) Q E ⟨hp, g, d, tk, os⟩ :=
      fun q => wpAny_pyIter_tuple h1 q
    wp_walk using AutoSeq1.wpAny_loadPart' hl, q1
    refine wpAny_stack_any fun st => wpAny_pure ?_
    split
    · rename_i c _ _ _ _ _
      cases (c == Value.type "enumerate")
      · wp_walk using AutoSeq1.wpAny_loadPart' hl, q1
        exact ⟨_, rfl, h⟩
      · wp_walk using AutoSeq1.wpAny_loadPart' hl, q1
        exact ⟨_, rfl, h⟩
    · wp_walk using AutoSeq1.wpAny_loadPart' hl, q1
      exact ⟨_, rfl, h⟩
section
variable {prog : Program} {w : World} {A : Around} {E : Value → Shared → Prop} {s : Shared}
theorem call_enumT {l : Addr} {items : Array Value} {Q : Value → Shared → Prop} (hL : s.heap.IsTuple l items)
    (h : ∀ h', IsEnum h' (s.heap.objs.size + 1) s.heap.objs.size 0 .none → h'.IsTupleIter s.heap.objs.size l 0 → h'.objs.size = s.heap.objs.size + 2 →
      (∀ b o, s.heap.get? b = some o → h'.get? b = some o) → Q (.ref (s.heap.objs.size + 1)) { s with heap := h' }) :
    wpAny (model prog w) A (call (.type "enumerate") [.ref l]) Q E s := by
  refine callType_new F.called_enumerate (by decide) (F.typeCall_enumerate_1 _) (F.newCall_enumerate_1 _) (fun obj => F.args_object_init_2 obj _) F.entry_enumerate_new
    (meets_enumT l items) ⟨hL, ?_⟩
  have hz : (s.heap.push { cls := .type "tuple_iterator", data := .fields #[.ref l, .int 0 0] }).objs.size = s.heap.objs.size + 1 := Heap.size_push ..
  show _ ∧ _
  rw [hz]
  have he : IsEnum ((s.heap.push { cls := .type "tuple_iterator", data := .fields #[.ref l, .int 0 0] }).push
      { cls := .type "enumerate", data := .fields #[.none, .bool false, .ref s.heap.objs.size, rawInt 0, .none, .none] }) (s.heap.objs.size + 1) s.heap.objs.size 0 .none := by
    have := Heap.get?_push_size (s.heap.push { cls := .type "tuple_iterator", data := .fields #[.ref l, .int 0 0] })
      (o := { cls := .type "enumerate", data := .fields #[.none, .bool false, .ref s.heap.objs.size, rawInt 0, .none, .none] }) rfl
    rw [hz] at this; exact this
  exact ⟨⟨_, he, rfl⟩, h _ he ⟨_, Heap.get?_push_of_some _ (Heap.get?_push_size _ rfl), rfl, rfl⟩ (by rw [Heap.size_push, hz]) fun b o x => Heap.get?_push_of_some _ (Heap.get?_push_of_some _ x)⟩
theorem enumT_end {e it l : Addr} {i : Nat} {items : Array Value} {old : Value} {Q : Option Value → Shared → Prop} (hh : A.handled = none)
    (he : IsEnum s.heap e it i old) (hit : s.heap.IsTupleIter it l i) (hl : s.heap.IsTuple l items) (hx : items[i]? = none)
    (hQ : ∀ h', Heap.ExtBut it s.heap h' → Q none { s with heap := h' }) : wpAny (model prog w) A (pyNext (.ref e)) Q E s := by
  have hT : s.TypeIs (.ref e) "enumerate" := ⟨_, he, rfl⟩
  unfold pyNext
  refine wpAny_bind (wpAny_attempt (wpAny_callSpecial?_slot (name := Str.ofString "__next__") hT F.slot_enumerate_next
    (wpAny_call_entry F.slot_enumerate_next hT F.entry_enumerate_next ?_ (F.args_enumerate_next_1 _))))
  show wpAny _ _ (field (.ref e) 2 >>= _) _ _ _
  refine wpAny_bind (wpAny_field he rfl (x := .ref it) rfl ?_)
  refine wpAny_bind (RZ.nextOf_tuple_end hh hit hl hx fun h' x he' hx' => ?_)
  obtain ⟨o, ho, hc⟩ := hx'
  refine wpAny_bind (wpAny_isInstance (T := "StopIteration") (b := true) ⟨o, ho, hc⟩ isSubtype_stop ?_)
  exact wpAny_pure (hQ _ he')
end
/-- the tuple at a, each item in a new pair -/
def Itet (K : PySem.W.Frag) (a : Addr) : It :=
  ⟨fun i H => ∃ (xs : List V) (x : V), SqT K H a xs ∧ xs[i]? = some x, fun i H v H' => ∃ T x, v = .ref T ∧ H T = none ∧ H' = upd H T (.tup [.int (i : Nat), x]) ∧ ∀ xs, SqT K H a xs → xs[i]? = some x, fun i H => ∃ xs : List V, SqT K H a xs ∧ xs.length ≤ i⟩
theorem turn_enumT {P : Program} {w : World} {K : PySem.W.Frag} {elts : List Expr} {kk : Nat} {tpos : Pos} (a e it : Addr) (nea : e ≠ a) (nia : it ≠ a) :
    Turn P w K (.Tuple elts kk tpos) (Itet K a) [e, it] e (fun i h => (∃ old, IsEnum h e it ((i : Nat) : Int) old) ∧ h.IsTupleIter it a i ∧ e ≠ it) where
  mem := by simp
  obj := fun i h st b hb => by
    obtain ⟨⟨old, he⟩, ⟨o, ho, hc, hd⟩, _⟩ := st
    have e' : b = e ∨ b = it := by simpa using hb
    rcases e' with z | z
    · rw [z]; exact ⟨_, he, fun v q => nomatch q⟩
    · rw [z]; exact ⟨o, ho, fun v q => by rw [hd] at q; cases q⟩
  keep := fun i h h' st k => let ⟨⟨old, he⟩, hi, hne⟩ := st; ⟨⟨old, k e (by simp) _ he⟩, hi.at fun o q => k it (by simp) o q, hne⟩
  item := by
    intro X hP hw hK hc i pins s σ H E I hf st hg
    subst hP hw hK
    obtain ⟨⟨old, he⟩, hit, hne⟩ := st
    obtain ⟨xs, x, hq, hx⟩ := hg
    obtain ⟨its, rv, p, hz⟩ := I.tuple hq
    obtain ⟨u, hu, ru⟩ := rv.get hx
    have hel : e < s.heap.objs.size := Heap.lt_size he
    have hil : it < s.heap.objs.size := by obtain ⟨_, q, _⟩ := hit; exact Heap.lt_size q
    have hlt : i < its.toArray.size := by
      have := (List.getElem?_eq_some_iff.mp hu).1
      simpa using this
    have D := Draws.tuple (prog := X.prog) (w := X.w) (A := X.A.in1) (I.ok.hd hc) it a (Ne.symm nia) its.toArray
    refine wpAny_pyNext_enum_itemD D he ⟨hit, p⟩ hlt hne (by simp [hne, nea]) fun x' h' tk hx' ho hit' hT hsz hk => ?_
    have ex : x' = u := by
      have e1 : its.toArray[i]? = some u := by simpa using hu
      exact Option.some.inj (hx'.symm.trans e1)
    subst ex
    refine ⟨_, rfl, wpAny_letOwnedTupleGo_enum (s := { s with heap := h', toks := tk + 1 }) ho fun h'' he' sb => ?_⟩
    have hT2 : h''.get? s.heap.objs.size = some { cls := .type "tuple", data := .seq #[.int i tk, x'] } := (sb.2 _ (Nat.ne_of_gt hel)).trans hT
    have new : ObjOk X.prog X.w (upd H s.heap.objs.size (.tup [.int (i : Nat), x])) h'' s.heap.objs.size (.tup [.int (i : Nat), x]) :=
      ⟨by show 2 ≤ sizeLine; decide, [.int i tk, x'], .cons ⟨_, rfl⟩ (.cons ru .nil), ⟨_, hT2, rfl, _, rfl⟩⟩
    have I1 : Inv X pins σ (upd H s.heap.objs.size (.tup [.int (i : Nat), x])) { s with heap := h'', toks := tk + 1 } :=
      I.turnedNew (ch := [e, it]) (fun b ob hb q => (sb.2 b (fun z => hb (by simp [z]))).trans (hk b ob (fun z => hb (by simp [z])) (fun z => hb (by simp [z])) q)) hf (Nat.le_refl _) new
    refine ⟨.ref s.heap.objs.size, _, I1, rfl, ⟨_, x, rfl, I.hok.fresh (Nat.le_refl _), rfl, fun ys hy => by rw [I.tuple_inj hy hq]; exact hx⟩, ⟨⟨x', ?_⟩, hit'.1.at fun o q => (sb.2 it (Ne.symm hne)).trans q, hne⟩, fun b hb => ?_⟩
    · have e1 : ((i + 1 : Nat) : Int) = (i : Int) + 1 := by omega
      rw [e1]; exact he'
    · have hb' : b < s.heap.objs.size := by
        have e' : b = e ∨ b = it := by simpa using hb
        rcases e' with z | z
        · rw [z]; exact hel
        · rw [z]; exact hil
      rw [upd_ne (Nat.ne_of_lt hb')]
      exact (hf b hb).1
  done := by
    intro X hP hw hK hc i pins s σ H E I hf st hg
    subst hP hw hK
    obtain ⟨⟨old, he⟩, hit, hne⟩ := st
    obtain ⟨xs, hq, hx⟩ := hg
    obtain ⟨its, rv, p, hz⟩ := I.tuple hq
    obtain ⟨f0, f1, f2, f3, f4, f5⟩ := hf it (by simp)
    have hl := rv.length
    exact enumT_end (I.ok.hd hc) he hit p (by simp; omega) fun h' eb => ⟨rfl, I.turned (t' := s.toks) (fun b o hb q => eb b o hb q) f0 f1 f3 f4 f5⟩
  self := fun A i s Q E st h => let ⟨⟨_, he⟩, _⟩ := st; wpAny_pyIter_enum he h
def iEnumT (K : PySem.W.Frag) (ta : TA) : TI := fun σ H R => ta σ H fun vs H1 => ∃ a xs, vs = [.ref a] ∧ SqT K H1 a xs ∧ R (Itet K a) H1
theorem pi_enumT {X : Cx} {e : Expr} {ta : TA} {p pos tpos : Pos} {elts : List Expr} {kk : Nat} (hg : Gl X "enumerate") (hm : X.mg "enumerate" = none) (ha : PA X [e] ta) (hs : starEach [e] X.env = [(false, eval e X.env)] := by rfl) :
    PI X (.Tuple elts kk tpos) (.Call (.Name "enumerate" p) [e] [] pos) (iEnumT X.K ta) := by
  refine ⟨fun pins s σ H R I h => ?_⟩
  refine Call_ (ld_blt I hg hm boot_enumerate (PyProof.Rows.callWith_type1 (thn (ha.run pos pins s σ H _ I h) fun us s1 ⟨vs, H1, I1, r1, q1⟩ => ?_) hs rfl))
  obtain ⟨a, xs, ex, hq, q⟩ := q1
  subst ex
  cases r1 with
  | cons r rr =>
    cases rr
    cases r
    obtain ⟨its, rv, p', hz⟩ := I1.tuple hq
    refine call_enumT p' fun h' he hit hsz hk => wpAny_pyIter_enum he ?_
    have I2 : Inv X pins σ H1 { s1 with heap := h' } := I1.kept (t' := s1.toks) hk
    have ha : a < s1.heap.objs.size := by obtain ⟨_, z, _⟩ := p'; exact Heap.lt_size z
    refine ⟨s1.heap.objs.size + 1, [s1.heap.objs.size + 1, s1.heap.objs.size], _, _, H1, rfl, I2, turn_enumT a (s1.heap.objs.size + 1) s1.heap.objs.size (Nat.ne_of_gt (Nat.lt_succ_of_lt ha)) (Nat.ne_of_gt ha), ⟨⟨.none, he⟩, hit, Nat.succ_ne_self _⟩, fun b hb => ?_, q⟩
    have e' : b = s1.heap.objs.size + 1 ∨ b = s1.heap.objs.size := by simpa using hb
    have hle : s1.heap.objs.size ≤ b := by
      rcases e' with z | z
      · rw [z]; exact Nat.le_add_right _ _
      · rw [z]; exact Nat.le_refl _
    exact I1.fpOk hle (I1.hok.fresh hle)
theorem walk_enumT {K : PySem.W.Frag} {a : Addr} {xs : List V} : Walk (Itet K a) xs.length (fun H => SqT K H a xs) (YPair (fun i => some (.int (i : Nat))) (fun i => xs[i]?)) := by
  refine ⟨fun i _ hi q => ⟨xs, xs[i], q, by simp [hi]⟩, fun _ q => ⟨xs, q, Nat.le_refl _⟩, fun i H v H' _ q y => ?_⟩
  obtain ⟨T, x, h1, h2, h3, h4⟩ := y
  exact ⟨T, .int (i : Nat), x, h1, h2, h3, rfl, h4 xs q⟩
end Sb

/-! x = {k: v for ..}, keys ints or texts. -/
namespace Sb
open PySem PySem.Spec PyProof.Rows L2
section
variable {X : Cx}
theorem ps_setDc {i : Nat} {y : Str} {py : Pos} {kx vx tg iter : Expr} {ifs : List Expr} {scope : Scope} {own : List (Str × Nat)} {pos spos : Pos} {wi : TI} {g : TG} {tt : TT} {tk tv : TE} (hc : X.calm = true) (hN : X.N.Nodup) (hy : X.N[i]? = some y) (hyl : X.env.scope.names.lookup y = some .local)
    (hsw : swapsWith (.DictComp kx vx [⟨tg, iter, ifs, 0⟩] scope pos) (some (.Name y py)) spos.line X.env = pure true) (hi : PI X tg iter wi) (ok : BlkOk X.N X.env.scope scope own)
    (hg : ∀ (s : Shared) (H : Hp) (C : Addr) (cl : List (Str × Addr)) (fp : List Addr), PG (X.blk s H scope (compEnvC scope cl C X.env) fp) tg g) (ht : ∀ (s : Shared) (H : Hp) (C : Addr) (cl : List (Str × Addr)) (fp : List Addr), PTs (X.blk s H scope (compEnvC scope cl C X.env) fp) ifs tt)
    (hk : ∀ (s : Shared) (H : Hp) (C : Addr) (cl : List (Str × Addr)) (fp : List Addr), PE (X.blk s H scope (compEnvC scope cl C X.env) fp) kx tk)
    (he : ∀ (s : Shared) (H : Hp) (C : Addr) (cl : List (Str × Addr)) (fp : List Addr), PE (X.blk s H scope (compEnvC scope cl C X.env) fp) vx tv) (hs : ∀ x, foldedSetIterable iter X.env x = pure x := by intro _; rfl) :
    PS X (.Assign [.Name y py] (.DictComp kx vx [⟨tg, iter, ifs, 0⟩] scope pos) spos) (tAsg (tDc wi g tt tk tv (own.map (·.2))) (gName i)) := by
  refine ⟨fun pins s σ H D I h => ?_⟩
  rw [exec_Assign_Name_used _ _ _ _ hsw]
  refine wpAny_bind (wpAny_standAt (wpAny_bind ?_))
  show wpAny _ X.A (do let _ ← comprehension (.DictComp kx vx [⟨tg, iter, ifs, 0⟩] scope pos) scope X.env (firstIterPos [⟨tg, iter, ifs, 0⟩] pos) newDict false (eval iter X.env) (some (assign (.Name y py) X.env))) _ _ s
  have h : tDc wi g tt tk tv (own.map (·.2)) σ H (fun x H1 => gName i x σ H1 D.nx) := h
  refine wpAny_bind (thn (dc_core (Qf := fun _ s' => SP X pins D .next s') hc hN I hi ok hg ht hk he hs h fun L C s' m H' I' q hn f => ?_) fun _ s' hq => wpAny_pure (wpAny_pure hq))
  show wpAny _ _ (assign (.Name y py) X.env (.ref L)) _ _ _
  refine wpAny_assign_Name (store_ok2 (v := V.ref L) I' hN hy (.inl hyl) rfl (fun s2 I2 ⟨a, sb, ha⟩ => ?_) (.inr hyl))
  obtain ⟨f0, f1, f2, f3, f4, f5⟩ := f
  have haC : C ≠ a := by
    rcases ha with z | z
    · rw [z]; exact f1
    · exact fun e => f4 y a z e.symm
  exact ⟨m, hn.sameBut sb haC, fun h3 sb3 => ⟨_, H', I2.turned (t' := s2.toks) (fun b o hb e => (sb3.2 b hb).trans e) f0 f1 f3 f4 f5, q⟩⟩
end
end Sb

/-! dict(a list of pairs), the keys ints or texts. -/
namespace Sb
open PySem PySem.Spec PyProof.Rows L2
abbrev PairsK (H : Hp) : List Addr → List (Key × V) → Prop := Paired fun t p => H t = some (.tup [kV p.1, p.2])
section
variable {X : Cx}
theorem pairsK_of {pins : List (Addr × Obj)} {σ : L2.St} {H : Hp} {s : Shared} (I : L2.Inv X pins σ H s) : ∀ {ts : List Addr} {ps : List (Key × V)}, PairsK H ts ps →
    ∃ xs : List (Key × Value × Value), KV ps (xs.map fun x => (x.1, x.2.2)) ∧ ts.length = xs.length ∧ ∀ (j : Nat) (x : Key × Value × Value), xs[j]? = some x → ∃ t : Addr, ts[j]? = some t ∧ IsTup s.heap t #[x.2.1, x.2.2] ∧ RelV (kV x.1) x.2.1
  | _, _, .nil => ⟨[], .nil, rfl, fun j q e => by simp at e⟩
  | _, _, .cons (a := t) (b := p) h r => by
    obtain ⟨xs, h1, h3, h4⟩ := pairsK_of I r
    obtain ⟨its, rv, ht, _⟩ := I.tuple (SqT.of h)
    obtain ⟨u, y, ei, ru, ry⟩ := vals2 rv
    subst ei
    refine ⟨(p.1, u, y) :: xs, .cons ⟨rfl, ry⟩ h1, by rw [List.length_cons, List.length_cons, h3], fun j q e => ?_⟩
    cases j with
    | zero =>
      have e' : (p.1, u, y) = q := Option.some.inj e
      subst e'
      exact ⟨t, rfl, ht, ru⟩
    | succ j =>
      obtain ⟨t', e1, e2⟩ := h4 j q (by simpa using e)
      exact ⟨t', by simpa using e1, e2⟩
def rDictPI : List V → Hp → VK → Prop := fun xs H Q => ∃ (a : Addr) (ts : List Addr) (ps : List (Key × V)), xs = [.ref a] ∧ H a = some (.lst (ts.map V.ref)) ∧ PairsK H ts ps ∧
  ∀ d, H d = none → Q (.ref d) (upd H d (.dK (mergeK [] ps)))
theorem call_dictPI (hc : X.calm = true) : CallR X (.type "dict") rDictPI := by
  intro pins s σ H xs us Q I r h
  obtain ⟨a, ts, ps, rfl, ha, hp, q⟩ := h
  obtain ⟨u, rfl, rx⟩ := vals1 r
  obtain rfl : u = Value.ref a := rx
  obtain ⟨its, rv, pl, hz⟩ := I.list (SqL.of ha)
  have ei := refs_at rv
  subst ei
  rw [List.length_map] at hz
  obtain ⟨xH, kt, l1, hpr⟩ := pairsK_of I hp
  obtain ⟨o, n, ho, hcl, hd, hdat⟩ := pl
  have prs : ∀ {j : Nat} {k v : Value}, (xH.map fun x => (x.2.1, x.2.2))[j]? = some (k, v) → ∃ x, xH[j]? = some x ∧ k = x.2.1 ∧ v = x.2.2 := fun {j k v} e => by
    rw [List.getElem?_map] at e
    obtain ⟨x, e1, e2⟩ := Option.map_eq_some_iff.mp e
    cases e2
    exact ⟨x, e1, rfl, rfl⟩
  refine call_dict_pairs (knd := mixKind X.prog X.w) (kvs := xH.map fun x => (x.1, x.2.2)) (PairArg.list a (ts.map Value.ref).toArray (fun j => (ts[j]?).getD 0) (xH.map fun x => (x.2.1, x.2.2))) (I.ok.hd hc) ⟨⟨o, n, ho, hcl, hd, hdat⟩, ?_, fun j k v e => ?_⟩ ⟨by rw [List.length_map, List.length_map], fun j k v e => ?_⟩ ?_ fun h' tk hd' k => ?_
  · simp [l1]
  · obtain ⟨x, e1, rfl, rfl⟩ := prs e
    obtain ⟨t, e2, e3, _⟩ := hpr j x e1
    refine ⟨by simp [e2], .inl ?_⟩
    show IsTup s.heap ((ts[j]?).getD 0) _
    rw [e2]
    exact e3
  · obtain ⟨x, e1, rfl, rfl⟩ := prs e
    obtain ⟨t, e2, e3, e4⟩ := hpr j x e1
    exact ⟨x.1, by rw [List.getElem?_map, e1]; rfl, kV_is e4⟩
  · rw [List.length_map, ← l1]
    exact hz
  · have hm : (s.heap.objs.size == sysModules) = false := beq_eq_false_iff_ne.mpr (Nat.ne_of_gt I.big)
    have kp : ∀ b o, s.heap.get? b = some o → h'.get? b = some o := fun b o e => k b o (fun z => nomatch z) e
    have hlen : (mergeK [] ps).length ≤ sizeLine := by
      have h1 := length_mergeK ps []
      have h2 := Paired.length hp
      simp only [List.length_nil] at h1
      omega
    exact ⟨.ref s.heap.objs.size, upd H s.heap.objs.size (.dK (mergeK [] ps)), I.laid (t' := tk) kp (Nat.le_refl _) (dk_new hlen hm (KV.merge kt .nil) hd'), rfl, q _ (I.hok.fresh (Nat.le_refl _))⟩
end
end Sb

/-! set(t), t a tuple of ints. -/
namespace Sb
open PySem PySem.Spec PyProof.Rows L2
def rSetIT (K : PySem.W.Frag) (w : World) : List V → Hp → VK → Prop := fun xs H Q => ∃ (p : Addr) (ns : List Int), xs = [.ref p] ∧ SqT K H p (ns.map V.int) ∧ ns.length ≤ 50 ∧
  ∀ a c, c ≤ ns.length → H a = none → Q (.ref a) (upd H a (SetO w a (fun j => decide (j ∈ ns)) c))
theorem call_setIT {X : Cx} (hc : X.calm = true) : CallR X (.type "set") (rSetIT X.K X.w) := by
  intro pins s σ H xs us Q I r h
  obtain ⟨p0, ns, rfl, hq, hl, q⟩ := h
  obtain ⟨u, rfl, rx⟩ := vals1 r
  obtain rfl : u = Value.ref p0 := rx
  obtain ⟨its, rv, pt, hz⟩ := I.tuple hq
  have hi : IntsAre its.toArray.toList ns := ints_of_vals rv
  refine call_set_tupI ns (I.ok.hd hc) (show s.heap.IsTuple p0 its.toArray from pt) hi (by unfold scanBound; omega) fun h' tk c R1 hcn k => ?_
  exact ⟨.ref s.heap.objs.size, upd H s.heap.objs.size (SetO X.w s.heap.objs.size (fun j => decide (j ∈ ns)) c), I.laid (t' := tk) k (Nat.le_refl _) (setO_new R1), rfl, q _ c hcn (I.hok.fresh (Nat.le_refl _))⟩
/-- tuple(xs) within a comprehension -/
def rTupOf (K : PySem.W.Frag) : List V → Hp → VK → Prop := fun xs H Q => ∃ p ys, xs = [V.ref p] ∧ ((SqL K H p ys ∧ ∀ (l : Addr), H l = none → Q (V.ref l) (upd H l (HO.tup ys))) ∨ SqT K H p ys ∧ Q (V.ref p) H)
theorem call_tupOf {X : Cx} : CallR X (.type "tuple") (rTupOf X.K) := call_tuple_of
end Sb

/-! for .. in f().items() -/
namespace Sb
open PySem PySem.Spec PyProof.Rows L2
section
variable {X : Cx} {i o : Expr} {ty td : TE}
/-- d.items() of a dict that is just made -/
def iItemsL (td : TE) : TI := fun σ H R => td σ H fun x H1 => ∃ d kvs, x = V.ref d ∧ H1 d = some (.dT kvs) ∧ ∀ o, R (Itit d o kvs) (upd H1 d (.frz o (.dT kvs)))
theorem pi_itemsL {e : Expr} {td : TE} {apos cpos : Pos} {elts : List Expr} {kk : Nat} {tpos : Pos} (he : PE X e td) (hbase : attributeBase e (Str.ofString "items") X.env (eval e X.env) = eval e X.env := by rfl) (hline : (apos.endLine == cpos.line) = true := by rfl) :
    PI X (.Tuple elts kk tpos) (.Call (.Attribute e (Str.ofString "items") apos) [] [] cpos) (iItemsL td) := by
  refine ⟨fun pins s σ H R I h => ?_⟩
  refine wpAny_Call_method hbase rfl hline PySem.F.plainAttrs_dict PySem.F.slot_dict_items PySem.F.type_dict_items (thn (he.run pins s σ H _ I h) fun u s1 ⟨x, H0, I0, rx, d, kvs, ex, hd0, q⟩ => ?_)
  subst ex
  obtain rfl : u = Value.ref d := rx
  obtain ⟨o, I1⟩ := I0.lock hd0 trivial
  have hd : (upd H0 d (.frz o (.dT kvs))) d = some (.frz o (.dT kvs)) := upd_same
  have q := q o
  generalize upd H0 d (.frz o (.dT kvs)) = H1 at *
  obtain ⟨hgd, hx, hs, es, ep, hdt, hsz, ent⟩ := frzT' I1 hd
  have raw : DT.Raw s1.heap d es ep := ⟨o, hgd, hx, hdt⟩
  refine ⟨DT.Raw.typeIs raw, fun a e => by cases e; exact ⟨o, hgd, hx.2.1⟩, ?_⟩
  have I2 : L2.Inv X pins σ H1 { s1 with heap := s1.heap.push { cls := .type "dict_items", data := .fields #[.ref d] } } := Inv.kept I1 fun b ob q => Heap.get?_push_of_some _ q
  have fin := DT.iterI (prog := X.prog) (w := X.w) (A := X.A) (E := X.xe) (Q := PIE X pins σ (.Tuple elts kk tpos) R) (s := { s1 with heap := s1.heap.push { cls := .type "dict_items", data := .fields #[.ref d] } }) (v := s1.heap.objs.size) ⟨_, Heap.get?_push_size _ rfl, rfl, rfl⟩ (DT.Raw.push raw _) (pi_one I2 _ (turn_itemsT _ hdt) ⟨.none, .none, by rw [← hsz]; exact Heap.get?_push_size _ rfl⟩ q)
  refine method_meetsIn PySem.F.slot_dict_items PySem.F.entry_dict_items rfl (PySem.evalArgs_none ⟨rfl, DT.Raw.typeIs raw, PySem.F.args_dict_items_1 _, _, DT.meetsItems hs, raw, fin⟩)
end
end Sb

/-! len(set(t)), t a tuple of ints and texts, read as one likes. -/
namespace Sb
open PySem PySem.Spec PyProof.Rows L2
section
variable {X : Cx}
def tLenSetT (K : PySem.W.Frag) (ta : TE) : TE := fun σ H Q => ta σ H fun x H1 => ∃ (l : Addr) (xs : List Key), x = .ref l ∧ SqT K H1 l (xs.map kV) ∧ xs.length ≤ 50 ∧ Q (.int (uniqK xs).length) H1
theorem pe_lenSetT {a : Expr} {ta : TE} {p p2 q pos : Pos} (hc : X.calm = true) (hg : Gl X "len") (hm : X.mg "len" = none) (hg2 : Gl X "set") (hm2 : X.mg "set" = none) (ha : PE X a ta)
    (na : starEach [a] X.env = (false, eval a X.env) :: starEach [] X.env := by rfl) : PE X (.Call (.Name "len" p) [.Call (.Name "set" p2) [a] [] q] [] pos) (tLenSetT X.K ta) := by
  refine ⟨fun pins s σ H Q I h => ?_⟩
  refine Call_ (ld_blt I hg hm boot_len ?_)
  refine PyProof.Rows.callWith_builtin1 (PyProof.Rows.args_cons ?_ rfl) rfl rfl
  refine Call_ (ld_blt I hg2 hm2 boot_set ?_)
  refine PyProof.Rows.callWith_type1 (PyProof.Rows.args_cons (thn (ha.run pins s σ H _ I h) fun v s1 ⟨x, H1, I1, r1, q1⟩ => PyProof.Rows.args_nil ?_) na) na rfl
  obtain ⟨l, xs, rfl, hq, h1, q1⟩ := q1
  cases r1
  obtain ⟨its, r, pl, hz⟩ := I1.tuple hq
  refine call_set_tupleM (I1.ok.hd hc) pl (by simpa using r) h1 fun h' tk hS hk => ?_
  refine PyProof.Rows.args_nil ?_
  have hl : its.toArray.size = xs.length := by rw [List.size_toArray, ← r.length, List.length_map]
  rw [hl, List.take_length] at hS
  obtain ⟨o, es, ep, t, ho, hex, hd, _, _, _, hf, hn⟩ := hS
  have I2 : L2.Inv X pins σ H1 { s1 with heap := h', toks := tk } := I1.kept fun b o e => hk b o (Heap.lt_size e) e
  have lu := (uniqK_len _ xs rfl).1
  refine call_len_set ho hex hd hf (by rw [hn] <;> omega) ⟨.int (uniqK xs).length, H1, I2.tok _, ⟨_, by rw [hn]⟩, q1⟩
end
end Sb

/-! Things that an expression has made and that are known: their own objects are forgotten. -/
namespace Sb
open PySem PySem.Spec PyProof.Rows L2
/-- the things at these addresses, their own objects forgotten -/
def unfO : Option HO → Option HO
  | some (.frz _ u) => some u
  | x => x
def unfA (H : Hp) (a : Addr) : Hp := fun b => if b = a then unfO (H a) else H b
def unfL (H : Hp) : List Addr → Hp
  | [] => H
  | a :: r => unfL (unfA H a) r
theorem unfA_ne {H : Hp} {a b : Addr} (h : b ≠ a) : unfA H a b = H b := if_neg h
theorem unfA_same {H : Hp} {a : Addr} {o : Obj} {u : HO} (h : H a = some (.frz o u)) : unfA H a a = some u := by
  unfold unfA
  rw [if_pos rfl, h]
  rfl
theorem unfA_tup {H : Hp} {a b : Addr} {xs : List V} (h : H b = some (.tup xs)) : unfA H a b = some (.tup xs) := by
  by_cases e : b = a
  · subst e
    unfold unfA
    rw [if_pos rfl, h]
    rfl
  · rw [unfA_ne e]
    exact h
theorem unfA_upd {H : Hp} {a : Addr} {o : Obj} {u : HO} (h : H a = some (.frz o u)) : unfA H a = upd H a u := by
  funext b
  by_cases e : b = a
  · rw [e, unfA_same h, upd_same]
  · rw [unfA_ne e, upd_ne e]
theorem unfA_id {H : Hp} {a : Addr} (h : ∀ o u, H a ≠ some (.frz o u)) : unfA H a = H := by
  funext b
  by_cases e : b = a
  · subst e
    unfold unfA
    rw [if_pos rfl]
    cases q : H b with
    | none => rfl
    | some v =>
      cases v with
      | frz o u => exact absurd q (h o u)
      | _ => rfl
  · rw [unfA_ne e]
theorem unfL_tup {b : Addr} {xs : List V} : ∀ (r : List Addr) {H : Hp}, H b = some (.tup xs) → unfL H r b = some (.tup xs)
  | [], _, h => h
  | a :: r, _, h => unfL_tup r (unfA_tup h)
theorem unfL_off {b : Addr} : ∀ (r : List Addr) {H : Hp}, b ∉ r → unfL H r b = H b
  | [], _, _ => rfl
  | a :: r, H, h => by
    show unfL (unfA H a) r b = H b
    rw [unfL_off r fun z => h (List.mem_cons_of_mem _ z)]
    exact unfA_ne fun z => h (z ▸ List.mem_cons_self)
theorem unfL_in {b : Addr} {o : Obj} {xs : List V} : ∀ (r : List Addr) {H : Hp}, b ∈ r → H b = some (.frz o (.tup xs)) → unfL H r b = some (.tup xs)
  | a :: r, H, h, e => by
    by_cases q : b = a
    · subst q
      exact unfL_tup r (unfA_same e)
    · refine unfL_in r (H := unfA H a) ?_ (by rw [unfA_ne q]; exact e)
      rcases List.mem_cons.mp h with z | z
      · exact absurd z q
      · exact z
/-- what stood before stays -/
theorem unfL_same {H H1 : Hp} (s : Same H H1) {r : List Addr} (n : ∀ a ∈ r, H a = none) : Same H (unfL H1 r) := fun b o e => by
  rw [unfL_off r fun z => by rw [n b z] at e; cases e]
  exact s _ _ e
section
variable {X : Cx} {e : Expr} {t : TE}
theorem Inv.unfA {pins : List (Addr × Obj)} {σ : L2.St} {H H1 : Hp} {s s1 : Shared} (I0 : L2.Inv X pins σ H s) (I : L2.Inv X pins σ H1 s1) {a : Addr} (n : H a = none) : L2.Inv X pins σ (unfA H1 a) s1 := by
  by_cases h : ∃ o u, H1 a = some (.frz o u)
  · obtain ⟨o, u, h⟩ := h
    rw [unfA_upd h]
    refine L2.Inv.unlock I h fun o' u' z => ?_
    have := I0.base.frzs _ _ _ z
    rw [n] at this
    cases this
  · rw [unfA_id fun o u z => h ⟨o, u, z⟩]
    exact I
theorem Inv.unfL {pins : List (Addr × Obj)} {σ : L2.St} {H : Hp} {s s1 : Shared} (I0 : L2.Inv X pins σ H s) : ∀ (r : List Addr) {H1 : Hp}, L2.Inv X pins σ H1 s1 → (∀ a ∈ r, H a = none) → L2.Inv X pins σ (unfL H1 r) s1
  | [], _, I, _ => I
  | a :: r, _, I, n => Inv.unfL I0 r (Inv.unfA I0 I (n a List.mem_cons_self)) fun b hb => n b (List.mem_cons_of_mem _ hb)
def tUnf (t : TE) : TE := fun σ H Q => t σ H fun v H1 => ∃ r : List Addr, (∀ a ∈ r, H a = none) ∧ Q v (unfL H1 r)
theorem pe_unf (h : PE X e t) : PE X e (tUnf t) := by
  refine ⟨fun pins s σ H Q I hq => thn (h.run pins s σ H _ I hq) fun v s1 ⟨x, H1, I1, r1, r, n, q1⟩ => ?_⟩
  exact ⟨x, _, Inv.unfL I r I1 n, r1, q1⟩
end
end Sb

namespace Sb
open PySem PySem.Spec PyProof.Rows L2
theorem ne_fr {H : Hp} {a b : Addr} {o : HO} (n : H b = none) (h : H a = some o) : a ≠ b := ne_of_none h n
theorem ne_fr' {H : Hp} {a b : Addr} {o : HO} (n : H b = none) (h : H a = some o) : b ≠ a := (ne_of_none h n).symm
theorem upd_off {H : Hp} {a b : Addr} {o u : HO} (n : b ≠ a) (h : H b = some u) : upd H a o b = some u := by rw [upd_ne n]; exact h
theorem upd_offN {H : Hp} {a b : Addr} {o : HO} (n : b ≠ a) (h : H b = none) : upd H a o b = none := by rw [upd_ne n]; exact h
theorem upd_none {H : Hp} {a b : Addr} {o : HO} (h : upd H a o b = none) : b ≠ a ∧ H b = none := by
  by_cases e : b = a
  · subst e
    rw [upd_same] at h
    cases h
  · rw [upd_ne e] at h
    exact ⟨e, h⟩
local macro_rules | `(tactic| walk_at "ne") => `(tactic| first
  | assumption
  | exact Ne.symm (by assumption)
  | exact ne_fr (by assumption) (by walk_at "hp")
  | exact ne_fr' (by assumption) (by walk_at "hp"))
local macro_rules | `(tactic| walk_at "hp") => `(tactic| first
  | assumption
  | exact upd_same
  | exact upd_off (by walk_at "ne") (by walk_at "hp"))

def top (i : Nat) : Stmt := PySem.Challenge.pw_seenbefore_k59_whole_nothing_to_drop_twi.main.body.getD i (.Pass ⟨0, 0, 0, 0⟩)
abbrev s_is_integer : Stmt := top 11
abbrev s_is_between : Stmt := top 12
abbrev s_Watcher_init : Stmt := inClass (top 20) 0
abbrev s_Watcher_len : Stmt := inClass (top 20) 1
abbrev s_Watcher_add_state : Stmt := inClass (top 20) 3
abbrev s_Watcher_set_verdict : Stmt := inClass (top 20) 4
abbrev s_Watcher_add_rule : Stmt := inClass (top 20) 5
abbrev s_Watcher_remove_rule : Stmt := inClass (top 20) 6
abbrev s_Watcher_verdicts : Stmt := inClass (top 20) 7
abbrev s_Watcher_held_counts : Stmt := inClass (top 20) 8
abbrev s_Watcher_rules : Stmt := inClass (top 20) 9
abbrev s_Watcher_rule_for : Stmt := inClass (top 20) 11
abbrev s_Watcher_require_state : Stmt := inClass (top 20) 12
abbrev s_Watcher_require_word : Stmt := inClass (top 20) 13
abbrev s_require_verdict : Stmt := top 21
abbrev s_is_test : Stmt := top 22
abbrev s_are_sources : Stmt := top 23
abbrev s_is_source : Stmt := top 24
abbrev s_may_be_rule : Stmt := top 25
abbrev s_rule_order : Stmt := top 26
abbrev s_part_order : Stmt := top 27
abbrev s_after_message : Stmt := top 29
abbrev s_carried : Stmt := top 30
abbrev s_verdicts_at : Stmt := top 35
abbrev s_steps_from : Stmt := top 36
abbrev s_steps_among : Stmt := top 37
abbrev s_ways_to : Stmt := top 38
abbrev s_held_numbers : Stmt := top 39
abbrev s_equal_places : Stmt := top 40
abbrev s_cases_between : Stmt := top 41
abbrev s_situation_after : Stmt := top 42
abbrev s_value_of : Stmt := top 43
abbrev s_least_other : Stmt := top 44
abbrev s_other_value : Stmt := top 48
abbrev s_are_sought : Stmt := top 49
abbrev s_ways_to_sought : Stmt := top 50
abbrev s_ways_to_unlike : Stmt := top 51
abbrev s_all_places : Stmt := top 52
abbrev s_needed_places : Stmt := top 54
abbrev s_dropped : Stmt := top 55
abbrev s_renumbered : Stmt := top 56
abbrev s_law_pen : Stmt := top 58
abbrev s_law_fresh : Stmt := top 59
abbrev s_law_draw : Stmt := top 60
abbrev s_law_some_sources : Stmt := top 61
abbrev s_law_plan : Stmt := top 62
abbrev s_law_built : Stmt := top 63
abbrev s_law_rank : Stmt := top 64
abbrev s_law_ordered_rules : Stmt := top 65
abbrev s_law_shows : Stmt := top 66
abbrev s_law_few_plan : Stmt := top 67
abbrev s_law_needless_right : Stmt := top 68
abbrev s_law : Stmt := top 69
abbrev s_NotAWord_init : Stmt := inClass (top 2) 0
abbrev s_NotAVerdict_init : Stmt := inClass (top 3) 0
abbrev s_InvalidTest_init : Stmt := inClass (top 4) 0
abbrev s_InvalidSources_init : Stmt := inClass (top 5) 0
abbrev s_UnknownState_init : Stmt := inClass (top 6) 0
abbrev s_RuleExists_init : Stmt := inClass (top 8) 0
abbrev s_LimitExceeded_init : Stmt := inClass (top 9) 0
abbrev s_UnknownRule_init : Stmt := inClass (top 7) 0
/-- where all stands -/
structure Tx (K : PySem.W.Frag) (mg : Str → Option Value) where
  Watcher : Cn K mg "Watcher"
  nf_Watcherwords : NoAttr K Watcher.C "words"
  nf_Watcher_verdicts : NoAttr K Watcher.C "_verdicts"
  nf_Watcher_held : NoAttr K Watcher.C "_held"
  nf_Watcher_rules : NoAttr K Watcher.C "_rules"
  is_integer : Dn K mg "is_integer" s_is_integer ["value"]
  is_between : Dn K mg "is_between" s_is_between ["value", "low", "high"]
  Watcher_init : Mn K Watcher.C "__init__" "Watcher.__init__" s_Watcher_init ["self", "words"]
  Watcher_len : Mn K Watcher.C "__len__" "Watcher.__len__" s_Watcher_len ["self"]
  Watcher_add_state : Mn K Watcher.C "add_state" "Watcher.add_state" s_Watcher_add_state ["self", "verdict", "held"]
  Watcher_set_verdict : Mn K Watcher.C "set_verdict" "Watcher.set_verdict" s_Watcher_set_verdict ["self", "state", "verdict"]
  Watcher_add_rule : Mn K Watcher.C "add_rule" "Watcher.add_rule" s_Watcher_add_rule ["self", "state", "word", "test", "target", "sources"]
  Watcher_remove_rule : Mn K Watcher.C "remove_rule" "Watcher.remove_rule" s_Watcher_remove_rule ["self", "state", "word", "test"]
  Watcher_verdicts : Mn K Watcher.C "verdicts" "Watcher.verdicts" s_Watcher_verdicts ["self"]
  Watcher_held_counts : Mn K Watcher.C "held_counts" "Watcher.held_counts" s_Watcher_held_counts ["self"]
  Watcher_rules : Mn K Watcher.C "rules" "Watcher.rules" s_Watcher_rules ["self"]
  Watcher_rule_for : Mn K Watcher.C "rule_for" "Watcher.rule_for" s_Watcher_rule_for ["self", "state", "word", "test"]
  Watcher_require_state : Mn K Watcher.C "require_state" "Watcher.require_state" s_Watcher_require_state ["self", "state"]
  Watcher_require_word : Mn K Watcher.C "require_word" "Watcher.require_word" s_Watcher_require_word ["self", "word"]
  require_verdict : Dn K mg "require_verdict" s_require_verdict ["verdict"]
  is_test : Dn K mg "is_test" s_is_test ["test", "held"]
  are_sources : Dn K mg "are_sources" s_are_sources ["sources", "wanted", "held", "test"]
  is_source : Dn K mg "is_source" s_is_source ["source", "held", "test"]
  may_be_rule : Dn K mg "may_be_rule" s_may_be_rule ["rule"]
  rule_order : Dn K mg "rule_order" s_rule_order ["rule"]
  part_order : Dn K mg "part_order" s_part_order ["part"]
  after_message : Dn K mg "after_message" s_after_message ["watcher", "state", "held", "word", "value"]
  carried : Dn K mg "carried" s_carried ["sources", "held", "value"]
  verdicts_at : Dn K mg "verdicts_at" s_verdicts_at ["pair", "situation"]
  steps_from : Dn K mg "steps_from" s_steps_from ["pair", "situation"]
  steps_among : Dn K mg "steps_among" s_steps_among ["pair", "situations"]
  ways_to : Dn K mg "ways_to" s_ways_to ["steps", "ends"]
  held_numbers : Dn K mg "held_numbers" s_held_numbers ["pair", "situation"]
  equal_places : Dn K mg "equal_places" s_equal_places ["first", "second"]
  cases_between : Dn K mg "cases_between" s_cases_between ["first", "second"]
  situation_after : Dn K mg "situation_after" s_situation_after ["pair", "situation", "held", "word", "case"]
  value_of : Dn K mg "value_of" s_value_of ["case", "first", "second"]
  least_other : Dn K mg "least_other" s_least_other ["values"]
  other_value : Dn K mg "other_value" s_other_value ["watcher", "p", "i"]
  are_sought : Dn K mg "are_sought" s_are_sought ["claim", "verdicts"]
  ways_to_sought : Dn K mg "ways_to_sought" s_ways_to_sought ["watchers", "situations", "claim"]
  ways_to_unlike : Dn K mg "ways_to_unlike" s_ways_to_unlike ["watcher", "situations"]
  all_places : Dn K mg "all_places" s_all_places ["watcher"]
  needed_places : Dn K mg "needed_places" s_needed_places ["watcher"]
  dropped : Dn K mg "dropped" s_dropped ["watcher"]
  renumbered : Dn K mg "renumbered" s_renumbered ["part", "places"]
  law_pen : Dn K mg "_law_pen" s_law_pen ["script"]
  law_fresh : Dn K mg "_law_fresh" s_law_fresh ["pen"]
  law_draw : Dn K mg "_law_draw" s_law_draw ["pen", "many"]
  law_some_sources : Dn K mg "_law_some_sources" s_law_some_sources ["pen", "held", "test", "many"]
  law_plan : Dn K mg "_law_plan" s_law_plan ["pen", "words", "states", "held"]
  law_built : Dn K mg "_law_built" s_law_built ["plan"]
  law_rank : Dn K mg "_law_rank" s_law_rank ["rule"]
  law_ordered_rules : Dn K mg "_law_ordered_rules" s_law_ordered_rules ["plan"]
  law_shows : Dn K mg "_law_shows" s_law_shows ["watcher", "plan"]
  law_few_plan : Dn K mg "_law_few_plan" s_law_few_plan ["pen"]
  law_needless_right : Dn K mg "_law_needless_right" s_law_needless_right ["pen"]
  mk_Watcher : Mk K Watcher.C Watcher_init.f
  bt_rule_order : ∀ (s : Shared) (v : Value), BindsTo s rule_order.fd ⟨[v], []⟩ [("rule", v)]
  bt_law_rank : ∀ (s : Shared) (v : Value), BindsTo s law_rank.fd ⟨[v], []⟩ [("rule", v)]
  bt_part_order : ∀ (s : Shared) (v : Value), BindsTo s part_order.fd ⟨[v], []⟩ [("part", v)]
  tf_Watcher_len : PySem.W.typeIn K (.ref Watcher_len.f) = some (.type "function")
  NotAWord : En K mg OwnE.bVE "NotAWord" "word" "NotAWord.__init__"
  NotAVerdict : En K mg OwnE.bVE "NotAVerdict" "verdict" "NotAVerdict.__init__"
  InvalidTest : En K mg OwnE.bVE "InvalidTest" "test" "InvalidTest.__init__"
  InvalidSources : En K mg OwnE.bVE "InvalidSources" "sources" "InvalidSources.__init__"
  UnknownState : En K mg OwnE.bLE "UnknownState" "state" "UnknownState.__init__"
  RuleExists : En K mg OwnE.bRE "RuleExists" "rule" "RuleExists.__init__"
  LimitExceeded : En K mg OwnE.bOE "LimitExceeded" "limit" "LimitExceeded.__init__"
  UnknownRule : En K mg OwnE.bLE "UnknownRule" "rule" "UnknownRule.__init__"
  ck_MOST_WORDS : Tok
  g_MOST_WORDS : mg "MOST_WORDS" = some (.int 3 ck_MOST_WORDS)
  ck_MOST_STATES : Tok
  g_MOST_STATES : mg "MOST_STATES" = some (.int 6 ck_MOST_STATES)
  ck_MOST_HELD : Tok
  g_MOST_HELD : mg "MOST_HELD" = some (.int 3 ck_MOST_HELD)
  ck_MOST_VERDICT : Tok
  g_MOST_VERDICT : mg "MOST_VERDICT" = some (.int 3 ck_MOST_VERDICT)
  ck_NEW : Tok
  g_NEW : mg "NEW" = some (.str "new" ck_NEW)
  ck_VALUE : Tok
  g_VALUE : mg "VALUE" = some (.str "value" ck_VALUE)
  ck_BOTH : Tok
  g_BOTH : mg "BOTH" = some (.str "both" ck_BOTH)
  ck_FIRST : Tok
  g_FIRST : mg "FIRST" = some (.str "first" ck_FIRST)
  ck_SECOND : Tok
  g_SECOND : mg "SECOND" = some (.str "second" ck_SECOND)
  ck_ALIKE : Tok
  g_ALIKE : mg "ALIKE" = some (.str "alike" ck_ALIKE)
  ck_TOGETHER : Tok
  g_TOGETHER : mg "TOGETHER" = some (.str "together" ck_TOGETHER)
  m_abs : mg "abs" = none
  m_enumerate : mg "enumerate" = none
  m_list : mg "list" = none
  m_len : mg "len" = none
  m_range : mg "range" = none
  m_tuple : mg "tuple" = none
  m_isinstance : mg "isinstance" = none
  m_bool : mg "bool" = none
  m_int : mg "int" = none
  m_sorted : mg "sorted" = none
  m_set : mg "set" = none
  m_repr : mg "repr" = none
  m_dict : mg "dict" = none
/-! ### the pen: cells of the script, drawn one by one -/
def cutAll (ns : List Int) (h : ns.length ≤ 63) : cutV (ns.map V.int) none (some 63) = ns.map V.int := by
  unfold cutV
  rw [show HT.sIx (ns.map V.int).length 0 none = 0 from HT.sIx_none _ _, show HT.sIx (ns.map V.int).length (ns.map V.int).length (some 63) = min 63 (ns.map V.int).length from HT.sIx_nat _ _ 63]
  rw [List.drop_zero, Nat.sub_zero, List.length_map, Nat.min_eq_right h]
  exact List.take_of_length_le (by rw [List.length_map]; exact Nat.le_refl _)
/-- but at p, what was tracked is as it was -/
def Keep (p : Addr) (H H' : Hp) : Prop := ∀ b o, H b = some o → b ≠ p → H' b = some o
theorem Keep.refl {p : Addr} {H : Hp} : Keep p H H := fun _ _ h _ => h
theorem Keep.trans {p : Addr} {H H1 H2 : Hp} (a : Keep p H H1) (b : Keep p H1 H2) : Keep p H H2 := fun c o h n => b c o (a c o h n) n
theorem Keep.new {p q : Addr} {H : Hp} {o : HO} (h : H q = none) : Keep p H (upd H q o) := fun b u e _ => by rw [upd_ne (ne_of_none e h)]; exact e
theorem Keep.at {p : Addr} {H H1 : Hp} {o : HO} (a : Keep p H H1) : Keep p H (upd H1 p o) := fun b u e n => by rw [upd_ne n]; exact a b u e n
theorem Keep.same {p : Addr} {H H1 : Hp} (h : Same H H1) : Keep p H H1 := fun b o e _ => h b o e
/-- the pen stands at p, its cells at c -/
def PenIs (H : Hp) (p c : Addr) (ns : List Int) (at_ st : Int) : Prop := H p = some (.lst [.ref c, .int at_, .int st]) ∧ H c = some (.lst (ns.map V.int))
def Pen (H : Hp) (p c : Addr) : Prop := ∃ ns at_ st, PenIs H p c ns at_ st ∧ 0 ≤ at_ ∧ 0 ≤ st ∧ ns.length ≤ 63
theorem PenIs.ne {H : Hp} {p c : Addr} {ns : List Int} {a z : Int} (h : PenIs H p c ns a z) : p ≠ c := by
  refine ne_of h.1 h.2 ?_
  intro e
  cases ns with
  | nil => cases e
  | cons x r => cases e
theorem Pen.ne {H : Hp} {p c : Addr} (h : Pen H p c) : p ≠ c := by
  obtain ⟨_, _, _, h, _⟩ := h
  exact h.ne
theorem Pen.mono {H H' : Hp} {p c : Addr} (h : Pen H p c) (e : Same H H') : Pen H' p c := by
  obtain ⟨ns, a, z, h, r⟩ := h
  exact ⟨ns, a, z, ⟨e _ _ h.1, e _ _ h.2⟩, r⟩
theorem Pen.free {H : Hp} {p c q : Addr} (h : Pen H p c) (e : H q = none) : p ≠ q ∧ c ≠ q := by
  obtain ⟨ns, a, z, h, r⟩ := h
  exact ⟨ne_of_none h.1 e, ne_of_none h.2 e⟩
theorem Pen.tups {H H' : Hp} {p c : Addr} (h : Pen H p c) (k : Keep p H H') : Tups H H' := fun a xs e => by
  obtain ⟨ns, x, z, ⟨h1, _⟩, _⟩ := h
  exact k a _ e (ne_of e h1 (fun z => by cases z))
theorem Pen.at {H : Hp} {p c : Addr} (h : Pen H p c) : ∃ l, H p = some (.lst l) := by
  obtain ⟨ns, x, z, ⟨h1, _⟩, _⟩ := h
  exact ⟨_, h1⟩
theorem Pen.put {H : Hp} {p c a : Addr} {o : HO} (h : Pen H p c) (n1 : a ≠ p) (n2 : a ≠ c) : Pen (upd H a o) p c := by
  obtain ⟨ns, x, z, ⟨h1, h2⟩, r⟩ := h
  exact ⟨ns, x, z, ⟨by rw [upd_ne n1.symm]; exact h1, by rw [upd_ne n2.symm]; exact h2⟩, r⟩
def sp_law_pen (K : PySem.W.Frag) : Sp := fun vs H Q _ => ∃ (a : Addr) (ns : List Int), vs = [.ref a] ∧ SqL K H a (ns.map V.int) ∧ ns.length ≤ 63 ∧
  ∀ p c H', Same H H' → H p = none → H c = none → Pen H' p c → Q (.ref p) H'
def sp_law_fresh : Sp := fun vs H Q _ => ∃ (p c : Addr) (ns : List Int) (a z : Int), vs = [.ref p] ∧ PenIs H p c ns a z ∧ 0 ≤ a ∧ ns.length ≤ 63 ∧
  ∀ r H', 0 ≤ r → Keep p H H' → PenIs H' p c ns (a + 1) z → Q (.int r) H'
def sp_law_draw : Sp := fun vs H Q _ => ∃ (p c : Addr) (many : Int), vs = [.ref p, .int many] ∧ Pen H p c ∧ 0 < many ∧ many < 2 ^ 100 ∧
  ∀ d H', 0 ≤ d → d < many → Keep p H H' → Pen H' p c → Q (.int d) H'
section
variable {P : Program} {w : World} {K : PySem.W.Frag} {mg : Str → Option Value} {base : Heap}
abbrev N_law_pen : List Str := ["script"]
theorem sc_law_pen : FnScope N_law_pen ["script"] (defScope s_law_pen) := ⟨rfl, rfl, rfl, by decide +kernel, rfl, by decide +kernel, by decide +kernel⟩
theorem ok_law_pen {f : Addr} {fd : FuncData} {k : Nat} (F : Fun K "_law_pen" "_law_pen" s_law_pen f fd) (m_list : mg "list" = none) : FnG P w K mg base CX0 (k + 1) f fd ["script"] (sp_law_pen K) := by
  refine okG F sc_law_pen (fun vs H Q E h => ?_) (fun cdv A outer s H vs Q E gd hr h => ?_)
  · obtain ⟨a, ns, rfl, _⟩ := h
    rfl
  · obtain ⟨a, ns, rfl, hS, hl, q⟩ := h
    refine ⟨_,
      (pss_one (ps_ret (pe_lst (pa_cons (pe_callTy call_list_of (by rfl) m_list (by decide +kernel) (pa_cons (pe_slice sl_list (pv 0) po_none (po_some pe_int)) pa_nil)) (pa_cons pe_int (pa_cons pe_int pa_nil))))))
       , ?_⟩
    refine ⟨.ref a, rfl, 63, rfl, a, ns.map V.int, rfl, hS, fun b nb => ?_⟩
    rw [cutAll ns hl]
    refine ⟨b, ns.map V.int, rfl, .inl (.inl (.inl upd_same)), fun c nc => ?_⟩
    refine ⟨(by show 3 ≤ sizeLine; decide), fun p np => ?_⟩
    have s1 : Same H (upd H b (.lst (ns.map V.int))) := fun x o e => by walk_at "hp"
    have nc0 : H c = none := s1.free nc
    have s2 : Same H (upd (upd H b (.lst (ns.map V.int))) c (.lst (ns.map V.int))) := fun x o e => (by walk_at "hp")
    have np0 : H p = none := s2.free np
    have npc : c ≠ p := ne_of_none upd_same np
    refine q p c _ (fun x o e => ?_) np0 nc0 ⟨ns, 0, 0, ⟨upd_same, ?_⟩, by decide, by decide, hl⟩
    · have := s2 x o e
      walk_at "hp"
    · walk_at "hp"
abbrev N_law_fresh : List Str := ["pen", "at", "cell", "p", "state", "found", "turn"]
theorem sc_law_fresh : FnScope N_law_fresh ["pen"] (defScope s_law_fresh) := ⟨rfl, rfl, rfl, by decide +kernel, rfl, by decide +kernel, by decide +kernel⟩
theorem ok_law_fresh {f : Addr} {fd : FuncData} {k : Nat} (F : Fun K "_law_fresh" "_law_fresh" s_law_fresh f fd) (m_len : mg "len" = none) (m_range : mg "range" = none) : FnG P w K mg base CX0 (k + 1) f fd ["pen"] sp_law_fresh := by
  refine okG F sc_law_fresh (fun vs H Q E h => ?_) (fun cdv A outer s H vs Q E gd hr h => ?_)
  · obtain ⟨p, c, ns, a, z, rfl, _⟩ := h
    rfl
  · obtain ⟨p, c, ns, a, z, rfl, hP, ha, hl, q⟩ := h
    obtain ⟨hp, hc⟩ := id hP
    have npc := hP.ne
    refine ⟨_,
      (pss_cons (ps_set (i := 1) sc_law_fresh.nd rfl (.inl rfl) (pe_ix ix_list (pv 0) pe_int (fun _ _ => rfl))) -- at = pen[1]
      (pss_cons (ps_asg (pe_op op_add (pv 1) pe_int) (pg_sub (pv 0) pe_int set_list)) -- pen[1] = at + 1
      (pss_cons (ps_set (i := 2) sc_law_fresh.nd rfl (.inl rfl) pe_int) -- cell = 0
      (C8.pss_cut (ps_if (pt_cmpR (op_neD hr.units) (pe_ix ix_list (pv 0) pe_int (fun _ _ => rfl)) (pe_lst pa_nil) (nomark _)) 
        (pss_one (ps_set (i := 2) sc_law_fresh.nd rfl (.inl rfl) (pe_ix ix_list (pe_ix ix_list (pv 0) pe_int (fun _ _ => rfl)) (pe_op op_mod (pv 1) (pe_callB call_len_seq (by rfl) m_len PySem.boot_len (pa_cons (pe_ix ix_list (pv 0) pe_int (fun _ _ => rfl)) pa_nil))) (fun _ _ => rfl)))) -- cell = pen[0][at % len(pen[0])]
         pss_nil) -- if pen[0] != []:
      (C8.pss_cut (ps_if (PW.pt (pw_and (pt_cmpR op_lt (pv 1) (pe_callB call_len_seq (by rfl) m_len PySem.boot_len (pa_cons (pe_ix ix_list (pv 0) pe_int (fun _ _ => rfl)) pa_nil)) (nomark _)) (pw_and1 (pt_cmpR op_ge (pv 2) (pe_op op_pow pe_int pe_int) (nomark _))))) 
        (pss_one (ps_ret (pe_op op_sub (pv 2) (pe_op op_pow pe_int pe_int)))) -- return cell - 10 ** 18
         pss_nil) -- if at < len(pen[0]) and cell >= 10 ** 18:
      (pss_cons (ps_set (i := 3) sc_law_fresh.nd rfl (.inl rfl) pe_int) -- p = 2305843009213693951
      (pss_cons (ps_set (i := 4) sc_law_fresh.nd rfl (.inl rfl) (pe_op op_mod (pe_op op_add (pe_op op_add (pe_op op_mul (pv 2) pe_int) (pe_op op_mul pe_int (pv 1))) pe_int) (pv 3))) -- state = (cell * 48271 + 40692 * at + 31) % p
      (pss_cons (ps_set (i := 5) sc_law_fresh.nd rfl (.inl rfl) (pv 4)) -- found = state
      (pss_cons (ps_for PassesOwn.never rfl (pi_range1 rfl m_range (pa_cons pe_int pa_nil)) (pg_name (i := 6) sc_law_fresh.nd rfl (.inl rfl)) 
        (pss_cons (ps_set (i := 4) sc_law_fresh.nd rfl (.inl rfl) (pe_op op_mod (pe_op op_add (pe_op op_add (pe_op op_mul (pv 4) (pv 4)) (pe_op op_mul (pe_op op_mul pe_int (pe_op op_add (pv 6) pe_int)) (pe_op op_add (pv 1) pe_int))) (pv 2)) (pv 3))) -- state = (state * state + 69621 * (turn + 1) * (at + 1) + cell) % p
        (pss_one (ps_set (i := 5) sc_law_fresh.nd rfl (.inl rfl) (pe_op op_add (pe_op op_mul (pv 5) (pv 3)) (pv 4)))) -- found = found * p + state
        )) -- for turn in range(6):
      (pss_one (ps_ret (pv 5))) -- return found
      ))))))))) , ?_⟩
    -- at = pen[1]; pen[1] = at + 1; cell = 0
    refine ⟨.ref p, rfl, p, _, 1, .int a, rfl, rfl, .inl (.inl hp), rfl, ?_⟩
    refine ⟨.int a, rfl, a, 1, rfl, rfl, .ref p, rfl, p, _, 1, 1, rfl, rfl, hp, rfl, ?_⟩
    generalize hH1 : upd H p (.lst ([V.ref c, V.int a, V.int z].set 1 (V.int (a + 1)))) = H1
    have hp1 : H1 p = some (.lst [.ref c, .int (a + 1), .int z]) := by rw [← hH1]; exact upd_same
    have hc1 : H1 c = some (.lst (ns.map V.int)) := by rw [← hH1, upd_ne npc.symm]; exact hc
    have kp1 : Keep p H H1 := by rw [← hH1]; exact Keep.refl.at
    clear hH1
    -- if pen[0] != []: cell = ..
    refine ⟨fun σ H' => ∃ cell : Int, σ = [some (.ref p), some (.int a), some (.int cell), none, none, none, none] ∧ Keep p H H' ∧ H' p = some (.lst [.ref c, .int (a + 1), .int z]) ∧ H' c = some (.lst (ns.map V.int)), ?_, ?_⟩
    · refine ⟨.ref p, rfl, p, _, 0, .ref c, rfl, rfl, .inl (.inl hp1), rfl, by show 0 ≤ sizeLine; decide, fun e ne => ?_⟩
      have hc2 : (upd H1 e (.lst [])) c = some (.lst (ns.map V.int)) := by walk_at "hp"
      have hp2 : (upd H1 e (.lst [])) p = some (.lst [.ref c, .int (a + 1), .int z]) := by walk_at "hp"
      have kp2 : Keep p H (upd H1 e (.lst [])) := kp1.trans (Keep.new ne)
      have he2 : (upd H1 e (.lst [])) e = some (.lst []) := upd_same
      generalize upd H1 e (.lst []) = H2 at hc2 hp2 kp2 he2 ⊢
      refine ⟨.list (ns.map PyData.int), .list [], .lst (.inl (.inl hc2)) (dp_ints _ _ ns), .lst (.inl (.inl he2)) .nil, shaped_ints ns, rfl, _, rfl, ite2 (fun hb => ?_) (fun hb => ?_)⟩
      · have hn : 0 < ns.length := by
          cases ns with
          | nil => cases hb
          | cons x r => exact Nat.succ_pos _
        obtain ⟨j, hj, ej⟩ : ∃ j : Nat, j < ns.length ∧ a % (ns.length : Int) = j := by
          refine ⟨(a % (ns.length : Int)).toNat, ?_, ?_⟩
          · have := Int.emod_lt_of_pos a (show (0 : Int) < ns.length by omega)
            have := Int.emod_nonneg a (show (ns.length : Int) ≠ 0 by omega)
            omega
          · have := Int.emod_nonneg a (show (ns.length : Int) ≠ 0 by omega)
            omega
        refine ⟨.ref p, rfl, p, _, 0, .ref c, rfl, rfl, .inl (.inl hp2), rfl, .int a, rfl, .ref p, rfl, p, _, 0, .ref c, rfl, rfl, .inl (.inl hp2), rfl, c, _, rfl, .inl (.inl (.inl hc2)), a, _, rfl, rfl, (by rw [List.length_map]; show (0 : Int) < ns.length; omega), c, _, _, .int ns[j], rfl, rfl, .inl (.inl hc2), ?_, ?_⟩
        · rw [List.length_map, ej]
          exact atI_nat (by rw [List.getElem?_map, List.getElem?_eq_getElem hj]; rfl)
        · exact ⟨ns[j], rfl, kp2, hp2, hc2⟩
      · exact ⟨0, rfl, kp2, hp2, hc2⟩
    · rintro σ H2 ⟨cell, rfl, kp2, hp2, hc2⟩
      have done : ∀ r : Int, 0 ≤ r → Q (.int r) H2 := fun r h0 => q r H2 h0 kp2 ⟨hp2, hc2⟩
      -- if at < len(pen[0]) and cell >= 10 ** 18: return cell - 10 ** 18
      refine ⟨fun σ H' => σ = [some (.ref p), some (.int a), some (.int cell), none, none, none, none] ∧ H' = H2, ?_, ?_⟩
      · refine ⟨.int a, rfl, .ref p, rfl, p, _, 0, .ref c, rfl, rfl, .inl (.inl hp2), rfl, c, _, rfl, .inl (.inl (.inl hc2)), a, _, rfl, rfl, _, rfl, ite2 (fun h1 => ?_) (fun h1 => ?_)⟩
        · refine ⟨.int cell, rfl, 10, 18, rfl, rfl, ⟨by decide, by decide, by decide⟩, cell, _, rfl, rfl, _, rfl, ite2 (fun h2 => ?_) (fun h2 => ?_)⟩
          · refine ⟨.int cell, rfl, 10, 18, rfl, rfl, ⟨by decide, by decide, by decide⟩, cell, _, rfl, rfl, done _ ?_⟩
            have := of_decide_eq_true h2
            omega
          · exact ⟨rfl, rfl⟩
        · exact ⟨rfl, rfl⟩
      · rintro σ H3 ⟨rfl, rfl⟩
        -- p = ..; state = (cell * 48271 + 40692 * at + 31) % p; found = state
        refine ⟨.int cell, rfl, cell, 48271, rfl, rfl, .inr ⟨by decide, by decide⟩, .int a, rfl, 40692, a, rfl, rfl, .inl ⟨by decide, by decide⟩, _, _, rfl, rfl, _, _, rfl, rfl, .int 2305843009213693951, rfl, _, _, rfl, rfl, (by show (0 : Int) < 2305843009213693951; decide), ?_⟩
        dsimp only
        generalize hst : (cell * 48271 + 40692 * a + 31) % 2305843009213693951 = st
        have h0 : 0 ≤ st := by rw [← hst]; exact Int.emod_nonneg _ (by decide)
        have h1 : st < 2305843009213693951 := by rw [← hst]; exact Int.emod_lt_of_pos _ (by decide)
        clear hst
        refine ⟨.int st, rfl, 6, rfl, by decide, by decide, ?_⟩
        refine for_range (n := 6) (fun _ σ H' => ∃ st fd tn, σ = [some (.ref p), some (.int a), some (.int cell), some (.int 2305843009213693951), some (.int st), some (.int fd), tn] ∧ H' = H3 ∧ 0 ≤ st ∧ st < 2305843009213693951 ∧ 0 ≤ fd) ?_ ?_ ?_
        · exact ⟨st, st, none, rfl, rfl, h0, h1, h0⟩
        · rintro i σ H4 hi ⟨st, fd, tn, rfl, rfl, h0, h1, h2⟩
          have hi' : (i : Int) < 6 := by omega
          refine ⟨.int st, rfl, .int st, rfl, st, st, rfl, rfl, .inl ⟨by omega, by omega⟩, .int (0 + (i : Int)), rfl, 0 + (i : Int), 1, rfl, rfl, 69621, _, rfl, rfl, .inl ⟨by decide, by decide⟩, .int a, rfl, a, 1, rfl, rfl, 69621 * (0 + (i : Int) + 1), a + 1, rfl, rfl, .inl ⟨by omega, by omega⟩, _, _, rfl, rfl, .int cell, rfl, _, _, rfl, rfl, .int 2305843009213693951, rfl, _, _, rfl, rfl, (by show (0 : Int) < 2305843009213693951; decide), ?_⟩
          dsimp only
          generalize hst : (st * st + 69621 * (0 + (i : Int) + 1) * (a + 1) + cell) % 2305843009213693951 = st'
          have h0' : 0 ≤ st' := by rw [← hst]; exact Int.emod_nonneg _ (by decide)
          have h1' : st' < 2305843009213693951 := by rw [← hst]; exact Int.emod_lt_of_pos _ (by decide)
          refine ⟨.int fd, rfl, .int 2305843009213693951, rfl, fd, 2305843009213693951, rfl, rfl, .inr ⟨by decide, by decide⟩, .int st', rfl, _, _, rfl, rfl, ?_⟩
          exact ⟨st', fd * 2305843009213693951 + st', _, rfl, rfl, h0', h1', by omega⟩
        · rintro σ H4 ⟨st, fd, tn, rfl, rfl, h0, h1, h2⟩
          exact ⟨.int fd, rfl, done fd h2⟩
abbrev N_law_draw : List Str := ["pen", "many", "digit"]
theorem sc_law_draw : FnScope N_law_draw ["pen", "many"] (defScope s_law_draw) := ⟨rfl, rfl, rfl, by decide +kernel, rfl, by decide +kernel, by decide +kernel⟩
theorem ok_law_draw {f f_law_fresh : Addr} {fd fd_law_fresh : FuncData} (F : Fun K "_law_draw" "_law_draw" s_law_draw f fd) (F_law_fresh : Fun K "_law_fresh" "_law_fresh" s_law_fresh f_law_fresh fd_law_fresh) (b_law_fresh : Binds K fd_law_fresh ["pen"] []) (g_law_fresh : mg "_law_fresh" = some (.ref f_law_fresh))
    (m_len : mg "len" = none) (m_range : mg "range" = none) : FnG P w K mg base CX0 2 f fd ["pen", "many"] sp_law_draw := by
  have G_law_fresh : FnG P w K mg base CX0 1 f_law_fresh fd_law_fresh ["pen"] sp_law_fresh := ok_law_fresh F_law_fresh m_len m_range
  refine okG F sc_law_draw (fun vs H Q E h => ?_) (fun cdv A outer s H vs Q E gd hr h => ?_)
  · obtain ⟨p, c, m, rfl, _⟩ := h
    rfl
  · obtain ⟨p, c, m, rfl, hP, m0, m1, q⟩ := h
    obtain ⟨ns, a, z, hI, ha, hz, hl⟩ := id hP
    refine ⟨_,
      (C8.pss_cut (ps_if (pt_cmpR op_lt (pe_ix ix_list (pv 0) pe_int (fun _ _ => rfl)) (pv 1) (nomark _)) 
        (pss_one (ps_asg (pe_callG G_law_fresh gd (hr.mono (by decide)) rfl g_law_fresh F_law_fresh.kp b_law_fresh .nil pass0 (pa_cons (pv 0) pa_nil)) (pg_sub (pv 0) pe_int set_list))) -- pen[2] = _law_fresh(pen)
         pss_nil) -- if pen[2] < many:
      (pss_cons (ps_set (i := 2) sc_law_draw.nd rfl (.inl rfl) (pe_op op_mod (pe_ix ix_list (pv 0) pe_int (fun _ _ => rfl)) (pv 1))) -- digit = pen[2] % many
      (pss_cons (ps_asg (pe_op op_fdivW (pe_ix ix_list (pv 0) pe_int (fun _ _ => rfl)) (pv 1)) (pg_sub (pv 0) pe_int set_list)) -- pen[2] = pen[2] // many
      (pss_one (ps_ret (pv 2))) -- return digit
      ))) , ?_⟩
    refine ⟨fun σ H' => σ = [some (.ref p), some (.int m), none] ∧ Keep p H H' ∧ ∃ a z : Int, PenIs H' p c ns a z ∧ 0 ≤ a ∧ 0 ≤ z, ?_, ?_⟩
    · refine ⟨.ref p, rfl, p, _, 2, .int z, rfl, rfl, .inl (.inl hI.1), rfl, .int m, rfl, z, m, rfl, rfl, _, rfl, ite2 (fun h1 => ?_) (fun h1 => ?_)⟩
      · refine ⟨.ref p, rfl, p, c, ns, a, z, rfl, hI, ha, hl, fun r H1 hr0 kp hI1 => ?_⟩
        have ne := hI1.ne
        refine ⟨.ref p, rfl, p, _, 2, 2, rfl, rfl, hI1.1, rfl, rfl, kp.at, a + 1, r, ⟨upd_same, ?_⟩, by omega, hr0⟩
        rw [upd_ne ne.symm]
        exact hI1.2
      · exact ⟨rfl, Keep.refl, a, z, hI, ha, hz⟩
    · rintro σ H1 ⟨rfl, kp, a, z, hI, ha, hz⟩
      have ne := hI.ne
      refine ⟨.ref p, rfl, p, _, 2, .int z, rfl, rfl, .inl (.inl hI.1), rfl, .int m, rfl, z, m, rfl, rfl, m0, ?_⟩
      refine ⟨.ref p, rfl, p, _, 2, .int z, rfl, rfl, .inl (.inl hI.1), rfl, .int m, rfl, z, m, rfl, rfl, div_wide m0 m1, .ref p, rfl, p, _, 2, 2, rfl, rfl, hI.1, rfl, ?_⟩
      refine ⟨.int (z % m), rfl, q _ _ (Int.emod_nonneg _ (by omega)) (Int.emod_lt_of_pos _ m0) kp.at ⟨ns, a, z / m, ⟨upd_same, ?_⟩, ha, Int.ediv_nonneg hz (by omega), hl⟩⟩
      rw [upd_ne ne.symm]
      exact hI.2
end

/-! ### integers -/
/-- an integer from lo to hi -/
def btw (d : PyData) (lo hi : Int) : Bool := match d with
  | .int n => decide (lo ≤ n) && decide (n ≤ hi)
  | _ => false
def isI (d : PyData) : Bool := isIntD d && !isBoolD d
def sp_is_integer : Sp := fun vs H Q _ => ∃ (p : Addr) (v : V) (d : PyData), vs = [v] ∧ LD p H v d ∧ Q (.bl (isI d)) H
def sp_is_between : Sp := fun vs H Q _ => ∃ (p : Addr) (v : V) (d : PyData) (lo hi : Int), vs = [v, .int lo, .int hi] ∧ LD p H v d ∧ Q (.bl (btw d lo hi)) H
section
variable {P : Program} {w : World} {K : PySem.W.Frag} {mg : Str → Option Value} {base : Heap}
abbrev N_is_integer : List Str := ["value"]
theorem sc_is_integer : FnScope N_is_integer ["value"] (defScope s_is_integer) := ⟨rfl, rfl, rfl, by decide +kernel, rfl, by decide +kernel, by decide +kernel⟩
theorem ok_is_integer {f : Addr} {fd : FuncData} {k : Nat} (F : Fun K "is_integer" "is_integer" s_is_integer f fd) (m_isinstance : mg "isinstance" = none) (m_int : mg "int" = none) (m_bool : mg "bool" = none) : FnG P w K mg base CX0 (k + 1) f fd ["value"] sp_is_integer := by
  refine okG F sc_is_integer (fun vs H Q E h => ?_) (fun cdv A outer s H vs Q E gd hr h => ?_)
  · obtain ⟨p, v, d, rfl, _⟩ := h
    rfl
  · obtain ⟨p, v, d, rfl, hv, q⟩ := h
    refine ⟨_, 
      (pss_one (ps_ret (pe_and (pe_callB (call_isL kit_int) (by rfl) m_isinstance (by decide +kernel) (pa_cons (pv 0) (pa_cons (pe_bltn (v := .ty "int") (by rfl) m_int (by decide +kernel) (show RelV (.ty "int") (.type "int") from rfl)) pa_nil))) (pe_one (pe_not (pe_callB (call_isL kit_bool) (by rfl) m_isinstance (by decide +kernel) (pa_cons (pv 0) (pa_cons (pe_bltn (v := .ty "bool") (by rfl) m_bool (by decide +kernel) (show RelV (.ty "bool") (.type "bool") from rfl)) pa_nil)))))))) -- return isinstance(value, int) and (not isinstance(value, bool))
       , ?_⟩
    refine ⟨v, rfl, p, v, d, rfl, hv, _, rfl, ?_⟩
    unfold isI at q
    cases hi : isIntD d with
    | false =>
      rw [hi] at q
      exact q
    | true =>
      rw [hi] at q
      exact ⟨v, rfl, p, v, d, rfl, hv, _, rfl, q⟩
abbrev N_is_between : List Str := ["value", "low", "high"]
theorem sc_is_between : FnScope N_is_between ["value", "low", "high"] (defScope s_is_between) := ⟨rfl, rfl, rfl, by decide +kernel, rfl, by decide +kernel, by decide +kernel⟩
theorem ok_is_between {f f_is_integer : Addr} {fd fd_is_integer : FuncData} (F : Fun K "is_between" "is_between" s_is_between f fd) (F_is_integer : Fun K "is_integer" "is_integer" s_is_integer f_is_integer fd_is_integer) (b_is_integer : Binds K fd_is_integer ["value"] [])
    (g_is_integer : mg "is_integer" = some (.ref f_is_integer)) (m_isinstance : mg "isinstance" = none) (m_int : mg "int" = none) (m_bool : mg "bool" = none) : FnG P w K mg base CX0 2 f fd ["value", "low", "high"] sp_is_between := by
  have G_is_integer : FnG P w K mg base CX0 1 f_is_integer fd_is_integer ["value"] sp_is_integer := ok_is_integer F_is_integer m_isinstance m_int m_bool
  refine okG F sc_is_between (fun vs H Q E h => ?_) (fun cdv A outer s H vs Q E gd hr h => ?_)
  · obtain ⟨p, v, d, lo, hi, rfl, _⟩ := h
    rfl
  · obtain ⟨p, v, d, lo, hi, rfl, hv, q⟩ := h
    refine ⟨_, 
      (pss_one (ps_ret (pe_and (pe_callG G_is_integer gd (hr.mono (by decide)) rfl g_is_integer F_is_integer.kp b_is_integer .nil pass0 (pa_cons (pv 0) pa_nil)) (pe_one (pe_chain op_le op_le (pv 1) (pv 0) (pv 2)))))) -- return is_integer(value) and low <= value <= high
       , ?_⟩
    refine ⟨v, rfl, p, v, d, rfl, hv, _, rfl, ?_⟩
    cases hv with
    | int n => 
      refine ⟨.int lo, rfl, .int n, rfl, lo, n, rfl, rfl, _, rfl, ite2 (fun h1 => ?_) (fun h1 => ?_)⟩
      · refine ⟨.int hi, rfl, n, hi, rfl, rfl, ?_⟩
        have q' : Q (.bl (decide (lo ≤ n) && decide (n ≤ hi))) H := q
        rw [h1] at q'
        exact q'
      · have q' : Q (.bl (decide (lo ≤ n) && decide (n ≤ hi))) H := q
        rw [Bool.eq_false_iff.mpr h1] at q'
        exact q'
    | _ => exact q
end

/-! ### rule_order: called by sorted, so at the library's level -/
section
open PySem.W PySem.Calls
variable {P : Program} {w : World} {K : PySem.W.Frag} {mg : Str → Option Value} {A : Around} {E : Value → Shared → Prop} {s : Shared}
theorem asg_all {env : Env} {elts : List Expr} {k : Nat} {pos : Pos} {v : Value} {Q : Unit → Shared → Prop} (h : wpAny (model P w) A (assign (.Tuple elts k pos) env v) Q E s) :
    wpAny (model P w) A (assignAll v ((assignEach [.Tuple elts k pos] env).map (·.2))) Q E s := h
theorem spl_cons {env : Env} {e : Expr} {es : List Expr} {pos : Pos} {Q : List Value → Shared → Prop} (hs : starEach (e :: es) env = (false, eval e env) :: starEach es env)
    (h : wpAny (model P w) A (eval e env) (fun v s1 => wpAny (model P w) A (spliced (backTo pos (starEach es env))) (fun vs s2 => Q (v :: vs) s2) E s1) E s) :
    wpAny (model P w) A (spliced (backTo pos (starEach (e :: es) env))) Q E s := by
  rw [hs]
  exact Calls.spliced_cons h
theorem spl_nil {env : Env} {pos : Pos} {Q : List Value → Shared → Prop} (h : Q [] s) : wpAny (model P w) A (spliced (backTo pos (starEach [] env))) Q E s := Calls.spliced_nil h
theorem ldL {q : Str} {sc : Scope} {L f : Addr} {cd : Value} {m : Str → Option Value} {x : Str} {pos : Pos} {v : Value} {Q : Value → Shared → Prop} (hk : sc.kind = .function) (hn : s.heap.Ns L m) (hv : m x = some v) (h : Q v s)
    (hl : (envOfC q sc L f cd).kindOf x = some .local := by rfl) (hd : (x == ("__debug__" : Str)) = false := by decide) :
    wpAny (model P w) A (eval (.Name x pos) (envOfC q sc L f cd)) Q E s := wpAny_Name (wpAny_loadName_local hk hl hn hv h) hd
theorem ldG {q : Str} {sc : Scope} {L f : Addr} {cd : Value} {x : Str} {pos : Pos} {v : Value} {Q : Value → Shared → Prop} (hk : sc.kind = .function) (G : s.heap.Ns mainGlobals mg) (hv : mg x = some v) (h : Q v s)
    (hl : (envOfC q sc L f cd).kindOf x = some .globalImplicit := by rfl) (hd : (x == ("__debug__" : Str)) = false := by decide) :
    wpAny (model P w) A (eval (.Name x pos) (envOfC q sc L f cd)) Q E s :=
  Calls.Name_function_global hk hl (Calls.loadGlobal_global (show s.heap.Ns mainGlobals mg from G) hv h) hd
/-- what a test is sorted by -/
theorem part_key {f : Addr} {fd : FuncData} {tN tV tM : Tok} {u : Value} {r : Int} (F : Fun K "part_order" "part_order" s_part_order f fd) (b : ∀ (s : Shared) (v : Value), BindsTo s fd ⟨[v], []⟩ [("part", v)])
    (gN : mg "NEW" = some (.str "new" tN)) (gV : mg "VALUE" = some (.str "value" tV)) (gM : mg "MOST_HELD" = some (.int 3 tM)) (X : K.In s.heap) (G : s.heap.Ns mainGlobals mg) (hlim : s.heap.NoLimit) (hroom : A.depth < recursionLimit)
    (hu : (∃ t, u = .int r t) ∨ ((∃ t, u = .str "new" t) ∧ r = 3)) :
    wpAny (model P w) A (call (.ref f) [u]) (fun v s' => (∃ t, v = .int r t) ∧ ∃ h tk, s' = { s with heap := h, toks := tk } ∧ ∀ c o, s.heap.get? c = some o → h.get? c = some o) (fun _ _ => False) s := by
  obtain ⟨oc, od, kV, doc, pm, an, cdv, ct, osl, e, lk, hcd⟩ := F.ex
  subst e
  apply wpAny_call
  refine Att.call_fn (binds := [("part", u)]) X hlim lk hcd hroom (b s u) (by rfl) (fun s1 IC => ?_) rfl rfl rfl
  obtain ⟨h1, tk1, rfl⟩ := IC.toInCall.same
  have k1 : ∀ c o, s.heap.get? c = some o → h1.get? c = some o := IC.toInCall.keep
  have n1 := IC.toInCall.ns
  have G1 : h1.Ns mainGlobals mg := G.keeps k1
  have x1 : ∀ c o, s.heap.get? c = some o → (h1.push { cls := .type "tuple", data := .seq [Value.str "new" tN, Value.str "value" tV].toArray }).get? c = some o := fun c o z => Heap.get?_push_of_some _ (k1 c o z)
  have y1 : ∀ c o, h1.get? c = some o → (h1.push { cls := .type "tuple", data := .seq [Value.str "new" tN, Value.str "value" tV].toArray }).get? c = some o := fun c o z => Heap.get?_push_of_some _ z
  have G2 := G1.keeps y1
  have n2 := n1.keeps y1
  have tu : (h1.push { cls := .type "tuple", data := .seq [Value.str "new" tN, Value.str "value" tV].toArray }).IsTuple h1.objs.size [Value.str "new" tN, Value.str "value" tV].toArray := ⟨_, Heap.get?_push_size _ rfl, rfl, _, rfl⟩
  have vs2 : Vals [V.str "new", V.str "value"] [Value.str "new" tN, Value.str "value" tV] := .cons ⟨tN, rfl⟩ (.cons ⟨tV, rfl⟩ .nil)
  have mm : ∀ {x : V} {v : Value} {A : Around} {s : Shared}, RelV x v → flatV x = true → ∀ y, y ∈ [Value.str "new" tN, Value.str "value" tV].toArray → SeqAt.EqAt A s y v (eqU x y) := fun rx fx y hy => mem_eqAt rx fx vs2 rfl y (by simpa using hy)
  show wpAny _ _ (execs (_ :: []) _) _ _ _
  refine wpAny_execs_cons (wpAny_Return_some (wpAny_IfExp (wpAny_isTrue_Compare1 ?_ rfl)))
  refine ldL rfl n1 (v := u) (by rfl) ?_
  refine wpAny_Tuple_spliced ?_
  refine spl_cons (by rfl) (ldG (s := { s with heap := h1, toks := tk1 }) (mg := mg) rfl G1 gN ?_)
  refine spl_cons (by rfl) (ldG (s := { s with heap := h1, toks := tk1 }) (mg := mg) rfl G1 gV ?_)
  refine spl_nil ⟨by show 2 ≤ sizeLine; decide, ?_⟩
  rcases hu with ⟨t, rfl⟩ | ⟨⟨t, rfl⟩, rfl⟩
  · have e0 : ([Value.str "new" tN, Value.str "value" tV].toArray).any (eqU (.int r)) = false := by
      rw [show ([Value.str "new" tN, Value.str "value" tV].toArray).any (eqU (.int r)) = [Value.str "new" tN, Value.str "value" tV].any (eqU (.int r)) by simp, any_eqU vs2 rfl]
      rfl
    refine SeqAt.in_tupleAt (eqU (.int r)) tu (mm (x := .int r) ⟨t, rfl⟩ rfl) ?_
    rw [e0]
    refine wpAny_truthy_bool ?_
    refine ldL (s := { s with heap := _, toks := tk1 }) rfl n2 (v := .int r t) (by rfl) ?_
    exact ⟨⟨_, rfl⟩, _, _, rfl, x1⟩
  · have e0 : ([Value.str "new" tN, Value.str "value" tV].toArray).any (eqU (.str "new")) = true := by
      rw [show ([Value.str "new" tN, Value.str "value" tV].toArray).any (eqU (.str "new")) = [Value.str "new" tN, Value.str "value" tV].any (eqU (.str "new")) by simp, any_eqU vs2 rfl]
      rfl
    refine SeqAt.in_tupleAt (eqU (.str "new")) tu (mm (x := .str "new") ⟨t, rfl⟩ rfl) ?_
    rw [e0]
    refine wpAny_truthy_bool ?_
    refine ldG (s := { s with heap := _, toks := tk1 }) (mg := mg) rfl G2 gM ?_
    exact ⟨⟨_, rfl⟩, _, _, rfl, x1⟩
/-- part_order and what it reads -/
def PartOk (K : PySem.W.Frag) (mg : Str → Option Value) : Prop := ∃ (fp : Addr) (fdp : FuncData) (tN tV tM : Tok), Fun K "part_order" "part_order" s_part_order fp fdp ∧ (∀ (s : Shared) (v : Value), BindsTo s fdp ⟨[v], []⟩ [("part", v)]) ∧
  mg "part_order" = some (.ref fp) ∧ mg "NEW" = some (.str "new" tN) ∧ mg "VALUE" = some (.str "value" tV) ∧ mg "MOST_HELD" = some (.int 3 tM)
theorem order_key {f a : Addr} {fd : FuncData} {t0 t1 : Tok} {i j : Int} {u : Value} {r : Int} (F : Fun K "rule_order" "rule_order" s_rule_order f fd) (b : ∀ (s : Shared) (v : Value), BindsTo s fd ⟨[v], []⟩ [("rule", v)])
    (pk : PartOk K mg) (X : K.In s.heap) (G : s.heap.Ns mainGlobals mg) (hlim : s.heap.NoLimit) (hroom : A.depth + 1 < recursionLimit) (hh : A.handled = none)
    (ht : IsTup s.heap a #[.int i t0, .int j t1, u]) (hu : (∃ t, u = .int r t) ∨ ((∃ t, u = .str "new" t) ∧ r = 3)) :
    wpAny (model P w) A (call (.ref f) [.ref a]) (KeyPure (.tuple [.int i, .int j, .int r]) s) (fun _ _ => False) s := by
  obtain ⟨fp, fdp, tN, tV, tM, Fp, bp, gp, gN, gV, gM⟩ := pk
  obtain ⟨oc, od, kV, doc, pm, an, cdv, ct, osl, e, lk, hcd⟩ := F.ex
  subst e
  apply wpAny_call
  refine Att.call_fn (binds := [("rule", .ref a)]) X hlim lk hcd (by omega) (b s (.ref a)) (by rfl) (fun s1 IC => ?_) rfl rfl rfl
  obtain ⟨h1, tk1, rfl⟩ := IC.toInCall.same
  have k1 : ∀ c o, s.heap.get? c = some o → h1.get? c = some o := IC.toInCall.keep
  have n1 := IC.toInCall.ns
  have L0 : s.heap.get? s.heap.objs.size = none := Heap.get?_none_of_le (Nat.le_refl _)
  have kL : ∀ {h' : Heap} c o, (∀ c o, c ≠ s.heap.objs.size → h1.get? c = some o → h'.get? c = some o) → s.heap.get? c = some o → h'.get? c = some o := fun {h'} c o k z => k c o (fun q => by rw [q, L0] at z; cases z) (k1 c o z)
  have ht1 : IsTup h1 a #[.int i t0, .int j t1, u] := by
    obtain ⟨o, ho, r⟩ := ht
    exact ⟨o, k1 _ _ ho, r⟩
  show wpAny _ _ (execs _ _) _ _ _
  refine wpAny_execs_cons (wpAny_Assign_stores ?_ rfl rfl)
  refine ldL rfl n1 (by rfl) ?_
  refine asg_all ?_
  refine assign_Tuple_tuple hh ht1 (by rfl) (by rfl) fun h2 x2 => ?_
  have e2 : ∀ c o, h1.get? c = some o → h2.get? c = some o := fun c o z => x2 c o (Nat.ne_of_lt (Heap.lt_size z)) z
  have n2 := n1.keeps e2
  show wpAny _ _ (assignInOrder (_ :: _ :: _ :: []) [Value.int i t0, Value.int j t1, u]) _ _ _
  refine assignInOrder_cons (wpAny_assign_Name (wpAny_storeName_local (by rfl) n2 (fun h3 n3 s3 => ?_)))
  refine assignInOrder_cons (wpAny_assign_Name (wpAny_storeName_local (by rfl) n3 (fun h4 n4 s4 => ?_)))
  refine assignInOrder_cons (wpAny_assign_Name (wpAny_storeName_local (by rfl) n4 (fun h5 n5 s5 => ?_)))
  refine assignInOrder_nil ?_
  have k5 : ∀ c o, s.heap.get? c = some o → h5.get? c = some o := fun c o z => by
    have ne : c ≠ s.heap.objs.size := Nat.ne_of_lt (Heap.lt_size z)
    exact (s5.2 c ne).trans ((s4.2 c ne).trans ((s3.2 c ne).trans (e2 c o (k1 c o z))))
  have vu : ∀ h' : Heap, (∀ c o, h5.get? c = some o → h'.get? c = some o) → ∀ (x y z : Value) (tk : Nat), (∃ t, x = .int i t) → (∃ t, y = .int j t) → (∃ t, z = .int r t) → [x, y, z].length ≤ sizeLine ∧
      KeyPure (.tuple [.int i, .int j, .int r]) s (.ref h'.objs.size) { s with heap := h'.push { cls := .type "tuple", data := .seq [x, y, z].toArray }, toks := tk } := by
    rintro h' kp x y z tk ⟨tx, rfl⟩ ⟨ty, rfl⟩ ⟨tz, rfl⟩
    refine ⟨by show 3 ≤ sizeLine; decide, _, tk, rfl, fun c o q => Heap.get?_push_of_some _ (kp c o (k5 c o q)), ?_⟩
    exact Reads.tuple (Heap.get?_push_size _ rfl) rfl rfl (.cons (.int i tx) (.cons (.int j ty) (.cons (.int r tz) .nil)))
  have G5 : h5.Ns mainGlobals mg := G.keeps k5
  show wpAny _ _ (execs (_ :: []) _) _ _ _
  refine wpAny_execs_cons (wpAny_Return_some (wpAny_Tuple_spliced ?_))
  refine spl_cons (by rfl) (ldL rfl n5 (v := .int i t0) (by rfl) ?_)
  refine spl_cons (by rfl) (ldL rfl n5 (v := .int j t1) (by rfl) ?_)
  refine spl_cons (by rfl) ?_
  apply wpAny_Call_Name_kw
  refine ldG (s := { s with heap := h5, toks := _ }) (mg := mg) rfl G5 gp ?_
  refine PySem.W.callWith_K (h₀ := s.heap) X Fp.kp ?_ rfl rfl
  refine spl_cons (by rfl) (ldL rfl n5 (v := u) (by rfl) ?_)
  refine spl_nil ⟨X.keeps k5, ?_⟩
  refine wpAny_mono (part_key (s := { s with heap := h5, toks := _ }) Fp bp gN gV gM (X.keeps k5) G5 (hlim.keeps k5) hroom hu) ?_ (fun _ _ z => z.elim)
  rintro v s6 ⟨⟨t, rfl⟩, h6, tk6, rfl, k6⟩
  refine spl_nil ?_
  exact vu h6 k6 _ _ _ _ ⟨_, rfl⟩ ⟨_, rfl⟩ ⟨_, rfl⟩
end

/-! ### watchers -/
def wf (n : Int) (lv lh d : Addr) : List (Str × V) := [("words", .int n), ("_verdicts", .ref lv), ("_held", .ref lh), ("_rules", .ref d)]
/-- a rule's name: state, word, test -/
def RK (k : List Key) : Prop := ∃ (i j : Int) (t : Key), k = [Sum.inl i, Sum.inl j, t] ∧ ((∃ r, t = Sum.inl r) ∨ t = Sum.inr ("new" : Str))
abbrev Rows := List (List Key × PyData)
abbrev KvD (H : Hp) : List (List Key × V) → Rows → Prop := Paired fun p q => p.1 = q.1 ∧ TD H p.2 q.2
theorem KvD.mono {H H' : Hp} {kvs : List (List Key × V)} {R : Rows} (t : Tups H H') (h : KvD H kvs R) : KvD H' kvs R := Paired.mapP h fun _ _ z => ⟨z.1, TD.mono t _ z.2⟩
theorem KvD.keys {H : Hp} {kvs : List (List Key × V)} {R : Rows} (h : KvD H kvs R) : kvs.map (·.1) = R.map (·.1) := by
  induction h with
  | nil => rfl
  | cons a _ ih => rw [List.map_cons, List.map_cons, a.1, ih]
structure WAt (C : Addr) (H : Hp) (x lv lh d : Addr) (n : Int) (vs hs : List Int) (R : Rows) : Prop where
  ins : ∃ dx, H x = some (.ins C dx (wf n lv lh d))
  ver : H lv = some (.lst (vs.map V.int))
  hel : H lh = some (.lst (hs.map V.int))
  rul : ∃ kvs, H d = some (.dT kvs) ∧ KvD H kvs R
  ne : lv ≠ lh
  rk : ∀ k ∈ R.map (·.1), RK k
  nd : (R.map (·.1)).Nodup
  len : vs.length = hs.length ∧ vs.length ≤ 6 ∧ R.length ≤ 1000
theorem WAt.mono {C : Addr} {H H' : Hp} {x lv lh d : Addr} {n : Int} {vs hs : List Int} {R : Rows} (h : WAt C H x lv lh d n vs hs R) (s : Same H H') : WAt C H' x lv lh d n vs hs R := by
  obtain ⟨⟨dx, a⟩, b, c, ⟨kvs, e, f⟩, g, i, j, l⟩ := h
  exact ⟨⟨dx, s _ _ a⟩, s _ _ b, s _ _ c, ⟨kvs, s _ _ e, f.mono (Tups.same s)⟩, g, i, j, l⟩
theorem btw_int {d : PyData} {lo hi : Int} (h : btw d lo hi = true) : ∃ n, d = .int n ∧ lo ≤ n ∧ n ≤ hi := by
  cases d with
  | int n =>
    have h' : (decide (lo ≤ n) && decide (n ≤ hi)) = true := h
    simp only [Bool.and_eq_true, decide_eq_true_eq] at h'
    exact ⟨n, rfl, h'.1, h'.2⟩
  | _ => cases h
abbrev w1 (n : Int) : List (Str × V) := [("words", .int n)]
abbrev w2 (n : Int) (lv : Addr) : List (Str × V) := [("words", .int n), ("_verdicts", .ref lv)]
abbrev w3 (n : Int) (lv lh : Addr) : List (Str × V) := [("words", .int n), ("_verdicts", .ref lv), ("_held", .ref lh)]
theorem wf2 (n : Int) (lv : Addr) : putF "_verdicts" (.ref lv) (w1 n) = (w2 n lv) := by
  unfold putF
  rw [if_neg (by decide)]
  rfl
theorem wf3 (n : Int) (lv lh : Addr) : putF "_held" (.ref lh) (w2 n lv) = (w3 n lv lh) := by
  unfold putF
  rw [if_neg (by decide)]
  unfold putF
  rw [if_neg (by decide)]
  rfl
theorem wf4 (n : Int) (lv lh d : Addr) : putF "_rules" (.ref d) (w3 n lv lh) = wf n lv lh d := by
  unfold putF
  rw [if_neg (by decide)]
  unfold putF
  rw [if_neg (by decide)]
  unfold putF
  rw [if_neg (by decide)]
  rfl
def sp_W_init (C CL : Addr) : Sp := fun vs H Q E => ∃ (p x dx : Addr) (v : V) (d : PyData), vs = [.ref x, v] ∧ H x = some (.ins C dx []) ∧ LD p H v d ∧
  (∀ n, d = .int n → 1 ≤ n → n ≤ 3 → ∀ H' lv lh dd, But x H H' → H lv = none → H lh = none → H dd = none → WAt C H' x lv lh dd n [0] [0] [] → Q .non H') ∧
  (btw d 1 3 = false → ∀ e, H e = none → E (.ref CL) (some e) (upd H e (.xd [(("limit" : Str), .int 3)])))
/-- the fields' names are no names of the class -/
structure WCls (K : PySem.W.Frag) (C : Addr) : Prop where
  cl : Cls K C
  n1 : NoAttr K C "words"
  n2 : NoAttr K C "_verdicts"
  n3 : NoAttr K C "_held"
  n4 : NoAttr K C "_rules"
section
variable {P : Program} {w : World} {K : PySem.W.Frag} {mg : Str → Option Value} {base : Heap}
abbrev N_Watcher_init : List Str := ["self", "words"]
theorem sc_Watcher_init : FnScope N_Watcher_init ["self", "words"] (defScope s_Watcher_init) := ⟨rfl, rfl, rfl, by decide +kernel, rfl, by decide +kernel, by decide +kernel⟩
theorem ok_Watcher_init {f f_is_between C CL iL : Addr} {fd fd_is_between : FuncData} {t3 : Tok} (F : Fun K "__init__" "Watcher.__init__" s_Watcher_init f fd) (F_is_between : Fun K "is_between" "is_between" s_is_between f_is_between fd_is_between) (b_is_between : Binds K fd_is_between ["value", "low", "high"] [])
    (g_is_between : mg "is_between" = some (.ref f_is_between)) (G_is_between : FnG P w K mg base CX0 2 f_is_between fd_is_between ["value", "low", "high"] sp_is_between) (T_LimitExceeded : L2.ErrOk OwnE.bOE "LimitExceeded" "limit" "LimitExceeded.__init__" K mg CL iL) (g_MOST_WORDS : mg "MOST_WORDS" = some (.int 3 t3)) (W : WCls K C) :
    FnG P w K mg base (L2.CX P w) 3 f fd ["self", "words"] (sp_W_init C CL) := by
  refine okGX F sc_Watcher_init (fun vs H Q E h => ?_) (fun cdv A outer s H vs Q E gd hr h => ?_)
  · obtain ⟨p, x, dx, v, d, rfl, _⟩ := h
    rfl
  · obtain ⟨p, x, dx, v, d, rfl, hx, hv, q1, q2⟩ := h
    have hr1 : Room 1 _ := hr.mono (by decide)
    refine ⟨_, 
      (pss_cons (ps_if (pt_not (pt_val (pe_callG G_is_between gd (hr.mono (by decide)) rfl g_is_between F_is_between.kp b_is_between .nil pass0 (pa_cons (pv 1) (pa_cons pe_int (pa_cons (pe_glob (v := .int 3) rfl g_MOST_WORDS ⟨_, rfl⟩) pa_nil)))))) 
        (pss_one (L2.ps_raiseE (W := fun cls d _ H => E cls d H) rfl T_LimitExceeded hr1 (takes_of rfl rfl rfl rfl) (by exact (pa_cons (pe_glob (v := .int 3) rfl g_MOST_WORDS ⟨_, rfl⟩) pa_nil)))) -- raise LimitExceeded(MOST_WORDS)
         pss_nil) -- if not is_between(words, 1, MOST_WORDS):
      (pss_cons (ps_fld (pv 0) (pv 1) rfl) -- self.words = words
      (pss_cons (ps_fld (pv 0) (pe_lst (pa_cons pe_int pa_nil)) rfl) -- self._verdicts = [0]
      (pss_cons (ps_fld (pv 0) (pe_lst (pa_cons pe_int pa_nil)) rfl) -- self._held = [0]
      (pss_one (ps_fld (pv 0) pe_dnewT rfl)) -- self._rules = {}
      )))) , ?_⟩
    refine ⟨v, rfl, p, v, d, 1, 3, rfl, hv, _, rfl, ?_⟩
    cases hb : btw d 1 3 with
    | false => exact ⟨.int 3, rfl, fun e he => q2 hb e he⟩
    | true =>
      obtain ⟨n, rfl, n0, n1⟩ := btw_int hb
      cases hv
      -- self.words = words
      refine ⟨.int n, rfl, .ref x, rfl, x, C, dx, [], rfl, hx, W.cl, W.n1, (by show 0 < 1000; decide), ?_⟩
      rw [show putF "words" (.int n) [] = (w1 n) from rfl]
      have b1 : But x H (upd H x (.ins C dx (w1 n))) := fun b o e ne => by rw [upd_ne ne]; exact e
      have hx1 : upd H x (.ins C dx (w1 n)) x = some (.ins C dx (w1 n)) := upd_same
      have nn : ∀ a, upd H x (.ins C dx (w1 n)) a = none → H a = none ∧ a ≠ x := fun a e => ⟨(upd_none e).2, (upd_none e).1⟩
      generalize upd H x (.ins C dx (w1 n)) = H1 at b1 hx1 nn
      -- self._verdicts = [0]
      refine ⟨by show 1 ≤ sizeLine; decide, fun lv nv => ?_⟩
      have xv : x ≠ lv := ne_of_none hx1 nv
      have hx2 : upd H1 lv (.lst [.int 0]) x = some (.ins C dx (w1 n)) := by rw [upd_ne xv]; exact hx1
      refine ⟨.ref x, rfl, x, C, dx, _, rfl, hx2, W.cl, W.n2, (by show 1 < 1000; decide), ?_⟩
      rw [wf2]
      have hv3 : upd (upd H1 lv (.lst [.int 0])) x (.ins C dx (w2 n lv)) lv = some (.lst [.int 0]) := by rw [upd_ne xv.symm]; exact upd_same
      have hx3 : upd (upd H1 lv (.lst [.int 0])) x (.ins C dx (w2 n lv)) x = some (.ins C dx (w2 n lv)) := upd_same
      have b3 : But x H (upd (upd H1 lv (.lst [.int 0])) x (.ins C dx (w2 n lv))) := fun b o e ne => by
        rw [upd_ne ne, upd_ne (ne_of_none (b1 b o e ne) nv)]
        exact b1 b o e ne
      have nv0 := (nn lv nv).1
      have nn3 : ∀ a, upd (upd H1 lv (.lst [.int 0])) x (.ins C dx (w2 n lv)) a = none → H a = none := fun a e => (nn a (upd_none (upd_none e).2).2).1
      generalize upd (upd H1 lv (.lst [.int 0])) x (.ins C dx (w2 n lv)) = H3 at hv3 hx3 b3 nn3
      -- self._held = [0]
      refine ⟨by show 1 ≤ sizeLine; decide, fun lh nh => ?_⟩
      have xh : x ≠ lh := ne_of_none hx3 nh
      have vh : lv ≠ lh := ne_of_none hv3 nh
      have hx4 : upd H3 lh (.lst [.int 0]) x = some (.ins C dx (w2 n lv)) := by rw [upd_ne xh]; exact hx3
      refine ⟨.ref x, rfl, x, C, dx, _, rfl, hx4, W.cl, W.n3, (by show 2 < 1000; decide), ?_⟩
      rw [wf3]
      have xv3 : x ≠ lv := ne_of hx3 hv3 (fun z => nomatch z)
      have hv5 : upd (upd H3 lh (.lst [.int 0])) x (.ins C dx (w3 n lv lh)) lv = some (.lst [.int 0]) := by rw [upd_ne xv3.symm, upd_ne vh]; exact hv3
      have hh5 : upd (upd H3 lh (.lst [.int 0])) x (.ins C dx (w3 n lv lh)) lh = some (.lst [.int 0]) := by rw [upd_ne xh.symm]; exact upd_same
      have hx5 : upd (upd H3 lh (.lst [.int 0])) x (.ins C dx (w3 n lv lh)) x = some (.ins C dx (w3 n lv lh)) := upd_same
      have b5 : But x H (upd (upd H3 lh (.lst [.int 0])) x (.ins C dx (w3 n lv lh))) := fun b o e ne => by
        rw [upd_ne ne, upd_ne (ne_of_none (b3 b o e ne) nh)]
        exact b3 b o e ne
      have nh0 := nn3 lh nh
      have nn5 : ∀ a, upd (upd H3 lh (.lst [.int 0])) x (.ins C dx (w3 n lv lh)) a = none → H a = none := fun a e => nn3 a (upd_none (upd_none e).2).2
      generalize upd (upd H3 lh (.lst [.int 0])) x (.ins C dx (w3 n lv lh)) = H5 at hv5 hh5 hx5 b5 nn5
      -- self._rules = {}
      intro dd ndd
      have xd : x ≠ dd := ne_of_none hx5 ndd
      have hx6 : upd H5 dd (.dT []) x = some (.ins C dx (w3 n lv lh)) := by rw [upd_ne xd]; exact hx5
      refine ⟨.ref x, rfl, x, C, dx, _, rfl, hx6, W.cl, W.n4, (by show 3 < 1000; decide), ?_⟩
      rw [wf4]
      have xv5 : x ≠ lv := ne_of hx5 hv5 (fun z => nomatch z)
      have xh5 : x ≠ lh := ne_of hx5 hh5 (fun z => nomatch z)
      refine q1 n rfl n0 n1 _ lv lh dd (fun b o e ne => ?_) nv0 nh0 (nn5 dd ndd) { ins := ⟨dx, upd_same⟩, ver := ?_, hel := ?_, rul := ⟨[], ?_, .nil⟩, ne := vh, rk := (fun _ z => by cases z), nd := List.nodup_nil, len := ⟨rfl, by decide, by decide⟩ }
      · rw [upd_ne ne, upd_ne (ne_of_none (b5 b o e ne) ndd)]
        exact b5 b o e ne
      · rw [upd_ne xv5.symm, upd_ne (ne_of_none hv5 ndd)]
        exact hv5
      · rw [upd_ne xh5.symm, upd_ne (ne_of_none hh5 ndd)]
        exact hh5
      · rw [upd_ne xd.symm]
        exact upd_same
end

/-! ### plans -/
def kD : Key → PyData
  | .inl n => .int n
  | .inr s => .str s
theorem TDs.keys {H : Hp} : ∀ {ks : List Key}, TDs H (ks.map kV) (ks.map kD)
  | [] => .nil
  | .inl n :: r => .cons (.int n) TDs.keys
  | .inr s :: r => .cons (.str s) TDs.keys
abbrev PRule := List Key × (Int × List Key)
def ruleD (r : Int × List Key) : PyData := .tuple [.int r.1, .tuple (r.2.map kD)]
def rowsOf (R : List PRule) : Rows := R.map fun p => (p.1, ruleD p.2)
theorem rowsOf_keys (R : List PRule) : (rowsOf R).map (·.1) = R.map (·.1) := by
  unfold rowsOf
  rw [List.map_map]
  rfl
theorem rowsOf_snoc (R : List PRule) (r : PRule) : rowsOf (R ++ [r]) = rowsOf R ++ [(r.1, ruleD r.2)] := by
  unfold rowsOf
  rw [List.map_append]
  rfl
def heldAt (ks : List (Int × Int)) (i : Int) : Int := ((ks[i.toNat]?).getD (0, 0)).2
def TestOk (h : Int) (t : Key) : Prop := (∃ n : Int, t = Sum.inl n ∧ 0 ≤ n ∧ n < h) ∨ t = Sum.inr ("new" : Str)
def SrcAt (h : Int) (t : Key) (k : Key) : Prop := (∃ n : Int, k = Sum.inl n ∧ 0 ≤ n ∧ n < h) ∨ (k = Sum.inr ("value" : Str) ∧ t = Sum.inr ("new" : Str))
structure SrcOk (h : Int) (t : Key) (m : Int) (ks : List Key) : Prop where
  len : (ks.length : Int) = m
  nd : ks.Nodup
  all : ∀ k ∈ ks, SrcAt h t k
def RuleOk (w : Int) (kinds : List (Int × Int)) (r : PRule) : Prop := ∃ (i j : Int) (t : Key), r.1 = [Sum.inl i, Sum.inl j, t] ∧ 0 ≤ i ∧ i < kinds.length ∧ 0 ≤ j ∧ j < w ∧ TestOk (heldAt kinds i) t ∧ 0 ≤ r.2.1 ∧ r.2.1 < kinds.length ∧ SrcOk (heldAt kinds i) t (heldAt kinds r.2.1) r.2.2
structure KindsOk (kinds : List (Int × Int)) : Prop where
  len : 1 ≤ kinds.length ∧ kinds.length ≤ 6
  zero : heldAt kinds 0 = 0
  all : ∀ k ∈ kinds, 0 ≤ k.1 ∧ k.1 ≤ 3 ∧ 0 ≤ k.2 ∧ k.2 ≤ 3
structure Plan where
  words : Int
  kinds : List (Int × Int)
  rules : List PRule
structure PlanOk (P : Plan) : Prop where
  w : 1 ≤ P.words ∧ P.words ≤ 3
  k : KindsOk P.kinds
  r : ∀ r ∈ P.rules, RuleOk P.words P.kinds r
  nd : (P.rules.map (·.1)).Nodup
  len : P.rules.length ≤ 100
structure PlanAt (H : Hp) (l kl rl : Addr) (P : Plan) : Prop where
  at_ : H l = some (.lst [.int P.words, .ref kl, .ref rl])
  kin : ∃ vs, H kl = some (.lst vs) ∧ TDs H vs (P.kinds.map msgD)
  rul : ∃ kvs, H rl = some (.dT kvs) ∧ KvD H kvs (rowsOf P.rules)
theorem PlanAt.mono {H H' : Hp} {l kl rl : Addr} {P : Plan} (h : PlanAt H l kl rl P) (s : Same H H') : PlanAt H' l kl rl P := by
  obtain ⟨a, ⟨vs, b, c⟩, ⟨kvs, d, e⟩⟩ := h
  exact ⟨s _ _ a, ⟨vs, s _ _ b, c.mono (Tups.same s)⟩, ⟨kvs, s _ _ d, e.mono (Tups.same s)⟩⟩
theorem Keep.put {p a : Addr} {H H1 : Hp} {o : HO} (k : Keep p H H1) (n : H a = none) : Keep p H (upd H1 a o) := fun b u e nb => by
  rw [upd_ne (ne_of_none e n)]
  exact k b u e nb
theorem Keep.free {p a : Addr} {H H1 : Hp} (k : Keep p H H1) (hp : H1 p ≠ none) (n : H1 a = none) : H a = none := by
  cases e : H a with
  | none => rfl
  | some o =>
    by_cases q : a = p
    · subst q
      exact absurd n hp
    · rw [k a o e q] at n
      cases n
theorem Pen.some' {H : Hp} {p c : Addr} (h : Pen H p c) : H p ≠ none := by
  obtain ⟨l, e⟩ := h.at
  rw [e]
  exact fun z => nomatch z
/-- the plan stands, but for what the pen does -/
theorem PlanAt.but {H H' : Hp} {p c l kl rl : Addr} {P : Plan} (h : PlanAt H l kl rl P) (hP : Pen H p c) (b : Keep p H H') (n1 : l ≠ p) (n2 : kl ≠ p) : PlanAt H' l kl rl P := by
  obtain ⟨u, hp⟩ := hP.at
  obtain ⟨a, ⟨vs, e, f⟩, ⟨kvs, g, i⟩⟩ := h
  exact ⟨b _ _ a n1, ⟨vs, b _ _ e n2, f.mono (hP.tups b)⟩, ⟨kvs, b _ _ g (ne_of g hp (fun z => nomatch z)), i.mono (hP.tups b)⟩⟩
theorem ixN_at {n j : Nat} (hj : j < n) : ixN n (j : Int) = some j := by
  unfold ixN
  rw [if_pos (by omega), if_pos (by omega)]
  simp
theorem seqIx {n k : Nat} (h : k < n) : seqIndex? (k : Int) n = some k := (ixN_seq (ixN_at h)).1
theorem erase_perm {α : Type} : ∀ (l : List α) (k : Nat) (h : k < l.length), (l[k] :: l.eraseIdx k).Perm l
  | x :: r, 0, _ => List.Perm.refl _
  | x :: r, k + 1, h => (List.Perm.swap x (r[k]'(Nat.lt_of_succ_lt_succ h)) _).trans (List.Perm.cons x (erase_perm r k (Nat.lt_of_succ_lt_succ h)))
theorem erase_map {α β : Type} (f : α → β) : ∀ (l : List α) (k : Nat), (l.map f).eraseIdx k = (l.eraseIdx k).map f
  | [], k => by cases k <;> rfl
  | x :: r, 0 => rfl
  | x :: r, k + 1 => by simp only [List.map_cons, List.eraseIdx_cons_succ, erase_map f r k]
def sp_law_some_sources : Sp := fun vs H Q _ => ∃ (p c : Addr) (h m : Int) (t : Key), vs = [.ref p, .int h, kV t, .int m] ∧ Pen H p c ∧ 0 ≤ h ∧ h ≤ 3 ∧ 0 ≤ m ∧ m ≤ 3 ∧ TestOk h t ∧
  ∀ v H', Keep p H H' → Pen H' p c → (v = .non ∨ ∃ a ks, v = .ref a ∧ H' a = some (.tup (ks.map kV)) ∧ SrcOk h t m ks) → Q v H'
def pick (rs fs : List Key) (h : Int) (t : Key) : Prop := (rs ++ fs).Nodup ∧ ∀ k ∈ rs ++ fs, SrcAt h t k
theorem pick_step {rs fs : List Key} {h : Int} {t : Key} (hp : pick rs fs h t) {k : Nat} (hk : k < rs.length) : pick (rs.eraseIdx k) (fs ++ [rs[k]]) h t := by
  have e : (rs.eraseIdx k ++ (fs ++ [rs[k]])).Perm (rs ++ fs) := by
    have e1 : (rs.eraseIdx k ++ (fs ++ [rs[k]])).Perm ((fs ++ [rs[k]]) ++ rs.eraseIdx k) := List.perm_append_comm
    have e2 : ((fs ++ [rs[k]]) ++ rs.eraseIdx k) = fs ++ (rs[k] :: rs.eraseIdx k) := by rw [List.append_assoc]; rfl
    have e3 : (rs[k] :: rs.eraseIdx k).Perm rs := erase_perm rs k hk
    rw [e2] at e1
    exact e1.trans ((List.Perm.append_left fs e3).trans List.perm_append_comm)
  exact ⟨e.nodup_iff.mpr hp.1, fun x hx => hp.2 x (e.mem_iff.mp hx)⟩
theorem rgV_keys {h : Int} : rgV 0 h = ((List.range h.toNat).map fun i : Nat => (Sum.inl (i : Int) : Key)).map kV := by
  unfold rgV
  rw [List.map_map]
  simp only [Int.sub_zero]
  refine List.map_congr_left fun i _ => ?_
  show V.int (0 + (i : Int)) = V.int i
  rw [Int.zero_add]
theorem pick_rg {h : Int} {t : Key} (h0 : 0 ≤ h) : pick ((List.range h.toNat).map fun i : Nat => (Sum.inl (i : Int) : Key)) [] h t := by
  refine ⟨?_, fun k hk => ?_⟩
  · rw [List.append_nil]
    refine List.Pairwise.map _ (fun a b hab e => ?_) List.nodup_range
    have := Sum.inl.inj e
    omega
  · rw [List.append_nil] at hk
    obtain ⟨i, hi, rfl⟩ := List.mem_map.mp hk
    have := List.mem_range.mp hi
    exact .inl ⟨i, rfl, by omega, by omega⟩
theorem map_set_erase {rs : List Key} (k : Nat) : (rs.map kV).eraseIdx k = (rs.eraseIdx k).map kV := erase_map _ _ _
section
variable {P : Program} {w : World} {K : PySem.W.Frag} {mg : Str → Option Value} {base : Heap}
theorem G_law_draw (T : Tx K mg) : FnG P w K mg base CX0 2 T.law_draw.f T.law_draw.fd ["pen", "many"] sp_law_draw := ok_law_draw T.law_draw.F T.law_fresh.F T.law_fresh.b T.law_fresh.g T.m_len T.m_range
theorem G_law_pen (T : Tx K mg) : FnG P w K mg base CX0 1 T.law_pen.f T.law_pen.fd ["script"] (sp_law_pen K) := ok_law_pen T.law_pen.F T.m_list
abbrev N_law_some_sources : List Str := ["pen", "held", "test", "many", "rest", "found", "lap"]
theorem sc_law_some_sources : FnScope N_law_some_sources ["pen", "held", "test", "many"] (defScope s_law_some_sources) := ⟨rfl, rfl, rfl, by decide +kernel, rfl, by decide +kernel, by decide +kernel⟩
theorem G_law_some_sources (T : Tx K mg) : FnG P w K mg base CX0 3 T.law_some_sources.f T.law_some_sources.fd ["pen", "held", "test", "many"] sp_law_some_sources := by
  refine okG T.law_some_sources.F sc_law_some_sources (fun vs H Q E h => ?_) (fun cdv A outer s H vs Q E gd hr h => ?_)
  · obtain ⟨p, c, h', m, t, rfl, _⟩ := h
    rfl
  · obtain ⟨p, c, h', m, t, rfl, hP, h0, h3, m0, m3, ht, q⟩ := h
    refine ⟨_, 
      (pss_cons (ps_par (i := 4) (j := 5) rfl sc_law_some_sources.nd rfl rfl (by decide) rfl rfl (pa_cons (pe_listRg rfl (by rfl) T.m_list (prg_1 (by rfl) T.m_range (pv 1))) (pa_cons (pe_lst pa_nil) pa_nil)) rfl) -- rest, found = (list(range(held)), [])
      (C8.pss_cut (ps_if (pt_cmpR op_eq (pv 2) pe_str (nomark _)) 
        (pss_one (ps_expr (pe_bm PySem.F.plainAttrs_list PySem.F.slot_list_append PySem.F.type_list_append mt_append (pv 4) (pa_cons pe_str pa_nil)))) -- rest.append('value')
         pss_nil) -- if test == 'new':
      (pss_cons (ps_if (pt_cmpR op_gt (pv 3) (pe_callB call_len_seq (by rfl) T.m_len PySem.boot_len (pa_cons (pv 4) pa_nil)) (nomark _)) 
        (pss_one (ps_ret pe_non)) -- return None
         pss_nil) -- if many > len(rest):
      (pss_cons (ps_for PassesOwn.never rfl (pi_range1 rfl T.m_range (pa_cons (pv 3) pa_nil)) (pg_name (i := 6) sc_law_some_sources.nd rfl (.inl rfl)) 
        (pss_one (ps_expr (pe_bm PySem.F.plainAttrs_list PySem.F.slot_list_append PySem.F.type_list_append mt_append (pv 5) (pa_cons (pe_bm PySem.F.plainAttrs_list PySem.F.slot_list_pop PySem.F.type_list_pop mt_popAt (pv 4) (pa_cons (pe_callG (G_law_draw T) gd (hr.mono (by decide)) rfl T.law_draw.g T.law_draw.F.kp T.law_draw.b .nil pass0 (pa_cons (pv 0) (pa_cons (pe_callB call_len_seq (by rfl) T.m_len PySem.boot_len (pa_cons (pv 4) pa_nil)) pa_nil))) pa_nil)) pa_nil)))) -- found.append(rest.pop(_law_draw(pen, len(rest))))
        ) -- for lap in range(many):
      (pss_one (ps_ret (pe_callTy call_tuple_of (by rfl) T.m_tuple (by decide +kernel) (pa_cons (pv 5) pa_nil)))) -- return tuple(found)
      )))) , ?_⟩
    refine ⟨.int h', rfl, h', rfl, RgOk.of_le (by decide) (by omega) (by decide) h0, fun l nl => ⟨by show 0 ≤ sizeLine; decide, fun f nf => ⟨_, _, rfl, ?_⟩⟩⟩
    rw [rgV_keys] at nf ⊢
    have hl0 : (upd H l (.lst (((List.range h'.toNat).map fun i : Nat => (Sum.inl (i : Int) : Key)).map kV))) l = some (.lst (((List.range h'.toNat).map fun i : Nat => (Sum.inl (i : Int) : Key)).map kV)) := upd_same
    have nlp := hP.free nl
    have hP1 := hP.mono (same_new nl (o := .lst (((List.range h'.toNat).map fun i : Nat => (Sum.inl (i : Int) : Key)).map kV)))
    have k1 : Keep p H (upd H l (.lst (((List.range h'.toNat).map fun i : Nat => (Sum.inl (i : Int) : Key)).map kV))) := Keep.new nl
    have pk := pick_rg (h := h') (t := t) h0
    have lk : ((List.range h'.toNat).map fun i : Nat => (Sum.inl (i : Int) : Key)).length = h'.toNat := by rw [List.length_map, List.length_range]
    have ai : ∀ k ∈ ((List.range h'.toNat).map fun i : Nat => (Sum.inl (i : Int) : Key)), k ≠ Sum.inr ("value" : Str) := fun k hk e => by
      obtain ⟨i, _, rfl⟩ := List.mem_map.mp hk
      cases e
    generalize ((List.range h'.toNat).map fun i : Nat => (Sum.inl (i : Int) : Key)) = r0 at *
    generalize upd H l (.lst (r0.map kV)) = H1 at *
    have nfp := hP1.free nf
    have nfl := ne_of_none hl0 nf
    have hP2 := hP1.mono (same_new nf (o := .lst []))
    have nfH : H f = none := k1.free hP1.some' nf
    have k2 : Keep p H (upd H1 f (.lst [])) := k1.put nfH
    have hl2 : (upd H1 f (.lst [])) l = some (.lst (r0.map kV)) := by rw [upd_ne nfl]; exact hl0
    have hf2 : (upd H1 f (.lst [])) f = some (.lst []) := upd_same
    generalize upd H1 f (.lst []) = H2 at *
    refine ⟨fun σ H' => ∃ rs : List Key, σ = [some (.ref p), some (.int h'), some (kV t), some (.int m), some (.ref l), some (.ref f), none] ∧ Keep p H H' ∧ Pen H' p c ∧ H' l = some (.lst (rs.map kV)) ∧ H' f = some (.lst []) ∧ pick rs [] h' t ∧ rs.length ≤ 4, ?_, ?_⟩
    · rcases ht with ⟨n, rfl, n0, n1⟩ | rfl
      · refine ⟨.int n, rfl, rfl, _, rfl, ?_⟩
        exact ⟨r0, rfl, k2, hP2, hl2, hf2, pk, by omega⟩
      · refine ⟨.str "new", rfl, rfl, _, rfl, ?_⟩
        refine ⟨.ref l, rfl, .inl ⟨rfl, _, SqL.of hl2⟩, l, _, .str "value", rfl, rfl, hl2, by rw [List.length_map, lk]; exact small1000 (by omega), ?_⟩
        refine ⟨r0 ++ [Sum.inr ("value" : Str)], rfl, k2.put nl, hP2.put nlp.1.symm nlp.2.symm, ?_, ?_, ⟨?_, ?_⟩, ?_⟩
        · rw [upd_same, List.map_append]
          rfl
        · rw [upd_ne nfl.symm]
          exact hf2
        · rw [List.append_nil]
          have nd := pk.1
          rw [List.append_nil] at nd
          refine List.nodup_append.mpr ⟨nd, by simp, fun a ha b hb => ?_⟩
          rw [List.mem_singleton] at hb
          subst hb
          exact ai a ha
        · intro k hk
          rw [List.append_nil] at hk
          rcases List.mem_append.mp hk with z | z
          · exact pk.2 k (List.mem_append_left _ z)
          · rw [List.mem_singleton] at z
            exact .inr ⟨z, rfl⟩
        · rw [List.length_append, lk]
          show h'.toNat + 1 ≤ 4
          omega
    · rintro σ H3 ⟨rs, rfl, k3, hP3, hl3, hf3, pk, lr⟩
      refine ⟨.int m, rfl, .ref l, rfl, l, _, rfl, .inl (SqL.of hl3), _, _, rfl, rfl, _, rfl, ite2 (fun hb => ?_) (fun hb => ?_)⟩
      · exact q .non H3 k3 hP3 (.inl rfl)
      · have hm : m ≤ rs.length := by
          have z : ¬ (m > ((List.map kV rs).length : Int)) := fun e => hb (decide_eq_true e)
          rw [List.length_map] at z
          omega
        obtain ⟨m', rfl⟩ : ∃ m' : Nat, m = m' := ⟨m.toNat, by omega⟩
        refine ⟨.int (m' : Int), rfl, (m' : Int), rfl, by omega, by omega, ?_⟩
        rw [Int.toNat_natCast]
        refine for_range (n := m') (fun i σ H' => ∃ (y : Option V) (rs fs : List Key), σ = [some (.ref p), some (.int h'), some (kV t), some (.int m'), some (.ref l), some (.ref f), y] ∧ Keep p H H' ∧ Pen H' p c ∧ H' l = some (.lst (rs.map kV)) ∧ H' f = some (.lst (fs.map kV)) ∧ pick rs fs h' t ∧ fs.length = i ∧ m' ≤ rs.length + i ∧ rs.length ≤ 4) ?_ ?_ ?_
        · exact ⟨none, rs, [], rfl, k3, hP3, hl3, hf3, pk, rfl, by omega, lr⟩
        · rintro i σ H4 hi ⟨y, rs, fs, rfl, k4, hP4, hl4, hf4, pk, lf, lm, lr⟩
          refine ⟨.ref f, rfl, .inl ⟨rfl, _, SqL.of hf4⟩, .ref l, rfl, .inl ⟨rfl, _, SqL.of hl4⟩, .ref p, rfl, .ref l, rfl, l, _, rfl, .inl (SqL.of hl4), p, c, _, rfl, hP4, ?_, ?_, fun d H5 d0 d1 k5 hP5 => ?_⟩
          · rw [List.length_map]; omega
          · rw [List.length_map]; omega
          rw [List.length_map] at d1
          obtain ⟨d', rfl⟩ : ∃ d' : Nat, d = d' := ⟨d.toNat, by omega⟩
          have hd : d' < rs.length := by omega
          have hl5 := k5 _ _ hl4 nlp.1.symm
          have hf5 := k5 _ _ hf4 nfp.1.symm
          refine ⟨l, rs.map kV, d', d', kV rs[d'], rfl, rfl, hl5, by omega, by omega, seqIx (by rw [List.length_map]; exact hd), by rw [List.getElem?_map, List.getElem?_eq_getElem hd]; rfl, ?_⟩
          refine ⟨f, fs.map kV, kV rs[d'], rfl, rfl, by rw [upd_ne nfl.symm]; exact hf5, by rw [List.length_map]; exact small1000 (by omega), ?_⟩
          refine ⟨_, rs.eraseIdx d', fs ++ [rs[d']], rfl, ((k4.trans k5).put nl).put nfH, (hP5.put nlp.1.symm nlp.2.symm).put nfp.1.symm nfp.2.symm, ?_, ?_, pick_step pk hd, ?_, ?_, ?_⟩
          · rw [upd_ne nfl, upd_same, map_set_erase]
          · rw [upd_same, List.map_append]
            rfl
          · rw [List.length_append, lf]
            rfl
          · rw [List.length_eraseIdx_of_lt hd]
            omega
          · rw [List.length_eraseIdx_of_lt hd]
            omega
        · rintro σ H4 ⟨y, rs, fs, rfl, k4, hP4, hl4, hf4, pk, lf, lm, lr⟩
          refine ⟨.ref f, rfl, f, _, rfl, .inl ⟨SqL.of hf4, fun a na => ?_⟩⟩
          refine q (.ref a) _ (k4.put (k4.free hP4.some' na)) (hP4.mono (same_new na)) (.inr ⟨a, fs, rfl, upd_same, ?_⟩)
          exact ⟨by omega, (List.nodup_append.mp pk.1).2.1, fun k hk => pk.2 k (List.mem_append_right _ hk)⟩
end

/-! ### plans are drawn -/
def putP (R : List PRule) (k : List Key) (v : Int × List Key) : List PRule :=
  if (R.any fun r => decide (r.1 = k)) = true then R.map (fun r => if r.1 = k then (r.1, v) else r) else R ++ [(k, v)]
theorem putP_keys (R : List PRule) (k : List Key) (v : Int × List Key) : (k ∈ R.map (·.1) → (putP R k v).map (·.1) = R.map (·.1)) ∧ (k ∉ R.map (·.1) → (putP R k v).map (·.1) = R.map (·.1) ++ [k]) := by
  unfold putP
  by_cases h : (R.any fun r => decide (r.1 = k)) = true
  · have hm : k ∈ R.map (·.1) := by
      obtain ⟨r, hr, e⟩ := List.any_eq_true.mp h
      exact List.mem_map.mpr ⟨r, hr, of_decide_eq_true e⟩
    refine ⟨fun _ => ?_, fun z => absurd hm z⟩
    rw [if_pos h, List.map_map]
    refine List.map_congr_left fun r _ => ?_
    show (if r.1 = k then (r.1, v) else r).1 = r.1
    split <;> rfl
  · have hm : k ∉ R.map (·.1) := fun z => h (by
      obtain ⟨r, hr, e⟩ := List.mem_map.mp z
      exact List.any_eq_true.mpr ⟨r, hr, decide_eq_true e⟩)
    refine ⟨fun z => absurd z hm, fun _ => ?_⟩
    rw [if_neg h, List.map_append]
    rfl
theorem putP_nodup {R : List PRule} {k : List Key} {v : Int × List Key} (h : (R.map (·.1)).Nodup) : ((putP R k v).map (·.1)).Nodup := by
  by_cases hm : k ∈ R.map (·.1)
  · rw [(putP_keys R k v).1 hm]
    exact h
  · rw [(putP_keys R k v).2 hm]
    refine List.nodup_append.mpr ⟨h, by simp, fun a ha b hb => ?_⟩
    rw [List.mem_singleton] at hb
    subst hb
    rintro rfl
    exact hm ha
theorem putP_len (R : List PRule) (k : List Key) (v : Int × List Key) : (putP R k v).length ≤ R.length + 1 := by
  unfold putP
  split
  · rw [List.length_map]
    exact Nat.le_succ _
  · rw [List.length_append]
    exact Nat.le_refl _
theorem putP_mem {R : List PRule} {k : List Key} {v : Int × List Key} {r : PRule} (h : r ∈ putP R k v) : r ∈ R ∨ r = (k, v) := by
  unfold putP at h
  split at h
  · obtain ⟨s, hs, rfl⟩ := List.mem_map.mp h
    by_cases e : s.1 = k
    · rw [if_pos e]
      exact .inr (by rw [e])
    · rw [if_neg e]
      exact .inl hs
  · rcases List.mem_append.mp h with z | z
    · exact .inl z
    · exact .inr (List.mem_singleton.mp z)
theorem kvd_map {H : Hp} {k : List Key} {x : V} {v : Int × List Key} (hx : TD H x (ruleD v)) : ∀ {R : List PRule} {kvs : List (List Key × V)}, KvD H kvs (rowsOf R) →
    KvD H (kvs.map fun kv => if kv.1 = k then (kv.1, x) else kv) (rowsOf (R.map fun r => if r.1 = k then (r.1, v) else r))
  | [], _, h => by
    cases h
    exact .nil
  | r :: R, _, h => by
    cases h with
    | @cons a _ l1 _ ab t =>
      have e1 : a.1 = r.1 := ab.1
      refine .cons ?_ (kvd_map hx (R := R) t)
      show (if a.1 = k then (a.1, x) else a).1 = (if r.1 = k then (r.1, v) else r).1 ∧ TD H (if a.1 = k then (a.1, x) else a).2 (ruleD (if r.1 = k then (r.1, v) else r).2)
      by_cases e : r.1 = k
      · rw [if_pos (e1.trans e), if_pos e]
        exact ⟨e1, hx⟩
      · rw [if_neg (fun z => e (e1.symm.trans z)), if_neg e]
        exact ab
theorem kvd_put {H : Hp} {R : List PRule} {kvs : List (List Key × V)} {k : List Key} {x : V} {v : Int × List Key} (h : KvD H kvs (rowsOf R)) (hx : TD H x (ruleD v)) : KvD H (putK kvs k x) (rowsOf (putP R k v)) := by
  have ek : kvs.map (·.1) = R.map (·.1) := by rw [h.keys, rowsOf_keys]
  have ea : (kvs.any fun kv => decide (kv.1 = k)) = (R.any fun r => decide (r.1 = k)) := by
    have e1 : (kvs.any fun kv => decide (kv.1 = k)) = (kvs.map (·.1)).any fun j => decide (j = k) := by rw [List.any_map]; rfl
    have e2 : (R.any fun r => decide (r.1 = k)) = (R.map (·.1)).any fun j => decide (j = k) := by rw [List.any_map]; rfl
    rw [e1, e2, ek]
  unfold putK putP
  rw [ea]
  split
  · exact kvd_map hx h
  · rw [rowsOf_snoc]
    exact Paired.snoc h ⟨rfl, hx⟩
/-- the plan's parts while they are made -/
structure PB (H H' : Hp) (p c kl rl : Addr) (ks : List (Int × Int)) (R : List PRule) : Prop where
  keep : Keep p H H'
  pen : Pen H' p c
  fk : H kl = none
  fr : H rl = none
  nk : kl ≠ p ∧ kl ≠ c
  nr : rl ≠ p ∧ rl ≠ c
  kin : ∃ vs, H' kl = some (.lst vs) ∧ TDs H' vs (ks.map msgD)
  rul : ∃ kvs, H' rl = some (.dT kvs) ∧ KvD H' kvs (rowsOf R)
theorem PB.draw {H H1 H2 : Hp} {p c kl rl : Addr} {ks : List (Int × Int)} {R : List PRule} (b : PB H H1 p c kl rl ks R) (k : Keep p H1 H2) (hP : Pen H2 p c) : PB H H2 p c kl rl ks R := by
  obtain ⟨a, e, f, g, n, m, ⟨vs, i, j⟩, ⟨kvs, l, o⟩⟩ := b
  exact ⟨a.trans k, hP, f, g, n, m, ⟨vs, k _ _ i n.1, j.mono (e.tups k)⟩, ⟨kvs, k _ _ l m.1, o.mono (e.tups k)⟩⟩
theorem PB.new {H H1 : Hp} {p c kl rl a : Addr} {o : HO} {ks : List (Int × Int)} {R : List PRule} (b : PB H H1 p c kl rl ks R) (n : H1 a = none) : PB H (upd H1 a o) p c kl rl ks R :=
  b.draw (Keep.new n) (b.pen.mono (same_new n))
theorem PB.push {H H1 : Hp} {p c kl rl : Addr} {ks : List (Int × Int)} {R : List PRule} (b : PB H H1 p c kl rl ks R) {vs : List V} {v : V} {m : Int × Int} (hk : H1 kl = some (.lst vs)) (ht : TDs H1 vs (ks.map msgD)) (hv : TD H1 v (msgD m)) :
    PB H (upd H1 kl (.lst (vs ++ [v]))) p c kl rl (ks ++ [m]) R := by
  obtain ⟨a, e, f, g, n, m', _, ⟨kvs, l, o⟩⟩ := b
  have tp : Tups H1 (upd H1 kl (.lst (vs ++ [v]))) := Tups.lst hk
  have nrk : rl ≠ kl := ne_of l hk (fun z => nomatch z)
  refine ⟨a.put f, e.put n.1 n.2, f, g, n, m', ⟨_, upd_same, ?_⟩, ⟨kvs, by rw [upd_ne nrk]; exact l, o.mono tp⟩⟩
  rw [List.map_append]
  exact (ht.mono tp).app (.cons (hv.mono tp) .nil)
theorem PB.rule {H H1 : Hp} {p c kl rl : Addr} {ks : List (Int × Int)} {R : List PRule} (b : PB H H1 p c kl rl ks R) {kvs : List (List Key × V)} {k : List Key} {x : V} {r : Int × List Key} (hr : H1 rl = some (.dT kvs)) (hk : KvD H1 kvs (rowsOf R)) (hx : TD H1 x (ruleD r)) :
    PB H (upd H1 rl (.dT (putK kvs k x))) p c kl rl ks (putP R k r) := by
  obtain ⟨a, e, f, g, n, m', ⟨vs, i, j⟩, _⟩ := b
  have tp : Tups H1 (upd H1 rl (.dT (putK kvs k x))) := Tups.put hr (fun _ z => nomatch z)
  have nrk : kl ≠ rl := ne_of i hr (fun z => nomatch z)
  exact ⟨a.put g, e.put m'.1 m'.2, f, g, n, m', ⟨vs, by rw [upd_ne nrk]; exact i, j.mono tp⟩, ⟨_, upd_same, kvd_put (hk.mono tp) (hx.mono tp)⟩⟩
def testsOf (u : Int) : List Key := ((List.range u.toNat).map fun i : Nat => (Sum.inl (i : Int) : Key)) ++ [Sum.inr ("new" : Str)]
theorem testsOf_len (u : Int) : (testsOf u).length = u.toNat + 1 := by
  unfold testsOf
  rw [List.length_append, List.length_map, List.length_range]
  rfl
theorem testsOf_ok {u : Int} {t : Key} (h0 : 0 ≤ u) (h : t ∈ testsOf u) : TestOk u t := by
  unfold testsOf at h
  rcases List.mem_append.mp h with z | z
  · obtain ⟨i, hi, rfl⟩ := List.mem_map.mp z
    have := List.mem_range.mp hi
    exact .inl ⟨i, rfl, by omega, by omega⟩
  · exact .inr (List.mem_singleton.mp z)
theorem testsOf_v (u : Int) : rgV 0 u ++ [V.str "new"] = (testsOf u).map kV := by
  unfold testsOf
  rw [List.map_append, rgV_keys]
  rfl
theorem kinds_at {H : Hp} {vs : List V} {ks : List (Int × Int)} (ht : TDs H vs (ks.map msgD)) {i : Int} (h0 : 0 ≤ i) (h1 : i < ks.length) : ∃ a v, atI vs i = some (.ref a) ∧ H a = some (.tup [.int v, .int (heldAt ks i)]) ∧ ks[i.toNat]? = some (v, heldAt ks i) := by
  have hl := ht.msgs_len
  obtain ⟨j, rfl⟩ : ∃ j : Nat, i = j := ⟨i.toNat, by omega⟩
  have hj : j < vs.length := by omega
  obtain ⟨m, a, e1, e2, e3⟩ := ht.msg (List.getElem?_eq_getElem hj)
  have e4 : heldAt ks (j : Int) = m.2 := by
    unfold heldAt
    rw [Int.toNat_natCast, e1]
    rfl
  refine ⟨a, m.1, atI_nat (by rw [List.getElem?_eq_getElem hj, e2]), by rw [e4]; exact e3, by rw [e4, Int.toNat_natCast]; exact e1⟩
theorem kinds_bd {ks : List (Int × Int)} (hk : ∀ k ∈ ks, 0 ≤ k.1 ∧ k.1 ≤ 3 ∧ 0 ≤ k.2 ∧ k.2 ≤ 3) {i : Nat} {m : Int × Int} (h : ks[i]? = some m) : 0 ≤ m.1 ∧ m.1 ≤ 3 ∧ 0 ≤ m.2 ∧ m.2 ≤ 3 := hk m (List.mem_of_getElem? h)
theorem kinds_push {ks : List (Int × Int)} {m : Int × Int} (h : KindsOk ks) (hl : ks.length ≤ 5) (h0 : 0 ≤ m.1) (h1 : m.1 ≤ 3) (h2 : 0 ≤ m.2) (h3 : m.2 ≤ 3) : KindsOk (ks ++ [m]) := by
  refine ⟨⟨by rw [List.length_append]; have := h.len; omega, by rw [List.length_append]; show ks.length + 1 ≤ 6; omega⟩, ?_, fun k hk => ?_⟩
  · have z := h.zero
    unfold heldAt at z ⊢
    have := h.len
    rw [show (0 : Int).toNat = 0 from rfl] at z ⊢
    rw [List.getElem?_append_left (by omega)]
    exact z
  · rcases List.mem_append.mp hk with z | z
    · exact h.all k z
    · rw [List.mem_singleton] at z
      subst z
      exact ⟨h0, h1, h2, h3⟩
/-- what is known of the rules -/
structure RB (w : Int) (ks : List (Int × Int)) (R : List PRule) (n : Nat) : Prop where
  ok : ∀ r ∈ R, RuleOk w ks r
  nd : (R.map (·.1)).Nodup
  len : R.length ≤ n
theorem RB.le {w : Int} {ks : List (Int × Int)} {R : List PRule} {n m : Nat} (h : RB w ks R n) (e : n ≤ m) : RB w ks R m := ⟨h.ok, h.nd, Nat.le_trans h.len e⟩
theorem RB.put {w : Int} {ks : List (Int × Int)} {R : List PRule} {n : Nat} (h : RB w ks R n) {k : List Key} {v : Int × List Key} (hr : RuleOk w ks (k, v)) : RB w ks (putP R k v) (n + 1) := by
  refine ⟨fun r hr' => ?_, putP_nodup h.nd, Nat.le_trans (putP_len R k v) (Nat.succ_le_succ h.len)⟩
  rcases putP_mem hr' with z | rfl
  · exact h.ok r z
  · exact hr
def sp_law_plan : Sp := fun vs H Q _ => ∃ (p c : Addr) (w st h : Int), vs = [.ref p, .int w, .int st, .int h] ∧ Pen H p c ∧ 1 ≤ w ∧ w ≤ 3 ∧ 1 ≤ st ∧ st ≤ 6 ∧ 0 ≤ h ∧ h ≤ 3 ∧
  ∀ l kl rl pl H', pl.words = w → Keep p H H' → Pen H' p c → H l = none → H kl = none → H rl = none → PlanAt H' l kl rl pl → PlanOk pl → (pl.kinds.length : Int) ≤ st → Q (.ref l) H'
section
variable {P : Program} {w : World} {K : PySem.W.Frag} {mg : Str → Option Value} {base : Heap}
abbrev N_law_plan : List Str := ["pen", "words", "states", "held", "kinds", "rules", "lap", "state", "word", "test", "target", "sources"]
theorem sc_law_plan : FnScope N_law_plan ["pen", "words", "states", "held"] (defScope s_law_plan) := ⟨rfl, rfl, rfl, by decide +kernel, rfl, by decide +kernel, by decide +kernel⟩
theorem G_law_plan (T : Tx K mg) : FnG P w K mg base CX0 4 T.law_plan.f T.law_plan.fd ["pen", "words", "states", "held"] sp_law_plan := by
  refine okG T.law_plan.F sc_law_plan (fun vs H Q E h => ?_) (fun cdv A outer s H vs Q E gd hr h => ?_)
  · obtain ⟨p, c, w', st, h', rfl, _⟩ := h
    rfl
  · obtain ⟨p, c, w', st, h', rfl, hP, w1, w3, s1, s6, h0, h3, q⟩ := h
    refine ⟨_, 
      (C8.pss_cut (ps_par (i := 4) (j := 5) rfl sc_law_plan.nd rfl rfl (by decide) rfl rfl (pa_cons (pe_lst (pa_cons (pe_tup (pa_cons (pe_callG (G_law_draw T) gd (hr.mono (by decide)) rfl T.law_draw.g T.law_draw.F.kp T.law_draw.b .nil pass0 (pa_cons (pv 0) (pa_cons pe_int pa_nil))) (pa_cons pe_int pa_nil))) pa_nil)) (pa_cons pe_dnewT pa_nil)) rfl) -- kinds, rules = ([(_law_draw(pen, 2), 0)], {})
      (C8.pss_cut (ps_for PassesOwn.never rfl (pi_range1 rfl T.m_range (pa_cons (pe_callG (G_law_draw T) gd (hr.mono (by decide)) rfl T.law_draw.g T.law_draw.F.kp T.law_draw.b .nil pass0 (pa_cons (pv 0) (pa_cons (pv 2) pa_nil))) pa_nil)) (pg_name (i := 6) sc_law_plan.nd rfl (.inl rfl)) 
        (pss_one (ps_expr (pe_bm PySem.F.plainAttrs_list PySem.F.slot_list_append PySem.F.type_list_append mt_append (pv 4) (pa_cons (pe_tup (pa_cons (pe_callG (G_law_draw T) gd (hr.mono (by decide)) rfl T.law_draw.g T.law_draw.F.kp T.law_draw.b .nil pass0 (pa_cons (pv 0) (pa_cons (pe_ix ix_list (pe_lst (pa_cons pe_int (pa_cons pe_int (pa_cons pe_int pa_nil)))) (pe_callG (G_law_draw T) gd (hr.mono (by decide)) rfl T.law_draw.g T.law_draw.F.kp T.law_draw.b .nil pass0 (pa_cons (pv 0) (pa_cons pe_int pa_nil))) (fun _ _ => rfl)) pa_nil))) (pa_cons (pe_callG (G_law_draw T) gd (hr.mono (by decide)) rfl T.law_draw.g T.law_draw.F.kp T.law_draw.b .nil pass0 (pa_cons (pv 0) (pa_cons (pe_op op_add (pv 3) pe_int) pa_nil))) pa_nil))) pa_nil)))) -- kinds.append((_law_draw(pen, [2, 2, 4][_law_draw(pen, 3)]), _law_draw(pen, held + 1)))
        ) -- for lap in range(_law_draw(pen, states)):
      (C8.pss_cut (ps_for PassesOwn.never rfl (pi_range1 rfl T.m_range (pa_cons (pe_callB call_len_seq (by rfl) T.m_len PySem.boot_len (pa_cons (pv 4) pa_nil)) pa_nil)) (pg_name (i := 7) sc_law_plan.nd rfl (.inl rfl)) 
        (pss_one (ps_for PassesOwn.never rfl (pi_range1 rfl T.m_range (pa_cons (pv 1) pa_nil)) (pg_name (i := 8) sc_law_plan.nd rfl (.inl rfl)) 
          (pss_one (ps_for PassesOwn.never rfl (pi_list (pe_op op_cat (pe_listRg rfl (by rfl) T.m_list (prg_1 (by rfl) T.m_range (pe_ix ix_tup (pe_ix ix_list (pv 4) (pv 7) (fun _ _ => rfl)) pe_int (fun _ _ => rfl)))) (pe_lst (pa_cons pe_str pa_nil)))) (pg_name (i := 9) sc_law_plan.nd rfl (.inl rfl)) 
            (pss_cons (ps_set (i := 10) sc_law_plan.nd rfl (.inl rfl) (pe_callG (G_law_draw T) gd (hr.mono (by decide)) rfl T.law_draw.g T.law_draw.F.kp T.law_draw.b .nil pass0 (pa_cons (pv 0) (pa_cons (pe_callB call_len_seq (by rfl) T.m_len PySem.boot_len (pa_cons (pv 4) pa_nil)) pa_nil)))) -- target = _law_draw(pen, len(kinds))
            (pss_cons (ps_set (i := 11) sc_law_plan.nd rfl (.inl rfl) (pe_callG (G_law_some_sources T) gd (hr.mono (by decide)) rfl T.law_some_sources.g T.law_some_sources.F.kp T.law_some_sources.b .nil pass0 (pa_cons (pv 0) (pa_cons (pe_ix ix_tup (pe_ix ix_list (pv 4) (pv 7) (fun _ _ => rfl)) pe_int (fun _ _ => rfl)) (pa_cons (pv 9) (pa_cons (pe_ix ix_tup (pe_ix ix_list (pv 4) (pv 10) (fun _ _ => rfl)) pe_int (fun _ _ => rfl)) pa_nil)))))) -- sources = _law_some_sources(pen, kinds[state][1], test, kinds[target][1])
            (pss_one (ps_if (PW.pt (pw_and (pt_cmp (pc_notN (pv 11))) (pw_and1 (pt_cmpR op_gt (pe_callG (G_law_draw T) gd (hr.mono (by decide)) rfl T.law_draw.g T.law_draw.F.kp T.law_draw.b .nil pass0 (pa_cons (pv 0) (pa_cons pe_int pa_nil))) pe_int (nomark _))))) 
              (pss_one (ps_dput (hu_of hr) (pv 5) (pe_tup (pa_cons (pv 7) (pa_cons (pv 8) (pa_cons (pv 9) pa_nil)))) (pe_tup (pa_cons (pv 10) (pa_cons (pv 11) pa_nil))) rfl)) -- rules[state, word, test] = (target, sources)
               pss_nil)) -- if sources is not None and _law_draw(pen, 5) > 0:
            )))) -- for test in list(range(kinds[state][1])) + ['new']:
          )) -- for word in range(words):
        ) -- for state in range(len(kinds)):
      (pss_one (ps_ret (pe_lst (pa_cons (pv 1) (pa_cons (pv 4) (pa_cons (pv 5) pa_nil)))))) -- return [words, kinds, rules]
      ))) , ?_⟩
    refine ⟨fun σ H' => ∃ (kl rl : Addr) (ks : List (Int × Int)), σ = [some (.ref p), some (.int w'), some (.int st), some (.int h'), some (.ref kl), some (.ref rl), none, none, none, none, none, none] ∧ PB H H' p c kl rl ks [] ∧ KindsOk ks ∧ ks.length = 1, ?_, ?_⟩
    · refine ⟨.ref p, rfl, p, c, 2, rfl, hP, by decide, by decide, fun d H1 d0 d1 k1 hP1 => ⟨by show 2 ≤ sizeLine; decide, fun t nt => ⟨by show 1 ≤ sizeLine; decide, fun kl nkl => fun rl nrl => ⟨_, _, rfl, ?_⟩⟩⟩⟩
      have ht : (upd H1 t (.tup [.int d, .int 0])) t = some (.tup [.int d, .int 0]) := upd_same
      have hP2 := hP1.mono (same_new nt (o := .tup [.int d, .int 0]))
      have k2 := k1.put (o := .tup [.int d, .int 0]) (k1.free hP1.some' nt)
      generalize upd H1 t (.tup [.int d, .int 0]) = H2 at *
      have nk := hP2.free nkl
      have fk := k2.free hP2.some' nkl
      have hk : (upd H2 kl (.lst [.ref t])) kl = some (.lst [.ref t]) := upd_same
      have ht3 : (upd H2 kl (.lst [.ref t])) t = some (.tup [.int d, .int 0]) := same_new nkl _ _ ht
      have hP3 := hP2.mono (same_new nkl (o := .lst [.ref t]))
      have k3 := k2.put (o := .lst [.ref t]) fk
      generalize upd H2 kl (.lst [.ref t]) = H3 at *
      have nr := hP3.free nrl
      have fr := k3.free hP3.some' nrl
      have s4 : Same H3 (upd H3 rl (.dT [])) := same_new nrl
      refine ⟨kl, rl, [(d, 0)], rfl, ⟨k3.put fr, hP3.mono s4, fk, fr, ⟨nk.1.symm, nk.2.symm⟩, ⟨nr.1.symm, nr.2.symm⟩, ⟨_, s4 _ _ hk, .cons (TD.ofPair (s4 _ _ ht3)) .nil⟩, ⟨[], upd_same, .nil⟩⟩, ⟨⟨Nat.le_refl 1, (by decide : (1 : Nat) ≤ 6)⟩, rfl, fun k hk => ?_⟩, rfl⟩
      rw [List.mem_singleton] at hk
      subst hk
      exact ⟨d0, by show d ≤ 3; omega, (by decide : (0 : Int) ≤ 0), (by decide : (0 : Int) ≤ 3)⟩
    rintro σ H1 ⟨kl, rl, ks, rfl, B, hks, lk⟩
    refine ⟨fun σ H' => ∃ (y : Option V) (ks : List (Int × Int)), σ = [some (.ref p), some (.int w'), some (.int st), some (.int h'), some (.ref kl), some (.ref rl), y, none, none, none, none, none] ∧ PB H H' p c kl rl ks [] ∧ KindsOk ks ∧ (ks.length : Int) ≤ st, ?_, ?_⟩
    · refine ⟨.ref p, rfl, .int st, rfl, p, c, st, rfl, B.pen, by omega, by omega, fun d H2 d0 d1 k2 hP2 => ?_⟩
      obtain ⟨n', rfl⟩ : ∃ n' : Nat, d = n' := ⟨d.toNat, by omega⟩
      refine ⟨(n' : Int), rfl, by omega, by omega, ?_⟩
      rw [Int.toNat_natCast]
      refine for_range (n := n') (fun i σ H' => ∃ (y : Option V) (ks : List (Int × Int)), σ = [some (.ref p), some (.int w'), some (.int st), some (.int h'), some (.ref kl), some (.ref rl), y, none, none, none, none, none] ∧ PB H H' p c kl rl ks [] ∧ KindsOk ks ∧ ks.length = 1 + i) ?_ ?_ ?_
      · exact ⟨none, ks, rfl, B.draw k2 hP2, hks, by omega⟩
      · rintro i σ H3 hi ⟨y, ks, rfl, B, hks, lk⟩
        obtain ⟨vs, hk, ht⟩ := B.kin
        refine ⟨.ref kl, rfl, .inl ⟨rfl, _, SqL.of hk⟩, .ref p, rfl, by show 3 ≤ sizeLine; decide, fun l nl => ?_⟩
        have B4 := B.new (o := .lst [.int 2, .int 2, .int 4]) nl
        have nlp := B.pen.free nl
        refine ⟨.ref p, rfl, p, c, 3, rfl, B4.pen, by decide, by decide, fun e H5 e0 e1 k5 hP5 => ?_⟩
        have B5 := B4.draw k5 hP5
        have hl5 := k5 _ _ (upd_same (H := H3) (a := l) (o := .lst [.int 2, .int 2, .int 4])) nlp.1.symm
        obtain ⟨x, ex, hx⟩ : ∃ x : Int, atI [V.int 2, V.int 2, V.int 4] e = some (.int x) ∧ (x = 2 ∨ x = 4) := by
          have : e = 0 ∨ e = 1 ∨ e = 2 := by omega
          rcases this with rfl | rfl | rfl
          · exact ⟨2, rfl, .inl rfl⟩
          · exact ⟨2, rfl, .inl rfl⟩
          · exact ⟨4, rfl, .inr rfl⟩
        refine ⟨l, _, e, .int x, rfl, rfl, SqL.of hl5, ex, p, c, x, rfl, hP5, by omega, by omega, fun v H6 v0 v1 k6 hP6 => ?_⟩
        refine ⟨.ref p, rfl, .int h', rfl, h', 1, rfl, rfl, p, c, h' + 1, rfl, hP6, by omega, by omega, fun u H7 u0 u1 k7 hP7 => ⟨by show 2 ≤ sizeLine; decide, fun t nt => ?_⟩⟩
        have B7 := (B5.draw k6 hP6).draw k7 hP7
        have B8 := B7.new (o := .tup [.int v, .int u]) nt
        obtain ⟨vs, hk, ht⟩ := B8.kin
        have lv : vs.length = ks.length := ht.msgs_len
        refine ⟨kl, vs, .ref t, rfl, rfl, hk, small1000 (by omega), _, ks ++ [(v, u)], rfl, B8.push hk ht (TD.ofPair upd_same), kinds_push hks (by omega) v0 (by show v ≤ 3; omega) u0 (by show u ≤ 3; omega), by rw [List.length_append, lk]; rfl⟩
      · rintro σ H3 ⟨y, ks, rfl, B, hks, lk⟩
        exact ⟨y, ks, rfl, B, hks, by omega⟩
    rintro σ H1 ⟨y, ks, rfl, B, hks, lk⟩
    have kl6 := hks.len
    refine ⟨fun σ H' => ∃ (a1 a2 a3 a4 a5 : Option V) (R : List PRule), σ = [some (.ref p), some (.int w'), some (.int st), some (.int h'), some (.ref kl), some (.ref rl), y, a1, a2, a3, a4, a5] ∧ PB H H' p c kl rl ks R ∧ RB w' ks R 72, ?_, ?_⟩
    · obtain ⟨vs, hk, ht⟩ := B.kin
      have lv : vs.length = ks.length := ht.msgs_len
      refine ⟨.ref kl, rfl, kl, _, rfl, .inl (SqL.of hk), (vs.length : Int), rfl, by omega, by omega, ?_⟩
      rw [Int.toNat_natCast]
      refine for_range (n := vs.length) (fun i σ H' => ∃ (a1 a2 a3 a4 a5 : Option V) (R : List PRule), σ = [some (.ref p), some (.int w'), some (.int st), some (.int h'), some (.ref kl), some (.ref rl), y, a1, a2, a3, a4, a5] ∧ PB H H' p c kl rl ks R ∧ RB w' ks R (12 * i)) ?_ ?_ ?_
      · exact ⟨none, none, none, none, none, [], rfl, B, ⟨(fun _ z => by cases z), List.nodup_nil, Nat.le_refl _⟩⟩
      · rintro i σ H2 hi ⟨a1, a2, a3, a4, a5, R, rfl, B, hR⟩
        have ii0 : (0 : Int) ≤ 0 + (i : Int) := by omega
        have ii1 : 0 + (i : Int) < ks.length := by omega
        generalize 0 + (i : Int) = s at ii0 ii1 ⊢
        refine ⟨.int w', rfl, w', rfl, by omega, by omega, ?_⟩
        refine for_range (n := w'.toNat) (fun j σ H' => ∃ (a2 a3 a4 a5 : Option V) (R : List PRule), σ = [some (.ref p), some (.int w'), some (.int st), some (.int h'), some (.ref kl), some (.ref rl), y, some (.int s), a2, a3, a4, a5] ∧ PB H H' p c kl rl ks R ∧ RB w' ks R (12 * i + 4 * j)) ?_ ?_ ?_
        · exact ⟨a2, a3, a4, a5, R, rfl, B, hR⟩
        · rintro j σ H3 hj ⟨a2, a3, a4, a5, R, rfl, B, hR⟩
          have jj0 : (0 : Int) ≤ 0 + (j : Int) := by omega
          have jj1 : 0 + (j : Int) < w' := by omega
          generalize 0 + (j : Int) = wd at jj0 jj1 ⊢
          obtain ⟨vs, hk, ht⟩ := B.kin
          obtain ⟨a, v, ea, ha, em⟩ := kinds_at ht ii0 ii1
          have hu := kinds_bd hks.all em
          generalize hhu : heldAt ks s = u at ha em hu
          have hu0 : 0 ≤ u := hu.2.2.1
          have hu3 : u ≤ 3 := hu.2.2.2
          refine ⟨.ref kl, rfl, .int s, rfl, kl, vs, s, .ref a, rfl, rfl, SqL.of hk, ea, a, _, 1, .int u, rfl, rfl, SqT.of ha, atI_nat (j := 1) rfl, u, rfl, RgOk.of_le (by decide) (by omega) (by decide) hu0, fun l nl => ?_⟩
          have B1 := B.new (o := .lst (rgV 0 u)) nl
          have hl1 : (upd H3 l (.lst (rgV 0 u))) l = some (.lst (rgV 0 u)) := upd_same
          generalize upd H3 l (.lst (rgV 0 u)) = H4 at *
          refine ⟨by show 1 ≤ sizeLine; decide, fun b nb => ?_⟩
          have B2 := B1.new (o := .lst [.str "new"]) nb
          have hl2 := same_new nb (o := .lst [.str "new"]) _ _ hl1
          have hb2 : (upd H4 b (.lst [.str "new"])) b = some (.lst [.str "new"]) := upd_same
          generalize upd H4 b (.lst [.str "new"]) = H5 at *
          refine ⟨l, b, _, _, rfl, rfl, hl2, hb2, by rw [rgV_length]; exact Nat.le_of_lt (small1000 (by show (u - 0).toNat + 1 ≤ 1000; omega)), fun tl ntl => ?_⟩
          rw [testsOf_v]
          have B3 := B2.new (o := .lst ((testsOf u).map kV)) ntl
          have htl : (upd H5 tl (.lst ((testsOf u).map kV))) tl = some (.lst ((testsOf u).map kV)) := upd_same
          have ntl' := B2.pen.free ntl
          have ftl := B2.keep.free B2.pen.some' ntl
          have ntk : tl ≠ kl := fun e => by
            obtain ⟨vs, z, _⟩ := B2.kin
            rw [e] at ntl
            rw [ntl] at z
            cases z
          generalize upd H5 tl (.lst ((testsOf u).map kV)) = H6 at *
          refine ⟨tl, rfl, ⟨_, SqL.of htl⟩, ?_⟩
          refine for_list (xs := (testsOf u).map kV) (fun z σ H' => ∃ (a3 a4 a5 : Option V) (R : List PRule), σ = [some (.ref p), some (.int w'), some (.int st), some (.int h'), some (.ref kl), some (.ref rl), y, some (.int s), some (.int wd), a3, a4, a5] ∧ PB H H' p c kl rl ks R ∧ RB w' ks R (12 * i + 4 * j + z) ∧ H' tl = some (.lst ((testsOf u).map kV))) ?_ ?_ ?_ ?_
          · exact ⟨a3, a4, a5, R, rfl, B3, hR, htl⟩
          · rintro z σ H7 hz ⟨a3, a4, a5, R, rfl, B, hR, htl⟩
            exact SqL.of htl
          · rintro z x σ H7 hz ⟨a3, a4, a5, R, rfl, B, hR, htl⟩
            rw [List.getElem?_map] at hz
            obtain ⟨t, et, rfl⟩ := Option.map_eq_some_iff.mp hz
            have tok := testsOf_ok hu0 (List.mem_of_getElem? et)
            obtain ⟨vs, hk, ht⟩ := B.kin
            have lv : vs.length = ks.length := ht.msgs_len
            refine ⟨.ref p, rfl, .ref kl, rfl, kl, _, rfl, .inl (SqL.of hk), p, c, _, rfl, B.pen, by omega, by omega, fun tg H8 g0 g1 k8 hP8 => ?_⟩
            have B8 := B.draw k8 hP8
            have htl8 := k8 _ _ htl ntl'.1.symm
            obtain ⟨vs, hk, ht⟩ := B8.kin
            have g2 : tg < ks.length := by omega
            obtain ⟨a, v, ea, ha, em⟩ := kinds_at ht ii0 ii1
            rw [hhu] at ha em
            obtain ⟨a', v', ea', ha', em'⟩ := kinds_at ht g0 g2
            have hm := kinds_bd hks.all em'
            refine ⟨.ref p, rfl, .ref kl, rfl, .int s, rfl, kl, vs, s, .ref a, rfl, rfl, SqL.of hk, ea, a, _, 1, .int u, rfl, rfl, SqT.of ha, atI_nat (j := 1) rfl, kV t, rfl, .ref kl, rfl, .int tg, rfl, kl, vs, tg, .ref a', rfl, rfl, SqL.of hk, ea', a', _, 1, .int (heldAt ks tg), rfl, rfl, SqT.of ha', atI_nat (j := 1) rfl, p, c, u, heldAt ks tg, t, rfl, B8.pen, hu0, hu3, hm.2.2.1, hm.2.2.2, tok, fun v9 H9 k9 hP9 hv9 => ?_⟩
            have B9 := B8.draw k9 hP9
            have htl9 := k9 _ _ htl8 ntl'.1.symm
            rcases hv9 with rfl | ⟨sa, sk, rfl, hsa, sok⟩
            · refine ⟨.non, rfl, _, rfl, iteF ?_⟩
              exact ⟨_, _, _, R, rfl, B9, hR.le (by omega), htl9⟩
            · refine ⟨.ref sa, rfl, _, rfl, iteT ?_⟩
              refine ⟨.ref p, rfl, p, c, 5, rfl, B9.pen, by decide, by decide, fun g H10 _ _ k10 hP10 => ?_⟩
              have B10 := B9.draw k10 hP10
              have htl10 := k10 _ _ htl9 ntl'.1.symm
              have hsa10 := B9.pen.tups k10 _ _ hsa
              refine ⟨_, _, rfl, rfl, _, rfl, ite2 (fun _ => ?_) (fun _ => ?_)⟩
              · refine ⟨.int tg, rfl, .ref sa, rfl, by show 2 ≤ sizeLine; decide, fun r nr => ?_⟩
                have B11 := B10.new (o := .tup [.int tg, .ref sa]) nr
                have s11 : Same H10 (upd H10 r (.tup [.int tg, .ref sa])) := same_new nr
                have hr11 : (upd H10 r (.tup [.int tg, .ref sa])) r = some (.tup [.int tg, .ref sa]) := upd_same
                have htl11 := s11 _ _ htl10
                have hsa11 := s11 _ _ hsa10
                generalize upd H10 r (.tup [.int tg, .ref sa]) = H11 at *
                refine ⟨.ref rl, rfl, .int s, rfl, .int wd, rfl, kV t, rfl, by show 3 ≤ sizeLine; decide, fun kt nkt => ?_⟩
                have B12 := B11.new (o := .tup [.int s, .int wd, kV t]) nkt
                have s12 : Same H11 (upd H11 kt (.tup [.int s, .int wd, kV t])) := same_new nkt
                have hkt : (upd H11 kt (.tup [.int s, .int wd, kV t])) kt = some (.tup (([Sum.inl s, Sum.inl wd, t] : List Key).map kV)) := upd_same
                have htl12 := s12 _ _ htl11
                have hsa12 := s12 _ _ hsa11
                have hr12 := s12 _ _ hr11
                generalize upd H11 kt (.tup [.int s, .int wd, kV t]) = H12 at *
                obtain ⟨kvs, hrl, hkv⟩ := B12.rul
                have lkv : kvs.length = R.length := by
                  have := congrArg List.length hkv.keys
                  rw [List.length_map, rowsOf_keys, List.length_map] at this
                  exact this
                have hRl := hR.len
                have z4 : z < 4 := by
                  have := (List.getElem?_eq_some_iff.mp et).1
                  rw [testsOf_len] at this
                  omega
                have ntr : tl ≠ rl := ne_of htl12 hrl (fun z => nomatch z)
                refine ⟨rl, _, rfl, DPut.t (k := [Sum.inl s, Sum.inl wd, t]) hrl hkt (small1000 (by omega)), ?_⟩
                refine ⟨_, _, _, putP R [Sum.inl s, Sum.inl wd, t] (tg, sk), rfl, B12.rule hrl hkv (.tup hr12 (.cons (.int tg) (.cons (.tup hsa12 TDs.keys) .nil))), hR.put ⟨s, wd, t, rfl, ii0, ii1, jj0, jj1, by rw [hhu]; exact tok, g0, g2, by rw [hhu]; exact sok⟩, ?_⟩
                rw [upd_ne ntr]
                exact htl12
              · exact ⟨_, _, _, R, rfl, B10, hR.le (by omega), htl10⟩
          · rintro σ H7 ⟨a3, a4, a5, R, rfl, B, hR, htl⟩
            refine ⟨_, a3, a4, a5, R, rfl, B, hR.le ?_⟩
            rw [List.length_map, testsOf_len]
            omega
        · rintro σ H3 ⟨a2, a3, a4, a5, R, rfl, B, hR⟩
          exact ⟨_, a2, a3, a4, a5, R, rfl, B, hR.le (by omega)⟩
      · rintro σ H2 ⟨a1, a2, a3, a4, a5, R, rfl, B, hR⟩
        exact ⟨a1, a2, a3, a4, a5, R, rfl, B, hR.le (by omega)⟩
    rintro σ H2 ⟨a1, a2, a3, a4, a5, R, rfl, B, hR⟩
    refine ⟨.int w', rfl, .ref kl, rfl, .ref rl, rfl, by show 3 ≤ sizeLine; decide, fun l nl => ?_⟩
    have s3 : Same H2 (upd H2 l (.lst [.int w', .ref kl, .ref rl])) := same_new nl
    have fl := B.keep.free B.pen.some' nl
    obtain ⟨vs, hk, ht⟩ := B.kin
    obtain ⟨kvs, hr', hkv⟩ := B.rul
    exact q l kl rl ⟨w', ks, R⟩ _ rfl (B.keep.put fl) (B.pen.mono s3) fl B.fk B.fr ⟨upd_same, ⟨vs, s3 _ _ hk, ht.mono (Tups.same s3)⟩, ⟨kvs, s3 _ _ hr', hkv.mono (Tups.same s3)⟩⟩ ⟨⟨w1, w3⟩, hks, hR.ok, hR.nd, Nat.le_trans hR.len (by decide)⟩ lk
end

/-! ### rules in order -/
def lookR (R : Rows) (k : List Key) : PyData := ((R.find? fun p => decide (p.1 = k)).map (·.2)).getD .none
def rankK : List Key → List Int
  | [Sum.inl i, Sum.inl j, Sum.inl r] => [i, j, r]
  | [Sum.inl i, Sum.inl j, Sum.inr _] => [i, j, 3]
  | _ => [0, 0, 0]
theorem rankK_cons (k : List Key) : ∃ x r, rankK k = x :: r := by
  unfold rankK
  split <;> exact ⟨_, _, rfl⟩
theorem rankK_len (k : List Key) : (rankK k).length = 3 := by
  unfold rankK
  split <;> rfl
def sortR (R : Rows) : Rows := (srt rankK (R.map (·.1))).map fun k => (k, lookR R k)
theorem KvD.val {H : Hp} {kvs : List (List Key × V)} {R : Rows} {k : List Key} (h : KvD H kvs R) (hk : k ∈ R.map (·.1)) : ∃ v, valV kvs k = some v ∧ TD H v (lookR R k) := by
  induction h with
  | nil => cases hk
  | @cons a b l1 l2 ab _ ih =>
    unfold valV lookR
    by_cases e : a.1 = k
    · have e2 : b.1 = k := ab.1 ▸ e
      refine ⟨a.2, ?_, ?_⟩
      · rw [List.find?_cons_of_pos (by simpa using e)]
        rfl
      · rw [List.find?_cons_of_pos (by simpa using e2)]
        exact ab.2
    · have e2 : ¬ b.1 = k := ab.1 ▸ e
      rw [List.find?_cons_of_neg (by simpa using e), List.find?_cons_of_neg (by simpa using e2)]
      refine ih ?_
      rcases List.mem_cons.mp hk with z | z
      · exact absurd z.symm e2
      · exact z
theorem kvd_of {H : Hp} {kvs : List (List Key × V)} {R : Rows} (h : KvD H kvs R) : ∀ {ks : List (List Key)}, (∀ k ∈ ks, k ∈ R.map (·.1)) → KvD H (ks.map fun k => (k, (valV kvs k).getD .non)) (ks.map fun k => (k, lookR R k))
  | [], _ => .nil
  | k :: r, hk => by
    obtain ⟨v, e, t⟩ := h.val (hk k List.mem_cons_self)
    refine .cons ⟨rfl, ?_⟩ (kvd_of h fun x hx => hk x (List.mem_cons_of_mem _ hx))
    show TD H ((valV kvs k).getD .non) _
    rw [e]
    exact t
theorem srt_mem {rank : List Key → List Int} {ks : List (List Key)} {k : List Key} : k ∈ srt rank ks ↔ k ∈ ks := (List.mergeSort_perm ks _).mem_iff
theorem srt_nodup {rank : List Key → List Int} {ks : List (List Key)} (h : ks.Nodup) : (srt rank ks).Nodup := (List.mergeSort_perm ks _).nodup_iff.mpr h
theorem srt_len {rank : List Key → List Int} {ks : List (List Key)} : (srt rank ks).length = ks.length := (List.mergeSort_perm ks _).length_eq
theorem isKs_at {H : Hp} {ks : List (List Key)} {bs : List Addr} (h : IsKs H ks bs) : ∀ {i : Nat} {b : Addr}, bs[i]? = some b → ∃ k, ks[i]? = some k ∧ H b = some (.tup (k.map kV)) := by
  induction h with
  | nil => intro i b e; simp at e
  | cons a _ ih =>
    intro i b e
    cases i with
    | zero =>
      simp at e
      subst e
      exact ⟨_, rfl, a⟩
    | succ i =>
      obtain ⟨k, h1, h2⟩ := ih (i := i) (b := b) (by simpa using e)
      exact ⟨k, by simpa using h1, h2⟩
theorem valV_map_none {f : List Key → V} {ks : List (List Key)} {k : List Key} (h : k ∉ ks) : valV (ks.map fun k => (k, f k)) k = none := by
  unfold valV
  rw [List.find?_eq_none.mpr]
  · rfl
  · intro x hx
    obtain ⟨y, hy, rfl⟩ := List.mem_map.mp hx
    simp only [decide_eq_true_eq]
    rintro rfl
    exact h hy
/-- a watcher is asked -/
def sp_W_len (C : Addr) : Sp := fun us H Q _ => ∃ (x lv lh d : Addr) (n : Int) (vs hs : List Int) (R : Rows), us = [.ref x] ∧ WAt C H x lv lh d n vs hs R ∧ Q (.int vs.length) H
def sp_W_ver (C : Addr) : Sp := fun us H Q _ => ∃ (x lv lh d : Addr) (n : Int) (vs hs : List Int) (R : Rows), us = [.ref x] ∧ WAt C H x lv lh d n vs hs R ∧ ∀ t, H t = none → Q (.ref t) (upd H t (.tup (vs.map V.int)))
def sp_W_hel (C : Addr) : Sp := fun us H Q _ => ∃ (x lv lh d : Addr) (n : Int) (vs hs : List Int) (R : Rows), us = [.ref x] ∧ WAt C H x lv lh d n vs hs R ∧ ∀ t, H t = none → Q (.ref t) (upd H t (.tup (hs.map V.int)))
def sp_W_rules (C : Addr) : Sp := fun us H Q _ => ∃ (x lv lh d : Addr) (n : Int) (vs hs : List Int) (R : Rows), us = [.ref x] ∧ WAt C H x lv lh d n vs hs R ∧
  ∀ t H' kvs, Same H H' → H t = none → H' t = some (.dT kvs) → KvD H' kvs (sortR R) → Q (.ref t) H'

theorem kf_of {X : Cx} {f : Addr} {fd : FuncData} (F : Fun X.K "rule_order" "rule_order" s_rule_order f fd) (b : ∀ (s : Shared) (v : Value), BindsTo s fd ⟨[v], []⟩ [("rule", v)]) (pk : PartOk X.K X.mg) : KeyFn X f rankK RK := by
  refine ⟨fun s A a its k kin ns nl dp hd hk hv it => ?_, rankK_cons, fun a b => by rw [rankK_len, rankK_len]⟩
  obtain ⟨i, j, t, rfl, ht⟩ := hk
  obtain ⟨u0, us, rfl, r0, hv⟩ : ∃ u0 us, its = u0 :: us ∧ RelV (.int i) u0 ∧ Vals [.int j, kV t] us := by
    cases hv with
    | cons r rr => exact ⟨_, _, rfl, r, rr⟩
  obtain ⟨u1, u2, rfl, r1, r2⟩ := vals2 hv
  obtain ⟨t0, rfl⟩ := r0
  obtain ⟨t1, rfl⟩ := r1
  rcases ht with ⟨r, rfl⟩ | rfl
  · obtain ⟨t2, rfl⟩ := r2
    exact order_key F b pk kin ns nl dp hd it (.inl ⟨t2, rfl⟩)
  · obtain ⟨t2, rfl⟩ := r2
    exact order_key F b pk kin ns nl dp hd it (.inr ⟨⟨t2, rfl⟩, rfl⟩)

section
variable {P : Program} {w : World} {K : PySem.W.Frag} {mg : Str → Option Value} {base : Heap}
abbrev N_Watcher_len : List Str := ["self"]
theorem sc_Watcher_len : FnScope N_Watcher_len ["self"] (defScope s_Watcher_len) := ⟨rfl, rfl, rfl, by decide +kernel, rfl, by decide +kernel, by decide +kernel⟩
theorem ok_Watcher_len {f C : Addr} {fd : FuncData} {k : Nat} (F : Fun K "__len__" "Watcher.__len__" s_Watcher_len f fd) (W : WCls K C) (m_len : mg "len" = none) : FnG P w K mg base CX0 (k + 1) f fd ["self"] (sp_W_len C) := by
  refine okG F sc_Watcher_len (fun vs H Q E h => ?_) (fun cdv A outer s H vs Q E gd hr h => ?_)
  · obtain ⟨x, lv, lh, d, n, vs, hs, R, rfl, _⟩ := h
    rfl
  · obtain ⟨x, lv, lh, d, n, vs, hs, R, rfl, hW, q⟩ := h
    refine ⟨_, 
      (pss_one (ps_ret (pe_callB call_len_seq (by rfl) m_len PySem.boot_len (pa_cons (pe_fld (pv 0) rfl) pa_nil)))) -- return len(self._verdicts)
       , ?_⟩
    obtain ⟨dx, hx⟩ := hW.ins
    refine ⟨.ref x, rfl, x, C, dx, _, .ref lv, rfl, hx, W.cl, W.n2, rfl, lv, _, rfl, .inl (SqL.of hW.ver), ?_⟩
    rw [List.length_map]
    exact q
end

section
variable {P : Program} {w : World} {K : PySem.W.Frag} {mg : Str → Option Value} {base : Heap}
abbrev N_Watcher_verdicts : List Str := ["self"]
theorem sc_Watcher_verdicts : FnScope N_Watcher_verdicts ["self"] (defScope s_Watcher_verdicts) := ⟨rfl, rfl, rfl, by decide +kernel, rfl, by decide +kernel, by decide +kernel⟩
theorem ok_Watcher_verdicts {f C : Addr} {fd : FuncData} {k : Nat} (F : Fun K "verdicts" "Watcher.verdicts" s_Watcher_verdicts f fd) (W : WCls K C) (m_tuple : mg "tuple" = none) : FnG P w K mg base CX0 (k + 1) f fd ["self"] (sp_W_ver C) := by
  refine okG F sc_Watcher_verdicts (fun vs H Q E h => ?_) (fun cdv A outer s H vs Q E gd hr h => ?_)
  · obtain ⟨x, lv, lh, d, n, vs, hs, R, rfl, _⟩ := h
    rfl
  · obtain ⟨x, lv, lh, d, n, vs, hs, R, rfl, hW, q⟩ := h
    refine ⟨_, 
      (pss_one (ps_ret (pe_callTy call_tuple_of (by rfl) m_tuple (by decide +kernel) (pa_cons (pe_fld (pv 0) rfl) pa_nil)))) -- return tuple(self._verdicts)
       , ?_⟩
    obtain ⟨dx, hx⟩ := hW.ins
    exact ⟨.ref x, rfl, x, C, dx, _, .ref lv, rfl, hx, W.cl, W.n2, rfl, lv, _, rfl, .inl ⟨SqL.of hW.ver, q⟩⟩
end

section
variable {P : Program} {w : World} {K : PySem.W.Frag} {mg : Str → Option Value} {base : Heap}
abbrev N_Watcher_held_counts : List Str := ["self"]
theorem sc_Watcher_held_counts : FnScope N_Watcher_held_counts ["self"] (defScope s_Watcher_held_counts) := ⟨rfl, rfl, rfl, by decide +kernel, rfl, by decide +kernel, by decide +kernel⟩
theorem ok_Watcher_held_counts {f C : Addr} {fd : FuncData} {k : Nat} (F : Fun K "held_counts" "Watcher.held_counts" s_Watcher_held_counts f fd) (W : WCls K C) (m_tuple : mg "tuple" = none) : FnG P w K mg base CX0 (k + 1) f fd ["self"] (sp_W_hel C) := by
  refine okG F sc_Watcher_held_counts (fun vs H Q E h => ?_) (fun cdv A outer s H vs Q E gd hr h => ?_)
  · obtain ⟨x, lv, lh, d, n, vs, hs, R, rfl, _⟩ := h
    rfl
  · obtain ⟨x, lv, lh, d, n, vs, hs, R, rfl, hW, q⟩ := h
    refine ⟨_, 
      (pss_one (ps_ret (pe_callTy call_tuple_of (by rfl) m_tuple (by decide +kernel) (pa_cons (pe_fld (pv 0) rfl) pa_nil)))) -- return tuple(self._held)
       , ?_⟩
    obtain ⟨dx, hx⟩ := hW.ins
    exact ⟨.ref x, rfl, x, C, dx, _, .ref lh, rfl, hx, W.cl, W.n3, rfl, lh, _, rfl, .inl ⟨SqL.of hW.hel, q⟩⟩
end

section
variable {P : Program} {w : World} {K : PySem.W.Frag} {mg : Str → Option Value} {base : Heap}
abbrev N_Watcher_rules : List Str := ["self", "rule"]
theorem sc_Watcher_rules : FnScope N_Watcher_rules ["self"] (defScope s_Watcher_rules) := ⟨rfl, rfl, rfl, by decide +kernel, rfl, by decide +kernel, by decide +kernel⟩
theorem ok_Watcher_rules {f C f_rule_order : Addr} {fd fd_rule_order : FuncData} (F : Fun K "rules" "Watcher.rules" s_Watcher_rules f fd) (F_rule_order : Fun K "rule_order" "rule_order" s_rule_order f_rule_order fd_rule_order) (b_rule_order : ∀ (s : Shared) (v : Value), BindsTo s fd_rule_order ⟨[v], []⟩ [("rule", v)])
    (g_rule_order : mg "rule_order" = some (.ref f_rule_order)) (pk : PartOk K mg) (W : WCls K C) (m_sorted : mg "sorted" = none) : FnG P w K mg base CX0 2 f fd ["self"] (sp_W_rules C) := by
  refine okG F sc_Watcher_rules (fun vs H Q E h => ?_) (fun cdv A outer s H vs Q E gd hr h => ?_)
  · obtain ⟨x, lv, lh, d, n, vs, hs, R, rfl, _⟩ := h
    rfl
  · obtain ⟨x, lv, lh, d, n, vs, hs, R, rfl, hW, q⟩ := h
    have KF : KeyFn (cxOf CX0 P w K mg base N_Watcher_rules "Watcher.rules" (defScope s_Watcher_rules) f cdv A outer s H E).nox f_rule_order rankK RK := kf_of F_rule_order b_rule_order pk
    refine ⟨_, 
      (pss_one (ps_ret (pe_dcT (own := [("rule", 1)]) (g := gName 1) rfl sc_Watcher_rules.nd (hu_of hr) (pi_list (pe_callBK (call_sortT rfl hr KF) (by rfl) m_sorted PyProof.Rows.boot_sorted (pa_cons (pe_fld (pv 0) rfl) pa_nil) (pk_cons (pe_glob (v := .ref f_rule_order) rfl g_rule_order rfl) pk_nil))) (blkOk_by (N := N_Watcher_rules) (sc := defScope s_Watcher_rules) (by decide +kernel)) (fun _ _ _ _ _ => (pg_name (i := 1) sc_Watcher_rules.nd rfl (.inl rfl))) (fun _ _ _ _ _ => pts_nil) (fun _ _ _ _ _ => (pv 1)) (fun _ _ _ _ _ => (show PE _ _ (tDGet (tFld K (tVar 0) "_rules") (tVar 1)) from (pe_dget (hu_of hr) (pe_fld (pv 0) rfl) (pv 1) (fun _ _ => rfl))))))) -- return {rule: self._rules[rule] for rule in sorted(self._rules, key=rule_order)}
       , ?_⟩
    obtain ⟨dx, hx⟩ := hW.ins
    obtain ⟨kvs, hd, hkv⟩ := hW.rul
    have ek := hkv.keys
    refine ⟨.ref x, rfl, x, C, dx, _, .ref d, rfl, hx, W.cl, W.n4, rfl, d, kvs, rfl, rfl, hd, by rw [ek]; exact hW.rk, fun p bs np isk => ?_⟩
    rw [ek] at isk
    refine ⟨p, rfl, ⟨_, SqL.of upd_same⟩, fun D nD => ?_⟩
    have sp_ : Same H (upd H p (.lst (bs.map V.ref))) := same_new np
    have hp0 : upd H p (.lst (bs.map V.ref)) p = some (.lst (bs.map V.ref)) := upd_same
    have nDH := sp_.free nD
    generalize upd H p (.lst (bs.map V.ref)) = H0 at sp_ hp0 nD
    have nds := srt_nodup (rank := rankK) hW.nd
    have lk : (srt rankK (R.map (·.1))).length ≤ 1000 := by rw [srt_len, List.length_map]; exact hW.len.2.2
    refine dcT_list (K := K) (a := p) (xs := bs.map V.ref) (fun i H' => Same H0 H' ∧ H' D = some (.dT (((srt rankK (R.map (·.1))).take i).map fun k => (k, (valV kvs k).getD .non)))) ?_ ?_ ?_ ?_
    · exact ⟨same_new nD, upd_same⟩
    · rintro i H' ⟨sm, hD⟩
      exact SqL.of (sm _ _ hp0)
    · rintro i y H' hi ⟨sm, hD⟩
      rw [List.getElem?_map] at hi
      obtain ⟨b, hb, rfl⟩ := Option.map_eq_some_iff.mp hi
      obtain ⟨k, ek2, hbk⟩ := isKs_at isk hb
      have hkR : k ∈ R.map (·.1) := srt_mem.mp (List.mem_of_getElem? ek2)
      obtain ⟨v, ev, tv⟩ := hkv.val hkR
      have hb' := sm _ _ (sp_ _ _ hbk)
      refine ⟨rfl, .ref b, rfl, .ref x, rfl, x, C, dx, _, .ref d, rfl, sm _ _ (sp_ _ _ hx), W.cl, W.n4, rfl, .ref b, rfl, d, v, rfl, ?_, ?_⟩
      · have g := DGet.t (k := k) (sm _ _ (sp_ _ _ hd)) hb'
        rw [ev] at g
        exact g
      · have kn : k ∉ (srt rankK (R.map (·.1))).take i := by
          intro z
          obtain ⟨j, hj, e⟩ := List.getElem_of_mem z
          rw [List.length_take] at hj
          rw [List.getElem_take] at e
          have hii := (List.getElem?_eq_some_iff.mp ek2).1
          have e2 := (List.getElem?_eq_some_iff.mp ek2).2
          exact absurd (e.trans e2.symm) (List.pairwise_iff_getElem.mp nds j i (by omega) hii (by omega))
        refine ⟨_, k, b, rfl, hb', hD, by rw [List.length_map, List.length_take]; exact small1000 (by omega), fun c o e => ?_, ?_⟩
        · have : c ≠ D := ne_of_none e nD
          rw [upd_ne this]
          exact sm _ _ e
        · rw [upd_same, putK_new _ (valV_map_none kn), List.take_add_one, ek2, List.map_append]
          show some (HO.dT (_ ++ [(k, v)])) = some (HO.dT (_ ++ [(k, (valV kvs k).getD .non)]))
          rw [ev]
          rfl
    · rintro H' ⟨sm, hD⟩
      have lb : (bs.map V.ref).length = (srt rankK (R.map (·.1))).length := by rw [List.length_map]; exact (Paired.length isk).symm
      rw [lb, List.take_length] at hD
      refine q D H' _ (fun b o e => sm _ _ (sp_ _ _ e)) nDH hD ?_
      exact kvd_of (KvD.mono (Tups.same fun b o e => sm _ _ (sp_ _ _ e)) hkv) fun k hk => srt_mem.mp hk
end

/-! ### the parts of rules; states are added -/
theorem passNo {X : Cx} : Passes (L2.CX X.prog X.w) X fun _ _ _ => False := L2.passes_call (W := fun _ _ _ _ => False) L2.takes_none5 (fun _ _ _ _ h => h)
def sp_require_verdict (C : Addr) : Sp := fun us H Q E => ∃ (p : Addr) (v : V) (d : PyData), us = [v] ∧ LD p H v d ∧ (btw d 0 3 = true → Q .non H) ∧ (btw d 0 3 = false → ∀ e, H e = none → E (.ref C) (some e) (upd H e (.xd [(("verdict" : Str), v)])))
def sp_require_state (C CU : Addr) : Sp := fun us H Q E => ∃ (x lv lh d : Addr) (n : Int) (vs hs : List Int) (R : Rows) (p : Addr) (v : V) (dd : PyData), us = [.ref x, v] ∧ WAt C H x lv lh d n vs hs R ∧ LD p H v dd ∧
  (btw dd 0 ((vs.length : Int) - 1) = true → Q .non H) ∧ (btw dd 0 ((vs.length : Int) - 1) = false → ∀ e, H e = none → E (.ref CU) (some e) (upd H e (.xd [(("state" : Str), v)])))
def isTest (d : PyData) (h : Int) : Bool := isStrD d "new" || btw d 0 (h - 1)
def sp_is_test : Sp := fun us H Q _ => ∃ (p : Addr) (v : V) (d : PyData) (h : Int), us = [v, .int h] ∧ LD p H v d ∧ isDctD d = false ∧ Q (.bl (isTest d h)) H
def sp_no_sources : Sp := fun us H Q _ => ∃ (a : Addr) (wn h : Int) (t : V), us = [.ref a, .int wn, .int h, t] ∧ H a = some (.tup []) ∧ Q (.bl (decide (wn = 0))) H
def sp_add_state (C CV CL : Addr) : Sp := fun us H Q E => ∃ (x lv lh d : Addr) (n : Int) (vs hs : List Int) (R : Rows) (p : Addr) (v1 v2 : V) (d1 d2 : PyData), us = [.ref x, v1, v2] ∧ WAt C H x lv lh d n vs hs R ∧ LD p H v1 d1 ∧ LD p H v2 d2 ∧
  (btw d1 0 3 = false → ∀ e, H e = none → E (.ref CV) (some e) (upd H e (.xd [(("verdict" : Str), v1)]))) ∧
  (btw d1 0 3 = true → btw d2 0 3 = false → ∀ e, H e = none → E (.ref CL) (some e) (upd H e (.xd [(("limit" : Str), .int 3)]))) ∧
  (btw d1 0 3 = true → btw d2 0 3 = true → vs.length = 6 → ∀ e, H e = none → E (.ref CL) (some e) (upd H e (.xd [(("limit" : Str), .int 6)]))) ∧
  (∀ a b, d1 = .int a → d2 = .int b → btw d1 0 3 = true → btw d2 0 3 = true → vs.length < 6 → ∀ H', (∀ c o, H c = some o → c ≠ lv → c ≠ lh → H' c = some o) → WAt C H' x lv lh d n (vs ++ [a]) (hs ++ [b]) R → Q (.int vs.length) H')

section
variable {P : Program} {w : World} {K : PySem.W.Frag} {mg : Str → Option Value} {base : Heap}
abbrev N_require_verdict : List Str := ["verdict"]
theorem sc_require_verdict : FnScope N_require_verdict ["verdict"] (defScope s_require_verdict) := ⟨rfl, rfl, rfl, by decide +kernel, rfl, by decide +kernel, by decide +kernel⟩
theorem ok_require_verdict {f f_is_between C iC : Addr} {fd fd_is_between : FuncData} {t3 : Tok} (F : Fun K "require_verdict" "require_verdict" s_require_verdict f fd) (F_is_between : Fun K "is_between" "is_between" s_is_between f_is_between fd_is_between) (b_is_between : Binds K fd_is_between ["value", "low", "high"] [])
    (g_is_between : mg "is_between" = some (.ref f_is_between)) (G_is_between : FnG P w K mg base CX0 2 f_is_between fd_is_between ["value", "low", "high"] sp_is_between) (T_NotAVerdict : L2.ErrOk OwnE.bVE "NotAVerdict" "verdict" "NotAVerdict.__init__" K mg C iC) (g_MOST_VERDICT : mg "MOST_VERDICT" = some (.int 3 t3)) :
    FnG P w K mg base (L2.CX P w) 3 f fd ["verdict"] (sp_require_verdict C) := by
  refine okGX F sc_require_verdict (fun vs H Q E h => ?_) (fun cdv A outer s H vs Q E gd hr h => ?_)
  · obtain ⟨p, v, d, rfl, _⟩ := h
    rfl
  · obtain ⟨p, v, d, rfl, hv, q1, q2⟩ := h
    have hr1 : Room 1 _ := hr.mono (by decide)
    refine ⟨_, 
      (pss_one (ps_if (pt_not (pt_val (pe_callG G_is_between gd (hr.mono (by decide)) rfl g_is_between F_is_between.kp b_is_between .nil pass0 (pa_cons (pv 0) (pa_cons pe_int (pa_cons (pe_glob (v := .int 3) rfl g_MOST_VERDICT ⟨_, rfl⟩) pa_nil)))))) 
        (pss_one (L2.ps_raiseE (W := fun cls d _ H => E cls d H) rfl T_NotAVerdict hr1 (takes_of rfl rfl rfl rfl) (by exact (pa_cons (pv 0) pa_nil)))) -- raise NotAVerdict(verdict)
         pss_nil)) -- if not is_between(verdict, 0, MOST_VERDICT):
       , ?_⟩
    refine ⟨v, rfl, p, v, d, 0, 3, rfl, hv, _, rfl, ?_⟩
    cases hb : btw d 0 3 with
    | false => exact ⟨v, rfl, v, rfl, fun e he => q2 hb e he⟩
    | true => exact q1 hb
end

section
variable {P : Program} {w : World} {K : PySem.W.Frag} {mg : Str → Option Value} {base : Heap}
abbrev N_Watcher_require_state : List Str := ["self", "state"]
theorem sc_Watcher_require_state : FnScope N_Watcher_require_state ["self", "state"] (defScope s_Watcher_require_state) := ⟨rfl, rfl, rfl, by decide +kernel, rfl, by decide +kernel, by decide +kernel⟩
theorem ok_require_state {f f_is_between C CU iU : Addr} {fd fd_is_between : FuncData} (F : Fun K "require_state" "Watcher.require_state" s_Watcher_require_state f fd) (F_is_between : Fun K "is_between" "is_between" s_is_between f_is_between fd_is_between) (b_is_between : Binds K fd_is_between ["value", "low", "high"] [])
    (g_is_between : mg "is_between" = some (.ref f_is_between)) (G_is_between : FnG P w K mg base CX0 2 f_is_between fd_is_between ["value", "low", "high"] sp_is_between) (T_UnknownState : L2.ErrOk OwnE.bLE "UnknownState" "state" "UnknownState.__init__" K mg CU iU) (W : WCls K C) (m_len : mg "len" = none) :
    FnG P w K mg base (L2.CX P w) 3 f fd ["self", "state"] (sp_require_state C CU) := by
  refine okGX F sc_Watcher_require_state (fun vs H Q E h => ?_) (fun cdv A outer s H vs Q E gd hr h => ?_)
  · obtain ⟨x, lv, lh, d, n, vs, hs, R, p, v, dd, rfl, _⟩ := h
    rfl
  · obtain ⟨x, lv, lh, d, n, vs, hs, R, p, v, dd, rfl, hW, hv, q1, q2⟩ := h
    have hr1 : Room 1 _ := hr.mono (by decide)
    refine ⟨_, 
      (pss_one (ps_if (pt_not (pt_val (pe_callG G_is_between gd (hr.mono (by decide)) rfl g_is_between F_is_between.kp b_is_between .nil pass0 (pa_cons (pv 1) (pa_cons pe_int (pa_cons (pe_op op_sub (pe_callB call_len_seq (by rfl) m_len PySem.boot_len (pa_cons (pe_fld (pv 0) rfl) pa_nil)) pe_int) pa_nil)))))) 
        (pss_one (L2.ps_raiseE (W := fun cls d _ H => E cls d H) rfl T_UnknownState hr1 (takes_of rfl rfl rfl rfl) (by exact (pa_cons (pv 1) pa_nil)))) -- raise UnknownState(state)
         pss_nil)) -- if not is_between(state, 0, len(self._verdicts) - 1):
       , ?_⟩
    obtain ⟨dx, hx⟩ := hW.ins
    refine ⟨v, rfl, .ref x, rfl, x, C, dx, _, .ref lv, rfl, hx, W.cl, W.n2, rfl, lv, _, rfl, .inl (SqL.of hW.ver), _, 1, rfl, rfl, p, v, dd, 0, _, rfl, hv, _, rfl, ?_⟩
    rw [List.length_map]
    cases hb : btw dd 0 ((vs.length : Int) - 1) with
    | false => exact ⟨v, rfl, v, rfl, fun e he => q2 hb e he⟩
    | true => exact q1 hb
end

section
variable {P : Program} {w : World} {K : PySem.W.Frag} {mg : Str → Option Value} {base : Heap}
abbrev N_is_test : List Str := ["test", "held"]
theorem sc_is_test : FnScope N_is_test ["test", "held"] (defScope s_is_test) := ⟨rfl, rfl, rfl, by decide +kernel, rfl, by decide +kernel, by decide +kernel⟩
theorem ok_is_test {f f_is_between : Addr} {fd fd_is_between : FuncData} {tN : Tok} (F : Fun K "is_test" "is_test" s_is_test f fd) (F_is_between : Fun K "is_between" "is_between" s_is_between f_is_between fd_is_between) (b_is_between : Binds K fd_is_between ["value", "low", "high"] [])
    (g_is_between : mg "is_between" = some (.ref f_is_between)) (G_is_between : FnG P w K mg base CX0 2 f_is_between fd_is_between ["value", "low", "high"] sp_is_between) (g_NEW : mg "NEW" = some (.str "new" tN)) : FnG P w K mg base CX0 3 f fd ["test", "held"] sp_is_test := by
  refine okG F sc_is_test (fun vs H Q E h => ?_) (fun cdv A outer s H vs Q E gd hr h => ?_)
  · obtain ⟨p, v, d, h', rfl, _⟩ := h
    rfl
  · obtain ⟨p, v, d, h', rfl, hv, nd, q⟩ := h
    refine ⟨_, 
      (pss_one (ps_ret (pe_or (pe_cmpR (op_eqS hr.units) (pv 0) (pe_glob (v := .str "new") rfl g_NEW ⟨_, rfl⟩) (nomark _)) (pe_one (pe_callG G_is_between gd (hr.mono (by decide)) rfl g_is_between F_is_between.kp b_is_between .nil pass0 (pa_cons (pv 0) (pa_cons pe_int (pa_cons (pe_op op_sub (pv 1) pe_int) pa_nil)))))))) -- return test == NEW or is_between(test, 0, held - 1)
       , ?_⟩
    refine ⟨v, rfl, p, d, "new", hv, nd, rfl, _, rfl, ?_⟩
    unfold isTest at q
    cases hb : isStrD d "new" with
    | true =>
      rw [hb] at q
      exact q
    | false =>
      rw [hb] at q
      exact ⟨v, rfl, .int h', rfl, h', 1, rfl, rfl, p, v, d, 0, h' - 1, rfl, hv, q⟩
end

section
variable {P : Program} {w : World} {K : PySem.W.Frag} {mg : Str → Option Value} {base : Heap}
abbrev N_Watcher_add_state : List Str := ["self", "verdict", "held"]
theorem sc_Watcher_add_state : FnScope N_Watcher_add_state ["self", "verdict", "held"] (defScope s_Watcher_add_state) := ⟨rfl, rfl, rfl, by decide +kernel, rfl, by decide +kernel, by decide +kernel⟩
theorem ok_Watcher_add_state {f f_is_between f_require_verdict C CV CL iL : Addr} {fd fd_is_between fd_require_verdict : FuncData} {t3 t6 : Tok} (F : Fun K "add_state" "Watcher.add_state" s_Watcher_add_state f fd) (F_is_between : Fun K "is_between" "is_between" s_is_between f_is_between fd_is_between) (b_is_between : Binds K fd_is_between ["value", "low", "high"] [])
    (g_is_between : mg "is_between" = some (.ref f_is_between)) (G_is_between : FnG P w K mg base CX0 2 f_is_between fd_is_between ["value", "low", "high"] sp_is_between) (F_require_verdict : Fun K "require_verdict" "require_verdict" s_require_verdict f_require_verdict fd_require_verdict) (b_require_verdict : Binds K fd_require_verdict ["verdict"] [])
    (g_require_verdict : mg "require_verdict" = some (.ref f_require_verdict)) (G_require_verdict : FnG P w K mg base (L2.CX P w) 3 f_require_verdict fd_require_verdict ["verdict"] (sp_require_verdict CV)) (T_LimitExceeded : L2.ErrOk OwnE.bOE "LimitExceeded" "limit" "LimitExceeded.__init__" K mg CL iL)
    (g_MOST_HELD : mg "MOST_HELD" = some (.int 3 t3)) (g_MOST_STATES : mg "MOST_STATES" = some (.int 6 t6)) (W : WCls K C) (m_len : mg "len" = none) : FnG P w K mg base (L2.CX P w) 4 f fd ["self", "verdict", "held"] (sp_add_state C CV CL) := by
  refine okGX F sc_Watcher_add_state (fun vs H Q E h => ?_) (fun cdv A outer s H vs Q E gd hr h => ?_)
  · obtain ⟨x, lv, lh, d, n, vs, hs, R, p, v1, v2, d1, d2, rfl, _⟩ := h
    rfl
  · obtain ⟨x, lv, lh, d, n, vs, hs, R, p, v1, v2, d1, d2, rfl, hW, h1, h2, q1, q2, q3, q4⟩ := h
    have hr1 : Room 1 _ := hr.mono (by decide)
    refine ⟨_, 
      (pss_cons (ps_expr (pe_callG G_require_verdict gd (hr.mono (by decide)) rfl g_require_verdict F_require_verdict.kp b_require_verdict .nil (L2.passes_call (W := fun cls d _ H => E cls d H) (takes_of rfl rfl rfl rfl) (fun _ _ _ _ h => h)) (pa_cons (pv 1) pa_nil))) -- require_verdict(verdict)
      (pss_cons (ps_if (pt_not (pt_val (pe_callG G_is_between gd (hr.mono (by decide)) rfl g_is_between F_is_between.kp b_is_between .nil pass0 (pa_cons (pv 2) (pa_cons pe_int (pa_cons (pe_glob (v := .int 3) rfl g_MOST_HELD ⟨_, rfl⟩) pa_nil)))))) 
        (pss_one (L2.ps_raiseE (W := fun cls d _ H => E cls d H) rfl T_LimitExceeded hr1 (takes_of rfl rfl rfl rfl) (by exact (pa_cons (pe_glob (v := .int 3) rfl g_MOST_HELD ⟨_, rfl⟩) pa_nil)))) -- raise LimitExceeded(MOST_HELD)
         pss_nil) -- if not is_between(held, 0, MOST_HELD):
      (pss_cons (ps_if (pt_cmpR op_eq (pe_callB call_len_seq (by rfl) m_len PySem.boot_len (pa_cons (pe_fld (pv 0) rfl) pa_nil)) (pe_glob (v := .int 6) rfl g_MOST_STATES ⟨_, rfl⟩) (nomark _)) 
        (pss_one (L2.ps_raiseE (W := fun cls d _ H => E cls d H) rfl T_LimitExceeded hr1 (takes_of rfl rfl rfl rfl) (by exact (pa_cons (pe_glob (v := .int 6) rfl g_MOST_STATES ⟨_, rfl⟩) pa_nil)))) -- raise LimitExceeded(MOST_STATES)
         pss_nil) -- if len(self._verdicts) == MOST_STATES:
      (pss_cons (ps_expr (pe_bm PySem.F.plainAttrs_list PySem.F.slot_list_append PySem.F.type_list_append mt_append (pe_fld (pv 0) rfl) (pa_cons (pv 1) pa_nil))) -- self._verdicts.append(verdict)
      (pss_cons (ps_expr (pe_bm PySem.F.plainAttrs_list PySem.F.slot_list_append PySem.F.type_list_append mt_append (pe_fld (pv 0) rfl) (pa_cons (pv 2) pa_nil))) -- self._held.append(held)
      (pss_one (ps_ret (pe_op op_sub (pe_callB call_len_seq (by rfl) m_len PySem.boot_len (pa_cons (pe_fld (pv 0) rfl) pa_nil)) pe_int))) -- return len(self._verdicts) - 1
      ))))) , ?_⟩
    obtain ⟨dx, hx⟩ := hW.ins
    have hv := hW.ver
    have hh := hW.hel
    have ne := hW.ne
    have ll := hW.len
    refine ⟨v1, rfl, p, v1, d1, rfl, h1, fun o1 => ?_, q1⟩
    refine ⟨v2, rfl, p, v2, d2, 0, 3, rfl, h2, _, rfl, ?_⟩
    cases hb : btw d2 0 3 with
    | false => exact ⟨.int 3, rfl, fun e he => q2 o1 hb e he⟩
    | true =>
      refine ⟨.ref x, rfl, x, C, dx, _, .ref lv, rfl, hx, W.cl, W.n2, rfl, lv, _, rfl, .inl (SqL.of hv), rfl, _, rfl, ?_⟩
      rw [List.length_map]
      by_cases h6 : vs.length = 6
      · rw [h6]
        exact ⟨.int 6, rfl, fun e he => q3 o1 hb h6 e he⟩
      · have h6' : ¬ (V.int ((vs.length : Nat) : Int)) = V.int 6 := fun z => h6 (by have := V.int.inj z; omega)
        rw [decide_eq_false h6']
        obtain ⟨a, rfl, _⟩ := btw_int o1
        obtain ⟨b, rfl, _⟩ := btw_int hb
        cases h1
        cases h2
        have xv : x ≠ lv := ne_of hx hv (fun z => nomatch z)
        have xh : x ≠ lh := ne_of hx hh (fun z => nomatch z)
        refine ⟨.ref x, rfl, x, C, dx, _, .ref lv, rfl, hx, W.cl, W.n2, rfl, .inl ⟨rfl, _, SqL.of hv⟩, .int a, rfl, lv, _, .int a, rfl, rfl, hv, by rw [List.length_map]; exact small1000 (by omega), ?_⟩
        have hx1 : upd H lv (.lst (vs.map V.int ++ [V.int a])) x = some (.ins C dx (wf n lv lh d)) := by rw [upd_ne xv]; exact hx
        have hh1 : upd H lv (.lst (vs.map V.int ++ [V.int a])) lh = some (.lst (hs.map V.int)) := by rw [upd_ne ne.symm]; exact hh
        refine ⟨.ref x, rfl, x, C, dx, _, .ref lh, rfl, hx1, W.cl, W.n3, rfl, .inl ⟨rfl, _, SqL.of hh1⟩, .int b, rfl, lh, _, .int b, rfl, rfl, hh1, by rw [List.length_map]; exact small1000 (by omega), ?_⟩
        have hx2 : upd (upd H lv (.lst (vs.map V.int ++ [V.int a]))) lh (.lst (hs.map V.int ++ [V.int b])) x = some (.ins C dx (wf n lv lh d)) := by rw [upd_ne xh]; exact hx1
        have hv2 : upd (upd H lv (.lst (vs.map V.int ++ [V.int a]))) lh (.lst (hs.map V.int ++ [V.int b])) lv = some (.lst (vs.map V.int ++ [V.int a])) := by rw [upd_ne ne]; exact upd_same
        refine ⟨.ref x, rfl, x, C, dx, _, .ref lv, rfl, hx2, W.cl, W.n2, rfl, lv, _, rfl, .inl (SqL.of hv2), _, 1, rfl, rfl, ?_⟩
        have el : (((vs.map V.int ++ [V.int a]).length : Nat) : Int) - 1 = (vs.length : Int) := by
          rw [List.length_append, List.length_map]
          show ((vs.length + 1 : Nat) : Int) - 1 = _
          omega
        dsimp only
        rw [el]
        obtain ⟨kvs, hd, hkv⟩ := hW.rul
        have dv : d ≠ lv := ne_of hd hv (fun z => nomatch z)
        have dh : d ≠ lh := ne_of hd hh (fun z => nomatch z)
        have tp : Tups H (upd (upd H lv (.lst (vs.map V.int ++ [V.int a]))) lh (.lst (hs.map V.int ++ [V.int b]))) := (Tups.lst hv).trans (Tups.lst hh1)
        refine q4 a b rfl rfl o1 hb (by omega) _ (fun c o e n1 n2 => ?_) { ins := ⟨dx, hx2⟩, ver := ?_, hel := ?_, rul := ⟨kvs, ?_, hkv.mono tp⟩, ne := ne, rk := hW.rk, nd := hW.nd, len := ⟨by rw [List.length_append, List.length_append, ll.1]; rfl, by rw [List.length_append]; show vs.length + 1 ≤ 6; omega, ll.2.2⟩ }
        · rw [upd_ne n2, upd_ne n1]
          exact e
        · rw [hv2, List.map_append]
          rfl
        · rw [upd_same, List.map_append]
          rfl
        · rw [upd_ne dh, upd_ne dv]
          exact hd
end

/-! ### sources, words, rules -/
theorem Tx.W {K : PySem.W.Frag} {mg : Str → Option Value} (T : Tx K mg) : WCls K T.Watcher.C := ⟨T.Watcher.cl, T.nf_Watcherwords, T.nf_Watcher_verdicts, T.nf_Watcher_held, T.nf_Watcher_rules⟩
theorem ldK {p : Addr} {H : Hp} : ∀ t : Key, LD p H (kV t) (kD t)
  | .inl n => .int n
  | .inr s => .str s
theorem kD_nd : ∀ t : Key, isDctD (kD t) = false
  | .inl _ => rfl
  | .inr _ => rfl
def isSrc (d : PyData) (h : Int) (t : Key) : Bool := if isStrD d "value" = true then isStrD (kD t) "new" else btw d 0 (h - 1)
/-- the data are sources of a rule -/
structure AreSrc (d : PyData) (wn h : Int) (t : Key) (ks : List Key) : Prop where
  d : d = .tuple (ks.map kD)
  len : (ks.length : Int) = wn
  all : ∀ k ∈ ks, isSrc (kD k) h t = true
  nd : ks.Nodup
def SmallT : PyData → Prop
  | .tuple ds => ds.length ≤ 50
  | _ => True
theorem isSrc_key {p : Addr} {H : Hp} {v : V} {d : PyData} {h : Int} {t : Key} (hv : LD p H v d) (hs : isSrc d h t = true) : ∃ k : Key, d = kD k ∧ v = kV k := by
  unfold isSrc at hs
  cases hv with
  | int i => exact ⟨.inl i, rfl, rfl⟩
  | str x => exact ⟨.inr x, rfl, rfl⟩
  | _ => cases hs
theorem srcs_of {p : Addr} {H : Hp} {h : Int} {t : Key} : ∀ {xs : List V} {ds : List PyData}, LDs p H xs ds → (∀ e ∈ ds, isSrc e h t = true) → ∃ ks : List Key, ds = ks.map kD ∧ xs = ks.map kV
  | _, _, .nil, _ => ⟨[], rfl, rfl⟩
  | _, _, .cons a r, hs => by
    obtain ⟨k, rfl, rfl⟩ := isSrc_key a (hs _ List.mem_cons_self)
    obtain ⟨ks, rfl, rfl⟩ := srcs_of r fun e he => hs e (List.mem_cons_of_mem _ he)
    exact ⟨k :: ks, rfl, rfl⟩
theorem kD_inj {a b : Key} (h : kD a = kD b) : a = b := by
  cases a <;> cases b <;> simp_all [kD]
theorem map_kD_inj : ∀ {a b : List Key}, a.map kD = b.map kD → a = b
  | [], [], _ => rfl
  | [], _ :: _, h => by cases h
  | _ :: _, [], h => by cases h
  | x :: a, y :: b, h => by
    simp only [List.map_cons, List.cons.injEq] at h
    rw [kD_inj h.1, map_kD_inj h.2]
def sp_is_source : Sp := fun us H Q _ => ∃ (p : Addr) (v : V) (d : PyData) (h : Int) (t : Key), us = [v, .int h, kV t] ∧ LD p H v d ∧ Q (.bl (isSrc d h t)) H
def sp_are_sources : Sp := fun us H Q _ => ∃ (p : Addr) (v : V) (d : PyData) (wn h : Int) (t : Key), us = [v, .int wn, .int h, kV t] ∧ LD p H v d ∧ SmallT d ∧ ((∃ ks, AreSrc d wn h t ks) → Q (.bl true) H) ∧ ((¬ ∃ ks, AreSrc d wn h t ks) → Q (.bl false) H)
def sp_require_word (C CW : Addr) : Sp := fun us H Q E => ∃ (x lv lh d : Addr) (n : Int) (vs hs : List Int) (R : Rows) (p : Addr) (v : V) (dd : PyData), us = [.ref x, v] ∧ WAt C H x lv lh d n vs hs R ∧ LD p H v dd ∧
  (btw dd 0 (n - 1) = true → Q .non H) ∧ (btw dd 0 (n - 1) = false → ∀ e, H e = none → E (.ref CW) (some e) (upd H e (.xd [(("word" : Str), v)])))
def sp_set_verdict (C CU CV : Addr) : Sp := fun us H Q E => ∃ (x lv lh d : Addr) (n : Int) (vs hs : List Int) (R : Rows) (p : Addr) (v1 v2 : V) (d1 d2 : PyData), us = [.ref x, v1, v2] ∧ WAt C H x lv lh d n vs hs R ∧ LD p H v1 d1 ∧ LD p H v2 d2 ∧
  (btw d1 0 ((vs.length : Int) - 1) = false → ∀ e, H e = none → E (.ref CU) (some e) (upd H e (.xd [(("state" : Str), v1)]))) ∧
  (btw d1 0 ((vs.length : Int) - 1) = true → btw d2 0 3 = false → ∀ e, H e = none → E (.ref CV) (some e) (upd H e (.xd [(("verdict" : Str), v2)]))) ∧
  (∀ s v : Int, d1 = .int s → d2 = .int v → 0 ≤ s → s < vs.length → 0 ≤ v → v ≤ 3 → ∀ H', (∀ c o, H c = some o → c ≠ lv → H' c = some o) → WAt C H' x lv lh d n (vs.set s.toNat v) hs R → Q .non H')
def sp_rule_for (C : Addr) : Sp := fun us H Q _ => ∃ (x lv lh d : Addr) (n : Int) (vs hs : List Int) (R : Rows) (s w : Int) (t : Key), us = [.ref x, .int s, .int w, kV t] ∧ WAt C H x lv lh d n vs hs R ∧
  ([Sum.inl s, Sum.inl w, t] ∉ R.map (·.1) → ∀ H', Same H H' → Q .non H') ∧ ([Sum.inl s, Sum.inl w, t] ∈ R.map (·.1) → ∀ v H', Same H H' → TD H' v (lookR R [Sum.inl s, Sum.inl w, t]) → Q v H')
def hAt (hs : List Int) (i : Int) : Int := (hs[i.toNat]?).getD 0
structure ErrA where
  (U W T S R : Addr)
def sp_add_rule (C : Addr) (X : ErrA) : Sp := fun us H Q E => ∃ (x lv lh d : Addr) (n : Int) (vs hs : List Int) (R : Rows) (p : Addr) (v1 v2 v3 v4 v5 : V) (d1 d2 d3 d4 d5 : PyData), us = [.ref x, v1, v2, v3, v4, v5] ∧
  WAt C H x lv lh d n vs hs R ∧ LD p H v1 d1 ∧ LD p H v2 d2 ∧ LD p H v3 d3 ∧ LD p H v4 d4 ∧ LD p H v5 d5 ∧ isDctD d3 = false ∧ SmallT d5 ∧ R.length < 1000 ∧
  (btw d1 0 ((vs.length : Int) - 1) = false → ∀ e, H e = none → E (.ref X.U) (some e) (upd H e (.xd [(("state" : Str), v1)]))) ∧
  (btw d1 0 ((vs.length : Int) - 1) = true → btw d4 0 ((vs.length : Int) - 1) = false → ∀ e, H e = none → E (.ref X.U) (some e) (upd H e (.xd [(("state" : Str), v4)]))) ∧
  (btw d1 0 ((vs.length : Int) - 1) = true → btw d4 0 ((vs.length : Int) - 1) = true → btw d2 0 (n - 1) = false → ∀ e, H e = none → E (.ref X.W) (some e) (upd H e (.xd [(("word" : Str), v2)]))) ∧
  ∀ s tg w : Int, d1 = .int s → d4 = .int tg → d2 = .int w → 0 ≤ s → s < vs.length → 0 ≤ tg → tg < vs.length → 0 ≤ w → w < n →
    (isTest d3 (hAt hs s) = false → ∀ e, H e = none → E (.ref X.T) (some e) (upd H e (.xd [(("test" : Str), v3)]))) ∧
    ∀ t : Key, v3 = kV t → d3 = kD t → isTest (kD t) (hAt hs s) = true →
      ((¬ ∃ ks, AreSrc d5 (hAt hs tg) (hAt hs s) t ks) → ∀ e, H e = none → E (.ref X.S) (some e) (upd H e (.xd [(("sources" : Str), v5)]))) ∧
      ∀ ks, AreSrc d5 (hAt hs tg) (hAt hs s) t ks →
        ([Sum.inl s, Sum.inl w, t] ∈ R.map (·.1) → ∀ T, H T = none → ∀ e, upd H T (.tup [.int s, .int w, v3]) e = none → E (.ref X.R) (some e) (upd (upd H T (.tup [.int s, .int w, v3])) e (.xd [(("rule" : Str), .ref T)]))) ∧
        ([Sum.inl s, Sum.inl w, t] ∉ R.map (·.1) → ∀ H', (∀ c o, H c = some o → c ≠ d → H' c = some o) → WAt C H' x lv lh d n vs hs (R ++ [([Sum.inl s, Sum.inl w, t], ruleD (tg, ks))]) → Q .non H')
theorem test_key' {p : Addr} {H : Hp} {v : V} {d : PyData} {h : Int} (hv : LD p H v d) (ht : isTest d h = true) : ∃ t : Key, v = kV t ∧ d = kD t ∧ ((∃ r, t = Sum.inl r) ∨ t = Sum.inr ("new" : Str)) := by
  cases hv with
  | int i => exact ⟨Sum.inl i, rfl, rfl, .inl ⟨i, rfl⟩⟩
  | str x =>
    have e : (x == ("new" : Str)) = true := by
      have z : ((x == ("new" : Str)) || false) = true := ht
      rwa [Bool.or_false] at z
    exact ⟨Sum.inr x, rfl, rfl, .inr (by rw [beq_iff_eq.mp e])⟩
  | _ => cases ht
theorem hs_at {hs : List Int} {i : Int} (h0 : 0 ≤ i) (h1 : i < hs.length) : atI (hs.map V.int) i = some (.int (hAt hs i)) := by
  obtain ⟨j, rfl⟩ : ∃ j : Nat, i = j := ⟨i.toNat, by omega⟩
  have hj : j < hs.length := by omega
  refine atI_nat ?_
  unfold hAt
  rw [Int.toNat_natCast, List.getElem?_map, List.getElem?_eq_getElem hj]
  rfl
theorem btw_true {n lo hi : Int} (h0 : lo ≤ n) (h1 : n ≤ hi) : btw (.int n) lo hi = true := by
  show (decide (lo ≤ n) && decide (n ≤ hi)) = true
  rw [decide_eq_true h0, decide_eq_true h1]
  rfl
section
variable {P : Program} {w : World} {K : PySem.W.Frag} {mg : Str → Option Value} {base : Heap}
theorem G_is_between (T : Tx K mg) : FnG P w K mg base CX0 2 T.is_between.f T.is_between.fd ["value", "low", "high"] sp_is_between := ok_is_between T.is_between.F T.is_integer.F T.is_integer.b T.is_integer.g T.m_isinstance T.m_int T.m_bool
theorem G_require_verdict (T : Tx K mg) : FnG P w K mg base (L2.CX P w) 3 T.require_verdict.f T.require_verdict.fd ["verdict"] (sp_require_verdict T.NotAVerdict.C) := ok_require_verdict T.require_verdict.F T.is_between.F T.is_between.b T.is_between.g (G_is_between T) T.NotAVerdict.e T.g_MOST_VERDICT
theorem G_Watcher_require_state (T : Tx K mg) : FnG P w K mg base (L2.CX P w) 3 T.Watcher_require_state.f T.Watcher_require_state.fd ["self", "state"] (sp_require_state T.Watcher.C T.UnknownState.C) := ok_require_state T.Watcher_require_state.F T.is_between.F T.is_between.b T.is_between.g (G_is_between T) T.UnknownState.e T.W T.m_len
theorem G_is_test (T : Tx K mg) : FnG P w K mg base CX0 3 T.is_test.f T.is_test.fd ["test", "held"] sp_is_test := ok_is_test T.is_test.F T.is_between.F T.is_between.b T.is_between.g (G_is_between T) T.g_NEW
theorem G_Watcher_add_state (T : Tx K mg) : FnG P w K mg base (L2.CX P w) 4 T.Watcher_add_state.f T.Watcher_add_state.fd ["self", "verdict", "held"] (sp_add_state T.Watcher.C T.NotAVerdict.C T.LimitExceeded.C) :=
  ok_Watcher_add_state T.Watcher_add_state.F T.is_between.F T.is_between.b T.is_between.g (G_is_between T) T.require_verdict.F T.require_verdict.b T.require_verdict.g (G_require_verdict T) T.LimitExceeded.e T.g_MOST_HELD T.g_MOST_STATES T.W T.m_len
theorem G_Watcher_init (T : Tx K mg) : FnG P w K mg base (L2.CX P w) 3 T.Watcher_init.f T.Watcher_init.fd ["self", "words"] (sp_W_init T.Watcher.C T.LimitExceeded.C) := ok_Watcher_init T.Watcher_init.F T.is_between.F T.is_between.b T.is_between.g (G_is_between T) T.LimitExceeded.e T.g_MOST_WORDS T.W
end

section
variable {P : Program} {w : World} {K : PySem.W.Frag} {mg : Str → Option Value} {base : Heap}
abbrev N_is_source : List Str := ["source", "held", "test"]
theorem sc_is_source : FnScope N_is_source ["source", "held", "test"] (defScope s_is_source) := ⟨rfl, rfl, rfl, by decide +kernel, rfl, by decide +kernel, by decide +kernel⟩
theorem G_is_source (T : Tx K mg) : FnG P w K mg base CX0 3 T.is_source.f T.is_source.fd ["source", "held", "test"] sp_is_source := by
  refine okG T.is_source.F sc_is_source (fun vs H Q E h => ?_) (fun cdv A outer s H vs Q E gd hr h => ?_)
  · obtain ⟨p, v, d, h', t, rfl, _⟩ := h
    rfl
  · obtain ⟨p, v, d, h', t, rfl, hv, q⟩ := h
    refine ⟨_, 
      (pss_cons (ps_if (pt_cmpR (op_eqS' hr.units) (pv 0) (pe_glob (v := .str "value") rfl T.g_VALUE ⟨_, rfl⟩) (nomark _)) 
        (pss_one (ps_ret (pe_cmpR (op_eqS hr.units) (pv 2) (pe_glob (v := .str "new") rfl T.g_NEW ⟨_, rfl⟩) (nomark _)))) -- return test == NEW
         pss_nil) -- if source == VALUE:
      (pss_one (ps_ret (pe_callG (G_is_between T) gd (hr.mono (by decide)) rfl T.is_between.g T.is_between.F.kp T.is_between.b .nil pass0 (pa_cons (pv 0) (pa_cons pe_int (pa_cons (pe_op op_sub (pv 1) pe_int) pa_nil)))))) -- return is_between(source, 0, held - 1)
      ) , ?_⟩
    refine ⟨v, rfl, p, d, "value", hv, rfl, _, rfl, ?_⟩
    unfold isSrc at q
    cases hb : isStrD d "value" with
    | true =>
      rw [hb, if_pos rfl] at q
      exact iteT ⟨kV t, rfl, p, kD t, "new", ldK t, kD_nd t, rfl, q⟩
    | false =>
      rw [hb, if_neg Bool.false_ne_true] at q
      exact iteF ⟨v, rfl, .int h', rfl, h', 1, rfl, rfl, p, v, d, 0, h' - 1, rfl, hv, q⟩
end

section
variable {P : Program} {w : World} {K : PySem.W.Frag} {mg : Str → Option Value} {base : Heap}
abbrev N_are_sources : List Str := ["sources", "wanted", "held", "test", "source"]
theorem sc_are_sources : FnScope N_are_sources ["sources", "wanted", "held", "test"] (defScope s_are_sources) := ⟨rfl, rfl, rfl, by decide +kernel, rfl, by decide +kernel, by decide +kernel⟩
theorem G_are_sources (T : Tx K mg) : FnG P w K mg base CX0 4 T.are_sources.f T.are_sources.fd ["sources", "wanted", "held", "test"] sp_are_sources := by
  refine okG T.are_sources.F sc_are_sources (fun vs H Q E h => ?_) (fun cdv A outer s H vs Q E gd hr h => ?_)
  · obtain ⟨p, v, d, wn, h', t, rfl, _⟩ := h
    rfl
  · obtain ⟨p, v, d, wn, h', t, rfl, hv, sm, q1, q2⟩ := h
    refine ⟨_, 
      (pss_cons (ps_if (PW.pt (pw_or (pt_not (pt_val (pe_callB (call_isL kit_tup) (by rfl) T.m_isinstance (by decide +kernel) (pa_cons (pv 0) (pa_cons (pe_bltn (v := .ty "tuple") (by rfl) T.m_tuple (by decide +kernel) (show RelV (.ty "tuple") (.type "tuple") from rfl)) pa_nil))))) (pw_or1 (pt_cmpR op_ne (pe_callB call_len_seq (by rfl) T.m_len PySem.boot_len (pa_cons (pv 0) pa_nil)) (pv 1) (nomark _))))) 
        (pss_one (ps_ret pe_bl)) -- return False
         pss_nil) -- if not isinstance(sources, tuple) or len(sources) != wanted:
      (pss_cons (ps_for PassesOwn.never rfl (pi_tup (pv 0)) (pg_name (i := 4) sc_are_sources.nd rfl (.inl rfl)) 
        (pss_one (ps_if (pt_not (pt_val (pe_callG (G_is_source T) gd (hr.mono (by decide)) rfl T.is_source.g T.is_source.F.kp T.is_source.b .nil pass0 (pa_cons (pv 4) (pa_cons (pv 2) (pa_cons (pv 3) pa_nil)))))) 
          (pss_one (ps_ret pe_bl)) -- return False
           pss_nil)) -- if not is_source(source, held, test):
        ) -- for source in sources:
      (pss_one (ps_ret (pe_cmpR op_eq (pe_lenSetM rfl (by rfl) T.m_len (by rfl) T.m_set (pv 0)) (pe_callB call_len_seq (by rfl) T.m_len PySem.boot_len (pa_cons (pv 0) pa_nil)) (nomark _)))) -- return len(set(sources)) == len(sources)
      )) , ?_⟩
    refine ⟨v, rfl, p, v, d, rfl, hv, _, rfl, ?_⟩
    cases hb : isTupD d with
    | false =>
      refine q2 ?_
      rintro ⟨ks, e⟩
      rw [e.d] at hb
      cases hb
    | true =>
      cases hv with
      | @tup a xs ds na ha hs =>
        have lx := hs.length
        refine ⟨.ref a, rfl, a, xs, rfl, .inr (SqT.of ha), .int wn, rfl, rfl, _, rfl, ?_⟩
        by_cases hw : (xs.length : Int) = wn
        · subst hw
          refine iteNS rfl ?_
          refine ⟨.ref a, rfl, a, rfl, ⟨_, SqT.of ha⟩, ?_⟩
          refine for_tup (K := K) (a := a) (xs := xs) (fun i σ H' => ∃ y, σ = [some (.ref a), some (.int (xs.length : Int)), some (.int h'), some (kV t), y] ∧ H' = H ∧ ∀ e ∈ ds.take i, isSrc e h' t = true) ?_ ?_ ?_ ?_
          · exact ⟨none, rfl, rfl, fun e he => by cases he⟩
          · rintro i σ H' hi ⟨y, rfl, rfl, _⟩
            exact SqT.of ha
          · rintro i x σ H' hi ⟨y, rfl, rfl, all⟩
            obtain ⟨e, he, hx⟩ := hs.get hi
            refine ⟨x, rfl, .int h', rfl, kV t, rfl, p, x, e, h', t, rfl, hx, _, rfl, ?_⟩
            cases hb2 : isSrc e h' t with
            | false =>
              refine iteT (q2 ?_)
              rintro ⟨ks, z⟩
              have z1 := PyData.tuple.inj z.d
              rw [z1, List.getElem?_map] at he
              obtain ⟨k, hk, rfl⟩ := Option.map_eq_some_iff.mp he
              rw [z.all k (List.mem_of_getElem? hk)] at hb2
              cases hb2
            | true =>
              refine iteF ⟨_, rfl, rfl, fun e' he' => ?_⟩
              rw [List.take_add_one, he] at he'
              rcases List.mem_append.mp he' with z | z
              · exact all e' z
              · have : e' = e := by simpa using z
                rw [this]
                exact hb2
          · rintro σ H' ⟨y, rfl, rfl, all⟩
            rw [lx, List.take_length] at all
            obtain ⟨ks, rfl, rfl⟩ := srcs_of hs all
            have sl : _ ≤ 50 := sm
            rw [List.length_map] at sl
            refine ⟨.ref a, rfl, a, ks, rfl, ha, sl, .ref a, rfl, a, _, rfl, .inr (SqT.of ha), rfl, ?_⟩
            rw [List.length_map]
            obtain ⟨u1, u2, u3, u4⟩ := uniqK_len _ ks rfl
            by_cases hn : ks.Nodup
            · rw [u3 hn, decide_eq_true rfl]
              refine q1 ⟨ks, rfl, by rw [List.length_map], fun k hk => all _ (List.mem_map.mpr ⟨k, hk, rfl⟩), hn⟩
            · have ne : ¬ (V.int ((uniqK ks).length : Nat) = V.int (ks.length : Nat)) := fun z => hn (u4 (by have := V.int.inj z; omega))
              rw [decide_eq_false ne]
              refine q2 ?_
              rintro ⟨ks', z⟩
              have := map_kD_inj (PyData.tuple.inj z.d)
              exact hn (this ▸ z.nd)
        · have ne : (V.int ((xs.length : Nat) : Int)) ≠ V.int wn := fun z => hw (V.int.inj z)
          rw [decide_eq_false ne]
          refine iteT (q2 ?_)
          rintro ⟨ks, z⟩
          have z1 := PyData.tuple.inj z.d
          have z2 := z.len
          rw [z1, List.length_map] at lx
          exact hw (by omega)
      | _ => cases hb
end

section
variable {P : Program} {w : World} {K : PySem.W.Frag} {mg : Str → Option Value} {base : Heap}
abbrev N_Watcher_require_word : List Str := ["self", "word"]
theorem sc_Watcher_require_word : FnScope N_Watcher_require_word ["self", "word"] (defScope s_Watcher_require_word) := ⟨rfl, rfl, rfl, by decide +kernel, rfl, by decide +kernel, by decide +kernel⟩
theorem G_Watcher_require_word (T : Tx K mg) : FnG P w K mg base (L2.CX P w) 3 T.Watcher_require_word.f T.Watcher_require_word.fd ["self", "word"] (sp_require_word T.Watcher.C T.NotAWord.C) := by
  refine okGX T.Watcher_require_word.F sc_Watcher_require_word (fun vs H Q E h => ?_) (fun cdv A outer s H vs Q E gd hr h => ?_)
  · obtain ⟨x, lv, lh, d, n, vs, hs, R, p, v, dd, rfl, _⟩ := h
    rfl
  · obtain ⟨x, lv, lh, d, n, vs, hs, R, p, v, dd, rfl, hW, hv, q1, q2⟩ := h
    refine ⟨_, 
      (pss_one (ps_if (pt_not (pt_val (pe_callG (G_is_between T) gd (hr.mono (by decide)) rfl T.is_between.g T.is_between.F.kp T.is_between.b .nil pass0 (pa_cons (pv 1) (pa_cons pe_int (pa_cons (pe_op op_sub (pe_fld (pv 0) rfl) pe_int) pa_nil)))))) 
        (pss_one (L2.ps_raiseE (W := fun cls d _ H => E cls d H) rfl T.NotAWord.e (show Room 1 _ from hr.mono (by decide)) (takes_of rfl rfl rfl rfl) (by exact (pa_cons (pv 1) pa_nil)))) -- raise NotAWord(word)
         pss_nil)) -- if not is_between(word, 0, self.words - 1):
       , ?_⟩
    obtain ⟨dx, hx⟩ := hW.ins
    refine ⟨v, rfl, .ref x, rfl, x, T.Watcher.C, dx, _, .int n, rfl, hx, T.Watcher.cl, T.W.n1, rfl, n, 1, rfl, rfl, p, v, dd, 0, _, rfl, hv, _, rfl, ?_⟩
    cases hb : btw dd 0 (n - 1) with
    | false => exact ⟨v, rfl, v, rfl, fun e he => q2 hb e he⟩
    | true => exact q1 hb
end

section
variable {P : Program} {w : World} {K : PySem.W.Frag} {mg : Str → Option Value} {base : Heap}
abbrev N_Watcher_set_verdict : List Str := ["self", "state", "verdict"]
theorem sc_Watcher_set_verdict : FnScope N_Watcher_set_verdict ["self", "state", "verdict"] (defScope s_Watcher_set_verdict) := ⟨rfl, rfl, rfl, by decide +kernel, rfl, by decide +kernel, by decide +kernel⟩
theorem G_Watcher_set_verdict (T : Tx K mg) : FnG P w K mg base (L2.CX P w) 4 T.Watcher_set_verdict.f T.Watcher_set_verdict.fd ["self", "state", "verdict"] (sp_set_verdict T.Watcher.C T.UnknownState.C T.NotAVerdict.C) := by
  refine okGX T.Watcher_set_verdict.F sc_Watcher_set_verdict (fun vs H Q E h => ?_) (fun cdv A outer s H vs Q E gd hr h => ?_)
  · obtain ⟨x, lv, lh, d, n, vs, hs, R, p, v1, v2, d1, d2, rfl, _⟩ := h
    rfl
  · obtain ⟨x, lv, lh, d, n, vs, hs, R, p, v1, v2, d1, d2, rfl, hW, h1, h2, q1, q2, q3⟩ := h
    refine ⟨_, 
      (pss_cons (ps_expr (pe_methG (pv 0) T.Watcher.cl T.Watcher_require_state.M (G_Watcher_require_state T) gd (hr.mono (by decide)) T.Watcher_require_state.b .nil (L2.passes_call (W := fun cls d _ H => E cls d H) (takes_of rfl rfl rfl rfl) (fun _ _ _ _ h => h)) (pa_cons (pv 1) pa_nil))) -- self.require_state(state)
      (pss_cons (ps_expr (pe_callG (G_require_verdict T) gd (hr.mono (by decide)) rfl T.require_verdict.g T.require_verdict.F.kp T.require_verdict.b .nil (L2.passes_call (W := fun cls d _ H => E cls d H) (takes_of rfl rfl rfl rfl) (fun _ _ _ _ h => h)) (pa_cons (pv 2) pa_nil))) -- require_verdict(verdict)
      (pss_one (ps_asg (pv 2) (pg_sub (pe_fld (pv 0) rfl) (pv 1) set_list))) -- self._verdicts[state] = verdict
      )) , ?_⟩
    obtain ⟨dx, hx⟩ := hW.ins
    refine ⟨.ref x, rfl, x, dx, _, rfl, hx, rfl, v1, rfl, x, lv, lh, d, n, vs, hs, R, p, v1, d1, rfl, hW, h1, fun o1 => ?_, q1⟩
    refine ⟨v2, rfl, p, v2, d2, rfl, h2, fun o2 => ?_, q2 o1⟩
    obtain ⟨s, rfl, s0, s1⟩ := btw_int o1
    obtain ⟨v, rfl, v0, v3⟩ := btw_int o2
    cases h1
    cases h2
    obtain ⟨j, rfl⟩ : ∃ j : Nat, s = j := ⟨s.toNat, by omega⟩
    have hj : j < vs.length := by omega
    have hv := hW.ver
    refine ⟨.int v, rfl, .ref x, rfl, x, T.Watcher.C, dx, _, .ref lv, rfl, hx, T.Watcher.cl, T.W.n2, rfl, .int (j : Int), rfl, lv, _, (j : Int), j, rfl, rfl, hv, ixN_at (by rw [List.length_map]; exact hj), ?_⟩
    have tp : Tups H (upd H lv (.lst ((vs.map V.int).set j (.int v)))) := Tups.lst hv
    obtain ⟨kvs, hd, hkv⟩ := hW.rul
    refine q3 (j : Int) v rfl rfl s0 (by omega) v0 v3 _ (fun c o e n1 => by rw [upd_ne n1]; exact e) { ins := ⟨dx, by rw [upd_ne (ne_of hx hv (fun z => nomatch z))]; exact hx⟩, ver := ?_, hel := by rw [upd_ne hW.ne.symm]; exact hW.hel, rul := ⟨kvs, by rw [upd_ne (ne_of hd hv (fun z => nomatch z))]; exact hd, hkv.mono tp⟩, ne := hW.ne, rk := hW.rk, nd := hW.nd, len := ⟨by rw [List.length_set]; exact hW.len.1, by rw [List.length_set]; exact hW.len.2.1, hW.len.2.2⟩ }
    rw [upd_same, Int.toNat_natCast, List.map_set]
end

section
variable {P : Program} {w : World} {K : PySem.W.Frag} {mg : Str → Option Value} {base : Heap}
abbrev N_Watcher_add_rule : List Str := ["self", "state", "word", "test", "target", "sources", "rule"]
theorem sc_Watcher_add_rule : FnScope N_Watcher_add_rule ["self", "state", "word", "test", "target", "sources"] (defScope s_Watcher_add_rule) := ⟨rfl, rfl, rfl, by decide +kernel, rfl, by decide +kernel, by decide +kernel⟩
theorem G_Watcher_add_rule (T : Tx K mg) : FnG P w K mg base (L2.CX P w) 5 T.Watcher_add_rule.f T.Watcher_add_rule.fd ["self", "state", "word", "test", "target", "sources"] (sp_add_rule T.Watcher.C ⟨T.UnknownState.C, T.NotAWord.C, T.InvalidTest.C, T.InvalidSources.C, T.RuleExists.C⟩) := by
  refine okGX T.Watcher_add_rule.F sc_Watcher_add_rule (fun vs H Q E h => ?_) (fun cdv A outer s H vs Q E gd hr h => ?_)
  · obtain ⟨x, lv, lh, d, n, vs, hs, R, p, v1, v2, v3, v4, v5, d1, d2, d3, d4, d5, rfl, _⟩ := h
    rfl
  · obtain ⟨x, lv, lh, d, n, vs, hs, R, p, v1, v2, v3, v4, v5, d1, d2, d3, d4, d5, rfl, hW, h1, h2, h3, h4, h5, n3, sm5, lR, q1, q2, q3, q4⟩ := h
    refine ⟨_, 
      (pss_cons (ps_expr (pe_methG (pv 0) T.Watcher.cl T.Watcher_require_state.M (G_Watcher_require_state T) gd (hr.mono (by decide)) T.Watcher_require_state.b .nil (L2.passes_call (W := fun cls d _ H => E cls d H) (takes_of rfl rfl rfl rfl) (fun _ _ _ _ h => h)) (pa_cons (pv 1) pa_nil))) -- self.require_state(state)
      (pss_cons (ps_expr (pe_methG (pv 0) T.Watcher.cl T.Watcher_require_state.M (G_Watcher_require_state T) gd (hr.mono (by decide)) T.Watcher_require_state.b .nil (L2.passes_call (W := fun cls d _ H => E cls d H) (takes_of rfl rfl rfl rfl) (fun _ _ _ _ h => h)) (pa_cons (pv 4) pa_nil))) -- self.require_state(target)
      (pss_cons (ps_expr (pe_methG (pv 0) T.Watcher.cl T.Watcher_require_word.M (G_Watcher_require_word T) gd (hr.mono (by decide)) T.Watcher_require_word.b .nil (L2.passes_call (W := fun cls d _ H => E cls d H) (takes_of rfl rfl rfl rfl) (fun _ _ _ _ h => h)) (pa_cons (pv 2) pa_nil))) -- self.require_word(word)
      (pss_cons (ps_if (pt_not (pt_val (pe_callG (G_is_test T) gd (hr.mono (by decide)) rfl T.is_test.g T.is_test.F.kp T.is_test.b .nil pass0 (pa_cons (pv 3) (pa_cons (pe_ix ix_list (pe_fld (pv 0) rfl) (pv 1) (fun _ _ => rfl)) pa_nil))))) 
        (pss_one (L2.ps_raiseE (W := fun cls d _ H => E cls d H) rfl T.InvalidTest.e (show Room 1 _ from hr.mono (by decide)) (takes_of rfl rfl rfl rfl) (by exact (pa_cons (pv 3) pa_nil)))) -- raise InvalidTest(test)
         pss_nil) -- if not is_test(test, self._held[state]):
      (pss_cons (ps_if (pt_not (pt_val (pe_callG (G_are_sources T) gd (hr.mono (by decide)) rfl T.are_sources.g T.are_sources.F.kp T.are_sources.b .nil pass0 (pa_cons (pv 5) (pa_cons (pe_ix ix_list (pe_fld (pv 0) rfl) (pv 4) (fun _ _ => rfl)) (pa_cons (pe_ix ix_list (pe_fld (pv 0) rfl) (pv 1) (fun _ _ => rfl)) (pa_cons (pv 3) pa_nil))))))) 
        (pss_one (L2.ps_raiseE (W := fun cls d _ H => E cls d H) rfl T.InvalidSources.e (show Room 1 _ from hr.mono (by decide)) (takes_of rfl rfl rfl rfl) (by exact (pa_cons (pv 5) pa_nil)))) -- raise InvalidSources(sources)
         pss_nil) -- if not are_sources(sources, self._held[target], self._held[state], test):
      (pss_cons (ps_set (i := 6) sc_Watcher_add_rule.nd rfl (.inl rfl) (pe_tup (pa_cons (pv 1) (pa_cons (pv 2) (pa_cons (pv 3) pa_nil))))) -- rule = (state, word, test)
      (pss_cons (ps_if (pt_cmp (pc_din (hu_of hr) (pv 6) (pe_fld (pv 0) rfl))) 
        (pss_one (L2.ps_raiseE (W := fun cls d _ H => E cls d H) rfl T.RuleExists.e (show Room 1 _ from hr.mono (by decide)) (takes_of rfl rfl rfl rfl) (by exact (pa_cons (pv 6) pa_nil)))) -- raise RuleExists(rule)
         pss_nil) -- if rule in self._rules:
      (pss_one (ps_dput (hu_of hr) (pe_fld (pv 0) rfl) (pv 6) (pe_tup (pa_cons (pv 4) (pa_cons (pv 5) pa_nil))) rfl)) -- self._rules[rule] = (target, sources)
      ))))))) , ?_⟩
    obtain ⟨dx, hx⟩ := hW.ins
    have hh := hW.hel
    have cl := T.Watcher.cl
    refine ⟨.ref x, rfl, x, dx, _, rfl, hx, rfl, v1, rfl, x, lv, lh, d, n, vs, hs, R, p, v1, d1, rfl, hW, h1, fun o1 => ?_, q1⟩
    refine ⟨.ref x, rfl, x, dx, _, rfl, hx, rfl, v4, rfl, x, lv, lh, d, n, vs, hs, R, p, v4, d4, rfl, hW, h4, fun o4 => ?_, q2 o1⟩
    refine ⟨.ref x, rfl, x, dx, _, rfl, hx, rfl, v2, rfl, x, lv, lh, d, n, vs, hs, R, p, v2, d2, rfl, hW, h2, fun o2 => ?_, q3 o1 o4⟩
    obtain ⟨s', rfl, s0, s1⟩ := btw_int o1
    obtain ⟨tg, rfl, g0, g1⟩ := btw_int o4
    obtain ⟨wd, rfl, w0, w1⟩ := btw_int o2
    cases h1
    cases h2
    cases h4
    have ls := hW.len.1
    obtain ⟨q5, q6⟩ := q4 s' tg wd rfl rfl rfl s0 (by omega) g0 (by omega) w0 (by omega)
    refine ⟨v3, rfl, .ref x, rfl, x, T.Watcher.C, dx, _, .ref lh, rfl, hx, cl, T.W.n3, rfl, .int s', rfl, lh, _, s', .int (hAt hs s'), rfl, rfl, SqL.of hh, hs_at s0 (by omega), p, v3, d3, hAt hs s', rfl, h3, n3, _, rfl, ?_⟩
    cases hb : isTest d3 (hAt hs s') with
    | false => exact iteT ⟨v3, rfl, v3, rfl, fun e he => q5 hb e he⟩
    | true =>
      refine iteF ?_
      obtain ⟨t, rfl, rfl, tk⟩ := test_key' h3 hb
      obtain ⟨q7, q8⟩ := q6 t rfl rfl hb
      refine ⟨v5, rfl, .ref x, rfl, x, T.Watcher.C, dx, _, .ref lh, rfl, hx, cl, T.W.n3, rfl, .int tg, rfl, lh, _, tg, .int (hAt hs tg), rfl, rfl, SqL.of hh, hs_at g0 (by omega), .ref x, rfl, x, T.Watcher.C, dx, _, .ref lh, rfl, hx, cl, T.W.n3, rfl, .int s', rfl, lh, _, s', .int (hAt hs s'), rfl, rfl, SqL.of hh, hs_at s0 (by omega), kV t, rfl, p, v5, d5, hAt hs tg, hAt hs s', t, rfl, h5, sm5, fun ok => ?_, fun bad => ?_⟩
      · refine ⟨_, rfl, iteF ?_⟩
        obtain ⟨ks, ok⟩ := ok
        obtain ⟨q9, q10⟩ := q8 ks ok
        obtain ⟨kvs, hd, hkv⟩ := hW.rul
        have ek := hkv.keys
        refine ⟨.int s', rfl, .int wd, rfl, kV t, rfl, by show 3 ≤ sizeLine; decide, fun TT nT => ?_⟩
        have sT : Same H (upd H TT (.tup [.int s', .int wd, kV t])) := same_new nT
        have hT : upd H TT (.tup [.int s', .int wd, kV t]) TT = some (.tup (([Sum.inl s', Sum.inl wd, t] : List Key).map kV)) := upd_same
        have g := DGet.t (k := [Sum.inl s', Sum.inl wd, t]) (sT _ _ hd) hT
        refine ⟨.ref TT, rfl, .ref x, rfl, x, T.Watcher.C, dx, _, .ref d, rfl, sT _ _ hx, cl, T.W.n4, rfl, d, _, rfl, g, _, rfl, ?_⟩
        by_cases hk : [Sum.inl s', Sum.inl wd, t] ∈ R.map (·.1)
        · obtain ⟨v, ev, _⟩ := hkv.val hk
          rw [ev]
          exact iteT ⟨.ref TT, rfl, .ref TT, rfl, fun e he => q9 hk TT nT e he⟩
        · have en : valV kvs [Sum.inl s', Sum.inl wd, t] = none := by
            unfold valV
            rw [List.find?_eq_none.mpr]
            · rfl
            · intro y hy
              simp only [decide_eq_true_eq]
              intro e
              exact hk (e ▸ ek ▸ List.mem_map.mpr ⟨y, hy, rfl⟩)
          rw [en]
          refine iteF ?_
          refine ⟨.int tg, rfl, v5, rfl, by show 2 ≤ sizeLine; decide, fun U nU => ?_⟩
          have sU : Same (upd H TT (.tup [.int s', .int wd, kV t])) (upd (upd H TT (.tup [.int s', .int wd, kV t])) U (.tup [.int tg, v5])) := same_new nU
          have hU : upd (upd H TT (.tup [.int s', .int wd, kV t])) U (.tup [.int tg, v5]) U = some (.tup [.int tg, v5]) := upd_same
          have hT2 := sU _ _ hT
          have s2 := sT.trans sU
          generalize upd (upd H TT (.tup [.int s', .int wd, kV t])) U (.tup [.int tg, v5]) = H2 at s2 hU hT2
          have hd2 := s2 _ _ hd
          have lk : kvs.length < 1000 := by
            have := Paired.length hkv
            omega
          refine ⟨.ref x, rfl, x, T.Watcher.C, dx, _, .ref d, rfl, s2 _ _ hx, cl, T.W.n4, rfl, .ref TT, rfl, d, _, rfl, DPut.t (k := [Sum.inl s', Sum.inl wd, t]) hd2 hT2 (small1000 (Nat.le_of_lt lk)), ?_⟩
          have tp : Tups H2 (upd H2 d (.dT (putK kvs [Sum.inl s', Sum.inl wd, t] (.ref U)))) := Tups.put hd2 (fun _ z => by cases z)
          have hW2 := hW.mono s2
          have vd : lv ≠ d := ne_of hW2.ver hd2 (fun z => nomatch z)
          have hd' : lh ≠ d := ne_of hW2.hel hd2 (fun z => nomatch z)
          have xd : x ≠ d := ne_of (s2 _ _ hx) hd2 (fun z => nomatch z)
          refine q10 hk _ (fun c o e nc => ?_) { ins := ⟨dx, ?_⟩, ver := ?_, hel := ?_, rul := ⟨_, upd_same, ?_⟩, ne := hW.ne, rk := ?_, nd := ?_, len := ⟨hW.len.1, hW.len.2.1, by rw [List.length_append]; show R.length + 1 ≤ 1000; omega⟩ }
          · rw [upd_ne nc]
            exact s2 _ _ e
          · rw [upd_ne xd]
            exact s2 _ _ hx
          · rw [upd_ne vd]
            exact hW2.ver
          · rw [upd_ne hd']
            exact hW2.hel
          · have en2 := putK_new (V.ref U) en
            rw [en2] at tp ⊢
            refine Paired.snoc (KvD.mono tp (KvD.mono (Tups.same s2) hkv)) ⟨rfl, ?_⟩
            have h5' := h5
            rw [ok.d] at h5'
            obtain ⟨a5, xs5, rfl, _, ha5, hs5⟩ := h5'.isTup
            obtain ⟨ks', e1, e2⟩ := srcs_of hs5 (h := hAt hs s') (t := t) (fun e he => by obtain ⟨k, hk, rfl⟩ := List.mem_map.mp he; exact ok.all k hk)
            rw [← map_kD_inj e1] at e2
            subst e2
            exact .tup (tp _ _ hU) (.cons (.int tg) (.cons (.tup (tp _ _ (s2 _ _ ha5)) TDs.keys) .nil))
          · intro k hk2
            rw [List.map_append] at hk2
            rcases List.mem_append.mp hk2 with z | z
            · exact hW.rk k z
            · simp at z
              subst z
              exact ⟨s', wd, t, rfl, tk⟩
          · rw [List.map_append]
            refine List.nodup_append.mpr ⟨hW.nd, by simp, ?_⟩
            intro a ha b hb2
            simp at hb2
            subst hb2
            rintro rfl
            exact hk ha
      · exact ⟨_, rfl, iteT ⟨v5, rfl, v5, rfl, fun e he => q7 bad e he⟩⟩
end

/-! ### watchers are built from plans -/
theorem WAt.off {C : Addr} {H : Hp} {x lv lh d a : Addr} {n : Int} {vs hs : List Int} {R : Rows} {o u : HO} (h : WAt C H x lv lh d n vs hs R) (ha : H a = some u) (hu : ∀ xs, u ≠ .tup xs) (n1 : a ≠ x) (n2 : a ≠ lv) (n3 : a ≠ lh) (n4 : a ≠ d) : WAt C (upd H a o) x lv lh d n vs hs R := by
  have tp : Tups H (upd H a o) := Tups.put ha hu
  obtain ⟨⟨dx, b⟩, e, f, ⟨kvs, g, i⟩, ne, j, k, len⟩ := h
  exact ⟨⟨dx, by rw [upd_ne n1.symm]; exact b⟩, by rw [upd_ne n2.symm]; exact e, by rw [upd_ne n3.symm]; exact f, ⟨kvs, by rw [upd_ne n4.symm]; exact g, i.mono tp⟩, ne, j, k, len⟩
theorem TDs.unkeys {H : Hp} : ∀ {xs : List V} {ks : List Key}, TDs H xs (ks.map kD) → xs = ks.map kV
  | _, [], h => by cases h; rfl
  | _, .inl n :: ks, h => by
    cases h with
    | cons a r =>
      cases a
      rw [r.unkeys]
      rfl
  | _, .inr s :: ks, h => by
    cases h with
    | cons a r =>
      cases a
      rw [r.unkeys]
      rfl
theorem lds_keys {p : Addr} {H : Hp} : ∀ ks : List Key, LDs p H (ks.map kV) (ks.map kD)
  | [] => .nil
  | k :: r => .cons (ldK k) (lds_keys r)
theorem val_nodup {kvs : List (List Key × V)} (nd : (kvs.map (·.1)).Nodup) {i : Nat} {k : List Key} {v : V} (h : kvs[i]? = some (k, v)) : valV kvs k = some v := by
  induction kvs generalizing i with
  | nil => simp at h
  | cons p r ih =>
    cases i with
    | zero =>
      have : p = (k, v) := by simpa using h
      subst this
      exact valV_pos rfl
    | succ i =>
      have h' : r[i]? = some (k, v) := by simpa using h
      have nd' := List.nodup_cons.mp nd
      rw [valV_neg, ih nd'.2 h']
      rintro rfl
      exact nd'.1 (List.mem_map.mpr ⟨_, List.mem_of_getElem? h', rfl⟩)
theorem TD.rule {H : Hp} {v : V} {r : Int × List Key} (h : TD H v (ruleD r)) : ∃ a b, v = .ref a ∧ H a = some (.tup [.int r.1, .ref b]) ∧ H b = some (.tup (r.2.map kV)) := by
  obtain ⟨a, xs, rfl, e, t⟩ := h.isTup
  cases t with
  | cons h1 t =>
    cases h1
    cases t with
    | cons h2 t =>
      cases t
      obtain ⟨b, ys, rfl, e2, t2⟩ := h2.isTup
      rw [t2.unkeys] at e2
      exact ⟨a, b, rfl, e, e2⟩
theorem srcOk_are {h m : Int} {t : Key} {ks : List Key} (s : SrcOk h t m ks) : AreSrc (.tuple (ks.map kD)) m h t ks := by
  refine ⟨rfl, s.len, fun k hk => ?_, s.nd⟩
  rcases s.all k hk with ⟨n, rfl, n0, n1⟩ | ⟨rfl, rfl⟩
  · unfold isSrc
    rw [if_neg (by exact Bool.false_ne_true)]
    exact btw_true n0 (by omega)
  · rfl
theorem testOk_is {h : Int} {t : Key} (s : TestOk h t) : isTest (kD t) h = true := by
  rcases s with ⟨n, rfl, n0, n1⟩ | rfl
  · show (false || btw (.int n) 0 (h - 1)) = true
    rw [btw_true n0 (by omega)]
    rfl
  · rfl
theorem smallT_keys {ks : List Key} (h : ks.length ≤ 50) : SmallT (.tuple (ks.map kD)) := by
  show (ks.map kD).length ≤ 50
  rw [List.length_map]
  exact h
theorem hAt_held (ks : List (Int × Int)) (i : Int) : hAt (ks.map (·.2)) i = heldAt ks i := by
  unfold hAt heldAt
  rw [List.getElem?_map]
  cases ks[i.toNat]? <;> rfl
theorem held_bd {ks : List (Int × Int)} (h : KindsOk ks) {i : Int} (h0 : 0 ≤ i) (h1 : i < ks.length) : 0 ≤ heldAt ks i ∧ heldAt ks i ≤ 3 := by
  have hj : i.toNat < ks.length := by omega
  unfold heldAt
  rw [List.getElem?_eq_getElem hj]
  have := h.all ks[i.toNat] (List.getElem_mem hj)
  exact ⟨this.2.2.1, this.2.2.2⟩
def sp_law_built (C : Addr) : Sp := fun us H Q _ => ∃ (l kl rl : Addr) (pl : Plan), us = [.ref l] ∧ PlanAt H l kl rl pl ∧ PlanOk pl ∧
  ∀ x lv lh d H', Same H H' → H x = none → H lv = none → H lh = none → H d = none → WAt C H' x lv lh d pl.words (pl.kinds.map (·.1)) (pl.kinds.map (·.2)) (rowsOf pl.rules) → Q (.ref x) H'
structure Fr (H H' : Hp) (x lv lh d : Addr) : Prop where
  sm : Same H H'
  x : H x = none
  v : H lv = none
  h : H lh = none
  d : H d = none
section
variable {P : Program} {w : World} {K : PySem.W.Frag} {mg : Str → Option Value} {base : Heap}
abbrev N_law_built : List Str := ["plan", "found", "verdict", "held", "state", "word", "test", "target", "sources"]
theorem sc_law_built : FnScope N_law_built ["plan"] (defScope s_law_built) := ⟨rfl, rfl, rfl, by decide +kernel, rfl, by decide +kernel, by decide +kernel⟩
theorem G_law_built (T : Tx K mg) : FnG P w K mg base CX0 6 T.law_built.f T.law_built.fd ["plan"] (sp_law_built T.Watcher.C) := by
  refine okG T.law_built.F sc_law_built (fun vs H Q E h => ?_) (fun cdv A outer s H vs Q E gd hr h => ?_)
  · obtain ⟨l, kl, rl, pl, rfl, _⟩ := h
    rfl
  · obtain ⟨l, kl, rl, pl, rfl, hp, ok, q⟩ := h
    obtain ⟨wd, ks, R⟩ := pl
    obtain ⟨hl, ⟨vs, hk, ht⟩, ⟨kvs, hrl, hkv⟩⟩ := hp
    have hks := ok.k
    have lks := hks.len
    have hw := ok.w
    dsimp only at hl hk ht hrl hkv hks lks hw q
    have lv0 : vs.length = ks.length := ht.msgs_len
    refine ⟨_, 
      (C8.pss_cut (ps_set (i := 1) sc_law_built.nd rfl (.inl rfl) (pe_makeG T.mk_Watcher (G_Watcher_init T) gd (hr.mono (by decide)) rfl T.Watcher.g T.Watcher_init.b .nil passNo (pa_cons (pe_ix ix_list (pv 0) pe_int (fun _ _ => rfl)) pa_nil))) -- found = Watcher(plan[0])
      (C8.pss_cut (ps_expr (pe_methG (pv 1) T.Watcher.cl T.Watcher_set_verdict.M (G_Watcher_set_verdict T) gd (hr.mono (by decide)) T.Watcher_set_verdict.b .nil passNo (pa_cons pe_int (pa_cons (pe_ix ix_tup (pe_ix ix_list (pe_ix ix_list (pv 0) pe_int (fun _ _ => rfl)) pe_int (fun _ _ => rfl)) pe_int (fun _ _ => rfl)) pa_nil)))) -- found.set_verdict(0, plan[1][0][0])
      (C8.pss_cut (ps_for PassesOwn.never rfl (pi_list (pe_slice sl_list (pe_ix ix_list (pv 0) pe_int (fun _ _ => rfl)) (po_some pe_int) po_none)) (pg_tup rfl (pgs_cons (pg_name (i := 2) sc_law_built.nd rfl (.inl rfl)) (pgs_cons (pg_name (i := 3) sc_law_built.nd rfl (.inl rfl)) pgs_nil))) 
        (pss_one (ps_expr (pe_methG (pv 1) T.Watcher.cl T.Watcher_add_state.M (G_Watcher_add_state T) gd (hr.mono (by decide)) T.Watcher_add_state.b .nil passNo (pa_cons (pv 2) (pa_cons (pv 3) pa_nil))))) -- found.add_state(verdict, held)
        ) -- for verdict, held in plan[1][1:]:
      (C8.pss_cut (ps_lock (ps_for PassesOwn.never rfl (pi_keys (pe_ix ix_list (pv 0) pe_int (fun _ _ => rfl))) (pg_tup rfl (pgs_cons (pg_name (i := 4) sc_law_built.nd rfl (.inl rfl)) (pgs_cons (pg_name (i := 5) sc_law_built.nd rfl (.inl rfl)) (pgs_cons (pg_name (i := 6) sc_law_built.nd rfl (.inl rfl)) pgs_nil)))) 
        (pss_cons (ps_asg (pe_dget (hu_of hr) (pe_ix ix_list (pv 0) pe_int (fun _ _ => rfl)) (pe_tup (pa_cons (pv 4) (pa_cons (pv 5) (pa_cons (pv 6) pa_nil)))) (fun _ _ => rfl)) (pg_tup rfl (pgs_cons (pg_name (i := 7) sc_law_built.nd rfl (.inl rfl)) (pgs_cons (pg_name (i := 8) sc_law_built.nd rfl (.inl rfl)) pgs_nil)))) -- target, sources = plan[2][state, word, test]
        (pss_one (ps_expr (pe_methG (pv 1) T.Watcher.cl T.Watcher_add_rule.M (G_Watcher_add_rule T) gd (hr.mono (by decide)) T.Watcher_add_rule.b .nil passNo (pa_cons (pv 4) (pa_cons (pv 5) (pa_cons (pv 6) (pa_cons (pv 7) (pa_cons (pv 8) pa_nil)))))))) -- found.add_rule(state, word, test, target, sources)
        ))) -- for state, word, test in plan[2]:
      (pss_one (ps_ret (pv 1))) -- return found
      )))) , ?_⟩
    refine ⟨fun σ H' => ∃ x lv lh d, σ = [some (.ref l), some (.ref x), none, none, none, none, none, none, none] ∧ Fr H H' x lv lh d ∧ WAt T.Watcher.C H' x lv lh d wd [0] [0] [], ?_, ?_⟩
    · refine ⟨.ref l, rfl, l, _, 0, .int wd, rfl, rfl, SqL.of hl, atI_nat (j := 0) rfl, fun x dx nx ndx ne => ?_⟩
      have sX : Same H (upd (upd H dx (.own x)) x (.ins T.Watcher.C dx [])) := (same_new ndx).trans (same_new (by rw [upd_ne ne.symm]; exact nx))
      refine ⟨x, x, dx, .int wd, .int wd, rfl, upd_same, .int _, fun n en n0 n1 H' lv lh dd b' f1 f2 f3 hW => ⟨rfl, ?_⟩, fun bad e he => ?_⟩
      · cases en
        exact ⟨x, lv, lh, dd, rfl, ⟨fun c o e => b' c o (sX c o e) (ne_of_none e nx), nx, sX.free f1, sX.free f2, sX.free f3⟩, hW⟩
      · rw [btw_true hw.1 hw.2] at bad
        cases bad
    rintro σ H1 ⟨x, lv, lh, d, rfl, F, hW⟩
    obtain ⟨a0, v0, ea0, ha0, em0⟩ := kinds_at ht (Int.le_refl 0) (by omega)
    have hz := hks.zero
    rw [hz] at ha0 em0
    have bd0 := kinds_bd hks.all em0
    refine ⟨fun σ H' => σ = [some (.ref l), some (.ref x), none, none, none, none, none, none, none] ∧ Fr H H' x lv lh d ∧ WAt T.Watcher.C H' x lv lh d wd ((ks.take 1).map (·.1)) ((ks.take 1).map (·.2)) [], ?_, ?_⟩
    · obtain ⟨dx, hx⟩ := hW.ins
      refine ⟨.ref x, rfl, x, dx, _, rfl, hx, rfl, .ref l, rfl, l, _, 1, .ref kl, rfl, rfl, SqL.of (F.sm _ _ hl), atI_nat (j := 1) rfl, kl, vs, 0, .ref a0, rfl, rfl, SqL.of (F.sm _ _ hk), ea0, a0, _, 0, .int v0, rfl, rfl, SqT.of (F.sm _ _ ha0), atI_nat (j := 0) rfl, ?_⟩
      refine ⟨x, lv, lh, d, wd, [0], [0], [], x, .int 0, .int v0, .int 0, .int v0, rfl, hW, .int _, .int _, fun bad => ?_, fun _ bad => ?_, fun s v es ev _ _ _ _ H' k1 hW' => ?_⟩
      · cases bad
      · rw [btw_true bd0.1 bd0.2.1] at bad
        cases bad
      · cases es
        cases ev
        have e1 : ks.take 1 = [(v0, 0)] := by
          cases ks with
          | nil => cases em0
          | cons k r =>
            have : k = (v0, 0) := by simpa using em0
            rw [this]
            rfl
        rw [e1]
        exact ⟨rfl, ⟨fun c o e => k1 c o (F.sm c o e) (ne_of_none e F.v), F.x, F.v, F.h, F.d⟩, hW'⟩
    rintro σ H2 ⟨rfl, F, hW⟩
    refine ⟨fun σ H' => ∃ y1 y2, σ = [some (.ref l), some (.ref x), y1, y2, none, none, none, none, none] ∧ Fr H H' x lv lh d ∧ WAt T.Watcher.C H' x lv lh d wd (ks.map (·.1)) (ks.map (·.2)) [], ?_, ?_⟩
    · refine ⟨.ref l, rfl, l, _, 1, .ref kl, rfl, rfl, SqL.of (F.sm _ _ hl), atI_nat (j := 1) rfl, 1, rfl, kl, vs, rfl, SqL.of (F.sm _ _ hk), fun b nb => ?_⟩
      have sb : Same H2 (upd H2 b (.lst (cutV vs (some 1) none))) := same_new nb
      have hb : (upd H2 b (.lst (cutV vs (some 1) none))) b = some (.lst (cutV vs (some 1) none)) := upd_same
      have hu : TDs H (cutV vs (some 1) none) ((ks.drop 1).map msgD) := by
        have e := ht.cut (some ((1 : Nat) : Int)) none
        rw [cutA_from _ (by rw [List.length_map]; exact lks.1), ← List.map_drop] at e
        exact e
      have fb := F.sm.free nb
      have F3 : Fr H (upd H2 b (.lst (cutV vs (some 1) none))) x lv lh d := ⟨F.sm.trans sb, F.x, F.v, F.h, F.d⟩
      have W3 := hW.mono sb
      generalize cutV vs (some 1) none = us at *
      generalize upd H2 b (.lst us) = H3 at *
      have lu : us.length = (ks.drop 1).length := hu.msgs_len
      rw [List.length_drop] at lu
      have bv : b ≠ lv := fun e => by
        have z := W3.ver
        rw [← e, hb] at z
        have := W3.len
        subst e
        rw [hW.ver] at nb
        cases nb
      have bh : b ≠ lh := fun e => by
        subst e
        rw [hW.hel] at nb
        cases nb
      refine ⟨b, rfl, ⟨_, SqL.of hb⟩, ?_⟩
      refine for_list (xs := us) (fun i σ H' => ∃ y1 y2, σ = [some (.ref l), some (.ref x), y1, y2, none, none, none, none, none] ∧ Fr H H' x lv lh d ∧ WAt T.Watcher.C H' x lv lh d wd ((ks.take (1 + i)).map (·.1)) ((ks.take (1 + i)).map (·.2)) [] ∧ H' b = some (.lst us)) ?_ ?_ ?_ ?_
      · exact ⟨none, none, rfl, F3, W3, hb⟩
      · rintro i σ H' hi ⟨y1, y2, rfl, F, hW, hb⟩
        exact SqL.of hb
      · rintro i y σ H' hi ⟨y1, y2, rfl, F, hW, hb⟩
        obtain ⟨m, a, em, rfl, ha⟩ := hu.msg hi
        rw [List.getElem?_drop] at em
        have bm := kinds_bd hks.all em
        have il : i < ks.length - 1 := by have := (List.getElem?_eq_some_iff.mp hi).1; omega
        obtain ⟨dx, hx⟩ := hW.ins
        refine ⟨a, [.int m.1, .int m.2], rfl, SqT.of (F.sm _ _ ha), rfl, .int m.1, [.int m.2], rfl, .int m.2, [], rfl, rfl, ?_⟩
        have lt : ((ks.take (1 + i)).map (·.1)).length = 1 + i := by rw [List.length_map, List.length_take]; omega
        refine ⟨.ref x, rfl, x, dx, _, rfl, hx, rfl, .int m.1, rfl, .int m.2, rfl, x, lv, lh, d, wd, _, _, [], x, .int m.1, .int m.2, .int m.1, .int m.2, rfl, hW, .int _, .int _, fun bad => ?_, fun _ bad => ?_, fun _ _ six => ?_, fun a b ea eb _ _ _ H'' k1 hW' => ?_⟩
        · rw [btw_true bm.1 bm.2.1] at bad
          cases bad
        · rw [btw_true bm.2.2.1 bm.2.2.2] at bad
          cases bad
        · omega
        · cases ea
          cases eb
          have et : ks.take (1 + (i + 1)) = ks.take (1 + i) ++ [m] := by
            rw [show 1 + (i + 1) = (1 + i) + 1 from rfl, List.take_add_one, em]
            rfl
          rw [et, List.map_append, List.map_append]
          exact ⟨_, _, rfl, ⟨fun c o e => k1 c o (F.sm c o e) (ne_of_none e F.v) (ne_of_none e F.h), F.x, F.v, F.h, F.d⟩, hW', k1 _ _ hb bv bh⟩
      · rintro σ H' ⟨y1, y2, rfl, F, hW, hb⟩
        rw [List.take_of_length_le (by omega)] at hW
        exact ⟨y1, y2, rfl, F, hW⟩
    rintro σ H3 ⟨y1, y2, rfl, F, hW⟩
    refine ⟨fun σ H' => σ[1]? = some (some (.ref x)) ∧ Fr H H' x lv lh d ∧ WAt T.Watcher.C H' x lv lh d wd (ks.map (·.1)) (ks.map (·.2)) (rowsOf R), ?_, ?_⟩
    · have hrl3 := F.sm _ _ hrl
      refine ⟨rl, _, hrl3, trivial, fun od => ?_⟩
      have nx : rl ≠ x := ne_of_none hrl F.x
      have nv : rl ≠ lv := ne_of_none hrl F.v
      have nh : rl ≠ lh := ne_of_none hrl F.h
      have nd : rl ≠ d := ne_of_none hrl F.d
      have nl : l ≠ rl := ne_of hl hrl (fun z => nomatch z)
      have tpo : Tups H3 (upd H3 rl (.frz od (.dT kvs))) := Tups.put hrl3 (fun _ z => nomatch z)
      have W4 := hW.off (o := .frz od (.dT kvs)) hrl3 (fun _ z => nomatch z) nx nv nh nd
      have k4 : ∀ c o, H c = some o → c ≠ rl → (upd H3 rl (.frz od (.dT kvs))) c = some o := fun c o e n => by rw [upd_ne n]; exact F.sm c o e
      have hf4 : (upd H3 rl (.frz od (.dT kvs))) rl = some (.frz od (.dT kvs)) := upd_same
      generalize upd H3 rl (.frz od (.dT kvs)) = H4 at *
      refine ⟨.ref l, rfl, l, _, 2, .ref rl, rfl, rfl, SqL.of (k4 _ _ hl nl), atI_nat (j := 2) rfl, rl, od, rfl, .inr ⟨kvs, hf4, ?_⟩⟩
      have lkv : kvs.length = R.length := by
        have := congrArg List.length hkv.keys
        rw [List.length_map, rowsOf_keys, List.length_map] at this
        exact this
      refine for_it walk_keysT (fun i σ H' => ∃ y1 y2 y3 y4 y5 y6 y7, σ = [some (.ref l), some (.ref x), y1, y2, y3, y4, y5, y6, y7] ∧ (∀ c o, H c = some o → c ≠ rl → H' c = some o) ∧ H' rl = some (.frz od (.dT kvs)) ∧ WAt T.Watcher.C H' x lv lh d wd (ks.map (·.1)) (ks.map (·.2)) (rowsOf (R.take i))) ?_ ?_ ?_ ?_
      · exact ⟨y1, y2, none, none, none, none, none, rfl, k4, hf4, W4⟩
      · rintro i σ H' hi ⟨y1, y2, y3, y4, y5, y6, y7, rfl, k5, hf, hW⟩
        exact hf
      · rintro i y σ H0 H' hi ⟨y1, y2, y3, y4, y5, y6, y7, rfl, k5, hf, hW⟩ ⟨rfl, k, v, qa, ekv, rfl, hq⟩
        have tH : Tups H H' := fun a xs e => k5 a _ e (ne_of e hrl (fun z => nomatch z))
        have hiR : i < R.length := by omega
        obtain ⟨r, er⟩ : ∃ r, R[i]? = some r := ⟨R[i], List.getElem?_eq_getElem hiR⟩
        have rok := ok.r r (List.mem_of_getElem? er)
        have hpair := paired_get hkv ekv
        obtain ⟨rr, err, e1, tv⟩ := hpair
        have err' : rr = (r.1, ruleD r.2) := by
          have : (rowsOf R)[i]? = some (r.1, ruleD r.2) := by
            unfold rowsOf
            rw [List.getElem?_map, er]
            rfl
          rw [this] at err
          exact (Option.some.inj err).symm
        subst err'
        have e1' : k = r.1 := e1
        subst e1'
        obtain ⟨rk, tg, sk⟩ := r
        obtain ⟨si, wj, t, rfl, i0, i1, j0, j1, tok, g0, g1, sok⟩ := rok
        dsimp only at i0 i1 j0 j1 tok g0 g1 sok hq
        obtain ⟨ra, sa, rfl, hra, hsa⟩ := TD.rule (TD.mono tH _ tv)
        have kn := List.pairwise_iff_getElem.mp (show (R.map (·.1)).Nodup from ok.nd)
        refine ⟨qa, [.int si, .int wj, kV t], rfl, SqT.of hq, rfl, .int si, [.int wj, kV t], rfl, .int wj, [kV t], rfl, kV t, [], rfl, rfl, ?_⟩
        refine ⟨.ref l, rfl, l, _, 2, .ref rl, rfl, rfl, SqL.of (k5 _ _ hl nl), atI_nat (j := 2) rfl, .int si, rfl, .int wj, rfl, kV t, rfl, by show 3 ≤ sizeLine; decide, fun tt ntt => ?_⟩
        have st : Same H' (upd H' tt (.tup [.int si, .int wj, kV t])) := same_new ntt
        have W5 := hW.mono st
        have htt : (upd H' tt (.tup [.int si, .int wj, kV t])) tt = some (.tup (([Sum.inl si, Sum.inl wj, t] : List Key).map kV)) := upd_same
        have hf5 := st _ _ hf
        have hra5 := st _ _ hra
        have hsa5 := st _ _ hsa
        have k6 : ∀ c o, H c = some o → c ≠ rl → (upd H' tt (.tup [.int si, .int wj, kV t])) c = some o := fun c o e n => st _ _ (k5 c o e n)
        generalize upd H' tt (.tup [.int si, .int wj, kV t]) = H5 at *
        have ndk : (kvs.map (·.1)).Nodup := by rw [hkv.keys, rowsOf_keys]; exact ok.nd
        have evv : valV kvs [Sum.inl si, Sum.inl wj, t] = some (.ref ra) := val_nodup ndk ekv
        refine ⟨rl, .ref ra, rfl, .inr ⟨kvs, [Sum.inl si, Sum.inl wj, t], tt, .inr ⟨od, hf5⟩, rfl, htt, evv.symm⟩, ra, _, rfl, SqT.of hra5, rfl, .int tg, [.ref sa], rfl, .ref sa, [], rfl, rfl, ?_⟩
        obtain ⟨dx, hx⟩ := W5.ins
        have hb1 := held_bd hks i0 i1
        have hb2 := held_bd hks g0 g1
        have sl : sk.length ≤ 50 := by have := sok.len; omega
        have l1 : (ks.map (·.1)).length = ks.length := List.length_map _
        have nk : [Sum.inl si, Sum.inl wj, t] ∉ (rowsOf (R.take i)).map (·.1) := by
          rw [rowsOf_keys, List.map_take]
          intro z
          obtain ⟨j, hj, e⟩ := List.getElem_of_mem z
          rw [List.length_take, List.length_map] at hj
          rw [List.getElem_take] at e
          have e3 : (R.map (·.1))[i]'(by rw [List.length_map]; exact hiR) = [Sum.inl si, Sum.inl wj, t] := by
            rw [List.getElem_map]
            have := (List.getElem?_eq_some_iff.mp er).2
            rw [this]
          exact kn j i (by rw [List.length_map]; omega) (by rw [List.length_map]; exact hiR) (by omega) (e.trans e3.symm)
        have lt : (rowsOf (R.take i)).length < 1000 := by
          unfold rowsOf
          rw [List.length_map, List.length_take]
          have := ok.len
          dsimp only at this
          omega
        refine ⟨.ref x, rfl, x, dx, _, rfl, hx, rfl, .int si, rfl, .int wj, rfl, kV t, rfl, .int tg, rfl, .ref sa, rfl, x, lv, lh, d, wd, _, _, _, x, .int si, .int wj, kV t, .int tg, .ref sa, .int si, .int wj, kD t, .int tg, .tuple (sk.map kD), rfl, W5, .int _, .int _, ldK t, .int _, .tup (ne_of hsa5 hx (fun z => nomatch z)) hsa5 (lds_keys sk), kD_nd t, smallT_keys sl, lt, fun bad => ?_, fun _ bad => ?_, fun _ _ bad => ?_, fun s' tg' w' es eg ew _ _ _ _ _ _ => ⟨fun bad => ?_, fun t' ev ed _ => ⟨fun bad => ?_, fun ks' are => ⟨fun z => ?_, fun _ H' k7 hW' => ?_⟩⟩⟩⟩
        · rw [l1, btw_true i0 (by omega)] at bad
          cases bad
        · rw [l1, btw_true g0 (by omega)] at bad
          cases bad
        · rw [btw_true j0 (by omega)] at bad
          cases bad
        · cases es
          rw [hAt_held, testOk_is tok] at bad
          cases bad
        · cases es
          cases eg
          have := kD_inj ed
          subst this
          rw [hAt_held, hAt_held] at bad
          exact absurd ⟨sk, srcOk_are sok⟩ bad
        · cases es
          cases ew
          have := kD_inj ed
          subst this
          exact absurd z nk
        · cases es
          cases eg
          cases ew
          have := kD_inj ed
          subst this
          have e9 := map_kD_inj (PyData.tuple.inj are.d)
          subst e9
          have et : R.take (i + 1) = R.take i ++ [([Sum.inl si, Sum.inl wj, t], tg, sk)] := by rw [List.take_add_one, er]; rfl
          refine ⟨_, _, _, _, _, _, _, rfl, fun c o e n => k7 c o (k6 c o e n) (ne_of_none e F.d), k7 _ _ hf5 nd, ?_⟩
          rw [et, rowsOf_snoc]
          exact hW'
      · rintro σ H' ⟨y1, y2, y3, y4, y5, y6, y7, rfl, k5, hf, hW⟩
        rw [lkv, List.take_length] at hW
        refine ⟨hf, rfl, ⟨fun c o e => ?_, F.x, F.v, F.h, F.d⟩, hW.off hf (fun _ z => nomatch z) nx nv nh nd⟩
        by_cases e2 : c = rl
        · subst e2
          rw [hrl] at e
          cases e
          exact upd_same
        · rw [upd_ne e2]
          exact k5 c o e e2
    rintro σ H4 ⟨es, F, hW⟩
    exact ⟨.ref x, es, q x lv lh d H4 F.sm F.x F.v F.h F.d hW⟩
end

/-! ### taking rules away -/
def mayBe (d1 d2 d3 : PyData) : Bool := isI d1 && (isI d2 && (isStrD d3 "new" || isI d3))
def sp_may_be_rule : Sp := fun us H Q _ => ∃ (a : Addr) (p : Addr) (v1 v2 v3 : V) (d1 d2 d3 : PyData), us = [.ref a] ∧ H a = some (.tup [v1, v2, v3]) ∧ LD p H v1 d1 ∧ LD p H v2 d2 ∧ LD p H v3 d3 ∧ Q (.bl (mayBe d1 d2 d3)) H
def dropR (R : Rows) (k : List Key) : Rows := R.filter fun r => decide (r.1 ≠ k)
theorem kvd_drop {H : Hp} {k : List Key} : ∀ {kvs : List (List Key × V)} {R : Rows}, KvD H kvs R → KvD H (dropK kvs k) (dropR R k)
  | _, _, .nil => .nil
  | _, _, .cons (a := a) (b := b) (l₁ := l1) (l₂ := l2) h r => by
    have ih := kvd_drop (k := k) r
    unfold dropK dropR at ih ⊢
    by_cases e : a.1 = k
    · have e2 : b.1 = k := h.1 ▸ e
      rw [List.filter_cons_of_neg (by simp [e]), List.filter_cons_of_neg (by simp [e2])]
      exact ih
    · have e2 : ¬ b.1 = k := h.1 ▸ e
      rw [List.filter_cons_of_pos (by simp [e]), List.filter_cons_of_pos (by simp [e2])]
      exact .cons h ih
theorem dropR_keys (R : Rows) (k : List Key) : (dropR R k).map (·.1) = (R.map (·.1)).filter fun x => decide (x ≠ k) := by
  unfold dropR
  rw [List.filter_map]
  rfl
def sp_remove_rule (C CX : Addr) : Sp := fun us H Q E => ∃ (x lv lh d : Addr) (n : Int) (vs hs : List Int) (R : Rows) (p : Addr) (v1 v2 v3 : V) (d1 d2 d3 : PyData), us = [.ref x, v1, v2, v3] ∧ WAt C H x lv lh d n vs hs R ∧ LD p H v1 d1 ∧ LD p H v2 d2 ∧ LD p H v3 d3 ∧
  (mayBe d1 d2 d3 = false → ∀ T, H T = none → ∀ e, upd H T (.tup [v1, v2, v3]) e = none → E (.ref CX) (some e) (upd (upd H T (.tup [v1, v2, v3])) e (.xd [(("rule" : Str), .ref T)]))) ∧
  ∀ (s w : Int) (t : Key), v1 = .int s → v2 = .int w → v3 = kV t → mayBe d1 d2 d3 = true →
    ([Sum.inl s, Sum.inl w, t] ∉ R.map (·.1) → ∀ T, H T = none → ∀ e, upd H T (.tup [v1, v2, v3]) e = none → E (.ref CX) (some e) (upd (upd H T (.tup [v1, v2, v3])) e (.xd [(("rule" : Str), .ref T)]))) ∧
    ([Sum.inl s, Sum.inl w, t] ∈ R.map (·.1) → ∀ H', (∀ c o, H c = some o → c ≠ d → H' c = some o) → WAt C H' x lv lh d n vs hs (dropR R [Sum.inl s, Sum.inl w, t]) → Q .non H')
theorem isI_int {p : Addr} {H : Hp} {v : V} {d : PyData} (hv : LD p H v d) (h : isI d = true) : ∃ n, v = .int n ∧ d = .int n := by
  cases hv with
  | int i => exact ⟨i, rfl, rfl⟩
  | _ => cases h
section
variable {P : Program} {w : World} {K : PySem.W.Frag} {mg : Str → Option Value} {base : Heap}
theorem G_is_integer (T : Tx K mg) : FnG P w K mg base CX0 1 T.is_integer.f T.is_integer.fd ["value"] sp_is_integer := ok_is_integer T.is_integer.F T.m_isinstance T.m_int T.m_bool
abbrev N_may_be_rule : List Str := ["rule", "state", "word", "test"]
theorem sc_may_be_rule : FnScope N_may_be_rule ["rule"] (defScope s_may_be_rule) := ⟨rfl, rfl, rfl, by decide +kernel, rfl, by decide +kernel, by decide +kernel⟩
theorem G_may_be_rule (T : Tx K mg) : FnG P w K mg base CX0 2 T.may_be_rule.f T.may_be_rule.fd ["rule"] sp_may_be_rule := by
  refine okG T.may_be_rule.F sc_may_be_rule (fun vs H Q E h => ?_) (fun cdv A outer s H vs Q E gd hr h => ?_)
  · obtain ⟨a, p, v1, v2, v3, d1, d2, d3, rfl, _⟩ := h
    rfl
  · obtain ⟨a, p, v1, v2, v3, d1, d2, d3, rfl, ha, h1, h2, h3, q⟩ := h
    refine ⟨_, 
      (pss_cons (ps_asg (pv 0) (pg_tup rfl (pgs_cons (pg_name (i := 1) sc_may_be_rule.nd rfl (.inl rfl)) (pgs_cons (pg_name (i := 2) sc_may_be_rule.nd rfl (.inl rfl)) (pgs_cons (pg_name (i := 3) sc_may_be_rule.nd rfl (.inl rfl)) pgs_nil))))) -- state, word, test = rule
      (pss_one (ps_ret (pe_and (pe_callG (G_is_integer T) gd (hr.mono (by decide)) rfl T.is_integer.g T.is_integer.F.kp T.is_integer.b .nil pass0 (pa_cons (pv 1) pa_nil)) (pe_and (pe_callG (G_is_integer T) gd (hr.mono (by decide)) rfl T.is_integer.g T.is_integer.F.kp T.is_integer.b .nil pass0 (pa_cons (pv 2) pa_nil)) (pe_one (pe_or (pe_cmpR (op_eqS' hr.units) (pv 3) (pe_glob (v := .str "new") rfl T.g_NEW ⟨_, rfl⟩) (nomark _)) (pe_one (pe_callG (G_is_integer T) gd (hr.mono (by decide)) rfl T.is_integer.g T.is_integer.F.kp T.is_integer.b .nil pass0 (pa_cons (pv 3) pa_nil))))))))) -- return is_integer(state) and is_integer(word) and (test == NEW or is_integer(test))
      ) , ?_⟩
    refine ⟨.ref a, rfl, a, _, rfl, SqT.of ha, rfl, v1, [v2, v3], rfl, v2, [v3], rfl, v3, [], rfl, rfl, ?_⟩
    refine ⟨v1, rfl, p, v1, d1, rfl, h1, _, rfl, ?_⟩
    unfold mayBe at q
    cases e1 : isI d1 with
    | false =>
      rw [e1] at q
      exact iteF q
    | true =>
      rw [e1, Bool.true_and] at q
      refine iteT ⟨v2, rfl, p, v2, d2, rfl, h2, _, rfl, ?_⟩
      cases e2 : isI d2 with
      | false =>
        rw [e2] at q
        exact iteF q
      | true =>
        rw [e2, Bool.true_and] at q
        refine iteT ⟨v3, rfl, p, d3, "new", h3, rfl, _, rfl, ?_⟩
        cases e3 : isStrD d3 "new" with
        | true =>
          rw [e3] at q
          exact iteT q
        | false =>
          rw [e3] at q
          exact iteF ⟨v3, rfl, p, v3, d3, rfl, h3, q⟩
abbrev N_Watcher_remove_rule : List Str := ["self", "state", "word", "test", "rule"]
theorem sc_Watcher_remove_rule : FnScope N_Watcher_remove_rule ["self", "state", "word", "test"] (defScope s_Watcher_remove_rule) := ⟨rfl, rfl, rfl, by decide +kernel, rfl, by decide +kernel, by decide +kernel⟩
theorem G_Watcher_remove_rule (T : Tx K mg) : FnG P w K mg base (L2.CX P w) 3 T.Watcher_remove_rule.f T.Watcher_remove_rule.fd ["self", "state", "word", "test"] (sp_remove_rule T.Watcher.C T.UnknownRule.C) := by
  refine okGX T.Watcher_remove_rule.F sc_Watcher_remove_rule (fun vs H Q E h => ?_) (fun cdv A outer s H vs Q E gd hr h => ?_)
  · obtain ⟨x, lv, lh, d, n, vs, hs, R, p, v1, v2, v3, d1, d2, d3, rfl, _⟩ := h
    rfl
  · obtain ⟨x, lv, lh, d, n, vs, hs, R, p, v1, v2, v3, d1, d2, d3, rfl, hW, h1, h2, h3, q1, q2⟩ := h
    refine ⟨_, 
      (pss_cons (ps_set (i := 4) sc_Watcher_remove_rule.nd rfl (.inl rfl) (pe_tup (pa_cons (pv 1) (pa_cons (pv 2) (pa_cons (pv 3) pa_nil))))) -- rule = (state, word, test)
      (pss_cons (ps_if (PW.pt (pw_or (pt_not (pt_val (pe_callG (G_may_be_rule T) gd (hr.mono (by decide)) rfl T.may_be_rule.g T.may_be_rule.F.kp T.may_be_rule.b .nil pass0 (pa_cons (pv 4) pa_nil)))) (pw_or1 (pt_cmp (pc_dnotin (hu_of hr) (pv 4) (pe_fld (pv 0) rfl)))))) 
        (pss_one (L2.ps_raiseE (W := fun cls d _ H => E cls d H) rfl T.UnknownRule.e (show Room 1 _ from hr.mono (by decide)) (takes_of rfl rfl rfl rfl) (by exact (pa_cons (pv 4) pa_nil)))) -- raise UnknownRule(rule)
         pss_nil) -- if not may_be_rule(rule) or rule not in self._rules:
      (pss_one (ps_ddelT (hu_of hr) (pe_fld (pv 0) rfl) (pv 4))) -- del self._rules[rule]
      )) , ?_⟩
    obtain ⟨dx, hx⟩ := hW.ins
    have cl := T.Watcher.cl
    refine ⟨v1, rfl, v2, rfl, v3, rfl, by show 3 ≤ sizeLine; decide, fun TT nT => ?_⟩
    have sT : Same H (upd H TT (.tup [v1, v2, v3])) := same_new nT
    have hT : upd H TT (.tup [v1, v2, v3]) TT = some (.tup [v1, v2, v3]) := upd_same
    have m : ∀ {v : V} {d : PyData}, LD p H v d → LD p (upd H TT (.tup [v1, v2, v3])) v d := fun h => LD.mono (But.same sT) _ h
    refine ⟨.ref TT, rfl, TT, p, v1, v2, v3, d1, d2, d3, rfl, hT, m h1, m h2, m h3, _, rfl, ?_⟩
    cases hb : mayBe d1 d2 d3 with
    | false => exact iteT ⟨.ref TT, rfl, .ref TT, rfl, fun e he => q1 hb TT nT e he⟩
    | true =>
      refine iteF ?_
      have hb' := hb
      unfold mayBe at hb'
      rw [Bool.and_eq_true, Bool.and_eq_true] at hb'
      obtain ⟨b1, b2, b3⟩ := hb'
      obtain ⟨s', rfl, rfl⟩ := isI_int h1 b1
      obtain ⟨w', rfl, rfl⟩ := isI_int h2 b2
      obtain ⟨t, rfl⟩ : ∃ t : Key, v3 = kV t := by
        rw [Bool.or_eq_true] at b3
        rcases b3 with z | z
        · cases h3 with
          | str x => exact ⟨Sum.inr x, rfl⟩
          | _ => cases z
        · obtain ⟨i, rfl, _⟩ := isI_int h3 z
          exact ⟨Sum.inl i, rfl⟩
      obtain ⟨q3, q4⟩ := q2 s' w' t rfl rfl rfl hb
      obtain ⟨kvs, hd, hkv⟩ := hW.rul
      have hT' : upd H TT (.tup [.int s', .int w', kV t]) TT = some (.tup (([Sum.inl s', Sum.inl w', t] : List Key).map kV)) := upd_same
      have g := DGet.t (k := [Sum.inl s', Sum.inl w', t]) (sT _ _ hd) hT'
      refine ⟨.ref TT, rfl, .ref x, rfl, x, T.Watcher.C, dx, _, .ref d, rfl, sT _ _ hx, cl, T.W.n4, rfl, d, _, rfl, g, _, rfl, ?_⟩
      by_cases hk : [Sum.inl s', Sum.inl w', t] ∈ R.map (·.1)
      · obtain ⟨v, ev, _⟩ := hkv.val hk
        rw [ev]
        refine iteF ?_
        have hW2 := hW.mono sT
        generalize upd H TT (.tup [.int s', .int w', kV t]) = H2 at *
        have hd2 := sT _ _ hd
        refine ⟨.ref x, rfl, x, T.Watcher.C, dx, _, .ref d, rfl, sT _ _ hx, cl, T.W.n4, rfl, .ref TT, rfl, d, kvs, [Sum.inl s', Sum.inl w', t], TT, rfl, hd2, rfl, hT', by rw [ev]; rfl, ?_⟩
        have tp : Tups H2 (upd H2 d (.dT (dropK kvs [Sum.inl s', Sum.inl w', t]))) := Tups.put hd2 (fun _ z => by cases z)
        have vd : lv ≠ d := ne_of hW2.ver hd2 (fun z => nomatch z)
        have hd' : lh ≠ d := ne_of hW2.hel hd2 (fun z => nomatch z)
        have xd : x ≠ d := ne_of (sT _ _ hx) hd2 (fun z => nomatch z)
        refine q4 hk _ (fun c o e nc => ?_) { ins := ⟨dx, ?_⟩, ver := ?_, hel := ?_, rul := ⟨_, upd_same, KvD.mono tp (KvD.mono (Tups.same sT) (kvd_drop hkv))⟩, ne := hW.ne, rk := ?_, nd := ?_, len := ⟨hW.len.1, hW.len.2.1, Nat.le_trans (List.length_filter_le _ _) hW.len.2.2⟩ }
        · rw [upd_ne nc]
          exact sT _ _ e
        · rw [upd_ne xd]
          exact sT _ _ hx
        · rw [upd_ne vd]
          exact hW2.ver
        · rw [upd_ne hd']
          exact hW2.hel
        · intro k hk2
          rw [dropR_keys] at hk2
          exact hW.rk k (List.mem_filter.mp hk2).1
        · rw [dropR_keys]
          exact hW.nd.filter _
      · have en : valV kvs [Sum.inl s', Sum.inl w', t] = none := by
          unfold valV
          rw [List.find?_eq_none.mpr]
          · rfl
          · intro y hy
            simp only [decide_eq_true_eq]
            intro e
            exact hk (e ▸ hkv.keys ▸ List.mem_map.mpr ⟨y, hy, rfl⟩)
        rw [en]
        exact iteT ⟨.ref TT, rfl, .ref TT, rfl, fun e he => q3 hk TT nT e he⟩
end

/-! ### the law's rank of a rule -/
section
open PySem.W PySem.Calls
variable {P : Program} {w : World} {K : PySem.W.Frag} {mg : Str → Option Value} {A : Around} {E : Value → Shared → Prop} {s : Shared}
theorem ldR {L f : Addr} {cd : Value} {m : Str → Option Value} {x : Str} {pos : Pos} {v : Value} {Q : Value → Shared → Prop} (hn : s.heap.Ns L m) (hv : m x = some v) (h : Q v s)
    (hl : (envOfC "_law_rank" (defScope s_law_rank) L f cd).kindOf x = some .local := by rfl) (hd : (x == ("__debug__" : Str)) = false := by decide) :
    wpAny (model P w) A (eval (.Name x pos) (envOfC "_law_rank" (defScope s_law_rank) L f cd)) Q E s := wpAny_Name (wpAny_loadName_local rfl hl hn hv h) hd
theorem sbR {L f a : Addr} {cd : Value} {m : Str → Option Value} {k : Int} {kd : Nat} {p cp pos : Pos} {its : List Value} {j : Nat} {v : Value} {Q : Value → Shared → Prop} (hn : s.heap.Ns L m) (hv : m "rule" = some (.ref a)) (ht : IsTup s.heap a its.toArray)
    (h1 : -2 ^ 63 ≤ k) (h2 : k < 2 ^ 63) (h3 : seqIndex? k its.length = some j) (h4 : its[j]? = some v) (h : ∀ tk, Q v { s with toks := tk }) :
    wpAny (model P w) A (eval (.Subscript (.Name "rule" p) (.Constant (.int k) kd cp) pos) (envOfC "_law_rank" (defScope s_law_rank) L f cd)) Q E s :=
  PyProof.Rows.Subscript_ (ldR hn hv (wpAny_Constant_int (item_tupleL (s := { s with toks := _ }) ht h1 h2 h3 h4 (h _))))
theorem rank_key {f a : Addr} {fd : FuncData} {t0 t1 : Tok} {i j : Int} {u : Value} {r : Int} (F : Fun K "_law_rank" "_law_rank" s_law_rank f fd) (b : ∀ (s : Shared) (v : Value), BindsTo s fd ⟨[v], []⟩ [("rule", v)])
    (X : K.In s.heap) (G : s.heap.Ns mainGlobals mg) (hlim : s.heap.NoLimit) (hroom : A.depth < recursionLimit) (hh : A.handled = none)
    (ht : IsTup s.heap a #[.int i t0, .int j t1, u]) (hu : (∃ t, u = .int r t) ∨ ((∃ t, u = .str "new" t) ∧ r = 9)) :
    wpAny (model P w) A (call (.ref f) [.ref a]) (KeyPure (.tuple [.int i, .int j, .int r]) s) (fun _ _ => False) s := by
  obtain ⟨oc, od, kV, doc, pm, an, cdv, ct, osl, e, lk, hcd⟩ := F.ex
  subst e
  apply wpAny_call
  refine Att.call_fn (binds := [("rule", .ref a)]) X hlim lk hcd hroom (b s (.ref a)) (by rfl) (fun s1 IC => ?_) rfl rfl rfl
  obtain ⟨h1, tk1, rfl⟩ := IC.toInCall.same
  have k1 : ∀ c o, s.heap.get? c = some o → h1.get? c = some o := IC.toInCall.keep
  have n1 := IC.toInCall.ns
  have ht1 : IsTup h1 a [Value.int i t0, .int j t1, u].toArray := by
    obtain ⟨o, ho, r⟩ := ht
    exact ⟨o, k1 _ _ ho, r⟩
  have vu : ∀ (x y z : Value) (tk : Nat), (∃ t, x = .int i t) → (∃ t, y = .int j t) → (∃ t, z = .int r t) → [x, y, z].length ≤ sizeLine ∧
      KeyPure (.tuple [.int i, .int j, .int r]) s (.ref h1.objs.size) { s with heap := h1.push { cls := .type "tuple", data := .seq [x, y, z].toArray }, toks := tk } := by
    rintro x y z tk ⟨tx, rfl⟩ ⟨ty, rfl⟩ ⟨tz, rfl⟩
    refine ⟨by show 3 ≤ sizeLine; decide, _, tk, rfl, fun c o q => Heap.get?_push_of_some _ (k1 c o q), ?_⟩
    exact Reads.tuple (Heap.get?_push_size _ rfl) rfl rfl (.cons (.int i tx) (.cons (.int j ty) (.cons (.int r tz) .nil)))
  show wpAny _ _ (execs (_ :: []) _) _ _ _
  refine wpAny_execs_cons (wpAny_Return_some (wpAny_Tuple_spliced ?_))
  refine spl_cons (by rfl) (sbR n1 (by rfl) ht1 (by decide) (by decide) (j := 0) rfl rfl fun tk2 => ?_)
  refine spl_cons (by rfl) (sbR (s := { s with heap := h1, toks := tk2 }) n1 (by rfl) ht1 (by decide) (by decide) (j := 1) rfl rfl fun tk3 => ?_)
  refine spl_cons (by rfl) (wpAny_IfExp (wpAny_isTrue_Compare1 (sbR (s := { s with heap := h1, toks := tk3 }) n1 (by rfl) ht1 (by decide) (by decide) (j := 2) rfl rfl fun tk4 => wpAny_Constant_str ?_) rfl))
  rcases hu with ⟨t, rfl⟩ | ⟨⟨t, rfl⟩, rfl⟩
  · refine PySem.EqMixed.eq_int_str (wpAny_truthy_bool ?_)
    refine sbR (s := { s with heap := h1, toks := _ }) n1 (by rfl) ht1 (by decide) (by decide) (j := 2) rfl rfl fun tk5 => ?_
    refine spl_nil ?_
    exact vu _ _ _ _ ⟨_, rfl⟩ ⟨_, rfl⟩ ⟨_, rfl⟩
  · refine PyProof.Rows.eq_str (wpAny_truthy_bool ?_)
    refine wpAny_Constant_int ?_
    refine spl_nil ?_
    exact vu _ _ _ _ ⟨_, rfl⟩ ⟨_, rfl⟩ ⟨_, rfl⟩
end
def rank9 : List Key → List Int
  | [Sum.inl i, Sum.inl j, Sum.inl r] => [i, j, r]
  | [Sum.inl i, Sum.inl j, Sum.inr _] => [i, j, 9]
  | _ => [0, 0, 0]
theorem rank9_cons (k : List Key) : ∃ x r, rank9 k = x :: r := by
  unfold rank9
  split <;> exact ⟨_, _, rfl⟩
theorem rank9_len (k : List Key) : (rank9 k).length = 3 := by
  unfold rank9
  split <;> rfl
theorem kf9_of {X : Cx} {f : Addr} {fd : FuncData} (F : Fun X.K "_law_rank" "_law_rank" s_law_rank f fd) (b : ∀ (s : Shared) (v : Value), BindsTo s fd ⟨[v], []⟩ [("rule", v)]) : KeyFn X f rank9 RK := by
  refine ⟨fun s A a its k kin ns nl dp hd hk hv it => ?_, rank9_cons, fun a b => by rw [rank9_len, rank9_len]⟩
  obtain ⟨i, j, t, rfl, ht⟩ := hk
  obtain ⟨u0, us, rfl, r0, hv⟩ : ∃ u0 us, its = u0 :: us ∧ RelV (.int i) u0 ∧ Vals [.int j, kV t] us := by
    cases hv with
    | cons r rr => exact ⟨_, _, rfl, r, rr⟩
  obtain ⟨u1, u2, rfl, r1, r2⟩ := vals2 hv
  obtain ⟨t0, rfl⟩ := r0
  obtain ⟨t1, rfl⟩ := r1
  rcases ht with ⟨r, rfl⟩ | rfl
  · obtain ⟨t2, rfl⟩ := r2
    exact rank_key F b kin ns nl (by omega) hd it (.inl ⟨t2, rfl⟩)
  · obtain ⟨t2, rfl⟩ := r2
    exact rank_key F b kin ns nl (by omega) hd it (.inr ⟨⟨t2, rfl⟩, rfl⟩)

/-! ### what a watcher shows -/
theorem kD_keyD : kD = keyD := by
  funext k
  cases k <;> rfl
def rowD (R : Rows) (k : List Key) : PyData := itemD (k, lookR R k)
def orderedD (R : List PRule) : List PyData := (srt rank9 (R.map (·.1))).map (rowD (rowsOf R))
def sp_law_ordered : Sp := fun us H Q _ => ∃ (l kl rl : Addr) (PL : Plan), us = [.ref l] ∧ PlanAt H l kl rl PL ∧ (∀ k ∈ PL.rules.map (·.1), RK k) ∧ PL.rules.length ≤ 100 ∧
  ∀ (p : Addr) (as : List Addr) H', Same H H' → H p = none → H' p = some (.lst (as.map V.ref)) → TDs H' (as.map V.ref) (orderedD PL.rules) → Q (.ref p) H'
theorem isKs_keys {H : Hp} : ∀ {kvs : List (List Key × V)} {bs : List Addr}, IsKeys H kvs bs → IsKs H (kvs.map (·.1)) bs
  | _, _, .nil => .nil
  | _, _, .cons h r => .cons h (isKs_keys r)
theorem isKs_mono {H H' : Hp} (s : Same H H') : ∀ {ks : List (List Key)} {bs : List Addr}, IsKs H ks bs → IsKs H' ks bs
  | _, _, .nil => .nil
  | _, _, .cons h r => .cons (s _ _ h) (isKs_mono s r)
section
variable {P : Program} {w : World} {K : PySem.W.Frag} {mg : Str → Option Value} {base : Heap}
abbrev N_law_ordered_rules : List Str := ["plan", "rule"]
theorem sc_law_ordered_rules : FnScope N_law_ordered_rules ["plan"] (defScope s_law_ordered_rules) := ⟨rfl, rfl, rfl, by decide +kernel, rfl, by decide +kernel, by decide +kernel⟩
theorem G_law_ordered_rules (T : Tx K mg) : FnG P w K mg base CX0 2 T.law_ordered_rules.f T.law_ordered_rules.fd ["plan"] sp_law_ordered := by
  refine okG T.law_ordered_rules.F sc_law_ordered_rules (fun vs H Q E h => ?_) (fun cdv A outer s H vs Q E gd hr h => ?_)
  · obtain ⟨l, kl, rl, PL, rfl, _⟩ := h
    rfl
  · obtain ⟨l, kl, rl, PL, rfl, hP, hrk, hlen, q⟩ := h
    refine ⟨_, 
      (pss_one (ps_ret (pe_lc (own := [("rule", 1)]) (g := gName 1) rfl sc_law_ordered_rules.nd (pi_list (pe_callBK (call_sortTL rfl hr (kf9_of T.law_rank.F T.bt_law_rank)) (by rfl) T.m_sorted PyProof.Rows.boot_sorted (pa_cons (pe_callTy (call_list_dT rfl) (by rfl) T.m_list (by decide +kernel) (pa_cons (pe_ix ix_list (pv 0) pe_int (fun _ _ => rfl)) pa_nil)) pa_nil) (pk_cons (pe_glob (v := .ref T.law_rank.f) rfl T.law_rank.g rfl) pk_nil))) (blkOk_by (N := N_law_ordered_rules) (sc := defScope s_law_ordered_rules) (by decide +kernel)) (fun _ _ _ _ _ => (pg_name (i := 1) sc_law_ordered_rules.nd rfl (.inl rfl))) (fun _ _ _ _ _ => pts_nil) (fun _ _ _ _ _ => (pe_tup (pa_cons (pv 1) (pa_cons (pe_dget (hu_of hr) (pe_ix (r := rIxL K) ix_list (pv 0) pe_int (fun _ _ => rfl)) (pv 1) (fun _ _ => rfl)) pa_nil))))))) -- return [(rule, plan[2][rule]) for rule in sorted(list(plan[2]), key=_law_rank)]
       , ?_⟩
    have hl := hP.at_
    obtain ⟨kvs, hd, hkv⟩ := hP.rul
    have ek : kvs.map (·.1) = PL.rules.map (·.1) := hkv.keys.trans (rowsOf_keys _)
    refine ⟨.ref l, rfl, l, _, 2, .ref rl, rfl, rfl, SqL.of hl, atI_nat (j := 2) rfl, rl, kvs, rfl, .inl hd, fun p0 bs np0 isk => ?_⟩
    have s0 : Same H (upd H p0 (.lst (bs.map V.ref))) := same_new np0
    have hp0 : upd H p0 (.lst (bs.map V.ref)) p0 = some (.lst (bs.map V.ref)) := upd_same
    have isk0 := isKs_mono s0 (isKs_keys isk)
    rw [ek] at isk0
    generalize upd H p0 (.lst (bs.map V.ref)) = H0 at *
    refine ⟨p0, _, bs, rfl, rfl, hp0, isk0, hrk, fun p1 cs np1 isk1 => ?_⟩
    have s1 : Same H0 (upd H0 p1 (.lst (cs.map V.ref))) := same_new np1
    have hp1 : upd H0 p1 (.lst (cs.map V.ref)) p1 = some (.lst (cs.map V.ref)) := upd_same
    have s01 := s0.trans s1
    generalize upd H0 p1 (.lst (cs.map V.ref)) = H1 at *
    refine ⟨p1, rfl, ⟨_, SqL.of hp1⟩, fun D nD => ?_⟩
    have lk : (srt rank9 (PL.rules.map (·.1))).length ≤ 100 := by rw [srt_len, List.length_map]; exact hlen
    refine lc_list (K := K) (a := p1) (xs := cs.map V.ref) (fun i H' => Same H1 H' ∧ ∃ as : List Addr, H' D = some (.lst (as.map V.ref)) ∧ TDs H' (as.map V.ref) (((srt rank9 (PL.rules.map (·.1))).take i).map (rowD (rowsOf PL.rules)))) ?_ ?_ ?_ ?_
    · exact ⟨same_new nD, [], upd_same, .nil⟩
    · rintro i H' hi ⟨sm, _⟩
      exact SqL.of (sm _ _ hp1)
    · rintro i y H' hi ⟨sm, as, hD, td⟩
      rw [List.getElem?_map] at hi
      obtain ⟨b, hb, rfl⟩ := Option.map_eq_some_iff.mp hi
      obtain ⟨k, ek2, hbk⟩ := isKs_at isk1 hb
      have hkR : k ∈ (rowsOf PL.rules).map (·.1) := by
        rw [rowsOf_keys]
        exact srt_mem.mp (List.mem_of_getElem? ek2)
      obtain ⟨v, ev, tv⟩ := hkv.val hkR
      have s2 := s01.trans sm
      have hb' := (s1.trans sm) _ _ hbk
      have g := DGet.t (k := k) (s2 _ _ hd) hb'
      rw [ev] at g
      refine ⟨rfl, .ref b, rfl, .ref l, rfl, l, _, 2, .ref rl, rfl, rfl, SqL.of (s2 _ _ hl), atI_nat (j := 2) rfl, .ref b, rfl, rl, v, rfl, g, by show 2 ≤ sizeLine; decide, fun t nt => ?_⟩
      have s3 : Same H' (upd H' t (.tup [.ref b, v])) := same_new nt
      have ht : upd H' t (.tup [.ref b, v]) t = some (.tup [.ref b, v]) := upd_same
      generalize upd H' t (.tup [.ref b, v]) = H2 at *
      have la : as.length ≤ i := by
        have := td.length
        rw [List.length_map, List.length_map, List.length_take] at this
        omega
      have ii := (List.getElem?_eq_some_iff.mp ek2).1
      refine ⟨_, s3 _ _ hD, by rw [List.length_map]; exact small1000 (by omega), fun c o e => ?_, as ++ [t], ?_, ?_⟩
      · rw [upd_ne (ne_of_none e nD)]
        exact s3 _ _ (sm _ _ e)
      · rw [upd_same, List.map_append]
        rfl
      · have tp : Tups H2 (upd H2 D (.lst (as.map V.ref ++ [.ref t]))) := Tups.put (s3 _ _ hD) (fun _ z => by cases z)
        rw [List.take_add_one, ek2, List.map_append, List.map_append]
        refine (TDs.mono tp _ (td.mono (Tups.same s3))).app (.cons (.tup (tp _ _ ht) (.cons (.tup (tp _ _ (s3 _ _ hb')) ?_) (.cons ?_ .nil))) .nil)
        · exact tds_keys k
        · exact ((tv.mono (Tups.same (s2.trans s3))).mono tp)
    · rintro H' ⟨sm, as, hD, td⟩
      have lc : (cs.map V.ref).length = (srt rank9 (PL.rules.map (·.1))).length := by rw [List.length_map]; exact (Paired.length isk1).symm
      rw [lc, List.take_length] at td
      exact q D as H' (s01.trans sm) (s01.free nD) hD td
end

/-! ### the same rules in the same order -/
def KB (k : List Key) : Prop := ∃ (i j : Int) (t : Key), k = [Sum.inl i, Sum.inl j, t] ∧ ((∃ r : Int, t = Sum.inl r ∧ 0 ≤ r ∧ r < 3) ∨ t = Sum.inr ("new" : Str))
theorem KB.rk {k : List Key} (h : KB k) : RK k := by
  obtain ⟨i, j, t, rfl, ⟨r, rfl, _, _⟩ | rfl⟩ := h
  · exact ⟨i, j, _, rfl, .inl ⟨r, rfl⟩⟩
  · exact ⟨i, j, _, rfl, .inr rfl⟩
theorem le3 (a b c a' b' c' : Int) : ([a, b, c] ≤ [a', b', c']) ↔ (a < a' ∨ (a = a' ∧ (b < b' ∨ (b = b' ∧ c ≤ c')))) := by
  simp only [List.cons_le_cons_iff, List.le_refl, and_true]
  omega
theorem rank_le {a b : List Key} (ha : KB a) (hb : KB b) : rankK a ≤ rankK b ↔ rank9 a ≤ rank9 b := by
  obtain ⟨i, j, t, rfl, ⟨r, rfl, r0, r1⟩ | rfl⟩ := ha <;> obtain ⟨i', j', t', rfl, ⟨r', rfl, r0', r1'⟩ | rfl⟩ := hb <;> (simp only [rankK, rank9, le3] <;> omega)
theorem rank_anti {a b : List Key} (ha : KB a) (hb : KB b) (h1 : rank9 a ≤ rank9 b) (h2 : rank9 b ≤ rank9 a) : a = b := by
  obtain ⟨i, j, t, rfl, ⟨r, rfl, r0, r1⟩ | rfl⟩ := ha <;> obtain ⟨i', j', t', rfl, ⟨r', rfl, r0', r1'⟩ | rfl⟩ := hb <;> simp only [rank9, le3] at h1 h2
  · have e1 : i = i' := by omega
    have e2 : j = j' := by omega
    have e3 : r = r' := by omega
    rw [e1, e2, e3]
  · omega
  · omega
  · have e1 : i = i' := by omega
    have e2 : j = j' := by omega
    rw [e1, e2]
theorem list_le_total (a b : List Int) : a ≤ b ∨ b ≤ a := List.le_total a b
theorem srt_pw (rank : List Key → List Int) (ks : List (List Key)) : (srt rank ks).Pairwise fun a b => rank a ≤ rank b := by
  have h := List.pairwise_mergeSort (le := fun a b => decide (rank a ≤ rank b)) (fun a b c h1 h2 => decide_eq_true (List.le_trans (of_decide_eq_true h1) (of_decide_eq_true h2))) (fun a b => by
    rw [Bool.or_eq_true, decide_eq_true_iff, decide_eq_true_iff]
    exact list_le_total _ _) ks
  exact h.imp fun z => of_decide_eq_true z
theorem srt_eq {k1 k2 : List (List Key)} (p : k1.Perm k2) (h : ∀ k ∈ k1, KB k) : srt rankK k1 = srt rank9 k2 := by
  have m1 : ∀ k ∈ srt rankK k1, KB k := fun k hk => h k (srt_mem.mp hk)
  have m2 : ∀ k ∈ srt rank9 k2, KB k := fun k hk => h k (p.mem_iff.mpr (srt_mem.mp hk))
  refine List.Perm.eq_of_pairwise (le := fun a b => rank9 a ≤ rank9 b) (fun a b ha hb => rank_anti (m1 a ha) (m2 b hb)) ?_ (srt_pw _ _) (((List.mergeSort_perm k1 _).trans p).trans (List.mergeSort_perm k2 _).symm)
  exact (srt_pw rankK k1).imp_of_mem fun ha hb z => (rank_le (m1 _ ha) (m1 _ hb)).mp z
theorem lookR_mem {R : Rows} (nd : (R.map (·.1)).Nodup) {k : List Key} {d : PyData} (h : (k, d) ∈ R) : lookR R k = d := by
  induction R with
  | nil => cases h
  | cons p r ih =>
    unfold lookR
    have nd' := List.nodup_cons.mp nd
    rcases List.mem_cons.mp h with e | e
    · subst e
      rw [List.find?_cons_of_pos (by simp)]
      rfl
    · have : ¬ p.1 = k := fun z => nd'.1 (List.mem_map.mpr ⟨_, e, z.symm⟩)
      rw [List.find?_cons_of_neg (by simpa using this)]
      exact ih nd'.2 e
theorem lookR_perm {R R' : Rows} (p : R.Perm R') (nd : (R.map (·.1)).Nodup) {k : List Key} (hk : k ∈ R.map (·.1)) : lookR R k = lookR R' k := by
  obtain ⟨⟨k', d⟩, h, rfl⟩ := List.mem_map.mp hk
  rw [lookR_mem nd h, lookR_mem ((p.map _).nodup_iff.mp nd) (p.mem_iff.mp h)]
theorem sorted_same {R : Rows} {PR : List PRule} (p : R.Perm (rowsOf PR)) (nd : (R.map (·.1)).Nodup) (h : ∀ k ∈ PR.map (·.1), KB k) : (sortR R).map itemD = orderedD PR := by
  have pk : (R.map (·.1)).Perm (PR.map (·.1)) := rowsOf_keys PR ▸ p.map _
  unfold sortR orderedD
  rw [srt_eq pk (fun k hk => h k (pk.mem_iff.mp hk)), List.map_map]
  refine List.map_congr_left fun k hk => ?_
  have hk' : k ∈ R.map (·.1) := pk.mem_iff.mpr (srt_mem.mp hk)
  show itemD (k, lookR R k) = itemD (k, lookR (rowsOf PR) k)
  rw [lookR_perm p nd hk']
/-- what may be compared -/
def LayK (k : Key) : Prop := (∃ n, k = Sum.inl n) ∨ k = Sum.inr ("new" : Str) ∨ k = Sum.inr ("value" : Str)
theorem layK {k : Key} (h : LayK k) : (keyD k).canLay0 = true ∧ (keyD k).depth = 0 := by
  rcases h with ⟨n, rfl⟩ | rfl | rfl
  · exact ⟨rfl, rfl⟩
  · exact ⟨by decide +kernel, rfl⟩
  · exact ⟨by decide +kernel, rfl⟩
theorem layKs : ∀ {ks : List Key}, (∀ k ∈ ks, LayK k) → PyData.canLayAll0 (ks.map keyD) = true ∧ PyData.depthAll (ks.map keyD) = 0
  | [], _ => ⟨rfl, rfl⟩
  | k :: r, h => by
    obtain ⟨a, b⟩ := layK (h k List.mem_cons_self)
    obtain ⟨c, d⟩ := layKs fun x hx => h x (List.mem_cons_of_mem _ hx)
    exact ⟨by simp only [List.map_cons, PyData.canLayAll0, a, c, Bool.and_self], by simp only [List.map_cons, PyData.depthAll, b, d]; rfl⟩
def RowLay (PR : List PRule) : Prop := ∀ r ∈ PR, (∀ k ∈ r.1, LayK k) ∧ ∀ k ∈ r.2.2, LayK k
theorem lay_items : ∀ {L : List PyData}, (∀ d ∈ L, d.canLay0 = true ∧ d.depth ≤ 10) → PyData.canLayAll0 L = true ∧ PyData.depthAll L ≤ 10
  | [], _ => ⟨rfl, Nat.zero_le _⟩
  | d :: r, h => by
    obtain ⟨a, b⟩ := h d List.mem_cons_self
    obtain ⟨c, e⟩ := lay_items fun x hx => h x (List.mem_cons_of_mem _ hx)
    exact ⟨by simp only [PyData.canLayAll0, a, c, Bool.and_self], by simp only [PyData.depthAll]; omega⟩
theorem ordered_lay {PR : List PRule} (nd : (PR.map (·.1)).Nodup) (h : RowLay PR) : SeqAt.shaped (.list (orderedD PR)) = true := by
  have a := lay_items (L := orderedD PR) fun d hd => by
    obtain ⟨k, hk, rfl⟩ := List.mem_map.mp hd
    obtain ⟨r, hr, rfl⟩ := List.mem_map.mp (srt_mem.mp hk)
    have e : lookR (rowsOf PR) r.1 = ruleD r.2 := lookR_mem (by rw [rowsOf_keys]; exact nd) (List.mem_map.mpr ⟨r, hr, rfl⟩)
    obtain ⟨h1, h2⟩ := h r hr
    obtain ⟨a1, b1⟩ := layKs h1
    obtain ⟨a2, b2⟩ := layKs h2
    unfold rowD itemD
    rw [e]
    unfold ruleD
    rw [kD_keyD]
    constructor
    · simp only [PyData.canLay0, PyData.canLayAll0, a1, a2, Bool.and_self]
    · simp only [PyData.depth, PyData.depthAll, b1, b2]
      omega
  unfold SeqAt.shaped
  rw [Bool.and_eq_true]
  refine ⟨by simp only [PyData.canLay0]; exact a.1, ?_⟩
  simp only [PyData.depth]
  exact decide_eq_true (by omega)
theorem heldAt_bd {kinds : List (Int × Int)} (hk : KindsOk kinds) (i : Int) : heldAt kinds i ≤ 3 := by
  unfold heldAt
  cases e : kinds[i.toNat]? with
  | none => decide
  | some k => exact (hk.all k (List.mem_of_getElem? e)).2.2.2
theorem rule_kb {w : Int} {kinds : List (Int × Int)} (hk : KindsOk kinds) {r : PRule} (h : RuleOk w kinds r) : KB r.1 ∧ (∀ k ∈ r.1, LayK k) ∧ ∀ k ∈ r.2.2, LayK k := by
  obtain ⟨i, j, t, e, _, _, _, _, ht, _, _, hs⟩ := h
  have hb := heldAt_bd hk i
  refine ⟨⟨i, j, t, e, ?_⟩, fun k hk' => ?_, fun k hk' => ?_⟩
  · rcases ht with ⟨n, rfl, n0, n1⟩ | rfl
    · exact .inl ⟨n, rfl, n0, by omega⟩
    · exact .inr rfl
  · rw [e] at hk'
    simp only [List.mem_cons, List.not_mem_nil, or_false] at hk'
    rcases hk' with rfl | rfl | rfl
    · exact .inl ⟨i, rfl⟩
    · exact .inl ⟨j, rfl⟩
    · rcases ht with ⟨n, rfl, _⟩ | rfl
      · exact .inl ⟨n, rfl⟩
      · exact .inr (.inl rfl)
  · rcases hs.all k hk' with ⟨n, rfl, _⟩ | ⟨rfl, _⟩
    · exact .inl ⟨n, rfl⟩
    · exact .inr (.inr rfl)

/-! ### whether a watcher shows what a plan has -/
structure Shows (C : Addr) (H : Hp) (x lv lh d l kl rl : Addr) (PL : Plan) (R : Rows) : Prop where
  w : WAt C H x lv lh d PL.words (PL.kinds.map (·.1)) (PL.kinds.map (·.2)) R
  p : PlanAt H l kl rl PL
  ok : PlanOk PL
  pr : R.Perm (rowsOf PL.rules)
theorem Shows.mono {C : Addr} {H H' : Hp} {x lv lh d l kl rl : Addr} {PL : Plan} {R : Rows} (h : Shows C H x lv lh d l kl rl PL R) (s : Same H H') : Shows C H' x lv lh d l kl rl PL R := ⟨h.w.mono s, h.p.mono s, h.ok, h.pr⟩
def sp_law_shows (C : Addr) : Sp := fun us H Q _ => ∃ (x lv lh d l kl rl : Addr) (PL : Plan) (R : Rows), us = [.ref x, .ref l] ∧ Shows C H x lv lh d l kl rl PL R ∧ ∀ H', Same H H' → Q (.bl true) H'
theorem tdInts {H : Hp} : ∀ ns : List Int, TDs H (ns.map V.int) (ns.map PyData.int)
  | [] => .nil
  | n :: r => .cons (.int n) (tdInts r)
theorem lay_ints : ∀ ns : List Int, PyData.canLayAll0 (ns.map PyData.int) = true ∧ PyData.depthAll (ns.map PyData.int) = 0
  | [] => ⟨rfl, rfl⟩
  | n :: r => by
    obtain ⟨a, b⟩ := lay_ints r
    exact ⟨by simp only [List.map_cons, PyData.canLayAll0, PyData.canLay0, a, Bool.and_self], by simp only [List.map_cons, PyData.depthAll, PyData.depth, b]; rfl⟩
theorem shaped_intsT (ns : List Int) : SeqAt.shaped (.tuple (ns.map PyData.int)) = true := by
  obtain ⟨a, b⟩ := lay_ints ns
  unfold SeqAt.shaped
  simp only [PyData.canLay0, PyData.depth, a, b]
  decide
section
variable {P : Program} {w : World} {K : PySem.W.Frag} {mg : Str → Option Value} {base : Heap}
theorem G_Watcher_len (T : Tx K mg) : FnG P w K mg base CX0 1 T.Watcher_len.f T.Watcher_len.fd ["self"] (sp_W_len T.Watcher.C) := ok_Watcher_len T.Watcher_len.F T.W T.m_len
theorem G_Watcher_verdicts (T : Tx K mg) : FnG P w K mg base CX0 1 T.Watcher_verdicts.f T.Watcher_verdicts.fd ["self"] (sp_W_ver T.Watcher.C) := ok_Watcher_verdicts T.Watcher_verdicts.F T.W T.m_tuple
theorem G_Watcher_held_counts (T : Tx K mg) : FnG P w K mg base CX0 1 T.Watcher_held_counts.f T.Watcher_held_counts.fd ["self"] (sp_W_hel T.Watcher.C) := ok_Watcher_held_counts T.Watcher_held_counts.F T.W T.m_tuple
theorem G_Watcher_rules (T : Tx K mg) : FnG P w K mg base CX0 2 T.Watcher_rules.f T.Watcher_rules.fd ["self"] (sp_W_rules T.Watcher.C) := ok_Watcher_rules T.Watcher_rules.F T.rule_order.F T.bt_rule_order T.rule_order.g ⟨_, _, _, _, _, T.part_order.F, T.bt_part_order, T.part_order.g, T.g_NEW, T.g_VALUE, T.g_MOST_HELD⟩ T.W T.m_sorted
abbrev N_law_shows : List Str := ["watcher", "plan", "verdicts", "held", "kind"]
theorem sc_law_shows : FnScope N_law_shows ["watcher", "plan"] (defScope s_law_shows) := ⟨rfl, rfl, rfl, by decide +kernel, rfl, by decide +kernel, by decide +kernel⟩
theorem G_law_shows (T : Tx K mg) : FnG P w K mg base CX0 3 T.law_shows.f T.law_shows.fd ["watcher", "plan"] (sp_law_shows T.Watcher.C) := by
  refine okG T.law_shows.F sc_law_shows (fun vs H Q E h => ?_) (fun cdv A outer s H vs Q E gd hr h => ?_)
  · obtain ⟨x, lv, lh, d, l, kl, rl, PL, R, rfl, _⟩ := h
    rfl
  · obtain ⟨x, lv, lh, d, l, kl, rl, PL, R, rfl, hS, q⟩ := h
    refine ⟨_, 
      (C8.pss_cut (ps_par (i := 2) (j := 3) rfl sc_law_shows.nd rfl rfl (by decide) rfl rfl (pa_cons (pe_lc (own := [("kind", 4)]) (g := gName 4) rfl sc_law_shows.nd (pi_list (pe_ix ix_list (pv 1) pe_int (fun _ _ => rfl))) (blkOk_by (N := N_law_shows) (sc := defScope s_law_shows) (by decide +kernel)) (fun _ _ _ _ _ => (pg_name (i := 4) sc_law_shows.nd rfl (.inl rfl))) (fun _ _ _ _ _ => pts_nil) (fun _ _ _ _ _ => (pe_ix (r := rIxT K) ix_tup (pv 4) pe_int (fun _ _ => rfl)))) (pa_cons (pe_lc (own := [("kind", 4)]) (g := gName 4) rfl sc_law_shows.nd (pi_list (pe_ix ix_list (pv 1) pe_int (fun _ _ => rfl))) (blkOk_by (N := N_law_shows) (sc := defScope s_law_shows) (by decide +kernel)) (fun _ _ _ _ _ => (pg_name (i := 4) sc_law_shows.nd rfl (.inl rfl))) (fun _ _ _ _ _ => pts_nil) (fun _ _ _ _ _ => (pe_ix (r := rIxT K) ix_tup (pv 4) pe_int (fun _ _ => rfl)))) pa_nil)) rfl) -- verdicts, held = ([kind[0] for kind in plan[1]], [kind[1] for kind in plan[1]])
      (pss_cons (ps_if (PW.pt (pw_or (pt_cmpR op_ne (pe_fld (pv 0) rfl) (pe_ix ix_list (pv 1) pe_int (fun _ _ => rfl)) (nomark _)) (pw_or1 (pt_cmpR op_ne (pe_callB (call_lenG T.Watcher_len.M.at_ T.tf_Watcher_len (G_Watcher_len T) gd (hr.mono (by decide)) T.Watcher_len.b) (by rfl) T.m_len PySem.boot_len (pa_cons (pv 0) pa_nil)) (pe_callB call_len_seq (by rfl) T.m_len PySem.boot_len (pa_cons (pe_ix ix_list (pv 1) pe_int (fun _ _ => rfl)) pa_nil)) (nomark _))))) 
        (pss_one (ps_ret pe_bl)) -- return False
         pss_nil) -- if watcher.words != plan[0] or len(watcher) != len(plan[1]):
      (pss_cons (ps_if (PW.pt (pw_or (pt_cmpR (op_neT hr.units) (pe_meth0G (pv 0) T.Watcher.cl T.Watcher_verdicts.M (G_Watcher_verdicts T) gd (hr.mono (by decide)) T.Watcher_verdicts.b .nil pass0) (pe_callTy call_tuple_of (by rfl) T.m_tuple (by decide +kernel) (pa_cons (pv 2) pa_nil)) (nomark _)) (pw_or1 (pt_cmpR (op_neT hr.units) (pe_meth0G (pv 0) T.Watcher.cl T.Watcher_held_counts.M (G_Watcher_held_counts T) gd (hr.mono (by decide)) T.Watcher_held_counts.b .nil pass0) (pe_callTy call_tuple_of (by rfl) T.m_tuple (by decide +kernel) (pa_cons (pv 3) pa_nil)) (nomark _))))) 
        (pss_one (ps_ret pe_bl)) -- return False
         pss_nil) -- if watcher.verdicts() != tuple(verdicts) or watcher.held_counts() != tuple(held):
      (pss_one (ps_ret (pe_cmpR (op_eqD hr.units) (pe_callTy (call_listItT rfl) (by rfl) T.m_list (by decide +kernel) (pa_cons (pe_bm0 PySem.F.plainAttrs_dict PySem.F.slot_dict_items PySem.F.type_dict_items DX.mt_itemsT (pe_meth0G (pv 0) T.Watcher.cl T.Watcher_rules.M (G_Watcher_rules T) gd (hr.mono (by decide)) T.Watcher_rules.b .nil pass0)) pa_nil)) (pe_callG (G_law_ordered_rules T) gd (hr.mono (by decide)) rfl T.law_ordered_rules.g T.law_ordered_rules.F.kp T.law_ordered_rules.b .nil pass0 (pa_cons (pv 1) pa_nil)) (nomark _)))) -- return list(watcher.rules().items()) == _law_ordered_rules(plan)
      ))) , ?_⟩
    refine ⟨fun σ H' => ∃ a1 a2, σ = [some (.ref x), some (.ref l), some (.ref a1), some (.ref a2), none] ∧ Same H H' ∧ H' a1 = some (.lst ((PL.kinds.map (·.1)).map V.int)) ∧ H' a2 = some (.lst ((PL.kinds.map (·.2)).map V.int)), ?_, ?_⟩
    · have hl := hS.p.at_
      obtain ⟨ys, hk, ht⟩ := hS.p.kin
      have ly : ys.length = PL.kinds.length := by
        have := ht.length
        rw [List.length_map] at this
        exact this
      have lk6 := hS.ok.k.len.2
      refine ⟨.ref l, rfl, l, _, 1, .ref kl, rfl, rfl, SqL.of hl, atI_nat (j := 1) rfl, kl, rfl, ⟨_, SqL.of hk⟩, fun D nD => ?_⟩
      refine lc_list (K := K) (a := kl) (xs := ys) (fun i H' => Same H H' ∧ H' D = some (.lst (((PL.kinds.take i).map (·.1)).map V.int))) ?_ ?_ ?_ ?_
      · exact ⟨same_new nD, upd_same⟩
      · rintro i H' hi ⟨sm, _⟩
        exact SqL.of (sm _ _ hk)
      · rintro i y H' hi ⟨sm, hD⟩
        have il := (List.getElem?_eq_some_iff.mp hi).1
        obtain ⟨a, v, ea, ha, em⟩ := kinds_at ht (i := (i : Int)) (by omega) (by omega)
        have ey : y = .ref a := by
          have := atI_nat (xs := ys) (j := i) hi
          rw [this] at ea
          exact Option.some.inj ea
        subst ey
        rw [Int.toNat_natCast] at em
        refine ⟨rfl, .ref a, rfl, a, _, 0, .int v, rfl, rfl, SqT.of (sm _ _ ha), atI_nat (j := 0) rfl, _, hD, ?_, fun b o z => ?_, ?_⟩
        · rw [List.length_map, List.length_map, List.length_take]
          exact small1000 (by omega)
        · rw [upd_ne (ne_of_none z nD)]
          exact sm _ _ z
        · rw [upd_same, List.take_add_one, em]
          simp only [List.map_append]
          rfl
      · rintro H1 ⟨s1, hD⟩
        rw [ly, List.take_length] at hD
        refine ⟨.ref l, rfl, l, _, 1, .ref kl, rfl, rfl, SqL.of (s1 _ _ hl), atI_nat (j := 1) rfl, kl, rfl, ⟨_, SqL.of (s1 _ _ hk)⟩, fun F nF => ?_⟩
        refine lc_list (K := K) (a := kl) (xs := ys) (fun i H' => Same H1 H' ∧ H' F = some (.lst (((PL.kinds.take i).map (·.2)).map V.int))) ?_ ?_ ?_ ?_
        · exact ⟨same_new nF, upd_same⟩
        · rintro i H' hi ⟨sm, _⟩
          exact SqL.of (sm _ _ (s1 _ _ hk))
        · rintro i y H' hi ⟨sm, hF⟩
          have il := (List.getElem?_eq_some_iff.mp hi).1
          obtain ⟨a, v, ea, ha, em⟩ := kinds_at ht (i := (i : Int)) (by omega) (by omega)
          have ey : y = .ref a := by
            have := atI_nat (xs := ys) (j := i) hi
            rw [this] at ea
            exact Option.some.inj ea
          subst ey
          rw [Int.toNat_natCast] at em
          refine ⟨rfl, .ref a, rfl, a, _, 1, .int (heldAt PL.kinds i), rfl, rfl, SqT.of ((s1.trans sm) _ _ ha), atI_nat (j := 1) rfl, _, hF, ?_, fun b o z => ?_, ?_⟩
          · rw [List.length_map, List.length_map, List.length_take]
            exact small1000 (by omega)
          · rw [upd_ne (ne_of_none z nF)]
            exact sm _ _ z
          · rw [upd_same, List.take_add_one, em]
            simp only [List.map_append]
            rfl
        · rintro H2 ⟨s2, hF⟩
          rw [ly, List.take_length] at hF
          exact ⟨.ref D, .ref F, rfl, D, F, rfl, s1.trans s2, s2 _ _ hD, hF⟩
    · rintro σ H1 ⟨a1, a2, rfl, s1, h1, h2⟩
      have S1 := hS.mono s1
      obtain ⟨dx, hx⟩ := S1.w.ins
      have hl := S1.p.at_
      obtain ⟨ys, hk, ht⟩ := S1.p.kin
      have ly : ys.length = PL.kinds.length := by
        have := ht.length
        rw [List.length_map] at this
        exact this
      refine ⟨.ref x, rfl, x, T.Watcher.C, dx, _, .int PL.words, rfl, hx, T.Watcher.cl, T.W.n1, rfl, .ref l, rfl, l, _, 0, .int PL.words, rfl, rfl, SqL.of hl, atI_nat (j := 0) rfl, rfl, _, rfl, ?_⟩
      refine iteNS rfl ?_
      refine ⟨.ref x, rfl, x, dx, _, rfl, hx, x, lv, lh, d, PL.words, _, _, R, rfl, S1.w, _, rfl, ?_, .ref l, rfl, l, _, 1, .ref kl, rfl, rfl, SqL.of hl, atI_nat (j := 1) rfl, kl, ys, rfl, .inl (SqL.of hk), rfl, _, rfl, ?_⟩
      · rw [List.length_map]
        have := hS.ok.k.len.2
        omega
      refine iteNS (by rw [List.length_map, ly]) ?_
      refine ⟨.ref x, rfl, x, dx, _, rfl, hx, rfl, x, lv, lh, d, PL.words, _, _, R, rfl, S1.w, fun t1 nt1 => ?_⟩
      have s2 := same_new nt1 (o := .tup ((PL.kinds.map (·.1)).map V.int))
      have ht1 : (upd H1 t1 (.tup ((PL.kinds.map (·.1)).map V.int))) t1 = some (.tup ((PL.kinds.map (·.1)).map V.int)) := upd_same
      generalize upd H1 t1 (.tup ((PL.kinds.map (·.1)).map V.int)) = H2 at *
      refine ⟨.ref a1, rfl, a1, _, rfl, .inl ⟨SqL.of (s2 _ _ h1), fun t2 nt2 => ?_⟩⟩
      have s3 := same_new nt2 (o := .tup ((PL.kinds.map (·.1)).map V.int))
      have ht2 : (upd H2 t2 (.tup ((PL.kinds.map (·.1)).map V.int))) t2 = some (.tup ((PL.kinds.map (·.1)).map V.int)) := upd_same
      generalize upd H2 t2 (.tup ((PL.kinds.map (·.1)).map V.int)) = H3 at *
      refine ⟨_, _, .tup (s3 _ _ ht1) (tdInts _), .tup ht2 (tdInts _), shaped_intsT _, shaped_intsT _, _, rfl, ?_⟩
      rw [SeqAt.eqv_refl _ (by simp only [PyData.canLay0]; exact (lay_ints _).1)]
      refine iteF ?_
      have S3 := S1.mono (s2.trans s3)
      refine ⟨.ref x, rfl, x, dx, _, rfl, (s2.trans s3) _ _ hx, rfl, x, lv, lh, d, PL.words, _, _, R, rfl, S3.w, fun t3 nt3 => ?_⟩
      have s4 := same_new nt3 (o := .tup ((PL.kinds.map (·.2)).map V.int))
      have ht3 : (upd H3 t3 (.tup ((PL.kinds.map (·.2)).map V.int))) t3 = some (.tup ((PL.kinds.map (·.2)).map V.int)) := upd_same
      generalize upd H3 t3 (.tup ((PL.kinds.map (·.2)).map V.int)) = H4 at *
      refine ⟨.ref a2, rfl, a2, _, rfl, .inl ⟨SqL.of (s4 _ _ (s3 _ _ (s2 _ _ h2))), fun t4 nt4 => ?_⟩⟩
      have s5 := same_new nt4 (o := .tup ((PL.kinds.map (·.2)).map V.int))
      have ht4 : (upd H4 t4 (.tup ((PL.kinds.map (·.2)).map V.int))) t4 = some (.tup ((PL.kinds.map (·.2)).map V.int)) := upd_same
      generalize upd H4 t4 (.tup ((PL.kinds.map (·.2)).map V.int)) = H5 at *
      refine ⟨_, _, .tup (s5 _ _ ht3) (tdInts _), .tup ht4 (tdInts _), shaped_intsT _, shaped_intsT _, _, rfl, ?_⟩
      rw [SeqAt.eqv_refl _ (by simp only [PyData.canLay0]; exact (lay_ints _).1)]
      refine iteF ?_
      have s15 := ((s2.trans s3).trans s4).trans s5
      have S5 := S1.mono s15
      refine ⟨.ref x, rfl, x, dx, _, rfl, s15 _ _ hx, rfl, x, lv, lh, d, PL.words, _, _, R, rfl, S5.w, fun r H6 kvs s6 nr hr6 kv6 => ?_⟩
      refine ⟨.inr (.inr (.inl ⟨rfl, .inr ⟨_, hr6⟩⟩)), r, kvs, rfl, rfl, hr6, fun p np => ?_⟩
      have s7 := same_new np (o := DX.itemsO p r)
      have hp7 : (upd H6 p (DX.itemsO p r)) p = some (DX.itemsO p r) := upd_same
      generalize upd H6 p (DX.itemsO p r) = H7 at *
      refine ⟨p, r, kvs, sortR R, rfl, hp7, s7 _ _ hr6, KvD.mono (Tups.same s7) kv6, fun l2 as H8 s8 nl2 hl2 td => ?_⟩
      have s18 := ((s15.trans s6).trans s7).trans s8
      have S8 := S1.mono s18
      have kb : ∀ k ∈ PL.rules.map (·.1), KB k := fun k hk => by
        obtain ⟨r, hr, rfl⟩ := List.mem_map.mp hk
        exact (rule_kb hS.ok.k (hS.ok.r r hr)).1
      refine ⟨.ref l, rfl, l, kl, rl, PL, rfl, S8.p, fun k hk => (kb k hk).rk, hS.ok.len, fun p2 as2 H9 s9 np2 hp2 td2 => ?_⟩
      rw [sorted_same hS.pr S1.w.nd kb] at td
      have sh : SeqAt.shaped (.list (orderedD PL.rules)) = true := ordered_lay hS.ok.nd fun r hr => (rule_kb hS.ok.k (hS.ok.r r hr)).2
      refine ⟨_, _, Dp.lst (SqL.of (s9 _ _ hl2)) (TDs.dp _ (td.mono (Tups.same s9))), Dp.lst (SqL.of hp2) (TDs.dp _ td2), sh, sh, ?_⟩
      rw [SeqAt.eqv_refl _ (by
        have := sh
        unfold SeqAt.shaped at this
        rw [Bool.and_eq_true] at this
        exact this.1)]
      exact q _ ((s1.trans s18).trans s9)
end

/-! ### ways along rules -/
inductive Way (PR : List PRule) : List (List Key) → Int → Prop
  | nil : Way PR [] 0
  | snoc {p : List (List Key)} {s w : Int} {t : Key} {k : List Key} {v : Int × List Key} : Way PR p s → (k, v) ∈ PR → k = [Sum.inl s, Sum.inl w, t] → Way PR (p ++ [k]) v.1
theorem Way.inv {PR : List PRule} {p : List (List Key)} {q : Int} (h : Way PR p q) : (p = [] ∧ q = 0) ∨ ∃ p0 s w t k v, p = p0 ++ [k] ∧ q = v.1 ∧ Way PR p0 s ∧ (k, v) ∈ PR ∧ k = [Sum.inl s, Sum.inl w, t] := by
  cases h with
  | nil => exact .inl ⟨rfl, rfl⟩
  | snoc a b c => exact .inr ⟨_, _, _, _, _, _, rfl, rfl, a, b, c⟩
def Best (PR : List PRule) (p : List (List Key)) (q : Int) : Prop := Way PR p q ∧ ∀ p', Way PR p' q → p.length ≤ p'.length
def wayD (p : List (List Key)) : PyData := .tuple (p.map fun k => .tuple (k.map keyD))
structure WaysAt (PR : List PRule) (H : Hp) (kvs : List (Key × V)) : Prop where
  nd : (kvs.map (·.1)).Nodup
  each : ∀ e ∈ kvs, ∃ q p, e.1 = Sum.inl q ∧ Best PR p q ∧ TD H e.2 (wayD p)
theorem WaysAt.mono {PR : List PRule} {H H' : Hp} {kvs : List (Key × V)} (h : WaysAt PR H kvs) (t : Tups H H') : WaysAt PR H' kvs :=
  ⟨h.nd, fun e he => by
    obtain ⟨q, p, a, b, c⟩ := h.each e he
    exact ⟨q, p, a, b, c.mono t⟩⟩
/-- after so many messages -/
structure Lvl (PR : List PRule) (n : Nat) (ks : List Key) (L : List Int) : Prop where
  ki : ∀ q, Sum.inl q ∈ ks ↔ ∃ p, Way PR p q ∧ p.length ≤ n
  li : ∀ q, q ∈ L ↔ ∃ p, Best PR p q ∧ p.length = n
theorem lvl_zero (PR : List PRule) : Lvl PR 0 [Sum.inl 0] [0] := by
  have b0 : Best PR [] 0 := ⟨.nil, fun _ _ => Nat.zero_le _⟩
  constructor
  · intro q
    constructor
    · intro h
      have : q = 0 := by
        have := List.mem_singleton.mp h
        exact Sum.inl.inj this
      subst this
      exact ⟨[], .nil, Nat.le_refl _⟩
    · rintro ⟨p, h, l⟩
      rcases h.inv with ⟨_, rfl⟩ | ⟨p0, s, w, t, k, v, rfl, _⟩
      · exact List.mem_singleton.mpr rfl
      · simp at l
  · intro q
    constructor
    · intro h
      have : q = 0 := List.mem_singleton.mp h
      subst this
      exact ⟨[], b0, rfl⟩
    · rintro ⟨p, ⟨h, _⟩, l⟩
      rcases h.inv with ⟨_, rfl⟩ | ⟨p0, s, w, t, k, v, rfl, _⟩
      · exact List.mem_singleton.mpr rfl
      · simp at l
theorem lvl_best {PR : List PRule} {n : Nat} {ks : List Key} {L : List Int} (h : Lvl PR n ks L) {q : Int} {p : List (List Key)} (a : Way PR p q) (l : p.length = n + 1) (b : Sum.inl q ∉ ks) : Best PR p q := by
  refine ⟨a, fun p' h' => ?_⟩
  by_cases z : p'.length ≤ n
  · exact absurd ((h.ki q).mpr ⟨p', h', z⟩) b
  · omega
theorem lvl_step {PR : List PRule} {n : Nat} {ks ks' : List Key} {L F : List Int} (h : Lvl PR n ks L)
    (hF : ∀ q ∈ F, (∃ p, Way PR p q ∧ p.length = n + 1) ∧ Sum.inl q ∉ ks) (hk : ∀ q, Sum.inl q ∈ ks' ↔ Sum.inl q ∈ ks ∨ q ∈ F)
    (hd : ∀ k v s w t, (k, v) ∈ PR → k = [Sum.inl s, Sum.inl w, t] → s ∈ L → Sum.inl v.1 ∈ ks') : Lvl PR (n + 1) ks' F := by
  have ki : ∀ q, Sum.inl q ∈ ks' ↔ ∃ p, Way PR p q ∧ p.length ≤ n + 1 := by
    intro q
    constructor
    · intro z
      rcases (hk q).mp z with z | z
      · obtain ⟨p, a, b⟩ := (h.ki q).mp z
        exact ⟨p, a, Nat.le_succ_of_le b⟩
      · obtain ⟨⟨p, a, b⟩, _⟩ := hF q z
        exact ⟨p, a, Nat.le_of_eq b⟩
    · rintro ⟨p, a, l⟩
      by_cases z : p.length ≤ n
      · exact (hk q).mpr (.inl ((h.ki q).mpr ⟨p, a, z⟩))
      · rcases a.inv with ⟨rfl, rfl⟩ | ⟨p0, s, w, t, k, v, rfl, rfl, a0, hm, e⟩
        · exact absurd (Nat.zero_le _) z
        · have l0 : p0.length = n := by
            rw [List.length_append] at l z
            simp at l z
            omega
          by_cases b : ∃ p1, Way PR p1 s ∧ p1.length < n
          · obtain ⟨p1, a1, l1⟩ := b
            refine (hk _).mpr (.inl ((h.ki _).mpr ⟨p1 ++ [k], .snoc a1 hm e, ?_⟩))
            rw [List.length_append]
            exact l1
          · have bs : Best PR p0 s := ⟨a0, fun p' h' => by
              by_cases y : p'.length < n
              · exact absurd ⟨p', h', y⟩ b
              · omega⟩
            exact hd k v s w t hm e ((h.li s).mpr ⟨p0, bs, l0⟩)
  refine ⟨ki, fun q => ?_⟩
  constructor
  · intro z
    obtain ⟨⟨p, a, l⟩, b⟩ := hF q z
    exact ⟨p, lvl_best h a l b, l⟩
  · rintro ⟨p, ⟨a, m⟩, l⟩
    rcases (hk q).mp ((ki q).mpr ⟨p, a, Nat.le_of_eq l⟩) with z | z
    · obtain ⟨p1, a1, l1⟩ := (h.ki q).mp z
      have := m p1 a1
      omega
    · exact z
theorem lvl_end {PR : List PRule} {n : Nat} {H : Hp} {kvs : List (Key × V)} (h : Lvl PR n (kvs.map (·.1)) []) (W : WaysAt PR H kvs) {p : List (List Key)} {q : Int} (a : Way PR p q) : Sum.inl q ∈ kvs.map (·.1) := by
  induction a with
  | nil => exact (h.ki 0).mpr ⟨[], .nil, Nat.zero_le _⟩
  | @snoc p s w t k v a hm e ih =>
    obtain ⟨⟨k1, x⟩, hx, ek⟩ := List.mem_map.mp ih
    obtain ⟨q', p1, e1, b1, _⟩ := W.each _ hx
    have eq : q' = s := Sum.inl.inj (e1.symm.trans ek)
    subst eq
    obtain ⟨p2, a2, l2⟩ := (h.ki _).mp ih
    have l1 := b1.2 p2 a2
    have ne : p1.length ≠ n := fun z => by
      have := (h.li _).mpr ⟨p1, b1, z⟩
      cases this
    refine (h.ki _).mpr ⟨p1 ++ [k], .snoc b1.1 hm e, ?_⟩
    rw [List.length_append]
    show p1.length + 1 ≤ n
    omega
theorem nodup_sub {α : Type} [DecidableEq α] : ∀ {l m : List α}, l.Nodup → (∀ x ∈ l, x ∈ m) → l.length ≤ m.length
  | [], _, _, _ => Nat.zero_le _
  | x :: r, m, nd, h => by
    have nd' := List.nodup_cons.mp nd
    have hx := h x List.mem_cons_self
    have ih := nodup_sub (m := m.erase x) nd'.2 fun y hy => by
      have ne : y ≠ x := fun e => nd'.1 (e ▸ hy)
      exact (List.mem_erase_of_ne ne).mpr (h y (List.mem_cons_of_mem _ hy))
    rw [List.length_erase_of_mem hx] at ih
    have := List.length_pos_of_mem hx
    show r.length + 1 ≤ m.length
    omega
/-- the targets are states -/
def Tgts (PR : List PRule) : Prop := ∀ r ∈ PR, 0 ≤ r.2.1 ∧ r.2.1 < 6
theorem way_bd {PR : List PRule} (h : Tgts PR) {p : List (List Key)} {q : Int} (a : Way PR p q) : 0 ≤ q ∧ q < 6 := by
  rcases a.inv with ⟨_, rfl⟩ | ⟨p0, s, w, t, k, v, _, rfl, _, hm, _⟩
  · decide
  · exact h _ hm
theorem ways_len {PR : List PRule} (h : Tgts PR) {H : Hp} {kvs : List (Key × V)} (W : WaysAt PR H kvs) : kvs.length ≤ 6 := by
  have := nodup_sub (m := (List.range 6).map fun i : Nat => (Sum.inl (i : Int) : Key)) W.nd fun k hk => by
    obtain ⟨e, he, rfl⟩ := List.mem_map.mp hk
    obtain ⟨q, p, e1, b, _⟩ := W.each e he
    obtain ⟨q0, q1⟩ := way_bd h b.1
    rw [e1]
    exact List.mem_map.mpr ⟨q.toNat, List.mem_range.mpr (by omega), by rw [Int.toNat_of_nonneg q0]⟩
  simpa using this

theorem val_no {κ : Type} [DecidableEq κ] {kvs : List (κ × V)} {k : κ} (h : k ∉ kvs.map (·.1)) : valV kvs k = none := by
  unfold valV
  rw [List.find?_eq_none.mpr]
  · rfl
  · intro y hy
    simp only [decide_eq_true_eq]
    intro e
    exact h (List.mem_map.mpr ⟨y, hy, e⟩)

section
variable {P : Program} {w : World} {K : PySem.W.Frag} {mg : Str → Option Value} {base : Heap}
abbrev N_Watcher_rule_for : List Str := ["self", "state", "word", "test"]
theorem sc_Watcher_rule_for : FnScope N_Watcher_rule_for ["self", "state", "word", "test"] (defScope s_Watcher_rule_for) := ⟨rfl, rfl, rfl, by decide +kernel, rfl, by decide +kernel, by decide +kernel⟩
theorem G_Watcher_rule_for (T : Tx K mg) : FnG P w K mg base CX0 1 T.Watcher_rule_for.f T.Watcher_rule_for.fd ["self", "state", "word", "test"] (sp_rule_for T.Watcher.C) := by
  refine okG T.Watcher_rule_for.F sc_Watcher_rule_for (fun vs H Q E h => ?_) (fun cdv A outer s H vs Q E gd hr h => ?_)
  · obtain ⟨x, lv, lh, d, n, vs, hs, R, s', w', t, rfl, _⟩ := h
    rfl
  · obtain ⟨x, lv, lh, d, n, vs, hs, R, s', w', t, rfl, hW, q1, q2⟩ := h
    refine ⟨_, 
      (pss_one (ps_ret (pe_dget1 (hu_of hr) (pe_fld (pv 0) rfl) (pe_tup (pa_cons (pv 1) (pa_cons (pv 2) (pa_cons (pv 3) pa_nil)))) ⟨by rfl, by rfl, by rfl, by rfl⟩))) -- return self._rules.get((state, word, test))
       , ?_⟩
    obtain ⟨dx, hx⟩ := hW.ins
    obtain ⟨kvs, hd, hkv⟩ := hW.rul
    refine ⟨.ref x, rfl, x, T.Watcher.C, dx, _, .ref d, rfl, hx, T.Watcher.cl, T.W.n4, rfl, d, rfl, .inr ⟨kvs, .inl hd⟩, .int s', rfl, .int w', rfl, kV t, rfl, by show 3 ≤ sizeLine; decide, fun tt nt => ?_⟩
    have sm : Same H (upd H tt (.tup [.int s', .int w', kV t])) := same_new nt
    refine ⟨_, DGet.t (k := [Sum.inl s', Sum.inl w', t]) (sm _ _ hd) upd_same, ?_⟩
    by_cases hk : [Sum.inl s', Sum.inl w', t] ∈ R.map (·.1)
    · obtain ⟨v, ev, tv⟩ := hkv.val hk
      rw [ev]
      exact q2 hk v _ sm (tv.mono (Tups.same sm))
    · have en : valV kvs [Sum.inl s', Sum.inl w', t] = none := by
        unfold valV
        rw [List.find?_eq_none.mpr]
        · rfl
        · intro y hy
          simp only [decide_eq_true_eq]
          intro e
          exact hk (e ▸ hkv.keys ▸ List.mem_map.mpr ⟨y, hy, rfl⟩)
      rw [en]
      exact q1 hk _ sm
end

/-! ### runs -/
def lookP (R : List PRule) (k : List Key) : Option (Int × List Key) := (R.find? fun r => decide (r.1 = k)).map (·.2)
theorem lookP_none {R : List PRule} {k : List Key} (h : lookP R k = none) : k ∉ (rowsOf R).map (·.1) := by
  rw [rowsOf_keys]
  intro z
  obtain ⟨r, hr, e⟩ := List.mem_map.mp z
  unfold lookP at h
  rw [Option.map_eq_none_iff, List.find?_eq_none] at h
  exact h r hr (decide_eq_true e)
theorem lookP_some {R : List PRule} {k : List Key} {v : Int × List Key} (h : lookP R k = some v) : (k, v) ∈ R ∧ k ∈ (rowsOf R).map (·.1) ∧ lookR (rowsOf R) k = ruleD v := by
  unfold lookP at h
  obtain ⟨r, e, rfl⟩ := Option.map_eq_some_iff.mp h
  have hk : r.1 = k := by simpa using List.find?_some e
  have hm := List.mem_of_find?_eq_some e
  subst hk
  refine ⟨hm, by rw [rowsOf_keys]; exact List.mem_map.mpr ⟨r, hm, rfl⟩, ?_⟩
  unfold lookR rowsOf
  rw [List.find?_map]
  have e2 : (R.find? ((fun p : List Key × PyData => decide (p.1 = r.1)) ∘ fun p : PRule => (p.1, ruleD p.2))) = some r := e
  rw [e2]
  rfl
def testV (held : List Int) (v : Int) : Key := if v ∈ held then Sum.inl (held.idxOf v : Nat) else Sum.inr ("new" : Str)
def srcV (held : List Int) (v : Int) : Key → Int
  | .inl n => (held[n.toNat]?).getD 0
  | .inr _ => v
def carryK (src : List Key) (held : List Int) (v : Int) : List Int := src.map (srcV held v)
def stepM (R : List PRule) (s : Int × List Int) (m : Int × Int) : Int × List Int :=
  match lookP R [Sum.inl s.1, Sum.inl m.1, testV s.2 m.2] with
  | none => s
  | some r => (r.1, carryK r.2 s.2 m.2)
def runM (R : List PRule) (s : Int × List Int) (ms : List (Int × Int)) : Int × List Int := ms.foldl (stepM R) s
def SrcIn (held : List Int) (k : Key) : Prop := (∃ n : Int, k = Sum.inl n ∧ 0 ≤ n ∧ n < held.length) ∨ k = Sum.inr ("value" : Str)
structure StOk (kinds : List (Int × Int)) (s : Int × List Int) : Prop where
  lo : 0 ≤ s.1
  hi : s.1 < kinds.length
  len : (s.2.length : Int) = heldAt kinds s.1
theorem step_in {w : Int} {kinds : List (Int × Int)} {R : List PRule} (hR : ∀ r ∈ R, RuleOk w kinds r) {s : Int × List Int} (hs : StOk kinds s) {m : Int × Int} {r : Int × List Key} (h : lookP R [Sum.inl s.1, Sum.inl m.1, testV s.2 m.2] = some r) :
    (∀ k ∈ r.2, SrcIn s.2 k) ∧ StOk kinds (r.1, carryK r.2 s.2 m.2) := by
  obtain ⟨i, j, t, e, i0, i1, j0, j1, tok, g0, g1, sok⟩ := hR _ (lookP_some h).1
  dsimp only at e tok g0 g1 sok
  have ei : i = s.1 := by
    have := (List.cons.inj e).1
    exact (Sum.inl.inj this).symm
  subst ei
  refine ⟨fun k hk => ?_, ⟨g0, g1, ?_⟩⟩
  · rcases sok.all k hk with ⟨n, rfl, n0, n1⟩ | ⟨rfl, _⟩
    · exact .inl ⟨n, rfl, n0, by rw [hs.len]; exact n1⟩
    · exact .inr rfl
  · unfold carryK
    rw [List.length_map]
    exact sok.len
theorem step_ok {w : Int} {kinds : List (Int × Int)} {R : List PRule} (hR : ∀ r ∈ R, RuleOk w kinds r) {s : Int × List Int} (hs : StOk kinds s) (m : Int × Int) : StOk kinds (stepM R s m) := by
  unfold stepM
  split
  · exact hs
  · exact (step_in hR hs (by assumption)).2
theorem run_ok {w : Int} {kinds : List (Int × Int)} {R : List PRule} (hR : ∀ r ∈ R, RuleOk w kinds r) : ∀ (ms : List (Int × Int)) {s : Int × List Int}, StOk kinds s → StOk kinds (runM R s ms)
  | [], _, h => h
  | m :: ms, _, h => run_ok hR ms (step_ok hR h m)
theorem st_zero {kinds : List (Int × Int)} (h : KindsOk kinds) : StOk kinds (0, []) := ⟨Int.le_refl 0, by have := h.len; show (0 : Int) < kinds.length; omega, by rw [h.zero]; rfl⟩
/-- a state with its held values, at v -/
def StAt (H : Hp) (v : V) (s : Int × List Int) : Prop := ∃ r a, v = .ref r ∧ H r = some (.tup [.int s.1, .ref a]) ∧ HT H a s.2
theorem StAt.mono {H H' : Hp} {v : V} {s : Int × List Int} (h : StAt H v s) (e : Same H H') : StAt H' v s := by
  obtain ⟨r, a, rfl, h1, h2⟩ := h
  exact ⟨r, a, rfl, e _ _ h1, h2.mono e⟩
def stD (s : Int × List Int) : PyData := .tuple [.int s.1, .tuple (s.2.map .int)]
theorem StAt.dp {K : PySem.W.Frag} {H : Hp} {v : V} {s : Int × List Int} (h : StAt H v s) : Dp K H v (stD s) := by
  obtain ⟨r, a, rfl, h1, h2⟩ := h
  exact .tup (SqT.of h1) (.cons (.int _) (.cons (.tup h2.sq (dp_ints _ _ _)) .nil))
def sp_carried : Sp := fun us H Q _ => ∃ (sa ha : Addr) (src : List Key) (held : List Int) (v : Int), us = [.ref sa, .ref ha, .int v] ∧ H sa = some (.tup (src.map kV)) ∧ HT H ha held ∧ (∀ k ∈ src, SrcIn held k) ∧ src.length ≤ 1000 ∧
  ∀ a H', Same H H' → H a = none → HT H' a (carryK src held v) → Q (.ref a) H'
/-- the watcher that a plan makes -/
structure WP (C : Addr) (H : Hp) (x lv lh d : Addr) (P : Plan) : Prop where
  w : WAt C H x lv lh d P.words (P.kinds.map (·.1)) (P.kinds.map (·.2)) (rowsOf P.rules)
  ok : PlanOk P
theorem WP.mono {C : Addr} {H H' : Hp} {x lv lh d : Addr} {P : Plan} (h : WP C H x lv lh d P) (e : Same H H') : WP C H' x lv lh d P := ⟨h.w.mono e, h.ok⟩
def sp_after (C : Addr) : Sp := fun us H Q _ => ∃ (x lv lh d ha : Addr) (pl : Plan) (s : Int) (held : List Int) (w v : Int), us = [.ref x, .int s, .ref ha, .int w, .int v] ∧ WP C H x lv lh d pl ∧ HT H ha held ∧ StOk pl.kinds (s, held) ∧
  ∀ u H', Same H H' → StAt H' u (stepM pl.rules (s, held) (w, v)) → Q u H'
/-- a stream of ints at t -/
def StrmAt (K : PySem.W.Frag) (H : Hp) (t : Addr) (ms : List (Int × Int)) : Prop := ∃ xs, SqT K H t xs ∧ TDs H xs (ms.map msgD)
theorem StrmAt.mono {K : PySem.W.Frag} {H H' : Hp} {t : Addr} {ms : List (Int × Int)} (h : StrmAt K H t ms) (e : Same H H') : StrmAt K H' t ms := by
  obtain ⟨xs, h1, h2⟩ := h
  refine ⟨xs, ?_, h2.mono (Tups.same e)⟩
  rcases h1 with (h1 | ⟨o, h1⟩) | h1
  · exact .inl (.inl (e _ _ h1))
  · exact .inl (.inr ⟨o, e _ _ h1⟩)
  · exact .inr h1
theorem idx_first {held : List Int} {v : Int} (h : v ∈ held) : held[held.idxOf v]? = some v ∧ ∀ m, m < held.idxOf v → held[m]? ≠ some v := by
  induction held with
  | nil => cases h
  | cons x r ih =>
    by_cases e : x = v
    · subst e
      rw [List.idxOf_cons_self]
      exact ⟨rfl, fun m hm => absurd hm (Nat.not_lt_zero _)⟩
    · have hr : v ∈ r := by
        rcases List.mem_cons.mp h with z | z
        · exact absurd z.symm e
        · exact z
      obtain ⟨a, b⟩ := ih hr
      have e2 : (x :: r).idxOf v = r.idxOf v + 1 := by rw [List.idxOf_cons, beq_eq_false_iff_ne.mpr e]; rfl
      rw [e2]
      refine ⟨by simpa using a, fun m hm => ?_⟩
      cases m with
      | zero => simpa using e
      | succ m => simpa using b m (by omega)
section
variable {P : Program} {w : World} {K : PySem.W.Frag} {mg : Str → Option Value} {base : Heap}
abbrev N_carried : List Str := ["sources", "held", "value", "source"]
theorem sc_carried : FnScope N_carried ["sources", "held", "value"] (defScope s_carried) := ⟨rfl, rfl, rfl, by decide +kernel, rfl, by decide +kernel, by decide +kernel⟩
theorem G_carried (T : Tx K mg) : FnG P w K mg base CX0 1 T.carried.f T.carried.fd ["sources", "held", "value"] sp_carried := by
  refine okG T.carried.F sc_carried (fun vs H Q E h => ?_) (fun cdv A outer s H vs Q E gd hr h => ?_)
  · obtain ⟨sa, ha, src, held, v, rfl, _⟩ := h
    rfl
  · obtain ⟨sa, ha, src, held, v, rfl, hs, hh, hin, ls, q⟩ := h
    refine ⟨_, 
      (pss_one (ps_ret (pe_callTy call_tupleF (by rfl) T.m_tuple (by decide +kernel) (pa_cons (pe_lc (own := [("source", 3)]) (g := gName 3) rfl sc_carried.nd (pi_tup (pv 0)) (blkOk_by (N := N_carried) (sc := defScope s_carried) (by decide +kernel)) (fun _ _ _ _ _ => (pg_name (i := 3) sc_carried.nd rfl (.inl rfl))) (fun _ _ _ _ _ => pts_nil) (fun _ _ _ _ _ => (pe_ifExp (pt_cmpR (op_eqS hr.units) (pv 3) (pe_glob (v := .str "value") rfl T.g_VALUE ⟨_, rfl⟩) (nomark _)) (pv 2) (pe_ix (r := rIxT K) ix_tup (pv 1) (pv 3) (fun _ _ => rfl))))) pa_nil)))) -- return tuple([value if source == VALUE else held[source] for source in sources])
       , ?_⟩
    refine ⟨.ref sa, rfl, sa, rfl, ⟨_, SqT.of hs⟩, fun D nD => ?_⟩
    refine lc_tup (K := K) (a := sa) (xs := src.map kV) (fun i H' => Same H H' ∧ H' D = some (.lst ((carryK (src.take i) held v).map V.int))) ?_ ?_ ?_ ?_
    · exact ⟨same_new nD, upd_same⟩
    · rintro i H' hi ⟨sm, hD⟩
      exact SqT.of (sm _ _ hs)
    · rintro i x H' hi ⟨sm, hD⟩
      rw [List.getElem?_map] at hi
      obtain ⟨k, ek, rfl⟩ := Option.map_eq_some_iff.mp hi
      have kin := hin k (List.mem_of_getElem? ek)
      have fin : ∀ y : Int, y = srcV held v k → (∃ acc, H' D = some (.lst acc) ∧ acc.length < sizeLine ∧ (Same H (upd H' D (.lst (acc ++ [V.int y]))) ∧ (upd H' D (.lst (acc ++ [V.int y]))) D = some (.lst ((carryK (src.take (i + 1)) held v).map V.int)))) := fun y hy => by
        refine ⟨_, hD, ?_, fun b o e => ?_, ?_⟩
        · rw [List.length_map, carryK, List.length_map, List.length_take]
          exact small1000 (by omega)
        · have : b ≠ D := ne_of_none e nD
          rw [upd_ne this]
          exact sm _ _ e
        · rw [upd_same, List.take_add_one, ek]
          unfold carryK
          rw [List.map_append, List.map_append, hy]
          rfl
      refine ⟨rfl, kV k, rfl, sa, kD k, "value", ldK k, kD_nd k, rfl, _, rfl, ?_⟩
      rcases kin with ⟨n, rfl, n0, n1⟩ | rfl
      · refine iteF ?_
        refine ⟨.ref ha, rfl, .int n, rfl, ha, held.map V.int, n, .int (srcV held v (.inl n)), rfl, rfl, (hh.mono sm).sq, ?_, fin _ rfl⟩
        obtain ⟨j, rfl⟩ : ∃ j : Nat, n = j := ⟨n.toNat, by omega⟩
        have hj : j < held.length := by omega
        refine atI_nat ?_
        rw [List.getElem?_map, List.getElem?_eq_getElem hj]
        show _ = some (V.int ((held[((j : Nat) : Int).toNat]?).getD 0))
        rw [Int.toNat_natCast, List.getElem?_eq_getElem hj]
        rfl
      · exact iteT ⟨.int v, rfl, fin v rfl⟩
    · rintro H' ⟨sm, hD⟩
      rw [List.length_map, List.take_length] at hD
      refine ⟨D, _, rfl, SqL.of hD, fun a ob na hob => ?_⟩
      exact q a _ (sm.trans (same_new na)) (sm.free na) ⟨ob, upd_same, hob⟩
abbrev N_after_message : List Str := ["watcher", "state", "held", "word", "value", "test", "rule", "target", "sources"]
theorem sc_after_message : FnScope N_after_message ["watcher", "state", "held", "word", "value"] (defScope s_after_message) := ⟨rfl, rfl, rfl, by decide +kernel, rfl, by decide +kernel, by decide +kernel⟩
theorem G_after_message (T : Tx K mg) : FnG P w K mg base CX0 2 T.after_message.f T.after_message.fd ["watcher", "state", "held", "word", "value"] (sp_after T.Watcher.C) := by
  refine okG T.after_message.F sc_after_message (fun vs H Q E h => ?_) (fun cdv A outer s H vs Q E gd hr h => ?_)
  · obtain ⟨x, lv, lh, d, ha, pl, s', held, w', v, rfl, _⟩ := h
    rfl
  · obtain ⟨x, lv, lh, d, ha, pl, s', held, w', v, rfl, hW, hh, hs, q⟩ := h
    refine ⟨_, 
      (C8.pss_cut (ps_set (i := 5) sc_after_message.nd rfl (.inl rfl) (pe_ifExp (pt_cmpR op_in_seq (pv 4) (pv 2) rfl) (pe_bmT PySem.F.plainAttrs_tuple PySem.F.slot_tuple_index PySem.F.type_tuple_index mt_tup_indexI (pv 2) (pa_cons (pv 4) pa_nil)) (pe_glob (v := .str "new") rfl T.g_NEW ⟨_, rfl⟩))) -- test = held.index(value) if value in held else NEW
      (pss_cons (ps_set (i := 6) sc_after_message.nd rfl (.inl rfl) (pe_methG (pv 0) T.Watcher.cl T.Watcher_rule_for.M (G_Watcher_rule_for T) gd (hr.mono (by decide)) T.Watcher_rule_for.b .nil pass0 (pa_cons (pv 1) (pa_cons (pv 3) (pa_cons (pv 5) pa_nil))))) -- rule = watcher.rule_for(state, word, test)
      (pss_cons (ps_if (pt_cmp (pc_isN (pv 6))) 
        (pss_one (ps_ret (pe_tup (pa_cons (pv 1) (pa_cons (pv 2) pa_nil))))) -- return (state, held)
         pss_nil) -- if rule is None:
      (pss_cons (ps_asg (pv 6) (pg_tup rfl (pgs_cons (pg_name (i := 7) sc_after_message.nd rfl (.inl rfl)) (pgs_cons (pg_name (i := 8) sc_after_message.nd rfl (.inl rfl)) pgs_nil)))) -- target, sources = rule
      (pss_one (ps_ret (pe_tup (pa_cons (pv 7) (pa_cons (pe_callG (G_carried T) gd (hr.mono (by decide)) rfl T.carried.g T.carried.F.kp T.carried.b .nil pass0 (pa_cons (pv 8) (pa_cons (pv 2) (pa_cons (pv 4) pa_nil)))) pa_nil))))) -- return (target, carried(sources, held, value))
      )))) , ?_⟩
    refine ⟨fun σ H' => σ = [some (.ref x), some (.int s'), some (.ref ha), some (.int w'), some (.int v), some (kV (testV held v)), none, none, none] ∧ H' = H, ?_, ?_⟩
    · refine ⟨.int v, rfl, .ref ha, rfl, ha, _, rfl, .inr hh.sq, rfl, flat_ints _, _, rfl, ?_⟩
      dsimp only
      rw [if_neg Bool.false_ne_true, inV_ints]
      by_cases hv : v ∈ held
      · rw [decide_eq_true hv]
        obtain ⟨i1, i2⟩ := idx_first hv
        have e : testV held v = Sum.inl ((held.idxOf v : Nat) : Int) := by unfold testV; rw [if_pos hv]
        rw [e]
        exact iteT ⟨.ref ha, rfl, hh.ty, .int v, rfl, ha, held, v, held.idxOf v, rfl, rfl, hh.sq, i1, i2, rfl, rfl⟩
      · rw [decide_eq_false hv]
        have e : testV held v = Sum.inr ("new" : Str) := by unfold testV; rw [if_neg hv]
        rw [e]
        exact iteF ⟨rfl, rfl⟩
    rintro σ H' ⟨rfl, rfl⟩
    obtain ⟨dx, hx⟩ := hW.w.ins
    refine ⟨.ref x, rfl, x, dx, _, rfl, hx, rfl, .int s', rfl, .int w', rfl, kV (testV held v), rfl, x, lv, lh, d, pl.words, _, _, rowsOf pl.rules, s', w', testV held v, rfl, hW.w, fun nk H1 s1 => ?_, fun hk v1 H1 s1 t1 => ?_⟩
    · have e : stepM pl.rules (s', held) (w', v) = (s', held) := by
        unfold stepM
        split
        · rfl
        · rename_i r hr'
          exact absurd (lookP_some hr').2.1 nk
      refine ⟨.non, rfl, _, rfl, iteT ?_⟩
      refine ⟨.int s', rfl, .ref ha, rfl, by show 2 ≤ sizeLine; decide, fun r nr => ?_⟩
      refine q (.ref r) _ (s1.trans (same_new nr)) ?_
      rw [e]
      exact ⟨r, ha, rfl, upd_same, (hh.mono s1).mono (same_new nr)⟩
    · obtain ⟨r, er⟩ : ∃ r, lookP pl.rules [Sum.inl s', Sum.inl w', testV held v] = some r := by
        cases e : lookP pl.rules [Sum.inl s', Sum.inl w', testV held v] with
        | none => exact absurd hk (lookP_none e)
        | some r => exact ⟨r, rfl⟩
      have e : stepM pl.rules (s', held) (w', v) = (r.1, carryK r.2 held v) := by
        unfold stepM
        rw [er]
      obtain ⟨sin, _⟩ := step_in (s := (s', held)) (m := (w', v)) hW.ok.r hs er
      have lsr : r.2.length ≤ 1000 := by
        obtain ⟨i, j, t, _, i0, i1, _, _, _, g0, g1, sok⟩ := hW.ok.r _ (lookP_some er).1
        have := sok.len
        have := held_bd hW.ok.k g0 g1
        dsimp only at *
        omega
      rw [(lookP_some er).2.2] at t1
      obtain ⟨a, b, rfl, h1, h2⟩ := TD.rule t1
      refine ⟨.ref a, rfl, _, rfl, iteF ?_⟩
      refine ⟨.ref a, rfl, a, _, rfl, SqT.of h1, rfl, .int r.1, [.ref b], rfl, .ref b, [], rfl, rfl, ?_⟩
      refine ⟨.int r.1, rfl, .ref b, rfl, .ref ha, rfl, .int v, rfl, b, ha, r.2, held, v, rfl, h2, hh.mono s1, sin, lsr, fun c H2 s2 nc hc => ?_⟩
      refine ⟨by show 2 ≤ sizeLine; decide, fun u nu => ?_⟩
      refine q (.ref u) _ ((s1.trans s2).trans (same_new nu)) ?_
      rw [e]
      exact ⟨u, c, rfl, upd_same, hc.mono (same_new nu)⟩
end

/-! ### situations -/
abbrev Sit := Int × Int × List (Int × Int)
def pairD (m : Int × Int) : PyData := .tuple [.int m.1, .int m.2]
def pairsD (ps : List (Int × Int)) : PyData := .tuple (ps.map pairD)
def sitD (s : Sit) : PyData := .tuple [.int s.1, .int s.2.1, pairsD s.2.2]
def sitK (s : Sit) : NestedKey := .tup [.num s.1, .num s.2.1, .tup (s.2.2.map fun m => .tup [.num m.1, .num m.2])]
theorem nkDs_map {α : Type} (f : α → NestedKey) : ∀ l : List α, nkDs (l.map f) = l.map fun x => nkD (f x)
  | [] => rfl
  | x :: r => by
    show nkD (f x) :: nkDs (r.map f) = _
    rw [nkDs_map f r]
    rfl
theorem sitK_D (s : Sit) : nkD (sitK s) = sitD s := by
  unfold sitK sitD pairsD
  show PyData.tuple [.int s.1, .int s.2.1, .tuple (nkDs (s.2.2.map fun m => NestedKey.tup [.num m.1, .num m.2]))] = _
  rw [nkDs_map]
  rfl
theorem sitK_depth (s : Sit) : (sitK s).depth ≤ 8 := by
  have h : ∀ l : List (Int × Int), NestedKey.depthAll (l.map fun m => NestedKey.tup [.num m.1, .num m.2]) ≤ 1 := by
    intro l
    induction l with
    | nil => simp [NestedKey.depthAll]
    | cons x r ih =>
      simp only [List.map_cons, NestedKey.depthAll, NestedKey.depth]
      omega
  have := h s.2.2
  simp only [sitK, NestedKey.depth, NestedKey.depthAll]
  omega
theorem sitK_inj {s s' : Sit} (h : sitK s = sitK s') : s = s' := by
  obtain ⟨a, b, c⟩ := s
  obtain ⟨a', b', c'⟩ := s'
  unfold sitK at h
  simp only [NestedKey.tup.injEq, List.cons.injEq, NestedKey.num.injEq, and_true] at h
  obtain ⟨rfl, rfl, h⟩ := h
  have : ∀ l l' : List (Int × Int), (l.map fun m => NestedKey.tup [.num m.1, .num m.2]) = (l'.map fun m => NestedKey.tup [.num m.1, .num m.2]) → l = l' := by
    intro l
    induction l with
    | nil =>
      intro l' h
      cases l' with
      | nil => rfl
      | cons x r => cases h
    | cons x r ih =>
      intro l' h
      cases l' with
      | nil => cases h
      | cons y r' =>
        simp only [List.map_cons, List.cons.injEq, NestedKey.tup.injEq, NestedKey.num.injEq, and_true] at h
        rw [ih r' h.2, Prod.ext h.1.1 h.1.2]
  rw [this _ _ h]
theorem sit_key {H : Hp} {v : V} {s : Sit} (h : TD H v (sitD s)) : NKey H (sitK s) v := ⟨sitK_depth s, by rw [sitK_D]; exact h, _, rfl⟩
structure WA where
  (x lv lh d : Addr)
/-- a pair of watchers -/
structure PairAt (K : PySem.W.Frag) (C : Addr) (H : Hp) (t : Addr) (a b : WA) (P1 P2 : Plan) : Prop where
  sq : SqT K H t [.ref a.x, .ref b.x]
  w1 : WP C H a.x a.lv a.lh a.d P1
  w2 : WP C H b.x b.lv b.lh b.d P2
theorem sqT_same {K : PySem.W.Frag} {H H' : Hp} {t : Addr} {xs : List V} (h : SqT K H t xs) (e : Same H H') : SqT K H' t xs := by
  rcases h with (h1 | ⟨o, h1⟩) | h1
  · exact .inl (.inl (e _ _ h1))
  · exact .inl (.inr ⟨o, e _ _ h1⟩)
  · exact .inr h1
theorem PairAt.mono {K : PySem.W.Frag} {C : Addr} {H H' : Hp} {t : Addr} {a b : WA} {P1 P2 : Plan} (h : PairAt K C H t a b P1 P2) (s : Same H H') : PairAt K C H' t a b P1 P2 := ⟨sqT_same h.sq s, h.w1.mono s, h.w2.mono s⟩
/-- its states are there -/
structure SitIn (P1 P2 : Plan) (s : Sit) : Prop where
  p0 : 0 ≤ s.1
  p1 : s.1 < P1.kinds.length
  q0 : 0 ≤ s.2.1
  q1 : s.2.1 < P2.kinds.length
  len : s.2.2.length ≤ 3
def firstM (h : Int) : List Int := (List.range h.toNat).map fun i : Nat => (i : Int)
theorem firstM_V (h : Int) : (firstM h).map V.int = rgV 0 h := by
  unfold firstM rgV
  rw [List.map_map]
  simp [Function.comp_def]
theorem firstM_len (h : Int) : (firstM h).length = h.toNat := by
  unfold firstM
  rw [List.length_map, List.length_range]
def prt (pairs : List (Int × Int)) (j : Int) : Option Int := pairs.foldl (fun o m => if m.2 = j then some m.1 else o) none
def secF (pairs : List (Int × Int)) (h : Int) (n : Nat) : List Int × Int := (List.range n).foldl (fun (s : List Int × Int) (j : Nat) => match prt pairs (j : Int) with | some i => (s.1 ++ [i], s.2) | none => (s.1 ++ [s.2], s.2 + 1)) ([], h)
def secondM (pairs : List (Int × Int)) (h1 h2 : Int) : List Int := (secF pairs h1 h2.toNat).1
theorem secF_succ (pairs : List (Int × Int)) (h : Int) (n : Nat) : secF pairs h (n + 1) = match prt pairs (n : Int) with | some i => ((secF pairs h n).1 ++ [i], (secF pairs h n).2) | none => ((secF pairs h n).1 ++ [(secF pairs h n).2], (secF pairs h n).2 + 1) := by
  unfold secF
  rw [List.range_succ, List.foldl_append]
  rfl
theorem secF_len (pairs : List (Int × Int)) (h : Int) : ∀ n : Nat, (secF pairs h n).1.length = n
  | 0 => rfl
  | n + 1 => by
    rw [secF_succ]
    split <;> simp [secF_len pairs h n]
/-- the places at which both hold one value, of the first n -/
def eqF (f s : List Int) (n : Nat) : List (Int × Int) := (List.range n).filterMap fun (i : Nat) => (f[i]?).bind fun v => if v ∈ s then some ((i : Int), ((s.idxOf v : Nat) : Int)) else none
def eqM (f s : List Int) : List (Int × Int) := eqF f s f.length
theorem eqF_succ (f s : List Int) (n : Nat) {v : Int} (h : f[n]? = some v) : eqF f s (n + 1) = eqF f s n ++ (if v ∈ s then [((n : Int), ((s.idxOf v : Nat) : Int))] else []) := by
  unfold eqF
  rw [List.range_succ, List.filterMap_append]
  congr 1
  by_cases hv : v ∈ s <;> simp [h, hv]
theorem eqF_len (f s : List Int) (n : Nat) : (eqF f s n).length ≤ n := by
  unfold eqF
  exact Nat.le_trans (List.length_filterMap_le _ _) (by rw [List.length_range]; exact Nat.le_refl _)
/-- the places of the first one whose values the second one doesn't hold -/
def loneF (f s : List Int) (n : Nat) : List Int := (List.range n).filterMap fun (i : Nat) => (f[i]?).bind fun v => if v ∈ s then none else some (i : Int)
def loneM (f s : List Int) : List Int := loneF f s f.length
theorem loneF_succ (f s : List Int) (n : Nat) {v : Int} (h : f[n]? = some v) : loneF f s (n + 1) = loneF f s n ++ (if v ∈ s then [] else [(n : Int)]) := by
  unfold loneF
  rw [List.range_succ, List.filterMap_append]
  congr 1
  by_cases hv : v ∈ s <;> simp [h, hv]
theorem loneF_len (f s : List Int) (n : Nat) : (loneF f s n).length ≤ n := by
  unfold loneF
  exact Nat.le_trans (List.length_filterMap_le _ _) (by rw [List.length_range]; exact Nat.le_refl _)
inductive Cs where
  | both (i j : Int) | first (i : Int) | second (j : Int) | new
  deriving DecidableEq
def csD : Cs → PyData
  | .both i j => .tuple [.str "both", .int i, .int j]
  | .first i => .tuple [.str "first", .int i]
  | .second j => .tuple [.str "second", .int j]
  | .new => .tuple [.str "new"]
def casesM (f s : List Int) : List Cs := (eqM f s).map (fun m => Cs.both m.1 m.2) ++ ((loneM f s).map Cs.first ++ ((loneM s f).map Cs.second ++ [Cs.new]))
def leastF (vs : List Int) : Nat → Int → Int
  | 0, n => n
  | k + 1, n => if n ∈ vs then leastF vs k (n + 1) else n
def leastM (vs : List Int) : Int := leastF vs (vs.length + 1) 0
def valueM (c : Cs) (f s : List Int) : Int := match c with
  | .both i _ => (f[i.toNat]?).getD 0
  | .first i => (f[i.toNat]?).getD 0
  | .second j => (s[j.toNat]?).getD 0
  | .new => leastM (f ++ s)
def afterM (P1 P2 : Plan) (s : Sit) (f g : List Int) (w : Int) (c : Cs) : Sit := ((stepM P1.rules (s.1, f) (w, valueM c f g)).1, (stepM P2.rules (s.2.1, g) (w, valueM c f g)).1, eqM (stepM P1.rules (s.1, f) (w, valueM c f g)).2 (stepM P2.rules (s.2.1, g) (w, valueM c f g)).2)
def heldM (P1 P2 : Plan) (s : Sit) : List Int × List Int := (firstM (heldAt P1.kinds s.1), secondM s.2.2 (heldAt P1.kinds s.1) (heldAt P2.kinds s.2.1))
def stepsM (P1 P2 : Plan) (s : Sit) : List (Int × Cs × Sit) := (List.range P1.words.toNat).flatMap fun w : Nat => (casesM (heldM P1 P2 s).1 (heldM P1 P2 s).2).map fun c => ((w : Int), c, afterM P1 P2 s (heldM P1 P2 s).1 (heldM P1 P2 s).2 w c)
theorem heldM_ok {P1 P2 : Plan} {s : Sit} (o1 : PlanOk P1) (o2 : PlanOk P2) (h : SitIn P1 P2 s) : StOk P1.kinds (s.1, (heldM P1 P2 s).1) ∧ StOk P2.kinds (s.2.1, (heldM P1 P2 s).2) := by
  have b1 := held_bd o1.k h.p0 h.p1
  have b2 := held_bd o2.k h.q0 h.q1
  refine ⟨⟨h.p0, h.p1, ?_⟩, ⟨h.q0, h.q1, ?_⟩⟩
  · show (((firstM (heldAt P1.kinds s.1)).length : Nat) : Int) = heldAt P1.kinds s.1
    rw [firstM_len]
    omega
  · show (((secF s.2.2 (heldAt P1.kinds s.1) (heldAt P2.kinds s.2.1).toNat).1.length : Nat) : Int) = heldAt P2.kinds s.2.1
    rw [secF_len]
    omega
theorem afterM_in {P1 P2 : Plan} {s : Sit} {f g : List Int} {w : Int} {c : Cs} (o1 : PlanOk P1) (o2 : PlanOk P2) (h1 : StOk P1.kinds (s.1, f)) (h2 : StOk P2.kinds (s.2.1, g)) : SitIn P1 P2 (afterM P1 P2 s f g w c) := by
  have a := step_ok o1.r h1 (w, valueM c f g)
  have b := step_ok o2.r h2 (w, valueM c f g)
  refine ⟨a.lo, a.hi, b.lo, b.hi, ?_⟩
  have e := eqF_len (stepM P1.rules (s.1, f) (w, valueM c f g)).2 (stepM P2.rules (s.2.1, g) (w, valueM c f g)).2 (stepM P1.rules (s.1, f) (w, valueM c f g)).2.length
  have l := a.len
  have := (held_bd o1.k a.lo a.hi).2
  show (eqF _ _ _).length ≤ 3
  omega
def sp_held_numbers (K : PySem.W.Frag) (C : Addr) : Sp := fun us H Q _ => ∃ (t : Addr) (v : V) (a b : WA) (P1 P2 : Plan) (s : Sit), us = [.ref t, v] ∧ PairAt K C H t a b P1 P2 ∧ TD H v (sitD s) ∧ SitIn P1 P2 s ∧
  ∀ r x y H', Same H H' → H' r = some (.tup [.ref x, .ref y]) → HT H' x (heldM P1 P2 s).1 → HT H' y (heldM P1 P2 s).2 → Q (.ref r) H'
def sp_equal_places : Sp := fun us H Q _ => ∃ (x y : Addr) (f s : List Int), us = [.ref x, .ref y] ∧ HT H x f ∧ HT H y s ∧ f.length ≤ 100 ∧ s.length ≤ 100 ∧ ∀ r H', Same H H' → TD H' (.ref r) (pairsD (eqM f s)) → Q (.ref r) H'
def sp_cases_between : Sp := fun us H Q _ => ∃ (x y : Addr) (f s : List Int), us = [.ref x, .ref y] ∧ HT H x f ∧ HT H y s ∧ f.length ≤ 100 ∧ s.length ≤ 100 ∧ ∀ r H', Same H H' → TD H' (.ref r) (.tuple ((casesM f s).map csD)) → Q (.ref r) H'
def sp_least_other : Sp := fun us H Q _ => ∃ (x : Addr) (vs : List Int), us = [.ref x] ∧ H x = some (.tup (vs.map V.int)) ∧ vs.length ≤ 1000 ∧ Q (.int (leastM vs)) H
def CsIn (c : Cs) (f s : List Int) : Prop := match c with
  | .both i _ => 0 ≤ i ∧ i < f.length
  | .first i => 0 ≤ i ∧ i < f.length
  | .second j => 0 ≤ j ∧ j < s.length
  | .new => True
def sp_value_of : Sp := fun us H Q _ => ∃ (v : V) (x y : Addr) (c : Cs) (f s : List Int), us = [v, .ref x, .ref y] ∧ TD H v (csD c) ∧ HT H x f ∧ HT H y s ∧ f.length ≤ 100 ∧ s.length ≤ 100 ∧ CsIn c f s ∧ ∀ H', Same H H' → Q (.int (valueM c f s)) H'
def sp_situation_after (K : PySem.W.Frag) (C : Addr) : Sp := fun us H Q _ => ∃ (t r x y : Addr) (sv cv : V) (a b : WA) (P1 P2 : Plan) (s : Sit) (f g : List Int) (w : Int) (c : Cs), us = [.ref t, sv, .ref r, .int w, cv] ∧ PairAt K C H t a b P1 P2 ∧ TD H sv (sitD s) ∧ SitIn P1 P2 s ∧
  SqT K H r [.ref x, .ref y] ∧ HT H x f ∧ HT H y g ∧ StOk P1.kinds (s.1, f) ∧ StOk P2.kinds (s.2.1, g) ∧ TD H cv (csD c) ∧ CsIn c f g ∧
  ∀ v H', Same H H' → TD H' v (sitD (afterM P1 P2 s f g w c)) → Q v H'
def stepD (x : Int × Cs × Sit) : PyData := .tuple [.int x.1, csD x.2.1, sitD x.2.2]
def sp_steps_from (K : PySem.W.Frag) (C : Addr) : Sp := fun us H Q _ => ∃ (t : Addr) (v : V) (a b : WA) (P1 P2 : Plan) (s : Sit), us = [.ref t, v] ∧ PairAt K C H t a b P1 P2 ∧ TD H v (sitD s) ∧ SitIn P1 P2 s ∧
  ∀ r xs H', Same H H' → H r = none → H' r = some (.lst xs) → TDs H' xs ((stepsM P1 P2 s).map stepD) → Q (.ref r) H'

theorem same_at {H H' : Hp} {D : Addr} {o : HO} (s : Same H H') (n : H D = none) : Same H (upd H' D o) := fun c u e => by
  rw [upd_ne (ne_of_none e n)]
  exact s _ _ e
theorem tds_snoc {H : Hp} : ∀ {xs : List V} {ds : List PyData} {v : V} {d : PyData}, TDs H xs ds → TD H v d → TDs H (xs ++ [v]) (ds ++ [d])
  | _, [], _, _, h, k => by
    cases h
    exact .cons k .nil
  | _, _ :: _, _, _, h, k => by
    cases h with
    | cons a r => exact .cons a (tds_snoc r k)
theorem TDs.len {H : Hp} : ∀ {xs : List V} {ds : List PyData}, TDs H xs ds → xs.length = ds.length
  | _, [], h => by
    cases h
    rfl
  | _, _ :: _, h => by
    cases h with
    | cons a r => rw [List.length_cons, List.length_cons, r.len]
def LoW (x : Addr) (H : Hp) (vs : List Int) : Nat → L2.St → Hp → Prop := fun m σ H' => ∃ n : Int, σ = [some (.ref x), some (.int n)] ∧ H' = H ∧ leastF vs m n = leastM vs
theorem pig : ∀ (k : Nat) (n : Int) (vs : List Int), (∀ i : Nat, i < k → n + i ∈ vs) → k ≤ vs.length
  | 0, _, _, _ => Nat.zero_le _
  | k + 1, n, vs, h => by
    have hk := h k (by omega)
    have ih := pig k n (vs.erase (n + k)) fun i hi => (List.mem_erase_of_ne (by omega)).mpr (h i (by omega))
    rw [List.length_erase_of_mem hk] at ih
    have := List.length_pos_of_mem hk
    omega
theorem leastF_in {vs : List Int} : ∀ (k : Nat) (n : Int), leastF vs k n ∈ vs → ∀ i : Nat, i ≤ k → n + i ∈ vs
  | 0, n, h, i, hi => by
    obtain rfl : i = 0 := by omega
    simpa [leastF] using h
  | k + 1, n, h, i, hi => by
    unfold leastF at h
    by_cases hn : n ∈ vs
    · rw [if_pos hn] at h
      cases i with
      | zero => simpa using hn
      | succ i =>
        have := leastF_in k (n + 1) h i (by omega)
        have e : n + 1 + (i : Int) = n + ((i + 1 : Nat) : Int) := by omega
        rwa [e] at this
    · rw [if_neg hn] at h
      exact absurd h hn
theorem leastM_out (vs : List Int) : leastM vs ∉ vs := fun h => by
  have := pig (vs.length + 2) 0 vs fun i hi => leastF_in (vs.length + 1) 0 h i (by omega)
  omega
section
variable {P : Program} {w : World} {K : PySem.W.Frag} {mg : Str → Option Value} {base : Heap}
abbrev N_least_other : List Str := ["values", "number"]
theorem sc_least_other : FnScope N_least_other ["values"] (defScope s_least_other) := ⟨rfl, rfl, rfl, by decide +kernel, rfl, by decide +kernel, by decide +kernel⟩
theorem G_least_other (T : Tx K mg) : FnG P w K mg base CX0 1 T.least_other.f T.least_other.fd ["values"] sp_least_other := by
  refine okG T.least_other.F sc_least_other (fun vs H Q E h => ?_) (fun cdv A outer s H vs Q E gd hr h => ?_)
  · obtain ⟨x, vs, rfl, _⟩ := h
    rfl
  · obtain ⟨x, vs, rfl, hx, hl, q⟩ := h
    refine ⟨_, 
      (pss_cons (ps_set (i := 1) sc_least_other.nd rfl (.inl rfl) pe_int) -- number = 0
      (pss_cons (ps_while PassesOwn.never (pt_cmpR op_in_seq (pv 1) (pv 0) rfl) 
        (pss_one (ps_aug (i := 1) sc_least_other.nd rfl (.inl rfl) pe_int ip_add)) -- number += 1
        ) -- while number in values:
      (pss_one (ps_ret (pv 1))) -- return number
      )) , ?_⟩
    refine ⟨LoW x H vs, ⟨vs.length + 1, _, rfl, rfl, rfl⟩, fun m σ H' hW => ?_⟩
    obtain ⟨n, rfl, rfl, he⟩ := hW
    refine ⟨.int n, rfl, .ref x, rfl, x, _, rfl, .inr (SqT.of hx), rfl, flat_ints _, _, rfl, ?_⟩
    rw [if_neg Bool.false_ne_true, inV_ints]
    by_cases hn : n ∈ vs
    · rw [decide_eq_true hn]
      refine iteT ?_
      cases m with
      | zero =>
        have : leastM vs = n := he.symm
        exact absurd (this ▸ hn) (leastM_out vs)
      | succ m =>
        unfold leastF at he
        rw [if_pos hn] at he
        exact ⟨LoW x H' vs m, fun σ' H2 h2 => ⟨m, Nat.lt_succ_self m, h2⟩, .int n, rfl, n, 1, rfl, rfl, n + 1, rfl, rfl, he⟩
    · rw [decide_eq_false hn]
      refine iteF ?_
      have e : leastF vs m n = n := by
        cases m with
        | zero => rfl
        | succ m =>
          unfold leastF
          rw [if_neg hn]
      rw [e] at he
      rw [← he] at q
      exact ⟨.int n, rfl, q⟩
abbrev N_equal_places : List Str := ["first", "second", "i", "value"]
theorem sc_equal_places : FnScope N_equal_places ["first", "second"] (defScope s_equal_places) := ⟨rfl, rfl, rfl, by decide +kernel, rfl, by decide +kernel, by decide +kernel⟩
theorem G_equal_places (T : Tx K mg) : FnG P w K mg base CX0 1 T.equal_places.f T.equal_places.fd ["first", "second"] sp_equal_places := by
  refine okG T.equal_places.F sc_equal_places (fun vs H Q E h => ?_) (fun cdv A outer s H vs Q E gd hr h => ?_)
  · obtain ⟨x, y, f, s, rfl, _⟩ := h
    rfl
  · obtain ⟨x, y, f, g, rfl, hf, hg, lf, lg, q⟩ := h
    refine ⟨_, 
      (pss_one (ps_ret (pe_callTy call_tuple_of (by rfl) T.m_tuple (by decide +kernel) (pa_cons (pe_lc (own := [("i", 2), ("value", 3)]) (g := gTup K 2 (gCons (gName 2) (gCons (gName 3) gNil))) rfl sc_equal_places.nd (pi_enumT (by rfl) T.m_enumerate (pa_cons (pv 0) pa_nil)) (blkOk_by (N := N_equal_places) (sc := defScope s_equal_places) (by decide +kernel)) (fun _ _ _ _ _ => (pg_tup rfl (pgs_cons (pg_name (i := 2) sc_equal_places.nd rfl (.inl rfl)) (pgs_cons (pg_name (i := 3) sc_equal_places.nd rfl (.inl rfl)) pgs_nil)))) (fun _ _ _ _ _ => (pts_one (pt_cmpR (r := rIn K false) op_in_seq (pv 3) (pv 1) rfl))) (fun _ _ _ _ _ => (pe_tup (pa_cons (pv 2) (pa_cons (pe_bmT (r := rIdxI K) PySem.F.plainAttrs_tuple PySem.F.slot_tuple_index PySem.F.type_tuple_index mt_tup_indexI (pv 1) (pa_cons (pv 3) pa_nil)) pa_nil))))) pa_nil)))) -- return tuple([(i, second.index(value)) for i, value in enumerate(first) if value in second])
       , ?_⟩
    have L5 : 200000 ≤ sizeLine := by decide
    refine ⟨.ref x, rfl, x, _, rfl, hf.sq, fun D nD => ?_⟩
    refine lc_it (walk_enumT (xs := f.map V.int)) (fun i H' => Same H H' ∧ ∃ xs, H' D = some (.lst xs) ∧ TDs H' xs ((eqF f g i).map pairD)) ?_ ?_ ?_ ?_
    · exact ⟨same_at (Same.refl H) nD, [], upd_same, .nil⟩
    · exact fun i H' _ h => sqT_same hf.sq h.1
    · rintro i v H1 H2 hi ⟨sm, xs, hD, hxs⟩ ⟨TT, x1, x2, rfl, nT, rfl, e1, e2⟩
      cases e1
      have hi' : i < f.length := by rw [List.length_map] at hi; exact hi
      have ef : f[i]? = some f[i] := List.getElem?_eq_getElem hi'
      have ex : x2 = .int f[i] := by
        have e2 : (f.map V.int)[i]? = some x2 := e2
        rw [List.getElem?_map, ef] at e2
        exact (Option.some.inj e2).symm
      subst ex
      have s7 := same_new (o := .tup [.int (i : Nat), .int f[i]]) nT
      have sm7 := sm.trans s7
      have hD7 := s7 _ _ hD
      refine ⟨TT, _, rfl, SqT.of upd_same, rfl, .int (i : Nat), [.int f[i]], rfl, .int f[i], [], rfl, rfl, rfl, ?_⟩
      refine ⟨.int f[i], rfl, .ref y, rfl, y, _, rfl, .inr (hg.mono sm7).sq, rfl, flat_ints _, _, rfl, ?_⟩
      rw [if_neg Bool.false_ne_true, inV_ints, eqF_succ f g i ef]
      by_cases hv : f[i] ∈ g
      · rw [decide_eq_true hv, if_pos hv]
        refine iteT ?_
        obtain ⟨i1, i2⟩ := idx_first hv
        refine ⟨.int (i : Nat), rfl, .ref y, rfl, (hg.mono sm7).ty, .int f[i], rfl, y, g, f[i], g.idxOf f[i], rfl, rfl, (hg.mono sm7).sq, i1, i2, by show 2 ≤ sizeLine; decide, fun m nm => ?_⟩
        have s8 := same_new (o := .tup [.int (i : Nat), .int ((g.idxOf f[i] : Nat) : Int)]) nm
        have hD8 := s8 _ _ hD7
        have tp := Tups.lst (o := .lst (xs ++ [.ref m])) hD8
        refine ⟨xs, hD8, ?_, same_at (sm7.trans s8) nD, _, upd_same, ?_⟩
        · have := hxs.len
          have := eqF_len f g i
          rw [List.length_map] at *
          have := L5
          omega
        · rw [List.map_append]
          exact tds_snoc ((hxs.mono (Tups.same (s7.trans s8))).mono tp) (.tup (tp _ _ upd_same) (.cons (.int _) (.cons (.int _) .nil)))
      · rw [decide_eq_false hv, if_neg hv]
        refine iteF ?_
        rw [List.append_nil]
        exact ⟨sm7, xs, hD7, hxs.mono (Tups.same s7)⟩
    · rintro H1 ⟨sm, xs, hD, hxs⟩
      rw [List.length_map] at hxs
      refine ⟨D, xs, rfl, .inl ⟨SqL.of hD, fun l nl => ?_⟩⟩
      refine q l _ (sm.trans (same_new nl)) (.tup upd_same (hxs.mono (Tups.same (same_new nl))))
abbrev N_held_numbers : List Str := ["pair", "situation", "p", "q", "pairs", "first", "partners", "i", "j", "second", "fresh"]
theorem sc_held_numbers : FnScope N_held_numbers ["pair", "situation"] (defScope s_held_numbers) := ⟨rfl, rfl, rfl, by decide +kernel, rfl, by decide +kernel, by decide +kernel⟩
theorem G_held_numbers (T : Tx K mg) : FnG P w K mg base CX0 2 T.held_numbers.f T.held_numbers.fd ["pair", "situation"] (sp_held_numbers K T.Watcher.C) := by
  refine okG T.held_numbers.F sc_held_numbers (fun vs H Q E h => ?_) (fun cdv A outer s H vs Q E gd hr h => ?_)
  · obtain ⟨t, v, a, b, P1, P2, s, rfl, _⟩ := h
    rfl
  · obtain ⟨t, v, a, b, P1, P2, st, rfl, hp, hv, hin, q⟩ := h
    refine ⟨_, 
      (pss_cons (ps_asg (pv 1) (pg_tup rfl (pgs_cons (pg_name (i := 2) sc_held_numbers.nd rfl (.inl rfl)) (pgs_cons (pg_name (i := 3) sc_held_numbers.nd rfl (.inl rfl)) (pgs_cons (pg_name (i := 4) sc_held_numbers.nd rfl (.inl rfl)) pgs_nil))))) -- p, q, pairs = situation
      (C8.pss_cut (ps_set (i := 5) sc_held_numbers.nd rfl (.inl rfl) (pe_tupRgF rfl (by rfl) T.m_tuple (prg_1 (by rfl) T.m_range (pe_ix ix_tup (pe_meth0G (pe_ix ix_tup (pv 0) pe_int (fun _ _ => rfl)) T.Watcher.cl T.Watcher_held_counts.M (G_Watcher_held_counts T) gd (hr.mono (by decide)) T.Watcher_held_counts.b .nil pass0) (pv 2) (fun _ _ => rfl))))) -- first = tuple(range(pair[0].held_counts()[p]))
      (C8.pss_cut (ps_setDc (i := 6) (own := [("i", 7), ("j", 8)]) (g := gTup K 2 (gCons (gName 7) (gCons (gName 8) gNil))) rfl sc_held_numbers.nd rfl rfl (by rfl) (pi_tup (pv 4)) (blkOk_by (N := N_held_numbers) (sc := defScope s_held_numbers) (by decide +kernel)) (fun _ _ _ _ _ => (pg_tup rfl (pgs_cons (pg_name (i := 7) sc_held_numbers.nd rfl (.inl rfl)) (pgs_cons (pg_name (i := 8) sc_held_numbers.nd rfl (.inl rfl)) pgs_nil)))) (fun _ _ _ _ _ => pts_nil) (fun _ _ _ _ _ => (pv 8)) (fun _ _ _ _ _ => (pv 7))) -- partners = {j: i for i, j in pairs}
      (pss_cons (ps_set (i := 9) sc_held_numbers.nd rfl (.inl rfl) (pe_lst pa_nil)) -- second = []
      (pss_cons (ps_set (i := 10) sc_held_numbers.nd rfl (.inl rfl) (pe_callB call_len_seq (by rfl) T.m_len PySem.boot_len (pa_cons (pv 5) pa_nil))) -- fresh = len(first)
      (C8.pss_cut (ps_for PassesOwn.never rfl (pi_range1 rfl T.m_range (pa_cons (pe_ix ix_tup (pe_meth0G (pe_ix ix_tup (pv 0) pe_int (fun _ _ => rfl)) T.Watcher.cl T.Watcher_held_counts.M (G_Watcher_held_counts T) gd (hr.mono (by decide)) T.Watcher_held_counts.b .nil pass0) (pv 3) (fun _ _ => rfl)) pa_nil)) (pg_name (i := 8) sc_held_numbers.nd rfl (.inl rfl)) 
        (pss_one (ps_if (pt_cmp (pc_din (hu_of hr) (pv 8) (pv 6))) 
          (pss_one (ps_expr (pe_bm PySem.F.plainAttrs_list PySem.F.slot_list_append PySem.F.type_list_append mt_append (pv 9) (pa_cons (pe_dget (hu_of hr) (pv 6) (pv 8) (fun _ _ => rfl)) pa_nil)))) -- second.append(partners[j])
           
          (pss_cons (ps_expr (pe_bm PySem.F.plainAttrs_list PySem.F.slot_list_append PySem.F.type_list_append mt_append (pv 9) (pa_cons (pv 10) pa_nil))) -- second.append(fresh)
          (pss_one (ps_aug (i := 10) sc_held_numbers.nd rfl (.inl rfl) pe_int ip_add)) -- fresh += 1
          ))) -- if j in partners:
        ) -- for j in range(pair[1].held_counts()[q]):
      (pss_one (ps_ret (pe_tup (pa_cons (pv 5) (pa_cons (pe_callTy call_tupleF (by rfl) T.m_tuple (by decide +kernel) (pa_cons (pv 9) pa_nil)) pa_nil))))) -- return (first, tuple(second))
      )))))) , ?_⟩
    obtain ⟨p, pq, ps⟩ := st
    obtain ⟨sv, xs, rfl, hsv, hxs⟩ := hv.isTup
    cases hxs with
    | cons h1 hxs =>
      cases h1
      cases hxs with
      | cons h2 hxs =>
        cases h2
        cases hxs with
        | cons h3 hxs =>
          cases hxs
          obtain ⟨pa, ys, rfl, hpa, hys⟩ := h3.isTup
          refine ⟨.ref sv, rfl, sv, _, rfl, SqT.of hsv, rfl, .int p, [.int pq, .ref pa], rfl, .int pq, [.ref pa], rfl, .ref pa, [], rfl, rfl, ?_⟩
          obtain ⟨dx, hx⟩ := hp.w1.w.ins
          obtain ⟨dy, hy⟩ := hp.w2.w.ins
          have hA := held_bd hp.w1.ok.k hin.p0 hin.p1
          have hB := held_bd hp.w2.ok.k hin.q0 hin.q1
          dsimp only at hA hB
          have iA : atI ((P1.kinds.map (·.2)).map V.int) p = some (.int (heldAt P1.kinds p)) := by
            rw [← hAt_held]
            exact hs_at hin.p0 (by rw [List.length_map]; exact hin.p1)
          have iB : atI ((P2.kinds.map (·.2)).map V.int) pq = some (.int (heldAt P2.kinds pq)) := by
            rw [← hAt_held]
            exact hs_at hin.q0 (by rw [List.length_map]; exact hin.q1)
          refine ⟨fun σ H' => ∃ fa, σ = [some (.ref t), some (.ref sv), some (.int p), some (.int pq), some (.ref pa), some (.ref fa), none, none, none, none, none] ∧ Same H H' ∧ HT H' fa (firstM (heldAt P1.kinds p)), ?_, ?_⟩
          · clear q
            refine ⟨.ref t, rfl, t, _, 0, .ref a.x, rfl, rfl, hp.sq, atI_nat (j := 0) rfl, a.x, dx, _, rfl, hx, rfl, a.x, a.lv, a.lh, a.d, _, _, _, _, rfl, hp.w1.w, fun c nc => ⟨.int p, rfl, c, _, p, .int (heldAt P1.kinds p), rfl, rfl, SqT.of upd_same, iA, ?_⟩⟩
            refine ⟨heldAt P1.kinds p, rfl, RgOk.of_le (Int.le_refl 0) (by omega) (by omega) hA.1, fun fa ob nfa hob => ⟨fa, rfl, (same_new nc).trans (same_new nfa), ob, ?_, hob⟩⟩
            rw [upd_same, firstM_V]
          rintro σ H1 ⟨fa, rfl, s1, hfa⟩
          have lps : ys.length = ps.length := by
            have := hys.length
            rwa [List.length_map] at this
          have lp3 : ps.length ≤ 3 := hin.len
          refine ⟨fun σ H' => ∃ (D : Addr) (kvs : List (Key × V)), σ = [some (.ref t), some (.ref sv), some (.int p), some (.int pq), some (.ref pa), some (.ref fa), some (.ref D), none, none, none, none] ∧ Same H1 H' ∧ H1 D = none ∧ H' D = some (.dK kvs) ∧ ∀ j : Int, valV kvs (.inl j : Key) = (prt ps j).map V.int, ?_, ?_⟩
          · clear q
            refine ⟨.ref pa, rfl, pa, rfl, ⟨ys, SqT.of (s1 _ _ hpa)⟩, fun D nD => ?_⟩
            refine dc_tup (xs := ys) (fun i H' => Same H1 H' ∧ ∃ kvs : List (Key × V), H' D = some (.dK kvs) ∧ kvs.length ≤ i ∧ ∀ j : Int, valV kvs (.inl j : Key) = (prt (ps.take i) j).map V.int) ?_ ?_ ?_ ?_
            · exact ⟨same_at (Same.refl H1) nD, [], upd_same, Nat.le_refl _, fun j => rfl⟩
            · exact fun i H' _ h => SqT.of (h.1 _ _ (s1 _ _ hpa))
            · rintro i x H2 hx ⟨s2, kvs, hD, lk, hk⟩
              have hi : i < ps.length := by
                have := (List.getElem?_eq_some_iff.mp hx).1
                omega
              obtain ⟨d, hd, hxd⟩ := hys.get hx
              rw [List.getElem?_map, List.getElem?_eq_getElem hi] at hd
              obtain rfl := (Option.some.inj hd)
              obtain ⟨ta, zs, rfl, hta, hzs⟩ := hxd.isTup
              cases hzs with
              | cons g1 gr =>
                cases g1
                cases gr with
                | cons g2 gr =>
                  cases g2
                  cases gr
                  refine ⟨ta, _, rfl, SqT.of (s2 _ _ (s1 _ _ hta)), rfl, .int ps[i].1, [.int ps[i].2], rfl, .int ps[i].2, [], rfl, rfl, rfl, ?_⟩
                  refine ⟨.int ps[i].2, rfl, .int ps[i].1, rfl, kvs, .inl ps[i].2, rfl, hD, Nat.lt_of_le_of_lt lk (Nat.lt_trans hi (Nat.lt_of_le_of_lt lp3 (by decide))), same_at s2 nD, putK kvs (.inl ps[i].2) (.int ps[i].1), upd_same, ?_, fun j => ?_⟩
                  · have := length_putK kvs (.inl ps[i].2 : Key) (V.int ps[i].1)
                    omega
                  · rw [valV_put, hk j, List.take_add_one, List.getElem?_eq_getElem hi]
                    unfold prt
                    rw [Option.toList_some, List.foldl_append]
                    show _ = Option.map V.int (if ps[i].2 = j then some ps[i].1 else _)
                    by_cases e : ps[i].2 = j
                    · rw [if_pos e, if_pos (by rw [e])]
                      rfl
                    · rw [if_neg e, if_neg (fun z => e (Sum.inl.inj z).symm)]
            · rintro H2 ⟨s2, kvs, hD, lk, hk⟩
              rw [lps, List.take_length] at hk
              exact ⟨D, kvs, rfl, s2, nD, hD, hk⟩
          rintro σ H2 ⟨D, kvs, rfl, s2, nD, hD, hk⟩
          have s12 := s1.trans s2
          refine ⟨by show 0 ≤ sizeLine; decide, fun sl nsl => ?_⟩
          have s3 := same_new (o := .lst []) nsl
          refine ⟨.ref fa, rfl, fa, _, rfl, .inr ((hfa.mono s2).mono s3).sq, ?_⟩
          rw [List.length_map, firstM_len]
          refine ⟨fun σ H' => ∃ y, σ = [some (.ref t), some (.ref sv), some (.int p), some (.int pq), some (.ref pa), some (.ref fa), some (.ref D), none, y, some (.ref sl), some (.int (secF ps (heldAt P1.kinds p) (heldAt P2.kinds pq).toNat).2)] ∧ Same H H' ∧ HT H' fa (firstM (heldAt P1.kinds p)) ∧ H' sl = some (.lst ((secondM ps (heldAt P1.kinds p) (heldAt P2.kinds pq)).map V.int)), ?_, ?_⟩
          · clear q
            have sm := s12.trans s3
            have hy3 := sm _ _ hy
            refine ⟨.ref t, rfl, t, _, 1, .ref b.x, rfl, rfl, sqT_same hp.sq sm, atI_nat (j := 1) rfl, b.x, dy, _, rfl, hy3, rfl, b.x, b.lv, b.lh, b.d, _, _, _, _, rfl, hp.w2.w.mono sm, fun c nc => ⟨.int pq, rfl, c, _, pq, .int (heldAt P2.kinds pq), rfl, rfl, SqT.of upd_same, iB, heldAt P2.kinds pq, rfl, by omega, by omega, ?_⟩⟩
            have s4 := same_new (o := .tup ((P2.kinds.map (·.2)).map V.int)) nc
            refine for_range (n := (heldAt P2.kinds pq).toNat) (fun i σ H' => ∃ y, σ = [some (.ref t), some (.ref sv), some (.int p), some (.int pq), some (.ref pa), some (.ref fa), some (.ref D), none, y, some (.ref sl), some (.int (secF ps (heldAt P1.kinds p) i).2)] ∧ Same H2 H' ∧ H' sl = some (.lst ((secF ps (heldAt P1.kinds p) i).1.map V.int))) ?_ ?_ ?_
            · refine ⟨none, ?_, s3.trans s4, s4 _ _ upd_same⟩
              have e : (((heldAt P1.kinds p).toNat : Nat) : Int) = heldAt P1.kinds p := by omega
              rw [e]
              rfl
            · rintro i σ H5 hi ⟨y, rfl, s5, hsl⟩
              have e0 : (0 : Int) + (i : Int) = (i : Int) := by omega
              rw [e0]
              have hD5 := s5 _ _ hD
              have hki := hk (i : Int)
              have ll := secF_len ps (heldAt P1.kinds p) i
              refine ⟨.int (i : Int), rfl, .ref D, rfl, D, _, rfl, DGet.k (k := (.inl (i : Int) : Key)) hD5, _, rfl, ?_⟩
              rw [hki, Option.isSome_map]
              have es := secF_succ ps (heldAt P1.kinds p) i
              cases e : prt ps (i : Int) with
              | some z =>
                rw [e] at hki es
                dsimp only at es
                refine iteT ?_
                refine ⟨.ref sl, rfl, .inl ⟨rfl, _, SqL.of hsl⟩, .ref D, rfl, .int (i : Int), rfl, D, .int z, rfl, ?_, sl, _, .int z, rfl, rfl, hsl, ?_, some (.int (i : Int)), ?_, same_at s5 (by exact nsl), ?_⟩
                · have := DGet.k (k := (.inl (i : Int) : Key)) hD5
                  rw [hki] at this
                  exact this
                · rw [List.length_map, ll]
                  have : 10 ≤ sizeLine := by decide
                  omega
                · rw [es]
                  rfl
                · rw [upd_same, es, List.map_append]
                  rfl
              | none =>
                rw [e] at hki es
                dsimp only at es
                refine iteF ?_
                refine ⟨.ref sl, rfl, .inl ⟨rfl, _, SqL.of hsl⟩, .int _, rfl, sl, _, .int (secF ps (heldAt P1.kinds p) i).2, rfl, rfl, hsl, ?_, .int _, rfl, _, 1, rfl, rfl, some (.int (i : Int)), ?_, same_at s5 (by exact nsl), ?_⟩
                · rw [List.length_map, ll]
                  have : 10 ≤ sizeLine := by decide
                  omega
                · rw [es]
                  rfl
                · rw [upd_same, es, List.map_append]
                  rfl
            · rintro σ H5 ⟨y, rfl, s5, hsl⟩
              exact ⟨y, rfl, s12.trans s5, (hfa.mono s2).mono s5, hsl⟩
          rintro σ H3 ⟨y, rfl, s3', hfa3, hsl3⟩
          refine ⟨.ref fa, rfl, .ref sl, rfl, sl, _, rfl, SqL.of hsl3, fun l ob nl hob => ?_⟩
          have s6 := same_new (o := .frz ob (.tup ((secondM ps (heldAt P1.kinds p) (heldAt P2.kinds pq)).map V.int))) nl
          refine ⟨by show 2 ≤ sizeLine; decide, fun r nr => ?_⟩
          have s7 := same_new (o := .tup [.ref fa, .ref l]) nr
          exact q r fa l _ ((s3'.trans s6).trans s7) upd_same ((hfa3.mono s6).mono s7) ⟨ob, s7 _ _ upd_same, hob⟩
end

section
variable {P : Program} {w : World} {K : PySem.W.Frag} {mg : Str → Option Value} {base : Heap}
abbrev N_cases_between : List Str := ["first", "second", "both", "i", "j", "alone", "value", "others"]
theorem sc_cases_between : FnScope N_cases_between ["first", "second"] (defScope s_cases_between) := ⟨rfl, rfl, rfl, by decide +kernel, rfl, by decide +kernel, by decide +kernel⟩
theorem G_cases_between (T : Tx K mg) : FnG P w K mg base CX0 2 T.cases_between.f T.cases_between.fd ["first", "second"] sp_cases_between := by
  refine okG T.cases_between.F sc_cases_between (fun vs H Q E h => ?_) (fun cdv A outer s H vs Q E gd hr h => ?_)
  · obtain ⟨x, y, f, s, rfl, _⟩ := h
    rfl
  · obtain ⟨x, y, f, g, rfl, hf, hg, lf, lg, q⟩ := h
    refine ⟨_, 
      (C8.pss_cut (ps_setLc (i := 2) (own := [("i", 3), ("j", 4)]) (g := gTup K 2 (gCons (gName 3) (gCons (gName 4) gNil))) rfl sc_cases_between.nd rfl rfl (by rfl) (pi_tup (pe_callG (G_equal_places T) gd (hr.mono (by decide)) rfl T.equal_places.g T.equal_places.F.kp T.equal_places.b .nil pass0 (pa_cons (pv 0) (pa_cons (pv 1) pa_nil)))) (blkOk_by (N := N_cases_between) (sc := defScope s_cases_between) (by decide +kernel)) (fun _ _ _ _ _ => (pg_tup rfl (pgs_cons (pg_name (i := 3) sc_cases_between.nd rfl (.inl rfl)) (pgs_cons (pg_name (i := 4) sc_cases_between.nd rfl (.inl rfl)) pgs_nil)))) (fun _ _ _ _ _ => pts_nil) (fun _ _ _ _ _ => (pe_tup (pa_cons (pe_glob (v := .str "both") rfl T.g_BOTH ⟨_, rfl⟩) (pa_cons (pv 3) (pa_cons (pv 4) pa_nil)))))) -- both = [(BOTH, i, j) for i, j in equal_places(first, second)]
      (C8.pss_cut (ps_setLc (i := 5) (own := [("i", 3), ("value", 6)]) (g := gTup K 2 (gCons (gName 3) (gCons (gName 6) gNil))) rfl sc_cases_between.nd rfl rfl (by rfl) (pi_enumT (by rfl) T.m_enumerate (pa_cons (pv 0) pa_nil)) (blkOk_by (N := N_cases_between) (sc := defScope s_cases_between) (by decide +kernel)) (fun _ _ _ _ _ => (pg_tup rfl (pgs_cons (pg_name (i := 3) sc_cases_between.nd rfl (.inl rfl)) (pgs_cons (pg_name (i := 6) sc_cases_between.nd rfl (.inl rfl)) pgs_nil)))) (fun _ _ _ _ _ => (pts_one (pt_cmpR (r := rIn K true) op_notIn_seq (pv 6) (pv 1) rfl))) (fun _ _ _ _ _ => (pe_tup (pa_cons (pe_glob (v := .str "first") rfl T.g_FIRST ⟨_, rfl⟩) (pa_cons (pv 3) pa_nil))))) -- alone = [(FIRST, i) for i, value in enumerate(first) if value not in second]
      (C8.pss_cut (ps_setLc (i := 7) (own := [("j", 4), ("value", 6)]) (g := gTup K 2 (gCons (gName 4) (gCons (gName 6) gNil))) rfl sc_cases_between.nd rfl rfl (by rfl) (pi_enumT (by rfl) T.m_enumerate (pa_cons (pv 1) pa_nil)) (blkOk_by (N := N_cases_between) (sc := defScope s_cases_between) (by decide +kernel)) (fun _ _ _ _ _ => (pg_tup rfl (pgs_cons (pg_name (i := 4) sc_cases_between.nd rfl (.inl rfl)) (pgs_cons (pg_name (i := 6) sc_cases_between.nd rfl (.inl rfl)) pgs_nil)))) (fun _ _ _ _ _ => (pts_one (pt_cmpR (r := rIn K true) op_notIn_seq (pv 6) (pv 0) rfl))) (fun _ _ _ _ _ => (pe_tup (pa_cons (pe_glob (v := .str "second") rfl T.g_SECOND ⟨_, rfl⟩) (pa_cons (pv 4) pa_nil))))) -- others = [(SECOND, j) for j, value in enumerate(second) if value not in first]
      (pss_one (ps_ret (pe_tup (StX.pa_star (pv 2) (StX.pa_star (pv 5) (StX.pa_star (pv 7) (pa_cons (pe_tup (pa_cons (pe_glob (v := .str "new") rfl T.g_NEW ⟨_, rfl⟩) pa_nil)) pa_nil))))))) -- return (*both, *alone, *others, (NEW,))
      ))) , ?_⟩
    have L5 : 200000 ≤ sizeLine := by decide
    refine ⟨fun σ H' => ∃ y2 y3 y4 b1 xs, σ = [some (.ref x), some (.ref y), y2, y3, y4, none, none, none] ∧ y2 = some (.ref b1) ∧ Same H H' ∧ H' b1 = some (.lst xs) ∧ TDs H' xs (((eqM f g).map fun m => Cs.both m.1 m.2).map csD), ?_, ?_⟩
    · clear q
      refine ⟨.ref x, rfl, .ref y, rfl, x, y, f, g, rfl, hf, hg, lf, lg, fun r H1 s1 hr1 => ?_⟩
      obtain ⟨ra, es, er, hra, hes⟩ := hr1.isTup
      obtain rfl := V.ref.inj er
      have les : es.length = (eqM f g).length := by
        have := hes.length
        rwa [List.length_map] at this
      have le100 : (eqM f g).length ≤ 100 := Nat.le_trans (eqF_len f g _) lf
      refine ⟨r, rfl, ⟨es, SqT.of hra⟩, fun D nD => ?_⟩
      refine lc_tup (xs := es) (fun i H' => Same H1 H' ∧ ∃ xs, H' D = some (.lst xs) ∧ TDs H' xs ((((eqM f g).take i).map fun m => Cs.both m.1 m.2).map csD)) ?_ ?_ ?_ ?_
      · exact ⟨same_at (Same.refl H1) nD, [], upd_same, .nil⟩
      · exact fun i H' _ h => SqT.of (h.1 _ _ hra)
      · rintro i v H2 hv ⟨s2, xs, hD, hxs⟩
        have hi : i < (eqM f g).length := by
          have := (List.getElem?_eq_some_iff.mp hv).1
          omega
        obtain ⟨d, hd, hvd⟩ := hes.get hv
        rw [List.getElem?_map, List.getElem?_eq_getElem hi] at hd
        obtain rfl := (Option.some.inj hd)
        obtain ⟨ta, zs, rfl, hta, hzs⟩ := hvd.isTup
        cases hzs with
        | cons g1 gr =>
          cases g1
          cases gr with
          | cons g2 gr =>
            cases g2
            cases gr
            refine ⟨ta, _, rfl, SqT.of (s2 _ _ hta), rfl, .int (eqM f g)[i].1, [.int (eqM f g)[i].2], rfl, .int (eqM f g)[i].2, [], rfl, rfl, rfl, ?_⟩
            refine ⟨.int (eqM f g)[i].1, rfl, .int (eqM f g)[i].2, rfl, by show 3 ≤ sizeLine; decide, fun m nm => ?_⟩
            have s8 := same_new (o := .tup [.str "both", .int (eqM f g)[i].1, .int (eqM f g)[i].2]) nm
            have hD8 := s8 _ _ hD
            have tp := Tups.lst (o := .lst (xs ++ [.ref m])) hD8
            refine ⟨xs, hD8, ?_, same_at (s2.trans s8) nD, _, upd_same, ?_⟩
            · have := hxs.len
              rw [List.length_map, List.length_map, List.length_take] at this
              omega
            · rw [List.take_add_one, List.getElem?_eq_getElem hi, Option.toList_some, List.map_append, List.map_append]
              exact tds_snoc ((hxs.mono (Tups.same s8)).mono tp) (.tup (tp _ _ upd_same) (.cons (.str _) (.cons (.int _) (.cons (.int _) .nil))))
      · rintro H2 ⟨s2, xs, hD, hxs⟩
        rw [les, List.take_length] at hxs
        exact ⟨_, none, none, D, xs, rfl, rfl, s1.trans s2, hD, hxs⟩
    rintro σ H1 ⟨_, y3, y4, b1, x1, rfl, rfl, s1, hb1, hx1⟩
    refine ⟨fun σ H' => ∃ y3 y4 y6 b2 xs, σ = [some (.ref x), some (.ref y), some (.ref b1), y3, y4, some (.ref b2), y6, none] ∧ Same H1 H' ∧ H' b2 = some (.lst xs) ∧ TDs H' xs (((loneM f g).map Cs.first).map csD), ?_, ?_⟩
    · clear q
      refine ⟨.ref x, rfl, x, _, rfl, (hf.mono s1).sq, fun D nD => ?_⟩
      refine lc_it (walk_enumT (xs := f.map V.int)) (fun i H' => Same H1 H' ∧ ∃ xs, H' D = some (.lst xs) ∧ TDs H' xs (((loneF f g i).map Cs.first).map csD)) ?_ ?_ ?_ ?_
      · exact ⟨same_at (Same.refl _) nD, [], upd_same, .nil⟩
      · exact fun i H' _ h => sqT_same (hf.mono s1).sq h.1
      · rintro i v H3 H4 hi ⟨sm, xs, hD, hxs⟩ ⟨TT, x1, x2, rfl, nT, rfl, e1, e2⟩
        cases e1
        have hi' : i < f.length := by rw [List.length_map] at hi; exact hi
        have ef : f[i]? = some f[i] := List.getElem?_eq_getElem hi'
        have ex : x2 = .int f[i] := by
          have e2 : (f.map V.int)[i]? = some x2 := e2
          rw [List.getElem?_map, ef] at e2
          exact (Option.some.inj e2).symm
        subst ex
        have s7 := same_new (o := .tup [.int (i : Nat), .int f[i]]) nT
        have sm7 := sm.trans s7
        have hD7 := s7 _ _ hD
        refine ⟨TT, _, rfl, SqT.of upd_same, rfl, .int (i : Nat), [.int f[i]], rfl, .int f[i], [], rfl, rfl, rfl, ?_⟩
        refine ⟨.int f[i], rfl, .ref y, rfl, y, _, rfl, .inr ((hg.mono s1).mono sm7).sq, rfl, flat_ints _, _, rfl, ?_⟩
        rw [if_pos rfl, inV_ints, loneF_succ f g i ef]
        by_cases hv : f[i] ∈ g
        · rw [decide_eq_true hv, if_pos hv]
          refine iteF ?_
          rw [List.append_nil]
          exact ⟨sm7, xs, hD7, hxs.mono (Tups.same s7)⟩
        · rw [decide_eq_false hv, if_neg hv]
          refine iteT ?_
          refine ⟨.int (i : Nat), rfl, by show 2 ≤ sizeLine; decide, fun m nm => ?_⟩
          have s8 := same_new (o := .tup [.str "first", .int (i : Nat)]) nm
          have hD8 := s8 _ _ hD7
          have tp := Tups.lst (o := .lst (xs ++ [.ref m])) hD8
          refine ⟨xs, hD8, ?_, same_at (sm7.trans s8) nD, _, upd_same, ?_⟩
          · have := hxs.len
            have := loneF_len f g i
            rw [List.length_map, List.length_map] at *
            omega
          · rw [List.map_append, List.map_append]
            exact tds_snoc ((hxs.mono (Tups.same (s7.trans s8))).mono tp) (.tup (tp _ _ upd_same) (.cons (.str _) (.cons (.int _) .nil)))
      · rintro H3 ⟨sm, xs, hD, hxs⟩
        rw [List.length_map] at hxs
        exact ⟨_, _, none, D, xs, rfl, sm, hD, hxs⟩
    rintro σ H2 ⟨y3, y4, y6, b2, x2, rfl, s2, hb2, hx2⟩
    refine ⟨fun σ H' => ∃ y3 y4 y6 b3 xs, σ = [some (.ref x), some (.ref y), some (.ref b1), y3, y4, some (.ref b2), y6, some (.ref b3)] ∧ Same H2 H' ∧ H' b3 = some (.lst xs) ∧ TDs H' xs (((loneM g f).map Cs.second).map csD), ?_, ?_⟩
    · clear q
      have s12 := s1.trans s2
      refine ⟨.ref y, rfl, y, _, rfl, (hg.mono s12).sq, fun D nD => ?_⟩
      refine lc_it (walk_enumT (xs := g.map V.int)) (fun i H' => Same H2 H' ∧ ∃ xs, H' D = some (.lst xs) ∧ TDs H' xs (((loneF g f i).map Cs.second).map csD)) ?_ ?_ ?_ ?_
      · exact ⟨same_at (Same.refl _) nD, [], upd_same, .nil⟩
      · exact fun i H' _ h => sqT_same (hg.mono s12).sq h.1
      · rintro i v H3 H4 hi ⟨sm, xs, hD, hxs⟩ ⟨TT, x1, x2, rfl, nT, rfl, e1, e2⟩
        cases e1
        have hi' : i < g.length := by rw [List.length_map] at hi; exact hi
        have ef : g[i]? = some g[i] := List.getElem?_eq_getElem hi'
        have ex : x2 = .int g[i] := by
          have e2 : (g.map V.int)[i]? = some x2 := e2
          rw [List.getElem?_map, ef] at e2
          exact (Option.some.inj e2).symm
        subst ex
        have s7 := same_new (o := .tup [.int (i : Nat), .int g[i]]) nT
        have sm7 := sm.trans s7
        have hD7 := s7 _ _ hD
        refine ⟨TT, _, rfl, SqT.of upd_same, rfl, .int (i : Nat), [.int g[i]], rfl, .int g[i], [], rfl, rfl, rfl, ?_⟩
        refine ⟨.int g[i], rfl, .ref x, rfl, x, _, rfl, .inr ((hf.mono s12).mono sm7).sq, rfl, flat_ints _, _, rfl, ?_⟩
        rw [if_pos rfl, inV_ints, loneF_succ g f i ef]
        by_cases hv : g[i] ∈ f
        · rw [decide_eq_true hv, if_pos hv]
          refine iteF ?_
          rw [List.append_nil]
          exact ⟨sm7, xs, hD7, hxs.mono (Tups.same s7)⟩
        · rw [decide_eq_false hv, if_neg hv]
          refine iteT ?_
          refine ⟨.int (i : Nat), rfl, by show 2 ≤ sizeLine; decide, fun m nm => ?_⟩
          have s8 := same_new (o := .tup [.str "second", .int (i : Nat)]) nm
          have hD8 := s8 _ _ hD7
          have tp := Tups.lst (o := .lst (xs ++ [.ref m])) hD8
          refine ⟨xs, hD8, ?_, same_at (sm7.trans s8) nD, _, upd_same, ?_⟩
          · have := hxs.len
            have := loneF_len g f i
            rw [List.length_map, List.length_map] at *
            omega
          · rw [List.map_append, List.map_append]
            exact tds_snoc ((hxs.mono (Tups.same (s7.trans s8))).mono tp) (.tup (tp _ _ upd_same) (.cons (.str _) (.cons (.int _) .nil)))
      · rintro H3 ⟨sm, xs, hD, hxs⟩
        rw [List.length_map] at hxs
        exact ⟨_, _, _, D, xs, rfl, sm, hD, hxs⟩
    rintro σ H3 ⟨y3, y4, y6, b3, x3, rfl, s3, hb3, hx3⟩
    have t1 := hx1.mono (Tups.same (s2.trans s3))
    have t2 := hx2.mono (Tups.same s3)
    refine ⟨.ref b1, rfl, b1, x1, rfl, .inr (SqL.of ((s2.trans s3) _ _ hb1)), .ref b2, rfl, b2, x2, rfl, .inr (SqL.of (s3 _ _ hb2)), .ref b3, rfl, b3, x3, rfl, .inr (SqL.of hb3), by show 1 ≤ sizeLine; decide, fun m nm => ⟨?_, fun r nr => ?_⟩⟩
    · have e1 := hx1.len
      have e2 := hx2.len
      have e3 := hx3.len
      rw [List.length_map, List.length_map] at e1 e2 e3
      have n1 := eqF_len f g f.length
      have n2 := loneF_len f g f.length
      have n3 := loneF_len g f g.length
      have m1 : (eqM f g).length ≤ f.length := n1
      have m2 : (loneM f g).length ≤ f.length := n2
      have m3 : (loneM g f).length ≤ g.length := n3
      simp only [List.length_append, List.length_cons, List.length_nil]
      omega
    have s4 := same_new (o := .tup [.str "new"]) nm
    have s5 := same_new (o := .tup (x1 ++ (x2 ++ (x3 ++ [.ref m])))) nr
    have s45 := s4.trans s5
    refine q r _ (((s1.trans s2).trans s3).trans s45) (.tup upd_same ?_)
    unfold casesM
    rw [List.map_append, List.map_append, List.map_append]
    exact (t1.mono (Tups.same s45)).app ((t2.mono (Tups.same s45)).app ((hx3.mono (Tups.same s45)).app (.cons (.tup (s5 _ _ upd_same) (.cons (.str _) .nil)) .nil)))
abbrev N_value_of : List Str := ["case", "first", "second"]
theorem sc_value_of : FnScope N_value_of ["case", "first", "second"] (defScope s_value_of) := ⟨rfl, rfl, rfl, by decide +kernel, rfl, by decide +kernel, by decide +kernel⟩
theorem G_value_of (T : Tx K mg) : FnG P w K mg base CX0 2 T.value_of.f T.value_of.fd ["case", "first", "second"] sp_value_of := by
  refine okG T.value_of.F sc_value_of (fun vs H Q E h => ?_) (fun cdv A outer s H vs Q E gd hr h => ?_)
  · obtain ⟨v, x, y, c, f, s, rfl, _⟩ := h
    rfl
  · obtain ⟨v, x, y, c, f, g, rfl, hv, hf, hg, lf, lg, hc, q⟩ := h
    refine ⟨_, 
      (pss_cons (ps_if (pt_cmpR op_eq (pe_ix ix_tup (pv 0) pe_int (fun _ _ => rfl)) (pe_glob (v := .str "new") rfl T.g_NEW ⟨_, rfl⟩) (nomark _)) 
        (pss_one (ps_ret (pe_callG (G_least_other T) gd (hr.mono (by decide)) rfl T.least_other.g T.least_other.F.kp T.least_other.b .nil pass0 (pa_cons (pe_tup (StX.pa_star (pv 1) (StX.pa_star (pv 2) pa_nil))) pa_nil)))) -- return least_other((*first, *second))
         pss_nil) -- if case[0] == NEW:
      (pss_cons (ps_if (pt_cmpR op_eq (pe_ix ix_tup (pv 0) pe_int (fun _ _ => rfl)) (pe_glob (v := .str "second") rfl T.g_SECOND ⟨_, rfl⟩) (nomark _)) 
        (pss_one (ps_ret (pe_ix ix_tup (pv 2) (pe_ix ix_tup (pv 0) pe_int (fun _ _ => rfl)) (fun _ _ => rfl)))) -- return second[case[1]]
         pss_nil) -- if case[0] == SECOND:
      (pss_one (ps_ret (pe_ix ix_tup (pv 1) (pe_ix ix_tup (pv 0) pe_int (fun _ _ => rfl)) (fun _ _ => rfl)))) -- return first[case[1]]
      )) , ?_⟩
    have L5 : 200000 ≤ sizeLine := by decide
    obtain ⟨ca, xs, hca, rfl, hxs⟩ : ∃ ca xs, H ca = some (.tup xs) ∧ v = .ref ca ∧ ∃ ds, csD c = .tuple ds ∧ TDs H xs ds := by
      cases c <;> (obtain ⟨ca, xs, e, h1, h2⟩ := hv.isTup; exact ⟨ca, xs, h1, e, _, rfl, h2⟩)
    obtain ⟨ds, ed, hds⟩ := hxs
    have nm : ∀ (a b : Str), a ≠ b → decide (V.str a = V.str b) = false := fun a b n => decide_eq_false fun z => n (V.str.inj z)
    cases c with
    | new =>
      cases ed
      cases hds with
      | cons g1 gr =>
        cases g1
        cases gr
        refine ⟨.ref ca, rfl, ca, _, 0, .str "new", rfl, rfl, SqT.of hca, atI_nat (j := 0) rfl, rfl, true, congrArg V.bl (decide_eq_true rfl), iteT ?_⟩
        refine ⟨.ref x, rfl, x, _, rfl, .inl hf.sq, .ref y, rfl, y, _, rfl, .inl hg.sq, ?_, fun m nm => ?_⟩
        · rw [List.length_append, List.length_append, List.length_map, List.length_map]
          show _ + (_ + 0) ≤ sizeLine
          omega
        refine ⟨m, f ++ g, rfl, ?_, by rw [List.length_append]; omega, q _ (same_new nm)⟩
        rw [upd_same, List.append_nil, List.map_append]
    | both i j =>
      cases ed
      cases hds with
      | cons g1 gr =>
        cases g1
        cases gr with
        | cons g2 gr =>
          cases g2
          obtain ⟨hc0, hc1⟩ := hc
          obtain ⟨n, rfl⟩ : ∃ n : Nat, i = n := ⟨i.toNat, by omega⟩
          have hn : n < f.length := by omega
          refine ⟨.ref ca, rfl, ca, _, 0, .str "both", rfl, rfl, SqT.of hca, atI_nat (j := 0) rfl, rfl, false, congrArg V.bl (nm _ _ (by decide +kernel)), iteF ?_⟩
          refine ⟨.ref ca, rfl, ca, _, 0, .str "both", rfl, rfl, SqT.of hca, atI_nat (j := 0) rfl, rfl, false, congrArg V.bl (nm _ _ (by decide +kernel)), iteF ?_⟩
          refine ⟨.ref x, rfl, .ref ca, rfl, ca, _, 1, .int (n : Int), rfl, rfl, SqT.of hca, atI_nat (j := 1) rfl, x, _, (n : Int), .int f[n], rfl, rfl, hf.sq, atI_nat (by rw [List.getElem?_map, List.getElem?_eq_getElem hn]; rfl), ?_⟩
          have := q H (Same.refl H)
          have e : valueM (.both (n : Int) j) f g = f[n] := by
            show (f[(n : Int).toNat]?).getD 0 = f[n]
            rw [Int.toNat_natCast, List.getElem?_eq_getElem hn]
            rfl
          rw [e] at this
          exact this
    | first i =>
      cases ed
      cases hds with
      | cons g1 gr =>
        cases g1
        cases gr with
        | cons g2 gr =>
          cases g2
          cases gr
          obtain ⟨hc0, hc1⟩ := hc
          obtain ⟨n, rfl⟩ : ∃ n : Nat, i = n := ⟨i.toNat, by omega⟩
          have hn : n < f.length := by omega
          refine ⟨.ref ca, rfl, ca, _, 0, .str "first", rfl, rfl, SqT.of hca, atI_nat (j := 0) rfl, rfl, false, congrArg V.bl (nm _ _ (by decide +kernel)), iteF ?_⟩
          refine ⟨.ref ca, rfl, ca, _, 0, .str "first", rfl, rfl, SqT.of hca, atI_nat (j := 0) rfl, rfl, false, congrArg V.bl (nm _ _ (by decide +kernel)), iteF ?_⟩
          refine ⟨.ref x, rfl, .ref ca, rfl, ca, _, 1, .int (n : Int), rfl, rfl, SqT.of hca, atI_nat (j := 1) rfl, x, _, (n : Int), .int f[n], rfl, rfl, hf.sq, atI_nat (by rw [List.getElem?_map, List.getElem?_eq_getElem hn]; rfl), ?_⟩
          have := q H (Same.refl H)
          have e : valueM (.first (n : Int)) f g = f[n] := by
            show (f[(n : Int).toNat]?).getD 0 = f[n]
            rw [Int.toNat_natCast, List.getElem?_eq_getElem hn]
            rfl
          rw [e] at this
          exact this
    | second i =>
      cases ed
      cases hds with
      | cons g1 gr =>
        cases g1
        cases gr with
        | cons g2 gr =>
          cases g2
          cases gr
          obtain ⟨hc0, hc1⟩ := hc
          obtain ⟨n, rfl⟩ : ∃ n : Nat, i = n := ⟨i.toNat, by omega⟩
          have hn : n < g.length := by omega
          refine ⟨.ref ca, rfl, ca, _, 0, .str "second", rfl, rfl, SqT.of hca, atI_nat (j := 0) rfl, rfl, false, congrArg V.bl (nm _ _ (by decide +kernel)), iteF ?_⟩
          refine ⟨.ref ca, rfl, ca, _, 0, .str "second", rfl, rfl, SqT.of hca, atI_nat (j := 0) rfl, rfl, true, congrArg V.bl (decide_eq_true rfl), iteT ?_⟩
          refine ⟨.ref y, rfl, .ref ca, rfl, ca, _, 1, .int (n : Int), rfl, rfl, SqT.of hca, atI_nat (j := 1) rfl, y, _, (n : Int), .int g[n], rfl, rfl, hg.sq, atI_nat (by rw [List.getElem?_map, List.getElem?_eq_getElem hn]; rfl), ?_⟩
          have := q H (Same.refl H)
          have e : valueM (.second (n : Int)) f g = g[n] := by
            show (g[(n : Int).toNat]?).getD 0 = g[n]
            rw [Int.toNat_natCast, List.getElem?_eq_getElem hn]
            rfl
          rw [e] at this
          exact this
abbrev N_situation_after : List Str := ["pair", "situation", "held", "word", "case", "first", "second", "value", "p", "first_after", "q", "second_after"]
theorem sc_situation_after : FnScope N_situation_after ["pair", "situation", "held", "word", "case"] (defScope s_situation_after) := ⟨rfl, rfl, rfl, by decide +kernel, rfl, by decide +kernel, by decide +kernel⟩
theorem G_situation_after (T : Tx K mg) : FnG P w K mg base CX0 3 T.situation_after.f T.situation_after.fd ["pair", "situation", "held", "word", "case"] (sp_situation_after K T.Watcher.C) := by
  refine okG T.situation_after.F sc_situation_after (fun vs H Q E h => ?_) (fun cdv A outer s H vs Q E gd hr h => ?_)
  · obtain ⟨t, r, x, y, sv, cv, a, b, P1, P2, s, f, g, w', c, rfl, _⟩ := h
    rfl
  · obtain ⟨t, r, x, y, sv, cv, a, b, P1, P2, st, f, g, w', c, rfl, hp, hsv, hin, hr0, hf, hg, h1, h2, hcv, hc, q⟩ := h
    refine ⟨_, 
      (pss_cons (ps_asg (pv 2) (pg_tup rfl (pgs_cons (pg_name (i := 5) sc_situation_after.nd rfl (.inl rfl)) (pgs_cons (pg_name (i := 6) sc_situation_after.nd rfl (.inl rfl)) pgs_nil)))) -- first, second = held
      (C8.pss_cut (ps_set (i := 7) sc_situation_after.nd rfl (.inl rfl) (pe_callG (G_value_of T) gd (hr.mono (by decide)) rfl T.value_of.g T.value_of.F.kp T.value_of.b .nil pass0 (pa_cons (pv 4) (pa_cons (pv 5) (pa_cons (pv 6) pa_nil))))) -- value = value_of(case, first, second)
      (C8.pss_cut (ps_asg (pe_callG (G_after_message T) gd (hr.mono (by decide)) rfl T.after_message.g T.after_message.F.kp T.after_message.b .nil pass0 (pa_cons (pe_ix ix_tup (pv 0) pe_int (fun _ _ => rfl)) (pa_cons (pe_ix ix_tup (pv 1) pe_int (fun _ _ => rfl)) (pa_cons (pv 5) (pa_cons (pv 3) (pa_cons (pv 7) pa_nil)))))) (pg_tup rfl (pgs_cons (pg_name (i := 8) sc_situation_after.nd rfl (.inl rfl)) (pgs_cons (pg_name (i := 9) sc_situation_after.nd rfl (.inl rfl)) pgs_nil)))) -- p, first_after = after_message(pair[0], situation[0], first, word, value)
      (C8.pss_cut (ps_asg (pe_callG (G_after_message T) gd (hr.mono (by decide)) rfl T.after_message.g T.after_message.F.kp T.after_message.b .nil pass0 (pa_cons (pe_ix ix_tup (pv 0) pe_int (fun _ _ => rfl)) (pa_cons (pe_ix ix_tup (pv 1) pe_int (fun _ _ => rfl)) (pa_cons (pv 6) (pa_cons (pv 3) (pa_cons (pv 7) pa_nil)))))) (pg_tup rfl (pgs_cons (pg_name (i := 10) sc_situation_after.nd rfl (.inl rfl)) (pgs_cons (pg_name (i := 11) sc_situation_after.nd rfl (.inl rfl)) pgs_nil)))) -- q, second_after = after_message(pair[1], situation[1], second, word, value)
      (pss_one (ps_ret (pe_tup (pa_cons (pv 8) (pa_cons (pv 10) (pa_cons (pe_callG (G_equal_places T) gd (hr.mono (by decide)) rfl T.equal_places.g T.equal_places.F.kp T.equal_places.b .nil pass0 (pa_cons (pv 9) (pa_cons (pv 11) pa_nil))) pa_nil)))))) -- return (p, q, equal_places(first_after, second_after))
      )))) , ?_⟩
    obtain ⟨sa, zs, rfl, hsa, hzs⟩ := hsv.isTup
    cases hzs with
    | cons z1 zr =>
      cases z1
      cases zr with
      | cons z2 zr =>
        cases z2
        cases zr with
        | cons z3 zr =>
          cases zr
          refine ⟨.ref r, rfl, r, _, rfl, hr0, rfl, .ref x, [.ref y], rfl, .ref y, [], rfl, rfl, ?_⟩
          refine ⟨fun σ H' => σ = [some (.ref t), some (.ref sa), some (.ref r), some (.int w'), some cv, some (.ref x), some (.ref y), some (.int (valueM c f g)), none, none, none, none] ∧ Same H H', ?_, ?_⟩
          · clear q
            have l3 := h1.len
            have l4 := h2.len
            have b1 := held_bd hp.w1.ok.k h1.lo h1.hi
            have b2 := held_bd hp.w2.ok.k h2.lo h2.hi
            dsimp only at l3 l4 b1 b2
            exact ⟨cv, rfl, .ref x, rfl, .ref y, rfl, cv, x, y, c, f, g, rfl, hcv, hf, hg, by omega, by omega, hc, fun H1 s1 => ⟨rfl, s1⟩⟩
          rintro σ H1 ⟨rfl, s1⟩
          refine ⟨fun σ H' => ∃ x', σ = [some (.ref t), some (.ref sa), some (.ref r), some (.int w'), some cv, some (.ref x), some (.ref y), some (.int (valueM c f g)), some (.int (stepM P1.rules (st.1, f) (w', valueM c f g)).1), some (.ref x'), none, none] ∧ Same H H' ∧ HT H' x' (stepM P1.rules (st.1, f) (w', valueM c f g)).2, ?_, ?_⟩
          · clear q
            refine ⟨.ref t, rfl, t, _, 0, .ref a.x, rfl, rfl, sqT_same hp.sq s1, atI_nat (j := 0) rfl, .ref sa, rfl, sa, _, 0, .int st.1, rfl, rfl, SqT.of (s1 _ _ hsa), atI_nat (j := 0) rfl, .ref x, rfl, .int w', rfl, .int _, rfl, a.x, a.lv, a.lh, a.d, x, P1, st.1, f, w', valueM c f g, rfl, hp.w1.mono s1, hf.mono s1, h1, fun u H2 s2 hu => ?_⟩
            obtain ⟨ra, xa, rfl, hra, hxa⟩ := hu
            exact ⟨ra, _, rfl, SqT.of hra, rfl, .int _, [.ref xa], rfl, .ref xa, [], rfl, rfl, xa, rfl, s1.trans s2, hxa⟩
          rintro σ H2 ⟨x', rfl, s2, hx'⟩
          refine ⟨fun σ H' => ∃ y', σ = [some (.ref t), some (.ref sa), some (.ref r), some (.int w'), some cv, some (.ref x), some (.ref y), some (.int (valueM c f g)), some (.int (stepM P1.rules (st.1, f) (w', valueM c f g)).1), some (.ref x'), some (.int (stepM P2.rules (st.2.1, g) (w', valueM c f g)).1), some (.ref y')] ∧ Same H2 H' ∧ HT H' y' (stepM P2.rules (st.2.1, g) (w', valueM c f g)).2, ?_, ?_⟩
          · clear q
            refine ⟨.ref t, rfl, t, _, 1, .ref b.x, rfl, rfl, sqT_same hp.sq s2, atI_nat (j := 1) rfl, .ref sa, rfl, sa, _, 1, .int st.2.1, rfl, rfl, SqT.of (s2 _ _ hsa), atI_nat (j := 1) rfl, .ref y, rfl, .int w', rfl, .int _, rfl, b.x, b.lv, b.lh, b.d, y, P2, st.2.1, g, w', valueM c f g, rfl, hp.w2.mono s2, hg.mono s2, h2, fun u H3 s3 hu => ?_⟩
            obtain ⟨ra, xa, rfl, hra, hxa⟩ := hu
            exact ⟨ra, _, rfl, SqT.of hra, rfl, .int _, [.ref xa], rfl, .ref xa, [], rfl, rfl, xa, rfl, s3, hxa⟩
          rintro σ H3 ⟨y', rfl, s3, hy'⟩
          have o1 := step_ok hp.w1.ok.r h1 (w', valueM c f g)
          have o2 := step_ok hp.w2.ok.r h2 (w', valueM c f g)
          have l3 := o1.len
          have l4 := o2.len
          have b1 := held_bd hp.w1.ok.k o1.lo o1.hi
          have b2 := held_bd hp.w2.ok.k o2.lo o2.hi
          refine ⟨.int _, rfl, .int _, rfl, .ref x', rfl, .ref y', rfl, x', y', _, _, rfl, hx'.mono s3, hy', by omega, by omega, fun e H4 s4 he => ?_⟩
          refine ⟨by show 3 ≤ sizeLine; decide, fun m nm => ?_⟩
          have s5 := same_new (o := .tup [.int (stepM P1.rules (st.1, f) (w', valueM c f g)).1, .int (stepM P2.rules (st.2.1, g) (w', valueM c f g)).1, .ref e]) nm
          exact q _ _ (((s2.trans s3).trans s4).trans s5) (.tup upd_same (.cons (.int _) (.cons (.int _) (.cons (TD.mono (Tups.same s5) _ he) .nil))))
end

theorem casesM_in {f g : List Int} {c : Cs} (h : c ∈ casesM f g) : CsIn c f g := by
  unfold casesM at h
  rcases List.mem_append.mp h with h | h
  · obtain ⟨m, hm, rfl⟩ := List.mem_map.mp h
    obtain ⟨i, hi, e⟩ := List.mem_filterMap.mp hm
    have hi' := List.mem_range.mp hi
    rw [List.getElem?_eq_getElem hi', Option.bind_some] at e
    by_cases hv : f[i] ∈ g
    · rw [if_pos hv] at e
      obtain rfl := Option.some.inj e
      exact ⟨by show (0 : Int) ≤ (i : Int); omega, by show (i : Int) < f.length; omega⟩
    · rw [if_neg hv] at e
      cases e
  · rcases List.mem_append.mp h with h | h
    · obtain ⟨m, hm, rfl⟩ := List.mem_map.mp h
      obtain ⟨i, hi, e⟩ := List.mem_filterMap.mp hm
      have hi' := List.mem_range.mp hi
      rw [List.getElem?_eq_getElem hi', Option.bind_some] at e
      by_cases hv : f[i] ∈ g
      · rw [if_pos hv] at e
        cases e
      · rw [if_neg hv] at e
        obtain rfl := Option.some.inj e
        exact ⟨by show (0 : Int) ≤ (i : Int); omega, by show (i : Int) < f.length; omega⟩
    · rcases List.mem_append.mp h with h | h
      · obtain ⟨m, hm, rfl⟩ := List.mem_map.mp h
        obtain ⟨i, hi, e⟩ := List.mem_filterMap.mp hm
        have hi' := List.mem_range.mp hi
        rw [List.getElem?_eq_getElem hi', Option.bind_some] at e
        by_cases hv : g[i] ∈ f
        · rw [if_pos hv] at e
          cases e
        · rw [if_neg hv] at e
          obtain rfl := Option.some.inj e
          exact ⟨by show (0 : Int) ≤ (i : Int); omega, by show (i : Int) < g.length; omega⟩
      · rw [List.mem_singleton.mp h]
        exact True.intro
theorem casesM_len (f g : List Int) : (casesM f g).length ≤ f.length + (f.length + (g.length + 1)) := by
  have n1 : (eqM f g).length ≤ f.length := eqF_len f g f.length
  have n2 : (loneM f g).length ≤ f.length := loneF_len f g f.length
  have n3 : (loneM g f).length ≤ g.length := loneF_len g f g.length
  unfold casesM
  simp only [List.length_append, List.length_map, List.length_cons, List.length_nil]
  omega
theorem flat_len (P1 P2 : Plan) (s : Sit) (i : Nat) : ((List.range i).flatMap fun w : Nat => (casesM (heldM P1 P2 s).1 (heldM P1 P2 s).2).map fun c => ((w : Int), c, afterM P1 P2 s (heldM P1 P2 s).1 (heldM P1 P2 s).2 w c)).length = i * (casesM (heldM P1 P2 s).1 (heldM P1 P2 s).2).length := by
  induction i with
  | zero => simp
  | succ i ih =>
    rw [List.range_succ, List.flatMap_append, List.length_append, ih]
    simp [Nat.succ_mul]
/-- the steps of the words before i, and of the first j cases of word i, stand at D -/
def StW (P1 P2 : Plan) (s : Sit) (H0 : Hp) (D : Addr) (H : Hp) (i j : Nat) : Prop := Same H0 H ∧ H0 D = none ∧ ∃ xs, H D = some (.lst xs) ∧
  TDs H xs ((((List.range i).flatMap fun w : Nat => (casesM (heldM P1 P2 s).1 (heldM P1 P2 s).2).map fun c => ((w : Int), c, afterM P1 P2 s (heldM P1 P2 s).1 (heldM P1 P2 s).2 w c)) ++ (((casesM (heldM P1 P2 s).1 (heldM P1 P2 s).2).take j).map fun c => ((i : Int), c, afterM P1 P2 s (heldM P1 P2 s).1 (heldM P1 P2 s).2 i c))).map stepD)
section
variable {P : Program} {w : World} {K : PySem.W.Frag} {mg : Str → Option Value} {base : Heap}
abbrev N_steps_from : List Str := ["pair", "situation", "held", "first", "second", "in_order", "word", "case"]
theorem sc_steps_from : FnScope N_steps_from ["pair", "situation"] (defScope s_steps_from) := ⟨rfl, rfl, rfl, by decide +kernel, rfl, by decide +kernel, by decide +kernel⟩
theorem G_steps_from (T : Tx K mg) : FnG P w K mg base CX0 4 T.steps_from.f T.steps_from.fd ["pair", "situation"] (sp_steps_from K T.Watcher.C) := by
  refine okG T.steps_from.F sc_steps_from (fun vs H Q E h => ?_) (fun cdv A outer s H vs Q E gd hr h => ?_)
  · obtain ⟨t, v, a, b, P1, P2, s, rfl, _⟩ := h
    rfl
  · obtain ⟨t, v, a, b, P1, P2, st, rfl, hp, hv, hin, q⟩ := h
    refine ⟨_, 
      (C8.pss_cut (ps_set (i := 2) sc_steps_from.nd rfl (.inr rfl) (pe_callG (G_held_numbers T) gd (hr.mono (by decide)) rfl T.held_numbers.g T.held_numbers.F.kp T.held_numbers.b .nil pass0 (pa_cons (pv 0) (pa_cons (pv 1) pa_nil)))) -- held = held_numbers(pair, situation)
      (pss_cons (ps_asg (pv 2) (pg_tup rfl (pgs_cons (pg_name (i := 3) sc_steps_from.nd rfl (.inl rfl)) (pgs_cons (pg_name (i := 4) sc_steps_from.nd rfl (.inl rfl)) pgs_nil)))) -- first, second = held
      (C8.pss_cut (ps_set (i := 5) sc_steps_from.nd rfl (.inr rfl) (pe_callG (G_cases_between T) gd (hr.mono (by decide)) rfl T.cases_between.g T.cases_between.F.kp T.cases_between.b .nil pass0 (pa_cons (pv 3) (pa_cons (pv 4) pa_nil)))) -- in_order = cases_between(first, second)
      (pss_one (ps_ret (pe_lc2 (own := [("word", 6), ("case", 7)]) (vs1 := [7]) (g := gName 6) (g1 := gName 7) (wi1 := iTup K (tVar 5)) rfl sc_steps_from.nd (pi_range1 rfl T.m_range (pa_cons (pe_fld (pe_ix ix_tup (pv 0) pe_int (fun _ _ => rfl)) rfl) pa_nil)) (blkOk_by (N := N_steps_from) (sc := defScope s_steps_from) (by decide +kernel)) (by decide) (fun _ _ _ _ _ => (pg_name (i := 6) sc_steps_from.nd rfl (.inl rfl))) (fun _ _ _ _ _ => pts_nil) (fun _ _ _ _ _ => (pi_tup (pv 5))) (fun _ _ _ _ _ => (pg_name (i := 7) sc_steps_from.nd rfl (.inl rfl))) (fun _ _ _ _ _ => pts_nil) (fun _ _ _ _ _ => (pe_tup (pa_cons (pv 6) (pa_cons (pv 7) (pa_cons (pe_callG (G_situation_after T) gd (hr.mono (by decide)) rfl T.situation_after.g T.situation_after.F.kp T.situation_after.b .nil pass0 (pa_cons (pv 0) (pa_cons (pv 1) (pa_cons (pv 2) (pa_cons (pv 6) (pa_cons (pv 7) pa_nil)))))) pa_nil)))))))) -- return [(word, case, situation_after(pair, situation, held, word, case)) for word in range(pair[0].words) for case in in_order]
      ))) , ?_⟩
    have L5 : 200000 ≤ sizeLine := by decide
    obtain ⟨o1, o2⟩ := heldM_ok hp.w1.ok hp.w2.ok hin
    have l1 := o1.len
    have l2 := o2.len
    have b1 := held_bd hp.w1.ok.k o1.lo o1.hi
    have b2 := held_bd hp.w2.ok.k o2.lo o2.hi
    dsimp only at l1 l2 b1 b2
    refine ⟨fun σ H' => ∃ r x y, σ = [some (.ref t), some v, some (.ref r), none, none, none, none, none] ∧ Same H H' ∧ H' r = some (.tup [.ref x, .ref y]) ∧ HT H' x (heldM P1 P2 st).1 ∧ HT H' y (heldM P1 P2 st).2, ?_, ?_⟩
    · clear q
      exact ⟨.ref t, rfl, v, rfl, t, v, a, b, P1, P2, st, rfl, hp, hv, hin, fun r x y H1 s1 h1 h2 h3 => ⟨r, x, y, rfl, s1, h1, h2, h3⟩⟩
    rintro σ H1 ⟨r, x, y, rfl, s1, hr1, hx, hy⟩
    refine ⟨.ref r, rfl, r, _, rfl, SqT.of hr1, rfl, .ref x, [.ref y], rfl, .ref y, [], rfl, rfl, ?_⟩
    refine ⟨fun σ H' => ∃ c, σ = [some (.ref t), some v, some (.ref r), some (.ref x), some (.ref y), some (.ref c), none, none] ∧ Same H1 H' ∧ TD H' (.ref c) (.tuple ((casesM (heldM P1 P2 st).1 (heldM P1 P2 st).2).map csD)), ?_, ?_⟩
    · clear q
      exact ⟨.ref x, rfl, .ref y, rfl, x, y, _, _, rfl, hx, hy, by omega, by omega, fun c H2 s2 hc => ⟨c, rfl, s2, hc⟩⟩
    rintro σ H2 ⟨c, rfl, s2, hc⟩
    obtain ⟨dx, hx0⟩ := hp.w1.w.ins
    have s12 := s1.trans s2
    obtain ⟨ca, cs, ec, hca, hcs⟩ := hc.isTup
    obtain rfl := V.ref.inj ec
    have hw1 := hp.w1.ok.w
    have lcs : cs.length = (casesM (heldM P1 P2 st).1 (heldM P1 P2 st).2).length := by
      have := hcs.length
      rwa [List.length_map] at this
    have s12w := hp.w1.w
    refine ⟨.ref t, rfl, t, _, 0, .ref a.x, rfl, rfl, sqT_same hp.sq s12, atI_nat (j := 0) rfl, a.x, T.Watcher.C, dx, _, .int P1.words, rfl, s12 _ _ hx0, T.Watcher.cl, T.nf_Watcherwords, rfl, P1.words, rfl, by omega, by omega, fun D nD => ?_⟩
    refine ⟨fun i m H' => m = P1.words.toNat - i ∧ i ≤ P1.words.toNat ∧ StW P1 P2 st H2 D H' i 0, ⟨P1.words.toNat, by simp, Nat.zero_le _, ?_⟩, ?_⟩
    · exact ⟨same_at (Same.refl _) nD, nD, [], upd_same, .nil⟩
    rintro i m H3 ⟨rfl, hi, hP⟩
    by_cases hlt : i < P1.words.toNat
    · refine .inr ⟨hlt, fun H' => StW P1 P2 st H2 D H' (i + 1) 0, fun H4 p => ⟨P1.words.toNat - (i + 1), by omega, rfl, hlt, p⟩, fun xv H4 yy => ?_⟩
      obtain ⟨e, yy⟩ := yy
      subst e yy
      have e0 : (0 : Int) + (i : Int) = (i : Int) := by omega
      rw [e0]
      have hca3 := hP.1 _ _ hca
      refine ⟨rfl, .ref c, rfl, c, rfl, ⟨cs, SqT.of hca3⟩, fun j k H' => k = cs.length - j ∧ j ≤ cs.length ∧ StW P1 P2 st H2 D H' i j, ⟨cs.length, by simp, Nat.zero_le _, hP⟩, ?_⟩
      rintro j k H5 ⟨rfl, hj, hP5⟩
      have hca5 := hP5.1 _ _ hca
      by_cases hjl : j < cs.length
      · refine .inr ⟨⟨cs, cs[j], SqT.of hca5, by simp [hjl]⟩, fun H' => StW P1 P2 st H2 D H' i (j + 1), fun H' p => ⟨cs.length - (j + 1), by omega, rfl, hjl, p⟩, fun yv H6 yy => ?_⟩
        obtain ⟨e, yy⟩ := yy
        subst e
        have hyv : cs[j]? = some yv := yy cs (SqT.of hca5)
        have hjc : j < (casesM (heldM P1 P2 st).1 (heldM P1 P2 st).2).length := by omega
        obtain ⟨d, hd, hvd⟩ := hcs.get hyv
        rw [List.getElem?_map, List.getElem?_eq_getElem hjc] at hd
        obtain rfl := (Option.some.inj hd)
        obtain ⟨s5, _, xs, hD5, hx5⟩ := hP5
        have s15 := s12.trans s5
        have hcv := TD.mono (Tups.same s5) _ hvd
        refine ⟨rfl, .int (i : Int), rfl, yv, rfl, .ref t, rfl, v, rfl, .ref r, rfl, .int (i : Int), rfl, yv, rfl, t, r, x, y, v, yv, a, b, P1, P2, st, (heldM P1 P2 st).1, (heldM P1 P2 st).2, (i : Int), (casesM (heldM P1 P2 st).1 (heldM P1 P2 st).2)[j], rfl, hp.mono s15, TD.mono (Tups.same s15) _ hv, hin, SqT.of ((s2.trans s5) _ _ hr1), (hx.mono s2).mono s5, (hy.mono s2).mono s5, o1, o2, hcv, casesM_in (List.getElem_mem hjc), fun av H7 s7 hav => ⟨by show 3 ≤ sizeLine; decide, fun m nm => ?_⟩⟩
        have s8 := same_new (o := .tup [.int (i : Int), yv, av]) nm
        have s78 := s7.trans s8
        have hD8 := s78 _ _ hD5
        have tp := Tups.lst (o := .lst (xs ++ [.ref m])) hD8
        refine ⟨xs, hD8, ?_, same_at (s5.trans s78) nD, nD, _, upd_same, ?_⟩
        · have e1 := hx5.len
          rw [e1, List.length_map, List.length_append, List.length_map, List.length_take]
          have e2 := flat_len P1 P2 st i
          have e3 := casesM_len (heldM P1 P2 st).1 (heldM P1 P2 st).2
          have e4 : i * (casesM (heldM P1 P2 st).1 (heldM P1 P2 st).2).length ≤ 3 * 300 := Nat.mul_le_mul (by omega) (by omega)
          omega
        · rw [List.take_add_one, List.getElem?_eq_getElem hjc, Option.toList_some]
          simp only [List.map_append, List.map_cons, List.map_nil]
          rw [← List.append_assoc]
          simp only [List.map_append] at hx5
          exact tds_snoc ((hx5.mono (Tups.same s78)).mono tp) (.tup (tp _ _ upd_same) (.cons (.int _) (.cons (TD.mono tp _ (TD.mono (Tups.same s78) _ hcv)) (.cons (TD.mono tp _ (TD.mono (Tups.same s8) _ hav)) .nil))))
      · have e : j = cs.length := by omega
        subst e
        refine .inl ⟨⟨cs, SqT.of hca5, Nat.le_refl _⟩, ?_⟩
        obtain ⟨s5, _, xs, hD5, hx5⟩ := hP5
        refine ⟨s5, nD, xs, hD5, ?_⟩
        rw [lcs, List.take_length] at hx5
        rw [List.range_succ, List.flatMap_append, List.take_zero, List.map_nil, List.append_nil]
        simpa using hx5
    · have e : i = P1.words.toNat := by omega
      subst e
      refine .inl ⟨Nat.le_refl _, ?_⟩
      obtain ⟨s3, _, xs, hD3, hx3⟩ := hP
      rw [List.take_zero, List.map_nil, List.append_nil] at hx3
      have nDH : H D = none := by
        cases e : H D with
        | none => rfl
        | some o => rw [s12 _ _ e] at nD; cases nD
      exact q D xs H3 (s12.trans s3) nDH hD3 hx3
end

/-- what steps lead to -/
inductive Rch (P1 P2 : Plan) (ss : List Sit) : Sit → Prop
  | base {s : Sit} : s ∈ ss → Rch P1 P2 ss s
  | step {s : Sit} {x : Int × Cs × Sit} : Rch P1 P2 ss s → x ∈ stepsM P1 P2 s → Rch P1 P2 ss x.2.2
theorem Rch.in_ {P1 P2 : Plan} {ss : List Sit} (o1 : PlanOk P1) (o2 : PlanOk P2) (h : ∀ s ∈ ss, SitIn P1 P2 s) {s : Sit} (r : Rch P1 P2 ss s) : SitIn P1 P2 s := by
  induction r with
  | base hs => exact h _ hs
  | @step s x hs hx ih =>
    obtain ⟨w, _, hx⟩ := List.mem_flatMap.mp hx
    obtain ⟨c, _, rfl⟩ := List.mem_map.mp hx
    obtain ⟨a, b⟩ := heldM_ok o1 o2 ih
    exact afterM_in o1 o2 a b
theorem nodup_le {α : Type} [DecidableEq α] : ∀ {ks S : List α}, ks.Nodup → (∀ k ∈ ks, k ∈ S) → ks.length ≤ S.length
  | [], _, _, _ => Nat.zero_le _
  | k :: r, S, n, h => by
    have n' := List.nodup_cons.mp n
    have hk := h k List.mem_cons_self
    have ih := nodup_le (S := S.erase k) n'.2 fun x hx => (List.mem_erase_of_ne (fun e => n'.1 (by rw [← e]; exact hx))).mpr (h x (List.mem_cons_of_mem _ hx))
    rw [List.length_erase_of_mem hk] at ih
    have := List.length_pos_of_mem hk
    rw [List.length_cons]
    omega
theorem stepsM_len {P1 P2 : Plan} {s : Sit} (o1 : PlanOk P1) (o2 : PlanOk P2) (h : SitIn P1 P2 s) : (stepsM P1 P2 s).length ≤ 30 := by
  have e := flat_len P1 P2 s P1.words.toNat
  have e3 := casesM_len (heldM P1 P2 s).1 (heldM P1 P2 s).2
  obtain ⟨a, b⟩ := heldM_ok o1 o2 h
  have l1 := a.len
  have l2 := b.len
  have b1 := held_bd o1.k a.lo a.hi
  have b2 := held_bd o2.k b.lo b.hi
  dsimp only at l1 l2 b1 b2
  have hw := o1.w
  have : P1.words.toNat * (casesM (heldM P1 P2 s).1 (heldM P1 P2 s).2).length ≤ 3 * 10 := Nat.mul_le_mul (by omega) (by omega)
  unfold stepsM
  omega
abbrev StRel (P1 P2 : Plan) (z : Addr) (H : Hp) : List (NestedKey × V) → List Sit → Prop := Paired fun p k => p.1 = sitK k ∧ ∃ l xs, p.2 = .ref l ∧ l ≠ z ∧ H l = some (.lst xs) ∧ TDs H xs ((stepsM P1 P2 k).map stepD)
/-- a dict from these situations to their lists of steps -/
def StD (P : Program) (w : World) (P1 P2 : Plan) (H : Hp) (D : Addr) (ks : List Sit) : Prop := ∃ kvs z, NDict P w H D kvs ∧ StRel P1 P2 z H kvs ks
theorem StRel.keys {P1 P2 : Plan} {z : Addr} {H : Hp} {kvs : List (NestedKey × V)} {ks : List Sit} (h : StRel P1 P2 z H kvs ks) : kvs.map (·.1) = ks.map sitK := by
  induction h with
  | nil => rfl
  | cons a _ ih => rw [List.map_cons, List.map_cons, a.1, ih]
theorem StRel.val {P1 P2 : Plan} {z : Addr} {H : Hp} {kvs : List (NestedKey × V)} {ks : List Sit} (h : StRel P1 P2 z H kvs ks) (s : Sit) : (s ∉ ks → valV kvs (sitK s) = none) ∧ (s ∈ ks → ∃ l xs, valV kvs (sitK s) = some (.ref l) ∧ H l = some (.lst xs) ∧ TDs H xs ((stepsM P1 P2 s).map stepD)) := by
  induction h with
  | nil => exact ⟨fun _ => rfl, fun z => by cases z⟩
  | @cons p k ps ks hp _ ih =>
    by_cases e : k = s
    · subst e
      refine ⟨fun z => absurd List.mem_cons_self z, fun _ => ?_⟩
      obtain ⟨l, xs, e2, _, h1, h2⟩ := hp.2
      exact ⟨l, xs, by rw [valV_pos hp.1, e2], h1, h2⟩
    · have ne : ¬ p.1 = sitK s := fun z => e (sitK_inj (hp.1.symm.trans z))
      rw [valV_neg ne]
      exact ⟨fun z => ih.1 fun y => z (List.mem_cons_of_mem _ y), fun z => ih.2 (by rcases List.mem_cons.mp z with z | z; exact absurd z.symm e; exact z)⟩
def sp_steps_among (P : Program) (w : World) (K : PySem.W.Frag) (C : Addr) : Sp := fun us H Q _ => ∃ (t l : Addr) (vs : List V) (a b : WA) (P1 P2 : Plan) (ss S : List Sit), us = [.ref t, .ref l] ∧ PairAt K C H t a b P1 P2 ∧ H l = some (.lst vs) ∧ TDs H vs (ss.map sitD) ∧ (∀ s ∈ ss, SitIn P1 P2 s) ∧ ss.length ≤ 1000 ∧
  (∀ k, Rch P1 P2 ss k → k ∈ S) ∧ S.length ≤ 100000 ∧
  ∀ D ks H', Same H H' → H D = none → StD P w P1 P2 H' D ks → ks.Nodup → (∀ k, k ∈ ks ↔ Rch P1 P2 ss k) → Q (.ref D) H'
/-- the loop's word -/
structure AmW (P : Program) (w : World) (P1 P2 : Plan) (ss S : List Sit) (H0 : Hp) (D wl : Addr) (m : Nat) (H : Hp) (ks ws : List Sit) : Prop where
  sm : Same H0 H
  st : ∃ kvs, NDict P w H D kvs ∧ StRel P1 P2 wl H kvs ks
  wt : ∃ vs, H wl = some (.lst vs) ∧ TDs H vs (ws.map sitD)
  nd : ks.Nodup
  rk : ∀ k ∈ ks, Rch P1 P2 ss k
  rw_ : ∀ k ∈ ws, Rch P1 P2 ss k
  base : ∀ s ∈ ss, s ∈ ks ∨ s ∈ ws
  cl : ∀ k ∈ ks, ∀ x ∈ stepsM P1 P2 k, x.2.2 ∈ ks ∨ x.2.2 ∈ ws
  me : m = (S.length - ks.length) * 1000 + ws.length
  ln : ws.length ≤ 1000 + 30 * ks.length
/-- all but a stands -/
def NLx (a : Addr) (H H' : Hp) : Prop := ∀ c o, H c = some o → c ≠ a → H' c = some o
def AmV (P : Program) (w : World) (P1 P2 : Plan) (ss S : List Sit) (H0 : Hp) (t l D wl : Addr) : Nat → L2.St → Hp → Prop := fun m σ H => ∃ ks ws y4 y5 y6, σ = [some (.ref t), some (.ref l), some (.ref D), some (.ref wl), y4, y5, y6] ∧ AmW P w P1 P2 ss S H0 D wl m H ks ws
theorem tds_split {H : Hp} : ∀ {ds : List PyData} {vs : List V} {d : PyData}, TDs H vs (ds ++ [d]) → ∃ vs0 v, vs = vs0 ++ [v] ∧ TDs H vs0 ds ∧ TD H v d
  | [], _, _, h => by
    cases h with
    | cons a r =>
      cases r
      exact ⟨[], _, rfl, .nil, a⟩
  | _ :: _, _, _, h => by
    cases h with
    | cons a r =>
      obtain ⟨vs0, v, rfl, h1, h2⟩ := tds_split r
      exact ⟨_ :: vs0, v, rfl, .cons a h1, h2⟩
/-- all but lists that z names stands -/
theorem StRel.but {P1 P2 : Plan} {z : Addr} {H H' : Hp} {kvs : List (NestedKey × V)} {ks : List Sit} (h : StRel P1 P2 z H kvs ks) (k : ∀ c xs, c ≠ z → H c = some (.lst xs) → H' c = some (.lst xs)) (t : Tups H H') : StRel P1 P2 z H' kvs ks :=
  Paired.mapP h fun _ _ ⟨a, l, xs, b, c, d, e⟩ => ⟨a, l, xs, b, c, k _ _ c d, e.mono t⟩
section
variable {P : Program} {w : World} {K : PySem.W.Frag} {mg : Str → Option Value} {base : Heap}
abbrev N_steps_among : List Str := ["pair", "situations", "steps", "waiting", "here", "_", "there"]
theorem sc_steps_among : FnScope N_steps_among ["pair", "situations"] (defScope s_steps_among) := ⟨rfl, rfl, rfl, by decide +kernel, rfl, by decide +kernel, by decide +kernel⟩
theorem G_steps_among (T : Tx K mg) : FnG P w K mg base CX0 5 T.steps_among.f T.steps_among.fd ["pair", "situations"] (sp_steps_among P w K T.Watcher.C) := by
  refine okG T.steps_among.F sc_steps_among (fun vs H Q E h => ?_) (fun cdv A outer s H vs Q E gd hr h => ?_)
  · obtain ⟨t, l, vs, a, b, P1, P2, ss, S, rfl, _⟩ := h
    rfl
  · obtain ⟨t, l, vs, a, b, P1, P2, ss, S, rfl, hp, hl, hvs, hin, lss, hS, lS, q⟩ := h
    refine ⟨_, 
      (pss_cons (ps_set (i := 2) sc_steps_among.nd rfl (.inl rfl) pe_newN) -- steps = {}
      (pss_cons (ps_set (i := 3) sc_steps_among.nd rfl (.inl rfl) (pe_callTy call_list_of (by rfl) T.m_list (by decide +kernel) (pa_cons (pv 1) pa_nil))) -- waiting = list(situations)
      (pss_cons (ps_while PassesOwn.never (pt_truth (pv 3) (by intro _; rfl)) 
        (pss_cons (ps_set (i := 4) sc_steps_among.nd rfl (.inl rfl) (pe_bm0 PySem.F.plainAttrs_list PySem.F.slot_list_pop PySem.F.type_list_pop mt_pop (pv 3))) -- here = waiting.pop()
        (pss_one (ps_if (pt_cmpR (op_notInN hr.units) (pv 4) (pv 2) rfl) 
          (pss_cons (ps_putN hr.units (pv 2) (pv 4) (pe_callG (G_steps_from T) gd (hr.mono (by decide)) rfl T.steps_from.g T.steps_from.F.kp T.steps_from.b .nil pass0 (pa_cons (pv 0) (pa_cons (pv 4) pa_nil))) rfl) -- steps[here] = steps_from(pair, here)
          (pss_one (ps_expr (pe_bm PySem.F.plainAttrs_list PySem.F.slot_list_extend PySem.F.type_list_extend mt_extend (pv 3) (pa_cons (pe_lc (own := [("_", 5), ("_", 5), ("there", 6)]) (g := gTup K 3 (gCons (gName 5) (gCons (gName 5) (gCons (gName 6) gNil)))) rfl sc_steps_among.nd (pi_list (pe_getN hr.units (pv 2) (pv 4))) (blkOk_by (N := N_steps_among) (sc := defScope s_steps_among) (by decide +kernel)) (fun _ _ _ _ _ => (pg_tup rfl (pgs_cons (pg_name (i := 5) sc_steps_among.nd rfl (.inl rfl)) (pgs_cons (pg_name (i := 5) sc_steps_among.nd rfl (.inl rfl)) (pgs_cons (pg_name (i := 6) sc_steps_among.nd rfl (.inl rfl)) pgs_nil))))) (fun _ _ _ _ _ => pts_nil) (fun _ _ _ _ _ => (pv 6))) pa_nil)))) -- waiting.extend([there for _, _, there in steps[here]])
          ) pss_nil)) -- if here not in steps:
        )) -- while waiting:
      (pss_one (ps_ret (pv 2))) -- return steps
      ))) , ?_⟩
    have L5 : 4000000 ≤ sizeLine := by decide
    refine fun D nD => ⟨.ref l, rfl, l, vs, rfl, .inl (SqL.of (same_new nD _ _ hl)), fun wl nwl => ?_⟩
    have nwl0 := (upd_none nwl).2
    have nDw := (upd_none nwl).1
    have sA : Same H (upd (upd H D (NO P w D [])) wl (.lst vs)) := (same_new nD).trans (same_new nwl)
    refine ⟨AmV P w P1 P2 ss S H t l D wl, ⟨S.length * 1000 + ss.length, [], ss, none, none, none, rfl, ⟨sA, ⟨[], ⟨[], same_new nwl _ _ upd_same, .nil⟩, .nil⟩, ⟨vs, upd_same, hvs.mono (Tups.same sA)⟩, List.nodup_nil, (fun k hk => by cases hk), fun k hk => .base hk, fun s hs => .inr hs, (fun k hk => by cases hk), (by simp), (by simpa using lss)⟩⟩, fun m σ H' hW => ?_⟩
    obtain ⟨ks, ws, y4, y5, y6, rfl, hA⟩ := hW
    obtain ⟨kvs, hND, hSR⟩ := hA.st
    obtain ⟨wv, hwl, hwv⟩ := hA.wt
    have hks : ks.length ≤ S.length := nodup_le hA.nd fun k hk => hS k (hA.rk k hk)
    rcases List.eq_nil_or_concat ws with rfl | ⟨ws0, st, ews⟩
    · cases hwv
      refine ⟨.ref wl, rfl, false, .inl ⟨[], SqL.of hwl, rfl⟩, iteF ?_⟩
      refine ⟨.ref D, rfl, q D ks H' hA.sm nD ⟨kvs, wl, hND, hSR⟩ hA.nd fun k => ⟨hA.rk k, fun r => ?_⟩⟩
      induction r with
      | base hs =>
        rcases hA.base _ hs with h | h
        · exact h
        · cases h
      | step _ hx ih =>
        rcases hA.cl _ ih _ hx with h | h
        · exact h
        · cases h
    · rw [List.concat_eq_append] at ews
      subst ews
      rw [List.map_append, List.map_cons, List.map_nil] at hwv
      obtain ⟨v0, y, rfl, hv0, hy⟩ := tds_split hwv
      have rst : Rch P1 P2 ss st := hA.rw_ st (List.mem_append.mpr (.inr (List.mem_singleton.mpr rfl)))
      have ist := rst.in_ hp.w1.ok hp.w2.ok hin
      have lws := hA.ln
      have lme := hA.me
      rw [List.length_append, List.length_singleton] at lws lme
      refine ⟨.ref wl, rfl, true, .inl ⟨v0 ++ [y], SqL.of hwl, by simp⟩, iteT ?_⟩
      refine ⟨fun σ' H2 => ∃ m', m' < m ∧ AmV P w P1 P2 ss S H t l D wl m' σ' H2, fun σ' H2 h => h, ?_⟩
      refine ⟨.ref wl, rfl, .inl ⟨rfl, _, SqL.of hwl⟩, wl, v0 ++ [y], y, rfl, rfl, hwl, by simp, ?_⟩
      rw [List.dropLast_concat]
      have nl : NLx wl H' (upd H' wl (.lst v0)) := fun c o e n => by rw [upd_ne n]; exact e
      have tp : Tups H' (upd H' wl (.lst v0)) := Tups.lst hwl
      have sP : Same H (upd H' wl (.lst v0)) := same_at hA.sm nwl0
      have hND1 : NDict P w (upd H' wl (.lst v0)) D kvs := hND.keep tp fun o e => by rw [upd_ne nDw.symm]; exact e
      have hSR1 : StRel P1 P2 wl (upd H' wl (.lst v0)) kvs ks := hSR.but (fun c xs n e => by rw [upd_ne n]; exact e) tp
      have hy1 := TD.mono tp _ hy
      refine ⟨y, rfl, .ref D, rfl, D, sitK st, kvs, rfl, sit_key hy1, hND1, ?_⟩
      have hval := hSR1.val st
      by_cases hst : st ∈ ks
      · obtain ⟨l1, x1, e1, _, _⟩ := hval.2 hst
        rw [e1]
        refine ⟨false, rfl, iteF ?_⟩
        refine ⟨(S.length - ks.length) * 1000 + ws0.length, by omega, ks, ws0, _, y5, y6, rfl, sP, ⟨kvs, hND1, hSR1⟩, ⟨v0, upd_same, hv0.mono tp⟩, hA.nd, hA.rk, fun k hk => hA.rw_ k (List.mem_append.mpr (.inl hk)), fun s hs => ?_, fun k hk x hx => ?_, rfl, by omega⟩
        · rcases hA.base s hs with h | h
          · exact .inl h
          · rcases List.mem_append.mp h with h | h
            · exact .inr h
            · rw [List.mem_singleton.mp h]
              exact .inl hst
        · rcases hA.cl k hk x hx with h | h
          · exact .inl h
          · rcases List.mem_append.mp h with h | h
            · exact .inr h
            · rw [List.mem_singleton.mp h]
              exact .inl hst
      · have e1 := hval.1 hst
        rw [e1]
        refine ⟨true, rfl, iteT ?_⟩
        refine ⟨.ref t, rfl, y, rfl, t, y, a, b, P1, P2, st, rfl, hp.mono sP, hy1, ist, fun r xs H3 s3 nr hr3 hx3 => ⟨.ref D, rfl, y, rfl, D, sitK st, kvs, rfl, sit_key (TD.mono (Tups.same s3) _ hy1), hND1.mono s3, ?_, fun H4 k4 nd4 => ?_⟩⟩
        · have := congrArg List.length hSR.keys
          rw [List.length_map, List.length_map] at this
          omega
        have hND3 := hND1.mono s3
        obtain ⟨φ, eD⟩ := hND3.some
        have tp4 : Tups H3 H4 := fun c zs e => by
          rw [k4 c (fun q => by rw [q, eD] at e; cases e)]
          exact e
        have nrD : r ≠ D := fun e => by
          obtain ⟨φ1, eD1⟩ := hND1.some
          rw [e, eD1] at nr
          cases nr
        have nrw : r ≠ wl := fun e => by
          rw [e, upd_same] at nr
          cases nr
        have hr4 : H4 r = some (.lst xs) := by rw [k4 r nrD]; exact hr3
        have hwl4 : H4 wl = some (.lst v0) := by rw [k4 wl nDw]; exact s3 _ _ upd_same
        have hx4 := hx3.mono tp4
        have hy4 := TD.mono tp4 _ (TD.mono (Tups.same s3) _ hy1)
        have sm4 : Same H H4 := fun c o e => by
          rw [k4 c (fun q => by rw [q, nD] at e; cases e)]
          exact s3 _ _ (sP _ _ e)
        have hv04 := ((hv0.mono tp).mono (Tups.same s3)).mono tp4
        have hSR4 : StRel P1 P2 wl H4 kvs ks := hSR1.but (fun c zs n e => by
          rw [k4 c (fun q => by
            obtain ⟨φ1, eD1⟩ := hND1.some
            rw [q, eD1] at e
            cases e)]
          exact s3 _ _ e) (Tups.trans (Tups.same s3) tp4)
        have lxs : xs.length = (stepsM P1 P2 st).length := by
          have := hx3.len
          rwa [List.length_map] at this
        have l30 := stepsM_len hp.w1.ok hp.w2.ok ist
        refine ⟨.ref wl, rfl, .inl ⟨rfl, _, SqL.of hwl4⟩, .ref D, rfl, y, rfl, D, sitK st, _, .ref r, rfl, sit_key hy4, nd4, by rw [valV_put, if_pos rfl], r, rfl, ⟨xs, SqL.of hr4⟩, fun L nL => ?_⟩
        refine lc_list (xs := xs) (fun i H' => Same H4 H' ∧ ∃ zs, H' L = some (.lst zs) ∧ TDs H' zs (((stepsM P1 P2 st).take i).map fun x => sitD x.2.2)) ?_ ?_ ?_ ?_
        · exact ⟨same_at (Same.refl _) nL, [], upd_same, .nil⟩
        · exact fun i H' _ h => SqL.of (h.1 _ _ hr4)
        · rintro i xv H5 hxv ⟨s5, zs, hL, hzs⟩
          have hi : i < (stepsM P1 P2 st).length := by
            have := (List.getElem?_eq_some_iff.mp hxv).1
            omega
          obtain ⟨d, hd, hvd⟩ := hx4.get hxv
          rw [List.getElem?_map, List.getElem?_eq_getElem hi] at hd
          obtain rfl := (Option.some.inj hd)
          obtain ⟨ta, us, rfl, hta, hus⟩ := hvd.isTup
          cases hus with
          | @cons u1 d1 us1 ds1 g1 gr =>
            cases gr with
            | @cons u2 d2 us2 ds2 g2 gr =>
              cases gr with
              | @cons u3 d3 us3 ds3 g3 gr =>
                cases gr
                have tpL := Tups.lst (o := .lst (zs ++ [u3])) hL
                refine ⟨ta, _, rfl, SqT.of (s5 _ _ hta), rfl, u1, [u2, u3], rfl, u2, [u3], rfl, u3, [], rfl, rfl, rfl, u3, rfl, zs, hL, ?_, same_at s5 nL, _, upd_same, ?_⟩
                · have := hzs.len
                  rw [List.length_map, List.length_take] at this
                  omega
                · rw [List.take_add_one, List.getElem?_eq_getElem hi, Option.toList_some, List.map_append]
                  exact tds_snoc (hzs.mono tpL) (TD.mono tpL _ (TD.mono (Tups.same s5) _ g3))
        · rintro H5 ⟨s5, zs, hL, hzs⟩
          rw [lxs, List.take_length] at hzs
          have lzs : zs.length = (stepsM P1 P2 st).length := by
            have := hzs.len
            rwa [List.length_map] at this
          have lv0 : v0.length = ws0.length := by
            have := hv0.len
            rwa [List.length_map] at this
          have hwl5 := s5 _ _ hwl4
          have tpw := Tups.lst (o := .lst (v0 ++ zs)) hwl5
          have nd' : (ks ++ [st]).Nodup := List.nodup_append.mpr ⟨hA.nd, List.nodup_cons.mpr ⟨(fun z => by cases z), List.nodup_nil⟩, fun x hx z hz => by rw [List.mem_singleton.mp hz]; exact fun e => hst (e ▸ hx)⟩
          have rk' : ∀ k ∈ ks ++ [st], Rch P1 P2 ss k := fun k hk => by
            rcases List.mem_append.mp hk with h | h
            · exact hA.rk k h
            · rw [List.mem_singleton.mp h]
              exact rst
          have lk' : (ks ++ [st]).length ≤ S.length := nodup_le nd' fun k hk => hS k (rk' k hk)
          have lk2 : (ks ++ [st]).length = ks.length + 1 := by rw [List.length_append]; rfl
          rw [lk2] at lk'
          refine ⟨wl, L, v0, zs, rfl, rfl, hwl5, hL, by omega, (S.length - (ks.length + 1)) * 1000 + (ws0.length + (stepsM P1 P2 st).length), by omega, ks ++ [st], ws0 ++ (stepsM P1 P2 st).map (·.2.2), _, y5, y6, rfl, same_at (sm4.trans s5) nwl0, ⟨putK kvs (sitK st) (.ref r), ?_, ?_⟩, ⟨v0 ++ zs, upd_same, ?_⟩, nd', rk', ?_, ?_, ?_, ?_, ?_⟩
          · exact (nd4.mono s5).keep tpw fun o e => by rw [upd_ne nDw.symm]; exact e
          · rw [putK_new _ e1]
            refine Paired.snoc ((hSR4.but (fun c us n e => s5 _ _ e) (Tups.same s5)).but (fun c us n e => by rw [upd_ne n]; exact e) tpw) ⟨rfl, r, xs, rfl, nrw, by rw [upd_ne nrw]; exact s5 _ _ hr4, (hx4.mono (Tups.same s5)).mono tpw⟩
          · rw [List.map_append, List.map_map]
            exact ((hv04.mono (Tups.same s5)).mono tpw).app (hzs.mono tpw)
          · intro k hk
            rcases List.mem_append.mp hk with h | h
            · exact hA.rw_ k (List.mem_append.mpr (.inl h))
            · obtain ⟨x, hx, rfl⟩ := List.mem_map.mp h
              exact .step rst hx
          · intro s' hs
            rcases hA.base s' hs with h | h
            · exact .inl (List.mem_append.mpr (.inl h))
            · rcases List.mem_append.mp h with h | h
              · exact .inr (List.mem_append.mpr (.inl h))
              · exact .inl (List.mem_append.mpr (.inr h))
          · intro k hk x hx
            rcases List.mem_append.mp hk with h | h
            · rcases hA.cl k h x hx with h | h
              · exact .inl (List.mem_append.mpr (.inl h))
              · rcases List.mem_append.mp h with h | h
                · exact .inr (List.mem_append.mpr (.inl h))
                · exact .inl (List.mem_append.mpr (.inr h))
            · rw [List.mem_singleton.mp h] at hx
              exact .inr (List.mem_append.mpr (.inr (List.mem_map.mpr ⟨x, hx, rfl⟩)))
          · rw [lk2, List.length_append, List.length_map]
          · rw [lk2, List.length_append, List.length_map]
            omega
end

/-! ### places -/
def verAt (ks : List (Int × Int)) (i : Int) : Int := ((ks[i.toNat]?).getD (0, 0)).1
def othF (n : Nat) (i : Int) : List (Int × Int) := (List.range n).filterMap fun j : Nat => if (j : Int) = i then none else some ((j : Int), (j : Int))
def otherS (ks : List (Int × Int)) (p i : Int) : Sit := (p, p, othF (heldAt ks p).toNat i)
theorem othF_succ (n : Nat) (i : Int) : othF (n + 1) i = othF n i ++ (if (n : Int) = i then [] else [((n : Int), (n : Int))]) := by
  unfold othF
  rw [List.range_succ, List.filterMap_append]
  congr 1
  by_cases h : (n : Int) = i <;> simp [h]
theorem othF_len (n : Nat) (i : Int) : (othF n i).length ≤ n := by
  unfold othF
  exact Nat.le_trans (List.length_filterMap_le _ _) (by rw [List.length_range]; exact Nat.le_refl _)
def plW (ks : List (Int × Int)) (p n : Nat) : List (Int × Int) := (List.range n).map fun i : Nat => ((p : Int), (i : Int))
def placesM (ks : List (Int × Int)) : List (Int × Int) := (List.range ks.length).flatMap fun p : Nat => plW ks p (heldAt ks p).toNat
theorem plW_len (ks : List (Int × Int)) (p n : Nat) : (plW ks p n).length = n := by
  unfold plW
  rw [List.length_map, List.length_range]
theorem plW_succ (ks : List (Int × Int)) (p n : Nat) : plW ks p (n + 1) = plW ks p n ++ [((p : Int), (n : Int))] := by
  unfold plW
  rw [List.range_succ, List.map_append]
  rfl
theorem plF_len {ks : List (Int × Int)} (h : KindsOk ks) : ∀ i : Nat, i ≤ ks.length → ((List.range i).flatMap fun p : Nat => plW ks p (heldAt ks p).toNat).length ≤ 3 * i
  | 0, _ => by simp
  | i + 1, hi => by
    have ih := plF_len h i (by omega)
    have b := held_bd h (i := (i : Int)) (by omega) (by omega)
    rw [List.range_succ, List.flatMap_append, List.length_append]
    have e : (List.flatMap (fun p : Nat => plW ks p (heldAt ks p).toNat) [i]).length = (heldAt ks (i : Int)).toNat := by
      rw [List.flatMap_singleton, plW_len]
    rw [e]
    omega
def PlW (ks : List (Int × Int)) (H1 : Hp) (D : Addr) (H : Hp) (i j : Nat) : Prop := Same H1 H ∧ ∃ xs, H D = some (.lst xs) ∧ TDs H xs (((List.range i).flatMap (fun p : Nat => plW ks p (heldAt ks p).toNat) ++ plW ks i j).map pairD)
def sp_verdicts_at (K : PySem.W.Frag) (C : Addr) : Sp := fun us H Q _ => ∃ (t : Addr) (v : V) (a b : WA) (P1 P2 : Plan) (s : Sit), us = [.ref t, v] ∧ PairAt K C H t a b P1 P2 ∧ TD H v (sitD s) ∧ SitIn P1 P2 s ∧
  ∀ r H', Same H H' → H' r = some (.tup [.int (verAt P1.kinds s.1), .int (verAt P2.kinds s.2.1)]) → Q (.ref r) H'
def sp_are_sought : Sp := fun us H Q _ => ∃ (c v : Addr) (x y : Int), us = [.ref c, .ref v] ∧ H c = some (.tup [.str "alike"]) ∧ H v = some (.tup [.int x, .int y]) ∧ Q (.bl (!decide (x = y))) H
def sp_other_value (C : Addr) : Sp := fun us H Q _ => ∃ (x lv lh d : Addr) (P : Plan) (p i : Int), us = [.ref x, .int p, .int i] ∧ WP C H x lv lh d P ∧ 0 ≤ p ∧ p < P.kinds.length ∧
  ∀ r H', Same H H' → TD H' (.ref r) (sitD (otherS P.kinds p i)) → Q (.ref r) H'
def sp_all_places (C : Addr) : Sp := fun us H Q _ => ∃ (x lv lh d : Addr) (P : Plan), us = [.ref x] ∧ WP C H x lv lh d P ∧
  ∀ r xs H', Same H H' → H r = none → H' r = some (.lst xs) → TDs H' xs ((placesM P.kinds).map pairD) → Q (.ref r) H'
theorem ver_at {ks : List (Int × Int)} {i : Int} (h0 : 0 ≤ i) (h1 : i < ks.length) : atI ((ks.map (·.1)).map V.int) i = some (.int (verAt ks i)) := by
  have e : (((i.toNat : Nat)) : Int) = i := by omega
  rw [← e]
  refine atI_nat ?_
  have hi : i.toNat < ks.length := by omega
  rw [List.getElem?_map, List.getElem?_map, List.getElem?_eq_getElem hi]
  unfold verAt
  rw [e, List.getElem?_eq_getElem hi]
  rfl
section
variable {P : Program} {w : World} {K : PySem.W.Frag} {mg : Str → Option Value} {base : Heap}
abbrev N_verdicts_at : List Str := ["pair", "situation", "p", "q", "_"]
theorem sc_verdicts_at : FnScope N_verdicts_at ["pair", "situation"] (defScope s_verdicts_at) := ⟨rfl, rfl, rfl, by decide +kernel, rfl, by decide +kernel, by decide +kernel⟩
theorem G_verdicts_at (T : Tx K mg) : FnG P w K mg base CX0 2 T.verdicts_at.f T.verdicts_at.fd ["pair", "situation"] (sp_verdicts_at K T.Watcher.C) := by
  refine okG T.verdicts_at.F sc_verdicts_at (fun vs H Q E h => ?_) (fun cdv A outer s H vs Q E gd hr h => ?_)
  · obtain ⟨t, v, a, b, P1, P2, s, rfl, _⟩ := h
    rfl
  · obtain ⟨t, v, a, b, P1, P2, st, rfl, hp, hv, hin, q⟩ := h
    refine ⟨_, 
      (pss_cons (ps_asg (pv 1) (pg_tup rfl (pgs_cons (pg_name (i := 2) sc_verdicts_at.nd rfl (.inl rfl)) (pgs_cons (pg_name (i := 3) sc_verdicts_at.nd rfl (.inl rfl)) (pgs_cons (pg_name (i := 4) sc_verdicts_at.nd rfl (.inl rfl)) pgs_nil))))) -- p, q, _ = situation
      (pss_one (ps_ret (pe_tup (pa_cons (pe_ix ix_tup (pe_meth0G (pe_ix ix_tup (pv 0) pe_int (fun _ _ => rfl)) T.Watcher.cl T.Watcher_verdicts.M (G_Watcher_verdicts T) gd (hr.mono (by decide)) T.Watcher_verdicts.b .nil pass0) (pv 2) (fun _ _ => rfl)) (pa_cons (pe_ix ix_tup (pe_meth0G (pe_ix ix_tup (pv 0) pe_int (fun _ _ => rfl)) T.Watcher.cl T.Watcher_verdicts.M (G_Watcher_verdicts T) gd (hr.mono (by decide)) T.Watcher_verdicts.b .nil pass0) (pv 3) (fun _ _ => rfl)) pa_nil))))) -- return (pair[0].verdicts()[p], pair[1].verdicts()[q])
      ) , ?_⟩
    obtain ⟨sv, xs, rfl, hsv, hxs⟩ := hv.isTup
    obtain ⟨dx, hx⟩ := hp.w1.w.ins
    obtain ⟨dy, hy⟩ := hp.w2.w.ins
    cases hxs with
    | cons h1 hxs =>
      cases h1
      cases hxs with
      | cons h2 hxs =>
        cases h2
        cases hxs with
        | @cons v3 d3 vs3 ds3 h3 hxs =>
          cases hxs
          refine ⟨.ref sv, rfl, sv, _, rfl, SqT.of hsv, rfl, .int st.1, [.int st.2.1, v3], rfl, .int st.2.1, [v3], rfl, v3, [], rfl, rfl, ?_⟩
          refine ⟨.ref t, rfl, t, _, 0, .ref a.x, rfl, rfl, hp.sq, atI_nat (j := 0) rfl, a.x, dx, _, rfl, hx, rfl, a.x, a.lv, a.lh, a.d, _, _, _, _, rfl, hp.w1.w, fun c nc => ⟨.int st.1, rfl, c, _, st.1, .int (verAt P1.kinds st.1), rfl, rfl, SqT.of upd_same, ver_at hin.p0 hin.p1, ?_⟩⟩
          have s1 := same_new (o := .tup ((P1.kinds.map (·.1)).map V.int)) nc
          refine ⟨.ref t, rfl, t, _, 1, .ref b.x, rfl, rfl, sqT_same hp.sq s1, atI_nat (j := 1) rfl, b.x, dy, _, rfl, s1 _ _ hy, rfl, b.x, b.lv, b.lh, b.d, _, _, _, _, rfl, hp.w2.w.mono s1, fun c2 nc2 => ⟨.int st.2.1, rfl, c2, _, st.2.1, .int (verAt P2.kinds st.2.1), rfl, rfl, SqT.of upd_same, ver_at hin.q0 hin.q1, ?_⟩⟩
          have s2 := same_new (o := .tup ((P2.kinds.map (·.1)).map V.int)) nc2
          refine ⟨by show 2 ≤ sizeLine; decide, fun r nr => ?_⟩
          exact q r _ ((s1.trans s2).trans (same_new nr)) upd_same
abbrev N_are_sought : List Str := ["claim", "verdicts"]
theorem sc_are_sought : FnScope N_are_sought ["claim", "verdicts"] (defScope s_are_sought) := ⟨rfl, rfl, rfl, by decide +kernel, rfl, by decide +kernel, by decide +kernel⟩
theorem G_are_sought (T : Tx K mg) : FnG P w K mg base CX0 1 T.are_sought.f T.are_sought.fd ["claim", "verdicts"] sp_are_sought := by
  refine okG T.are_sought.F sc_are_sought (fun vs H Q E h => ?_) (fun cdv A outer s H vs Q E gd hr h => ?_)
  · obtain ⟨c, v, x, y, rfl, _⟩ := h
    rfl
  · obtain ⟨c, v, x, y, rfl, hc, hv, q⟩ := h
    refine ⟨_, 
      (pss_cons (ps_if (pt_cmpR op_eq (pe_ix ix_tup (pv 0) pe_int (fun _ _ => rfl)) (pe_glob (v := .str "together") rfl T.g_TOGETHER ⟨_, rfl⟩) (nomark _)) 
        (pss_one (ps_ret (pe_cmpR (op_eqT hr.units) (pv 1) (pe_slice sl_D (pv 0) (po_some pe_int) po_none) (nomark _)))) -- return verdicts == claim[1:]
         pss_nil) -- if claim[0] == TOGETHER:
      (pss_one (ps_ret (pe_cmpR op_ne (pe_ix ix_tup (pv 1) pe_int (fun _ _ => rfl)) (pe_ix ix_tup (pv 1) pe_int (fun _ _ => rfl)) (nomark _)))) -- return verdicts[0] != verdicts[1]
      ) , ?_⟩
    refine ⟨.ref c, rfl, c, _, 0, .str "alike", rfl, rfl, SqT.of hc, atI_nat (j := 0) rfl, rfl, false, congrArg V.bl (decide_eq_false (fun z => absurd (V.str.inj z) (by decide))), iteF ?_⟩
    refine ⟨.ref v, rfl, v, _, 0, .int x, rfl, rfl, SqT.of hv, atI_nat (j := 0) rfl, .ref v, rfl, v, _, 1, .int y, rfl, rfl, SqT.of hv, atI_nat (j := 1) rfl, rfl, ?_⟩
    have e : decide (V.int x = V.int y) = decide (x = y) := by
      by_cases h : x = y
      · rw [h]
        simp
      · rw [decide_eq_false h, decide_eq_false fun z => h (V.int.inj z)]
    rw [e]
    exact q
abbrev N_other_value : List Str := ["watcher", "p", "i", "j"]
theorem sc_other_value : FnScope N_other_value ["watcher", "p", "i"] (defScope s_other_value) := ⟨rfl, rfl, rfl, by decide +kernel, rfl, by decide +kernel, by decide +kernel⟩
theorem G_other_value (T : Tx K mg) : FnG P w K mg base CX0 2 T.other_value.f T.other_value.fd ["watcher", "p", "i"] (sp_other_value T.Watcher.C) := by
  refine okG T.other_value.F sc_other_value (fun vs H Q E h => ?_) (fun cdv A outer s H vs Q E gd hr h => ?_)
  · obtain ⟨x, lv, lh, d, P', p, i, rfl, _⟩ := h
    rfl
  · obtain ⟨x, lv, lh, d, PL, p, i, rfl, hw, p0, p1, q⟩ := h
    refine ⟨_, 
      (pss_one (ps_ret (pe_tup (pa_cons (pv 1) (pa_cons (pv 1) (pa_cons (pe_callTy call_tuple_of (by rfl) T.m_tuple (by decide +kernel) (pa_cons (pe_lc (own := [("j", 3)]) (g := gName 3) rfl sc_other_value.nd (pi_range1 rfl T.m_range (pa_cons (pe_ix ix_tup (pe_meth0G (pv 0) T.Watcher.cl T.Watcher_held_counts.M (G_Watcher_held_counts T) gd (hr.mono (by decide)) T.Watcher_held_counts.b .nil pass0) (pv 1) (fun _ _ => rfl)) pa_nil)) (blkOk_by (N := N_other_value) (sc := defScope s_other_value) (by decide +kernel)) (fun _ _ _ _ _ => (pg_name (i := 3) sc_other_value.nd rfl (.inl rfl))) (fun _ _ _ _ _ => (pts_one (pt_cmpR op_ne (pv 3) (pv 2) (nomark _)))) (fun _ _ _ _ _ => (pe_tup (pa_cons (pv 3) (pa_cons (pv 3) pa_nil))))) pa_nil)) pa_nil)))))) -- return (p, p, tuple([(j, j) for j in range(watcher.held_counts()[p]) if j != i]))
       , ?_⟩
    have L5 : 200000 ≤ sizeLine := by decide
    obtain ⟨dx, hx⟩ := hw.w.ins
    have hA := held_bd hw.ok.k p0 p1
    have iA : atI ((PL.kinds.map (·.2)).map V.int) p = some (.int (heldAt PL.kinds p)) := by
      rw [← hAt_held]
      exact hs_at p0 (by rw [List.length_map]; exact p1)
    refine ⟨.int p, rfl, .int p, rfl, .ref x, rfl, x, dx, _, rfl, hx, rfl, x, lv, lh, d, _, _, _, _, rfl, hw.w, fun c nc => ⟨.int p, rfl, c, _, p, .int (heldAt PL.kinds p), rfl, rfl, SqT.of upd_same, iA, heldAt PL.kinds p, rfl, by omega, by omega, fun D nD => ?_⟩⟩
    have s1 := same_new (o := .tup ((PL.kinds.map (·.2)).map V.int)) nc
    refine lc_range (n := (heldAt PL.kinds p).toNat) (fun j H' => Same (upd H c (.tup ((PL.kinds.map (·.2)).map V.int))) H' ∧ ∃ xs, H' D = some (.lst xs) ∧ TDs H' xs ((othF j i).map pairD)) ?_ ?_ ?_
    · exact ⟨same_at (Same.refl _) nD, [], upd_same, .nil⟩
    · rintro j H3 hj ⟨s3, xs, hD, hxs⟩
      have e0 : (0 : Int) + (j : Int) = (j : Int) := by omega
      rw [e0]
      refine ⟨rfl, .int (j : Int), rfl, .int i, rfl, rfl, ?_⟩
      rw [othF_succ]
      have e : decide (V.int (j : Int) = V.int i) = decide ((j : Int) = i) := by
        by_cases h : (j : Int) = i
        · rw [h]
          simp
        · rw [decide_eq_false h, decide_eq_false fun z => h (V.int.inj z)]
      rw [e]
      by_cases h : (j : Int) = i
      · rw [decide_eq_true h, if_pos h]
        refine ⟨false, rfl, iteF ?_⟩
        rw [List.append_nil]
        exact ⟨s3, xs, hD, hxs⟩
      · rw [decide_eq_false h, if_neg h]
        refine ⟨true, rfl, iteT ?_⟩
        refine ⟨.int (j : Int), rfl, .int (j : Int), rfl, by show 2 ≤ sizeLine; decide, fun m nm => ?_⟩
        have s8 := same_new (o := .tup [.int (j : Int), .int (j : Int)]) nm
        have hD8 := s8 _ _ hD
        have tp := Tups.lst (o := .lst (xs ++ [.ref m])) hD8
        refine ⟨xs, hD8, ?_, same_at (s3.trans s8) nD, _, upd_same, ?_⟩
        · have := hxs.len
          have := othF_len j i
          rw [List.length_map] at *
          omega
        · rw [List.map_append]
          exact tds_snoc ((hxs.mono (Tups.same s8)).mono tp) (.tup (tp _ _ upd_same) (.cons (.int _) (.cons (.int _) .nil)))
    · rintro H3 ⟨s3, xs, hD, hxs⟩
      refine ⟨D, xs, rfl, .inl ⟨SqL.of hD, fun l nl => ⟨by show 3 ≤ sizeLine; decide, fun r nr => ?_⟩⟩⟩
      have s4 := same_new (o := .tup xs) nl
      have s5 := same_new (o := .tup [.int p, .int p, .ref l]) nr
      exact q r _ (((s1.trans s3).trans s4).trans s5) (.tup upd_same (.cons (.int _) (.cons (.int _) (.cons (.tup (s5 _ _ upd_same) (hxs.mono (Tups.same (s4.trans s5)))) .nil))))
abbrev N_all_places : List Str := ["watcher", "p", "held", "i"]
theorem sc_all_places : FnScope N_all_places ["watcher"] (defScope s_all_places) := ⟨rfl, rfl, rfl, by decide +kernel, rfl, by decide +kernel, by decide +kernel⟩
theorem G_all_places (T : Tx K mg) : FnG P w K mg base CX0 2 T.all_places.f T.all_places.fd ["watcher"] (sp_all_places T.Watcher.C) := by
  refine okG T.all_places.F sc_all_places (fun vs H Q E h => ?_) (fun cdv A outer s H vs Q E gd hr h => ?_)
  · obtain ⟨x, lv, lh, d, P', rfl, _⟩ := h
    rfl
  · obtain ⟨x, lv, lh, d, PL, rfl, hw, q⟩ := h
    refine ⟨_, 
      (pss_one (ps_ret (pe_lc2 (own := [("p", 1), ("held", 2), ("i", 3)]) (vs1 := [3]) (g := gTup K 2 (gCons (gName 1) (gCons (gName 2) gNil))) (g1 := gName 3) (wi1 := _) rfl sc_all_places.nd (pi_enumT (by rfl) T.m_enumerate (pa_cons (pe_meth0G (pv 0) T.Watcher.cl T.Watcher_held_counts.M (G_Watcher_held_counts T) gd (hr.mono (by decide)) T.Watcher_held_counts.b .nil pass0) pa_nil)) (blkOk_by (N := N_all_places) (sc := defScope s_all_places) (by decide +kernel)) (by decide) (fun _ _ _ _ _ => (pg_tup rfl (pgs_cons (pg_name (i := 1) sc_all_places.nd rfl (.inl rfl)) (pgs_cons (pg_name (i := 2) sc_all_places.nd rfl (.inl rfl)) pgs_nil)))) (fun _ _ _ _ _ => pts_nil) (fun _ _ _ _ _ => (pi_range1 rfl T.m_range (pa_cons (pv 2) pa_nil))) (fun _ _ _ _ _ => (pg_name (i := 3) sc_all_places.nd rfl (.inl rfl))) (fun _ _ _ _ _ => pts_nil) (fun _ _ _ _ _ => (pe_tup (pa_cons (pv 1) (pa_cons (pv 3) pa_nil))))))) -- return [(p, i) for p, held in enumerate(watcher.held_counts()) for i in range(held)]
       , ?_⟩
    have L5 : 200000 ≤ sizeLine := by decide
    obtain ⟨dx, hx⟩ := hw.w.ins
    refine ⟨.ref x, rfl, x, dx, _, rfl, hx, rfl, x, lv, lh, d, _, _, _, _, rfl, hw.w, fun c nc => ?_⟩
    have s1 := same_new (o := .tup ((PL.kinds.map (·.2)).map V.int)) nc
    have hc : (upd H c (.tup ((PL.kinds.map (·.2)).map V.int))) c = some (.tup ((PL.kinds.map (·.2)).map V.int)) := upd_same
    generalize upd H c (.tup ((PL.kinds.map (·.2)).map V.int)) = H1 at s1 hc
    refine ⟨c, _, rfl, SqT.of hc, fun D nD => ?_⟩
    have nDH : H D = none := by
      cases e : H D with
      | none => rfl
      | some o => rw [s1 _ _ e] at nD; cases nD
    have wk := walk_enumT (K := K) (a := c) (xs := (PL.kinds.map (·.2)).map V.int)
    have ln : ((PL.kinds.map (·.2)).map V.int).length = PL.kinds.length := by rw [List.length_map, List.length_map]
    rw [ln] at wk
    refine ⟨fun i m H' => m = PL.kinds.length - i ∧ i ≤ PL.kinds.length ∧ PlW PL.kinds H1 D H' i 0, ⟨PL.kinds.length, by simp, Nat.zero_le _, same_at (Same.refl _) nD, [], upd_same, .nil⟩, ?_⟩
    rintro i m H3 ⟨rfl, hi, hP⟩
    by_cases hlt : i < PL.kinds.length
    · refine .inr ⟨wk.goes i H3 hlt (SqT.of (hP.1 _ _ hc)), fun H' => PlW PL.kinds H1 D H' (i + 1) 0, fun H4 p => ⟨PL.kinds.length - (i + 1), by omega, rfl, hlt, p⟩, fun xv H4 yy => ?_⟩
      obtain ⟨TT, x1, x2, rfl, nT, rfl, e1, e2⟩ := wk.yields i H3 xv H4 hlt (SqT.of (hP.1 _ _ hc)) yy
      cases e1
      have hbd := held_bd hw.ok.k (i := (i : Int)) (by omega) (by omega)
      have ex : x2 = .int (heldAt PL.kinds (i : Int)) := by
        dsimp only at e2
        rw [List.getElem?_map, List.getElem?_map, List.getElem?_eq_getElem hlt] at e2
        have : heldAt PL.kinds (i : Int) = PL.kinds[i].2 := by
          unfold heldAt
          have : ((i : Int)).toNat = i := by omega
          rw [this, List.getElem?_eq_getElem hlt]
          rfl
        rw [this]
        exact (Option.some.inj e2).symm
      subst ex
      have s7 := same_new (o := .tup [.int (i : Nat), .int (heldAt PL.kinds (i : Int))]) nT
      have hP4 : PlW PL.kinds H1 D (upd H3 TT (.tup [.int (i : Nat), .int (heldAt PL.kinds (i : Int))])) i 0 := by
        obtain ⟨sm, xs, hD, hxs⟩ := hP
        exact ⟨sm.trans s7, xs, s7 _ _ hD, hxs.mono (Tups.same s7)⟩
      refine ⟨TT, _, rfl, SqT.of upd_same, rfl, .int (i : Nat), [.int (heldAt PL.kinds (i : Int))], rfl, .int (heldAt PL.kinds (i : Int)), [], rfl, rfl, rfl, ?_⟩
      refine ⟨.int (heldAt PL.kinds (i : Int)), rfl, heldAt PL.kinds (i : Int), rfl, by omega, by omega, ?_⟩
      generalize upd H3 TT (.tup [.int (i : Nat), .int (heldAt PL.kinds (i : Int))]) = H4 at hP4
      refine ⟨fun j k H' => k = (heldAt PL.kinds (i : Int)).toNat - j ∧ j ≤ (heldAt PL.kinds (i : Int)).toNat ∧ PlW PL.kinds H1 D H' i j, ⟨_, rfl, Nat.zero_le _, hP4⟩, ?_⟩
      rintro j k H5 ⟨rfl, hj, hP5⟩
      by_cases hjl : j < (heldAt PL.kinds (i : Int)).toNat
      · refine .inr ⟨hjl, fun H' => PlW PL.kinds H1 D H' i (j + 1), fun H' p => ⟨_, by omega, rfl, hjl, p⟩, fun yv H6 yy => ?_⟩
        obtain ⟨e, yy⟩ := yy
        subst e yy
        have e0 : (0 : Int) + (j : Int) = (j : Int) := by omega
        rw [e0]
        obtain ⟨s5, xs, hD5, hx5⟩ := hP5
        refine ⟨rfl, .int (i : Int), rfl, .int (j : Int), rfl, by show 2 ≤ sizeLine; decide, fun m nm => ?_⟩
        have s8 := same_new (o := .tup [.int (i : Int), .int (j : Int)]) nm
        have hD8 := s8 _ _ hD5
        have tp := Tups.lst (o := .lst (xs ++ [.ref m])) hD8
        refine ⟨xs, hD8, ?_, same_at (s5.trans s8) nD, _, upd_same, ?_⟩
        · have e1 := hx5.len
          have e2 := plF_len hw.ok.k i hi
          rw [List.length_map, List.length_append, plW_len] at e1
          have := hw.ok.k.len
          omega
        · rw [plW_succ, ← List.append_assoc, List.map_append]
          exact tds_snoc ((hx5.mono (Tups.same s8)).mono tp) (.tup (tp _ _ upd_same) (.cons (.int _) (.cons (.int _) .nil)))
      · have e : j = (heldAt PL.kinds (i : Int)).toNat := by omega
        subst e
        refine .inl ⟨Nat.le_refl _, ?_⟩
        obtain ⟨s5, xs, hD5, hx5⟩ := hP5
        refine ⟨s5, xs, hD5, ?_⟩
        rw [List.range_succ, List.flatMap_append]
        show TDs H5 xs (List.map pairD (_ ++ [])) 
        rw [List.append_nil]
        simpa using hx5
    · have e : i = PL.kinds.length := by omega
      subst e
      refine .inl ⟨wk.stops _ (SqT.of (hP.1 _ _ hc)), ?_⟩
      obtain ⟨s3, xs, hD3, hx3⟩ := hP
      refine q D xs H3 (s1.trans s3) nDH hD3 ?_
      have hx3 : TDs H3 xs (((List.range PL.kinds.length).flatMap (fun p : Nat => plW PL.kinds p (heldAt PL.kinds p).toNat) ++ []).map pairD) := hx3
      rw [List.append_nil] at hx3
      exact hx3
end

/-! ### ways -/
/-- what steps lead to an end -/
inductive WayTo (P1 P2 : Plan) (ks es : List Sit) : Sit → Prop
  | base {s : Sit} : s ∈ es → WayTo P1 P2 ks es s
  | step {s : Sit} {x : Int × Cs × Sit} : s ∈ ks → x ∈ stepsM P1 P2 s → WayTo P1 P2 ks es x.2.2 → WayTo P1 P2 ks es s
abbrev ArP : NestedKey × V → Sit × Addr → Prop := fun p m => p.1 = sitK m.1 ∧ p.2 = .ref m.2
theorem ArP.keys {kva : List (NestedKey × V)} {kas : List (Sit × Addr)} (h : Paired ArP kva kas) : kva.map (·.1) = (kas.map (·.1)).map sitK := by
  induction h with
  | nil => rfl
  | cons a _ ih => rw [List.map_cons, List.map_cons, List.map_cons, a.1, ih]
theorem sitK_mem {k : Sit} {l : List Sit} : sitK k ∈ l.map sitK ↔ k ∈ l := by
  constructor
  · intro h
    obtain ⟨x, hx, e⟩ := List.mem_map.mp h
    exact sitK_inj e ▸ hx
  · exact fun h => List.mem_map.mpr ⟨k, h, rfl⟩
theorem ArP.val {kva : List (NestedKey × V)} {kas : List (Sit × Addr)} (h : Paired ArP kva kas) (nd : (kas.map (·.1)).Nodup) {m : Sit × Addr} (hm : m ∈ kas) : valV kva (sitK m.1) = some (.ref m.2) := by
  induction h with
  | nil => cases hm
  | @cons p q ps qs a t ih =>
    rw [List.map_cons] at nd
    have nd' := List.nodup_cons.mp nd
    rcases List.mem_cons.mp hm with rfl | hm
    · rw [valV_pos a.1, a.2]
    · have ne : ¬ p.1 = sitK m.1 := fun z => nd'.1 (by
        rw [sitK_inj (a.1.symm.trans z)]
        exact List.mem_map.mpr ⟨m, hm, rfl⟩)
      rw [valV_neg ne]
      exact ih nd'.2 hm
theorem row_key {P1 P2 : Plan} {z : Addr} {H : Hp} {kvs : List (NestedKey × V)} {rs : List NRow} {ks : List Sit} (h1 : NRel H kvs rs) (h2 : StRel P1 P2 z H kvs ks) {i : Nat} {r : NRow} (hr : rs[i]? = some r) :
    ∃ k, ks[i]? = some k ∧ NKey H (sitK k) (.ref r.2.1) := by
  have hi := (List.getElem?_eq_some_iff.mp hr).1
  have hi' : i < kvs.length := by rw [Paired.length h1]; exact hi
  have e := List.getElem?_eq_getElem hi'
  obtain ⟨b, hb, q⟩ := L2.paired_get h1 e
  rw [hr] at hb
  obtain rfl := Option.some.inj hb
  obtain ⟨k, hk, q2⟩ := L2.paired_get h2 e
  exact ⟨k, hk, by rw [← q2.1]; exact q.2.1⟩
abbrev Stp := Sit × (Int × Cs × Sit)
def arD (m : Stp) : PyData := .tuple [sitD m.1, stepD m.2]
/-- the lists behind the situations, each of what leads there of pr -/
structure ArW (P : Program) (w : World) (H : Hp) (A : Addr) (ks : List Sit) (kas : List (Sit × Addr)) (pr : List Stp) : Prop where
  nd : ∃ kva, NDict P w H A kva ∧ Paired ArP kva kas
  ke : kas.map (·.1) = ks
  nk : ks.Nodup
  ad : (kas.map (·.2)).Nodup
  ls : ∀ m ∈ kas, ∃ xs, H m.2 = some (.lst xs) ∧ TDs H xs ((pr.filter fun y => decide (y.2.2.2 = m.1)).map arD)
theorem ArW.keep {P : Program} {w : World} {H H' : Hp} {A : Addr} {ks : List Sit} {kas : List (Sit × Addr)} {pr : List Stp} (h : ArW P w H A ks kas pr) (t : Tups H H') (kA : ∀ o, H A = some o → H' A = some o) (kl : ∀ c xs, H c = some (.lst xs) → H' c = some (.lst xs)) : ArW P w H' A ks kas pr := by
  obtain ⟨⟨kva, a, b⟩, c, nk, d, e⟩ := h
  refine ⟨⟨kva, a.keep t kA, b⟩, c, nk, d, fun m hm => ?_⟩
  obtain ⟨xs, x1, x2⟩ := e m hm
  exact ⟨xs, kl _ _ x1, x2.mono t⟩
theorem ArW.mono {P : Program} {w : World} {H H' : Hp} {A : Addr} {ks : List Sit} {kas : List (Sit × Addr)} {pr : List Stp} (h : ArW P w H A ks kas pr) (s : Same H H') : ArW P w H' A ks kas pr := h.keep (Tups.same s) (fun _ e => s _ _ e) (fun _ _ e => s _ _ e)
theorem mem_at {α : Type} {k : α} {β : Type} : ∀ {l : List (α × β)}, k ∈ l.map (·.1) → ∃ b, (k, b) ∈ l := by
  intro l h
  obtain ⟨m, hm, e⟩ := List.mem_map.mp h
  exact ⟨m.2, by rw [← e]; exact hm⟩
theorem inj_nd {α β : Type} {f : α → β} : ∀ {l : List α}, (l.map f).Nodup → ∀ {m m' : α}, m ∈ l → m' ∈ l → f m = f m' → m = m'
  | [], _, m, m', h, _, _ => nomatch h
  | x :: r, nd, m, m', h, h', e => by
    rw [List.map_cons] at nd
    have nd' := List.nodup_cons.mp nd
    rcases List.mem_cons.mp h with e1 | h1
    · rcases List.mem_cons.mp h' with e2 | h2
      · rw [e1, e2]
      · exact absurd (List.mem_map.mpr ⟨m', h2, by rw [← e, e1]⟩) nd'.1
    · rcases List.mem_cons.mp h' with e2 | h2
      · exact absurd (List.mem_map.mpr ⟨m, h1, by rw [e, e2]⟩) nd'.1
      · exact inj_nd nd'.2 h1 h2 e
def prK (P1 P2 : Plan) (k : Sit) : List Stp := (stepsM P1 P2 k).map fun x => (k, x)
def prA (P1 P2 : Plan) (ks : List Sit) : List Stp := ks.flatMap (prK P1 P2)
/-- of the first i situations, and of the first j steps of the next one -/
def prF (P1 P2 : Plan) (ks : List Sit) (i j : Nat) : List Stp := prA P1 P2 (ks.take i) ++ (match ks[i]? with | some k => ((stepsM P1 P2 k).take j).map fun x => (k, x) | none => [])
theorem prF_zero (P1 P2 : Plan) (ks : List Sit) (i : Nat) : prF P1 P2 ks i 0 = prA P1 P2 (ks.take i) := by
  unfold prF
  cases ks[i]? <;> simp
theorem prF_succ {P1 P2 : Plan} {ks : List Sit} {i j : Nat} {k : Sit} {x : Int × Cs × Sit} (h : ks[i]? = some k) (hx : (stepsM P1 P2 k)[j]? = some x) : prF P1 P2 ks i (j + 1) = prF P1 P2 ks i j ++ [(k, x)] := by
  unfold prF
  rw [h]
  dsimp only
  rw [List.take_add_one, hx, Option.toList_some, List.map_append, List.append_assoc]
  rfl
theorem prF_full {P1 P2 : Plan} {ks : List Sit} {i : Nat} {k : Sit} (h : ks[i]? = some k) : prF P1 P2 ks i (stepsM P1 P2 k).length = prA P1 P2 (ks.take (i + 1)) := by
  unfold prF
  rw [h]
  dsimp only
  rw [List.take_length, List.take_add_one, h, Option.toList_some]
  unfold prA
  rw [List.flatMap_append]
  simp [prK]
theorem prA_mem {P1 P2 : Plan} {ks : List Sit} {m : Stp} : m ∈ prA P1 P2 ks ↔ m.1 ∈ ks ∧ m.2 ∈ stepsM P1 P2 m.1 := by
  unfold prA prK
  constructor
  · intro h
    obtain ⟨k, hk, h⟩ := List.mem_flatMap.mp h
    obtain ⟨x, hx, rfl⟩ := List.mem_map.mp h
    exact ⟨hk, hx⟩
  · rintro ⟨h1, h2⟩
    exact List.mem_flatMap.mpr ⟨m.1, h1, List.mem_map.mpr ⟨m.2, h2, rfl⟩⟩
theorem prA_len {P1 P2 : Plan} (o1 : PlanOk P1) (o2 : PlanOk P2) : ∀ {ks : List Sit}, (∀ k ∈ ks, SitIn P1 P2 k) → (prA P1 P2 ks).length ≤ 30 * ks.length
  | [], _ => by simp [prA]
  | k :: r, h => by
    have ih := prA_len o1 o2 (ks := r) fun x hx => h x (List.mem_cons_of_mem _ hx)
    have := stepsM_len o1 o2 (h k List.mem_cons_self)
    unfold prA at *
    rw [List.flatMap_cons, List.length_append, List.length_cons]
    have : (prK P1 P2 k).length = (stepsM P1 P2 k).length := by
      unfold prK
      rw [List.length_map]
    omega
theorem prF_len {P1 P2 : Plan} (o1 : PlanOk P1) (o2 : PlanOk P2) {ks : List Sit} (h : ∀ k ∈ ks, SitIn P1 P2 k) (i j : Nat) : (prF P1 P2 ks i j).length ≤ 30 * ks.length + 30 := by
  unfold prF
  have h1 := prA_len o1 o2 (ks := ks.take i) fun k hk => h k (List.mem_of_mem_take hk)
  have h2 : (ks.take i).length ≤ ks.length := by
    rw [List.length_take]
    omega
  rw [List.length_append]
  cases e : ks[i]? with
  | none =>
    dsimp only
    rw [List.length_nil]
    omega
  | some k =>
    dsimp only
    have := stepsM_len o1 o2 (h k (List.mem_of_getElem? e))
    rw [List.length_map, List.length_take]
    omega
/-- one more step, behind its situation -/
theorem ArW.push {P : Program} {w : World} {H : Hp} {A : Addr} {ks : List Sit} {kas : List (Sit × Addr)} {pr : List Stp} (h : ArW P w H A ks kas pr) {m : Sit × Addr} (hm : m ∈ kas) {y : Stp} (hy : y.2.2.2 = m.1) {xs : List V} (hx : H m.2 = some (.lst xs)) {v : V} (hv : TD H v (arD y)) :
    ArW P w (upd H m.2 (.lst (xs ++ [v]))) A ks kas (pr ++ [y]) := by
  have tp := Tups.lst (o := .lst (xs ++ [v])) hx
  obtain ⟨⟨kva, a, b⟩, c, nk, d, e⟩ := h
  refine ⟨⟨kva, a.keep tp fun o eo => ?_, b⟩, c, nk, d, fun m' hm' => ?_⟩
  · obtain ⟨φ, eA⟩ := a.some
    have : A ≠ m.2 := fun z => by rw [z, hx] at eA; cases eA
    rw [upd_ne this]
    exact eo
  · by_cases em : m'.2 = m.2
    · obtain rfl := inj_nd d hm' hm em
      obtain ⟨xs', x1, x2⟩ := e m' hm'
      rw [hx] at x1
      obtain rfl := HO.lst.inj (Option.some.inj x1)
      refine ⟨xs ++ [v], upd_same, ?_⟩
      rw [List.filter_append, List.filter_cons, if_pos (decide_eq_true hy), List.filter_nil, List.map_append]
      exact tds_snoc (x2.mono tp) (TD.mono tp _ hv)
    · obtain ⟨xs', x1, x2⟩ := e m' hm'
      refine ⟨xs', by rw [upd_ne em]; exact x1, ?_⟩
      have ne : ¬ y.2.2.2 = m'.1 := fun z => by
        exact em (by rw [inj_nd (by rw [c]; exact nk) hm' hm (z.symm.trans hy)])
      rw [List.filter_append, List.filter_cons, if_neg (by simpa using ne), List.filter_nil, List.append_nil]
      exact x2.mono tp
def addS (kw : List Sit) (k : Sit) : List Sit := if k ∈ kw then kw else kw ++ [k]
theorem addS_keys {kvw : List (NestedKey × V)} {kw : List Sit} (h : kvw.map (·.1) = kw.map sitK) (k : Sit) (v : V) : (putK kvw (sitK k) v).map (·.1) = (addS kw k).map sitK := by
  unfold addS
  by_cases hk : k ∈ kw
  · rw [if_pos hk]
    have e : (kvw.any fun kv => decide (kv.1 = sitK k)) = true := by
      have : sitK k ∈ kvw.map (·.1) := by rw [h]; exact sitK_mem.mpr hk
      obtain ⟨x, hx, ex⟩ := List.mem_map.mp this
      exact List.any_eq_true.mpr ⟨x, hx, decide_eq_true ex⟩
    unfold putK
    rw [if_pos e, ← h, List.map_map]
    refine List.map_congr_left fun x _ => ?_
    show (if x.1 = sitK k then (x.1, v) else x).1 = x.1
    split <;> rfl
  · rw [if_neg hk, putK_new _ (val_no (by rw [h]; exact fun z => hk (sitK_mem.mp z))), List.map_append, List.map_append, h]
    rfl
theorem addS_nd {kw : List Sit} (h : kw.Nodup) (k : Sit) : (addS kw k).Nodup := by
  unfold addS
  split
  · exact h
  · next n => exact List.nodup_append.mpr ⟨h, List.nodup_cons.mpr ⟨(fun z => by cases z), List.nodup_nil⟩, fun x hx z hz => by rw [List.mem_singleton.mp hz]; exact fun e => n (e ▸ hx)⟩
theorem addS_mem {kw : List Sit} {k x : Sit} : x ∈ addS kw k ↔ x ∈ kw ∨ x = k := by
  unfold addS
  split
  · next h => exact ⟨.inl, fun z => z.elim id fun e => e ▸ h⟩
  · rw [List.mem_append, List.mem_singleton]
theorem keys_len {kvw : List (NestedKey × V)} {kw : List Sit} (h : kvw.map (·.1) = kw.map sitK) : kvw.length = kw.length := by
  have := congrArg List.length h
  rwa [List.length_map, List.length_map] at this
theorem keys_val {kvw : List (NestedKey × V)} {kw : List Sit} (h : kvw.map (·.1) = kw.map sitK) (k : Sit) : (valV kvw (sitK k)).isSome = decide (k ∈ kw) := by
  by_cases hk : k ∈ kw
  · rw [decide_eq_true hk]
    have : sitK k ∈ kvw.map (·.1) := by rw [h]; exact sitK_mem.mpr hk
    rw [← valV_any]
    obtain ⟨x, hx, ex⟩ := List.mem_map.mp this
    exact List.any_eq_true.mpr ⟨x, hx, decide_eq_true ex⟩
  · rw [decide_eq_false hk, val_no (by rw [h]; exact fun z => hk (sitK_mem.mp z))]
    rfl
def Cl (P1 P2 : Plan) (ks kw : List Sit) (t : Sit) : Prop := ∀ m ∈ prA P1 P2 ks, m.2.2.2 = t → m.1 ∈ kw
/-- what the search has -/
structure WyW (P : Program) (w : World) (P1 P2 : Plan) (ks es : List Sit) (H3 : Hp) (Wd : Addr) (H : Hp) (kw : List Sit) : Prop where
  kp : NLx Wd H3 H
  wd : ∃ kvw, NDict P w H Wd kvw ∧ kvw.map (·.1) = kw.map sitK
  nd : kw.Nodup
  way : ∀ k ∈ kw, WayTo P1 P2 ks es k
  iks : ∀ k ∈ kw, k ∈ ks
  ends : ∀ e ∈ es, e ∈ kw
/-- amid a look -/
structure BfW (P : Program) (w : World) (P1 P2 : Plan) (ks es : List Sit) (H3 : Hp) (Wd : Addr) (kw1 la : List Sit) (wl ba : Addr) (lv : List V) (i : Nat) (H : Hp) (kw be : List Sit) : Prop where
  W : WyW P w P1 P2 ks es H3 Wd H kw
  wl : H wl = some (.lst lv)
  bf : ∃ bv, H ba = some (.lst bv) ∧ TDs H bv (be.map sitD)
  sub : ∀ k ∈ be, k ∈ kw
  len : kw.length = kw1.length + be.length
  lin : ∀ k ∈ la, k ∈ kw
  cl : ∀ k ∈ kw, k ∈ be ∨ k ∈ la.drop i ∨ Cl P1 P2 ks kw k
/-- before each look at `last` -/
def WyV (P : Program) (w : World) (P1 P2 : Plan) (ks es : List Sit) (H3 : Hp) (D l A Wd : Addr) (x3 x4 : Option V) : Nat → L2.St → Hp → Prop := fun m σ H => ∃ (kw la : List Sit) (wl : Addr) (y3 y4 y6 y8 y9 : Option V), σ = [some (.ref D), some (.ref l), some (.ref A), y3, y4, some (.ref Wd), y6, some (.ref wl), y8, y9] ∧
  m = (ks.length - kw.length) * 2 + (if la = [] then 0 else 1) ∧ WyW P w P1 P2 ks es H3 Wd H kw ∧ wl ≠ Wd ∧ (∀ k ∈ la, k ∈ kw) ∧ (∃ vs, H wl = some (.lst vs) ∧ TDs H vs (la.map sitD)) ∧ ∀ k ∈ kw, k ∈ la ∨ Cl P1 P2 ks kw k
def sp_ways_to (P : Program) (w : World) : Sp := fun us H Q _ => ∃ (D l : Addr) (P1 P2 : Plan) (ks es : List Sit) (vs : List V), us = [.ref D, .ref l] ∧ StD P w P1 P2 H D ks ∧ ks.Nodup ∧ PlanOk P1 ∧ PlanOk P2 ∧ (∀ k ∈ ks, SitIn P1 P2 k) ∧
  (∀ k ∈ ks, ∀ x ∈ stepsM P1 P2 k, x.2.2 ∈ ks) ∧ ks.length ≤ 100000 ∧ H l = some (.lst vs) ∧ TDs H vs (es.map sitD) ∧ (∀ e ∈ es, e ∈ ks) ∧ es.length ≤ 100000 ∧
  ∀ (W : Addr) (kw : List Sit) (kvw : List (NestedKey × V)) H', Same H H' → NDict P w H' W kvw → kvw.map (·.1) = kw.map sitK → (∀ k, k ∈ kw ↔ WayTo P1 P2 ks es k) → Q (.ref W) H'
section
variable {P : Program} {w : World} {K : PySem.W.Frag} {mg : Str → Option Value} {base : Heap}
abbrev N_ways_to : List Str := ["steps", "ends", "arriving", "here", "step_there", "ways", "end", "last", "before", "there"]
theorem sc_ways_to : FnScope N_ways_to ["steps", "ends"] (defScope s_ways_to) := ⟨rfl, rfl, rfl, by decide +kernel, rfl, by decide +kernel, by decide +kernel⟩
theorem G_ways_to (T : Tx K mg) : FnG P w K mg base CX0 1 T.ways_to.f T.ways_to.fd ["steps", "ends"] (sp_ways_to P w) := by
  refine okG T.ways_to.F sc_ways_to (fun vs H Q E h => ?_) (fun cdv A outer s H vs Q E gd hr h => ?_)
  · obtain ⟨D, l, P1, P2, ks, es, vs, rfl, _⟩ := h
    rfl
  · obtain ⟨D, l, P1, P2, ks, es, vs, rfl, ⟨kvs, z, hND, hSR⟩, nd, o1, o2, hin, hcl, lks, hl, hvs, hes, les, q⟩ := h
    refine ⟨_, 
      (C8.pss_cut (ps_lock (ps_setDcN (i := 2) (own := [("here", 3)]) (g := gName 3) rfl sc_ways_to.nd hr.units rfl rfl (by rfl) (pi_keysN (pv 0)) (blkOk_by (N := N_ways_to) (sc := defScope s_ways_to) (by decide +kernel)) (fun _ _ _ _ _ => (pg_name (i := 3) sc_ways_to.nd rfl (.inl rfl))) (fun _ _ _ _ _ => pts_nil) (fun _ _ _ _ _ => (pv 3)) (fun _ _ _ _ _ => (pe_lst pa_nil)))) -- arriving = {here: [] for here in steps}
      (C8.pss_cut (ps_lock (ps_for PassesOwn.never rfl (pi_keysN (pv 0)) (pg_name (i := 3) sc_ways_to.nd rfl (.inl rfl)) 
        (pss_one (ps_for PassesOwn.never rfl (pi_list (pe_getNR hr.units (pv 0) (pv 3))) (pg_name (i := 4) sc_ways_to.nd rfl (.inl rfl)) 
          (pss_one (ps_expr (pe_bm PySem.F.plainAttrs_list PySem.F.slot_list_append PySem.F.type_list_append mt_append (pe_getN hr.units (pv 2) (pe_ix ix_tup (pv 4) pe_int (fun _ _ => rfl))) (pa_cons (pe_tup (pa_cons (pv 3) (pa_cons (pv 4) pa_nil))) pa_nil)))) -- arriving[step_there[2]].append((here, step_there))
          )) -- for step_there in steps[here]:
        )) -- for here in steps:
      (C8.pss_cut (ps_setDcN (i := 5) (own := [("end", 6)]) (g := gName 6) rfl sc_ways_to.nd hr.units rfl rfl (by rfl) (pi_list (pv 1)) (blkOk_by (N := N_ways_to) (sc := defScope s_ways_to) (by decide +kernel)) (fun _ _ _ _ _ => (pg_name (i := 6) sc_ways_to.nd rfl (.inl rfl))) (fun _ _ _ _ _ => pts_nil) (fun _ _ _ _ _ => (pv 6)) (fun _ _ _ _ _ => pe_non)) -- ways = {end: None for end in ends}
      (pss_cons (ps_set (i := 7) sc_ways_to.nd rfl (.inl rfl) (pe_callTy call_list_of (by rfl) T.m_list (by decide +kernel) (pa_cons (pv 1) pa_nil))) -- last = list(ends)
      (pss_cons (ps_while PassesOwn.never (pt_truth (pv 7) (by intro _; rfl)) 
        (pss_cons (ps_set (i := 8) sc_ways_to.nd rfl (.inl rfl) (pe_lst pa_nil)) -- before = []
        (pss_cons (ps_for PassesOwn.never rfl (pi_list (pv 7)) (pg_name (i := 9) sc_ways_to.nd rfl (.inl rfl)) 
          (pss_one (ps_for PassesOwn.never rfl (pi_list (pe_getN hr.units (pv 2) (pv 9))) (pg_tup rfl (pgs_cons (pg_name (i := 3) sc_ways_to.nd rfl (.inl rfl)) (pgs_cons (pg_name (i := 4) sc_ways_to.nd rfl (.inl rfl)) pgs_nil))) 
            (pss_one (ps_if (pt_cmpR (op_notInN hr.units) (pv 3) (pv 5) rfl) 
              (pss_cons (ps_putN hr.units (pv 5) (pv 3) (pv 4) rfl) -- ways[here] = step_there
              (pss_one (ps_expr (pe_bm PySem.F.plainAttrs_list PySem.F.slot_list_append PySem.F.type_list_append mt_append (pv 8) (pa_cons (pv 3) pa_nil)))) -- before.append(here)
              ) pss_nil)) -- if here not in ways:
            )) -- for here, step_there in arriving[there]:
          ) -- for there in last:
        (pss_one (ps_set (i := 7) sc_ways_to.nd rfl (.inl rfl) (pv 8))) -- last = before
        ))) -- while last:
      (pss_one (ps_ret (pv 5))) -- return ways
      ))))) , ?_⟩
    have L5 : 4000000 ≤ sizeLine := by decide
    obtain ⟨rs, eD, rel⟩ := hND
    have lrs : rs.length = ks.length := by rw [← Paired.length rel, Paired.length hSR]
    refine ⟨fun σ H' => ∃ A kas, σ = [some (.ref D), some (.ref l), some (.ref A), none, none, none, none, none, none, none] ∧ Same H H' ∧ H A = none ∧ (∀ m ∈ kas, H m.2 = none) ∧ ArW P w H' A ks kas [], ?_, ?_⟩
    · clear q
      refine ⟨D, _, eD, trivial, fun od => ?_⟩
      have hD1 : (upd H D (.frz od (NO P w D rs))) D = some (.frz od (NO P w D rs)) := upd_same
      have off : ∀ c, c ≠ D → (upd H D (.frz od (NO P w D rs))) c = H c := fun c n => upd_ne n
      have tpL : Tups H (upd H D (.frz od (NO P w D rs))) := Tups.put eD (fun _ z => nomatch z)
      generalize upd H D (.frz od (NO P w D rs)) = HL at hD1 off tpL
      refine ⟨.ref D, rfl, D, od, rs, rfl, hD1, fun A nA => ?_⟩
      have nAD : A ≠ D := fun e => by rw [e, hD1] at nA; cases nA
      refine dcN_it walk_keysN (fun i H' => Same HL H' ∧ ∃ kas kva, kas.map (·.1) = ks.take i ∧ (kas.map (·.2)).Nodup ∧ (∀ m ∈ kas, HL m.2 = none ∧ H' m.2 = some (.lst [])) ∧ NDict P w H' A kva ∧ Paired ArP kva kas) ?_ ?_ ?_ ?_
      · exact ⟨same_at (Same.refl _) nA, [], [], rfl, List.nodup_nil, (fun m hm => by cases hm), NDict.new, .nil⟩
      · exact fun i H' h => h.1 _ _ hD1
      · rintro i x H1 H2 hi ⟨s1, kas, kva, e1, e2, e3, e4, e5⟩ ⟨rfl, r, hr, rfl⟩
        obtain ⟨k, hk, nk⟩ := row_key rel hSR hr
        refine ⟨rfl, .ref r.2.1, rfl, by show 0 ≤ sizeLine; decide, fun la nla => ⟨kva, sitK k, (nk.mono tpL).mono (Tups.same (s1.trans (same_new nla))), e4.mono (same_new nla), ?_, fun H6 k6 n6 => ?_⟩⟩
        · have := keys_len (kw := kas.map Prod.fst) (ArP.keys e5)
          rw [e1, List.length_take] at this
          omega
        have nlA : la ≠ A := fun e => by
          obtain ⟨φ, eA⟩ := e4.some
          rw [e, eA] at nla
          cases nla
        have hkn : k ∉ kas.map (·.1) := by
          rw [e1]
          intro hm
          obtain ⟨j, hj⟩ := List.mem_iff_getElem?.mp hm
          rw [List.getElem?_take] at hj
          by_cases hji : j < i
          · rw [if_pos hji] at hj
            have a1 := (List.getElem?_eq_some_iff.mp hk).1
            have := (List.getElem?_inj a1 nd).mp (hk.trans hj.symm)
            omega
          · rw [if_neg hji] at hj
            cases hj
        refine ⟨fun c o e => ?_, kas ++ [(k, la)], putK kva (sitK k) (.ref la), ?_, ?_, ?_, n6, ?_⟩
        · rw [k6 c (fun q => by rw [q, nA] at e; cases e)]
          exact same_new nla _ _ (s1 _ _ e)
        · rw [List.map_append, e1, List.take_add_one, hk]
          rfl
        · rw [List.map_append]
          refine List.nodup_append.mpr ⟨e2, List.nodup_cons.mpr ⟨(fun z => by cases z), List.nodup_nil⟩, fun a ha b hb => ?_⟩
          rw [List.mem_singleton.mp hb]
          intro e
          obtain ⟨m, hm, em⟩ := List.mem_map.mp ha
          have := (e3 m hm).2
          rw [em, e, nla] at this
          cases this
        · intro m hm
          rcases List.mem_append.mp hm with hm | hm
          · have h3 := e3 m hm
            refine ⟨h3.1, ?_⟩
            have : m.2 ≠ A := fun e => by
              obtain ⟨φ, eA⟩ := e4.some
              rw [← e, h3.2] at eA
              cases eA
            rw [k6 _ this]
            exact same_new nla _ _ h3.2
          · rw [List.mem_singleton.mp hm]
            refine ⟨?_, ?_⟩
            · show HL la = none
              cases e : HL la with
              | none => rfl
              | some o => rw [s1 _ _ e] at nla; cases nla
            · show H6 la = _
              rw [k6 la nlA]
              exact upd_same
        · rw [putK_new _ (val_no (by rw [ArP.keys e5]; exact fun z => hkn (sitK_mem.mp z)))]
          exact Paired.snoc e5 ⟨rfl, rfl⟩
      · rintro H1 ⟨s1, kas, kva, e1, e2, e3, e4, e5⟩
        rw [lrs, List.take_length] at e1
        have sD := s1 _ _ hD1
        refine ⟨sD, A, kas, rfl, fun c o e => ?_, by rw [← off A nAD]; exact nA, fun m hm => ?_, ?_⟩
        · by_cases hc : c = D
          · subst hc
            rw [eD] at e
            rw [upd_same]
            exact e
          · rw [upd_ne hc]
            exact s1 _ _ (by rw [off c hc]; exact e)
        · have h3 := (e3 m hm).1
          have : m.2 ≠ D := fun e => by rw [e, hD1] at h3; cases h3
          rw [← off _ this]
          exact h3
        · have tp : Tups H1 (upd H1 D (NO P w D rs)) := Tups.put sD (fun _ z => nomatch z)
          refine ⟨⟨kva, e4.keep tp fun o e => by rw [upd_ne nAD]; exact e, e5⟩, e1, nd, e2, fun m hm => ⟨[], ?_, .nil⟩⟩
          have h3 := e3 m hm
          have : m.2 ≠ D := fun e => by rw [e, hD1] at h3; cases h3.1
          rw [upd_ne this]
          exact h3.2
    rintro σ H1 ⟨A, kas, rfl, s1, nA, nla, hAr⟩
    have eD1 := s1 _ _ eD
    have lasD : ∀ m ∈ kas, m.2 ≠ D := fun m hm e => by
      have := nla m hm
      rw [e, eD] at this
      cases this
    have nAD : A ≠ D := fun e => by rw [e, eD] at nA; cases nA
    refine ⟨fun σ H' => ∃ y3 y4, σ = [some (.ref D), some (.ref l), some (.ref A), y3, y4, none, none, none, none, none] ∧ Same H H' ∧ ArW P w H' A ks kas (prA P1 P2 ks), ?_, ?_⟩
    · clear q
      refine ⟨D, _, eD1, trivial, fun od => ?_⟩
      have hD1 : (upd H1 D (.frz od (NO P w D rs))) D = some (.frz od (NO P w D rs)) := upd_same
      have off : ∀ c, c ≠ D → (upd H1 D (.frz od (NO P w D rs))) c = H1 c := fun c n => upd_ne n
      have tpL : Tups H1 (upd H1 D (.frz od (NO P w D rs))) := Tups.put eD1 (fun _ z => nomatch z)
      have hAL : ArW P w (upd H1 D (.frz od (NO P w D rs))) A ks kas [] := hAr.keep tpL (fun o e => by rw [upd_ne nAD]; exact e) (fun c xs e => by
        rw [upd_ne (fun z => by rw [z, eD1] at e; cases e)]
        exact e)
      generalize upd H1 D (.frz od (NO P w D rs)) = HL at hD1 off tpL hAL
      have tpH : Tups H HL := Tups.trans (Tups.same s1) tpL
      have relL : NRel HL kvs rs := rel.mono tpH
      refine ⟨.ref D, rfl, D, od, rs, rfl, hD1, ?_⟩
      refine for_it walk_keysN (fun i σ H' => ∃ y3 y4, σ = [some (.ref D), some (.ref l), some (.ref A), y3, y4, none, none, none, none, none] ∧ (∀ c o, HL c = some o → (∀ m ∈ kas, c ≠ m.2) → H' c = some o) ∧ ArW P w H' A ks kas (prA P1 P2 (ks.take i))) ?_ ?_ ?_ ?_
      · exact ⟨none, none, rfl, fun c o e _ => e, hAL⟩
      · rintro i σ H' _ ⟨y3, y4, rfl, kp, hA⟩
        exact kp _ _ hD1 fun m hm e => lasD m hm e.symm
      · rintro i x σ H2 H2' hi ⟨y3, y4, rfl, kp, hA⟩ ⟨rfl, r, hr, rfl⟩
        obtain ⟨k, hk, nk⟩ := row_key rel hSR hr
        have hkm : k ∈ ks := List.mem_of_getElem? hk
        obtain ⟨lk, sx, ev, hlk, hsx⟩ := (hSR.val k).2 hkm
        have tp2 : Tups HL H2' := fun c xs e => kp c _ e fun m hm z => by
          obtain ⟨ys, y1, _⟩ := hAL.ls m hm
          rw [z, y1] at e
          cases e
        have hlkn : ∀ m ∈ kas, lk ≠ m.2 := fun m hm e => by
          have := nla m hm
          rw [← e, hlk] at this
          cases this
        have lkD : lk ≠ D := fun e => by rw [e, eD] at hlk; cases hlk
        have hlkL : HL lk = some (.lst sx) := by
          rw [off lk lkD]
          exact s1 _ _ hlk
        have lsx : sx.length = (stepsM P1 P2 k).length := by
          have := hsx.len
          rwa [List.length_map] at this
        have hD2 := kp _ _ hD1 fun m hm e => lasD m hm e.symm
        refine ⟨.ref D, rfl, .ref r.2.1, rfl, D, sitK k, kvs, .ref lk, rfl, (nk.mono tpH).mono tp2, ⟨rs, .inr ⟨od, hD2⟩, relL.mono tp2⟩, ev, lk, rfl, ⟨sx, SqL.of (kp _ _ hlkL hlkn)⟩, ?_⟩
        refine for_list (xs := sx) (fun j σ H' => ∃ y4, σ = [some (.ref D), some (.ref l), some (.ref A), some (.ref r.2.1), y4, none, none, none, none, none] ∧ (∀ c o, HL c = some o → (∀ m ∈ kas, c ≠ m.2) → H' c = some o) ∧ ArW P w H' A ks kas (prF P1 P2 ks i j)) ?_ ?_ ?_ ?_
        · exact ⟨y4, rfl, kp, by rw [prF_zero]; exact hA⟩
        · rintro j σ H' _ ⟨y4, rfl, kp, hA⟩
          exact SqL.of (kp _ _ hlkL hlkn)
        · rintro j xv σ H3 hxv ⟨y4, rfl, kp3, hA3⟩
          have hj : j < (stepsM P1 P2 k).length := by
            have := (List.getElem?_eq_some_iff.mp hxv).1
            omega
          have tp3 : Tups HL H3 := fun c xs e => kp3 c _ e fun m hm z => by
            obtain ⟨ys, y1, _⟩ := hAL.ls m hm
            rw [z, y1] at e
            cases e
          obtain ⟨d, hd, hvd0⟩ := hsx.get hxv
          rw [List.getElem?_map, List.getElem?_eq_getElem hj] at hd
          obtain rfl := (Option.some.inj hd)
          have hvd := TD.mono tp3 _ (TD.mono tpH _ hvd0)
          have hstep := hcl k hkm _ (List.getElem_mem hj)
          have hxe : (stepsM P1 P2 k)[j]? = some (stepsM P1 P2 k)[j] := List.getElem?_eq_getElem hj
          generalize (stepsM P1 P2 k)[j] = X at hvd hstep hxe
          obtain ⟨bm, hm⟩ := mem_at (by rw [hA3.ke]; exact hstep)
          obtain ⟨ys, hys, hyt⟩ := hA3.ls _ hm
          obtain ⟨⟨kva, hNA, hPA⟩, _⟩ := id hA3
          have hvv := hvd
          obtain ⟨ta, us, rfl, hta, hus⟩ := hvd.isTup
          cases hus with
          | @cons u1 d1 us1 ds1 g1 gr =>
            cases gr with
            | @cons u2 d2 us2 ds2 g2 gr =>
              cases gr with
              | @cons u3 d3 us3 ds3 g3 gr =>
                cases gr
                have hval : valV kva (sitK X.2.2) = some (.ref bm) := ArP.val hPA (by rw [hA3.ke]; exact nd) hm
                refine ⟨.ref A, rfl, .ref ta, rfl, ta, _, 2, u3, rfl, rfl, SqT.of hta, atI_nat (j := 2) rfl, A, sitK X.2.2, kva, .ref bm, rfl, sit_key g3, hNA, hval, .inl ⟨rfl, _, SqL.of hys⟩, .ref r.2.1, rfl, .ref ta, rfl, by show 2 ≤ sizeLine; decide, fun mm nmm => ?_⟩
                have s8 := same_new (o := .tup [.ref r.2.1, .ref ta]) nmm
                have hys8 := s8 _ _ hys
                refine ⟨bm, ys, .ref mm, rfl, rfl, hys8, ?_, some (.ref ta), rfl, fun c o e hc => ?_, ?_⟩
                · have h1 := hyt.len
                  rw [List.length_map] at h1
                  have h2 := List.length_filter_le (fun y : Stp => decide (y.2.2.2 = (X.2.2, bm).1)) (prF P1 P2 ks i j)
                  have h3 := prF_len o1 o2 hin i j
                  omega
                · rw [upd_ne (hc _ hm)]
                  exact s8 _ _ (kp3 _ _ e hc)
                · rw [prF_succ hk hxe]
                  refine (hA3.mono s8).push hm rfl hys8 (.tup upd_same (.cons ?_ (.cons (TD.mono (Tups.same s8) _ hvv) .nil)))
                  have := ((nk.mono tpH).mono tp3).2.1
                  rw [sitK_D] at this
                  exact TD.mono (Tups.same s8) _ this
        · rintro σ H3 ⟨y4, rfl, kp3, hA3⟩
          rw [lsx, prF_full hk] at hA3
          exact ⟨_, y4, rfl, kp3, hA3⟩
      · rintro σ H2 ⟨y3, y4, rfl, kp, hA⟩
        rw [lrs, List.take_length] at hA
        have hD2 := kp _ _ hD1 fun m hm e => lasD m hm e.symm
        refine ⟨hD2, y3, y4, rfl, fun c o e => ?_, hA.keep (Tups.put hD2 (fun _ z => nomatch z)) (fun o e => by rw [upd_ne nAD]; exact e) (fun c xs e => by
          rw [upd_ne (fun z => by rw [z, hD2] at e; cases e)]
          exact e)⟩
        by_cases hc : c = D
        · subst hc
          rw [eD] at e
          rw [upd_same]
          exact e
        · rw [upd_ne hc]
          refine kp _ _ (by rw [off c hc]; exact s1 _ _ e) fun m hm z => ?_
          have := nla m hm
          rw [← z, e] at this
          cases this
    rintro σ H2 ⟨y3, y4, rfl, s2, hA2⟩
    have hl2 := s2 _ _ hl
    have hvs2 := hvs.mono (Tups.same s2)
    have lvs : vs.length = es.length := by
      have := hvs.len
      rwa [List.length_map] at this
    refine ⟨fun σ H' => ∃ Wd kw, σ = [some (.ref D), some (.ref l), some (.ref A), y3, y4, some (.ref Wd), none, none, none, none] ∧ Same H2 H' ∧ H2 Wd = none ∧ WyW P w P1 P2 ks es H' Wd H' kw ∧ ∀ k ∈ kw, k ∈ es, ?_, ?_⟩
    · clear q
      refine ⟨.ref l, rfl, l, rfl, ⟨vs, SqL.of hl2⟩, fun Wd nWd => ?_⟩
      refine dcN_it (walk_list (K := K) (a := l) (xs := vs)) (fun i H' => Same H2 H' ∧ ∃ (kvw : List (NestedKey × V)) (kw : List Sit), NDict P w H' Wd kvw ∧ kvw.map (·.1) = kw.map sitK ∧ kw.Nodup ∧ (∀ k ∈ kw, k ∈ es) ∧ ∀ k ∈ es.take i, k ∈ kw) ?_ ?_ ?_ ?_
      · exact ⟨same_at (Same.refl _) nWd, [], [], NDict.new, rfl, List.nodup_nil, (fun k hk => by cases hk), (fun k hk => by cases hk)⟩
      · exact fun i H' h => SqL.of (h.1 _ _ hl2)
      · rintro i x H3 H4 hi ⟨s3, kvw, kw, n1, n2, n3, n4, n5⟩ ⟨rfl, hx⟩
        have hie : i < es.length := by omega
        obtain ⟨d, hd, hxd⟩ := hvs2.get hx
        rw [List.getElem?_map, List.getElem?_eq_getElem hie] at hd
        obtain rfl := (Option.some.inj hd)
        refine ⟨rfl, x, rfl, kvw, sitK es[i], sit_key (TD.mono (Tups.same s3) _ hxd), n1, ?_, fun H6 k6 n6 => ⟨fun c o e => ?_, _, addS kw es[i], n6, addS_keys n2 _ _, addS_nd n3 _, fun k hk => ?_, fun k hk => ?_⟩⟩
        · have h1 := keys_len n2
          have h2 := nodup_le n3 n4
          omega
        · rw [k6 c (fun q => by rw [q, nWd] at e; cases e)]
          exact s3 _ _ e
        · rcases addS_mem.mp hk with h | rfl
          · exact n4 k h
          · exact List.getElem_mem hie
        · rw [List.take_add_one, List.getElem?_eq_getElem hie, Option.toList_some] at hk
          rcases List.mem_append.mp hk with h | h
          · exact addS_mem.mpr (.inl (n5 k h))
          · exact addS_mem.mpr (.inr (List.mem_singleton.mp h))
      · rintro H3 ⟨s3, kvw, kw, n1, n2, n3, n4, n5⟩
        rw [lvs, List.take_length] at n5
        exact ⟨Wd, kw, rfl, s3, nWd, ⟨(fun c o e _ => e), ⟨kvw, n1, n2⟩, n3, fun k hk => .base (n4 k hk), fun k hk => hes k (n4 k hk), n5⟩, n4⟩
    rintro σ H3 ⟨Wd, kw, rfl, s3, nWd, hW, hkw⟩
    have s23 := s2.trans s3
    have hA3 := hA2.mono s3
    have nWdH : H Wd = none := by
      cases e : H Wd with
      | none => rfl
      | some o => rw [s2 _ _ e] at nWd; cases nWd
    have nWA : Wd ≠ A := by
      obtain ⟨⟨kva, a, _⟩, _⟩ := hA2
      obtain ⟨φ, eA⟩ := a.some
      intro e
      rw [e, eA] at nWd
      cases nWd
    refine ⟨.ref l, rfl, l, vs, rfl, .inl (SqL.of (s3 _ _ hl2)), fun wl nwl => ?_⟩
    have sA := same_new (o := .lst vs) nwl
    have nwlW : wl ≠ Wd := fun e => by
      obtain ⟨kvw, a, _⟩ := hW.wd
      obtain ⟨φ, eA⟩ := a.some
      rw [e, eA] at nwl
      cases nwl
    refine ⟨WyV P w P1 P2 ks es H3 D l A Wd y3 y4, ⟨(ks.length - kw.length) * 2 + (if es = [] then 0 else 1), kw, es, wl, y3, y4, none, none, none, rfl, rfl, ⟨(fun c o e _ => sA _ _ e), ?_, hW.nd, hW.way, hW.iks, hW.ends⟩, nwlW, fun k hk => hW.ends k hk, ⟨vs, upd_same, hvs2.mono (Tups.same (s3.trans sA))⟩, fun k hk => .inl (hkw k hk)⟩, fun m σ H' hV => ?_⟩
    · obtain ⟨kvw, a, b⟩ := hW.wd
      exact ⟨kvw, a.mono sA, b⟩
    obtain ⟨kw1, la, wl1, y3', y4', y6, y8, y9, rfl, hm, hW1, nl1, hlk, ⟨lv, hwl, hlv⟩, hcl1⟩ := hV
    have llv : lv.length = la.length := by
      have := hlv.len
      rwa [List.length_map] at this
    have tps : ∀ {H' : Hp}, NLx Wd H3 H' → Tups H3 H' := fun {H'} k c xs e => k c _ e fun z => by
      obtain ⟨kvw, a, _⟩ := hW.wd
      obtain ⟨φ, eA⟩ := a.some
      rw [z, eA] at e
      cases e
    cases la with
    | nil =>
      obtain rfl : lv = [] := List.eq_nil_of_length_eq_zero llv
      refine ⟨.ref wl1, rfl, false, .inl ⟨[], SqL.of hwl, rfl⟩, iteF ?_⟩
      obtain ⟨kvw, a, b⟩ := hW1.wd
      refine ⟨.ref Wd, rfl, q Wd kw1 kvw H' (fun c o e => hW1.kp c o (s23 _ _ e) fun z => by rw [z, nWdH] at e; cases e) a b fun k => ⟨hW1.way k, fun hk => ?_⟩⟩
      induction hk with
      | base h => exact hW1.ends _ h
      | @step s x h1 h2 _ ih =>
        rcases hcl1 _ ih with h | h
        · cases h
        · exact h (s, x) (prA_mem.mpr ⟨h1, h2⟩) rfl
    | cons l0 lr =>
      refine ⟨.ref wl1, rfl, true, .inl ⟨lv, SqL.of hwl, by cases lv with | nil => cases llv | cons _ _ => rfl⟩, iteT ?_⟩
      clear q
      refine ⟨fun σ' H2 => ∃ m', m' < m ∧ WyV P w P1 P2 ks es H3 D l A Wd y3 y4 m' σ' H2, fun σ' H2 h => h, ?_⟩
      refine ⟨by show 0 ≤ sizeLine; decide, fun ba nba => ?_⟩
      have sB := same_new (o := .lst []) nba
      have nbW : ba ≠ Wd := fun e => by
        obtain ⟨kvw, a, _⟩ := hW1.wd
        obtain ⟨φ, eA⟩ := a.some
        rw [e, eA] at nba
        cases nba
      have nbl : ba ≠ wl1 := fun e => by rw [e, hwl] at nba; cases nba
      have nb3 : H3 ba = none := by
        cases e : H3 ba with
        | none => rfl
        | some o => rw [hW1.kp _ _ e nbW] at nba; cases nba
      have hlk' : ∀ k ∈ l0 :: lr, k ∈ ks := fun k hk => hW1.iks k (hlk k hk)
      refine ⟨.ref wl1, rfl, wl1, rfl, ⟨lv, SqL.of (sB _ _ hwl)⟩, ?_⟩
      have b0 : BfW P w P1 P2 ks es H3 Wd kw1 (l0 :: lr) wl1 ba lv 0 (upd H' ba (.lst [])) kw1 [] := by
        obtain ⟨kvw, a, b⟩ := hW1.wd
        refine ⟨⟨fun c o e n => sB _ _ (hW1.kp c o e n), ⟨kvw, a.mono sB, b⟩, hW1.nd, hW1.way, hW1.iks, hW1.ends⟩, sB _ _ hwl, ⟨[], upd_same, .nil⟩, (fun k hk => by cases hk), rfl, hlk, fun k hk => ?_⟩
        rcases hcl1 k hk with h | h
        · exact .inr (.inl h)
        · exact .inr (.inr h)
      have hlv' := hlv.mono (Tups.same sB)
      have tpb : Tups H3 (upd H' ba (.lst [])) := tps b0.W.kp
      refine for_list (xs := lv) (fun i σ H' => ∃ kw be y3 y4 y9, σ = [some (.ref D), some (.ref l), some (.ref A), y3, y4, some (.ref Wd), y6, some (.ref wl1), some (.ref ba), y9] ∧ BfW P w P1 P2 ks es H3 Wd kw1 (l0 :: lr) wl1 ba lv i H' kw be ∧ TDs H' lv ((l0 :: lr).map sitD)) ?_ ?_ ?_ ?_
      · exact ⟨kw1, [], y3', y4', y9, rfl, b0, hlv'⟩
      · rintro i σ H5 _ ⟨kw, be, y3, y4, y9, rfl, hB, _⟩
        exact SqL.of hB.wl
      · rintro i tv σ H5 htv ⟨kw, be, y3, y4, y9, rfl, hB, hl5⟩
        have hi : i < (l0 :: lr).length := by
          have := (List.getElem?_eq_some_iff.mp htv).1
          omega
        obtain ⟨d, hd, htd⟩ := hl5.get htv
        rw [List.getElem?_map, List.getElem?_eq_getElem hi] at hd
        obtain rfl := (Option.some.inj hd)
        have hdr : (l0 :: lr).drop i = (l0 :: lr)[i] :: (l0 :: lr).drop (i + 1) := List.drop_eq_getElem_cons hi
        have hti : (l0 :: lr)[i] ∈ l0 :: lr := List.getElem_mem hi
        generalize (l0 :: lr)[i] = t at htd hdr hti
        obtain ⟨bm, hbm⟩ := mem_at (by rw [hA3.ke]; exact hlk' t hti)
        obtain ⟨xs, hxs, hxt⟩ := hA3.ls _ hbm
        have bmW : bm ≠ Wd := fun e => by
          obtain ⟨kvw, a, _⟩ := hW.wd
          obtain ⟨φ, eA⟩ := a.some
          rw [← e, hxs] at eA
          cases eA
        have hA5 : ArW P w H5 A ks kas (prA P1 P2 ks) := hA3.keep (tps hB.W.kp) (fun o e => hB.W.kp _ _ e nWA.symm) (fun c ys e => hB.W.kp _ _ e fun z => by
          obtain ⟨kvw, a, _⟩ := hW.wd
          obtain ⟨φ, eA⟩ := a.some
          rw [z, eA] at e
          cases e)
        obtain ⟨⟨kva, hNA, hPA⟩, _⟩ := id hA5
        have hval : valV kva (sitK t) = some (.ref bm) := ArP.val hPA (by rw [hA5.ke]; exact nd) hbm
        have lxs : xs.length = ((prA P1 P2 ks).filter fun y => decide (y.2.2.2 = t)).length := by
          have := hxt.len
          rwa [List.length_map] at this
        have hF : ∀ m ∈ ((prA P1 P2 ks).filter fun y => decide (y.2.2.2 = t)), m.1 ∈ ks ∧ m.2 ∈ stepsM P1 P2 m.1 ∧ m.2.2.2 = t := fun m hm => by
          have := List.mem_filter.mp hm
          exact ⟨(prA_mem.mp this.1).1, (prA_mem.mp this.1).2, of_decide_eq_true this.2⟩
        have hF2 : ∀ m ∈ prA P1 P2 ks, m.2.2.2 = t → m ∈ ((prA P1 P2 ks).filter fun y => decide (y.2.2.2 = t)) := fun m hm e => List.mem_filter.mpr ⟨hm, decide_eq_true e⟩
        generalize ((prA P1 P2 ks).filter fun y => decide (y.2.2.2 = t)) = F at hxt lxs hF hF2
        refine ⟨.ref A, rfl, tv, rfl, A, sitK t, kva, .ref bm, rfl, sit_key htd, hNA, hval, bm, rfl, ⟨xs, SqL.of (hB.W.kp _ _ hxs bmW)⟩, ?_⟩
        refine for_list (xs := xs) (fun j σ H' => ∃ kw be y3 y4, σ = [some (.ref D), some (.ref l), some (.ref A), y3, y4, some (.ref Wd), y6, some (.ref wl1), some (.ref ba), some tv] ∧ BfW P w P1 P2 ks es H3 Wd kw1 (l0 :: lr) wl1 ba lv i H' kw be ∧ TDs H' lv ((l0 :: lr).map sitD) ∧ ∀ m ∈ F.take j, m.1 ∈ kw) ?_ ?_ ?_ ?_
        · exact ⟨kw, be, y3, y4, rfl, hB, hl5, (fun m hm => by cases hm)⟩
        · rintro j σ H6 _ ⟨kw, be, y3, y4, rfl, hB, _⟩
          exact SqL.of (hB.W.kp _ _ hxs bmW)
        · rintro j xv σ H6 hxv ⟨kw, be, y3, y4, rfl, hB6, hl6, hdone⟩
          have hj : j < F.length := by
            have := (List.getElem?_eq_some_iff.mp hxv).1
            omega
          obtain ⟨d, hd, hvd0⟩ := hxt.get hxv
          rw [List.getElem?_map, List.getElem?_eq_getElem hj] at hd
          obtain rfl := (Option.some.inj hd)
          have hvd := TD.mono (tps hB6.W.kp) _ hvd0
          have hFj := hF _ (List.getElem_mem hj)
          have htk : F.take (j + 1) = F.take j ++ [F[j]] := by
            rw [List.take_add_one, List.getElem?_eq_getElem hj]
            rfl
          generalize F[j] = M at hvd hFj htk
          obtain ⟨ta, us, rfl, hta, hus⟩ := hvd.isTup
          cases hus with
          | @cons u1 d1 us1 ds1 g1 gr =>
            cases gr with
            | @cons u2 d2 us2 ds2 g2 gr =>
              cases gr
              obtain ⟨kvw, hNW, hKW⟩ := hB6.W.wd
              refine ⟨ta, _, rfl, SqT.of hta, rfl, u1, [u2], rfl, u2, [], rfl, rfl, ?_⟩
              refine ⟨u1, rfl, .ref Wd, rfl, Wd, sitK M.1, kvw, rfl, sit_key g1, hNW, ?_⟩
              rw [keys_val hKW]
              by_cases hk : M.1 ∈ kw
              · rw [decide_eq_true hk]
                refine ⟨false, rfl, iteF ?_⟩
                refine ⟨kw, be, some u1, some u2, rfl, hB6, hl6, fun m hm => ?_⟩
                rw [htk] at hm
                rcases List.mem_append.mp hm with h | h
                · exact hdone m h
                · rw [List.mem_singleton.mp h]
                  exact hk
              · rw [decide_eq_false hk]
                refine ⟨true, rfl, iteT ?_⟩
                have lkw : kw.length ≤ ks.length := nodup_le hB6.W.nd hB6.W.iks
                refine ⟨u2, rfl, .ref Wd, rfl, u1, rfl, Wd, sitK M.1, kvw, rfl, sit_key g1, hNW, by rw [keys_len hKW]; omega, fun H7 k7 n7 => ?_⟩
                obtain ⟨bv, hbv, hbt⟩ := hB6.bf
                obtain ⟨φ, eW⟩ := hNW.some
                have tp7 : Tups H6 H7 := fun c ys e => by
                  rw [k7 c (fun z => by rw [z, eW] at e; cases e)]
                  exact e
                have hbv7 : H7 ba = some (.lst bv) := by rw [k7 ba nbW]; exact hbv
                have tp8 := Tups.lst (o := .lst (bv ++ [u1])) hbv7
                have lbv : bv.length = be.length := by
                  have := hbt.len
                  rwa [List.length_map] at this
                have hway : WayTo P1 P2 ks es M.1 := .step hFj.1 hFj.2.1 (by rw [hFj.2.2]; exact hB6.W.way t (hB6.lin t hti))
                have hkw' : ∀ x, x ∈ addS kw M.1 ↔ x ∈ kw ∨ x = M.1 := fun x => addS_mem
                have ladd : (addS kw M.1).length = kw.length + 1 := by
                  unfold addS
                  rw [if_neg hk, List.length_append]
                  rfl
                have hlen := hB6.len
                refine ⟨.ref ba, rfl, .inl ⟨rfl, _, SqL.of hbv7⟩, u1, rfl, ba, bv, u1, rfl, rfl, hbv7, by omega, addS kw M.1, be ++ [M.1], some u1, some u2, rfl, ⟨⟨fun c o e n => ?_, ⟨_, n7.keep tp8 fun o e => by rw [upd_ne nbW.symm]; exact e, addS_keys hKW _ _⟩, addS_nd hB6.W.nd _, fun k hk => ?_, fun k hk => ?_, fun e he => (hkw' e).mpr (.inl (hB6.W.ends e he))⟩, ?_, ⟨bv ++ [u1], upd_same, ?_⟩, fun k hk => ?_, ?_, fun k hk => (hkw' k).mpr (.inl (hB6.lin k hk)), fun k hk => ?_⟩, ?_, fun m hm => ?_⟩
                · rw [upd_ne (fun z => by rw [z, nb3] at e; cases e), k7 c n]
                  exact hB6.W.kp c o e n
                · rcases (hkw' k).mp hk with h | rfl
                  · exact hB6.W.way k h
                  · exact hway
                · rcases (hkw' k).mp hk with h | rfl
                  · exact hB6.W.iks k h
                  · exact hFj.1
                · rw [upd_ne nbl.symm, k7 wl1 nl1]
                  exact hB6.wl
                · rw [List.map_append]
                  exact tds_snoc ((hbt.mono tp7).mono tp8) (TD.mono tp8 _ (TD.mono tp7 _ g1))
                · rcases List.mem_append.mp hk with h | h
                  · exact (hkw' k).mpr (.inl (hB6.sub k h))
                  · exact (hkw' k).mpr (.inr (List.mem_singleton.mp h))
                · rw [ladd, List.length_append, List.length_singleton]
                  omega
                · rcases (hkw' k).mp hk with h | rfl
                  · rcases hB6.cl k h with h | h | h
                    · exact .inl (List.mem_append.mpr (.inl h))
                    · exact .inr (.inl h)
                    · exact .inr (.inr fun m hm e => (hkw' _).mpr (.inl (h m hm e)))
                  · exact .inl (List.mem_append.mpr (.inr List.mem_cons_self))
                · exact (hl6.mono tp7).mono tp8
                · rw [htk] at hm
                  rcases List.mem_append.mp hm with h | h
                  · exact (hkw' _).mpr (.inl (hdone m h))
                  · exact (hkw' _).mpr (.inr (by rw [List.mem_singleton.mp h]))
        · rintro σ H6 ⟨kw, be, y3, y4, rfl, hB6, hl6, hdone⟩
          rw [lxs, List.take_length] at hdone
          refine ⟨kw, be, y3, y4, some tv, rfl, ⟨hB6.W, hB6.wl, hB6.bf, hB6.sub, hB6.len, hB6.lin, fun k hk => ?_⟩, hl6⟩
          rcases hB6.cl k hk with h | h | h
          · exact .inl h
          · rw [hdr] at h
            rcases List.mem_cons.mp h with rfl | h
            · exact .inr (.inr fun m hm e => hdone m (hF2 m hm e))
            · exact .inr (.inl h)
          · exact .inr (.inr h)
      · rintro σ H5 ⟨kw, be, y3, y4, y9, rfl, hB, hl5⟩
        rw [llv] at hB
        obtain ⟨bv, hbv, hbt⟩ := hB.bf
        have hlen := hB.len
        have lkw : kw.length ≤ ks.length := nodup_le hB.W.nd hB.W.iks
        refine ⟨.ref ba, rfl, (ks.length - kw.length) * 2 + (if be = [] then 0 else 1), ?_, kw, be, ba, y3, y4, y6, _, y9, rfl, rfl, hB.W, nbW, hB.sub, ⟨bv, hbv, hbt⟩, fun k hk => ?_⟩
        · have e1 : (if l0 :: lr = [] then 0 else 1) = 1 := if_neg (fun z => by cases z)
          rw [hm, e1]
          by_cases hbe : be = []
          · rw [if_pos hbe]
            rw [hbe] at hlen
            have : kw.length = kw1.length := hlen
            omega
          · rw [if_neg hbe]
            have := List.length_pos_iff.mpr hbe
            omega
        · rcases hB.cl k hk with h | h | h
          · exact .inl h
          · rw [List.drop_length] at h
            cases h
          · exact .inr h
end

/-! ### what leads to unlike verdicts -/
def unl (P1 P2 : Plan) (s : Sit) : Bool := !decide (verAt P1.kinds s.1 = verAt P2.kinds s.2.1)
def Ul (P1 P2 : Plan) (k : Sit) : Prop := ∃ s, Rch P1 P2 [k] s ∧ unl P1 P2 s = true
theorem Rch.trans {P1 P2 : Plan} {ss : List Sit} {k s : Sit} (h : Rch P1 P2 ss k) (r : Rch P1 P2 [k] s) : Rch P1 P2 ss s := by
  induction r with
  | base hs =>
    rw [List.mem_singleton.mp hs]
    exact h
  | step _ hx ih => exact .step ih hx
theorem way_ul {P1 P2 : Plan} {ss ks : List Sit} (hk : ∀ k, k ∈ ks ↔ Rch P1 P2 ss k) (k : Sit) : WayTo P1 P2 ks (ks.filter (unl P1 P2)) k ↔ Rch P1 P2 ss k ∧ Ul P1 P2 k := by
  constructor
  · intro h
    induction h with
    | base h =>
      have := List.mem_filter.mp h
      exact ⟨(hk _).mp this.1, _, .base List.mem_cons_self, this.2⟩
    | @step s x h1 h2 _ ih =>
      obtain ⟨s', r, u⟩ := ih.2
      refine ⟨(hk _).mp h1, s', ?_, u⟩
      exact Rch.trans (.step (.base List.mem_cons_self) h2) r
  · rintro ⟨h, s, r, u⟩
    have key : ∀ s, Rch P1 P2 [k] s → WayTo P1 P2 ks (ks.filter (unl P1 P2)) s → WayTo P1 P2 ks (ks.filter (unl P1 P2)) k := by
      intro s r
      induction r with
      | base hs =>
        rw [List.mem_singleton.mp hs]
        exact id
      | @step s x hs hx ih => exact fun z => ih (.step ((hk _).mpr (h.trans hs)) hx z)
    exact key s r (.base (List.mem_filter.mpr ⟨(hk _).mpr (h.trans r), u⟩))
def sp_ways_to_sought (P : Program) (w : World) (K : PySem.W.Frag) (C : Addr) : Sp := fun us H Q _ => ∃ (t l c : Addr) (vs : List V) (a b : WA) (P1 P2 : Plan) (ss S : List Sit), us = [.ref t, .ref l, .ref c] ∧ PairAt K C H t a b P1 P2 ∧ H l = some (.lst vs) ∧ TDs H vs (ss.map sitD) ∧ (∀ s ∈ ss, SitIn P1 P2 s) ∧ ss.length ≤ 1000 ∧
  (∀ k, Rch P1 P2 ss k → k ∈ S) ∧ S.length ≤ 100000 ∧ H c = some (.tup [.str "alike"]) ∧
  ∀ (W : Addr) (kw : List Sit) (kvw : List (NestedKey × V)) H', Same H H' → NDict P w H' W kvw → kvw.map (·.1) = kw.map sitK → (∀ k, k ∈ kw ↔ Rch P1 P2 ss k ∧ Ul P1 P2 k) → Q (.ref W) H'
def sp_ways_to_unlike (P : Program) (w : World) (C : Addr) : Sp := fun us H Q _ => ∃ (x lv lh d l : Addr) (vs : List V) (PL : Plan) (ss S : List Sit), us = [.ref x, .ref l] ∧ WP C H x lv lh d PL ∧ H l = some (.lst vs) ∧ TDs H vs (ss.map sitD) ∧ (∀ s ∈ ss, SitIn PL PL s) ∧ ss.length ≤ 1000 ∧
  (∀ k, Rch PL PL ss k → k ∈ S) ∧ S.length ≤ 100000 ∧
  ∀ (W : Addr) (kw : List Sit) (kvw : List (NestedKey × V)) H', Same H H' → NDict P w H' W kvw → kvw.map (·.1) = kw.map sitK → (∀ k, k ∈ kw ↔ Rch PL PL ss k ∧ Ul PL PL k) → Q (.ref W) H'
section
variable {P : Program} {w : World} {K : PySem.W.Frag} {mg : Str → Option Value} {base : Heap}
abbrev N_ways_to_sought : List Str := ["watchers", "situations", "claim", "steps", "here"]
theorem sc_ways_to_sought : FnScope N_ways_to_sought ["watchers", "situations", "claim"] (defScope s_ways_to_sought) := ⟨rfl, rfl, rfl, by decide +kernel, rfl, by decide +kernel, by decide +kernel⟩
theorem G_ways_to_sought (T : Tx K mg) : FnG P w K mg base CX0 6 T.ways_to_sought.f T.ways_to_sought.fd ["watchers", "situations", "claim"] (sp_ways_to_sought P w K T.Watcher.C) := by
  refine okG T.ways_to_sought.F sc_ways_to_sought (fun vs H Q E h => ?_) (fun cdv A outer s H vs Q E gd hr h => ?_)
  · obtain ⟨t, l, c, vs, a, b, P1, P2, ss, S, rfl, _⟩ := h
    rfl
  · obtain ⟨t, l, c, vs, a, b, P1, P2, ss, S, rfl, hp, hl, hvs, hin, lss, hS, lS, hc, q⟩ := h
    refine ⟨_, 
      (C8.pss_cut (ps_set (i := 3) sc_ways_to_sought.nd rfl (.inl rfl) (pe_callG (G_steps_among T) gd (hr.mono (by decide)) rfl T.steps_among.g T.steps_among.F.kp T.steps_among.b .nil pass0 (pa_cons (pv 0) (pa_cons (pv 1) pa_nil)))) -- steps = steps_among(watchers, situations)
      (pss_one (ps_ret (pe_callG (G_ways_to T) gd (hr.mono (by decide)) rfl T.ways_to.g T.ways_to.F.kp T.ways_to.b .nil pass0 (pa_cons (pv 3) (pa_cons (pe_lock (pe_lc (own := [("here", 4)]) (g := gName 4) rfl sc_ways_to_sought.nd (pi_keysN (pv 3)) (blkOk_by (N := N_ways_to_sought) (sc := defScope s_ways_to_sought) (by decide +kernel)) (fun _ _ _ _ _ => (pg_name (i := 4) sc_ways_to_sought.nd rfl (.inl rfl))) (fun _ _ _ _ _ => (pts_one (pt_val (pe_callG (G_are_sought T) gd (hr.mono (by decide)) rfl T.are_sought.g T.are_sought.F.kp T.are_sought.b .nil pass0 (pa_cons (pv 2) (pa_cons (pe_callG (G_verdicts_at T) gd (hr.mono (by decide)) rfl T.verdicts_at.g T.verdicts_at.F.kp T.verdicts_at.b .nil pass0 (pa_cons (pv 0) (pa_cons (pv 4) pa_nil))) pa_nil)))))) (fun _ _ _ _ _ => (pv 4)))) pa_nil))))) -- return ways_to(steps, [here for here in steps if are_sought(claim, verdicts_at(watchers, here))])
      ) , ?_⟩
    have L5 : 4000000 ≤ sizeLine := by decide
    refine ⟨fun σ H' => ∃ D ks, σ = [some (.ref t), some (.ref l), some (.ref c), some (.ref D), none] ∧ Same H H' ∧ H D = none ∧ StD P w P1 P2 H' D ks ∧ ks.Nodup ∧ ∀ k, k ∈ ks ↔ Rch P1 P2 ss k, ?_, ?_⟩
    · clear q
      exact ⟨.ref t, rfl, .ref l, rfl, t, l, vs, a, b, P1, P2, ss, S, rfl, hp, hl, hvs, hin, lss, hS, lS, fun D ks H' s1 nD hD nd hk => ⟨D, ks, rfl, s1, nD, hD, nd, hk⟩⟩
    rintro σ H1 ⟨D, ks, rfl, s1, nD, ⟨kvs, z, hND, hSR⟩, nd, hk⟩
    obtain ⟨rs, eD, rel⟩ := hND
    have lrs : rs.length = ks.length := by rw [← Paired.length rel, Paired.length hSR]
    have lks : ks.length ≤ 100000 := Nat.le_trans (nodup_le nd fun k hk' => hS k ((hk k).mp hk')) lS
    have hkin : ∀ k ∈ ks, SitIn P1 P2 k := fun k h => ((hk k).mp h).in_ hp.w1.ok hp.w2.ok hin
    refine ⟨.ref D, rfl, D, _, eD, trivial, fun od => ?_⟩
    have hD1 : (upd H1 D (.frz od (NO P w D rs))) D = some (.frz od (NO P w D rs)) := upd_same
    have off : ∀ c, c ≠ D → (upd H1 D (.frz od (NO P w D rs))) c = H1 c := fun c n => upd_ne n
    have tpL : Tups H1 (upd H1 D (.frz od (NO P w D rs))) := Tups.put eD (fun _ z => nomatch z)
    have sL : Same H (upd H1 D (.frz od (NO P w D rs))) := same_at s1 nD
    generalize upd H1 D (.frz od (NO P w D rs)) = HL at hD1 off tpL sL
    refine ⟨.ref D, rfl, D, od, rs, rfl, hD1, fun L nL => ?_⟩
    refine lc_it walk_keysN (fun i H' => Same HL H' ∧ ∃ xs, H' L = some (.lst xs) ∧ TDs H' xs (((ks.take i).filter (unl P1 P2)).map sitD)) ?_ ?_ ?_ ?_
    · exact ⟨same_at (Same.refl _) nL, [], upd_same, .nil⟩
    · exact fun i H' _ h => h.1 _ _ hD1
    · rintro i x H2 H3 hi ⟨s2, xs, hL, hxs⟩ ⟨rfl, r, hr, rfl⟩
      obtain ⟨k, hki, nk⟩ := row_key rel hSR hr
      have hkm : k ∈ ks := List.mem_of_getElem? hki
      have nk2 := ((nk.mono tpL).mono (Tups.same s2)).2.1
      rw [sitK_D] at nk2
      have s02 := sL.trans s2
      refine ⟨rfl, .ref c, rfl, .ref t, rfl, .ref r.2.1, rfl, t, .ref r.2.1, a, b, P1, P2, k, rfl, hp.mono s02, nk2, hkin k hkm, fun rv H4 s4 hrv => ⟨c, rv, _, _, rfl, s4 _ _ (s02 _ _ hc), hrv, ?_⟩⟩
      have htk : ks.take (i + 1) = ks.take i ++ [k] := by
        rw [List.take_add_one, hki]
        rfl
      refine ⟨_, rfl, ?_⟩
      rw [htk, List.filter_append]
      have hL4 := s4 _ _ hL
      by_cases hu : unl P1 P2 k = true
      · have e1 : (!decide (verAt P1.kinds k.1 = verAt P2.kinds k.2.1)) = true := hu
        rw [e1, List.filter_cons, if_pos hu, List.filter_nil, List.map_append]
        refine iteT ?_
        have tp := Tups.lst (o := .lst (xs ++ [.ref r.2.1])) hL4
        refine ⟨.ref r.2.1, rfl, xs, hL4, ?_, same_at (s2.trans s4) nL, _, upd_same, ?_⟩
        · have h1 := hxs.len
          rw [List.length_map] at h1
          have h2 := List.length_filter_le (unl P1 P2) (ks.take i)
          have h3 : (ks.take i).length ≤ ks.length := by
            rw [List.length_take]
            omega
          omega
        · exact tds_snoc ((hxs.mono (Tups.same s4)).mono tp) (TD.mono tp _ (TD.mono (Tups.same s4) _ nk2))
      · have e1 : (!decide (verAt P1.kinds k.1 = verAt P2.kinds k.2.1)) = false := by simpa [unl] using hu
        rw [e1, List.filter_cons, if_neg hu, List.filter_nil, List.append_nil]
        refine iteF ?_
        exact ⟨s2.trans s4, xs, hL4, hxs.mono (Tups.same s4)⟩
    · rintro H2 ⟨s2, xs, hL, hxs⟩
      rw [lrs, List.take_length] at hxs
      have hD2 := s2 _ _ hD1
      refine ⟨hD2, ?_⟩
      have sF : Same H1 (upd H2 D (NO P w D rs)) := fun c o e => by
        by_cases hcD : c = D
        · subst hcD
          rw [eD] at e
          rw [upd_same]
          exact e
        · rw [upd_ne hcD]
          exact s2 _ _ (by rw [off c hcD]; exact e)
      have tp2 : Tups H2 (upd H2 D (NO P w D rs)) := Tups.put hD2 (fun _ z => nomatch z)
      have nLD : L ≠ D := fun e => by rw [e, hD1] at nL; cases nL
      refine ⟨D, L, P1, P2, ks, ks.filter (unl P1 P2), xs, rfl, ⟨kvs, z, ⟨rs, sF _ _ eD, rel.mono (Tups.same sF)⟩, hSR.but (fun c ys _ e => sF _ _ e) (Tups.same sF)⟩, nd, hp.w1.ok, hp.w2.ok, hkin, fun k h x hx => (hk _).mpr (.step ((hk k).mp h) hx), lks, by rw [upd_ne nLD]; exact hL, hxs.mono tp2, fun e he => (List.mem_filter.mp he).1, Nat.le_trans (List.length_filter_le _ _) lks, fun W kw kvw H' s5 h1 h2 h3 => q W kw kvw H' ((s1.trans sF).trans s5) h1 h2 fun k => (h3 k).trans (way_ul hk k)⟩
abbrev N_ways_to_unlike : List Str := ["watcher", "situations"]
theorem sc_ways_to_unlike : FnScope N_ways_to_unlike ["watcher", "situations"] (defScope s_ways_to_unlike) := ⟨rfl, rfl, rfl, by decide +kernel, rfl, by decide +kernel, by decide +kernel⟩
theorem G_ways_to_unlike (T : Tx K mg) : FnG P w K mg base CX0 7 T.ways_to_unlike.f T.ways_to_unlike.fd ["watcher", "situations"] (sp_ways_to_unlike P w T.Watcher.C) := by
  refine okG T.ways_to_unlike.F sc_ways_to_unlike (fun vs H Q E h => ?_) (fun cdv A outer s H vs Q E gd hr h => ?_)
  · obtain ⟨x, lv, lh, d, l, vs, PL, ss, S, rfl, _⟩ := h
    rfl
  · obtain ⟨x, lv, lh, d, l, vs, PL, ss, S, rfl, hw, hl, hvs, hin, lss, hS, lS, q⟩ := h
    refine ⟨_, 
      (pss_one (ps_ret (pe_callG (G_ways_to_sought T) gd (hr.mono (by decide)) rfl T.ways_to_sought.g T.ways_to_sought.F.kp T.ways_to_sought.b .nil pass0 (pa_cons (pe_tup (pa_cons (pv 0) (pa_cons (pv 0) pa_nil))) (pa_cons (pv 1) (pa_cons (pe_tup (pa_cons (pe_glob (v := .str "alike") rfl T.g_ALIKE ⟨_, rfl⟩) pa_nil)) pa_nil)))))) -- return ways_to_sought((watcher, watcher), situations, (ALIKE,))
       , ?_⟩
    refine ⟨.ref x, rfl, .ref x, rfl, by show 2 ≤ sizeLine; decide, fun t nt => ⟨.ref l, rfl, by show 1 ≤ sizeLine; decide, fun c nc => ?_⟩⟩
    have s1 := same_new (o := .tup [.ref x, .ref x]) nt
    have s2 := same_new (o := .tup [.str "alike"]) nc
    have s12 := s1.trans s2
    refine ⟨t, l, c, vs, ⟨x, lv, lh, d⟩, ⟨x, lv, lh, d⟩, PL, PL, ss, S, rfl, ⟨SqT.of (s2 _ _ upd_same), hw.mono s12, hw.mono s12⟩, s12 _ _ hl, hvs.mono (Tups.same s12), hin, lss, hS, lS, upd_same, fun W kw kvw H' s3 h1 h2 h3 => q W kw kvw H' (s12.trans s3) h1 h2 h3⟩
end

/-! ### the needed places -/
def opts (i : Nat) : List (Option (Int × Int)) := [none, some ((i : Int), 0), some ((i : Int), 1), some ((i : Int), 2)]
def pairsAll : List (List (Int × Int)) := (opts 0).flatMap fun a => (opts 1).flatMap fun b => (opts 2).map fun c => [a, b, c].filterMap id
def allS : List Sit := (List.range 6).flatMap fun p : Nat => (List.range 6).flatMap fun q : Nat => pairsAll.map fun ps => ((p : Int), (q : Int), ps)
theorem allS_len : allS.length ≤ 100000 := by decide +kernel
theorem pairs_all (h : Nat → Option (Int × Int)) {n : Nat} (hn : n ≤ 3) (ho : ∀ i, i < n → h i ∈ opts i) : (List.range n).filterMap h ∈ pairsAll := by
  have key : ∀ a b c, a ∈ opts 0 → b ∈ opts 1 → c ∈ opts 2 → [a, b, c].filterMap id ∈ pairsAll := fun a b c ha hb hc =>
    List.mem_flatMap.mpr ⟨a, ha, List.mem_flatMap.mpr ⟨b, hb, List.mem_map.mpr ⟨c, hc, rfl⟩⟩⟩
  have n0 : (none : Option (Int × Int)) ∈ opts 0 := List.mem_cons_self
  have n1 : (none : Option (Int × Int)) ∈ opts 1 := List.mem_cons_self
  have n2 : (none : Option (Int × Int)) ∈ opts 2 := List.mem_cons_self
  match n, hn with
  | 0, _ => exact key none none none n0 n1 n2
  | 1, _ =>
    have e : (List.range 1).filterMap h = [h 0, none, none].filterMap id := by
      show [0].filterMap h = _
      cases e : h 0 <;> simp [e]
    rw [e]
    exact key _ _ _ (ho 0 (by omega)) n1 n2
  | 2, _ =>
    have e : (List.range 2).filterMap h = [h 0, h 1, none].filterMap id := by
      show [0, 1].filterMap h = _
      cases e : h 0 <;> cases e1 : h 1 <;> simp [e, e1]
    rw [e]
    exact key _ _ _ (ho 0 (by omega)) (ho 1 (by omega)) n2
  | 3, _ =>
    have e : (List.range 3).filterMap h = [h 0, h 1, h 2].filterMap id := by
      show [0, 1, 2].filterMap h = _
      cases e : h 0 <;> cases e1 : h 1 <;> cases e2 : h 2 <;> simp [e, e1, e2]
    rw [e]
    exact key _ _ _ (ho 0 (by omega)) (ho 1 (by omega)) (ho 2 (by omega))
theorem opts_mem {i j : Nat} (h : j < 3) : some ((i : Int), (j : Int)) ∈ opts i := by
  unfold opts
  match j, h with
  | 0, _ => simp
  | 1, _ => simp
  | 2, _ => simp
theorem allS_mem {s : Sit} (p0 : 0 ≤ s.1) (p1 : s.1 < 6) (q0 : 0 ≤ s.2.1) (q1 : s.2.1 < 6) (h : s.2.2 ∈ pairsAll) : s ∈ allS := by
  refine List.mem_flatMap.mpr ⟨s.1.toNat, List.mem_range.mpr (by omega), List.mem_flatMap.mpr ⟨s.2.1.toNat, List.mem_range.mpr (by omega), List.mem_map.mpr ⟨s.2.2, h, ?_⟩⟩⟩
  have e1 : ((s.1.toNat : Nat) : Int) = s.1 := by omega
  have e2 : ((s.2.1.toNat : Nat) : Int) = s.2.1 := by omega
  rw [e1, e2]
theorem eqM_all {f g : List Int} (hf : f.length ≤ 3) (hg : g.length ≤ 3) : eqM f g ∈ pairsAll := by
  unfold eqM eqF
  refine pairs_all _ hf fun i hi => ?_
  rw [List.getElem?_eq_getElem hi, Option.bind_some]
  by_cases hv : f[i] ∈ g
  · rw [if_pos hv]
    refine opts_mem ?_
    have := List.idxOf_lt_length_iff.mpr hv
    omega
  · rw [if_neg hv]
    exact List.mem_cons_self
theorem othF_all {n : Nat} (hn : n ≤ 3) (i : Int) : othF n i ∈ pairsAll := by
  unfold othF
  refine pairs_all _ hn fun j hj => ?_
  by_cases h : (j : Int) = i
  · rw [if_pos h]
    exact List.mem_cons_self
  · rw [if_neg h]
    exact opts_mem (by omega)
theorem rch_all {P1 P2 : Plan} {ss : List Sit} (o1 : PlanOk P1) (o2 : PlanOk P2) (h : ∀ s ∈ ss, SitIn P1 P2 s) (hs : ∀ s ∈ ss, s ∈ allS) {k : Sit} (r : Rch P1 P2 ss k) : k ∈ allS := by
  have hin := r.in_ o1 o2 h
  have l1 := o1.k.len
  have l2 := o2.k.len
  have a0 := hin.p0
  have a1 := hin.p1
  have a2 := hin.q0
  have a3 := hin.q1
  cases r with
  | base hb => exact hs _ hb
  | @step s x r hx =>
    refine allS_mem (by omega) (by omega) (by omega) (by omega) ?_
    obtain ⟨w, _, hx⟩ := List.mem_flatMap.mp hx
    obtain ⟨c, _, rfl⟩ := List.mem_map.mp hx
    obtain ⟨b1, b2⟩ := heldM_ok o1 o2 (r.in_ o1 o2 h)
    have c1 := step_ok o1.r b1 ((w : Int), valueM c (heldM P1 P2 s).1 (heldM P1 P2 s).2)
    have c2 := step_ok o2.r b2 ((w : Int), valueM c (heldM P1 P2 s).1 (heldM P1 P2 s).2)
    have d1 := held_bd o1.k c1.lo c1.hi
    have d2 := held_bd o2.k c2.lo c2.hi
    have e1 := c1.len
    have e2 := c2.len
    exact eqM_all (by omega) (by omega)
noncomputable def need (P : Plan) (p i : Int) : Bool := @decide (Ul P P (otherS P.kinds p i)) (Classical.propDecidable _)
noncomputable def rowM (P : Plan) (p : Nat) : List Int := ((List.range (heldAt P.kinds (p : Int)).toNat).map fun i : Nat => (i : Int)).filter (need P (p : Int))
noncomputable def neededM (P : Plan) : List (List Int) := (List.range P.kinds.length).map (rowM P)
noncomputable def neededD (P : Plan) : PyData := .tuple ((neededM P).map fun r => .tuple (r.map .int))
/-- row p of these places -/
noncomputable def rowJ (P : Plan) (ms : List (Int × Int)) (p : Nat) : List Int := (ms.filter fun m => decide (m.1 = (p : Int)) && need P m.1 m.2).map (·.2)
theorem rowJ_snoc (P : Plan) (ms : List (Int × Int)) (m : Int × Int) (p : Nat) : rowJ P (ms ++ [m]) p = rowJ P ms p ++ (if (decide (m.1 = (p : Int)) && need P m.1 m.2) = true then [m.2] else []) := by
  unfold rowJ
  rw [List.filter_append, List.map_append, List.filter_cons, List.filter_nil]
  congr 1
  split <;> rfl
theorem rowJ_plW (P : Plan) (p' p n : Nat) : rowJ P (plW P.kinds p' n) p = if p' = p then ((List.range n).map fun i : Nat => (i : Int)).filter (need P (p : Int)) else [] := by
  induction n with
  | zero => simp [plW, rowJ]
  | succ n ih =>
    rw [plW_succ, rowJ_snoc, ih]
    by_cases h : p' = p
    · subst h
      rw [if_pos rfl, if_pos rfl, List.range_succ, List.map_append, List.filter_append]
      congr 1
      by_cases hn : need P (p' : Int) (n : Int) = true
      · simp [hn]
      · simp [hn]
    · have : ¬ (p' : Int) = (p : Int) := by omega
      rw [if_neg h, if_neg h]
      simp [this]
theorem rowJ_all (P : Plan) (p : Nat) : ∀ n : Nat, rowJ P ((List.range n).flatMap fun p : Nat => plW P.kinds p (heldAt P.kinds (p : Int)).toNat) p = if p < n then rowM P p else []
  | 0 => by simp [rowJ]
  | n + 1 => by
    have ih := rowJ_all P p n
    have e : rowJ P ((List.range (n + 1)).flatMap fun p : Nat => plW P.kinds p (heldAt P.kinds (p : Int)).toNat) p = rowJ P ((List.range n).flatMap fun p : Nat => plW P.kinds p (heldAt P.kinds (p : Int)).toNat) p ++ rowJ P (plW P.kinds n (heldAt P.kinds (n : Int)).toNat) p := by
      rw [List.range_succ, List.flatMap_append, List.flatMap_singleton]
      unfold rowJ
      rw [List.filter_append, List.map_append]
    rw [e, ih, rowJ_plW]
    by_cases h : n = p
    · subst h
      rw [if_neg (by omega), if_pos rfl, if_pos (by omega)]
      rfl
    · rw [if_neg h, List.append_nil]
      by_cases h2 : p < n
      · rw [if_pos h2, if_pos (by omega)]
      · rw [if_neg h2, if_neg (by omega)]
theorem placesM_in {P : Plan} (o : PlanOk P) {m : Int × Int} (h : m ∈ placesM P.kinds) : 0 ≤ m.1 ∧ m.1 < P.kinds.length ∧ 0 ≤ m.2 ∧ m.2 < heldAt P.kinds m.1 := by
  obtain ⟨p, hp, h⟩ := List.mem_flatMap.mp h
  obtain ⟨i, hi, rfl⟩ := List.mem_map.mp h
  have := List.mem_range.mp hp
  have := List.mem_range.mp hi
  dsimp only
  omega
theorem otherS_in {P : Plan} (o : PlanOk P) {p i : Int} (p0 : 0 ≤ p) (p1 : p < P.kinds.length) : SitIn P P (otherS P.kinds p i) ∧ otherS P.kinds p i ∈ allS := by
  have b := held_bd o.k p0 p1
  have l := o.k.len
  refine ⟨⟨p0, p1, p0, p1, ?_⟩, allS_mem p0 (by show p < 6; omega) p0 (by show p < 6; omega) (othF_all (by omega) i)⟩
  have := othF_len (heldAt P.kinds p).toNat i
  show (othF _ _).length ≤ 3
  omega
theorem otherS_ul {P : Plan} {p i : Int} : need P p i = true ↔ Ul P P (otherS P.kinds p i) := by
  unfold need
  exact @decide_eq_true_iff _ (Classical.propDecidable _)
/-- the tuple of needed places at r, its rows known -/
structure RowsAt (H : Hp) (r : Addr) (rs : List Addr) (PL : Plan) : Prop where
  at_ : H r = some (.tup (rs.map V.ref))
  len : rs.length = PL.kinds.length
  row : ∀ (p : Nat) (a : Addr), rs[p]? = some a → HT H a (rowM PL p)
theorem RowsAt.mono {H H' : Hp} {r : Addr} {rs : List Addr} {PL : Plan} (h : RowsAt H r rs PL) (s : Same H H') : RowsAt H' r rs PL := ⟨s _ _ h.at_, h.len, fun p a e => (h.row p a e).mono s⟩
def sp_needed_places (C : Addr) : Sp := fun us H Q _ => ∃ (x lv lh d : Addr) (PL : Plan), us = [.ref x] ∧ WP C H x lv lh d PL ∧ ∀ r rs H', Same H H' → H r = none → (∀ a ∈ rs, H a = none) → RowsAt H' r rs PL → Q (.ref r) H'
/-- the rows so far -/
structure RwW (PL : Plan) (H3 : Hp) (la : List Addr) (N : Addr) (ms : List (Int × Int)) (H : Hp) : Prop where
  kp : ∀ c o, H3 c = some o → c ∉ la → H c = some o
  rw_ : ∀ (p : Nat) (a : Addr), la[p]? = some a → H a = some (.lst ((rowJ PL ms p).map V.int))
section
variable {P : Program} {w : World} {K : PySem.W.Frag} {mg : Str → Option Value} {base : Heap}
theorem G_Watcher_lenX (T : Tx K mg) : FnG P w K mg base CX0 1 T.Watcher_len.f T.Watcher_len.fd ["self"] (sp_W_len T.Watcher.C) := G_Watcher_len T
abbrev N_needed_places : List Str := ["watcher", "places", "ways", "p", "i", "needed", "_", "row"]
theorem sc_needed_places : FnScope N_needed_places ["watcher"] (defScope s_needed_places) := ⟨rfl, rfl, rfl, by decide +kernel, rfl, by decide +kernel, by decide +kernel⟩
theorem G_needed_places (T : Tx K mg) : FnG P w K mg base CX0 8 T.needed_places.f T.needed_places.fd ["watcher"] (sp_needed_places T.Watcher.C) := by
  refine okG T.needed_places.F sc_needed_places (fun vs H Q E h => ?_) (fun cdv A outer s H vs Q E gd hr h => ?_)
  · obtain ⟨x, lv, lh, d, PL, rfl, _⟩ := h
    rfl
  · obtain ⟨x, lv, lh, d, PL, rfl, hw, q⟩ := h
    refine ⟨_, 
      (C8.pss_cut (ps_set (i := 1) sc_needed_places.nd rfl (.inl rfl) (pe_callG (G_all_places T) gd (hr.mono (by decide)) rfl T.all_places.g T.all_places.F.kp T.all_places.b .nil pass0 (pa_cons (pv 0) pa_nil))) -- places = all_places(watcher)
      (C8.pss_cut (ps_set (i := 2) sc_needed_places.nd rfl (.inl rfl) (pe_callG (G_ways_to_unlike T) gd (hr.mono (by decide)) rfl T.ways_to_unlike.g T.ways_to_unlike.F.kp T.ways_to_unlike.b .nil pass0 (pa_cons (pv 0) (pa_cons (pe_lc (own := [("p", 3), ("i", 4)]) (g := gTup K 2 (gCons (gName 3) (gCons (gName 4) gNil))) rfl sc_needed_places.nd (pi_list (pv 1)) (blkOk_by (N := N_needed_places) (sc := defScope s_needed_places) (by decide +kernel)) (fun _ _ _ _ _ => (pg_tup rfl (pgs_cons (pg_name (i := 3) sc_needed_places.nd rfl (.inl rfl)) (pgs_cons (pg_name (i := 4) sc_needed_places.nd rfl (.inl rfl)) pgs_nil)))) (fun _ _ _ _ _ => pts_nil) (fun _ _ _ _ _ => (pe_callG (G_other_value T) gd (hr.mono (by decide)) rfl T.other_value.g T.other_value.F.kp T.other_value.b .nil pass0 (pa_cons (pv 0) (pa_cons (pv 3) (pa_cons (pv 4) pa_nil)))))) pa_nil)))) -- ways = ways_to_unlike(watcher, [other_value(watcher, p, i) for p, i in places])
      (C8.pss_cut (ps_setLc (i := 5) (own := [("_", 6)]) (g := gName 6) rfl sc_needed_places.nd rfl rfl (by rfl) (pi_range1 rfl T.m_range (pa_cons (pe_callB (call_lenG T.Watcher_len.M.at_ T.tf_Watcher_len (G_Watcher_len T) gd (hr.mono (by decide)) T.Watcher_len.b) (by rfl) T.m_len PySem.boot_len (pa_cons (pv 0) pa_nil)) pa_nil)) (blkOk_by (N := N_needed_places) (sc := defScope s_needed_places) (by decide +kernel)) (fun _ _ _ _ _ => (pg_name (i := 6) sc_needed_places.nd rfl (.inl rfl))) (fun _ _ _ _ _ => pts_nil) (fun _ _ _ _ _ => (pe_lst pa_nil))) -- needed = [[] for _ in range(len(watcher))]
      (C8.pss_cut (ps_for PassesOwn.never rfl (pi_list (pv 1)) (pg_tup rfl (pgs_cons (pg_name (i := 3) sc_needed_places.nd rfl (.inl rfl)) (pgs_cons (pg_name (i := 4) sc_needed_places.nd rfl (.inl rfl)) pgs_nil))) 
        (pss_one (ps_if (pt_cmpR (op_inN hr.units) (pe_callG (G_other_value T) gd (hr.mono (by decide)) rfl T.other_value.g T.other_value.F.kp T.other_value.b .nil pass0 (pa_cons (pv 0) (pa_cons (pv 3) (pa_cons (pv 4) pa_nil)))) (pv 2) rfl) 
          (pss_one (ps_expr (pe_bm PySem.F.plainAttrs_list PySem.F.slot_list_append PySem.F.type_list_append mt_append (pe_ix ix_list (pv 5) (pv 3) (fun _ _ => rfl)) (pa_cons (pv 4) pa_nil)))) -- needed[p].append(i)
           pss_nil)) -- if other_value(watcher, p, i) in ways:
        ) -- for p, i in places:
      (pss_one (ps_ret (pe_callTy call_tuple_of (by rfl) T.m_tuple (by decide +kernel) (pa_cons (pe_lc (own := [("row", 7)]) (g := gName 7) rfl sc_needed_places.nd (pi_list (pv 5)) (blkOk_by (N := N_needed_places) (sc := defScope s_needed_places) (by decide +kernel)) (fun _ _ _ _ _ => (pg_name (i := 7) sc_needed_places.nd rfl (.inl rfl))) (fun _ _ _ _ _ => pts_nil) (fun _ _ _ _ _ => (pe_callTy (T := "tuple") (r := rTupF K) call_tupleF (by rfl) T.m_tuple (by decide +kernel) (pa_cons (pv 7) pa_nil)))) pa_nil)))) -- return tuple([tuple(row) for row in needed])
      )))) , ?_⟩
    have L5 : 4000000 ≤ sizeLine := by decide
    have hk6 := hw.ok.k.len
    have lpm : (placesM PL.kinds).length ≤ 3 * PL.kinds.length := plF_len hw.ok.k _ (Nat.le_refl _)
    refine ⟨fun σ H' => ∃ Lp xs, σ = [some (.ref x), some (.ref Lp), none, none, none, none, none, none] ∧ Same H H' ∧ H' Lp = some (.lst xs) ∧ TDs H' xs ((placesM PL.kinds).map pairD), ?_, ?_⟩
    · clear q
      exact ⟨.ref x, rfl, x, lv, lh, d, PL, rfl, hw, fun r xs H1 s1 _ h1 h2 => ⟨r, xs, rfl, s1, h1, h2⟩⟩
    rintro σ H1 ⟨Lp, xs, rfl, s1, hLp, hxs⟩
    have lxs : xs.length = (placesM PL.kinds).length := by
      have := hxs.len
      rwa [List.length_map] at this
    refine ⟨fun σ H' => ∃ (W : Addr) (kw : List Sit) (kvw : List (NestedKey × V)) (y3 y4 : Option V), σ = [some (.ref x), some (.ref Lp), some (.ref W), y3, y4, none, none, none] ∧ Same H1 H' ∧ NDict P w H' W kvw ∧ kvw.map (·.1) = kw.map sitK ∧ ∀ m ∈ placesM PL.kinds, otherS PL.kinds m.1 m.2 ∈ kw ↔ need PL m.1 m.2 = true, ?_, ?_⟩
    · clear q
      refine ⟨.ref x, rfl, .ref Lp, rfl, Lp, rfl, ⟨xs, SqL.of hLp⟩, fun D nD => ?_⟩
      refine lc_list (xs := xs) (fun i H' => Same H1 H' ∧ ∃ ys, H' D = some (.lst ys) ∧ TDs H' ys ((((placesM PL.kinds).take i).map fun m => otherS PL.kinds m.1 m.2).map sitD)) ?_ ?_ ?_ ?_
      · exact ⟨same_at (Same.refl _) nD, [], upd_same, .nil⟩
      · exact fun i H' _ h => SqL.of (h.1 _ _ hLp)
      · rintro i v H2 hv ⟨s2, ys, hD, hys⟩
        have hi : i < (placesM PL.kinds).length := by
          have := (List.getElem?_eq_some_iff.mp hv).1
          omega
        obtain ⟨dd, hd, hvd⟩ := hxs.get hv
        rw [List.getElem?_map, List.getElem?_eq_getElem hi] at hd
        obtain rfl := (Option.some.inj hd)
        have hm := placesM_in hw.ok (List.getElem_mem hi)
        have htk : (placesM PL.kinds).take (i + 1) = (placesM PL.kinds).take i ++ [(placesM PL.kinds)[i]] := by
          rw [List.take_add_one, List.getElem?_eq_getElem hi]
          rfl
        generalize (placesM PL.kinds)[i] = M at hvd hm htk
        obtain ⟨ta, zs, rfl, hta, hzs⟩ := hvd.isTup
        cases hzs with
        | cons g1 gr =>
          cases g1
          cases gr with
          | cons g2 gr =>
            cases g2
            cases gr
            refine ⟨ta, _, rfl, SqT.of (s2 _ _ hta), rfl, .int M.1, [.int M.2], rfl, .int M.2, [], rfl, rfl, rfl, ?_⟩
            refine ⟨.ref x, rfl, .int M.1, rfl, .int M.2, rfl, x, lv, lh, d, PL, M.1, M.2, rfl, hw.mono (s1.trans s2), hm.1, hm.2.1, fun r H3 s3 hr => ?_⟩
            have hD3 := s3 _ _ hD
            have tp := Tups.lst (o := .lst (ys ++ [.ref r])) hD3
            refine ⟨ys, hD3, ?_, same_at (s2.trans s3) nD, _, upd_same, ?_⟩
            · have := hys.len
              rw [List.length_map, List.length_map, List.length_take] at this
              omega
            · rw [htk, List.map_append, List.map_append]
              exact tds_snoc ((hys.mono (Tups.same s3)).mono tp) (TD.mono tp _ hr)
      · rintro H2 ⟨s2, ys, hD, hys⟩
        rw [lxs, List.take_length] at hys
        have hss : ∀ s ∈ (placesM PL.kinds).map (fun m => otherS PL.kinds m.1 m.2), SitIn PL PL s ∧ s ∈ allS := fun s hs => by
          obtain ⟨m, hm, rfl⟩ := List.mem_map.mp hs
          have := placesM_in hw.ok hm
          exact otherS_in hw.ok this.1 this.2.1
        refine ⟨x, lv, lh, d, D, ys, PL, _, allS, rfl, hw.mono (s1.trans s2), hD, hys, fun s hs => (hss s hs).1, by rw [List.length_map]; omega, fun k hk => rch_all hw.ok hw.ok (fun s hs => (hss s hs).1) (fun s hs => (hss s hs).2) hk, allS_len, fun W kw kvw H3 s3 n1 n2 n3 => ⟨W, kw, kvw, none, none, rfl, s2.trans s3, n1, n2, fun m hm => ?_⟩⟩
        rw [n3, otherS_ul]
        exact ⟨fun h => h.2, fun h => ⟨.base (List.mem_map.mpr ⟨m, hm, rfl⟩), h⟩⟩
    rintro σ H2 ⟨W, kw, kvw, y3, y4, rfl, s2, hNW, hKW, hneed⟩
    have s12 := s1.trans s2
    obtain ⟨dx, hx⟩ := hw.w.ins
    refine ⟨fun σ H' => ∃ (N : Addr) (la : List Addr) (y6 : Option V), σ = [some (.ref x), some (.ref Lp), some (.ref W), y3, y4, some (.ref N), y6, none] ∧ Same H2 H' ∧ H2 N = none ∧ H' N = some (.lst (la.map V.ref)) ∧ la.length = PL.kinds.length ∧ la.Nodup ∧ ∀ a ∈ la, H2 a = none ∧ H' a = some (.lst []), ?_, ?_⟩
    · clear q
      refine ⟨.ref x, rfl, x, dx, _, rfl, s12 _ _ hx, x, lv, lh, d, _, _, _, _, rfl, hw.w.mono s12, PL.kinds.length, by rw [List.length_map], by omega, (PL.kinds.length : Int), rfl, by omega, by omega, fun N nN => ?_⟩
      refine lc_range (n := PL.kinds.length) (fun i H' => Same H2 H' ∧ ∃ la : List Addr, H' N = some (.lst (la.map V.ref)) ∧ la.length = i ∧ la.Nodup ∧ ∀ a ∈ la, H2 a = none ∧ H' a = some (.lst [])) ?_ ?_ ?_
      · exact ⟨same_at (Same.refl _) nN, [], upd_same, rfl, List.nodup_nil, fun a ha => by cases ha⟩
      · rintro i H3 hi ⟨s3, la, hN, ll, nd, hl⟩
        refine ⟨rfl, by show 0 ≤ sizeLine; decide, fun a na => ?_⟩
        have s4 := same_new (o := .lst []) na
        have hN4 := s4 _ _ hN
        have naN : a ≠ N := fun e => by rw [e, hN] at na; cases na
        refine ⟨la.map V.ref, hN4, by rw [List.length_map]; omega, same_at (s3.trans s4) nN, la ++ [a], ?_, by rw [List.length_append, ll]; rfl, ?_, fun b hb => ?_⟩
        · rw [upd_same, List.map_append]
          rfl
        · refine List.nodup_append.mpr ⟨nd, List.nodup_cons.mpr ⟨(fun z => by cases z), List.nodup_nil⟩, fun b hb c hc => ?_⟩
          rw [List.mem_singleton.mp hc]
          intro e
          have := (hl b hb).2
          rw [e, na] at this
          cases this
        · rcases List.mem_append.mp hb with h | h
          · have h2 := hl b h
            refine ⟨h2.1, ?_⟩
            have : b ≠ N := fun e => by
              have h3 := h2.2
              rw [e, hN] at h3
              have h4 := HO.lst.inj (Option.some.inj h3)
              rw [List.map_eq_nil_iff.mp h4] at h
              cases h
            rw [upd_ne this]
            exact s4 _ _ h2.2
          · rw [List.mem_singleton.mp h]
            refine ⟨?_, by rw [upd_ne naN]; exact upd_same⟩
            cases e : H2 a with
            | none => rfl
            | some o => rw [s3 _ _ e] at na; cases na
      · rintro H3 ⟨s3, la, hN, ll, nd, hl⟩
        exact ⟨N, la, none, rfl, s3, nN, hN, ll, nd, hl⟩
    rintro σ H3 ⟨N, la, y6, rfl, s3, nN, hN, lla, nda, hla⟩
    have s13 := s12.trans s3
    have hLp3 := (s2.trans s3) _ _ hLp
    have hxs3 := hxs.mono (Tups.same (s2.trans s3))
    have n2 : ∀ c o, H2 c = some o → c ∉ la := fun c o e hm => by
      have := (hla c hm).1
      rw [e] at this
      cases this
    have hNl : N ∉ la := fun hm => by
      have h3 := (hla N hm).2
      rw [hN] at h3
      have h4 := HO.lst.inj (Option.some.inj h3)
      rw [List.map_eq_nil_iff.mp h4] at hm
      cases hm
    refine ⟨fun σ H' => ∃ y3 y4, σ = [some (.ref x), some (.ref Lp), some (.ref W), y3, y4, some (.ref N), y6, none] ∧ RwW PL H3 la N (placesM PL.kinds) H', ?_, ?_⟩
    · clear q
      refine ⟨.ref Lp, rfl, Lp, rfl, ⟨xs, SqL.of hLp3⟩, ?_⟩
      refine for_list (xs := xs) (fun i σ H' => ∃ y3 y4, σ = [some (.ref x), some (.ref Lp), some (.ref W), y3, y4, some (.ref N), y6, none] ∧ RwW PL H3 la N ((placesM PL.kinds).take i) H') ?_ ?_ ?_ ?_
      · refine ⟨y3, y4, rfl, fun c o e _ => e, fun p a e => ?_⟩
        exact (hla a (List.mem_of_getElem? e)).2
      · rintro i σ H5 _ ⟨y3, y4, rfl, hR⟩
        exact SqL.of (hR.kp _ _ hLp3 (n2 _ _ (s2 _ _ hLp)))
      · rintro i v σ H5 hv ⟨y3, y4, rfl, hR⟩
        have hi : i < (placesM PL.kinds).length := by
          have := (List.getElem?_eq_some_iff.mp hv).1
          omega
        have tp5 : Tups H3 H5 := fun c ys e => hR.kp c _ e fun hm => by
          have := (hla c hm).2
          rw [e] at this
          cases this
        have s05 : Same H2 H5 := fun c o e => hR.kp c o (s3 _ _ e) (n2 _ _ e)
        obtain ⟨dd, hd, hvd0⟩ := hxs3.get hv
        rw [List.getElem?_map, List.getElem?_eq_getElem hi] at hd
        obtain rfl := (Option.some.inj hd)
        have hvd := TD.mono tp5 _ hvd0
        have hmm := List.getElem_mem hi
        have hm := placesM_in hw.ok hmm
        have htk : (placesM PL.kinds).take (i + 1) = (placesM PL.kinds).take i ++ [(placesM PL.kinds)[i]] := by
          rw [List.take_add_one, List.getElem?_eq_getElem hi]
          rfl
        generalize (placesM PL.kinds)[i] = M at hvd hm htk hmm
        obtain ⟨ta, zs, rfl, hta, hzs⟩ := hvd.isTup
        cases hzs with
        | cons g1 gr =>
          cases g1
          cases gr with
          | cons g2 gr =>
            cases g2
            cases gr
            refine ⟨ta, _, rfl, SqT.of hta, rfl, .int M.1, [.int M.2], rfl, .int M.2, [], rfl, rfl, ?_⟩
            refine ⟨.ref x, rfl, .int M.1, rfl, .int M.2, rfl, x, lv, lh, d, PL, M.1, M.2, rfl, hw.mono (s12.trans s05), hm.1, hm.2.1, fun r H6 s6 hr => ?_⟩
            have s06 := s05.trans s6
            refine ⟨.ref W, rfl, W, sitK (otherS PL.kinds M.1 M.2), kvw, rfl, sit_key hr, hNW.mono s06, ?_⟩
            rw [keys_val hKW]
            have hR6 : RwW PL H3 la N ((placesM PL.kinds).take i) H6 := ⟨fun c o e n => s6 _ _ (hR.kp c o e n), fun p a e => s6 _ _ (hR.rw_ p a e)⟩
            have hM1 : ((M.1.toNat : Nat) : Int) = M.1 := by omega
            have hp : M.1.toNat < la.length := by omega
            by_cases hn : need PL M.1 M.2 = true
            · rw [decide_eq_true ((hneed M hmm).mpr hn)]
              refine ⟨true, rfl, iteT ?_⟩
              have hN6 := hR6.kp _ _ hN hNl
              have ea := List.getElem?_eq_getElem hp
              have hrow := hR6.rw_ _ _ ea
              have lrow : (rowJ PL ((placesM PL.kinds).take i) M.1.toNat).length ≤ 18 := by
                unfold rowJ
                rw [List.length_map]
                have h1 := List.length_filter_le (fun m : Int × Int => decide (m.1 = ((M.1.toNat : Nat) : Int)) && need PL m.1 m.2) ((placesM PL.kinds).take i)
                have h2 : ((placesM PL.kinds).take i).length ≤ (placesM PL.kinds).length := by
                  rw [List.length_take]
                  omega
                omega
              have iA : atI (la.map V.ref) ((M.1.toNat : Nat) : Int) = some (.ref la[M.1.toNat]) := atI_nat (by rw [List.getElem?_map, ea]; rfl)
              rw [hM1] at iA
              refine ⟨.ref N, rfl, .int M.1, rfl, N, _, M.1, .ref la[M.1.toNat], rfl, rfl, SqL.of hN6, iA, .inl ⟨rfl, _, SqL.of hrow⟩, .int M.2, rfl, la[M.1.toNat], _, .int M.2, rfl, rfl, hrow, by rw [List.length_map]; omega, some (.int M.1), some (.int M.2), rfl, fun c o e n => ?_, fun p a e => ?_⟩
              · rw [upd_ne (fun z => n (by rw [z]; exact List.getElem_mem hp))]
                exact hR6.kp c o e n
              · rw [htk, rowJ_snoc]
                by_cases ep : p = M.1.toNat
                · subst ep
                  rw [ea] at e
                  obtain rfl := Option.some.inj e
                  rw [upd_same, if_pos (by rw [hn, hM1]; simp), List.map_append]
                  rfl
                · have hp2 := (List.getElem?_eq_some_iff.mp e).1
                  have : a ≠ la[M.1.toNat] := fun z => ep (by
                    rw [z, ← ea] at e
                    exact (List.getElem?_inj hp2 nda).mp e)
                  rw [upd_ne this, if_neg, List.append_nil]
                  · exact hR6.rw_ p a e
                  · have : ¬ M.1 = (p : Int) := by omega
                    simp [this]
            · rw [decide_eq_false fun z => hn ((hneed M hmm).mp z)]
              refine ⟨false, rfl, iteF ?_⟩
              refine ⟨some (.int M.1), some (.int M.2), rfl, hR6.kp, fun p a e => ?_⟩
              rw [htk, rowJ_snoc, if_neg (by simp [hn]), List.append_nil]
              exact hR6.rw_ p a e
      · rintro σ H5 ⟨y3, y4, rfl, hR⟩
        rw [lxs, List.take_length] at hR
        exact ⟨y3, y4, rfl, hR⟩
    rintro σ H4 ⟨y3, y4, rfl, hR⟩
    have hN4 := hR.kp _ _ hN hNl
    have s04 : Same H H4 := fun c o e => hR.kp c o (s13 _ _ e) (n2 _ _ (s12 _ _ e))
    refine ⟨.ref N, rfl, N, rfl, ⟨la.map V.ref, SqL.of hN4⟩, fun D nD => ?_⟩
    have ell : (la.map V.ref).length = PL.kinds.length := by rw [List.length_map, lla]
    refine lc_list (xs := la.map V.ref) (fun i H' => Same H4 H' ∧ ∃ rs : List Addr, H' D = some (.lst (rs.map V.ref)) ∧ rs.length = i ∧ (∀ a ∈ rs, H4 a = none) ∧ ∀ (p : Nat) (a : Addr), rs[p]? = some a → HT H' a (rowM PL p)) ?_ ?_ ?_ ?_
    · exact ⟨same_at (Same.refl _) nD, [], upd_same, rfl, (fun a h => by cases h), (fun p a e => by cases e)⟩
    · exact fun i H' _ h => SqL.of (h.1 _ _ hN4)
    · rintro i v H5 hv ⟨s5, rs, hD, lrs, nrs, hrs⟩
      have hi : i < la.length := by
        have := (List.getElem?_eq_some_iff.mp hv).1
        omega
      have ea := List.getElem?_eq_getElem hi
      rw [List.getElem?_map, ea] at hv
      obtain rfl := (Option.some.inj hv)
      have hrow := s5 _ _ (hR.rw_ _ _ ea)
      have er : rowJ PL (placesM PL.kinds) i = rowM PL i := by
        have := rowJ_all PL i PL.kinds.length
        rw [if_pos (by omega)] at this
        exact this
      rw [er] at hrow
      refine ⟨rfl, .ref la[i], rfl, la[i], _, rfl, SqL.of hrow, fun l ob nl ob0 => ?_⟩
      have s6 := same_new (o := .frz ob (.tup ((rowM PL i).map V.int))) nl
      have hD6 := s6 _ _ hD
      refine ⟨rs.map V.ref, hD6, ?_, same_at (s5.trans s6) nD, rs ++ [l], ?_, by rw [List.length_append, lrs]; rfl, fun a ha => ?_, fun p a e => ?_⟩
      · rw [List.length_map]
        omega
      · rw [upd_same, List.map_append]
        rfl
      · rcases List.mem_append.mp ha with h | h
        · exact nrs a h
        · rw [List.mem_singleton.mp h]
          exact s5.free nl
      · have hlD : l ≠ D := fun e => by rw [e, hD] at nl; cases nl
        by_cases ep : p < rs.length
        · rw [List.getElem?_append_left ep] at e
          obtain ⟨ob', h1, h2⟩ := hrs p a e
          have : a ≠ D := fun z => by
            rw [z, hD] at h1
            cases h1
          exact ⟨ob', by rw [upd_ne this]; exact s6 _ _ h1, h2⟩
        · rw [List.getElem?_append_right (by omega)] at e
          have hp := (List.getElem?_eq_some_iff.mp e).1
          have hp : p = i := by
            have : ([l] : List Addr).length = 1 := rfl
            omega
          subst hp
          rw [show p - rs.length = 0 by omega] at e
          obtain rfl := Option.some.inj e
          exact ⟨ob, by rw [upd_ne hlD]; exact upd_same, ob0⟩
    · rintro H5 ⟨s5, rs, hD, lrs, nrs, hrs⟩
      rw [ell] at lrs
      refine ⟨D, _, rfl, .inl ⟨SqL.of hD, fun r nr => ?_⟩⟩
      have s6 := same_new (o := .tup (rs.map V.ref)) nr
      exact q r rs _ ((s04.trans s5).trans s6) (s04.free (s5.free nr)) (fun a ha => s04.free (nrs a ha)) ⟨upd_same, lrs, fun p a e => (hrs p a e).mono s6⟩
end

/-! ### a step depends on what is equal to what -/
theorem idx_pat {α : Type} {ℓ ℓ' : α → Int} {a a' : Int} : ∀ (I : List α), (∀ i ∈ I, (ℓ i = a ↔ ℓ' i = a')) → (a ∈ I.map ℓ ↔ a' ∈ I.map ℓ') ∧ (I.map ℓ).idxOf a = (I.map ℓ').idxOf a'
  | [], _ => ⟨by simp, rfl⟩
  | i :: r, h => by
    obtain ⟨h1, h2⟩ := idx_pat r fun j hj => h j (List.mem_cons_of_mem _ hj)
    have h0 := h i List.mem_cons_self
    rw [List.map_cons, List.map_cons, List.idxOf_cons, List.idxOf_cons, List.mem_cons, List.mem_cons, h1, h2]
    by_cases e : ℓ i = a
    · have e' := h0.mp e
      refine ⟨⟨fun _ => .inl e'.symm, fun _ => .inl e.symm⟩, ?_⟩
      rw [e, e']
      simp
    · have e' : ¬ ℓ' i = a' := fun z => e (h0.mpr z)
      refine ⟨⟨fun z => z.elim (fun y => absurd y.symm e) .inr, fun z => z.elim (fun y => absurd y.symm e') .inr⟩, ?_⟩
      have b1 : (ℓ i == a) = false := beq_eq_false_iff_ne.mpr e
      have b2 : (ℓ' i == a') = false := beq_eq_false_iff_ne.mpr e'
      rw [b1, b2]
theorem fm_congr {α β : Type} {f g : α → Option β} : ∀ {l : List α}, (∀ x ∈ l, f x = g x) → l.filterMap f = l.filterMap g
  | [], _ => rfl
  | x :: r, h => by
    rw [List.filterMap_cons, List.filterMap_cons, h x List.mem_cons_self, fm_congr fun y hy => h y (List.mem_cons_of_mem _ hy)]
theorem eqM_pat {α : Type} {ℓ ℓ' : α → Int} {I J : List α} (h : ∀ i ∈ I, ∀ j ∈ J, (ℓ j = ℓ i ↔ ℓ' j = ℓ' i)) : eqM (I.map ℓ) (J.map ℓ) = eqM (I.map ℓ') (J.map ℓ') := by
  unfold eqM eqF
  rw [List.length_map, List.length_map]
  refine fm_congr fun x _ => ?_
  rw [List.getElem?_map, List.getElem?_map]
  cases e : I[x]? with
  | none => rfl
  | some i =>
    obtain ⟨h1, h2⟩ := idx_pat (a := ℓ i) (a' := ℓ' i) J fun j hj => h i (List.mem_of_getElem? e) j hj
    simp only [Option.map_some, Option.bind_some]
    by_cases hm : ℓ i ∈ J.map ℓ
    · rw [if_pos hm, if_pos (h1.mp hm), h2]
    · rw [if_neg hm, if_neg fun z => hm (h1.mpr z)]
theorem step_pat {α : Type} {wd : Int} {kinds : List (Int × Int)} {R : List PRule} (hR : ∀ r ∈ R, RuleOk wd kinds r) {ℓ ℓ' : α → Int} {I : List α} {c : α} {p w : Int} (hs : StOk kinds (p, I.map ℓ)) (h : ∀ i ∈ I, (ℓ i = ℓ c ↔ ℓ' i = ℓ' c)) :
    ∃ (p' : Int) (I' : List α), (∀ i ∈ I', i ∈ I ∨ i = c) ∧ stepM R (p, I.map ℓ) (w, ℓ c) = (p', I'.map ℓ) ∧ stepM R (p, I.map ℓ') (w, ℓ' c) = (p', I'.map ℓ') := by
  obtain ⟨h1, h2⟩ := idx_pat I h
  have et : testV (I.map ℓ) (ℓ c) = testV (I.map ℓ') (ℓ' c) := by
    unfold testV
    by_cases hm : ℓ c ∈ I.map ℓ
    · rw [if_pos hm, if_pos (h1.mp hm), h2]
    · rw [if_neg hm, if_neg fun z => hm (h1.mpr z)]
  cases e : lookP R [Sum.inl p, Sum.inl w, testV (I.map ℓ) (ℓ c)] with
  | none =>
    refine ⟨p, I, fun i hi => .inl hi, ?_, ?_⟩
    · unfold stepM
      dsimp only
      rw [e]
    · unfold stepM
      dsimp only
      rw [← et, e]
  | some r =>
    have hin := (step_in hR hs (m := (w, ℓ c)) e).1
    dsimp only at hin
    refine ⟨r.1, r.2.map fun k => match k with | .inl n => (I[n.toNat]?).getD c | .inr _ => c, fun i hi => ?_, ?_, ?_⟩
    · obtain ⟨k, hk, rfl⟩ := List.mem_map.mp hi
      cases k with
      | inl n =>
        dsimp only
        cases e2 : I[n.toNat]? with
        | none => exact .inr rfl
        | some j => exact .inl (List.mem_of_getElem? e2)
      | inr _ => exact .inr rfl
    · unfold stepM
      dsimp only
      rw [e]
      dsimp only
      unfold carryK
      rw [List.map_map]
      refine congrArg (Prod.mk r.1) (List.map_congr_left fun k hk => ?_)
      rcases hin k hk with ⟨n, rfl, n0, n1⟩ | rfl
      · rw [List.length_map] at n1
        have hn : n.toNat < I.length := by omega
        show (((I.map ℓ)[n.toNat]?).getD 0 : Int) = ℓ ((I[n.toNat]?).getD c)
        rw [List.getElem?_map, List.getElem?_eq_getElem hn]
        rfl
      · rfl
    · unfold stepM
      dsimp only
      rw [← et, e]
      dsimp only
      unfold carryK
      rw [List.map_map]
      refine congrArg (Prod.mk r.1) (List.map_congr_left fun k hk => ?_)
      rcases hin k hk with ⟨n, rfl, n0, n1⟩ | rfl
      · rw [List.length_map] at n1
        have hn : n.toNat < I.length := by omega
        show (((I.map ℓ')[n.toNat]?).getD 0 : Int) = ℓ' ((I[n.toNat]?).getD c)
        rw [List.getElem?_map, List.getElem?_eq_getElem hn]
        rfl
      · rfl
def nth (l : List Int) (i : Nat) : Int := (l[i]?).getD 0
theorem nth_at {l : List Int} {i : Nat} (h : i < l.length) : nth l i = l[i] := by
  unfold nth
  rw [List.getElem?_eq_getElem h]
  rfl
theorem map_nth (l : List Int) : (List.range l.length).map (nth l) = l := by
  apply List.ext_getElem
  · rw [List.length_map, List.length_range]
  · intro i h1 h2
    rw [List.getElem_map, List.getElem_range, nth_at h2]
theorem nth_mem {l : List Int} {v : Int} : v ∈ l ↔ ∃ i, i < l.length ∧ nth l i = v := by
  constructor
  · intro h
    obtain ⟨i, hi, e⟩ := List.mem_iff_getElem.mp h
    exact ⟨i, hi, by rw [nth_at hi, e]⟩
  · rintro ⟨i, hi, rfl⟩
    rw [nth_at hi]
    exact List.getElem_mem hi
theorem nth_inj {l : List Int} (nd : l.Nodup) {i j : Nat} (hi : i < l.length) (hj : j < l.length) (e : nth l i = nth l j) : i = j := by
  rw [nth_at hi, nth_at hj] at e
  exact (List.getElem_inj nd).mp e
theorem nd_nth {l : List Int} (h : ∀ i j, i < j → j < l.length → nth l i ≠ nth l j) : l.Nodup := by
  rw [List.nodup_iff_pairwise_ne, List.pairwise_iff_getElem]
  intro i j hi hj hij
  have := h i j hij hj
  rwa [nth_at hi, nth_at hj] at this
/-- two pairs of held lists with a value each, alike -/
structure Corr (f g : List Int) (v : Int) (f0 g0 : List Int) (v0 : Int) : Prop where
  lf : f.length = f0.length
  lg : g.length = g0.length
  cf : ∀ i, i < f.length → (nth f i = v ↔ nth f0 i = v0)
  cg : ∀ j, j < g.length → (nth g j = v ↔ nth g0 j = v0)
  cc : ∀ i j, i < f.length → j < g.length → (nth g j = nth f i ↔ nth g0 j = nth f0 i)
def sitOf (PL : Plan) (p q : Int) (f g : List Int) (w v : Int) : Sit := ((stepM PL.rules (p, f) (w, v)).1, (stepM PL.rules (q, g) (w, v)).1, eqM (stepM PL.rules (p, f) (w, v)).2 (stepM PL.rules (q, g) (w, v)).2)
theorem corr_step {PL : Plan} (o : PlanOk PL) {p q : Int} {f g f0 g0 : List Int} {v v0 : Int} (w : Int) (h : Corr f g v f0 g0 v0) (s1 : StOk PL.kinds (p, f)) (s2 : StOk PL.kinds (q, g)) : sitOf PL p q f g w v = sitOf PL p q f0 g0 w v0 := by
  let ℓ : Option (Nat ⊕ Nat) → Int := fun x => match x with | none => v | some (.inl i) => nth f i | some (.inr j) => nth g j
  let ℓ' : Option (Nat ⊕ Nat) → Int := fun x => match x with | none => v0 | some (.inl i) => nth f0 i | some (.inr j) => nth g0 j
  let I : List (Option (Nat ⊕ Nat)) := (List.range f.length).map fun i => some (.inl i)
  let J : List (Option (Nat ⊕ Nat)) := (List.range g.length).map fun i => some (.inr i)
  have e1 : I.map ℓ = f := by
    show ((List.range f.length).map fun i => some (Sum.inl i)).map ℓ = f
    rw [List.map_map]
    exact map_nth f
  have e2 : J.map ℓ = g := by
    show ((List.range g.length).map fun i => some (Sum.inr i)).map ℓ = g
    rw [List.map_map]
    exact map_nth g
  have e3 : I.map ℓ' = f0 := by
    show ((List.range f.length).map fun i => some (Sum.inl i)).map ℓ' = f0
    rw [List.map_map, h.lf]
    exact map_nth f0
  have e4 : J.map ℓ' = g0 := by
    show ((List.range g.length).map fun i => some (Sum.inr i)).map ℓ' = g0
    rw [List.map_map, h.lg]
    exact map_nth g0
  have hI : ∀ x ∈ I, ∃ i, i < f.length ∧ x = some (.inl i) := fun x hx => by
    obtain ⟨i, hi, rfl⟩ := List.mem_map.mp hx
    exact ⟨i, List.mem_range.mp hi, rfl⟩
  have hJ : ∀ x ∈ J, ∃ i, i < g.length ∧ x = some (.inr i) := fun x hx => by
    obtain ⟨i, hi, rfl⟩ := List.mem_map.mp hx
    exact ⟨i, List.mem_range.mp hi, rfl⟩
  have hc1 : ∀ i ∈ I, (ℓ i = ℓ none ↔ ℓ' i = ℓ' none) := fun x hx => by
    obtain ⟨i, hi, rfl⟩ := hI x hx
    exact h.cf i hi
  have hc2 : ∀ i ∈ J, (ℓ i = ℓ none ↔ ℓ' i = ℓ' none) := fun x hx => by
    obtain ⟨i, hi, rfl⟩ := hJ x hx
    exact h.cg i hi
  obtain ⟨p', I', a1, a2, a3⟩ := step_pat (ℓ := ℓ) (ℓ' := ℓ') (c := none) o.r (w := w) (by rw [e1]; exact s1) hc1
  obtain ⟨q', J', b1, b2, b3⟩ := step_pat (ℓ := ℓ) (ℓ' := ℓ') (c := none) o.r (w := w) (by rw [e2]; exact s2) hc2
  rw [e1] at a2
  rw [e3] at a3
  rw [e2] at b2
  rw [e4] at b3
  have ev : ℓ none = v := rfl
  have ev' : ℓ' none = v0 := rfl
  rw [ev] at a2 b2
  rw [ev'] at a3 b3
  unfold sitOf
  rw [a2, a3, b2, b3]
  refine congrArg (fun z => (p', q', z)) (eqM_pat fun i hi j hj => ?_)
  rcases a1 i hi with hi | rfl
  · rcases b1 j hj with hj | rfl
    · obtain ⟨i', hi', rfl⟩ := hI i hi
      obtain ⟨j', hj', rfl⟩ := hJ j hj
      exact h.cc i' j' hi' hj'
    · have := hc1 i hi
      exact ⟨fun z => (this.mp z.symm).symm, fun z => (this.mpr z.symm).symm⟩
  · rcases b1 j hj with hj | rfl
    · exact hc2 j hj
    · exact ⟨fun _ => rfl, fun _ => rfl⟩
/-! ### the numbers of a situation -/
theorem prt_snoc (ps : List (Int × Int)) (m : Int × Int) (j : Int) : prt (ps ++ [m]) j = if m.2 = j then some m.1 else prt ps j := by
  unfold prt
  rw [List.foldl_append]
  rfl
theorem prt_mem : ∀ (n : Nat) (ps : List (Int × Int)), ps.length = n → ∀ j : Int, (∀ i, prt ps j = some i → (i, j) ∈ ps) ∧ (prt ps j = none → ∀ i, (i, j) ∉ ps)
  | 0, ps, h, j => by
    obtain rfl := List.eq_nil_of_length_eq_zero h
    exact ⟨(fun i e => by cases e), (fun _ i h => by cases h)⟩
  | n + 1, ps, h, j => by
    have hl : ps ≠ [] := by intro e; subst e; cases h
    obtain ⟨r, m, rfl⟩ : ∃ r x, ps = r ++ [x] := ⟨ps.dropLast, ps.getLast hl, (List.dropLast_concat_getLast hl).symm⟩
    have hr : r.length = n := by rw [List.length_append] at h; simpa using h
    obtain ⟨a, b⟩ := prt_mem n r hr j
    rw [prt_snoc]
    by_cases e : m.2 = j
    · rw [if_pos e]
      refine ⟨fun i z => ?_, (fun z => by cases z)⟩
      refine List.mem_append.mpr (.inr (List.mem_singleton.mpr ?_))
      rw [← Option.some.inj z, ← e]
    · rw [if_neg e]
      refine ⟨fun i z => List.mem_append.mpr (.inl (a i z)), fun z i hm => ?_⟩
      rcases List.mem_append.mp hm with h1 | h1
      · exact b z i h1
      · exact e (by rw [← List.mem_singleton.mp h1])
theorem eqM_mem {f g : List Int} (nd : g.Nodup) {a b : Int} : (a, b) ∈ eqM f g ↔ ∃ i j : Nat, a = (i : Int) ∧ b = (j : Int) ∧ i < f.length ∧ j < g.length ∧ nth g j = nth f i := by
  unfold eqM eqF
  constructor
  · intro h
    obtain ⟨i, hi, e⟩ := List.mem_filterMap.mp h
    have hi := List.mem_range.mp hi
    rw [List.getElem?_eq_getElem hi, Option.bind_some] at e
    by_cases hv : f[i] ∈ g
    · rw [if_pos hv] at e
      have e := Option.some.inj e
      have h1 := List.idxOf_lt_length_iff.mpr hv
      refine ⟨i, g.idxOf f[i], (congrArg Prod.fst e).symm, (congrArg Prod.snd e).symm, hi, h1, ?_⟩
      rw [nth_at h1, nth_at hi]
      exact List.getElem_idxOf h1
    · rw [if_neg hv] at e
      cases e
  · rintro ⟨i, j, rfl, rfl, hi, hj, e⟩
    refine List.mem_filterMap.mpr ⟨i, List.mem_range.mpr hi, ?_⟩
    rw [List.getElem?_eq_getElem hi, Option.bind_some]
    rw [nth_at hi, nth_at hj] at e
    have hv : f[i] ∈ g := e ▸ List.getElem_mem hj
    rw [if_pos hv]
    have h1 := List.idxOf_lt_length_iff.mpr hv
    have h2 : g[g.idxOf f[i]] = f[i] := List.getElem_idxOf h1
    have : g.idxOf f[i] = j := (List.getElem_inj nd).mp (h2.trans e.symm)
    rw [this]
theorem secF_at (ps : List (Int × Int)) (h : Int) : ∀ n j : Nat, j < n → nth (secF ps h n).1 j = (prt ps (j : Int)).getD (secF ps h j).2
  | 0, _, hj => absurd hj (Nat.not_lt_zero _)
  | n + 1, j, hj => by
    have ll := secF_len ps h n
    have e := secF_succ ps h n
    by_cases hjn : j < n
    · rw [← secF_at ps h n j hjn, e]
      cases hp : prt ps (n : Int) with
      | some i =>
        unfold nth
        dsimp only
        rw [List.getElem?_append_left (by omega)]
      | none =>
        unfold nth
        dsimp only
        rw [List.getElem?_append_left (by omega)]
    · have : j = n := by omega
      subst this
      rw [e]
      cases hp : prt ps (j : Int) with
      | some i =>
        unfold nth
        dsimp only
        rw [List.getElem?_append_right (by omega), ll]
        simp
      | none =>
        unfold nth
        dsimp only
        rw [List.getElem?_append_right (by omega), ll]
        simp
theorem secF_cnt (ps : List (Int × Int)) (h : Int) : ∀ j k : Nat, j ≤ k → (secF ps h j).2 ≤ (secF ps h k).2 ∧ (secF ps h k).2 ≤ (secF ps h j).2 + ((k - j : Nat) : Int) ∧ (prt ps (j : Int) = none → j < k → (secF ps h j).2 < (secF ps h k).2)
  | j, 0, hjk => by
    obtain rfl : j = 0 := by omega
    exact ⟨Int.le_refl _, by simp, fun _ z => absurd z (Nat.lt_irrefl _)⟩
  | j, k + 1, hjk => by
    have e := secF_succ ps h k
    by_cases hj : j = k + 1
    · subst hj
      exact ⟨Int.le_refl _, by simp, fun _ z => absurd z (Nat.lt_irrefl _)⟩
    · obtain ⟨a, b, c⟩ := secF_cnt ps h j k (by omega)
      have h2 : (secF ps h (k + 1)).2 = (secF ps h k).2 + (if prt ps (k : Int) = none then 1 else 0) := by
        rw [e]
        cases prt ps (k : Int) <;> simp
      rw [h2]
      by_cases hp : prt ps (k : Int) = none
      · rw [if_pos hp]
        refine ⟨by omega, by omega, fun hn hlt => ?_⟩
        by_cases hjk' : j < k
        · have := c hn hjk'
          omega
        · omega
      · rw [if_neg hp]
        refine ⟨by omega, by omega, fun hn hlt => ?_⟩
        by_cases hjk' : j < k
        · have := c hn hjk'
          omega
        · exfalso
          have : j = k := by omega
          exact hp (this ▸ hn)
/-- the numbers for what f and g share -/
theorem canon {f g : List Int} (nf : f.Nodup) (ng : g.Nodup) {h1 h2 : Int} (e1 : (f.length : Int) = h1) (e2 : (g.length : Int) = h2) :
    (firstM h1).length = f.length ∧ (secondM (eqM f g) h1 h2).length = g.length ∧ (firstM h1).Nodup ∧ (secondM (eqM f g) h1 h2).Nodup ∧
    (∀ i j, i < f.length → j < g.length → (nth g j = nth f i ↔ nth (secondM (eqM f g) h1 h2) j = nth (firstM h1) i)) ∧ ∀ v ∈ firstM h1 ++ secondM (eqM f g) h1 h2, v < h1 + h2 := by
  have t1 : h1.toNat = f.length := by omega
  have t2 : h2.toNat = g.length := by omega
  have l1 : (firstM h1).length = f.length := by rw [firstM_len, t1]
  have l2 : (secondM (eqM f g) h1 h2).length = g.length := by
    unfold secondM
    rw [secF_len, t2]
  have n1 : ∀ i, i < f.length → nth (firstM h1) i = (i : Int) := fun i hi => by
    rw [nth_at (by omega)]
    unfold firstM
    rw [List.getElem_map, List.getElem_range]
  have n2 : ∀ j, j < g.length → nth (secondM (eqM f g) h1 h2) j = (prt (eqM f g) (j : Int)).getD (secF (eqM f g) h1 j).2 := fun j hj => secF_at _ _ _ j (by omega)
  have hs : ∀ (j : Nat) (i : Int), prt (eqM f g) (j : Int) = some i → ∃ k : Nat, i = (k : Int) ∧ k < f.length ∧ j < g.length ∧ nth g j = nth f k := fun j i e => by
    obtain ⟨a, b, x1, x2, x3, x4, x5⟩ := (eqM_mem ng).mp ((prt_mem _ _ rfl _).1 i e)
    have : j = b := by omega
    subst this
    exact ⟨a, x1, x3, x4, x5⟩
  have hn : ∀ j : Nat, prt (eqM f g) (j : Int) = none → ∀ k, k < f.length → j < g.length → nth g j ≠ nth f k := fun j e k hk hj z =>
    (prt_mem _ _ rfl _).2 e (k : Int) ((eqM_mem ng).mpr ⟨k, j, rfl, rfl, hk, hj, z⟩)
  have c0 : (secF (eqM f g) h1 0).2 = h1 := rfl
  refine ⟨l1, l2, nd_nth fun i j hij hj => ?_, nd_nth fun i j hij hj => ?_, fun i j hi hj => ?_, fun v hv => ?_⟩
  · rw [n1 i (by omega), n1 j (by omega)]
    omega
  · rw [n2 i (by omega), n2 j (by omega)]
    have ci := secF_cnt (eqM f g) h1 0 i (Nat.zero_le _)
    have cj := secF_cnt (eqM f g) h1 0 j (Nat.zero_le _)
    have cij := secF_cnt (eqM f g) h1 i j (Nat.le_of_lt hij)
    rw [c0] at ci cj
    cases ei : prt (eqM f g) (i : Int) with
    | some a =>
      obtain ⟨k, rfl, hk, _, ek⟩ := hs i a ei
      cases ej : prt (eqM f g) (j : Int) with
      | some b =>
        obtain ⟨k', rfl, hk', _, ek'⟩ := hs j b ej
        intro z
        have z : (k : Int) = (k' : Int) := z
        have : k = k' := by omega
        subst this
        have := nth_inj ng (i := i) (j := j) (by omega) (by omega) (ek.trans ek'.symm)
        omega
      | none =>
        show (k : Int) ≠ (secF (eqM f g) h1 j).2
        omega
    | none =>
      cases ej : prt (eqM f g) (j : Int) with
      | some b =>
        obtain ⟨k', rfl, hk', _, ek'⟩ := hs j b ej
        show (secF (eqM f g) h1 i).2 ≠ (k' : Int)
        omega
      | none =>
        have := cij.2.2 ei hij
        show (secF (eqM f g) h1 i).2 ≠ (secF (eqM f g) h1 j).2
        omega
  · rw [n1 i hi, n2 j hj]
    have cj := secF_cnt (eqM f g) h1 0 j (Nat.zero_le _)
    rw [c0] at cj
    cases ej : prt (eqM f g) (j : Int) with
    | some b =>
      obtain ⟨k, rfl, hk, _, ek⟩ := hs j b ej
      show _ ↔ (k : Int) = (i : Int)
      constructor
      · intro z
        have := nth_inj nf hk hi (ek.symm.trans z)
        omega
      · intro z
        have : k = i := by omega
        subst this
        exact ek
    | none =>
      refine ⟨fun z => absurd z (hn j ej i hi hj), fun z => ?_⟩
      have z : (secF (eqM f g) h1 j).2 = (i : Int) := z
      omega
  · rcases List.mem_append.mp hv with h | h
    · obtain ⟨i, hi, rfl⟩ := nth_mem.mp h
      rw [n1 i (by omega)]
      omega
    · obtain ⟨j, hj, rfl⟩ := nth_mem.mp h
      rw [n2 j (by omega)]
      have cj := secF_cnt (eqM f g) h1 0 j (Nat.zero_le _)
      rw [c0] at cj
      cases ej : prt (eqM f g) (j : Int) with
      | some b =>
        obtain ⟨k, rfl, hk, _, ek⟩ := hs j b ej
        show (k : Int) < _
        omega
      | none =>
        show (secF (eqM f g) h1 j).2 < _
        omega

/-! ### the law's steps are the program's -/
theorem eqM_corr {f g f0 g0 : List Int} (lf : f.length = f0.length) (lg : g.length = g0.length) (cc : ∀ i j, i < f.length → j < g.length → (nth g j = nth f i ↔ nth g0 j = nth f0 i)) : eqM f g = eqM f0 g0 := by
  let ℓ : Nat ⊕ Nat → Int := fun x => match x with | .inl i => nth f i | .inr j => nth g j
  let ℓ' : Nat ⊕ Nat → Int := fun x => match x with | .inl i => nth f0 i | .inr j => nth g0 j
  let I : List (Nat ⊕ Nat) := (List.range f.length).map .inl
  let J : List (Nat ⊕ Nat) := (List.range g.length).map .inr
  have e1 : I.map ℓ = f := by
    show ((List.range f.length).map Sum.inl).map ℓ = f
    rw [List.map_map]
    exact map_nth f
  have e2 : J.map ℓ = g := by
    show ((List.range g.length).map Sum.inr).map ℓ = g
    rw [List.map_map]
    exact map_nth g
  have e3 : I.map ℓ' = f0 := by
    show ((List.range f.length).map Sum.inl).map ℓ' = f0
    rw [List.map_map, lf]
    exact map_nth f0
  have e4 : J.map ℓ' = g0 := by
    show ((List.range g.length).map Sum.inr).map ℓ' = g0
    rw [List.map_map, lg]
    exact map_nth g0
  have key := eqM_pat (ℓ := ℓ) (ℓ' := ℓ') (I := I) (J := J) fun i hi j hj => by
    obtain ⟨i', hi', rfl⟩ := List.mem_map.mp hi
    obtain ⟨j', hj', rfl⟩ := List.mem_map.mp hj
    exact cc i' j' (List.mem_range.mp hi') (List.mem_range.mp hj')
  rw [e1, e2, e3, e4] at key
  exact key
/-- alike lists -/
structure Lk (f g f0 g0 : List Int) : Prop where
  lf : f.length = f0.length
  lg : g.length = g0.length
  nf : f.Nodup
  ng : g.Nodup
  nf0 : f0.Nodup
  ng0 : g0.Nodup
  cc : ∀ i j, i < f.length → j < g.length → (nth g j = nth f i ↔ nth g0 j = nth f0 i)
theorem Lk.cF {f g f0 g0 : List Int} (h : Lk f g f0 g0) {i : Nat} (hi : i < f.length) : Corr f g (nth f i) f0 g0 (nth f0 i) := by
  have l1 := h.lf
  have l2 := h.lg
  exact ⟨h.lf, h.lg, fun k hk => ⟨fun e => by rw [nth_inj h.nf hk hi e], fun e => by rw [nth_inj h.nf0 (by omega) (by omega) e]⟩, fun j hj => h.cc i j hi hj, h.cc⟩
theorem Lk.cG {f g f0 g0 : List Int} (h : Lk f g f0 g0) {j : Nat} (hj : j < g.length) : Corr f g (nth g j) f0 g0 (nth g0 j) := by
  have l1 := h.lf
  have l2 := h.lg
  refine ⟨h.lf, h.lg, fun k hk => ?_, fun k hk => ⟨fun e => by rw [nth_inj h.ng hk hj e], fun e => by rw [nth_inj h.ng0 (by omega) (by omega) e]⟩, h.cc⟩
  have := h.cc k j hk hj
  exact ⟨fun z => (this.mp z.symm).symm, fun z => (this.mpr z.symm).symm⟩
theorem Lk.cN {f g f0 g0 : List Int} (h : Lk f g f0 g0) {v v0 : Int} (n1 : v ∉ f) (n2 : v ∉ g) (m1 : v0 ∉ f0) (m2 : v0 ∉ g0) : Corr f g v f0 g0 v0 := by
  have l1 := h.lf
  have l2 := h.lg
  refine ⟨h.lf, h.lg, fun k hk => ⟨fun e => absurd (nth_mem.mpr ⟨k, hk, e⟩) n1, fun e => absurd (nth_mem.mpr ⟨k, by omega, e⟩) m1⟩, fun k hk => ⟨fun e => absurd (nth_mem.mpr ⟨k, hk, e⟩) n2, fun e => absurd (nth_mem.mpr ⟨k, by omega, e⟩) m2⟩, h.cc⟩
theorem lone_mem {f g : List Int} {a : Int} : a ∈ loneM f g ↔ ∃ i : Nat, a = (i : Int) ∧ i < f.length ∧ nth f i ∉ g := by
  unfold loneM loneF
  constructor
  · intro h
    obtain ⟨i, hi, e⟩ := List.mem_filterMap.mp h
    have hi := List.mem_range.mp hi
    rw [List.getElem?_eq_getElem hi, Option.bind_some] at e
    by_cases hv : f[i] ∈ g
    · rw [if_pos hv] at e
      cases e
    · rw [if_neg hv] at e
      exact ⟨i, (Option.some.inj e).symm, hi, by rw [nth_at hi]; exact hv⟩
  · rintro ⟨i, rfl, hi, hv⟩
    rw [nth_at hi] at hv
    refine List.mem_filterMap.mpr ⟨i, List.mem_range.mpr hi, ?_⟩
    rw [List.getElem?_eq_getElem hi, Option.bind_some, if_neg hv]
/-- a case for each value -/
theorem case_of {f g f0 g0 : List Int} (h : Lk f g f0 g0) (v : Int) : ∃ c ∈ casesM f0 g0, Corr f g v f0 g0 (valueM c f0 g0) := by
  have l1 := h.lf
  have l2 := h.lg
  by_cases hf : v ∈ f
  · obtain ⟨i, hi, rfl⟩ := nth_mem.mp hf
    by_cases h0 : nth f0 i ∈ g0
    · obtain ⟨j, hj, ej⟩ := nth_mem.mp h0
      refine ⟨.both (i : Int) (j : Int), ?_, ?_⟩
      · unfold casesM
        exact List.mem_append.mpr (.inl (List.mem_map.mpr ⟨((i : Int), (j : Int)), (eqM_mem h.ng0).mpr ⟨i, j, rfl, rfl, by omega, hj, ej⟩, rfl⟩))
      · have e : valueM (.both (i : Int) (j : Int)) f0 g0 = nth f0 i := rfl
        rw [e]
        exact h.cF hi
    · refine ⟨.first (i : Int), ?_, ?_⟩
      · unfold casesM
        exact List.mem_append.mpr (.inr (List.mem_append.mpr (.inl (List.mem_map.mpr ⟨(i : Int), lone_mem.mpr ⟨i, rfl, by omega, h0⟩, rfl⟩))))
      · have e : valueM (.first (i : Int)) f0 g0 = nth f0 i := rfl
        rw [e]
        exact h.cF hi
  · by_cases hg : v ∈ g
    · obtain ⟨j, hj, rfl⟩ := nth_mem.mp hg
      refine ⟨.second (j : Int), ?_, ?_⟩
      · unfold casesM
        refine List.mem_append.mpr (.inr (List.mem_append.mpr (.inr (List.mem_append.mpr (.inl (List.mem_map.mpr ⟨(j : Int), lone_mem.mpr ⟨j, rfl, by omega, fun z => ?_⟩, rfl⟩))))))
        obtain ⟨i, hi, ei⟩ := nth_mem.mp z
        exact hf (nth_mem.mpr ⟨i, by omega, ((h.cc i j (by omega) hj).mpr ei.symm).symm⟩)
      · have e : valueM (.second (j : Int)) f0 g0 = nth g0 j := rfl
        rw [e]
        exact h.cG hj
    · refine ⟨.new, ?_, ?_⟩
      · unfold casesM
        exact List.mem_append.mpr (.inr (List.mem_append.mpr (.inr (List.mem_append.mpr (.inr List.mem_cons_self)))))
      · have out := leastM_out (f0 ++ g0)
        exact h.cN hf hg (fun z => out (List.mem_append.mpr (.inl z))) (fun z => out (List.mem_append.mpr (.inr z)))
/-- a value for each case -/
theorem value_for {f g f0 g0 : List Int} (h : Lk f g f0 g0) {c : Cs} (hc : c ∈ casesM f0 g0) {fr : Int} (n1 : fr ∉ f) (n2 : fr ∉ g) : ∃ v, (v ∈ f ++ g ∨ v = fr) ∧ Corr f g v f0 g0 (valueM c f0 g0) := by
  have l1 := h.lf
  have l2 := h.lg
  unfold casesM at hc
  rcases List.mem_append.mp hc with hc | hc
  · obtain ⟨⟨a, b⟩, hm, rfl⟩ := List.mem_map.mp hc
    obtain ⟨i, j, rfl, rfl, hi, hj, _⟩ := (eqM_mem h.ng0).mp hm
    have e : valueM (.both (i : Int) (j : Int)) f0 g0 = nth f0 i := rfl
    refine ⟨nth f i, .inl (List.mem_append.mpr (.inl (nth_mem.mpr ⟨i, by omega, rfl⟩))), ?_⟩
    show Corr f g _ f0 g0 (valueM (.both (i : Int) (j : Int)) f0 g0)
    rw [e]
    exact h.cF (by omega)
  · rcases List.mem_append.mp hc with hc | hc
    · obtain ⟨a, hm, rfl⟩ := List.mem_map.mp hc
      obtain ⟨i, rfl, hi, _⟩ := lone_mem.mp hm
      have e : valueM (.first (i : Int)) f0 g0 = nth f0 i := rfl
      refine ⟨nth f i, .inl (List.mem_append.mpr (.inl (nth_mem.mpr ⟨i, by omega, rfl⟩))), ?_⟩
      rw [e]
      exact h.cF (by omega)
    · rcases List.mem_append.mp hc with hc | hc
      · obtain ⟨a, hm, rfl⟩ := List.mem_map.mp hc
        obtain ⟨j, rfl, hj, _⟩ := lone_mem.mp hm
        have e : valueM (.second (j : Int)) f0 g0 = nth g0 j := rfl
        refine ⟨nth g j, .inl (List.mem_append.mpr (.inr (nth_mem.mpr ⟨j, by omega, rfl⟩))), ?_⟩
        rw [e]
        exact h.cG (by omega)
      · rw [List.mem_singleton.mp hc]
        have out := leastM_out (f0 ++ g0)
        exact ⟨fr, .inr rfl, h.cN n1 n2 (fun z => out (List.mem_append.mpr (.inl z))) (fun z => out (List.mem_append.mpr (.inr z)))⟩
/-- what stands behind a situation of the law's -/
structure Good (PL : Plan) (k : Sit) (f g : List Int) (n : Nat) : Prop where
  s1 : StOk PL.kinds (k.1, f)
  s2 : StOk PL.kinds (k.2.1, g)
  nf : f.Nodup
  ng : g.Nodup
  bd : ∀ v ∈ f ++ g, v < 100 + (n : Int)
  e : k.2.2 = eqM f g
theorem Good.lk {PL : Plan} {k : Sit} {f g : List Int} {n : Nat} (h : Good PL k f g n) : Lk f g (heldM PL PL k).1 (heldM PL PL k).2 := by
  obtain ⟨a, b, c, d, e, _⟩ := canon h.nf h.ng h.s1.len h.s2.len
  have e2 : (heldM PL PL k).2 = secondM (eqM f g) (heldAt PL.kinds k.1) (heldAt PL.kinds k.2.1) := by
    unfold heldM
    rw [h.e]
  rw [e2]
  exact ⟨a.symm, b.symm, h.nf, h.ng, c, d, e⟩
theorem Good.sound {PL : Plan} (o : PlanOk PL) {k : Sit} {f g : List Int} {n : Nat} (h : Good PL k f g n) {w : Nat} (hw : w < PL.words.toNat) (v : Int) : ∃ x ∈ stepsM PL PL k, x.2.2 = sitOf PL k.1 k.2.1 f g w v := by
  obtain ⟨c, hc, hv⟩ := case_of h.lk v
  refine ⟨_, List.mem_flatMap.mpr ⟨w, List.mem_range.mpr hw, List.mem_map.mpr ⟨c, hc, rfl⟩⟩, ?_⟩
  exact (corr_step o (w : Int) hv h.s1 h.s2).symm
theorem Good.full {PL : Plan} (o : PlanOk PL) {k : Sit} {f g : List Int} {n : Nat} (h : Good PL k f g n) {x : Int × Cs × Sit} (hx : x ∈ stepsM PL PL k) : ∃ w : Nat, w < PL.words.toNat ∧ ∃ v, (v ∈ f ++ g ∨ v = 100 + (n : Int)) ∧ x.2.2 = sitOf PL k.1 k.2.1 f g w v := by
  obtain ⟨w, hw, hx⟩ := List.mem_flatMap.mp hx
  obtain ⟨c, hc, rfl⟩ := List.mem_map.mp hx
  have hfr : 100 + (n : Int) ∉ f ++ g := fun z => absurd (h.bd _ z) (by omega)
  obtain ⟨v, hv, hcv⟩ := value_for h.lk hc (fun z => hfr (List.mem_append.mpr (.inl z))) (fun z => hfr (List.mem_append.mpr (.inr z)))
  exact ⟨w, List.mem_range.mp hw, v, hv, (corr_step o (w : Int) hcv h.s1 h.s2).symm⟩
theorem step_nd {PL : Plan} (o : PlanOk PL) {p : Int} {f : List Int} (hs : StOk PL.kinds (p, f)) (nd : f.Nodup) (w v : Int) : (stepM PL.rules (p, f) (w, v)).2.Nodup ∧ ∀ x ∈ (stepM PL.rules (p, f) (w, v)).2, x ∈ f ∨ x = v := by
  cases e : lookP PL.rules [Sum.inl p, Sum.inl w, testV f v] with
  | none =>
    unfold stepM
    dsimp only
    rw [e]
    exact ⟨nd, fun x hx => .inl hx⟩
  | some r =>
    have hin := (step_in o.r hs (m := (w, v)) e).1
    obtain ⟨i, j, t, et, i0, i1, j0, j1, tok, g0, g1, sok⟩ := o.r _ (lookP_some e).1
    dsimp only at hin et sok
    have ett : t = testV f v := (List.cons.inj (List.cons.inj (List.cons.inj et).2).2).1.symm
    unfold stepM
    dsimp only
    rw [e]
    dsimp only
    unfold carryK
    have hval : ∀ k ∈ r.2, (∃ n : Nat, k = Sum.inl (n : Int) ∧ n < f.length ∧ srcV f v k = nth f n) ∨ (k = Sum.inr ("value" : Str) ∧ v ∉ f ∧ srcV f v k = v) := fun k hk => by
      rcases hin k hk with ⟨n, rfl, n0, n1⟩ | rfl
      · refine .inl ⟨n.toNat, by rw [Int.toNat_of_nonneg n0], by omega, rfl⟩
      · refine .inr ⟨rfl, fun hv => ?_, rfl⟩
        rcases sok.all _ hk with ⟨n, z, _⟩ | ⟨_, z⟩
        · cases z
        · rw [ett] at z
          unfold testV at z
          rw [if_pos hv] at z
          cases z
    refine ⟨?_, fun x hx => ?_⟩
    · refine List.Pairwise.map _ (fun a b h => h) ?_
      refine List.Pairwise.imp_of_mem (fun {a b} ha hb hab => ?_) sok.nd
      intro z
      rcases hval a ha with ⟨n, rfl, hn, en⟩ | ⟨rfl, nv, ev⟩
      · rcases hval b hb with ⟨m, rfl, hm, em⟩ | ⟨rfl, nv, ev⟩
        · rw [en, em] at z
          exact hab (by rw [nth_inj nd hn hm z])
        · rw [en, ev] at z
          exact nv (nth_mem.mpr ⟨n, hn, z⟩)
      · rcases hval b hb with ⟨m, rfl, hm, em⟩ | ⟨rfl, _, _⟩
        · rw [ev, em] at z
          exact nv (nth_mem.mpr ⟨m, hm, z.symm⟩)
        · exact hab rfl
    · obtain ⟨k, hk, rfl⟩ := List.mem_map.mp hx
      rcases hval k hk with ⟨n, rfl, hn, en⟩ | ⟨rfl, nv, ev⟩
      · exact .inl (by rw [en]; exact nth_mem.mpr ⟨n, hn, rfl⟩)
      · exact .inr ev
theorem Good.next {PL : Plan} (o : PlanOk PL) {k : Sit} {f g : List Int} {n : Nat} (h : Good PL k f g n) (w v : Int) (hv : v ∈ f ++ g ∨ v = 100 + (n : Int)) :
    Good PL (sitOf PL k.1 k.2.1 f g w v) (stepM PL.rules (k.1, f) (w, v)).2 (stepM PL.rules (k.2.1, g) (w, v)).2 (n + 1) := by
  have a := step_nd o h.s1 h.nf w v
  have b := step_nd o h.s2 h.ng w v
  refine ⟨step_ok o.r h.s1 (w, v), step_ok o.r h.s2 (w, v), a.1, b.1, fun x hx => ?_, rfl⟩
  have hv' : v < 100 + ((n + 1 : Nat) : Int) := by
    rcases hv with z | z
    · have := h.bd v z
      omega
    · omega
  have hb : ∀ y ∈ f ++ g, y < 100 + ((n + 1 : Nat) : Int) := fun y hy => by
    have := h.bd y hy
    omega
  rcases List.mem_append.mp hx with z | z
  · rcases a.2 x z with y | rfl
    · exact hb x (List.mem_append.mpr (.inl y))
    · exact hv'
  · rcases b.2 x z with y | rfl
    · exact hb x (List.mem_append.mpr (.inr y))
    · exact hv'
theorem good_start {PL : Plan} (o : PlanOk PL) {p i : Int} (p0 : 0 ≤ p) (p1 : p < PL.kinds.length) : Good PL (otherS PL.kinds p i) (heldM PL PL (otherS PL.kinds p i)).1 (heldM PL PL (otherS PL.kinds p i)).2 0 := by
  have b := held_bd o.k p0 p1
  obtain ⟨hin, _⟩ := otherS_in (i := i) o p0 p1
  obtain ⟨s1, s2⟩ := heldM_ok o o hin
  let n := (heldAt PL.kinds p).toNat
  have hn : (n : Int) = heldAt PL.kinds p := by
    show (((heldAt PL.kinds p).toNat : Nat) : Int) = _
    omega
  let F := firstM (heldAt PL.kinds p)
  let G : List Int := (List.range n).map fun j : Nat => if (j : Int) = i then 100 else (j : Int)
  have lF : F.length = n := firstM_len _
  have lG : G.length = n := by
    show ((List.range n).map _).length = n
    rw [List.length_map, List.length_range]
  have nF : ∀ j, j < n → nth F j = (j : Int) := fun j hj => by
    have e : F = (List.range n).map fun i : Nat => (i : Int) := rfl
    unfold nth
    rw [e, List.getElem?_map, List.getElem?_range hj]
    rfl
  have nG : ∀ j, j < n → nth G j = if (j : Int) = i then 100 else (j : Int) := fun j hj => by
    have e : G = (List.range n).map fun j : Nat => if (j : Int) = i then (100 : Int) else (j : Int) := rfl
    unfold nth
    rw [e, List.getElem?_map, List.getElem?_range hj]
    rfl
  have dF : F.Nodup := nd_nth fun j k hjk hk => by
    rw [nF j (by omega), nF k (by omega)]
    omega
  have dG : G.Nodup := nd_nth fun j k hjk hk => by
    rw [nG j (by omega), nG k (by omega)]
    split <;> split <;> omega
  have e : othF n i = eqM F G := by
    unfold othF eqM eqF
    rw [lF]
    refine fm_congr fun x hx => ?_
    have hx := List.mem_range.mp hx
    have hxF : x < F.length := by omega
    have hxG : x < G.length := by omega
    have ex := nF x hx
    rw [nth_at hxF] at ex
    rw [List.getElem?_eq_getElem hxF, Option.bind_some, ex]
    by_cases h : (x : Int) = i
    · rw [if_pos h, if_neg]
      intro hm
      obtain ⟨j, hj, ej⟩ := nth_mem.mp hm
      rw [nG j (by omega)] at ej
      split at ej
      · omega
      · omega
    · have e2 := nG x hx
      rw [if_neg h, nth_at hxG] at e2
      have hm : (x : Int) ∈ G := e2 ▸ List.getElem_mem hxG
      rw [if_neg h, if_pos hm]
      have h1 := List.idxOf_lt_length_iff.mpr hm
      have h2 : G[G.idxOf (x : Int)] = (x : Int) := List.getElem_idxOf h1
      have : G.idxOf (x : Int) = x := (List.getElem_inj dG).mp (h2.trans e2.symm)
      rw [this]
  obtain ⟨a1, a2, a3, a4, a5, a6⟩ := canon dF dG (h1 := heldAt PL.kinds p) (h2 := heldAt PL.kinds p) (by rw [lF]; exact hn) (by rw [lG]; exact hn)
  have eh : heldM PL PL (otherS PL.kinds p i) = (F, secondM (eqM F G) (heldAt PL.kinds p) (heldAt PL.kinds p)) := by
    rw [← e]
    rfl
  rw [eh] at s1 s2 ⊢
  refine ⟨s1, s2, dF, a4, fun v hv => ?_, ?_⟩
  · have := a6 v hv
    omega
  · have e3 : (otherS PL.kinds p i).2.2 = othF n i := rfl
    rw [e3, e]
    exact eqM_corr rfl a2.symm a5

/-! ### rules in another order; few plans -/
theorem lookP_mem {R : List PRule} (nd : (R.map (·.1)).Nodup) {k : List Key} {v : Int × List Key} (h : (k, v) ∈ R) : lookP R k = some v := by
  cases e : lookP R k with
  | none =>
    have := lookP_none e
    rw [rowsOf_keys] at this
    exact absurd (List.mem_map.mpr ⟨_, h, rfl⟩) this
  | some v' =>
    have h' := (lookP_some e).1
    have : (k, v') = (k, v) := by
      clear e
      induction R with
      | nil => cases h
      | cons a r ih =>
        have nd' := List.nodup_cons.mp nd
        rcases List.mem_cons.mp h with z | z <;> rcases List.mem_cons.mp h' with z' | z'
        · rw [z, z']
        · exact absurd (List.mem_map.mpr ⟨_, z', by rw [← z]⟩) nd'.1
        · exact absurd (List.mem_map.mpr ⟨_, z, by rw [← z']⟩) nd'.1
        · exact ih nd'.2 z z'
    rw [(Prod.mk.inj this).2]
theorem lookP_prm {R1 R2 : List PRule} (p : R1.Perm R2) (nd : (R1.map (·.1)).Nodup) (k : List Key) : lookP R1 k = lookP R2 k := by
  have nd2 : (R2.map (·.1)).Nodup := (p.map _).nodup_iff.mp nd
  cases e : lookP R1 k with
  | some v => exact (lookP_mem nd2 (p.mem_iff.mp (lookP_some e).1)).symm
  | none =>
    cases e2 : lookP R2 k with
    | none => rfl
    | some v =>
      rw [lookP_mem nd (p.mem_iff.mpr (lookP_some e2).1)] at e
      cases e
theorem need_perm {n : Int} {ks : List (Int × Int)} {R1 R2 : List PRule} (p : R1.Perm R2) (nd : (R1.map (·.1)).Nodup) : neededD ⟨n, ks, R1⟩ = neededD ⟨n, ks, R2⟩ := by
  have hs : ∀ s m, stepM R1 s m = stepM R2 s m := fun s m => by
    unfold stepM
    rw [lookP_prm p nd]
  have ha : ∀ s f g w c, afterM ⟨n, ks, R1⟩ ⟨n, ks, R1⟩ s f g w c = afterM ⟨n, ks, R2⟩ ⟨n, ks, R2⟩ s f g w c := fun s f g w c => by
    unfold afterM
    dsimp only
    rw [hs, hs]
  have ht : ∀ s, stepsM ⟨n, ks, R1⟩ ⟨n, ks, R1⟩ s = stepsM ⟨n, ks, R2⟩ ⟨n, ks, R2⟩ s := fun s => by
    unfold stepsM
    refine congrArg (fun z => List.flatMap z _) (funext fun w => List.map_congr_left fun c _ => ?_)
    exact congrArg (fun z => ((w : Int), c, z)) (ha _ _ _ _ _)
  have hr : ∀ ss s, Rch ⟨n, ks, R1⟩ ⟨n, ks, R1⟩ ss s ↔ Rch ⟨n, ks, R2⟩ ⟨n, ks, R2⟩ ss s := fun ss s => by
    constructor
    · intro h
      induction h with
      | base h => exact .base h
      | step _ hx ih => exact .step ih (ht _ ▸ hx)
    · intro h
      induction h with
      | base h => exact .base h
      | step _ hx ih => exact .step ih ((ht _).symm ▸ hx)
  have hu : ∀ k, Ul ⟨n, ks, R1⟩ ⟨n, ks, R1⟩ k ↔ Ul ⟨n, ks, R2⟩ ⟨n, ks, R2⟩ k := fun k => by
    unfold Ul
    exact ⟨fun ⟨s, a, b⟩ => ⟨s, (hr _ _).mp a, b⟩, fun ⟨s, a, b⟩ => ⟨s, (hr _ _).mpr a, b⟩⟩
  have hn : ∀ a, need ⟨n, ks, R1⟩ a = need ⟨n, ks, R2⟩ a := fun a => funext fun i => by
    rw [Bool.eq_iff_iff, otherS_ul, otherS_ul]
    exact hu _
  have hm : rowM ⟨n, ks, R1⟩ = rowM ⟨n, ks, R2⟩ := funext fun q => by
    unfold rowM
    rw [hn]
  unfold neededD neededM
  rw [hm]
theorem planOk_prm {n : Int} {ks : List (Int × Int)} {R1 R2 : List PRule} (ok : PlanOk ⟨n, ks, R1⟩) (p : R1.Perm R2) : PlanOk ⟨n, ks, R2⟩ := ⟨ok.w, ok.k, fun r hr => ok.r r (p.mem_iff.mpr hr), ((p.map (·.1)).nodup_iff).mp ok.nd, by
  have := p.length_eq
  have h := ok.len
  dsimp only at h ⊢
  omega⟩
theorem map_prm {α β : Type} {f : α → β} {R S : List β} (p : R.Perm S) : ∀ {Q : List α}, S = Q.map f → ∃ Q2 : List α, R = Q2.map f ∧ Q2.Perm Q := by
  induction p with
  | nil =>
    intro Q e
    exact ⟨[], rfl, by rw [List.map_eq_nil_iff.mp e.symm]⟩
  | cons x _ ih =>
    intro Q e
    cases Q with
    | nil => cases e
    | cons q Q =>
      rw [List.map_cons] at e
      obtain ⟨Q2, e2, p2⟩ := ih (List.cons.inj e).2
      exact ⟨q :: Q2, by rw [List.map_cons, e2, (List.cons.inj e).1], p2.cons q⟩
  | swap x y l =>
    intro Q e
    cases Q with
    | nil => cases e
    | cons q Q =>
      cases Q with
      | nil => cases e
      | cons q2 Q =>
        rw [List.map_cons, List.map_cons] at e
        have e1 := List.cons.inj e
        have e2 := List.cons.inj e1.2
        exact ⟨q2 :: q :: Q, by rw [List.map_cons, List.map_cons, e1.1, e2.1, e2.2], List.Perm.swap q q2 Q⟩
  | trans _ _ ih1 ih2 =>
    intro Q e
    obtain ⟨Q1, e1, p1⟩ := ih2 e
    obtain ⟨Q2, e2, p2⟩ := ih1 e1
    exact ⟨Q2, e2, p2.trans p1⟩
theorem rows_prm {R : Rows} {Q : List PRule} (p : R.Perm (rowsOf Q)) : ∃ Q2, R = rowsOf Q2 ∧ Q2.Perm Q := map_prm p rfl
def sp_law_few_plan : Sp := fun vs H Q _ => ∃ (p c : Addr), vs = [.ref p] ∧ Pen H p c ∧
  ∀ l kl rl pl H', Keep p H H' → Pen H' p c → H l = none → H kl = none → H rl = none → PlanAt H' l kl rl pl → PlanOk pl → Q (.ref l) H'
section
variable {P : Program} {w : World} {K : PySem.W.Frag} {mg : Str → Option Value} {base : Heap}
abbrev N_law_few_plan : List Str := ["pen", "words", "states", "held"]
theorem sc_law_few_plan : FnScope N_law_few_plan ["pen"] (defScope s_law_few_plan) := ⟨rfl, rfl, rfl, by decide +kernel, rfl, by decide +kernel, by decide +kernel⟩
theorem G_law_few_plan (T : Tx K mg) : FnG P w K mg base CX0 5 T.law_few_plan.f T.law_few_plan.fd ["pen"] sp_law_few_plan := by
  refine okG T.law_few_plan.F sc_law_few_plan (fun vs H Q E h => ?_) (fun cdv A outer s H vs Q E gd hr h => ?_)
  · obtain ⟨p, c, rfl, _⟩ := h
    rfl
  · obtain ⟨p, c, rfl, hP, q⟩ := h
    refine ⟨_, 
      (pss_cons (ps_asg (pe_ix ix_list (pe_lst (pa_cons (pe_tup (pa_cons pe_int (pa_cons pe_int (pa_cons pe_int pa_nil)))) (pa_cons (pe_tup (pa_cons pe_int (pa_cons pe_int (pa_cons pe_int pa_nil)))) (pa_cons (pe_tup (pa_cons pe_int (pa_cons pe_int (pa_cons pe_int pa_nil)))) (pa_cons (pe_tup (pa_cons pe_int (pa_cons pe_int (pa_cons pe_int pa_nil)))) (pa_cons (pe_tup (pa_cons pe_int (pa_cons pe_int (pa_cons pe_int pa_nil)))) (pa_cons (pe_tup (pa_cons pe_int (pa_cons pe_int (pa_cons pe_int pa_nil)))) pa_nil))))))) (pe_callG (G_law_draw T) gd (hr.mono (by decide)) rfl T.law_draw.g T.law_draw.F.kp T.law_draw.b .nil pass0 (pa_cons (pv 0) (pa_cons pe_int pa_nil))) (fun _ _ => rfl)) (pg_tup rfl (pgs_cons (pg_name (i := 1) sc_law_few_plan.nd rfl (.inl rfl)) (pgs_cons (pg_name (i := 2) sc_law_few_plan.nd rfl (.inl rfl)) (pgs_cons (pg_name (i := 3) sc_law_few_plan.nd rfl (.inl rfl)) pgs_nil))))) -- words, states, held = [(1, 3, 2), (1, 3, 2), (2, 2, 2), (2, 3, 1), (3, 2, 1), (1, 6, 1)][_law_draw(pen, 6)]
      (pss_one (ps_ret (pe_callG (G_law_plan T) gd (hr.mono (by decide)) rfl T.law_plan.g T.law_plan.F.kp T.law_plan.b .nil pass0 (pa_cons (pv 0) (pa_cons (pv 1) (pa_cons (pv 2) (pa_cons (pv 3) pa_nil))))))) -- return _law_plan(pen, words, states, held)
      ) , ?_⟩
    refine ⟨by show 3 ≤ sizeLine; decide, fun t0 n0 => ⟨by show 3 ≤ sizeLine; decide, fun t1 n1 => ⟨by show 3 ≤ sizeLine; decide, fun t2 n2 => ⟨by show 3 ≤ sizeLine; decide, fun t3 n3 => ⟨by show 3 ≤ sizeLine; decide, fun t4 n4 => ⟨by show 3 ≤ sizeLine; decide, fun t5 n5 => ⟨by show 6 ≤ sizeLine; decide, fun L nL => ?_⟩⟩⟩⟩⟩⟩⟩
    have s0 := same_new (o := .tup [.int 1, .int 3, .int 2]) n0
    have s1 := same_new (o := .tup [.int 1, .int 3, .int 2]) n1
    have s2 := same_new (o := .tup [.int 2, .int 2, .int 2]) n2
    have s3 := same_new (o := .tup [.int 2, .int 3, .int 1]) n3
    have s4 := same_new (o := .tup [.int 3, .int 2, .int 1]) n4
    have s5 := same_new (o := .tup [.int 1, .int 6, .int 1]) n5
    have sL := same_new (o := .lst [.ref t0, .ref t1, .ref t2, .ref t3, .ref t4, .ref t5]) nL
    have g0 := sL (t0) (.tup [.int 1, .int 3, .int 2]) (s5 _ _ (s4 _ _ (s3 _ _ (s2 _ _ (s1 _ _ upd_same)))))
    have g1 := sL (t1) (.tup [.int 1, .int 3, .int 2]) (s5 _ _ (s4 _ _ (s3 _ _ (s2 _ _ upd_same))))
    have g2 := sL (t2) (.tup [.int 2, .int 2, .int 2]) (s5 _ _ (s4 _ _ (s3 _ _ upd_same)))
    have g3 := sL (t3) (.tup [.int 2, .int 3, .int 1]) (s5 _ _ (s4 _ _ upd_same))
    have g4 := sL (t4) (.tup [.int 3, .int 2, .int 1]) (s5 _ _ upd_same)
    have g5 := sL (t5) (.tup [.int 1, .int 6, .int 1]) upd_same
    have sA := (((((s0.trans s1).trans s2).trans s3).trans s4).trans s5).trans sL
    have hPp : H p ≠ none := hP.some'
    have ne : ∀ t, H t = none → t ≠ p := fun t h e => hPp (e ▸ h)
    have fo : ∀ {H' : Hp} {t : Addr}, Same H H' → H' t = none → t ≠ p := fun {H' t} s n => ne t (by
      cases e : H t with
      | none => rfl
      | some o => rw [s _ _ e] at n; cases n)
    have f0 := fo (Same.refl H) n0
    have f1 := fo s0 n1
    have f2 := fo (s0.trans s1) n2
    have f3 := fo ((s0.trans s1).trans s2) n3
    have f4 := fo (((s0.trans s1).trans s2).trans s3) n4
    have f5 := fo ((((s0.trans s1).trans s2).trans s3).trans s4) n5
    have fL := fo (((((s0.trans s1).trans s2).trans s3).trans s4).trans s5) nL
    have hP6 := hP.mono sA
    refine ⟨.ref p, rfl, p, c, 6, rfl, hP6, by decide, by decide, fun d H7 d0 d1 k7 hP7 => ?_⟩
    have hL7 := k7 L _ upd_same fL
    have kk : Keep p H H7 := (Keep.same sA).trans k7
    have hd : d = 0 ∨ d = 1 ∨ d = 2 ∨ d = 3 ∨ d = 4 ∨ d = 5 := by omega
    rcases hd with rfl | rfl | rfl | rfl | rfl | rfl
    · refine ⟨L, _, 0, .ref t0, rfl, rfl, SqL.of hL7, atI_nat (j := 0) rfl, t0, _, rfl, SqT.of (k7 _ _ g0 f0), rfl, .int 1, [.int 3, .int 2], rfl, .int 3, [.int 2], rfl, .int 2, [], rfl, rfl, ?_⟩
      exact ⟨.ref p, rfl, .int 1, rfl, .int 3, rfl, .int 2, rfl, p, c, 1, 3, 2, rfl, hP7, by decide, by decide, by decide, by decide, by decide, by decide, fun l kl rl pl H8 _ k8 hP8 fl fk fr hp ok _ => q l kl rl pl H8 (kk.trans k8) hP8 (kk.free hP7.some' fl) (kk.free hP7.some' fk) (kk.free hP7.some' fr) hp ok⟩
    · refine ⟨L, _, 1, .ref t1, rfl, rfl, SqL.of hL7, atI_nat (j := 1) rfl, t1, _, rfl, SqT.of (k7 _ _ g1 f1), rfl, .int 1, [.int 3, .int 2], rfl, .int 3, [.int 2], rfl, .int 2, [], rfl, rfl, ?_⟩
      exact ⟨.ref p, rfl, .int 1, rfl, .int 3, rfl, .int 2, rfl, p, c, 1, 3, 2, rfl, hP7, by decide, by decide, by decide, by decide, by decide, by decide, fun l kl rl pl H8 _ k8 hP8 fl fk fr hp ok _ => q l kl rl pl H8 (kk.trans k8) hP8 (kk.free hP7.some' fl) (kk.free hP7.some' fk) (kk.free hP7.some' fr) hp ok⟩
    · refine ⟨L, _, 2, .ref t2, rfl, rfl, SqL.of hL7, atI_nat (j := 2) rfl, t2, _, rfl, SqT.of (k7 _ _ g2 f2), rfl, .int 2, [.int 2, .int 2], rfl, .int 2, [.int 2], rfl, .int 2, [], rfl, rfl, ?_⟩
      exact ⟨.ref p, rfl, .int 2, rfl, .int 2, rfl, .int 2, rfl, p, c, 2, 2, 2, rfl, hP7, by decide, by decide, by decide, by decide, by decide, by decide, fun l kl rl pl H8 _ k8 hP8 fl fk fr hp ok _ => q l kl rl pl H8 (kk.trans k8) hP8 (kk.free hP7.some' fl) (kk.free hP7.some' fk) (kk.free hP7.some' fr) hp ok⟩
    · refine ⟨L, _, 3, .ref t3, rfl, rfl, SqL.of hL7, atI_nat (j := 3) rfl, t3, _, rfl, SqT.of (k7 _ _ g3 f3), rfl, .int 2, [.int 3, .int 1], rfl, .int 3, [.int 1], rfl, .int 1, [], rfl, rfl, ?_⟩
      exact ⟨.ref p, rfl, .int 2, rfl, .int 3, rfl, .int 1, rfl, p, c, 2, 3, 1, rfl, hP7, by decide, by decide, by decide, by decide, by decide, by decide, fun l kl rl pl H8 _ k8 hP8 fl fk fr hp ok _ => q l kl rl pl H8 (kk.trans k8) hP8 (kk.free hP7.some' fl) (kk.free hP7.some' fk) (kk.free hP7.some' fr) hp ok⟩
    · refine ⟨L, _, 4, .ref t4, rfl, rfl, SqL.of hL7, atI_nat (j := 4) rfl, t4, _, rfl, SqT.of (k7 _ _ g4 f4), rfl, .int 3, [.int 2, .int 1], rfl, .int 2, [.int 1], rfl, .int 1, [], rfl, rfl, ?_⟩
      exact ⟨.ref p, rfl, .int 3, rfl, .int 2, rfl, .int 1, rfl, p, c, 3, 2, 1, rfl, hP7, by decide, by decide, by decide, by decide, by decide, by decide, fun l kl rl pl H8 _ k8 hP8 fl fk fr hp ok _ => q l kl rl pl H8 (kk.trans k8) hP8 (kk.free hP7.some' fl) (kk.free hP7.some' fk) (kk.free hP7.some' fr) hp ok⟩
    · refine ⟨L, _, 5, .ref t5, rfl, rfl, SqL.of hL7, atI_nat (j := 5) rfl, t5, _, rfl, SqT.of (k7 _ _ g5 f5), rfl, .int 1, [.int 6, .int 1], rfl, .int 6, [.int 1], rfl, .int 1, [], rfl, rfl, ?_⟩
      exact ⟨.ref p, rfl, .int 1, rfl, .int 6, rfl, .int 1, rfl, p, c, 1, 6, 1, rfl, hP7, by decide, by decide, by decide, by decide, by decide, by decide, fun l kl rl pl H8 _ k8 hP8 fl fk fr hp ok _ => q l kl rl pl H8 (kk.trans k8) hP8 (kk.free hP7.some' fl) (kk.free hP7.some' fk) (kk.free hP7.some' fr) hp ok⟩
end

def sortP (R : List PRule) : List PRule := (srt rankK (R.map (·.1))).map fun k => (k, (lookP R k).getD (0, []))
theorem look_in {R : List PRule} (nd : (R.map (·.1)).Nodup) {k : List Key} (h : k ∈ R.map (·.1)) : ∃ v, lookP R k = some v ∧ (k, v) ∈ R ∧ lookR (rowsOf R) k = ruleD v := by
  obtain ⟨r, hr, rfl⟩ := List.mem_map.mp h
  have e := lookP_mem nd (k := r.1) (v := r.2) hr
  exact ⟨r.2, e, hr, (lookP_some e).2.2⟩
theorem sortP_keys (R : List PRule) : (sortP R).map (·.1) = srt rankK (R.map (·.1)) := by
  unfold sortP
  rw [List.map_map]
  exact List.map_id _
theorem sortP_rows {R : List PRule} (nd : (R.map (·.1)).Nodup) : rowsOf (sortP R) = sortR (rowsOf R) := by
  unfold sortP sortR rowsOf
  rw [List.map_map, List.map_map]
  have e : (List.map ((fun p : List Key × PyData => p.1) ∘ fun p : PRule => (p.1, ruleD p.2)) R) = R.map (·.1) := rfl
  rw [e]
  refine List.map_congr_left fun k hk => ?_
  obtain ⟨v, e1, _, e2⟩ := look_in nd (srt_mem.mp hk)
  show (k, ruleD ((lookP R k).getD (0, []))) = (k, lookR (rowsOf R) k)
  rw [e1, e2]
  rfl
theorem sortP_mem {R : List PRule} (nd : (R.map (·.1)).Nodup) {r : PRule} (h : r ∈ sortP R) : r ∈ R := by
  obtain ⟨k, hk, rfl⟩ := List.mem_map.mp h
  obtain ⟨v, e1, e2, _⟩ := look_in nd (srt_mem.mp hk)
  rw [e1]
  exact e2
theorem sortP_nodup {R : List PRule} (nd : (R.map (·.1)).Nodup) : ((sortP R).map (·.1)).Nodup := by
  rw [sortP_keys]
  exact srt_nodup nd
theorem sortP_len (R : List PRule) : (sortP R).length = R.length := by
  have := congrArg List.length (sortP_keys R)
  rw [List.length_map, srt_len, List.length_map] at this
  exact this

/-! ### alike configurations -/
abbrev Cfg := Int × List Int
def verC (PL : Plan) (s : Cfg) : Int := verAt PL.kinds s.1
def Wds (PL : Plan) (ms : List (Int × Int)) : Prop := ∀ m ∈ ms, 0 ≤ m.1 ∧ m.1 < PL.words
def Alk (PL : Plan) (c c' : Cfg) : Prop := ∀ ms, Wds PL ms → verC PL (runM PL.rules c ms) = verC PL (runM PL.rules c' ms)
theorem Alk.refl {PL : Plan} (c : Cfg) : Alk PL c c := fun _ _ => rfl
theorem Alk.symm {PL : Plan} {c c' : Cfg} (h : Alk PL c c') : Alk PL c' c := fun ms hw => (h ms hw).symm
theorem Alk.trans {PL : Plan} {a b c : Cfg} (h : Alk PL a b) (h' : Alk PL b c) : Alk PL a c := fun ms hw => (h ms hw).trans (h' ms hw)
theorem Wds.nil {PL : Plan} : Wds PL [] := fun _ h => by cases h
theorem Wds.cons {PL : Plan} {m : Int × Int} {ms : List (Int × Int)} (h : 0 ≤ m.1 ∧ m.1 < PL.words) (hw : Wds PL ms) : Wds PL (m :: ms) := fun x hx => by
  rcases List.mem_cons.mp hx with e | e
  · rw [e]; exact h
  · exact hw x e
theorem Wds.snoc {PL : Plan} {m : Int × Int} {ms : List (Int × Int)} (hw : Wds PL ms) (h : 0 ≤ m.1 ∧ m.1 < PL.words) : Wds PL (ms ++ [m]) := fun x hx => by
  rcases List.mem_append.mp hx with e | e
  · exact hw x e
  · rw [List.mem_singleton.mp e]; exact h
theorem Alk.step {PL : Plan} {c c' : Cfg} (h : Alk PL c c') {m : Int × Int} (hm : 0 ≤ m.1 ∧ m.1 < PL.words) : Alk PL (stepM PL.rules c m) (stepM PL.rules c' m) := fun ms hw => h (m :: ms) (Wds.cons hm hw)
theorem runM_snoc (R : List PRule) (s : Cfg) (ms : List (Int × Int)) (m : Int × Int) : runM R s (ms ++ [m]) = stepM R (runM R s ms) m := by
  unfold runM
  rw [List.foldl_append]
  rfl
structure CfOk (PL : Plan) (c : Cfg) : Prop where
  s : StOk PL.kinds c
  nd : c.2.Nodup
theorem CfOk.step {PL : Plan} (o : PlanOk PL) {c : Cfg} (h : CfOk PL c) (m : Int × Int) : CfOk PL (stepM PL.rules c m) := ⟨step_ok o.r h.s m, (step_nd o h.s h.nd m.1 m.2).1⟩
theorem CfOk.run {PL : Plan} (o : PlanOk PL) : ∀ (ms : List (Int × Int)) {c : Cfg}, CfOk PL c → CfOk PL (runM PL.rules c ms)
  | [], _, h => h
  | m :: ms, _, h => CfOk.run o ms (h.step o m)
def sumA (l : List Int) : Nat := (l.map Int.natAbs).sum
theorem sumA_bd : ∀ {l : List Int} {v : Int}, v ∈ l → v < 100 + (sumA l : Int)
  | a :: r, v, h => by
    have e : sumA (a :: r) = a.natAbs + sumA r := by
      unfold sumA
      rw [List.map_cons, List.sum_cons]
    rcases List.mem_cons.mp h with z | z
    · rw [z]
      omega
    · have := sumA_bd z
      omega
theorem fresh_of (l : List Int) : ∃ z : Int, z ∉ l := ⟨100 + (sumA l : Int), fun h => absurd (sumA_bd h) (by omega)⟩
def sitC (c c' : Cfg) : Sit := (c.1, c'.1, eqM c.2 c'.2)
theorem good_of {PL : Plan} {c c' : Cfg} (a : CfOk PL c) (b : CfOk PL c') : Good PL (sitC c c') c.2 c'.2 (sumA (c.2 ++ c'.2)) := ⟨a.s, b.s, a.nd, b.nd, fun _ hv => sumA_bd hv, rfl⟩
theorem alk_run {PL : Plan} (o : PlanOk PL) : ∀ (ms : List (Int × Int)) {c c' : Cfg}, CfOk PL c → CfOk PL c' → ¬ Ul PL PL (sitC c c') → Wds PL ms → verC PL (runM PL.rules c ms) = verC PL (runM PL.rules c' ms)
  | [], c, c', a, b, h, _ => by
    by_cases e : verC PL c = verC PL c'
    · exact e
    · refine absurd ⟨_, Rch.base List.mem_cons_self, ?_⟩ h
      show (!decide (verC PL c = verC PL c')) = true
      rw [decide_eq_false e]
      rfl
  | m :: ms, c, c', a, b, h, hw => by
    have hm := hw m List.mem_cons_self
    have hwd := o.w
    obtain ⟨x, hx, ex⟩ := (good_of a b).sound o (w := m.1.toNat) (by omega) m.2
    have e : ((m.1.toNat : Nat) : Int) = m.1 := by omega
    rw [e] at ex
    refine alk_run o ms (a.step o m) (b.step o m) (fun u => h ?_) (fun y hy => hw y (List.mem_cons_of_mem _ hy))
    obtain ⟨s, r, hs⟩ := u
    refine ⟨s, Rch.trans (.step (.base List.mem_cons_self) hx) ?_, hs⟩
    rw [ex]
    exact r
theorem rch_run {PL : Plan} (o : PlanOk PL) {c c' : Cfg} (a : CfOk PL c) (b : CfOk PL c') {s : Sit} (r : Rch PL PL [sitC c c'] s) : ∃ ms, Wds PL ms ∧ s = sitC (runM PL.rules c ms) (runM PL.rules c' ms) := by
  induction r with
  | base h => exact ⟨[], Wds.nil, List.mem_singleton.mp h⟩
  | @step s x r hx ih =>
    obtain ⟨ms, hw, e⟩ := ih
    rw [e] at hx
    obtain ⟨w, hw', v, _, ex⟩ := (good_of (a.run o ms) (b.run o ms)).full o hx
    have hwd := o.w
    refine ⟨ms ++ [((w : Int), v)], hw.snoc (by dsimp only; omega), ?_⟩
    rw [runM_snoc, runM_snoc, ex]
    rfl
theorem alk_iff {PL : Plan} (o : PlanOk PL) {c c' : Cfg} (a : CfOk PL c) (b : CfOk PL c') : Alk PL c c' ↔ ¬ Ul PL PL (sitC c c') := by
  constructor
  · rintro h ⟨s, r, hs⟩
    obtain ⟨ms, hw, rfl⟩ := rch_run o a b r
    have : verC PL (runM PL.rules c ms) = verC PL (runM PL.rules c' ms) := h ms hw
    have hs : (!decide (verC PL (runM PL.rules c ms) = verC PL (runM PL.rules c' ms))) = true := hs
    rw [decide_eq_true this] at hs
    cases hs
  · exact fun h ms hw => alk_run o ms a b h hw
theorem eqM_oth {f g : List Int} {i : Nat} (nf : f.Nodup) (ng : g.Nodup) (l : g.length = f.length) (h : ∀ j, j < f.length → j ≠ i → nth g j = nth f j) (h1 : i < f.length → nth f i ∉ g) : eqM f g = othF f.length (i : Int) := by
  unfold eqM eqF othF
  refine fm_congr fun x hx => ?_
  have hx := List.mem_range.mp hx
  rw [List.getElem?_eq_getElem hx, Option.bind_some]
  by_cases e : x = i
  · subst e
    rw [if_pos rfl, ← nth_at hx, if_neg (h1 hx)]
  · have e' : ¬ (x : Int) = (i : Int) := by omega
    have hg := h x hx e
    have hx' : x < g.length := by omega
    rw [if_neg e', ← nth_at hx, ← hg]
    have hm : nth g x ∈ g := nth_mem.mpr ⟨x, hx', rfl⟩
    rw [if_pos hm]
    have : g.idxOf (nth g x) = x := by
      have hi := List.idxOf_lt_length_iff.mpr hm
      have h2 := (idx_first hm).1
      refine nth_inj ng hi hx' ?_
      unfold nth at h2 ⊢
      rw [h2]
      rfl
    rw [this]
theorem nth_set {f : List Int} {i j : Nat} {z : Int} (hj : j < f.length) : nth (f.set i z) j = if i = j then z else nth f j := by
  unfold nth
  rw [List.getElem?_set]
  by_cases e : i = j
  · subst e
    rw [if_pos rfl, if_pos rfl, if_pos hj]
    rfl
  · rw [if_neg e, if_neg e]
theorem mem_set_of {f : List Int} {i : Nat} {x z : Int} (h : x ∈ f.set i z) : x = z ∨ x ∈ f := by
  rcases List.mem_or_eq_of_mem_set h with y | y
  · exact .inr y
  · exact .inl y
theorem set_nd {f : List Int} (nd : f.Nodup) {i : Nat} {z : Int} (hz : z ∉ f) : (f.set i z).Nodup := by
  refine nd_nth fun a b hab hb => ?_
  rw [List.length_set] at hb
  rw [nth_set (by omega), nth_set hb]
  have hfa : nth f a ∈ f := nth_mem.mpr ⟨a, by omega, rfl⟩
  have hfb : nth f b ∈ f := nth_mem.mpr ⟨b, hb, rfl⟩
  by_cases e1 : i = a
  · rw [if_pos e1, if_neg (by omega)]
    exact fun e => hz (e ▸ hfb)
  · rw [if_neg e1]
    by_cases e2 : i = b
    · rw [if_pos e2]
      exact fun e => hz (e ▸ hfa)
    · rw [if_neg e2]
      exact fun e => absurd (nth_inj nd (by omega) hb e) (by omega)
theorem CfOk.set {PL : Plan} {p : Int} {f : List Int} (a : CfOk PL (p, f)) (i : Nat) {z : Int} (hz : z ∉ f) : CfOk PL (p, f.set i z) := by
  refine ⟨⟨a.s.lo, a.s.hi, ?_⟩, set_nd a.nd hz⟩
  show ((f.set i z).length : Int) = _
  rw [List.length_set]
  exact a.s.len
theorem sit_set {PL : Plan} {p : Int} {f : List Int} (a : CfOk PL (p, f)) {i : Nat} (hi : i < f.length) {z : Int} (hz : z ∉ f) : sitC (p, f) (p, f.set i z) = otherS PL.kinds p (i : Int) := by
  have hl : (f.length : Int) = heldAt PL.kinds p := a.s.len
  have hl' : f.length = (heldAt PL.kinds p).toNat := by omega
  unfold sitC otherS
  dsimp only
  rw [eqM_oth (i := i) a.nd (set_nd a.nd hz) (List.length_set ..) (fun j hj e => by rw [nth_set hj, if_neg (fun x => e x.symm)]) (fun _ h => ?_), hl']
  rcases List.mem_iff_getElem.mp h with ⟨j, hj, e⟩
  rw [List.length_set] at hj
  have e2 : nth (f.set i z) j = nth f i := by
    rw [nth_at (by rw [List.length_set]; exact hj), e]
  rw [nth_set hj] at e2
  by_cases q : i = j
  · rw [if_pos q] at e2
    exact hz (e2 ▸ nth_mem.mpr ⟨i, hi, rfl⟩)
  · rw [if_neg q] at e2
    exact q (nth_inj a.nd hj hi e2).symm
theorem need_iff {PL : Plan} (o : PlanOk PL) {p : Int} {f : List Int} (a : CfOk PL (p, f)) {i : Nat} (hi : i < f.length) {z : Int} (hz : z ∉ f) : need PL p (i : Int) = true ↔ ¬ Alk PL (p, f) (p, f.set i z) := by
  rw [otherS_ul, alk_iff o a (a.set i hz), sit_set a hi hz]
  exact ⟨fun h n => n h, fun h => Classical.byContradiction h⟩
/-- the needed places of a state -/
noncomputable def rowI (PL : Plan) (p : Int) : List Int := rowM PL p.toNat
theorem rowI_mem {PL : Plan} {p : Int} (p0 : 0 ≤ p) {n : Int} : n ∈ rowI PL p ↔ ∃ k : Nat, n = (k : Int) ∧ (k : Int) < heldAt PL.kinds p ∧ need PL p (k : Int) = true := by
  have e : ((p.toNat : Nat) : Int) = p := by omega
  unfold rowI rowM
  rw [e, List.mem_filter, List.mem_map]
  constructor
  · rintro ⟨⟨k, hk, rfl⟩, hn⟩
    have := List.mem_range.mp hk
    exact ⟨k, rfl, by omega, hn⟩
  · rintro ⟨k, rfl, hk, hn⟩
    exact ⟨⟨k, List.mem_range.mpr (by omega), rfl⟩, hn⟩
theorem rowI_nd (PL : Plan) (p : Int) : (rowI PL p).Nodup := by
  unfold rowI rowM
  refine List.Pairwise.filter _ ?_
  refine List.Pairwise.map _ (fun a b hab e => ?_) List.nodup_range
  omega
theorem rowI_len (PL : Plan) (p : Int) : ((rowI PL p).length : Int) ≤ (heldAt PL.kinds ((p.toNat : Nat) : Int)).toNat := by
  unfold rowI rowM
  have := List.length_filter_le (need PL ((p.toNat : Nat) : Int)) ((List.range (heldAt PL.kinds ((p.toNat : Nat) : Int)).toNat).map fun i : Nat => (i : Int))
  rw [List.length_map, List.length_range] at this
  omega
/-- a place that is not needed may hold anything -/
theorem unneeded_alk {PL : Plan} (o : PlanOk PL) {p : Int} {f : List Int} (a : CfOk PL (p, f)) {i : Nat} (hi : i < f.length) (hn : (i : Int) ∉ rowI PL p) {z : Int} (hz : z ∉ f) : Alk PL (p, f) (p, f.set i z) := by
  refine Classical.byContradiction fun h => hn ?_
  have hl : (f.length : Int) = heldAt PL.kinds p := a.s.len
  exact (rowI_mem (p := p) a.s.lo).mpr ⟨i, rfl, by omega, (need_iff o a hi hz).mpr h⟩
theorem needed_not {PL : Plan} (o : PlanOk PL) {p : Int} {f : List Int} (a : CfOk PL (p, f)) {i : Nat} (hi : i < f.length) (hn : (i : Int) ∈ rowI PL p) {z : Int} (hz : z ∉ f) : ¬ Alk PL (p, f) (p, f.set i z) := by
  obtain ⟨k, e, _, h⟩ := (rowI_mem (p := p) a.s.lo).mp hn
  have : k = i := by omega
  subst this
  exact (need_iff o a hi hz).mp h

/-! ### the watcher with only the needed places -/
theorem test_new {f : List Int} {v : Int} (h : v ∉ f) : testV f v = Sum.inr ("new" : Str) := by
  unfold testV
  rw [if_neg h]
theorem idx_nth {f : List Int} (nd : f.Nodup) {m : Nat} (hm : m < f.length) : f.idxOf (nth f m) = m := by
  have hx : nth f m ∈ f := nth_mem.mpr ⟨m, hm, rfl⟩
  have hi := List.idxOf_lt_length_iff.mpr hx
  have h2 := (idx_first hx).1
  refine nth_inj nd hi hm ?_
  unfold nth at h2 ⊢
  rw [h2]
  rfl
theorem nth_idx {f : List Int} {v : Int} (h : v ∈ f) : nth f (f.idxOf v) = v := by
  unfold nth
  rw [(idx_first h).1]
  rfl
theorem test_at {f : List Int} (nd : f.Nodup) {m : Nat} (hm : m < f.length) : testV f (nth f m) = Sum.inl (m : Int) := by
  unfold testV
  rw [if_pos (nth_mem.mpr ⟨m, hm, rfl⟩), idx_nth nd hm]
theorem step_rule {PL : Plan} (o : PlanOk PL) {s w : Int} {t : Key} {r : Int × List Key} (hr : (([Sum.inl s, Sum.inl w, t], r) : PRule) ∈ PL.rules) {f : List Int} {v : Int} (e : testV f v = t) : stepM PL.rules (s, f) (w, v) = (r.1, carryK r.2 f v) := by
  unfold stepM
  dsimp only
  rw [e, lookP_mem o.nd hr]
theorem rule_parts {PL : Plan} (o : PlanOk PL) {s w : Int} {t : Key} {r : Int × List Key} (hr : (([Sum.inl s, Sum.inl w, t], r) : PRule) ∈ PL.rules) :
    0 ≤ s ∧ s < PL.kinds.length ∧ 0 ≤ w ∧ w < PL.words ∧ TestOk (heldAt PL.kinds s) t ∧ 0 ≤ r.1 ∧ r.1 < PL.kinds.length ∧ SrcOk (heldAt PL.kinds s) t (heldAt PL.kinds r.1) r.2 := by
  obtain ⟨i, j, t', e, a, b, c, d, f, g, h, k⟩ := o.r _ hr
  have e1 := List.cons.inj e
  have e2 := List.cons.inj e1.2
  have e3 := List.cons.inj e2.2
  obtain rfl := Sum.inl.inj e1.1
  obtain rfl := Sum.inl.inj e2.1
  obtain rfl := e3.1
  exact ⟨a, b, c, d, f, g, h, k⟩
def iota (n : Nat) : List Int := (List.range n).map fun i : Nat => (i : Int)
theorem iota_nd (n : Nat) : (iota n).Nodup := List.Pairwise.map _ (fun a b hab e => by omega) List.nodup_range
theorem iota_len (n : Nat) : (iota n).length = n := by
  unfold iota
  rw [List.length_map, List.length_range]
theorem clos {PL : Plan} (o : PlanOk PL) {s w : Int} {t : Key} {r : Int × List Key} (hr : (([Sum.inl s, Sum.inl w, t], r) : PRule) ∈ PL.rules) (ht : t = Sum.inr ("new" : Str) ∨ ∃ n, t = Sum.inl n ∧ n ∈ rowI PL s)
    {i : Nat} {n : Int} (hi : (i : Int) ∈ rowI PL r.1) (hs : r.2[i]? = some (Sum.inl n)) : n ∈ rowI PL s := by
  refine Classical.byContradiction fun hn => ?_
  obtain ⟨s0, s1, w0, w1, tok, g0, g1, sok⟩ := rule_parts o hr
  have hb := held_bd o.k s0 s1
  have hi2 := (List.getElem?_eq_some_iff.mp hs).1
  have hmem := List.mem_of_getElem? hs
  obtain ⟨n0, n1⟩ : 0 ≤ n ∧ n < heldAt PL.kinds s := by
    rcases sok.all _ hmem with ⟨m, e, a, b⟩ | ⟨e, _⟩
    · obtain rfl := Sum.inl.inj e
      exact ⟨a, b⟩
    · cases e
  obtain ⟨k, rfl⟩ : ∃ k : Nat, n = (k : Int) := ⟨n.toNat, by omega⟩
  have lf : (iota (heldAt PL.kinds s).toNat).length = (heldAt PL.kinds s).toNat := iota_len _
  have nf := iota_nd (heldAt PL.kinds s).toNat
  generalize iota (heldAt PL.kinds s).toNat = f at lf nf
  have a : CfOk PL (s, f) := ⟨⟨s0, s1, by show (f.length : Int) = heldAt PL.kinds s; omega⟩, nf⟩
  obtain ⟨z, hz⟩ := fresh_of f
  have hk : k < f.length := by omega
  have al := unneeded_alk o a hk hn hz
  obtain ⟨v, hv1, hv2, hvz, hvs⟩ : ∃ v, testV f v = t ∧ testV (f.set k z) v = t ∧ v ≠ z ∧ (∀ j : Nat, j ≠ k → j < f.length → nth (f.set k z) j = nth f j) := by
    have hj : ∀ j : Nat, j ≠ k → j < f.length → nth (f.set k z) j = nth f j := fun j e hj => by rw [nth_set hj, if_neg (fun x => e x.symm)]
    rcases ht with rfl | ⟨m, rfl, hm⟩
    · obtain ⟨v, hv⟩ := fresh_of (z :: f)
      have h1 : v ∉ f := fun h => hv (List.mem_cons_of_mem _ h)
      have h2 : v ≠ z := fun h => hv (h ▸ List.mem_cons_self)
      refine ⟨v, test_new h1, test_new fun h => ?_, h2, hj⟩
      rcases mem_set_of h with e | e
      · exact h2 e
      · exact h1 e
    · obtain ⟨m', rfl, hm2, _⟩ := (rowI_mem s0).mp hm
      have hne : m' ≠ k := fun e => hn (e ▸ hm)
      have hm3 : m' < f.length := by omega
      have h3 : nth f m' ∈ f := nth_mem.mpr ⟨m', hm3, rfl⟩
      refine ⟨nth f m', test_at nf hm3, ?_, fun e => hz (e ▸ h3), hj⟩
      have := test_at (set_nd nf (i := k) hz) (m := m') (by rw [List.length_set]; exact hm3)
      rwa [hj m' hne hm3] at this
  have al2 := al.step (m := (w, v)) ⟨w0, w1⟩
  rw [step_rule o hr hv1, step_rule o hr hv2] at al2
  have b : CfOk PL (r.1, carryK r.2 f v) := by
    have := a.step o (w, v)
    rwa [step_rule o hr hv1] at this
  have hval : ∀ j : Nat, j < r.2.length → ∀ g : List Int, nth (carryK r.2 g v) j = srcV g v ((r.2[j]?).getD (Sum.inr ("value" : Str))) := fun j hj g => by
    unfold nth carryK
    rw [List.getElem?_map, List.getElem?_eq_getElem hj]
    rfl
  have hzc : z ∉ carryK r.2 f v := fun h => by
    obtain ⟨q, hq, e⟩ := List.mem_map.mp h
    rcases sok.all _ hq with ⟨m, rfl, m0, m1⟩ | ⟨rfl, _⟩
    · have : nth f m.toNat = z := e
      exact hz (this ▸ nth_mem.mpr ⟨m.toNat, by omega, rfl⟩)
    · exact hvz e
  refine needed_not o b (i := i) (by show i < (carryK r.2 f v).length; unfold carryK; rw [List.length_map]; exact hi2) hi hzc ?_
  have : carryK r.2 (f.set k z) v = (carryK r.2 f v).set i z := by
    apply List.ext_getElem
    · unfold carryK
      rw [List.length_set, List.length_map, List.length_map]
    · intro j h1 h2
      have hj : j < r.2.length := by
        unfold carryK at h1
        rwa [List.length_map] at h1
      have hj2 : j < (carryK r.2 f v).length := by
        unfold carryK
        rwa [List.length_map]
      rw [← nth_at h1, ← nth_at h2, nth_set hj2, hval j hj, hval j hj]
      by_cases e : i = j
      · subst e
        rw [if_pos rfl, hs]
        show nth (f.set k z) k = z
        rw [nth_set hk, if_pos rfl]
      · rw [if_neg e, List.getElem?_eq_getElem hj]
        show srcV (f.set k z) v r.2[j] = srcV f v r.2[j]
        rcases sok.all _ (List.getElem_mem hj) with ⟨m, em, m0, m1⟩ | ⟨em, _⟩
        · rw [em]
          refine hvs m.toNat (fun ek => e ?_) (by omega)
          have hm : m = (k : Int) := by omega
          subst hm
          rw [List.getElem?_eq_getElem hi2] at hs
          have h3 := Option.some.inj hs
          exact (List.getElem_inj sok.nd).mp (h3.trans em.symm)
        · rw [em]
          rfl
  rw [this] at al2
  exact al2
def renK (ns : List Int) : Key → Key
  | .inl n => Sum.inl ((ns.idxOf n : Nat) : Int)
  | .inr x => Sum.inr x
noncomputable def keepT (PL : Plan) (s : Int) : Key → Bool
  | .inl n => decide (n ∈ rowI PL s)
  | .inr _ => true
noncomputable def srcsD (PL : Plan) (s tg : Int) (src : List Key) : List Key := (rowI PL tg).map fun i => renK (rowI PL s) ((src[i.toNat]?).getD (Sum.inr ("value" : Str)))
noncomputable def dropU (PL : Plan) (r : PRule) : Option PRule := match r.1 with
  | [.inl s, .inl w, t] => if keepT PL s t = true then some ([Sum.inl s, Sum.inl w, renK (rowI PL s) t], (r.2.1, srcsD PL s r.2.1 r.2.2)) else none
  | _ => none
noncomputable def kindsD (PL : Plan) : List (Int × Int) := (List.range PL.kinds.length).map fun p : Nat => (verAt PL.kinds (p : Int), ((rowI PL (p : Int)).length : Int))
noncomputable def dropM (PL : Plan) : Plan := ⟨PL.words, kindsD PL, (sortP PL.rules).filterMap (dropU PL)⟩
theorem sortP_in {R : List PRule} (nd : (R.map (·.1)).Nodup) {r : PRule} : r ∈ sortP R ↔ r ∈ R := by
  refine ⟨sortP_mem nd, fun h => ?_⟩
  refine List.mem_map.mpr ⟨r.1, srt_mem.mpr (List.mem_map.mpr ⟨r, h, rfl⟩), ?_⟩
  rw [lookP_mem nd (k := r.1) (v := r.2) h]
  rfl
theorem dropU_some {PL : Plan} {r r' : PRule} (h : dropU PL r = some r') : ∃ s w t, r.1 = [Sum.inl s, Sum.inl w, t] ∧ keepT PL s t = true ∧ r' = ([Sum.inl s, Sum.inl w, renK (rowI PL s) t], (r.2.1, srcsD PL s r.2.1 r.2.2)) := by
  unfold dropU at h
  split at h
  · next s w t e =>
    split at h
    · next hk => exact ⟨s, w, t, e, hk, (Option.some.inj h).symm⟩
    · cases h
  · cases h
theorem drop_mem {PL : Plan} (o : PlanOk PL) {r' : PRule} : r' ∈ (dropM PL).rules ↔ ∃ s w t r, (([Sum.inl s, Sum.inl w, t], r) : PRule) ∈ PL.rules ∧ keepT PL s t = true ∧ r' = ([Sum.inl s, Sum.inl w, renK (rowI PL s) t], (r.1, srcsD PL s r.1 r.2)) := by
  show r' ∈ (sortP PL.rules).filterMap (dropU PL) ↔ _
  rw [List.mem_filterMap]
  constructor
  · rintro ⟨⟨k, r⟩, hr, e⟩
    obtain ⟨s, w, t, e1, e2, e3⟩ := dropU_some e
    have e1 : k = _ := e1
    subst e1
    exact ⟨s, w, t, r, (sortP_in o.nd).mp hr, e2, e3⟩
  · rintro ⟨s, w, t, r, hr, hk, rfl⟩
    refine ⟨_, (sortP_in o.nd).mpr hr, ?_⟩
    show (if keepT PL s t = true then _ else none) = _
    rw [if_pos hk]
def InR (ns : List Int) (t : Key) : Prop := ∀ n, t = Sum.inl n → n ∈ ns
theorem renK_inj {ns : List Int} {t t' : Key} (h : InR ns t) (h' : InR ns t') (e : renK ns t = renK ns t') : t = t' := by
  cases t <;> cases t'
  · have := Sum.inl.inj e
    have : ns.idxOf _ = ns.idxOf _ := Int.ofNat.inj this
    rw [← nth_idx (h _ rfl), ← nth_idx (h' _ rfl), this]
  · cases e
  · cases e
  · exact e
theorem keepT_in {PL : Plan} {s : Int} {t : Key} (h : keepT PL s t = true) : InR (rowI PL s) t := fun n e => by
  subst e
  exact of_decide_eq_true h
theorem drop_nd {PL : Plan} (o : PlanOk PL) : ((dropM PL).rules.map (·.1)).Nodup := by
  have h := sortP_nodup o.nd
  show (((sortP PL.rules).filterMap (dropU PL)).map (·.1)).Nodup
  unfold List.Nodup at h ⊢
  rw [List.pairwise_map] at h ⊢
  rw [List.pairwise_filterMap]
  refine h.imp fun {a b} hab a' ea b' eb => ?_
  obtain ⟨s, w, t, e1, e2, rfl⟩ := dropU_some ea
  obtain ⟨s', w', t', f1, f2, rfl⟩ := dropU_some eb
  intro e
  have g1 := List.cons.inj e
  have g2 := List.cons.inj g1.2
  have g3 := List.cons.inj g2.2
  obtain rfl := Sum.inl.inj g1.1
  obtain rfl := Sum.inl.inj g2.1
  have := renK_inj (keepT_in e2) (keepT_in f2) g3.1
  exact hab (by rw [e1, f1, this])
theorem kindsD_len (PL : Plan) : (kindsD PL).length = PL.kinds.length := by
  unfold kindsD
  rw [List.length_map, List.length_range]
theorem kindsD_at {PL : Plan} {p : Int} (p0 : 0 ≤ p) (p1 : p < PL.kinds.length) : (kindsD PL)[p.toNat]? = some (verAt PL.kinds p, ((rowI PL p).length : Int)) := by
  have e : ((p.toNat : Nat) : Int) = p := by omega
  unfold kindsD
  rw [List.getElem?_map, List.getElem?_range (by omega)]
  show some (verAt PL.kinds ((p.toNat : Nat) : Int), ((rowI PL ((p.toNat : Nat) : Int)).length : Int)) = _
  rw [e]
theorem heldD {PL : Plan} {p : Int} (p0 : 0 ≤ p) (p1 : p < PL.kinds.length) : heldAt (kindsD PL) p = ((rowI PL p).length : Int) := by
  unfold heldAt
  rw [kindsD_at p0 p1]
  rfl
theorem verD {PL : Plan} {p : Int} (p0 : 0 ≤ p) (p1 : p < PL.kinds.length) : verAt (kindsD PL) p = verAt PL.kinds p := by
  show ((kindsD PL)[p.toNat]?.getD (0, 0)).1 = _
  rw [kindsD_at p0 p1]
  rfl
theorem rowI_le {PL : Plan} (o : PlanOk PL) {p : Int} (p0 : 0 ≤ p) (p1 : p < PL.kinds.length) : ((rowI PL p).length : Int) ≤ heldAt PL.kinds p := by
  have := rowI_len PL p
  have e : ((p.toNat : Nat) : Int) = p := by omega
  rw [e] at this
  have := held_bd o.k p0 p1
  omega
theorem ver_bd {ks : List (Int × Int)} (h : KindsOk ks) {i : Int} (h0 : 0 ≤ i) (h1 : i < ks.length) : 0 ≤ verAt ks i ∧ verAt ks i ≤ 3 := by
  have hj : i.toNat < ks.length := by omega
  unfold verAt
  rw [List.getElem?_eq_getElem hj]
  have := h.all ks[i.toNat] (List.getElem_mem hj)
  exact ⟨this.1, this.2.1⟩
theorem kindsD_ok {PL : Plan} (o : PlanOk PL) : KindsOk (kindsD PL) := by
  have hl := o.k.len
  refine ⟨by rw [kindsD_len]; exact hl, ?_, fun k hk => ?_⟩
  · rw [heldD (Int.le_refl 0) (by omega)]
    have := rowI_le o (Int.le_refl 0) (by omega)
    rw [o.k.zero] at this
    omega
  · obtain ⟨p, hp, rfl⟩ := List.mem_map.mp hk
    have hp := List.mem_range.mp hp
    have h1 := ver_bd o.k (i := (p : Int)) (by omega) (by omega)
    have h2 := rowI_le o (p := (p : Int)) (by omega) (by omega)
    have h3 := held_bd o.k (i := (p : Int)) (by omega) (by omega)
    exact ⟨h1.1, h1.2, by dsimp only; omega, by dsimp only; omega⟩
theorem keepT_test {PL : Plan} {s : Int} {t : Key} (tok : TestOk (heldAt PL.kinds s) t) (h : keepT PL s t = true) : t = Sum.inr ("new" : Str) ∨ ∃ n, t = Sum.inl n ∧ n ∈ rowI PL s := by
  rcases tok with ⟨n, rfl, _⟩ | rfl
  · exact .inr ⟨n, rfl, of_decide_eq_true h⟩
  · exact .inl rfl
/-- the source of a needed place -/
theorem src_at {PL : Plan} (o : PlanOk PL) {s w : Int} {t : Key} {r : Int × List Key} (hr : (([Sum.inl s, Sum.inl w, t], r) : PRule) ∈ PL.rules) (hk : keepT PL s t = true) {i : Int} (hi : i ∈ rowI PL r.1) :
    ∃ k, r.2[i.toNat]? = some k ∧ ((∃ n, k = Sum.inl n ∧ n ∈ rowI PL s) ∨ (k = Sum.inr ("value" : Str) ∧ t = Sum.inr ("new" : Str))) := by
  obtain ⟨s0, s1, w0, w1, tok, g0, g1, sok⟩ := rule_parts o hr
  obtain ⟨j, rfl, hj, _⟩ := (rowI_mem g0).mp hi
  have hlen := sok.len
  have hj2 : j < r.2.length := by omega
  have e : ((j : Int)).toNat = j := by omega
  rw [e, List.getElem?_eq_getElem hj2]
  refine ⟨_, rfl, ?_⟩
  rcases sok.all _ (List.getElem_mem hj2) with ⟨n, em, n0, n1⟩ | ⟨em, et⟩
  · refine .inl ⟨n, em, clos o hr (keepT_test tok hk) hi ?_⟩
    rw [List.getElem?_eq_getElem hj2, em]
  · exact .inr ⟨em, et⟩
theorem dropM_ok {PL : Plan} (o : PlanOk PL) : PlanOk (dropM PL) := by
  refine ⟨o.w, kindsD_ok o, fun r' hr' => ?_, drop_nd o, ?_⟩
  · obtain ⟨s, w, t, r, hr, hk, rfl⟩ := (drop_mem o).mp hr'
    obtain ⟨s0, s1, w0, w1, tok, g0, g1, sok⟩ := rule_parts o hr
    have hK : (dropM PL).kinds = kindsD PL := rfl
    refine ⟨s, w, _, rfl, s0, by rw [hK, kindsD_len]; exact s1, w0, w1, ?_, g0, by rw [hK, kindsD_len]; exact g1, ?_⟩
    · rw [hK, heldD s0 s1]
      rcases keepT_test tok hk with rfl | ⟨n, rfl, hn⟩
      · exact .inr rfl
      · have := List.idxOf_lt_length_iff.mpr hn
        exact .inl ⟨_, rfl, by omega, by omega⟩
    · rw [hK, heldD s0 s1]
      dsimp only
      rw [heldD g0 g1]
      refine ⟨by unfold srcsD; rw [List.length_map], ?_, fun k hk' => ?_⟩
      · unfold srcsD
        refine List.Pairwise.map _ (fun a b h => h) ?_
        refine (rowI_nd PL r.1).imp_of_mem fun {a b} ha hb hab e => hab ?_
        obtain ⟨k1, e1, c1⟩ := src_at o hr hk ha
        obtain ⟨k2, e2, c2⟩ := src_at o hr hk hb
        rw [e1, e2] at e
        have h1 : InR (rowI PL s) k1 := fun m em => by
          rcases c1 with ⟨n, rfl, hn⟩ | ⟨rfl, _⟩
          · rw [← Sum.inl.inj em]
            exact hn
          · cases em
        have h2 : InR (rowI PL s) k2 := fun m em => by
          rcases c2 with ⟨n, rfl, hn⟩ | ⟨rfl, _⟩
          · rw [← Sum.inl.inj em]
            exact hn
          · cases em
        have ek := renK_inj h1 h2 e
        subst ek
        have l1 := (List.getElem?_eq_some_iff.mp e1).1
        have l2 := (List.getElem?_eq_some_iff.mp e2).1
        rw [List.getElem?_eq_getElem l1] at e1
        rw [List.getElem?_eq_getElem l2] at e2
        have := (List.getElem_inj sok.nd).mp ((Option.some.inj e1).trans (Option.some.inj e2).symm)
        obtain ⟨a', rfl, _⟩ := (rowI_mem g0).mp ha
        obtain ⟨b', rfl, _⟩ := (rowI_mem g0).mp hb
        omega
      · obtain ⟨i, hi, rfl⟩ := List.mem_map.mp hk'
        obtain ⟨k1, e1, c1⟩ := src_at o hr hk hi
        rw [e1]
        rcases c1 with ⟨n, rfl, hn⟩ | ⟨rfl, rfl⟩
        · have := List.idxOf_lt_length_iff.mpr hn
          exact .inl ⟨_, rfl, by omega, by omega⟩
        · exact .inr ⟨rfl, rfl⟩
  · have h1 : (dropM PL).rules.length ≤ (sortP PL.rules).length := List.length_filterMap_le _ _
    rw [sortP_len] at h1
    exact Nat.le_trans h1 o.len

/-! ### the dropped watcher goes along -/
noncomputable def projS (PL : Plan) (c : Cfg) : Cfg := (c.1, (rowI PL c.1).map fun i => nth c.2 i.toNat)
theorem row_lt {PL : Plan} {c : Cfg} (a : CfOk PL c) {i : Int} (hi : i ∈ rowI PL c.1) : ∃ k : Nat, i = (k : Int) ∧ k < c.2.length := by
  obtain ⟨k, rfl, hk, _⟩ := (rowI_mem a.s.lo).mp hi
  have := a.s.len
  exact ⟨k, rfl, by omega⟩
theorem proj_nd {PL : Plan} {c : Cfg} (a : CfOk PL c) : (projS PL c).2.Nodup := by
  refine List.Pairwise.map _ (fun a b h => h) ?_
  refine (rowI_nd PL c.1).imp_of_mem fun {i j} hi hj hij e => hij ?_
  obtain ⟨k, rfl, hk⟩ := row_lt a hi
  obtain ⟨l, rfl, hl⟩ := row_lt a hj
  rw [nth_inj a.nd (i := ((k : Int)).toNat) (j := ((l : Int)).toNat) (by omega) (by omega) e |> fun z => (by omega : k = l)]
theorem proj_test {PL : Plan} {c : Cfg} (a : CfOk PL c) {v : Int} (h : v ∈ c.2 → ((c.2.idxOf v : Nat) : Int) ∈ rowI PL c.1) : keepT PL c.1 (testV c.2 v) = true ∧ testV (projS PL c).2 v = renK (rowI PL c.1) (testV c.2 v) := by
  by_cases hv : v ∈ c.2
  · have hi := h hv
    have e1 : testV c.2 v = Sum.inl ((c.2.idxOf v : Nat) : Int) := by
      unfold testV
      rw [if_pos hv]
    rw [e1]
    refine ⟨decide_eq_true hi, ?_⟩
    have hx := List.idxOf_lt_length_iff.mpr hv
    obtain ⟨p1, p2⟩ := idx_pat (ℓ := fun i : Int => nth c.2 i.toNat) (ℓ' := id) (a := v) (a' := ((c.2.idxOf v : Nat) : Int)) (rowI PL c.1) fun i hi' => by
      obtain ⟨k, rfl, hk⟩ := row_lt a hi'
      show nth c.2 ((k : Int)).toNat = v ↔ (k : Int) = _
      rw [Int.toNat_natCast]
      constructor
      · intro e
        rw [nth_inj a.nd hk hx (e.trans (nth_idx hv).symm)]
      · intro e
        have : k = c.2.idxOf v := by omega
        rw [this]
        exact nth_idx hv
    rw [List.map_id] at p1 p2
    show (if v ∈ (rowI PL c.1).map (fun i => nth c.2 i.toNat) then Sum.inl _ else _) = _
    rw [if_pos (p1.mpr hi)]
    show (Sum.inl (((((rowI PL c.1).map fun i => nth c.2 i.toNat).idxOf v : Nat) : Int)) : Key) = _
    rw [p2]
    rfl
  · rw [test_new hv]
    refine ⟨rfl, ?_⟩
    rw [test_new]
    · rfl
    · intro z
      obtain ⟨i, hi, e⟩ := List.mem_map.mp z
      obtain ⟨k, rfl, hk⟩ := row_lt a hi
      exact hv (e ▸ nth_mem.mpr ⟨k, hk, by rw [Int.toNat_natCast]⟩)
theorem step_proj {PL : Plan} (o : PlanOk PL) {c : Cfg} (a : CfOk PL c) {w v : Int} (h : v ∈ c.2 → ((c.2.idxOf v : Nat) : Int) ∈ rowI PL c.1) : stepM (dropM PL).rules (projS PL c) (w, v) = projS PL (stepM PL.rules c (w, v)) := by
  obtain ⟨hk, ht⟩ := proj_test a h
  obtain ⟨s, f⟩ := c
  dsimp only at hk ht
  unfold stepM
  dsimp only
  rw [ht]
  cases e : lookP PL.rules [Sum.inl s, Sum.inl w, testV f v] with
  | none =>
    have e2 : lookP (dropM PL).rules [Sum.inl (projS PL (s, f)).1, Sum.inl w, renK (rowI PL s) (testV f v)] = none := by
      cases e2 : lookP (dropM PL).rules [Sum.inl (projS PL (s, f)).1, Sum.inl w, renK (rowI PL s) (testV f v)] with
      | none => rfl
      | some r' =>
        obtain ⟨s', w', t', r, hr, hk', er⟩ := (drop_mem o).mp (lookP_some e2).1
        have g1 := List.cons.inj (Prod.mk.inj er).1
        have g2 := List.cons.inj g1.2
        have g3 := List.cons.inj g2.2
        have g4 : s = s' := Sum.inl.inj g1.1
        subst g4
        have g5 : w = w' := Sum.inl.inj g2.1
        subst g5
        have := renK_inj (keepT_in hk) (keepT_in hk') g3.1
        rw [← this] at hr
        rw [lookP_mem o.nd hr] at e
        cases e
    rw [e2]
  | some r =>
    have hr := (lookP_some e).1
    have e2 : lookP (dropM PL).rules [Sum.inl (projS PL (s, f)).1, Sum.inl w, renK (rowI PL s) (testV f v)] = some (r.1, srcsD PL s r.1 r.2) := lookP_mem (drop_nd o) ((drop_mem o).mpr ⟨s, w, _, r, hr, hk, rfl⟩)
    rw [e2]
    dsimp only
    unfold carryK srcsD
    rw [List.map_map]
    show (r.1, _) = (r.1, (rowI PL r.1).map fun i => nth (r.2.map (srcV f v)) i.toNat)
    refine congrArg (Prod.mk r.1) (List.map_congr_left fun i hi => ?_)
    obtain ⟨k, ek, ck⟩ := src_at o hr hk hi
    show srcV (projS PL (s, f)).2 v (renK (rowI PL s) ((r.2[i.toNat]?).getD (Sum.inr ("value" : Str)))) = nth (r.2.map (srcV f v)) i.toNat
    unfold nth
    rw [ek, List.getElem?_map, ek]
    show srcV (projS PL (s, f)).2 v (renK (rowI PL s) k) = srcV f v k
    rcases ck with ⟨n, rfl, hn⟩ | ⟨rfl, _⟩
    · show (((projS PL (s, f)).2[((((rowI PL s).idxOf n : Nat) : Int)).toNat]?).getD 0 : Int) = (f[n.toNat]?).getD 0
      have hx := (idx_first hn).1
      rw [Int.toNat_natCast]
      show ((((rowI PL s).map fun i => nth f i.toNat)[(rowI PL s).idxOf n]?).getD 0 : Int) = _
      rw [List.getElem?_map, hx]
      rfl
    · rfl
/-- a configuration, one that is alike, and the dropped watcher's -/
structure Bi (PL : Plan) (c c' d : Cfg) : Prop where
  a : CfOk PL c
  b : CfOk PL c'
  al : Alk PL c c'
  e : d = projS PL c'
theorem bi_start {PL : Plan} {c : Cfg} (a : CfOk PL c) : Bi PL c c (projS PL c) := ⟨a, a, Alk.refl c, rfl⟩
theorem Bi.step {PL : Plan} (o : PlanOk PL) {c c' d : Cfg} (h : Bi PL c c' d) {m : Int × Int} (hm : 0 ≤ m.1 ∧ m.1 < PL.words) : ∃ c1, Bi PL (stepM PL.rules c m) c1 (stepM (dropM PL).rules d m) := by
  obtain ⟨w, v⟩ := m
  obtain ⟨a, b, al, rfl⟩ := h
  by_cases hv : v ∈ c'.2 → ((c'.2.idxOf v : Nat) : Int) ∈ rowI PL c'.1
  · exact ⟨_, a.step o _, b.step o _, al.step hm, step_proj o b hv⟩
  · have hv1 : v ∈ c'.2 := Classical.byContradiction fun z => hv fun y => absurd y z
    have hv2 : ((c'.2.idxOf v : Nat) : Int) ∉ rowI PL c'.1 := fun z => hv fun _ => z
    have hx := List.idxOf_lt_length_iff.mpr hv1
    have hn := nth_idx hv1
    generalize c'.2.idxOf v = i at hv2 hx hn
    obtain ⟨z, hz⟩ := fresh_of (v :: c'.2)
    have hz1 : z ∉ c'.2 := fun y => hz (List.mem_cons_of_mem _ y)
    have hz2 : v ≠ z := fun y => hz (y ▸ List.mem_cons_self)
    obtain ⟨p, f⟩ := c'
    dsimp only at hv1 hv2 hx hz1 hn
    have al2 := al.trans (unneeded_alk o b hx hv2 hz1)
    have b2 := CfOk.set b i hz1
    have ep : projS PL (p, f) = projS PL (p, f.set i z) := by
      unfold projS
      dsimp only
      refine congrArg (Prod.mk p) (List.map_congr_left fun j hj => ?_)
      obtain ⟨k, rfl, hk⟩ := row_lt b hj
      have hk : k < f.length := hk
      rw [Int.toNat_natCast, nth_set hk, if_neg]
      intro e
      subst e
      exact hv2 hj
    rw [ep]
    have hvo : v ∉ f.set i z := fun y => by
      rcases List.mem_iff_getElem.mp y with ⟨j, hj, e⟩
      have hj' : j < f.length := by rwa [List.length_set] at hj
      rw [← nth_at hj, nth_set hj'] at e
      by_cases q : i = j
      · rw [if_pos q] at e
        exact hz2 e.symm
      · rw [if_neg q] at e
        exact q (nth_inj b.nd hx hj' (hn.trans e.symm))
    exact ⟨_, a.step o _, b2.step o _, al2.step hm, step_proj o b2 fun y => absurd y hvo⟩
theorem bi_run {PL : Plan} (o : PlanOk PL) : ∀ (ms : List (Int × Int)) {c c' d : Cfg}, Bi PL c c' d → Wds PL ms → ∃ c1, Bi PL (runM PL.rules c ms) c1 (runM (dropM PL).rules d ms)
  | [], _, c', _, h, _ => ⟨c', h⟩
  | m :: ms, _, _, _, h, hw => by
    obtain ⟨c1, h1⟩ := h.step o (hw m List.mem_cons_self)
    exact bi_run o ms h1 fun x hx => hw x (List.mem_cons_of_mem _ hx)
theorem Bi.ver {PL : Plan} {c c' d : Cfg} (h : Bi PL c c' d) : verC (dropM PL) d = verC PL c := by
  rw [h.e]
  have e : verC PL c = verC PL c' := h.al [] Wds.nil
  rw [e]
  exact verD h.b.s.lo h.b.s.hi
theorem proj_ok {PL : Plan} {c : Cfg} (a : CfOk PL c) : CfOk (dropM PL) (projS PL c) := by
  have hK : (dropM PL).kinds = kindsD PL := rfl
  refine ⟨⟨a.s.lo, by rw [hK, kindsD_len]; exact a.s.hi, ?_⟩, proj_nd a⟩
  rw [hK]
  show (((rowI PL c.1).map _).length : Int) = heldAt (kindsD PL) c.1
  rw [heldD a.s.lo a.s.hi, List.length_map]
def swp (u z x : Int) : Int := if x = u then z else if x = z then u else x
theorem swp_swp (u z x : Int) : swp u z (swp u z x) = x := by
  unfold swp
  by_cases h1 : x = u
  · subst h1
    by_cases h2 : z = x
    · subst h2; simp
    · simp [h2]
  · by_cases h2 : x = z
    · subst h2; simp [h1]
    · simp [h1, h2]
theorem swp_inj {u z a b : Int} : swp u z a = swp u z b ↔ a = b := ⟨fun e => by rw [← swp_swp u z a, e, swp_swp], fun e => by rw [e]⟩
theorem ren_run {PL : Plan} (o : PlanOk PL) (u z : Int) : ∀ (ms : List (Int × Int)) {p : Int} {f : List Int}, StOk PL.kinds (p, f) →
    runM PL.rules (p, f.map (swp u z)) (ms.map fun m => (m.1, swp u z m.2)) = ((runM PL.rules (p, f) ms).1, (runM PL.rules (p, f) ms).2.map (swp u z))
  | [], _, _, _ => rfl
  | (w, v) :: ms, p, f, hs => by
    obtain ⟨p', I', _, e1, e2⟩ := step_pat (ℓ := id) (ℓ' := swp u z) (I := f) (c := v) (w := w) o.r (by rw [List.map_id]; exact hs) (fun i _ => swp_inj.symm)
    rw [List.map_id, List.map_id] at e1
    have e1 : stepM PL.rules (p, f) (w, v) = (p', I') := e1
    have hs' := step_ok o.r hs (w, v)
    rw [e1] at hs'
    show runM PL.rules (stepM PL.rules (p, f.map (swp u z)) (w, swp u z v)) (ms.map fun m => (m.1, swp u z m.2)) = ((runM PL.rules (stepM PL.rules (p, f) (w, v)) ms).1, _)
    rw [e2, ren_run o u z ms hs', ← e1]
    rfl
/-- what the dropped watcher holds, the watcher holds -/
theorem Bi.held {PL : Plan} (o : PlanOk PL) {c c' d : Cfg} (h : Bi PL c c' d) {u : Int} (hu : u ∈ d.2) : u ∈ c.2 := by
  refine Classical.byContradiction fun hn => ?_
  rw [h.e] at hu
  obtain ⟨i, hi, e⟩ := List.mem_map.mp hu
  obtain ⟨k, rfl, hk⟩ := row_lt h.b hi
  rw [Int.toNat_natCast] at e
  obtain ⟨z, hz⟩ := fresh_of (u :: (c.2 ++ c'.2))
  have z1 : z ≠ u := fun y => hz (y ▸ List.mem_cons_self)
  have z2 : z ∉ c.2 := fun y => hz (List.mem_cons_of_mem _ (List.mem_append.mpr (.inl y)))
  have z3 : z ∉ c'.2 := fun y => hz (List.mem_cons_of_mem _ (List.mem_append.mpr (.inr y)))
  have a := h.a
  have b := h.b
  have al := h.al
  clear h hu
  obtain ⟨p, f⟩ := c
  obtain ⟨q, g⟩ := c'
  dsimp only at hn hi hk e z2 z3
  refine needed_not o b hk hi z3 (al.symm.trans fun ms hw => ?_)
  have ef : f.map (swp u z) = f := by
    conv => rhs; rw [← List.map_id f]
    refine List.map_congr_left fun x hx => ?_
    show swp u z x = x
    unfold swp
    rw [if_neg (fun y : x = u => hn (y ▸ hx)), if_neg (fun y : x = z => z2 (y ▸ hx))]
  have eg : (g.set k z).map (swp u z) = g := by
    apply List.ext_getElem
    · rw [List.length_map, List.length_set]
    · intro j h1 h2
      have h3 : j < (g.set k z).length := by rwa [List.length_map] at h1
      rw [List.getElem_map, ← nth_at h3, nth_set h2, ← nth_at h2]
      by_cases y : k = j
      · subst y
        rw [if_pos rfl]
        unfold swp
        rw [if_neg z1, if_pos rfl, e]
      · rw [if_neg y]
        unfold swp
        rw [if_neg (fun x : nth g j = u => y (nth_inj b.nd hk h2 (e.trans x.symm))), if_neg (fun x : nth g j = z => z3 (x ▸ nth_mem.mpr ⟨j, h2, rfl⟩))]
  have hw2 : Wds PL (ms.map fun m => (m.1, swp u z m.2)) := fun m hm => by
    obtain ⟨m', hm', rfl⟩ := List.mem_map.mp hm
    exact hw m' hm'
  have r1 := ren_run o u z ms a.s
  have r2 := ren_run o u z ms (b.set k z3).s
  rw [ef] at r1
  rw [eg] at r2
  have := al _ hw2
  rw [r1, r2] at this
  exact this

/-! ### rows by their place -/
theorem kvd_get {H : Hp} {kvs : List (List Key × V)} {R : Rows} (h : KvD H kvs R) {i : Nat} {k : List Key} {v : V} (e : kvs[i]? = some (k, v)) : ∃ d, R[i]? = some (k, d) ∧ TD H v d := by
  induction h generalizing i with
  | nil => simp at e
  | @cons a b l1 l2 ab _ ih =>
    cases i with
    | zero =>
      have : a = (k, v) := by simpa using e
      subst this
      exact ⟨b.2, by rw [show (k : List Key) = b.1 from ab.1]; rfl, ab.2⟩
    | succ i => exact ih (i := i) (by simpa using e)
theorem rows_get {R : List PRule} {i : Nat} {k : List Key} {d : PyData} (e : (rowsOf R)[i]? = some (k, d)) : ∃ r, R[i]? = some r ∧ k = r.1 ∧ d = ruleD r.2 := by
  unfold rowsOf at e
  rw [List.getElem?_map] at e
  obtain ⟨r, e1, e2⟩ := Option.map_eq_some_iff.mp e
  cases e2
  exact ⟨r, e1, rfl, rfl⟩

/-! ### places renumbered; the dropped watcher -/
def sp_renumbered : Sp := fun us H Q _ => ∃ (a : Addr) (ns : List Int) (t : Key), us = [kV t, .ref a] ∧ HT H a ns ∧ ((∃ n, t = Sum.inl n ∧ n ∈ ns) ∨ t = Sum.inr ("new" : Str) ∨ t = Sum.inr ("value" : Str)) ∧ ∀ H', Same H H' → Q (kV (renK ns t)) H'
def sp_dropped (C : Addr) : Sp := fun us H Q _ => ∃ (x lv lh d : Addr) (PL : Plan), us = [.ref x] ∧ WP C H x lv lh d PL ∧
  ∀ x' lv' lh' d' H', Same H H' → H x' = none → H lv' = none → H lh' = none → H d' = none → WAt C H' x' lv' lh' d' PL.words ((kindsD PL).map (·.1)) ((kindsD PL).map (·.2)) (rowsOf (dropM PL).rules) → Q (.ref x') H'
section
variable {P : Program} {w : World} {K : PySem.W.Frag} {mg : Str → Option Value} {base : Heap}
abbrev N_renumbered : List Str := ["part", "places"]
theorem sc_renumbered : FnScope N_renumbered ["part", "places"] (defScope s_renumbered) := ⟨rfl, rfl, rfl, by decide +kernel, rfl, by decide +kernel, by decide +kernel⟩
theorem G_renumbered (T : Tx K mg) : FnG P w K mg base CX0 1 T.renumbered.f T.renumbered.fd ["part", "places"] sp_renumbered := by
  refine okG T.renumbered.F sc_renumbered (fun vs H Q E h => ?_) (fun cdv A outer s H vs Q E gd hr h => ?_)
  · obtain ⟨a, ns, t, rfl, _⟩ := h
    rfl
  · obtain ⟨a, ns, t, rfl, ha, ht, q⟩ := h
    refine ⟨_, 
      (pss_one (ps_ret (pe_ifExp (pt_cmpR op_in_seq (pv 0) (pe_tup (pa_cons (pe_glob (v := .str "new") rfl T.g_NEW ⟨_, rfl⟩) (pa_cons (pe_glob (v := .str "value") rfl T.g_VALUE ⟨_, rfl⟩) pa_nil))) rfl) (pv 0) (pe_bmT PySem.F.plainAttrs_tuple PySem.F.slot_tuple_index PySem.F.type_tuple_index mt_tup_indexI (pv 1) (pa_cons (pv 0) pa_nil))))) -- return part if part in (NEW, VALUE) else places.index(part)
       , ?_⟩
    refine ⟨kV t, rfl, by show 2 ≤ sizeLine; decide, fun p np => ?_⟩
    have s1 : Same H (upd H p (.tup [.str "new", .str "value"])) := same_new np
    have hp : (upd H p (.tup [.str "new", .str "value"])) p = some (.tup [.str "new", .str "value"]) := upd_same
    generalize upd H p (.tup [.str "new", .str "value"]) = H1 at *
    refine ⟨p, _, rfl, .inr (SqT.of hp), by cases t <;> rfl, rfl, ?_⟩
    rcases ht with ⟨n, rfl, hn⟩ | rfl | rfl
    · obtain ⟨i1, i2⟩ := idx_first hn
      exact ⟨false, rfl, iteF ⟨.ref a, rfl, (ha.mono s1).ty, .int n, rfl, a, ns, n, ns.idxOf n, rfl, rfl, (ha.mono s1).sq, i1, i2, q _ s1⟩⟩
    · exact ⟨true, rfl, iteT ⟨_, rfl, q _ s1⟩⟩
    · exact ⟨true, rfl, iteT ⟨_, rfl, q _ s1⟩⟩
end

theorem cutT {t : TT} {σ : L2.St} {H : Hp} {Q : Bool → Hp → Prop} (b : Bool) (h1 : ∀ Q' : Bool → Hp → Prop, (∀ H', Same H H' → Q' b H') → t σ H Q') (h2 : ∀ H', Same H H' → Q b H') : t σ H Q := h1 Q h2
theorem cutE {t : TE} {σ : L2.St} {H : Hp} {Q : VK} (R : V → Hp → Prop) (h1 : ∀ Q' : VK, (∀ v H', R v H' → Q' v H') → t σ H Q') (h2 : ∀ v H', R v H' → Q v H') : t σ H Q := h1 Q h2
def srcA (sk : List Key) (i : Int) : Key := (sk[i.toNat]?).getD (Sum.inr ("value" : Str))
theorem srcsD_eq (PL : Plan) (s tg : Int) (sk : List Key) : srcsD PL s tg sk = ((rowI PL tg).map (srcA sk)).map (renK (rowI PL s)) := by
  unfold srcsD srcA
  rw [List.map_map]
  rfl
theorem drop_take {PL : Plan} (o : PlanOk PL) {i : Nat} {r r' : PRule} (er : (sortP PL.rules)[i]? = some r) (e : dropU PL r = some r') :
    ((sortP PL.rules).take (i + 1)).filterMap (dropU PL) = ((sortP PL.rules).take i).filterMap (dropU PL) ++ [r'] ∧ r'.1 ∉ (((sortP PL.rules).take i).filterMap (dropU PL)).map (·.1) := by
  have h1 : ((sortP PL.rules).take (i + 1)).filterMap (dropU PL) = ((sortP PL.rules).take i).filterMap (dropU PL) ++ [r'] := by
    rw [List.take_add_one, er, List.filterMap_append]
    show _ ++ [r].filterMap (dropU PL) = _
    rw [List.filterMap_cons, e]
    rfl
  refine ⟨h1, fun z => ?_⟩
  have h2 : (((sortP PL.rules).take (i + 1)).filterMap (dropU PL)).Sublist (dropM PL).rules := (List.take_sublist _ _).filterMap _
  have h3 := (drop_nd o).sublist (h2.map (·.1))
  rw [h1, List.map_append] at h3
  exact (List.nodup_append.mp h3).2.2 _ z _ (List.mem_singleton.mpr rfl) rfl
theorem atI_key {sk : List Key} {i : Int} (h0 : 0 ≤ i) (h1 : i < sk.length) : atI (sk.map kV) i = some (kV (srcA sk i)) := by
  obtain ⟨j, rfl⟩ : ∃ j : Nat, i = j := ⟨i.toNat, by omega⟩
  have hj : j < sk.length := by omega
  refine atI_nat ?_
  unfold srcA
  rw [Int.toNat_natCast, List.getElem?_map, List.getElem?_eq_getElem hj]
  rfl
theorem inV_key (t : Key) : ∀ ns : List Int, inV (kV t) (ns.map V.int) = (match t with | .inl n => decide (n ∈ ns) | .inr _ => false) := by
  intro ns
  cases t with
  | inl n => exact inV_ints n ns
  | inr x =>
    unfold inV
    rw [List.any_map]
    exact List.any_eq_false.mpr fun n _ => by
      show ¬ eqV (V.int n) (V.str x) = true
      exact Bool.false_ne_true
/-! ### the dropped watcher is built -/
theorem kd_take {PL : Plan} {i : Nat} (hi : i < PL.kinds.length) : (kindsD PL).take (i + 1) = (kindsD PL).take i ++ [(verAt PL.kinds (i : Int), ((rowI PL (i : Int)).length : Int))] := by
  have := kindsD_at (PL := PL) (p := (i : Int)) (by omega) (by omega)
  rw [Int.toNat_natCast] at this
  rw [List.take_add_one, this]
  rfl
theorem kd_one {PL : Plan} (o : PlanOk PL) : (kindsD PL).take 1 = [(verAt PL.kinds 0, 0)] := by
  have hl := o.k.len
  have := kd_take (PL := PL) (i := 0) (by omega)
  rw [this, List.take_zero, List.nil_append]
  have h0 := rowI_le o (Int.le_refl 0) (by omega)
  rw [o.k.zero] at h0
  have h1 : ((rowI PL ((0 : Nat) : Int)).length : Int) = 0 := by
    show ((rowI PL 0).length : Int) = 0
    omega
  rw [h1]
  rfl
section
variable {P : Program} {w : World} {K : PySem.W.Frag} {mg : Str → Option Value} {base : Heap}
abbrev N_dropped : List Str := ["watcher", "needed", "other", "verdicts", "state", "word", "test", "target", "sources", "kept", "place", "source"]
theorem sc_dropped : FnScope N_dropped ["watcher"] (defScope s_dropped) := ⟨rfl, rfl, rfl, by decide +kernel, rfl, by decide +kernel, by decide +kernel⟩
theorem G_dropped (T : Tx K mg) : FnG P w K mg base CX0 9 T.dropped.f T.dropped.fd ["watcher"] (sp_dropped T.Watcher.C) := by
  refine okG T.dropped.F sc_dropped (fun vs H Q E h => ?_) (fun cdv A outer s H vs Q E gd hr h => ?_)
  · obtain ⟨x, lv, lh, d, PL, rfl, _⟩ := h
    rfl
  · obtain ⟨x, lv, lh, d, PL, rfl, hw, q⟩ := h
    have L5 : 4000000 ≤ sizeLine := by decide
    have hk6 := hw.ok.k.len
    refine ⟨_, 
      (C8.pss_cut (ps_set (i := 1) sc_dropped.nd rfl (.inr rfl) (pe_callG (G_needed_places T) gd (hr.mono (by decide)) rfl T.needed_places.g T.needed_places.F.kp T.needed_places.b .nil pass0 (pa_cons (pv 0) pa_nil))) -- needed = needed_places(watcher)
      (C8.pss_cut (ps_set (i := 2) sc_dropped.nd rfl (.inl rfl) (pe_makeG T.mk_Watcher (G_Watcher_init T) gd (hr.mono (by decide)) rfl T.Watcher.g T.Watcher_init.b .nil passNo (pa_cons (pe_fld (pv 0) rfl) pa_nil))) -- other = Watcher(watcher.words)
      (C8.pss_cut (ps_set (i := 3) sc_dropped.nd rfl (.inl rfl) (pe_meth0G (pv 0) T.Watcher.cl T.Watcher_verdicts.M (G_Watcher_verdicts T) gd (hr.mono (by decide)) T.Watcher_verdicts.b .nil pass0)) -- verdicts = watcher.verdicts()
      (C8.pss_cut (ps_expr (pe_methG (pv 2) T.Watcher.cl T.Watcher_set_verdict.M (G_Watcher_set_verdict T) gd (hr.mono (by decide)) T.Watcher_set_verdict.b .nil passNo (pa_cons pe_int (pa_cons (pe_ix ix_tup (pv 3) pe_int (fun _ _ => rfl)) pa_nil)))) -- other.set_verdict(0, verdicts[0])
      (C8.pss_cut (ps_for PassesOwn.never rfl (pi_range2 rfl T.m_range (pa_cons pe_int (pa_cons (pe_callB (call_lenG T.Watcher_len.M.at_ T.tf_Watcher_len (G_Watcher_len T) gd (hr.mono (by decide)) T.Watcher_len.b) (by rfl) T.m_len PySem.boot_len (pa_cons (pv 0) pa_nil)) pa_nil))) (pg_name (i := 4) sc_dropped.nd rfl (.inr rfl)) 
        (pss_one (ps_expr (pe_methG (pv 2) T.Watcher.cl T.Watcher_add_state.M (G_Watcher_add_state T) gd (hr.mono (by decide)) T.Watcher_add_state.b .nil passNo (pa_cons (pe_ix ix_tup (pv 3) (pv 4) (fun _ _ => rfl)) (pa_cons (pe_callB call_len_seq (by rfl) T.m_len PySem.boot_len (pa_cons (pe_ix ix_tup (pv 1) (pv 4) (fun _ _ => rfl)) pa_nil)) pa_nil))))) -- other.add_state(verdicts[state], len(needed[state]))
        ) -- for state in range(1, len(watcher)):
      (C8.pss_cut (ps_for PassesOwn.never rfl (pi_itemsL (pe_meth0G (pv 0) T.Watcher.cl T.Watcher_rules.M (G_Watcher_rules T) gd (hr.mono (by decide)) T.Watcher_rules.b .nil pass0)) (pg_tup rfl (pgs_cons (pg_tup rfl (pgs_cons (pg_name (i := 4) sc_dropped.nd rfl (.inr rfl)) (pgs_cons (pg_name (i := 5) sc_dropped.nd rfl (.inl rfl)) (pgs_cons (pg_name (i := 6) sc_dropped.nd rfl (.inl rfl)) pgs_nil)))) (pgs_cons (pg_tup rfl (pgs_cons (pg_name (i := 7) sc_dropped.nd rfl (.inl rfl)) (pgs_cons (pg_name (i := 8) sc_dropped.nd rfl (.inr rfl)) pgs_nil))) pgs_nil))) 
        (pss_one (ps_if (PW.pt (pw_or (pt_cmpR (op_eqS' hr.units) (pv 6) (pe_glob (v := .str "new") rfl T.g_NEW ⟨_, rfl⟩) (nomark _)) (pw_or1 (pt_cmpR op_in_seq (pv 6) (pe_ix ix_tup (pv 1) (pv 4) (fun _ _ => rfl)) rfl)))) 
          (pss_cons (ps_setLc (i := 9) (own := [("place", 10)]) (g := gName 10) rfl sc_dropped.nd rfl rfl (by rfl) (pi_tup (pe_ix ix_tup (pv 1) (pv 7) (fun _ _ => rfl))) (blkOk_by (N := N_dropped) (sc := defScope s_dropped) (by decide +kernel)) (fun _ _ _ _ _ => (pg_name (i := 10) sc_dropped.nd rfl (.inl rfl))) (fun _ _ _ _ _ => pts_nil) (fun _ _ _ _ _ => (pe_ix (r := rIxT K) ix_tup (pv 8) (pv 10) (fun _ _ => rfl)))) -- kept = [sources[place] for place in needed[target]]
          (pss_one (ps_expr (pe_methG (pv 2) T.Watcher.cl T.Watcher_add_rule.M (G_Watcher_add_rule T) gd (hr.mono (by decide)) T.Watcher_add_rule.b .nil passNo (pa_cons (pv 4) (pa_cons (pv 5) (pa_cons (pe_callG (G_renumbered T) gd (hr.mono (by decide)) rfl T.renumbered.g T.renumbered.F.kp T.renumbered.b .nil pass0 (pa_cons (pv 6) (pa_cons (pe_ix ix_tup (pv 1) (pv 4) (fun _ _ => rfl)) pa_nil))) (pa_cons (pv 7) (pa_cons (pe_callTy call_tuple_of (by rfl) T.m_tuple (by decide +kernel) (pa_cons (pe_lc (own := [("source", 11)]) (g := gName 11) rfl sc_dropped.nd (pi_list (pv 9)) (blkOk_by (N := N_dropped) (sc := defScope s_dropped) (by decide +kernel)) (fun _ _ _ _ _ => (pg_name (i := 11) sc_dropped.nd rfl (.inl rfl))) (fun _ _ _ _ _ => pts_nil) (fun _ _ _ _ _ => (pe_callG (G_renumbered T) gd (hr.mono (by decide)) rfl T.renumbered.g T.renumbered.F.kp T.renumbered.b .nil pass0 (pa_cons (pv 11) (pa_cons (pe_ix (r := rIxT K) ix_tup (pv 1) (pv 4) (fun _ _ => rfl)) pa_nil))))) pa_nil)) pa_nil)))))))) -- other.add_rule(state, word, renumbered(test, needed[state]), target, tuple([renumbered(source, needed[state]) for source in kept]))
          ) pss_nil)) -- if test == NEW or test in needed[state]:
        ) -- for (state, word, test), (target, sources) in watcher.rules().items():
      (pss_one (ps_ret (pv 2))) -- return other
      )))))) , ?_⟩
    refine ⟨fun σ H' => ∃ r rs, σ = [some (.ref x), some (.ref r), none, none, none, none, none, none, none, none, none, none] ∧ Same H H' ∧ RowsAt H' r rs PL, ?_, ?_⟩
    · clear q
      exact ⟨.ref x, rfl, x, lv, lh, d, PL, rfl, hw, fun r rs H1 s1 _ _ h1 => ⟨r, rs, rfl, s1, h1⟩⟩
    rintro σ H1 ⟨r, rs, rfl, s1, hR1⟩
    obtain ⟨dx, hx0⟩ := hw.w.ins
    have hx := s1 _ _ hx0
    have hW := hw.mono s1
    have q : ∀ x' lv' lh' d' H', Fr H1 H' x' lv' lh' d' → WAt T.Watcher.C H' x' lv' lh' d' PL.words ((kindsD PL).map (·.1)) ((kindsD PL).map (·.2)) (rowsOf (dropM PL).rules) → Q (.ref x') H' := fun x' lv' lh' d' H' F h => q x' lv' lh' d' H' (s1.trans F.sm) (s1.free F.x) (s1.free F.v) (s1.free F.h) (s1.free F.d) h
    refine ⟨fun σ H' => ∃ x' lv' lh' d', σ = [some (.ref x), some (.ref r), some (.ref x'), none, none, none, none, none, none, none, none, none] ∧ Fr H1 H' x' lv' lh' d' ∧ WAt T.Watcher.C H' x' lv' lh' d' PL.words [0] [0] [], ?_, ?_⟩
    · clear q
      refine ⟨.ref x, rfl, x, T.Watcher.C, dx, _, .int PL.words, rfl, hx, T.Watcher.cl, T.W.n1, rfl, fun x' dx' nx ndx ne => ?_⟩
      have sX : Same H1 (upd (upd H1 dx' (.own x')) x' (.ins T.Watcher.C dx' [])) := (same_new ndx).trans (same_new (by rw [upd_ne ne.symm]; exact nx))
      refine ⟨x', x', dx', .int PL.words, .int PL.words, rfl, upd_same, .int _, fun n en n0 n1 H' lv lh dd b' f1 f2 f3 hW => ⟨rfl, ?_⟩, fun bad e he => ?_⟩
      · cases en
        exact ⟨x', lv, lh, dd, rfl, ⟨fun c o e => b' c o (sX c o e) (ne_of_none e nx), nx, sX.free f1, sX.free f2, sX.free f3⟩, hW⟩
      · rw [btw_true hw.ok.w.1 hw.ok.w.2] at bad
        cases bad
    rintro σ H2 ⟨x', lv', lh', d', rfl, F, hV⟩
    refine ⟨fun σ H' => ∃ t, σ = [some (.ref x), some (.ref r), some (.ref x'), some (.ref t), none, none, none, none, none, none, none, none] ∧ Fr H1 H' x' lv' lh' d' ∧ WAt T.Watcher.C H' x' lv' lh' d' PL.words [0] [0] [] ∧ H' t = some (.tup ((PL.kinds.map (·.1)).map V.int)), ?_, ?_⟩
    · clear q
      refine ⟨.ref x, rfl, x, dx, _, rfl, F.sm _ _ hx, rfl, x, lv, lh, d, _, _, _, _, rfl, hW.w.mono F.sm, fun t nt => ?_⟩
      exact ⟨t, rfl, ⟨F.sm.trans (same_new nt), F.x, F.v, F.h, F.d⟩, hV.mono (same_new nt), upd_same⟩
    clear F hV
    rintro σ H2 ⟨t, rfl, F, hV, ht⟩
    have bd0 := ver_bd hw.ok.k (i := 0) (Int.le_refl 0) (by omega)
    refine ⟨fun σ H' => σ = [some (.ref x), some (.ref r), some (.ref x'), some (.ref t), none, none, none, none, none, none, none, none] ∧ Fr H1 H' x' lv' lh' d' ∧ WAt T.Watcher.C H' x' lv' lh' d' PL.words (((kindsD PL).take 1).map (·.1)) (((kindsD PL).take 1).map (·.2)) [] ∧ H' t = some (.tup ((PL.kinds.map (·.1)).map V.int)), ?_, ?_⟩
    · clear q
      obtain ⟨dx', hx'⟩ := hV.ins
      refine ⟨.ref x', rfl, x', dx', _, rfl, hx', rfl, .ref t, rfl, t, _, 0, .int (verAt PL.kinds 0), rfl, rfl, SqT.of ht, ver_at (Int.le_refl 0) (by omega), ?_⟩
      refine ⟨x', lv', lh', d', PL.words, [0], [0], [], x', .int 0, .int (verAt PL.kinds 0), .int 0, .int (verAt PL.kinds 0), rfl, hV, .int _, .int _, fun bad => ?_, fun _ bad => ?_, fun s v es ev _ _ _ _ H' k1 hW' => ?_⟩
      · cases bad
      · rw [btw_true bd0.1 bd0.2] at bad
        cases bad
      · cases es
        cases ev
        rw [kd_one hw.ok]
        exact ⟨rfl, ⟨fun c o e => k1 c o (F.sm c o e) (ne_of_none e F.v), F.x, F.v, F.h, F.d⟩, hW', k1 _ _ ht (fun e => by rw [e, hV.ver] at ht; cases ht)⟩
    clear F hV ht
    rintro σ H2 ⟨rfl, F, hV, ht⟩
    refine ⟨fun σ H' => ∃ y4, σ = [some (.ref x), some (.ref r), some (.ref x'), some (.ref t), y4, none, none, none, none, none, none, none] ∧ Fr H1 H' x' lv' lh' d' ∧ WAt T.Watcher.C H' x' lv' lh' d' PL.words ((kindsD PL).map (·.1)) ((kindsD PL).map (·.2)) [], ?_, ?_⟩
    · clear q
      refine ⟨.ref x, rfl, x, dx, _, rfl, F.sm _ _ hx, x, lv, lh, d, _, _, _, _, rfl, hW.w.mono F.sm, PL.kinds.length, by rw [List.length_map], by omega, 1, (PL.kinds.length : Int), rfl, ⟨by decide, by decide, by omega, by omega⟩, ?_⟩
      refine for_range (n := ((PL.kinds.length : Int) - 1).toNat) (fun i σ H' => ∃ y4, σ = [some (.ref x), some (.ref r), some (.ref x'), some (.ref t), y4, none, none, none, none, none, none, none] ∧ Fr H1 H' x' lv' lh' d' ∧ WAt T.Watcher.C H' x' lv' lh' d' PL.words (((kindsD PL).take (1 + i)).map (·.1)) (((kindsD PL).take (1 + i)).map (·.2)) [] ∧ H' t = some (.tup ((PL.kinds.map (·.1)).map V.int))) ?_ ?_ ?_
      · exact ⟨none, rfl, F, hV, ht⟩
      · clear F hV ht
        rintro i σ H' hi ⟨y4, rfl, F, hV, ht⟩
        have hi2 : 1 + i < PL.kinds.length := by omega
        have ei : (1 : Int) + (i : Int) = ((1 + i : Nat) : Int) := by omega
        rw [ei]
        obtain ⟨dx', hx'⟩ := hV.ins
        have hR := hR1.mono F.sm
        have ea : rs[1 + i]? = some (rs[1 + i]'(by rw [hR.len]; exact hi2)) := List.getElem?_eq_getElem _
        generalize rs[1 + i]'(by rw [hR.len]; exact hi2) = ra at ea
        have hra := hR.row _ _ ea
        have iA : atI (rs.map V.ref) ((1 + i : Nat) : Int) = some (.ref ra) := atI_nat (by rw [List.getElem?_map, ea]; rfl)
        refine ⟨.ref x', rfl, x', dx', _, rfl, hx', rfl, .ref t, rfl, .int ((1 + i : Nat) : Int), rfl, t, _, ((1 + i : Nat) : Int), .int (verAt PL.kinds ((1 + i : Nat) : Int)), rfl, rfl, SqT.of ht, ver_at (by omega) (by omega), .ref r, rfl, .int ((1 + i : Nat) : Int), rfl, r, _, ((1 + i : Nat) : Int), .ref ra, rfl, rfl, SqT.of hR.at_, iA, ra, _, rfl, .inr hra.sq, ?_⟩
        have eL : (((rowM PL (1 + i)).map V.int).length : Int) = ((rowI PL ((1 + i : Nat) : Int)).length : Int) := by
          rw [List.length_map]
          unfold rowI
          rw [Int.toNat_natCast]
        rw [eL]
        have b1 := ver_bd hw.ok.k (i := ((1 + i : Nat) : Int)) (by omega) (by omega)
        have b2 := held_bd hw.ok.k (i := ((1 + i : Nat) : Int)) (by omega) (by omega)
        have b3 := rowI_le hw.ok (p := ((1 + i : Nat) : Int)) (by omega) (by omega)
        have lt : (((kindsD PL).take (1 + i)).map (·.1)).length = 1 + i := by rw [List.length_map, List.length_take, kindsD_len]; omega
        refine ⟨x', lv', lh', d', PL.words, _, _, [], x', .int (verAt PL.kinds ((1 + i : Nat) : Int)), .int ((rowI PL ((1 + i : Nat) : Int)).length : Int), .int (verAt PL.kinds ((1 + i : Nat) : Int)), .int ((rowI PL ((1 + i : Nat) : Int)).length : Int), rfl, hV, .int _, .int _, fun bad => ?_, fun _ bad => ?_, fun _ _ six => ?_, fun a b ea eb _ _ _ H'' k1 hW' => ?_⟩
        · rw [btw_true b1.1 b1.2] at bad
          cases bad
        · rw [btw_true (by omega) (by omega)] at bad
          cases bad
        · omega
        · cases ea
          cases eb
          rw [show 1 + (i + 1) = (1 + i) + 1 from rfl, kd_take hi2, List.map_append, List.map_append]
          exact ⟨_, rfl, ⟨fun c o e => k1 c o (F.sm c o e) (ne_of_none e F.v) (ne_of_none e F.h), F.x, F.v, F.h, F.d⟩, hW', k1 _ _ ht (fun e => by rw [e, hV.ver] at ht; cases ht) (fun e => by rw [e, hV.hel] at ht; cases ht)⟩
      · rintro σ H' ⟨y4, rfl, F, hV, ht⟩
        rw [List.take_of_length_le (by rw [kindsD_len]; omega)] at hV
        exact ⟨y4, rfl, F, hV⟩
    clear F hV ht
    rintro σ H2 ⟨y4, rfl, F, hV⟩
    refine ⟨fun σ H' => σ[2]? = some (some (.ref x')) ∧ Fr H1 H' x' lv' lh' d' ∧ WAt T.Watcher.C H' x' lv' lh' d' PL.words ((kindsD PL).map (·.1)) ((kindsD PL).map (·.2)) (rowsOf (dropM PL).rules), ?_, ?_⟩
    · clear q
      refine ⟨.ref x, rfl, x, dx, _, rfl, F.sm _ _ hx, rfl, x, lv, lh, d, _, _, _, _, rfl, hW.w.mono F.sm, fun tt H3 kvs s3 nt ht hkv => ?_⟩
      refine ⟨tt, kvs, rfl, ht, fun o => ?_⟩
      rw [← sortP_rows hW.ok.nd] at hkv
      have F3 : Fr H1 H3 x' lv' lh' d' := ⟨F.sm.trans s3, F.x, F.v, F.h, F.d⟩
      have V3 := hV.mono s3
      have ntx : tt ≠ x' := fun e => by
        obtain ⟨dx', hx'⟩ := hV.ins
        rw [e, hx'] at nt
        cases nt
      have ntv : tt ≠ lv' := fun e => by rw [e, hV.ver] at nt; cases nt
      have nth' : tt ≠ lh' := fun e => by rw [e, hV.hel] at nt; cases nt
      have ntd : tt ≠ d' := fun e => by
        obtain ⟨_, hd, _⟩ := hV.rul
        rw [e, hd] at nt
        cases nt
      have n1 : H1 tt = none := F.sm.free nt
      have V4 := V3.off (o := .frz o (.dT kvs)) ht (fun _ z => nomatch z) ntx ntv nth' ntd
      have k4 : ∀ c ob, H1 c = some ob → (upd H3 tt (.frz o (.dT kvs))) c = some ob := fun c ob e => by
        rw [upd_ne (ne_of_none e n1)]
        exact F3.sm _ _ e
      have tp4 : Tups H3 (upd H3 tt (.frz o (.dT kvs))) := Tups.put ht (fun _ z => by cases z)
      have hkv4 := hkv.mono tp4
      have ht4 : (upd H3 tt (.frz o (.dT kvs))) tt = some (.frz o (.dT kvs)) := upd_same
      generalize upd H3 tt (.frz o (.dT kvs)) = H4 at *
      have lk : kvs.length = (sortP PL.rules).length := by
        have := Paired.length hkv
        rw [this]
        unfold rowsOf
        rw [List.length_map]
      refine for_it walk_itemsT (fun i σ H' => ∃ y4 y5 y6 y7 y8 y9, σ = [some (.ref x), some (.ref r), some (.ref x'), some (.ref t), y4, y5, y6, y7, y8, y9, none, none] ∧ (∀ c ob, H4 c = some ob → c ≠ d' → H' c = some ob) ∧ WAt T.Watcher.C H' x' lv' lh' d' PL.words ((kindsD PL).map (·.1)) ((kindsD PL).map (·.2)) (rowsOf (((sortP PL.rules).take i).filterMap (dropU PL)))) ?_ ?_ ?_ ?_
      · exact ⟨y4, none, none, none, none, none, rfl, fun c ob e _ => e, V4⟩
      · rintro i σ H' hi ⟨y4, y5, y6, y7, y8, y9, rfl, k, h'⟩
        exact k _ _ ht4 ntd
      · rintro i y σ H5 H6 hi ⟨y4, y5, y6, y7, y8, y9, rfl, k5, V5⟩ ⟨TT, kk, v, qa, ekv, rfl, hqa, nT, rfl⟩
        obtain ⟨d4, hd4, _⟩ := V4.rul
        have tp5 : Tups H4 H5 := fun c xs e => k5 c _ e (ne_of e hd4 (fun z => nomatch z))
        obtain ⟨dd, hRr, tdv⟩ := kvd_get (hkv4.mono tp5) ekv
        obtain ⟨rr, er, rfl, rfl⟩ := rows_get hRr
        have s6 : Same H5 (upd H5 TT (.tup [.ref qa, v])) := same_new nT
        have hT : (upd H5 TT (.tup [.ref qa, v])) TT = some (.tup [.ref qa, v]) := upd_same
        obtain ⟨ba, bs, rfl, hba, hbs⟩ := (tdv.mono (Tups.same s6)).rule
        have hq6 := s6 _ _ hqa
        have V6 := V5.mono s6
        have k6 : ∀ c ob, H4 c = some ob → c ≠ d' → (upd H5 TT (.tup [.ref qa, .ref ba])) c = some ob := fun c ob e n => s6 _ _ (k5 c ob e n)
        generalize upd H5 TT (.tup [.ref qa, .ref ba]) = H6 at *
        have rmem := (sortP_in hW.ok.nd).mp (List.mem_of_getElem? er)
        obtain ⟨kr, tg, sk⟩ := rr
        obtain ⟨si, wj, tst, ek, _⟩ := hW.ok.r _ rmem
        have ek : kr = _ := ek
        subst ek
        obtain ⟨s0, s1', w0, w1, tok, g0, g1, sok⟩ := rule_parts hW.ok rmem
        dsimp only at g0 g1 sok hba hbs hqa hq6
        refine ⟨TT, _, rfl, SqT.of hT, rfl, .ref qa, [.ref ba], rfl, qa, _, rfl, SqT.of hq6, rfl, .int si, [.int wj, kV tst], rfl, .int wj, [kV tst], rfl, kV tst, [], rfl, rfl, .ref ba, [], rfl, ba, _, rfl, SqT.of hba, rfl, .int tg, [.ref bs], rfl, .ref bs, [], rfl, rfl, rfl, ?_⟩
        have sm16 : Same H1 H6 := fun c ob e => k6 c ob (k4 c ob e) (ne_of_none e F.d)
        have hR6 := hR1.mono sm16
        have rowEq : ∀ {p : Int}, 0 ≤ p → p < PL.kinds.length → ∃ ra, atI (rs.map V.ref) p = some (.ref ra) ∧ ∀ H', Same H1 H' → HT H' ra (rowI PL p) := fun {p} p0 p1 => by
          have ea : rs[p.toNat]? = some (rs[p.toNat]'(by rw [hR6.len]; omega)) := List.getElem?_eq_getElem _
          refine ⟨_, ?_, fun H' s => (hR1.mono s).row _ _ ea⟩
          have e : ((p.toNat : Nat) : Int) = p := by omega
          have := atI_nat (xs := rs.map V.ref) (j := p.toNat) (v := .ref (rs[p.toNat]'(by rw [hR6.len]; omega))) (by rw [List.getElem?_map, ea]; rfl)
          rwa [e] at this
        obtain ⟨ra, iA, hra⟩ := rowEq s0 s1'
        obtain ⟨rb, iB, hrb⟩ := rowEq g0 g1
        refine cutT (t := tOr _ _) (keepT PL si tst) (fun Q' k' => ?_) (fun H7 s7 => ?_)
        · refine ⟨kV tst, rfl, x, kD tst, "new", ldK tst, rfl, ?_⟩
          rcases tok with ⟨n, rfl, n0, n1⟩ | rfl
          · refine ⟨false, rfl, iteF ⟨.int n, rfl, .ref r, rfl, .int si, rfl, r, _, si, .ref ra, rfl, rfl, SqT.of hR6.at_, iA, ra, _, rfl, .inr (hra _ sm16).sq, rfl, flat_ints _, ?_⟩⟩
            refine ⟨decide (n ∈ rowI PL si), ?_, k' _ (Same.refl _)⟩
            show V.bl (inV (.int n) ((rowI PL si).map V.int)) = _
            rw [inV_ints]
          · exact ⟨true, rfl, iteT (k' _ (Same.refl _))⟩
        have sm17 := sm16.trans s7
        have V7 := V6.mono s7
        have k7 : ∀ c ob, H4 c = some ob → c ≠ d' → H7 c = some ob := fun c ob e n => s7 _ _ (k6 c ob e n)
        have hbs7 := s7 _ _ hbs
        cases hk : keepT PL si tst with
        | false =>
          refine iteF ⟨_, _, _, _, _, _, rfl, k7, ?_⟩
          have e0 : dropU PL (([Sum.inl si, Sum.inl wj, tst], (tg, sk)) : PRule) = none := by
            show (if keepT PL si tst = true then _ else none) = none
            rw [if_neg (by rw [hk]; exact Bool.false_ne_true)]
          have et : ((sortP PL.rules).take (i + 1)).filterMap (dropU PL) = ((sortP PL.rules).take i).filterMap (dropU PL) := by
            rw [List.take_add_one, er, List.filterMap_append]
            show _ ++ [_].filterMap (dropU PL) = _
            rw [List.filterMap_cons, e0]
            exact List.append_nil _
          rw [et]
          exact V7
        | true =>
          refine iteT ?_
          have e1 : dropU PL (([Sum.inl si, Sum.inl wj, tst], (tg, sk)) : PRule) = some ([Sum.inl si, Sum.inl wj, renK (rowI PL si) tst], (tg, srcsD PL si tg sk)) := by
            show (if keepT PL si tst = true then _ else none) = _
            rw [if_pos hk]
          obtain ⟨et, nk⟩ := drop_take hW.ok er e1
          have nmem := (drop_mem hW.ok).mpr ⟨si, wj, tst, (tg, sk), rmem, hk, rfl⟩
          obtain ⟨_, _, _, _, tok', _, _, sok'⟩ := rule_parts (dropM_ok hW.ok) nmem
          dsimp only at sok'
          have lsk := sok.len
          have hR7 := hR1.mono sm17
          refine ⟨.ref r, rfl, .int tg, rfl, r, _, tg, .ref rb, rfl, rfl, SqT.of hR7.at_, iB, rb, rfl, ⟨_, (hrb _ sm17).sq⟩, fun D nD => ?_⟩
          refine lc_tup (K := K) (a := rb) (xs := (rowI PL tg).map V.int) (fun j H' => Same H7 H' ∧ H' D = some (.lst ((((rowI PL tg).take j).map (srcA sk)).map kV))) ?_ ?_ ?_ ?_
          · exact ⟨same_new nD, upd_same⟩
          · rintro j H8 hj ⟨s8, hD⟩
            exact (hrb _ (sm17.trans s8)).sq
          · rintro j y H8 hj ⟨s8, hD⟩
            rw [List.getElem?_map] at hj
            obtain ⟨i', hi', rfl⟩ := Option.map_eq_some_iff.mp hj
            obtain ⟨m, rfl, hm, _⟩ := (rowI_mem g0).mp (List.mem_of_getElem? hi')
            refine ⟨rfl, .ref bs, rfl, .int (m : Int), rfl, bs, _, (m : Int), kV (srcA sk (m : Int)), rfl, rfl, SqT.of (s8 _ _ hbs7), atI_key (by omega) (by omega), _, hD, ?_, ?_, ?_⟩
            · rw [List.length_map, List.length_map]
              have := List.length_take_le j (rowI PL tg)
              have := rowI_le hW.ok g0 g1
              have := held_bd hW.ok.k g0 g1
              rw [List.length_take]
              omega
            · intro b ob e
              rw [upd_ne (ne_of_none e nD)]
              exact s8 _ _ e
            · rw [upd_same, List.take_add_one, hi', List.map_append, List.map_append]
              rfl
          · rintro H8 ⟨s8, hD⟩
            rw [List.length_map, List.take_length] at hD
            have V8 := V7.mono s8
            have k8 : ∀ c ob, H4 c = some ob → c ≠ d' → H8 c = some ob := fun c ob e n => s8 _ _ (k7 c ob e n)
            have sm18 := sm17.trans s8
            have hR8 := hR1.mono sm18
            obtain ⟨dx', hx'⟩ := V8.ins
            have tk : (∃ n, tst = Sum.inl n ∧ n ∈ rowI PL si) ∨ tst = Sum.inr ("new" : Str) ∨ tst = Sum.inr ("value" : Str) := by
              rcases keepT_test tok hk with e | e
              · exact .inr (.inl e)
              · exact .inl e
            have b3 := held_bd hW.ok.k g0 g1
            have b4 := rowI_le hW.ok g0 g1
            refine ⟨.ref x', rfl, x', dx', _, rfl, hx', rfl, .int si, rfl, .int wj, rfl, kV tst, rfl, .ref r, rfl, .int si, rfl, r, _, si, .ref ra, rfl, rfl, SqT.of hR8.at_, iA, ra, _, tst, rfl, hra _ sm18, tk, fun H9 s9 => ?_⟩
            have hD9 := s9 _ _ hD
            refine ⟨.int tg, rfl, .ref D, rfl, D, rfl, ⟨_, SqL.of hD9⟩, fun D2 nD2 => ?_⟩
            refine lc_list (xs := ((rowI PL tg).map (srcA sk)).map kV) (fun j H' => Same H9 H' ∧ H' D2 = some (.lst (((((rowI PL tg).map (srcA sk)).take j).map (renK (rowI PL si))).map kV))) ?_ ?_ ?_ ?_
            · exact ⟨same_new nD2, upd_same⟩
            · rintro j H10 hj ⟨s10, hD2⟩
              exact SqL.of (s10 _ _ hD9)
            · rintro j y H10 hj ⟨s10, hD2⟩
              rw [List.getElem?_map] at hj
              obtain ⟨k, hkk, rfl⟩ := Option.map_eq_some_iff.mp hj
              have hkm := List.mem_of_getElem? hkk
              obtain ⟨i', hi', ek⟩ := List.mem_map.mp hkm
              obtain ⟨k1, f1, f2⟩ := src_at hW.ok rmem hk hi'
              have ek1 : k = k1 := by
                rw [← ek]
                unfold srcA
                dsimp only at f1
                rw [f1]
                rfl
              subst ek1
              have tk2 : (∃ n, k = Sum.inl n ∧ n ∈ rowI PL si) ∨ k = Sum.inr ("new" : Str) ∨ k = Sum.inr ("value" : Str) := by
                rcases f2 with e | e
                · exact .inl e
                · exact .inr (.inr e.1)
              have sm110 := (sm18.trans s9).trans s10
              refine ⟨rfl, kV k, rfl, .ref r, rfl, .int si, rfl, r, _, si, .ref ra, rfl, rfl, SqT.of (hR1.mono sm110).at_, iA, ra, _, k, rfl, hra _ sm110, tk2, fun H11 s11 => ⟨_, s11 _ _ hD2, ?_, ?_, ?_⟩⟩
              · rw [List.length_map, List.length_map, List.length_take, List.length_map]
                omega
              · intro b ob e
                rw [upd_ne (ne_of_none e nD2)]
                exact s11 _ _ (s10 _ _ e)
              · rw [upd_same, List.take_add_one, hkk, List.map_append, List.map_append]
                rfl
            · rintro H10 ⟨s10, hD2⟩
              rw [List.length_map, List.take_length, ← srcsD_eq] at hD2
              refine ⟨D2, _, rfl, .inl ⟨SqL.of hD2, fun U nU => ?_⟩⟩
              have sU := same_new (o := .tup ((srcsD PL si tg sk).map kV)) nU
              have hU : (upd H10 U (.tup ((srcsD PL si tg sk).map kV))) U = some (.tup ((srcsD PL si tg sk).map kV)) := upd_same
              have s8U := (s9.trans s10).trans sU
              generalize upd H10 U (.tup ((srcsD PL si tg sk).map kV)) = H11 at *
              have V11 := V8.mono s8U
              have hx11 := s8U _ _ hx'
              have k11 : ∀ c ob, H4 c = some ob → c ≠ d' → H11 c = some ob := fun c ob e n => s8U _ _ (k8 c ob e n)
              have l1 : ((kindsD PL).map (·.1)).length = PL.kinds.length := by rw [List.length_map, kindsD_len]
              have sl : (srcsD PL si tg sk).length ≤ 50 := by
                rw [srcsD_eq, List.length_map, List.length_map]
                omega
              have lt : (rowsOf (((sortP PL.rules).take i).filterMap (dropU PL))).length < 1000 := by
                unfold rowsOf
                rw [List.length_map]
                have h1 := List.length_filterMap_le (dropU PL) ((sortP PL.rules).take i)
                have h2 := sortP_len PL.rules
                have h3 := hW.ok.len
                rw [List.length_take] at h1
                omega
              have hK : (dropM PL).kinds = kindsD PL := rfl
              rw [hK] at tok' sok'
              refine ⟨x', lv', lh', d', PL.words, _, _, _, x', .int si, .int wj, kV (renK (rowI PL si) tst), .int tg, .ref U, .int si, .int wj, kD (renK (rowI PL si) tst), .int tg, .tuple ((srcsD PL si tg sk).map kD), rfl, V11, .int _, .int _, ldK _, .int _, .tup (ne_of hU hx11 (fun z => nomatch z)) hU (lds_keys _), kD_nd _, smallT_keys sl, lt, fun bad => ?_, fun _ bad => ?_, fun _ _ bad => ?_, fun s' tg' w' es eg ew _ _ _ _ _ _ => ⟨fun bad => ?_, fun t' ev ed _ => ⟨fun bad => ?_, fun ks' are => ⟨fun z => ?_, fun _ H' k12 hW' => ?_⟩⟩⟩⟩
              · rw [l1, btw_true s0 (by omega)] at bad
                cases bad
              · rw [l1, btw_true g0 (by omega)] at bad
                cases bad
              · rw [btw_true w0 (by omega)] at bad
                cases bad
              · cases es
                rw [hAt_held, testOk_is tok'] at bad
                cases bad
              · cases es
                cases eg
                have := kD_inj ed
                subst this
                rw [hAt_held, hAt_held] at bad
                exact absurd ⟨_, srcOk_are sok'⟩ bad
              · cases es
                cases ew
                have := kD_inj ed
                subst this
                rw [rowsOf_keys] at z
                exact absurd z nk
              · cases es
                cases eg
                cases ew
                have := kD_inj ed
                subst this
                have e9 := map_kD_inj (PyData.tuple.inj are.d)
                subst e9
                refine ⟨_, _, _, _, _, _, rfl, fun c o e n => k12 c o (k11 c o e n) n, ?_⟩
                rw [et, rowsOf_snoc]
                exact hW'
      · rintro σ H' ⟨y4, y5, y6, y7, y8, y9, rfl, k, h'⟩
        rw [lk, List.take_length] at h'
        exact ⟨rfl, ⟨fun c o e => k c o (k4 c o e) (ne_of_none e F.d), F.x, F.v, F.h, F.d⟩, h'⟩
    rintro σ H4 ⟨es, F, hV⟩
    exact ⟨.ref x', es, q x' lv' lh' d' H4 F hV⟩
end

/-! ### edits of watchers -/
theorem kV_injV {a b : Key} (e : kV a = kV b) : a = b := by
  cases a with
  | inl n =>
    cases b with
    | inl m => rw [V.int.inj e]
    | inr s => exact V.noConfusion e
  | inr s =>
    cases b with
    | inl m => exact V.noConfusion e
    | inr s2 => rw [V.str.inj e]
theorem do_add_state {C CV CL : Addr} {H : Hp} {Q : VK} {E : XK} {x lv lh d : Addr} {n : Int} {ks : List (Int × Int)} {R : Rows} {a b : Int} (hW : WAt C H x lv lh d n (ks.map (·.1)) (ks.map (·.2)) R) (l5 : ks.length ≤ 5) (a0 : 0 ≤ a) (a3 : a ≤ 3) (b0 : 0 ≤ b) (b3 : b ≤ 3)
    (q : ∀ H', (∀ c o, H c = some o → c ≠ lv → c ≠ lh → H' c = some o) → WAt C H' x lv lh d n ((ks ++ [(a, b)]).map (·.1)) ((ks ++ [(a, b)]).map (·.2)) R → Q (.int ks.length) H') : sp_add_state C CV CL [.ref x, .int a, .int b] H Q E := by
  refine ⟨x, lv, lh, d, n, _, _, R, x, .int a, .int b, .int a, .int b, rfl, hW, .int _, .int _, fun bad => ?_, fun _ bad => ?_, fun _ _ six => ?_, fun a' b' ea eb _ _ _ H' k1 hW' => ?_⟩
  · rw [btw_true a0 a3] at bad
    cases bad
  · rw [btw_true b0 b3] at bad
    cases bad
  · rw [List.length_map] at six
    omega
  · cases ea
    cases eb
    rw [List.length_map]
    exact q H' k1 (by rw [List.map_append, List.map_append]; exact hW')
theorem do_add_rule {C : Addr} {X : ErrA} {H : Hp} {Q : VK} {E : XK} {x lv lh d sa : Addr} {n : Int} {ks : List (Int × Int)} {R : Rows} {s w : Int} {t : Key} {v : Int × List Key} (hW : WAt C H x lv lh d n (ks.map (·.1)) (ks.map (·.2)) R) (hks : KindsOk ks) (hr : RuleOk n ks ([Sum.inl s, Sum.inl w, t], v)) (hk : [Sum.inl s, Sum.inl w, t] ∉ R.map (·.1)) (lt : R.length < 1000)
    (hsa : H sa = some (.tup (v.2.map kV))) (q : ∀ H', (∀ c o, H c = some o → c ≠ d → H' c = some o) → WAt C H' x lv lh d n (ks.map (·.1)) (ks.map (·.2)) (R ++ [([Sum.inl s, Sum.inl w, t], ruleD v)]) → Q .non H') : sp_add_rule C X [.ref x, .int s, .int w, kV t, .int v.1, .ref sa] H Q E := by
  obtain ⟨i, j, t', e, i0, i1, j0, j1, tok, g0, g1, sok⟩ := hr
  injection e with e1 e
  injection e with e2 e
  injection e with e3 _
  have e1' := Sum.inl.inj e1
  have e2' := Sum.inl.inj e2
  subst e1' e2' e3
  obtain ⟨tg, sk⟩ := v
  dsimp only at g0 g1 sok hsa
  obtain ⟨dx, hx⟩ := hW.ins
  have hb1 := held_bd hks i0 i1
  have hb2 := held_bd hks g0 g1
  have sl : sk.length ≤ 50 := by have := sok.len; omega
  have l1 : (ks.map (·.1)).length = ks.length := List.length_map _
  refine ⟨x, lv, lh, d, n, _, _, R, x, .int s, .int w, kV t, .int tg, .ref sa, .int s, .int w, kD t, .int tg, .tuple (sk.map kD), rfl, hW, .int _, .int _, ldK t, .int _, .tup (fun e => by rw [e, hx] at hsa; cases hsa) hsa (lds_keys sk), kD_nd t, smallT_keys sl, lt, fun bad => ?_, fun _ bad => ?_, fun _ _ bad => ?_, fun s' tg' w' es eg ew _ _ _ _ _ _ => ⟨fun bad => ?_, fun t' ev ed _ => ⟨fun bad => ?_, fun ks' are => ⟨fun z => ?_, fun _ H' k7 hW' => ?_⟩⟩⟩⟩
  · rw [l1, btw_true i0 (by omega)] at bad
    cases bad
  · rw [l1, btw_true g0 (by omega)] at bad
    cases bad
  · rw [btw_true j0 (by omega)] at bad
    cases bad
  · cases es
    rw [hAt_held, testOk_is tok] at bad
    cases bad
  · cases es
    cases eg
    have := kD_inj ed
    subst this
    rw [hAt_held, hAt_held] at bad
    exact absurd ⟨sk, srcOk_are sok⟩ bad
  · cases es
    cases ew
    have := kD_inj ed
    subst this
    exact absurd z hk
  · cases es
    cases ew
    cases eg
    have := kD_inj ed
    subst this
    have e4 : ks' = sk := by
      have := PyData.tuple.inj are.d
      exact (map_kD_inj this).symm
    subst e4
    exact q H' k7 hW'

/-! ### dropping once more -/
theorem bi_alk {PL : Plan} (o : PlanOk PL) {c c' : Cfg} (a : CfOk PL c) (b : CfOk PL c') (h : Alk (dropM PL) (projS PL c) (projS PL c')) : Alk PL c c' := fun ms hw => by
  obtain ⟨c1, B1⟩ := bi_run o ms (bi_start a) hw
  obtain ⟨c2, B2⟩ := bi_run o ms (bi_start b) hw
  rw [← B1.ver, ← B2.ver]
  exact h ms hw
theorem nth_iota {n k : Nat} (h : k < n) : nth (iota n) k = (k : Int) := by
  unfold nth iota
  rw [List.getElem?_map, List.getElem?_range h]
  rfl
theorem need_drop {PL : Plan} (o : PlanOk PL) {p : Int} (p0 : 0 ≤ p) (p1 : p < PL.kinds.length) {i : Nat} (hi : i < (rowI PL p).length) : (i : Int) ∈ rowI (dropM PL) p := by
  refine Classical.byContradiction fun hn => ?_
  have hb := held_bd o.k p0 p1
  have lf : (iota (heldAt PL.kinds p).toNat).length = (heldAt PL.kinds p).toNat := iota_len _
  have nf := iota_nd (heldAt PL.kinds p).toNat
  generalize iota (heldAt PL.kinds p).toNat = f at lf nf
  have a : CfOk PL (p, f) := ⟨⟨p0, p1, by show (f.length : Int) = heldAt PL.kinds p; omega⟩, nf⟩
  obtain ⟨z, hz⟩ := fresh_of f
  have hrow : (rowI PL p)[i] ∈ rowI PL p := List.getElem_mem hi
  obtain ⟨k, ek, hk⟩ := row_lt a hrow
  have hk : k < f.length := hk
  have b := proj_ok a
  have lp : (projS PL (p, f)).2.length = (rowI PL p).length := List.length_map _
  have hzp : z ∉ (projS PL (p, f)).2 := fun h => by
    obtain ⟨j, hj, e⟩ := List.mem_map.mp h
    obtain ⟨m, rfl, hm⟩ := row_lt a hj
    exact hz (e ▸ nth_mem.mpr ⟨m, hm, by rw [Int.toNat_natCast]⟩)
  have al := unneeded_alk (dropM_ok o) b (i := i) (by show i < (projS PL (p, f)).2.length; rw [lp]; exact hi) hn hzp
  have e : projS PL (p, f.set k z) = (p, (projS PL (p, f)).2.set i z) := by
    show (p, _) = _
    refine congrArg (Prod.mk p) ?_
    apply List.ext_getElem
    · rw [List.length_set, lp, List.length_map]
    · intro j h1 h2
      have h3 : j < (rowI PL p).length := by rwa [List.length_map] at h1
      have h4 : j < (projS PL (p, f)).2.length := by rw [lp]; exact h3
      obtain ⟨m, em, hm⟩ := row_lt a (List.getElem_mem h3)
      have hm : m < f.length := hm
      have e5 : nth (projS PL (p, f)).2 j = nth f m := by
        rw [nth_at h4]
        have : (projS PL (p, f)).2[j] = nth f ((rowI PL p)[j]).toNat := List.getElem_map ..
        rw [this, em, Int.toNat_natCast]
      have e6 : (((rowI PL p).map fun i => nth (f.set k z) i.toNat)[j]'(by rw [List.length_map]; exact h3)) = nth (f.set k z) m := by
        rw [List.getElem_map, em, Int.toNat_natCast]
      rw [← nth_at h2, nth_set h4, e5]
      refine Eq.trans e6 ?_
      rw [nth_set hm]
      by_cases q : i = j
      · subst q
        have : k = m := by omega
        rw [if_pos this, if_pos rfl]
      · rw [if_neg q, if_neg]
        intro q2
        apply q
        exact (List.getElem_inj (rowI_nd PL p)).mp (by rw [em, ek, q2])
  have b2 := CfOk.set a k hz
  have al2 := bi_alk o a b2 (by rw [e]; exact al)
  exact needed_not o a hk (ek ▸ hrow) hz al2
theorem row_all {PL : Plan} {p : Int} (p0 : 0 ≤ p) (h : ∀ i : Nat, (i : Int) < heldAt PL.kinds p → (i : Int) ∈ rowI PL p) : rowI PL p = iota (heldAt PL.kinds p).toNat := by
  have e : ((p.toNat : Nat) : Int) = p := by omega
  unfold rowI rowM
  rw [e]
  refine List.filter_eq_self.mpr fun n hn => ?_
  obtain ⟨k, hk, rfl⟩ := List.mem_map.mp hn
  have hk := List.mem_range.mp hk
  obtain ⟨m, em, _, hm⟩ := (rowI_mem p0).mp (h k (by omega))
  rw [em]
  exact hm
/-- every place is needed -/
def AllN (PL : Plan) : Prop := ∀ p : Int, 0 ≤ p → p < PL.kinds.length → rowI PL p = iota (heldAt PL.kinds p).toNat
theorem drop_allN {PL : Plan} (o : PlanOk PL) : AllN (dropM PL) := fun p p0 p1 => by
  have hK : (dropM PL).kinds = kindsD PL := rfl
  rw [hK, kindsD_len] at p1
  refine row_all p0 fun i hi => need_drop o p0 p1 ?_
  rw [hK, heldD p0 p1] at hi
  omega
theorem renK_iota {n : Nat} {t : Key} (h : ∀ m, t = Sum.inl m → 0 ≤ m ∧ m < n) : renK (iota n) t = t := by
  cases t with
  | inl m =>
    obtain ⟨m0, m1⟩ := h m rfl
    obtain ⟨k, rfl⟩ : ∃ k : Nat, m = (k : Int) := ⟨m.toNat, by omega⟩
    have hk : k < n := by omega
    have := idx_nth (iota_nd n) (m := k) (by rw [iota_len]; exact hk)
    rw [nth_iota hk] at this
    show Sum.inl (((iota n).idxOf (k : Int) : Nat) : Int) = _
    rw [this]
  | inr x => rfl
theorem kinds_all {PL : Plan} (o : PlanOk PL) (h : AllN PL) : kindsD PL = PL.kinds := by
  apply List.ext_getElem
  · exact kindsD_len PL
  · intro p h1 h2
    have e := kindsD_at (PL := PL) (p := (p : Int)) (by omega) (by omega)
    have hb := held_bd o.k (i := (p : Int)) (by omega) (by omega)
    rw [h (p : Int) (by omega) (by omega), iota_len, Int.toNat_natCast, List.getElem?_eq_getElem h1] at e
    rw [Option.some.inj e]
    have ev : verAt PL.kinds (p : Int) = PL.kinds[p].1 := by
      unfold verAt
      rw [Int.toNat_natCast, List.getElem?_eq_getElem h2]
      rfl
    have eh : heldAt PL.kinds (p : Int) = PL.kinds[p].2 := by
      unfold heldAt
      rw [Int.toNat_natCast, List.getElem?_eq_getElem h2]
      rfl
    rw [Int.toNat_of_nonneg hb.1, ev, eh]
theorem dropU_all {PL : Plan} (o : PlanOk PL) (h : AllN PL) {r : PRule} (hr : r ∈ PL.rules) : dropU PL r = some r := by
  obtain ⟨k, tg, sk⟩ := r
  obtain ⟨s, w, t, ek, _⟩ := o.r _ hr
  have ek : k = _ := ek
  subst ek
  obtain ⟨s0, s1, w0, w1, tok, g0, g1, sok⟩ := rule_parts o hr
  dsimp only at g0 g1 sok
  have hs := h s s0 s1
  have hg := h tg g0 g1
  have bs := held_bd o.k s0 s1
  have bg := held_bd o.k g0 g1
  have ht : ∀ m, t = Sum.inl m → 0 ≤ m ∧ m < ((heldAt PL.kinds s).toNat : Nat) := fun m em => by
    rcases tok with ⟨n, e, n0, n1⟩ | e
    · rw [e] at em
      have := Sum.inl.inj em
      omega
    · rw [e] at em
      cases em
  have hk : keepT PL s t = true := by
    cases t with
    | inl m =>
      obtain ⟨m0, m1⟩ := ht m rfl
      refine decide_eq_true ?_
      rw [hs]
      exact List.mem_map.mpr ⟨m.toNat, List.mem_range.mpr (by omega), by omega⟩
    | inr x => rfl
  show (if keepT PL s t = true then some (([Sum.inl s, Sum.inl w, renK (rowI PL s) t], (tg, srcsD PL s tg sk)) : PRule) else none) = _
  rw [if_pos hk, hs, renK_iota ht]
  have lsk := sok.len
  have es : srcsD PL s tg sk = sk := by
    unfold srcsD
    rw [hg, hs]
    apply List.ext_getElem
    · rw [List.length_map, iota_len]
      omega
    · intro j h1 h2
      rw [List.getElem_map]
      have hj : j < (heldAt PL.kinds tg).toNat := by omega
      have ej : (iota (heldAt PL.kinds tg).toNat)[j]'(by rw [iota_len]; exact hj) = (j : Int) := by
        rw [← nth_at (by rw [iota_len]; exact hj), nth_iota hj]
      rw [ej, Int.toNat_natCast, List.getElem?_eq_getElem h2]
      show renK (iota (heldAt PL.kinds s).toNat) sk[j] = sk[j]
      refine renK_iota fun m em => ?_
      rcases sok.all _ (List.getElem_mem h2) with ⟨n, e, n0, n1⟩ | ⟨e, _⟩
      · rw [e] at em
        have := Sum.inl.inj em
        omega
      · rw [e] at em
        cases em
  rw [es]
theorem drop_all {PL : Plan} (o : PlanOk PL) (h : AllN PL) : dropM PL = ⟨PL.words, PL.kinds, sortP PL.rules⟩ := by
  unfold dropM
  rw [kinds_all o h]
  refine congrArg (Plan.mk PL.words PL.kinds) ?_
  have : ∀ l : List PRule, (∀ r ∈ l, dropU PL r = some r) → l.filterMap (dropU PL) = l := fun l => by
    induction l with
    | nil => exact fun _ => rfl
    | cons r l ih =>
      intro hl
      rw [List.filterMap_cons, hl r List.mem_cons_self]
      show r :: l.filterMap (dropU PL) = _
      rw [ih fun x hx => hl x (List.mem_cons_of_mem _ hx)]
  exact this _ fun r hr => dropU_all o h ((sortP_in o.nd).mp hr)
theorem sortP_prm {R : List PRule} (nd : (R.map (·.1)).Nodup) : (sortP R).Perm R := by
  have h1 := sortP_nodup nd
  have n1 : (sortP R).Nodup := List.Pairwise.of_map (·.1) (fun a b h e => h (by rw [e])) h1
  have n2 : R.Nodup := List.Pairwise.of_map (·.1) (fun a b h e => h (by rw [e])) nd
  exact (List.perm_ext_iff_of_nodup n1 n2).mpr fun r => sortP_in nd
/-- the rows of all places -/
def allD (ks : List (Int × Int)) : PyData := .tuple (ks.map fun k => .tuple ((iota k.2.toNat).map .int))
theorem heldAt_get {ks : List (Int × Int)} {p : Nat} (h : p < ks.length) : heldAt ks (p : Int) = ks[p].2 := by
  unfold heldAt
  rw [Int.toNat_natCast, List.getElem?_eq_getElem h]
  rfl
theorem allN_D {PL : Plan} (h : AllN PL) : neededD PL = allD PL.kinds := by
  unfold neededD neededM allD
  rw [List.map_map]
  refine congrArg PyData.tuple ?_
  apply List.ext_getElem
  · rw [List.length_map, List.length_map, List.length_range]
  · intro p h1 h2
    have hp : p < PL.kinds.length := by rwa [List.length_map] at h2
    rw [List.getElem_map, List.getElem_map, List.getElem_range]
    show PyData.tuple ((rowM PL p).map .int) = PyData.tuple ((iota PL.kinds[p].2.toNat).map .int)
    have e := h (p : Int) (by omega) (by omega)
    unfold rowI at e
    rw [Int.toNat_natCast, heldAt_get hp] at e
    rw [e]
theorem eqv_intsY : ∀ {a b : List Int}, PyData.eqvAll (a.map .int) (b.map .int) = true → a = b
  | [], [], _ => rfl
  | [], _ :: _, h => by cases h
  | _ :: _, [], h => by cases h
  | x :: a, y :: b, h => by
    have h : (x == y && PyData.eqvAll (a.map .int) (b.map .int)) = true := h
    rw [Bool.and_eq_true] at h
    rw [eq_of_beq h.1, eqv_intsY h.2]
theorem eqv_rows : ∀ {a b : List (List Int)}, PyData.eqvAll (a.map fun r => PyData.tuple (r.map .int)) (b.map fun r => PyData.tuple (r.map .int)) = true → a = b
  | [], [], _ => rfl
  | [], _ :: _, h => by cases h
  | _ :: _, [], h => by cases h
  | x :: a, y :: b, h => by
    have h : (PyData.eqvAll (x.map .int) (y.map .int) && PyData.eqvAll (a.map fun r => PyData.tuple (r.map .int)) (b.map fun r => PyData.tuple (r.map .int))) = true := h
    rw [Bool.and_eq_true] at h
    rw [eqv_intsY h.1, eqv_rows h.2]
theorem allN_of {PL : Plan} (h : PyData.eqv (neededD PL) (allD PL.kinds) = true) : AllN PL := fun p p0 p1 => by
  have e : allD PL.kinds = .tuple ((PL.kinds.map fun k => iota k.2.toNat).map fun r => .tuple (r.map .int)) := by
    unfold allD
    rw [List.map_map]
    rfl
  rw [e] at h
  have h := eqv_rows (show PyData.eqvAll ((neededM PL).map fun r => PyData.tuple (r.map .int)) _ = true from h)
  obtain ⟨k, rfl⟩ : ∃ k : Nat, p = (k : Int) := ⟨p.toNat, by omega⟩
  have hk : k < PL.kinds.length := by omega
  have h2 : (neededM PL)[k]? = (PL.kinds.map fun k => iota k.2.toNat)[k]? := by rw [h]
  unfold neededM at h2
  rw [List.getElem?_map, List.getElem?_map, List.getElem?_range hk, List.getElem?_eq_getElem hk] at h2
  unfold rowI
  rw [Int.toNat_natCast, heldAt_get hk]
  exact Option.some.inj h2

/-! ### needed places by reckoning -/
def ulB (PL : Plan) : Nat → Sit → Bool
  | 0, k => unl PL PL k
  | n + 1, k => unl PL PL k || (stepsM PL PL k).any fun x => ulB PL n x.2.2
theorem ulB_ul {PL : Plan} : ∀ (n : Nat) {k : Sit}, ulB PL n k = true → Ul PL PL k
  | 0, _, h => ⟨_, .base List.mem_cons_self, h⟩
  | n + 1, k, h => by
    have h : (unl PL PL k || (stepsM PL PL k).any fun x => ulB PL n x.2.2) = true := h
    rcases Bool.or_eq_true_iff.mp h with z | z
    · exact ⟨_, .base List.mem_cons_self, z⟩
    · obtain ⟨x, hx, hu⟩ := List.any_eq_true.mp z
      obtain ⟨s, r, hs⟩ := ulB_ul n hu
      exact ⟨s, Rch.trans (.step (.base List.mem_cons_self) hx) r, hs⟩
def addSit (S : List Sit) (k : Sit) : List Sit := if k ∈ S then S else S ++ [k]
def bfsS (PL : Plan) : Nat → List Sit → List Sit
  | 0, S => S
  | n + 1, S => bfsS PL n ((S.flatMap fun s => (stepsM PL PL s).map (·.2.2)).foldl addSit S)
def closedB (PL : Plan) (S : List Sit) : Bool := S.all fun s => !unl PL PL s && (stepsM PL PL s).all fun x => decide (x.2.2 ∈ S)
theorem closed_not {PL : Plan} {S : List Sit} {k : Sit} (h : closedB PL S = true) (hk : k ∈ S) : ¬ Ul PL PL k := by
  rintro ⟨s, r, hs⟩
  have hS : s ∈ S := by
    clear hs
    induction r with
    | base hb =>
      rw [List.mem_singleton.mp hb]
      exact hk
    | step _ hx ih =>
      have := List.all_eq_true.mp h _ ih
      rw [Bool.and_eq_true] at this
      exact of_decide_eq_true (List.all_eq_true.mp this.2 _ hx)
  have := List.all_eq_true.mp h _ hS
  rw [Bool.and_eq_true, hs] at this
  cases this.1
def needB (PL : Plan) (p i : Int) : Bool := ulB PL 2 (otherS PL.kinds p i)
def needK (PL : Plan) (p i : Int) : Bool := needB PL p i || (closedB PL (bfsS PL 6 [otherS PL.kinds p i]) && decide (otherS PL.kinds p i ∈ bfsS PL 6 [otherS PL.kinds p i]))
theorem need_eq {PL : Plan} {p i : Int} (h : needK PL p i = true) : need PL p i = needB PL p i := by
  unfold needK at h
  cases e : needB PL p i with
  | true => exact otherS_ul.mpr (ulB_ul 2 e)
  | false =>
    rw [e, Bool.false_or, Bool.and_eq_true] at h
    have := closed_not h.1 (of_decide_eq_true h.2)
    cases e2 : need PL p i with
    | false => rfl
    | true => exact absurd (otherS_ul.mp e2) this
def rowC (PL : Plan) (p : Nat) : List Int := (iota (heldAt PL.kinds (p : Int)).toNat).filter (needB PL (p : Int))
def rowsC (PL : Plan) : List (List Int) := (List.range PL.kinds.length).map (rowC PL)
def rowsK (PL : Plan) : Bool := (List.range PL.kinds.length).all fun p : Nat => (iota (heldAt PL.kinds (p : Int)).toNat).all fun i => needK PL (p : Int) i
theorem rows_eq {PL : Plan} (h : rowsK PL = true) : neededM PL = rowsC PL := by
  unfold neededM rowsC
  refine List.map_congr_left fun p hp => ?_
  have h1 := List.all_eq_true.mp (List.all_eq_true.mp h p hp)
  unfold rowM rowC
  exact List.filter_congr fun i hi => need_eq (h1 i hi)
def dueD (rs : List (List Int)) : PyData := .tuple (rs.map fun r => .tuple (r.map .int))
theorem needed_due {PL : Plan} {rs : List (List Int)} (h : (rowsK PL && decide (rowsC PL = rs)) = true) : neededD PL = dueD rs := by
  rw [Bool.and_eq_true] at h
  unfold neededD dueD
  rw [rows_eq h.1, of_decide_eq_true h.2]
theorem rowsC_len {PL : Plan} {rs : List (List Int)} (h : (rowsK PL && decide (rowsC PL = rs)) = true) : (kindsD PL).map (·.2) = rs.map fun r => (r.length : Int) := by
  rw [Bool.and_eq_true] at h
  rw [← of_decide_eq_true h.2, ← rows_eq h.1]
  unfold kindsD neededM
  rw [List.map_map, List.map_map]
  refine List.map_congr_left fun p _ => ?_
  show ((rowI PL (p : Int)).length : Int) = ((rowM PL p).length : Int)
  unfold rowI
  rw [Int.toNat_natCast]
def testB (h : Int) : Key → Bool
  | .inl n => decide (0 ≤ n ∧ n < h)
  | .inr x => x == ("new" : Str)
theorem testB_ok {h : Int} {t : Key} (e : testB h t = true) : TestOk h t := by
  cases t with
  | inl n => exact .inl ⟨n, rfl, of_decide_eq_true e⟩
  | inr x => exact .inr (by rw [eq_of_beq e])
def srcB (h : Int) (t : Key) : Key → Bool
  | .inl n => decide (0 ≤ n ∧ n < h)
  | .inr x => x == ("value" : Str) && decide (t = Sum.inr ("new" : Str))
theorem srcB_ok {h : Int} {t k : Key} (e : srcB h t k = true) : SrcAt h t k := by
  cases k with
  | inl n => exact .inl ⟨n, rfl, of_decide_eq_true e⟩
  | inr x =>
    have e : (x == ("value" : Str) && decide (t = Sum.inr ("new" : Str))) = true := e
    rw [Bool.and_eq_true] at e
    exact .inr ⟨by rw [eq_of_beq e.1], of_decide_eq_true e.2⟩
def ruleB (w : Int) (ks : List (Int × Int)) (r : PRule) : Bool := match r.1 with
  | [.inl i, .inl j, t] => decide (0 ≤ i ∧ i < ks.length ∧ 0 ≤ j ∧ j < w ∧ 0 ≤ r.2.1 ∧ r.2.1 < ks.length ∧ (r.2.2.length : Int) = heldAt ks r.2.1 ∧ r.2.2.Nodup) && testB (heldAt ks i) t && r.2.2.all (srcB (heldAt ks i) t)
  | _ => false
theorem ruleB_ok {w : Int} {ks : List (Int × Int)} {r : PRule} (e : ruleB w ks r = true) : RuleOk w ks r := by
  unfold ruleB at e
  split at e
  · next i j t e1 =>
    rw [Bool.and_eq_true, Bool.and_eq_true] at e
    obtain ⟨⟨e2, e3⟩, e4⟩ := e
    obtain ⟨a, b, c, d, f, g, h, k⟩ := of_decide_eq_true e2
    exact ⟨i, j, t, e1, a, b, c, d, testB_ok e3, f, g, h, k, fun x hx => srcB_ok (List.all_eq_true.mp e4 x hx)⟩
  · cases e
def planB (PL : Plan) : Bool := decide (1 ≤ PL.words ∧ PL.words ≤ 3 ∧ 1 ≤ PL.kinds.length ∧ PL.kinds.length ≤ 6 ∧ heldAt PL.kinds 0 = 0 ∧ (PL.rules.map (·.1)).Nodup ∧ PL.rules.length ≤ 100) && PL.kinds.all (fun k => decide (0 ≤ k.1 ∧ k.1 ≤ 3 ∧ 0 ≤ k.2 ∧ k.2 ≤ 3)) && PL.rules.all (ruleB PL.words PL.kinds)
theorem planB_ok {PL : Plan} (e : planB PL = true) : PlanOk PL := by
  unfold planB at e
  rw [Bool.and_eq_true, Bool.and_eq_true] at e
  obtain ⟨⟨e1, e2⟩, e3⟩ := e
  obtain ⟨a, b, c, d, f, g, h⟩ := of_decide_eq_true e1
  exact ⟨⟨a, b⟩, ⟨⟨c, d⟩, f, fun k hk => of_decide_eq_true (List.all_eq_true.mp e2 k hk)⟩, fun r hr => ruleB_ok (List.all_eq_true.mp e3 r hr), g, h⟩
/-! the watchers by hand -/
def kNew : Key := Sum.inr ("new" : Str)
def kVal : Key := Sum.inr ("value" : Str)
def hdK (tl : Int) : List (Int × Int) := [(0, 0), (0, 2), (tl, 0), (0, 1)]
def hR1 : List PRule := [([Sum.inl 0, Sum.inl 0, kNew], (3, [kVal])), ([Sum.inl 3, Sum.inl 0, kNew], (1, [Sum.inl 0, kVal])), ([Sum.inl 1, Sum.inl 0, Sum.inl 0], (2, [])), ([Sum.inl 1, Sum.inl 0, Sum.inl 1], (1, [Sum.inl 0, Sum.inl 1])), ([Sum.inl 1, Sum.inl 0, kNew], (1, [Sum.inl 0, kVal]))]
def hR2 : List PRule := [([Sum.inl 0, Sum.inl 0, kNew], (3, [kVal])), ([Sum.inl 3, Sum.inl 0, kNew], (1, [Sum.inl 0, kVal])), ([Sum.inl 1, Sum.inl 0, Sum.inl 0], (2, [])), ([Sum.inl 1, Sum.inl 0, kNew], (1, [Sum.inl 0, kVal]))]
def hR3 : List PRule := [([Sum.inl 0, Sum.inl 0, kNew], (3, [kVal])), ([Sum.inl 3, Sum.inl 0, kNew], (1, [Sum.inl 0, kVal])), ([Sum.inl 1, Sum.inl 0, Sum.inl 0], (2, [])), ([Sum.inl 1, Sum.inl 0, kNew], (2, []))]
def dueA (tl : Int) : List (List Int) := if tl = 1 then [[], [0], [], [0]] else [[], [], [], []]
def dueB (tl : Int) : List (List Int) := if tl = 1 then [[], [1], [], [0]] else [[], [], [], []]
def handB (w tl : Int) : Bool := planB ⟨w, hdK tl, hR1⟩ && planB ⟨w, hdK tl, hR2⟩ && planB ⟨w, hdK tl, hR3⟩ && (rowsK ⟨w, hdK tl, hR1⟩ && decide (rowsC ⟨w, hdK tl, hR1⟩ = dueA tl)) && (rowsK ⟨w, hdK tl, hR2⟩ && decide (rowsC ⟨w, hdK tl, hR2⟩ = dueA tl)) && (rowsK ⟨w, hdK tl, hR3⟩ && decide (rowsC ⟨w, hdK tl, hR3⟩ = dueB tl))
theorem hand_10 : handB 1 0 = true := by decide +kernel
theorem hand_11 : handB 1 1 = true := by decide +kernel
theorem hand_20 : handB 2 0 = true := by decide +kernel
theorem hand_21 : handB 2 1 = true := by decide +kernel
theorem hand_all {w tl : Int} (hw : w = 1 ∨ w = 2) (ht : tl = 0 ∨ tl = 1) : PlanOk ⟨w, hdK tl, hR1⟩ ∧ PlanOk ⟨w, hdK tl, hR2⟩ ∧ PlanOk ⟨w, hdK tl, hR3⟩ ∧ neededD ⟨w, hdK tl, hR1⟩ = dueD (dueA tl) ∧ neededD ⟨w, hdK tl, hR2⟩ = dueD (dueA tl) ∧ neededD ⟨w, hdK tl, hR3⟩ = dueD (dueB tl) ∧ (kindsD ⟨w, hdK tl, hR3⟩).map (·.2) = (dueB tl).map fun r => (r.length : Int) := by
  have h : handB w tl = true := by
    rcases hw with rfl | rfl <;> rcases ht with rfl | rfl
    · exact hand_10
    · exact hand_11
    · exact hand_20
    · exact hand_21
  unfold handB at h
  simp only [Bool.and_eq_true] at h
  obtain ⟨⟨⟨⟨⟨a, b⟩, c⟩, d⟩, e⟩, f⟩ := h
  have d := Bool.and_eq_true_iff.mpr d
  have e := Bool.and_eq_true_iff.mpr e
  have f := Bool.and_eq_true_iff.mpr f
  exact ⟨planB_ok a, planB_ok b, planB_ok c, needed_due d, needed_due e, needed_due f, rowsC_len f⟩

/-! ### watchers by hand -/
def rLenQ (K : PySem.W.Frag) : List V → Hp → VK → Prop := fun xs H Q => ∃ p ys, xs = [.ref p] ∧ (SqL K H p ys ∨ SqT K H p ys) ∧ Q (.int ys.length) H
theorem tds_of {H : Hp} : ∀ {xs : List V} {ds : List PyData}, xs.length = ds.length → (∀ (i : Nat) (v : V) (dd : PyData), xs[i]? = some v → ds[i]? = some dd → TD H v dd) → TDs H xs ds
  | [], [], _, _ => .nil
  | [], _ :: _, h, _ => by cases h
  | _ :: _, [], h, _ => by cases h
  | x :: xs, dd :: ds, h, f => .cons (f 0 x dd rfl rfl) (tds_of (by simpa using h) fun i v e h1 h2 => f (i + 1) v e h1 h2)
theorem rows_td {H : Hp} {r : Addr} {rs : List Addr} {PL : Plan} (h : RowsAt H r rs PL) : TD (unfL H rs) (.ref r) (neededD PL) := by
  refine .tup (unfL_tup rs h.at_) (tds_of ?_ fun i v dd h1 h2 => ?_)
  · unfold neededM
    rw [List.length_map, List.length_map, List.length_map, List.length_range, h.len]
  · rw [List.getElem?_map] at h1
    obtain ⟨a, ha, rfl⟩ := Option.map_eq_some_iff.mp h1
    unfold neededM at h2
    rw [List.map_map, List.getElem?_map] at h2
    obtain ⟨p, hp, rfl⟩ := Option.map_eq_some_iff.mp h2
    have hp' := (List.getElem?_eq_some_iff.mp hp)
    obtain ⟨hl, ep⟩ := hp'
    rw [List.getElem_range] at ep
    subst ep
    obtain ⟨ob, h3, _⟩ := h.row _ a ha
    exact .tup (unfL_in rs (List.mem_of_getElem? ha) h3) TDs.ofInts
theorem do_remove {C CX : Addr} {H : Hp} {Q : VK} {E : XK} {x lv lh d : Addr} {n : Int} {vs hs : List Int} {R : Rows} {s w : Int} {t : Key} (hW : WAt C H x lv lh d n vs hs R) (hm : mayBe (.int s) (.int w) (kD t) = true) (hk : [Sum.inl s, Sum.inl w, t] ∈ R.map (·.1))
    (q : ∀ H', (∀ c o, H c = some o → c ≠ d → H' c = some o) → WAt C H' x lv lh d n vs hs (dropR R [Sum.inl s, Sum.inl w, t]) → Q .non H') : sp_remove_rule C CX [.ref x, .int s, .int w, kV t] H Q E := by
  refine ⟨x, lv, lh, d, n, vs, hs, R, x, .int s, .int w, kV t, .int s, .int w, kD t, rfl, hW, .int _, .int _, ldK t, fun bad => ?_, fun s' w' t' es ew et _ => ⟨fun bad => ?_, fun _ H' k hW' => ?_⟩⟩
  · rw [hm] at bad
    cases bad
  · cases es
    cases ew
    rw [kV_injV et] at hk
    exact absurd hk bad
  · cases es
    cases ew
    rw [← kV_injV et] at hW'
    exact q H' k hW'
theorem WAt.but {C : Addr} {H H' : Hp} {p c x lv lh d : Addr} {n : Int} {vs hs : List Int} {R : Rows} (h : WAt C H x lv lh d n vs hs R) (hP : Pen H p c) (b : Keep p H H') (n1 : lv ≠ p) (n2 : lh ≠ p) : WAt C H' x lv lh d n vs hs R := by
  obtain ⟨l, hp⟩ := hP.at
  obtain ⟨⟨dx, a⟩, f, g, ⟨kvs, e, k⟩, ne, i, j, len⟩ := h
  exact ⟨⟨dx, b _ _ a (ne_of a hp (fun z => nomatch z))⟩, b _ _ f n1, b _ _ g n2, ⟨kvs, b _ _ e (ne_of e hp (fun z => nomatch z)), k.mono (hP.tups b)⟩, ne, i, j, len⟩
def keyIn (R : Rows) (k : List Key) : Bool := R.any fun r => decide (r.1 = k)
theorem key_out {R : Rows} {k : List Key} (h : keyIn R k = false) : k ∉ R.map (·.1) := fun z => by
  obtain ⟨r, hr, e⟩ := List.mem_map.mp z
  have := List.any_eq_false.mp h r hr
  exact this (decide_eq_true e)
theorem key_in {R : Rows} {k : List Key} (h : keyIn R k = true) : k ∈ R.map (·.1) := by
  obtain ⟨r, hr, e⟩ := List.any_eq_true.mp h
  exact List.mem_map.mpr ⟨r, hr, of_decide_eq_true e⟩
theorem dueA_shown (tv : Int) (h : tv = 0 ∨ tv = 1) : SeqAt.shaped (dueD (dueA tv)) = true ∧ (dueD (dueA tv)).canLay0 = true := by
  rcases h with rfl | rfl <;> decide +kernel
theorem dueB_shown (tv : Int) (h : tv = 0 ∨ tv = 1) : SeqAt.shaped (dueD (dueB tv)) = true ∧ (dueD (dueB tv)).canLay0 = true := by
  rcases h with rfl | rfl <;> decide +kernel
theorem lens_shown (tv : Int) (h : tv = 0 ∨ tv = 1) : SeqAt.shaped (.tuple ((dueB tv).map fun r => .int (r.length : Int))) = true ∧ (PyData.tuple ((dueB tv).map fun r => .int (r.length : Int))).canLay0 = true := by
  rcases h with rfl | rfl <;> decide +kernel
def sp_law_needless_right : Sp := fun us H Q _ => ∃ (p c : Addr), us = [.ref p] ∧ Pen H p c ∧ ∀ H', Q (.bl true) H'
section
variable {P : Program} {w : World} {K : PySem.W.Frag} {mg : Str → Option Value} {base : Heap}
abbrev N_law_needless_right : List Str := ["pen", "words", "watcher", "tells", "hoard", "told", "first", "due", "some"]
theorem sc_law_needless_right : FnScope N_law_needless_right ["pen"] (defScope s_law_needless_right) := ⟨rfl, rfl, rfl, by decide +kernel, rfl, by decide +kernel, by decide +kernel⟩
theorem G_law_needless_right (T : Tx K mg) : FnG P w K mg base CX0 10 T.law_needless_right.f T.law_needless_right.fd ["pen"] sp_law_needless_right := by
  refine okG T.law_needless_right.F sc_law_needless_right (fun vs H Q E h => ?_) (fun cdv A outer s H vs Q E gd hr h => ?_)
  · obtain ⟨p, c, rfl, _⟩ := h
    rfl
  · obtain ⟨p, c, rfl, hP, q⟩ := h
    refine ⟨_, 
      (C8.pss_cut (ps_set (i := 1) sc_law_needless_right.nd rfl (.inl rfl) (pe_op op_add pe_int (pe_callG (G_law_draw T) gd (hr.mono (by decide)) rfl T.law_draw.g T.law_draw.F.kp T.law_draw.b .nil pass0 (pa_cons (pv 0) (pa_cons pe_int pa_nil))))) -- words = 1 + _law_draw(pen, 2)
      (C8.pss_cut (ps_par (i := 2) (j := 3) rfl sc_law_needless_right.nd rfl rfl (by decide) rfl rfl (pa_cons (pe_makeG T.mk_Watcher (G_Watcher_init T) gd (hr.mono (by decide)) rfl T.Watcher.g T.Watcher_init.b .nil passNo (pa_cons (pv 1) pa_nil)) (pa_cons (pe_cmpR op_eq (pe_callG (G_law_draw T) gd (hr.mono (by decide)) rfl T.law_draw.g T.law_draw.F.kp T.law_draw.b .nil pass0 (pa_cons (pv 0) (pa_cons pe_int pa_nil))) pe_int (nomark _)) pa_nil)) rfl) -- watcher, tells = (Watcher(words), _law_draw(pen, 2) == 0)
      (C8.pss_cut (ps_par (i := 4) (j := 5) rfl sc_law_needless_right.nd rfl rfl (by decide) rfl rfl (pa_cons (pe_methG (pv 2) T.Watcher.cl T.Watcher_add_state.M (G_Watcher_add_state T) gd (hr.mono (by decide)) T.Watcher_add_state.b .nil passNo (pa_cons pe_int (pa_cons pe_int pa_nil))) (pa_cons (pe_methG (pv 2) T.Watcher.cl T.Watcher_add_state.M (G_Watcher_add_state T) gd (hr.mono (by decide)) T.Watcher_add_state.b .nil passNo (pa_cons (pe_callTy call_int1 (by rfl) T.m_int (by decide +kernel) (pa_cons (pv 3) pa_nil)) (pa_cons pe_int pa_nil))) pa_nil)) rfl) -- hoard, told = (watcher.add_state(0, 2), watcher.add_state(int(tells), 0))
      (C8.pss_cut (ps_set (i := 6) sc_law_needless_right.nd rfl (.inl rfl) (pe_methG (pv 2) T.Watcher.cl T.Watcher_add_state.M (G_Watcher_add_state T) gd (hr.mono (by decide)) T.Watcher_add_state.b .nil passNo (pa_cons pe_int (pa_cons pe_int pa_nil)))) -- first = watcher.add_state(0, 1)
      (C8.pss_cut (ps_expr (pe_methG (pv 2) T.Watcher.cl T.Watcher_add_rule.M (G_Watcher_add_rule T) gd (hr.mono (by decide)) T.Watcher_add_rule.b .nil passNo (pa_cons pe_int (pa_cons pe_int (pa_cons pe_str (pa_cons (pv 6) (pa_cons (pe_tup (pa_cons pe_str pa_nil)) pa_nil))))))) -- watcher.add_rule(0, 0, 'new', first, ('value',))
      (C8.pss_cut (ps_expr (pe_methG (pv 2) T.Watcher.cl T.Watcher_add_rule.M (G_Watcher_add_rule T) gd (hr.mono (by decide)) T.Watcher_add_rule.b .nil passNo (pa_cons (pv 6) (pa_cons pe_int (pa_cons pe_str (pa_cons (pv 4) (pa_cons (pe_tup (pa_cons pe_int (pa_cons pe_str pa_nil))) pa_nil))))))) -- watcher.add_rule(first, 0, 'new', hoard, (0, 'value'))
      (C8.pss_cut (ps_expr (pe_methG (pv 2) T.Watcher.cl T.Watcher_add_rule.M (G_Watcher_add_rule T) gd (hr.mono (by decide)) T.Watcher_add_rule.b .nil passNo (pa_cons (pv 4) (pa_cons pe_int (pa_cons pe_int (pa_cons (pv 5) (pa_cons (pe_tup pa_nil) pa_nil))))))) -- watcher.add_rule(hoard, 0, 0, told, ())
      (C8.pss_cut (ps_expr (pe_methG (pv 2) T.Watcher.cl T.Watcher_add_rule.M (G_Watcher_add_rule T) gd (hr.mono (by decide)) T.Watcher_add_rule.b .nil passNo (pa_cons (pv 4) (pa_cons pe_int (pa_cons pe_int (pa_cons (pv 4) (pa_cons (pe_tup (pa_cons pe_int (pa_cons pe_int pa_nil))) pa_nil))))))) -- watcher.add_rule(hoard, 0, 1, hoard, (0, 1))
      (C8.pss_cut (ps_expr (pe_methG (pv 2) T.Watcher.cl T.Watcher_add_rule.M (G_Watcher_add_rule T) gd (hr.mono (by decide)) T.Watcher_add_rule.b .nil passNo (pa_cons (pv 4) (pa_cons pe_int (pa_cons pe_str (pa_cons (pv 4) (pa_cons (pe_tup (pa_cons pe_int (pa_cons pe_str pa_nil))) pa_nil))))))) -- watcher.add_rule(hoard, 0, 'new', hoard, (0, 'value'))
      (C8.pss_cut (ps_set (i := 7) sc_law_needless_right.nd rfl (.inl rfl) (pe_ifExp (pt_val (pv 3)) (pe_tup (pa_cons (pe_tup pa_nil) (pa_cons (pe_tup (pa_cons pe_int pa_nil)) (pa_cons (pe_tup pa_nil) (pa_cons (pe_tup (pa_cons pe_int pa_nil)) pa_nil))))) (pe_tup (pa_cons (pe_tup pa_nil) (pa_cons (pe_tup pa_nil) (pa_cons (pe_tup pa_nil) (pa_cons (pe_tup pa_nil) pa_nil))))))) -- due = ((), (0,), (), (0,)) if tells else ((), (), (), ())
      (C8.pss_cut (ps_if (pt_cmpR (op_neT hr.units) (pe_unf (pe_callG (G_needed_places T) gd (hr.mono (by decide)) rfl T.needed_places.g T.needed_places.F.kp T.needed_places.b .nil pass0 (pa_cons (pv 2) pa_nil))) (pv 7) (nomark _)) 
        (pss_one (ps_ret pe_bl)) -- return False
         pss_nil) -- if needed_places(watcher) != due:
      (C8.pss_cut (ps_expr (pe_methG (pv 2) T.Watcher.cl T.Watcher_remove_rule.M (G_Watcher_remove_rule T) gd (hr.mono (by decide)) T.Watcher_remove_rule.b .nil passNo (pa_cons (pv 4) (pa_cons pe_int (pa_cons pe_int pa_nil))))) -- watcher.remove_rule(hoard, 0, 1)
      (pss_cons (ps_if (pt_cmpR (op_neT hr.units) (pe_unf (pe_callG (G_needed_places T) gd (hr.mono (by decide)) rfl T.needed_places.g T.needed_places.F.kp T.needed_places.b .nil pass0 (pa_cons (pv 2) pa_nil))) (pv 7) (nomark _)) 
        (pss_one (ps_ret pe_bl)) -- return False
         pss_nil) -- if needed_places(watcher) != due:
      (C8.pss_cut (ps_expr (pe_methG (pv 2) T.Watcher.cl T.Watcher_remove_rule.M (G_Watcher_remove_rule T) gd (hr.mono (by decide)) T.Watcher_remove_rule.b .nil passNo (pa_cons (pv 4) (pa_cons pe_int (pa_cons pe_str pa_nil))))) -- watcher.remove_rule(hoard, 0, 'new')
      (C8.pss_cut (ps_expr (pe_methG (pv 2) T.Watcher.cl T.Watcher_add_rule.M (G_Watcher_add_rule T) gd (hr.mono (by decide)) T.Watcher_add_rule.b .nil passNo (pa_cons (pv 4) (pa_cons pe_int (pa_cons pe_str (pa_cons (pv 5) (pa_cons (pe_tup pa_nil) pa_nil))))))) -- watcher.add_rule(hoard, 0, 'new', told, ())
      (C8.pss_cut (ps_set (i := 7) sc_law_needless_right.nd rfl (.inl rfl) (pe_ifExp (pt_val (pv 3)) (pe_tup (pa_cons (pe_tup pa_nil) (pa_cons (pe_tup (pa_cons pe_int pa_nil)) (pa_cons (pe_tup pa_nil) (pa_cons (pe_tup (pa_cons pe_int pa_nil)) pa_nil))))) (pe_tup (pa_cons (pe_tup pa_nil) (pa_cons (pe_tup pa_nil) (pa_cons (pe_tup pa_nil) (pa_cons (pe_tup pa_nil) pa_nil))))))) -- due = ((), (1,), (), (0,)) if tells else ((), (), (), ())
      (pss_one (ps_ret (pe_and (pe_cmpR (op_eqT hr.units) (pe_unf (pe_callG (G_needed_places T) gd (hr.mono (by decide)) rfl T.needed_places.g T.needed_places.F.kp T.needed_places.b .nil pass0 (pa_cons (pv 2) pa_nil))) (pv 7) (nomark _)) (pe_one (pe_cmpR (op_eqT hr.units) (pe_meth0G (pe_callG (G_dropped T) gd (hr.mono (by decide)) rfl T.dropped.g T.dropped.F.kp T.dropped.b .nil pass0 (pa_cons (pv 2) pa_nil)) T.Watcher.cl T.Watcher_held_counts.M (G_Watcher_held_counts T) gd (hr.mono (by decide)) T.Watcher_held_counts.b .nil pass0) (pe_callTy call_tuple_of (by rfl) T.m_tuple (by decide +kernel) (pa_cons (pe_lc (own := [("some", 8)]) (g := gName 8) rfl sc_law_needless_right.nd (pi_tup (pv 7)) (blkOk_by (N := N_law_needless_right) (sc := defScope s_law_needless_right) (by decide +kernel)) (fun _ _ _ _ _ => (pg_name (i := 8) sc_law_needless_right.nd rfl (.inl rfl))) (fun _ _ _ _ _ => pts_nil) (fun _ _ _ _ _ => (pe_callB (r := rLenQ K) call_len_seq (by rfl) T.m_len PySem.boot_len (pa_cons (pv 8) pa_nil)))) pa_nil)) (nomark _)))))) -- return needed_places(watcher) == due and dropped(watcher).held_counts() == tuple([len(some) for some in due])
      )))))))))))))))) , ?_⟩
    refine ⟨fun σ H' => ∃ n : Int, (n = 1 ∨ n = 2) ∧ σ = [some (.ref p), some (.int n), none, none, none, none, none, none, none] ∧ Pen H' p c, ?_, ?_⟩
    · exact ⟨.ref p, rfl, p, c, 2, rfl, hP, by decide, by decide, fun d H1 d0 d1 k1 hP1 => ⟨1, d, rfl, rfl, 1 + d, by omega, rfl, hP1⟩⟩
    clear hP
    rintro σ H1 ⟨n, hn, rfl, hP⟩
    refine ⟨fun σ H' => ∃ (tl : Bool) (x lv lh d : Addr), σ = [some (.ref p), some (.int n), some (.ref x), some (.bl tl), none, none, none, none, none] ∧ WAt T.Watcher.C H' x lv lh d n [0] [0] [], ?_, ?_⟩
    · refine ⟨.int n, rfl, fun x dx nx ndx ne => ?_⟩
      refine ⟨x, x, dx, .int n, .int n, rfl, upd_same, .int _, fun n' en n0 n1 H' lv lh dd b' f1 f2 f3 hW => ⟨rfl, ?_⟩, fun bad e he => ?_⟩
      · cases en
        have sX : Same H1 (upd (upd H1 dx (.own x)) x (.ins T.Watcher.C dx [])) := (same_new ndx).trans (same_new (by rw [upd_ne ne.symm]; exact nx))
        have s1 : Same H1 H' := fun c o e => b' c o (sX c o e) (ne_of_none e nx)
        refine ⟨.ref p, rfl, p, c, 2, rfl, hP.mono s1, by decide, by decide, fun e H3 e0 e1 k3 hP3 => ⟨rfl, _, _, rfl, ?_⟩⟩
        exact ⟨_, x, lv, lh, dd, rfl, hW.but (hP.mono s1) k3 (hP.free (sX.free f1)).1.symm (hP.free (sX.free f2)).1.symm⟩
      · rw [btw_true (by omega) (by omega)] at bad
        cases bad
    clear hP
    rintro σ H2 ⟨tl, x, lv, lh, d, rfl, hW⟩
    obtain ⟨tv, etv, htv⟩ : ∃ tv : Int, (if tl = true then (1 : Int) else 0) = tv ∧ (tv = 0 ∨ tv = 1) := by
      cases tl
      · exact ⟨0, rfl, .inl rfl⟩
      · exact ⟨1, rfl, .inr rfl⟩
    obtain ⟨ok1, ok2, ok3, du1, du2, du3, hl3⟩ := hand_all hn htv
    refine ⟨fun σ H' => σ = [some (.ref p), some (.int n), some (.ref x), some (.bl tl), some (.int 1), some (.int 2), none, none, none] ∧ WAt T.Watcher.C H' x lv lh d n (([(0, 0), (0, 2), (tv, 0)] : List (Int × Int)).map (·.1)) (([(0, 0), (0, 2), (tv, 0)] : List (Int × Int)).map (·.2)) [], ?_, ?_⟩
    · obtain ⟨dx, hx⟩ := hW.ins
      refine ⟨.ref x, rfl, x, dx, _, rfl, hx, rfl, ?_⟩
      dsimp only [L2.tCons, L2.tC, L2.tNil, List.cons_append, List.nil_append]
      refine do_add_state (ks := [(0, 0)]) (a := 0) (b := 2) hW (by decide) (by decide) (by decide) (by decide) (by decide) fun H3 k3 hW3 => ?_
      obtain ⟨dx, hx⟩ := hW3.ins
      refine ⟨.ref x, rfl, x, dx, _, rfl, hx, rfl, .bl tl, rfl, .inr ⟨tl, rfl, ?_⟩⟩
      rw [etv]
      dsimp only [L2.tCons, L2.tC, L2.tNil, List.cons_append, List.nil_append]
      refine do_add_state (ks := [(0, 0), (0, 2)]) (a := tv) (b := 0) hW3 (by decide) (by omega) (by omega) (by decide) (by decide) fun H4 k4 hW4 => ?_
      exact ⟨_, _, rfl, rfl, hW4⟩
    clear hW
    rintro σ H3 ⟨rfl, hW⟩
    refine ⟨fun σ H' => σ = [some (.ref p), some (.int n), some (.ref x), some (.bl tl), some (.int 1), some (.int 2), some (.int 3), none, none] ∧ WAt T.Watcher.C H' x lv lh d n ((hdK tv).map (·.1)) ((hdK tv).map (·.2)) [], ?_, ?_⟩
    · obtain ⟨dx, hx⟩ := hW.ins
      refine ⟨.ref x, rfl, x, dx, _, rfl, hx, rfl, ?_⟩
      dsimp only [L2.tCons, L2.tC, L2.tNil, List.cons_append, List.nil_append]
      exact do_add_state (ks := [(0, 0), (0, 2), (tv, 0)]) (a := 0) (b := 1) hW (by show 3 ≤ 5; decide) (by decide) (by decide) (by decide) (by decide) fun H4 k4 hW4 => ⟨rfl, hW4⟩
    clear hW
    rintro σ H3 ⟨rfl, hW⟩
    refine ⟨fun σ H' => σ = [some (.ref p), some (.int n), some (.ref x), some (.bl tl), some (.int 1), some (.int 2), some (.int 3), none, none] ∧ WAt T.Watcher.C H' x lv lh d n ((hdK tv).map (·.1)) ((hdK tv).map (·.2)) (rowsOf (hR1.take 1)), ?_, ?_⟩
    · obtain ⟨dx, hx⟩ := hW.ins
      refine ⟨.ref x, rfl, x, dx, _, rfl, hx, rfl, .int 3, rfl, by show 1 ≤ sizeLine; decide, fun TT nT => ?_⟩
      dsimp only [L2.tCons, L2.tC, L2.tNil, List.cons_append, List.nil_append]
      exact do_add_rule (s := 0) (w := 0) (t := kNew) (v := (3, [kVal])) (hW.mono (same_new nT)) ok1.k (ok1.r _ (List.Mem.head _)) (key_out (by decide +kernel)) (by decide +kernel) upd_same fun H' k' hW' => ⟨rfl, hW'⟩
    clear hW
    rintro σ H3 ⟨rfl, hW⟩
    refine ⟨fun σ H' => σ = [some (.ref p), some (.int n), some (.ref x), some (.bl tl), some (.int 1), some (.int 2), some (.int 3), none, none] ∧ WAt T.Watcher.C H' x lv lh d n ((hdK tv).map (·.1)) ((hdK tv).map (·.2)) (rowsOf (hR1.take 2)), ?_, ?_⟩
    · obtain ⟨dx, hx⟩ := hW.ins
      refine ⟨.ref x, rfl, x, dx, _, rfl, hx, rfl, .int 3, rfl, .int 1, rfl, by show 2 ≤ sizeLine; decide, fun TT nT => ?_⟩
      dsimp only [L2.tCons, L2.tC, L2.tNil, List.cons_append, List.nil_append]
      exact do_add_rule (s := 3) (w := 0) (t := kNew) (v := (1, [Sum.inl 0, kVal])) (hW.mono (same_new nT)) ok1.k (ok1.r _ (List.Mem.tail _ (List.Mem.head _))) (key_out (by decide +kernel)) (by decide +kernel) upd_same fun H' k' hW' => ⟨rfl, hW'⟩
    clear hW
    rintro σ H3 ⟨rfl, hW⟩
    refine ⟨fun σ H' => σ = [some (.ref p), some (.int n), some (.ref x), some (.bl tl), some (.int 1), some (.int 2), some (.int 3), none, none] ∧ WAt T.Watcher.C H' x lv lh d n ((hdK tv).map (·.1)) ((hdK tv).map (·.2)) (rowsOf (hR1.take 3)), ?_, ?_⟩
    · obtain ⟨dx, hx⟩ := hW.ins
      refine ⟨.ref x, rfl, x, dx, _, rfl, hx, rfl, .int 1, rfl, .int 2, rfl, by show 0 ≤ sizeLine; decide, fun TT nT => ?_⟩
      dsimp only [L2.tCons, L2.tC, L2.tNil, List.cons_append, List.nil_append]
      exact do_add_rule (s := 1) (w := 0) (t := Sum.inl 0) (v := (2, [])) (hW.mono (same_new nT)) ok1.k (ok1.r _ (List.Mem.tail _ (List.Mem.tail _ (List.Mem.head _)))) (key_out (by decide +kernel)) (by decide +kernel) upd_same fun H' k' hW' => ⟨rfl, hW'⟩
    clear hW
    rintro σ H3 ⟨rfl, hW⟩
    refine ⟨fun σ H' => σ = [some (.ref p), some (.int n), some (.ref x), some (.bl tl), some (.int 1), some (.int 2), some (.int 3), none, none] ∧ WAt T.Watcher.C H' x lv lh d n ((hdK tv).map (·.1)) ((hdK tv).map (·.2)) (rowsOf (hR1.take 4)), ?_, ?_⟩
    · obtain ⟨dx, hx⟩ := hW.ins
      refine ⟨.ref x, rfl, x, dx, _, rfl, hx, rfl, .int 1, rfl, .int 1, rfl, by show 2 ≤ sizeLine; decide, fun TT nT => ?_⟩
      dsimp only [L2.tCons, L2.tC, L2.tNil, List.cons_append, List.nil_append]
      exact do_add_rule (s := 1) (w := 0) (t := Sum.inl 1) (v := (1, [Sum.inl 0, Sum.inl 1])) (hW.mono (same_new nT)) ok1.k (ok1.r _ (List.Mem.tail _ (List.Mem.tail _ (List.Mem.tail _ (List.Mem.head _))))) (key_out (by decide +kernel)) (by decide +kernel) upd_same fun H' k' hW' => ⟨rfl, hW'⟩
    clear hW
    rintro σ H3 ⟨rfl, hW⟩
    refine ⟨fun σ H' => σ = [some (.ref p), some (.int n), some (.ref x), some (.bl tl), some (.int 1), some (.int 2), some (.int 3), none, none] ∧ WAt T.Watcher.C H' x lv lh d n ((hdK tv).map (·.1)) ((hdK tv).map (·.2)) (rowsOf (hR1.take 5)), ?_, ?_⟩
    · obtain ⟨dx, hx⟩ := hW.ins
      refine ⟨.ref x, rfl, x, dx, _, rfl, hx, rfl, .int 1, rfl, .int 1, rfl, by show 2 ≤ sizeLine; decide, fun TT nT => ?_⟩
      dsimp only [L2.tCons, L2.tC, L2.tNil, List.cons_append, List.nil_append]
      exact do_add_rule (s := 1) (w := 0) (t := kNew) (v := (1, [Sum.inl 0, kVal])) (hW.mono (same_new nT)) ok1.k (ok1.r _ (List.Mem.tail _ (List.Mem.tail _ (List.Mem.tail _ (List.Mem.tail _ (List.Mem.head _)))))) (key_out (by decide +kernel)) (by decide +kernel) upd_same fun H' k' hW' => ⟨rfl, hW'⟩
    clear hW
    rintro σ H3 ⟨rfl, hW⟩
    refine ⟨fun σ H' => ∃ du, σ = [some (.ref p), some (.int n), some (.ref x), some (.bl tl), some (.int 1), some (.int 2), some (.int 3), some (.ref du), none] ∧ WAt T.Watcher.C H' x lv lh d n ((hdK tv).map (·.1)) ((hdK tv).map (·.2)) (rowsOf hR1) ∧ TD H' (.ref du) (dueD (dueA tv)), ?_, ?_⟩
    · refine ⟨.bl tl, rfl, tl, rfl, ?_⟩
      cases tl with
      | true =>
        obtain rfl : (1 : Int) = tv := etv
        refine iteT ⟨by show 0 ≤ sizeLine; decide, fun t1 n1 => ⟨by show 1 ≤ sizeLine; decide, fun t2 n2 => ⟨by show 0 ≤ sizeLine; decide, fun t3 n3 => ⟨by show 1 ≤ sizeLine; decide, fun t4 n4 => ⟨by show 4 ≤ sizeLine; decide, fun t5 n5 => ?_⟩⟩⟩⟩⟩
        have s5 := same_new (o := .tup [.ref t1, .ref t2, .ref t3, .ref t4]) n5
        have s4 := (same_new (o := .tup [.int 0]) n4).trans s5
        have s3 := (same_new (o := .tup []) n3).trans s4
        have s2 := (same_new (o := .tup [.int 0]) n2).trans s3
        exact ⟨t5, rfl, hW.mono ((same_new n1).trans s2), .tup upd_same (.cons (.tup (s2 _ _ upd_same) .nil) (.cons (.tup (s3 _ _ upd_same) (.cons (.int _) .nil)) (.cons (.tup (s4 _ _ upd_same) .nil) (.cons (.tup (s5 _ _ upd_same) (.cons (.int _) .nil)) .nil))))⟩
      | false =>
        obtain rfl : (0 : Int) = tv := etv
        refine iteF ⟨by show 0 ≤ sizeLine; decide, fun t1 n1 => ⟨by show 0 ≤ sizeLine; decide, fun t2 n2 => ⟨by show 0 ≤ sizeLine; decide, fun t3 n3 => ⟨by show 0 ≤ sizeLine; decide, fun t4 n4 => ⟨by show 4 ≤ sizeLine; decide, fun t5 n5 => ?_⟩⟩⟩⟩⟩
        have s5 := same_new (o := .tup [.ref t1, .ref t2, .ref t3, .ref t4]) n5
        have s4 := (same_new (o := .tup []) n4).trans s5
        have s3 := (same_new (o := .tup []) n3).trans s4
        have s2 := (same_new (o := .tup []) n2).trans s3
        exact ⟨t5, rfl, hW.mono ((same_new n1).trans s2), .tup upd_same (.cons (.tup (s2 _ _ upd_same) .nil) (.cons (.tup (s3 _ _ upd_same) .nil) (.cons (.tup (s4 _ _ upd_same) .nil) (.cons (.tup (s5 _ _ upd_same) .nil) .nil))))⟩
    clear hW
    rintro σ H3 ⟨du, rfl, hW, hdu⟩
    refine ⟨fun σ H' => σ = [some (.ref p), some (.int n), some (.ref x), some (.bl tl), some (.int 1), some (.int 2), some (.int 3), some (.ref du), none] ∧ WAt T.Watcher.C H' x lv lh d n ((hdK tv).map (·.1)) ((hdK tv).map (·.2)) (rowsOf hR1) ∧ TD H' (.ref du) (dueD (dueA tv)), ?_, ?_⟩
    · refine ⟨.ref x, rfl, x, lv, lh, d, ⟨n, hdK tv, hR1⟩, rfl, ⟨hW, ok1⟩, fun r rs H' s' n1 n2 hR => ⟨rs, n2, .ref du, rfl, ?_⟩⟩
      have sU := unfL_same s' n2
      have h1 := rows_td hR
      rw [du1] at h1
      have hsh := dueA_shown tv htv
      refine ⟨_, _, h1, TD.mono (Tups.same sU) _ hdu, hsh.1, hsh.1, ?_⟩
      rw [SeqAt.eqv_refl]
      · exact ⟨false, rfl, iteF ⟨rfl, hW.mono sU, TD.mono (Tups.same sU) _ hdu⟩⟩
      · exact hsh.2
    clear hW hdu
    rintro σ H3 ⟨rfl, hW, hdu⟩
    refine ⟨fun σ H' => σ = [some (.ref p), some (.int n), some (.ref x), some (.bl tl), some (.int 1), some (.int 2), some (.int 3), some (.ref du), none] ∧ WAt T.Watcher.C H' x lv lh d n ((hdK tv).map (·.1)) ((hdK tv).map (·.2)) (rowsOf hR2) ∧ TD H' (.ref du) (dueD (dueA tv)), ?_, ?_⟩
    · obtain ⟨dx, hx⟩ := hW.ins
      obtain ⟨kvd, hd, _⟩ := hW.rul
      refine ⟨.ref x, rfl, x, dx, _, rfl, hx, rfl, .int 1, rfl, ?_⟩
      dsimp only [L2.tCons, L2.tC, L2.tNil, List.cons_append, List.nil_append]
      exact do_remove (s := 1) (w := 0) (t := Sum.inl 1) hW rfl (key_in (by decide +kernel)) fun H' k' hW' => ⟨rfl, hW', TD.mono (fun a xs e => k' a _ e (ne_of e hd (fun z => nomatch z))) _ hdu⟩
    clear hW hdu
    rintro σ H3 ⟨rfl, hW, hdu⟩
    refine ⟨.ref x, rfl, x, lv, lh, d, ⟨n, hdK tv, hR2⟩, rfl, ⟨hW, ok2⟩, fun r rs H' s' n1 n2 hR => ⟨rs, n2, .ref du, rfl, ?_⟩⟩
    have sU := unfL_same s' n2
    have h1 := rows_td hR
    rw [du2] at h1
    have hsh := dueA_shown tv htv
    refine ⟨_, _, h1, TD.mono (Tups.same sU) _ hdu, hsh.1, hsh.1, ?_⟩
    rw [SeqAt.eqv_refl _ hsh.2]
    refine ⟨false, rfl, iteF ?_⟩
    have hW := hW.mono sU
    clear hdu h1 hR
    generalize unfL H' rs = H4 at *
    refine ⟨fun σ H' => σ = [some (.ref p), some (.int n), some (.ref x), some (.bl tl), some (.int 1), some (.int 2), some (.int 3), some (.ref du), none] ∧ WAt T.Watcher.C H' x lv lh d n ((hdK tv).map (·.1)) ((hdK tv).map (·.2)) (rowsOf (hR3.take 3)), ?_, ?_⟩
    · obtain ⟨dx, hx⟩ := hW.ins
      refine ⟨.ref x, rfl, x, dx, _, rfl, hx, rfl, .int 1, rfl, ?_⟩
      dsimp only [L2.tCons, L2.tC, L2.tNil, List.cons_append, List.nil_append]
      exact do_remove (s := 1) (w := 0) (t := kNew) hW rfl (key_in (by decide +kernel)) fun H' k' hW' => ⟨rfl, hW'⟩
    clear hW sU s'
    rintro σ H5 ⟨rfl, hW⟩
    refine ⟨fun σ H' => σ = [some (.ref p), some (.int n), some (.ref x), some (.bl tl), some (.int 1), some (.int 2), some (.int 3), some (.ref du), none] ∧ WAt T.Watcher.C H' x lv lh d n ((hdK tv).map (·.1)) ((hdK tv).map (·.2)) (rowsOf hR3), ?_, ?_⟩
    · obtain ⟨dx, hx⟩ := hW.ins
      refine ⟨.ref x, rfl, x, dx, _, rfl, hx, rfl, .int 1, rfl, .int 2, rfl, by show 0 ≤ sizeLine; decide, fun TT nT => ?_⟩
      dsimp only [L2.tCons, L2.tC, L2.tNil, List.cons_append, List.nil_append]
      exact do_add_rule (s := 1) (w := 0) (t := kNew) (v := (2, [])) (hW.mono (same_new nT)) ok3.k (ok3.r _ (List.Mem.tail _ (List.Mem.tail _ (List.Mem.tail _ (List.Mem.head _))))) (key_out (by decide +kernel)) (by decide +kernel) upd_same fun H' k' hW' => ⟨rfl, hW'⟩
    clear hW
    rintro σ H6 ⟨rfl, hW⟩
    refine ⟨fun σ H' => ∃ dv, σ = [some (.ref p), some (.int n), some (.ref x), some (.bl tl), some (.int 1), some (.int 2), some (.int 3), some (.ref dv), none] ∧ WAt T.Watcher.C H' x lv lh d n ((hdK tv).map (·.1)) ((hdK tv).map (·.2)) (rowsOf hR3) ∧ TD H' (.ref dv) (dueD (dueB tv)), ?_, ?_⟩
    · refine ⟨.bl tl, rfl, tl, rfl, ?_⟩
      cases tl with
      | true =>
        obtain rfl : (1 : Int) = tv := etv
        refine iteT ⟨by show 0 ≤ sizeLine; decide, fun t1 n1 => ⟨by show 1 ≤ sizeLine; decide, fun t2 n2 => ⟨by show 0 ≤ sizeLine; decide, fun t3 n3 => ⟨by show 1 ≤ sizeLine; decide, fun t4 n4 => ⟨by show 4 ≤ sizeLine; decide, fun t5 n5 => ?_⟩⟩⟩⟩⟩
        have s5 := same_new (o := .tup [.ref t1, .ref t2, .ref t3, .ref t4]) n5
        have s4 := (same_new (o := .tup [.int 0]) n4).trans s5
        have s3 := (same_new (o := .tup []) n3).trans s4
        have s2 := (same_new (o := .tup [.int 1]) n2).trans s3
        exact ⟨t5, rfl, hW.mono ((same_new n1).trans s2), .tup upd_same (.cons (.tup (s2 _ _ upd_same) .nil) (.cons (.tup (s3 _ _ upd_same) (.cons (.int _) .nil)) (.cons (.tup (s4 _ _ upd_same) .nil) (.cons (.tup (s5 _ _ upd_same) (.cons (.int _) .nil)) .nil))))⟩
      | false =>
        obtain rfl : (0 : Int) = tv := etv
        refine iteF ⟨by show 0 ≤ sizeLine; decide, fun t1 n1 => ⟨by show 0 ≤ sizeLine; decide, fun t2 n2 => ⟨by show 0 ≤ sizeLine; decide, fun t3 n3 => ⟨by show 0 ≤ sizeLine; decide, fun t4 n4 => ⟨by show 4 ≤ sizeLine; decide, fun t5 n5 => ?_⟩⟩⟩⟩⟩
        have s5 := same_new (o := .tup [.ref t1, .ref t2, .ref t3, .ref t4]) n5
        have s4 := (same_new (o := .tup []) n4).trans s5
        have s3 := (same_new (o := .tup []) n3).trans s4
        have s2 := (same_new (o := .tup []) n2).trans s3
        exact ⟨t5, rfl, hW.mono ((same_new n1).trans s2), .tup upd_same (.cons (.tup (s2 _ _ upd_same) .nil) (.cons (.tup (s3 _ _ upd_same) .nil) (.cons (.tup (s4 _ _ upd_same) .nil) (.cons (.tup (s5 _ _ upd_same) .nil) .nil))))⟩
    clear hW
    rintro σ H7 ⟨dv, rfl, hW, hdv⟩
    refine ⟨.ref x, rfl, x, lv, lh, d, ⟨n, hdK tv, hR3⟩, rfl, ⟨hW, ok3⟩, fun r rs H' s' n1 n2 hR => ⟨rs, n2, .ref dv, rfl, ?_⟩⟩
    have sU := unfL_same s' n2
    have h1 := rows_td hR
    rw [du3] at h1
    have hsh := dueB_shown tv htv
    refine ⟨_, _, h1, TD.mono (Tups.same sU) _ hdv, hsh.1, hsh.1, ?_⟩
    rw [SeqAt.eqv_refl _ hsh.2]
    have hW := hW.mono sU
    have hdv := TD.mono (Tups.same sU) _ hdv
    clear h1 hR
    generalize unfL H' rs = H8 at *
    refine ⟨true, rfl, iteT ?_⟩
    refine ⟨.ref x, rfl, x, lv, lh, d, ⟨n, hdK tv, hR3⟩, rfl, ⟨hW, ok3⟩, fun x' lv' lh' d' H9 s9 fx fv fh fd hV => ?_⟩
    obtain ⟨dx', hx'⟩ := hV.ins
    refine ⟨x', dx', _, rfl, hx', rfl, x', lv', lh', d', _, _, _, _, rfl, hV, fun t nt => ?_⟩
    have sT := same_new (o := .tup (((kindsD ⟨n, hdK tv, hR3⟩).map (·.2)).map V.int)) nt
    have hT : (upd H9 t (.tup (((kindsD ⟨n, hdK tv, hR3⟩).map (·.2)).map V.int))) t = some (.tup (((kindsD ⟨n, hdK tv, hR3⟩).map (·.2)).map V.int)) := upd_same
    have hdv := TD.mono (Tups.same (s9.trans sT)) _ hdv
    generalize upd H9 t (.tup (((kindsD ⟨n, hdK tv, hR3⟩).map (·.2)).map V.int)) = H10 at *
    obtain ⟨dv', xs, e, hxs, hx⟩ := hdv.isTup
    cases e
    have lx : xs.length = (dueB tv).length := by
      have := hx.len
      rwa [List.length_map] at this
    have l4 : (dueB tv).length = 4 := by rcases htv with rfl | rfl <;> rfl
    refine ⟨.ref dv, rfl, dv, rfl, ⟨_, SqT.of hxs⟩, fun D nD => ?_⟩
    refine lc_tup (K := K) (a := dv) (xs := xs) (fun j H' => Same H10 H' ∧ H' D = some (.lst (((dueB tv).take j).map fun r => V.int (r.length : Int)))) ?_ ?_ ?_ ?_
    · exact ⟨same_new nD, upd_same⟩
    · rintro j H' hj ⟨sm, hD⟩
      exact SqT.of (sm _ _ hxs)
    · rintro j y H' hj ⟨sm, hD⟩
      have hj2 : j < (dueB tv).length := by
        have := (List.getElem?_eq_some_iff.mp hj).1
        omega
      obtain ⟨dd, hdd, hy⟩ := hx.get hj
      rw [List.getElem?_map, List.getElem?_eq_getElem hj2] at hdd
      obtain rfl := Option.some.inj hdd
      obtain ⟨a, ys, rfl, ha, hys⟩ := hy.isTup
      have ly : ys.length = (dueB tv)[j].length := by
        have := hys.len
        rwa [List.length_map] at this
      refine ⟨rfl, .ref a, rfl, a, ys, rfl, .inr (SqT.of (sm _ _ ha)), _, hD, ?_, ?_, ?_⟩
      · rw [List.length_map, List.length_take]
        exact Nat.lt_of_le_of_lt (Nat.min_le_right _ _) (by rw [l4]; decide)
      · intro b o e
        rw [upd_ne (ne_of_none e nD)]
        exact sm _ _ e
      · rw [upd_same, List.take_add_one, List.getElem?_eq_getElem hj2, List.map_append, ly]
        rfl
    · rintro H' ⟨sm, hD⟩
      rw [lx, List.take_length] at hD
      refine ⟨D, _, rfl, .inl ⟨SqL.of hD, fun t2 nt2 => ?_⟩⟩
      have s2 := same_new (o := .tup ((dueB tv).map fun r => V.int (r.length : Int))) nt2
      have hsh2 := lens_shown tv htv
      have e1 : ((kindsD ⟨n, hdK tv, hR3⟩).map (·.2)).map V.int = (dueB tv).map fun r => V.int (r.length : Int) := by
        rw [hl3, List.map_map]
        rfl
      rw [e1] at hT
      have hd2 : TDs (upd H' t2 (.tup ((dueB tv).map fun r => V.int (r.length : Int)))) ((dueB tv).map fun r => V.int (r.length : Int)) ((dueB tv).map fun r => PyData.int (r.length : Int)) := by
        have := TDs.ofInts (H := upd H' t2 (.tup ((dueB tv).map fun r => V.int (r.length : Int)))) (ns := (dueB tv).map fun r => (r.length : Int))
        rw [List.map_map, List.map_map] at this
        exact this
      refine ⟨.tuple ((dueB tv).map fun r => .int (r.length : Int)), .tuple ((dueB tv).map fun r => .int (r.length : Int)), .tup (s2 _ _ (sm _ _ hT)) hd2, .tup upd_same hd2, hsh2.1, hsh2.1, ?_⟩
      rw [SeqAt.eqv_refl _ hsh2.2]
      exact q _
end

/-! ### the law -/
theorem due_sh (rs : List (List Int)) : SeqAt.shaped (dueD rs) = true ∧ (dueD rs).canLay0 = true := by
  have h : PyData.canLayAll0 (rs.map fun r => PyData.tuple (r.map .int)) = true ∧ PyData.depthAll (rs.map fun r => PyData.tuple (r.map .int)) ≤ 1 := by
    induction rs with
    | nil => exact ⟨rfl, Nat.zero_le _⟩
    | cons x r ih =>
      refine ⟨by simp only [List.map_cons, PyData.canLayAll0, PyData.canLay0, ih.1, (lay_ints x).1, Bool.and_self], ?_⟩
      simp only [List.map_cons, PyData.depthAll, PyData.depth, (lay_ints x).2]
      exact Nat.max_le.mpr ⟨Nat.le_refl _, ih.2⟩
  have c : (dueD rs).canLay0 = true := by
    unfold dueD
    simp only [PyData.canLay0]
    exact h.1
  refine ⟨?_, c⟩
  have hd : (dueD rs).depth ≤ 2 := by
    unfold dueD
    have := h.2
    show PyData.depthAll (rs.map fun r => PyData.tuple (r.map .int)) + 1 ≤ 2
    omega
  unfold SeqAt.shaped
  rw [c, Bool.true_and, decide_eq_true_eq]
  omega
theorem needed_is (PL : Plan) : neededD PL = dueD (neededM PL) := rfl
theorem all_is (ks : List (Int × Int)) : allD ks = dueD (ks.map fun k => iota k.2.toNat) := by
  unfold allD dueD
  rw [List.map_map]
  rfl
theorem rg_iota (h : Int) : rgV 0 h = (iota h.toNat).map V.int := (firstM_V h).symm
structure Q59 (C : Addr) (H : Hp) (p c l kl rl x lv lh d x' lv' lh' d' : Addr) (pl : Plan) : Prop where
  pen : Pen H p c
  at_ : PlanAt H l kl rl pl
  w1 : WP C H x lv lh d pl
  w2 : WP C H x' lv' lh' d' (dropM pl)
theorem Q59.mono {C : Addr} {H H' : Hp} {p c l kl rl x lv lh d x' lv' lh' d' : Addr} {pl : Plan} (h : Q59 C H p c l kl rl x lv lh d x' lv' lh' d' pl) (s : Same H H') : Q59 C H' p c l kl rl x lv lh d x' lv' lh' d' pl := ⟨h.pen.mono s, h.at_.mono s, h.w1.mono s, h.w2.mono s⟩
section
variable {P : Program} {w : World} {K : PySem.W.Frag} {mg : Str → Option Value} {base : Heap}
def sp_law (K : PySem.W.Frag) : Sp := fun vs H Q _ => ∃ (a : Addr) (ns : List Int), vs = [.ref a] ∧ SqL K H a (ns.map V.int) ∧ ns.length ≤ 63 ∧ ∀ H', Q (.bl true) H'
abbrev N_law : List Str := ["script", "pen", "turn", "plan", "watcher", "less", "held", "again", "kind"]
theorem sc_law : FnScope N_law ["script"] (defScope s_law) := ⟨rfl, rfl, rfl, by decide +kernel, rfl, by decide +kernel, by decide +kernel⟩
theorem ok_law (T : Tx K mg) {f : Addr} {fd : FuncData} (F : Fun K "law" "law" s_law f fd) : FnG P w K mg base CX0 11 f fd ["script"] (sp_law K) := by
  refine okG F sc_law (fun vs H Q E h => ?_) (fun cdv A outer s H vs Q E gd hr h => ?_)
  · obtain ⟨a, ns, rfl, _⟩ := h
    rfl
  · obtain ⟨a0, ns, rfl, hS, hl, q⟩ := h
    have L5 : 4000000 ≤ sizeLine := by decide
    refine ⟨_, 
      (pss_cons (ps_set (i := 1) sc_law.nd rfl (.inl rfl) (pe_callG (G_law_pen T) gd (hr.mono (by decide)) rfl T.law_pen.g T.law_pen.F.kp T.law_pen.b .nil pass0 (pa_cons (pv 0) pa_nil))) -- pen = _law_pen(script)
      (pss_cons (ps_for PassesOwn.never rfl (pi_range1 rfl T.m_range (pa_cons pe_int pa_nil)) (pg_name (i := 2) sc_law.nd rfl (.inl rfl)) 
        (C8.pss_cut (ps_set (i := 3) sc_law.nd rfl (.inl rfl) (pe_ifExp (pt_cmpR op_gt (pe_callG (G_law_draw T) gd (hr.mono (by decide)) rfl T.law_draw.g T.law_draw.F.kp T.law_draw.b .nil pass0 (pa_cons (pv 1) (pa_cons pe_int pa_nil))) pe_int (nomark _)) (pe_callG (G_law_few_plan T) gd (hr.mono (by decide)) rfl T.law_few_plan.g T.law_few_plan.F.kp T.law_few_plan.b .nil pass0 (pa_cons (pv 1) pa_nil)) (pe_callG (G_law_plan T) gd (hr.mono (by decide)) rfl T.law_plan.g T.law_plan.F.kp T.law_plan.b .nil pass0 (pa_cons (pv 1) (pa_cons pe_int (pa_cons pe_int (pa_cons pe_int pa_nil))))))) -- plan = _law_few_plan(pen) if _law_draw(pen, 7) > 0 else _law_plan(pen, 1, 2, 3)
        (C8.pss_cut (ps_set (i := 4) sc_law.nd rfl (.inl rfl) (pe_callG (G_law_built T) gd (hr.mono (by decide)) rfl T.law_built.g T.law_built.F.kp T.law_built.b .nil pass0 (pa_cons (pv 3) pa_nil))) -- watcher = _law_built(plan)
        (C8.pss_cut (ps_set (i := 5) sc_law.nd rfl (.inl rfl) (pe_callG (G_dropped T) gd (hr.mono (by decide)) rfl T.dropped.g T.dropped.F.kp T.dropped.b .nil pass0 (pa_cons (pv 4) pa_nil))) -- less = dropped(watcher)
        (C8.pss_cut (ps_if (pt_cmpR (op_neT hr.units) (pe_unf (pe_callG (G_needed_places T) gd (hr.mono (by decide)) rfl T.needed_places.g T.needed_places.F.kp T.needed_places.b .nil pass0 (pa_cons (pv 5) pa_nil))) (pe_callTy call_tuple_of (by rfl) T.m_tuple (by decide +kernel) (pa_cons (pe_lc (own := [("held", 6)]) (g := gName 6) rfl sc_law.nd (pi_tup (pe_meth0G (pv 5) T.Watcher.cl T.Watcher_held_counts.M (G_Watcher_held_counts T) gd (hr.mono (by decide)) T.Watcher_held_counts.b .nil pass0)) (blkOk_by (N := N_law) (sc := defScope s_law) (by decide +kernel)) (fun _ _ _ _ _ => (pg_name (i := 6) sc_law.nd rfl (.inl rfl))) (fun _ _ _ _ _ => pts_nil) (fun _ _ _ _ _ => (pe_tupRg rfl (by rfl) T.m_tuple (prg_1 (by rfl) T.m_range (pv 6))))) pa_nil)) (nomark _)) 
          (pss_one (ps_ret pe_bl)) -- return False
           pss_nil) -- if needed_places(less) != tuple([tuple(range(held)) for held in less.held_counts()]):
        (C8.pss_cut (ps_set (i := 7) sc_law.nd rfl (.inl rfl) (pe_callG (G_dropped T) gd (hr.mono (by decide)) rfl T.dropped.g T.dropped.F.kp T.dropped.b .nil pass0 (pa_cons (pv 5) pa_nil))) -- again = dropped(less)
        (C8.pss_cut (ps_if (PW.pt (pw_or (pt_cmpR (op_neD hr.units) (pe_callTy (call_listItT rfl) (by rfl) T.m_list (by decide +kernel) (pa_cons (pe_bm0 PySem.F.plainAttrs_dict PySem.F.slot_dict_items PySem.F.type_dict_items DX.mt_itemsT (pe_meth0G (pv 7) T.Watcher.cl T.Watcher_rules.M (G_Watcher_rules T) gd (hr.mono (by decide)) T.Watcher_rules.b .nil pass0)) pa_nil)) (pe_callTy (call_listItT rfl) (by rfl) T.m_list (by decide +kernel) (pa_cons (pe_bm0 PySem.F.plainAttrs_dict PySem.F.slot_dict_items PySem.F.type_dict_items DX.mt_itemsT (pe_meth0G (pv 5) T.Watcher.cl T.Watcher_rules.M (G_Watcher_rules T) gd (hr.mono (by decide)) T.Watcher_rules.b .nil pass0)) pa_nil)) (nomark _)) (pw_or1 (pt_cmpR (op_neT hr.units) (pe_meth0G (pv 7) T.Watcher.cl T.Watcher_verdicts.M (G_Watcher_verdicts T) gd (hr.mono (by decide)) T.Watcher_verdicts.b .nil pass0) (pe_meth0G (pv 5) T.Watcher.cl T.Watcher_verdicts.M (G_Watcher_verdicts T) gd (hr.mono (by decide)) T.Watcher_verdicts.b .nil pass0) (nomark _))))) 
          (pss_one (ps_ret pe_bl)) -- return False
           pss_nil) -- if list(again.rules().items()) != list(less.rules().items()) or again.verdicts() != less.verdicts():
        (C8.pss_cut (ps_if (PW.pt (pw_or (pt_cmpR (op_neT hr.units) (pe_meth0G (pv 7) T.Watcher.cl T.Watcher_held_counts.M (G_Watcher_held_counts T) gd (hr.mono (by decide)) T.Watcher_held_counts.b .nil pass0) (pe_meth0G (pv 5) T.Watcher.cl T.Watcher_held_counts.M (G_Watcher_held_counts T) gd (hr.mono (by decide)) T.Watcher_held_counts.b .nil pass0) (nomark _)) (pw_or1 (pt_cmpR op_ne (pe_fld (pv 7) rfl) (pe_ix ix_list (pv 3) pe_int (fun _ _ => rfl)) (nomark _))))) 
          (pss_one (ps_ret pe_bl)) -- return False
           pss_nil) -- if again.held_counts() != less.held_counts() or again.words != plan[0]:
        (pss_one (ps_if (pt_cmpR (op_eqT hr.units) (pe_unf (pe_callG (G_needed_places T) gd (hr.mono (by decide)) rfl T.needed_places.g T.needed_places.F.kp T.needed_places.b .nil pass0 (pa_cons (pv 4) pa_nil))) (pe_callTy call_tuple_of (by rfl) T.m_tuple (by decide +kernel) (pa_cons (pe_lc (own := [("kind", 8)]) (g := gName 8) rfl sc_law.nd (pi_list (pe_ix ix_list (pv 3) pe_int (fun _ _ => rfl))) (blkOk_by (N := N_law) (sc := defScope s_law) (by decide +kernel)) (fun _ _ _ _ _ => (pg_name (i := 8) sc_law.nd rfl (.inl rfl))) (fun _ _ _ _ _ => pts_nil) (fun _ _ _ _ _ => (pe_tupRg rfl (by rfl) T.m_tuple (prg_1 (by rfl) T.m_range (pe_ix (r := rIxT K) ix_tup (pv 8) pe_int (fun _ _ => rfl)))))) pa_nil)) (nomark _)) 
          (pss_one (ps_if (pt_not (pt_val (pe_callG (G_law_shows T) gd (hr.mono (by decide)) rfl T.law_shows.g T.law_shows.F.kp T.law_shows.b .nil pass0 (pa_cons (pv 5) (pa_cons (pv 3) pa_nil))))) 
            (pss_one (ps_ret pe_bl)) -- return False
             pss_nil)) -- if not _law_shows(less, plan):
           pss_nil)) -- if needed_places(watcher) == tuple([tuple(range(kind[1])) for kind in plan[1]]):
        )))))))) -- for turn in range(1):
      (pss_one (ps_ret (pe_callG (G_law_needless_right T) gd (hr.mono (by decide)) rfl T.law_needless_right.g T.law_needless_right.F.kp T.law_needless_right.b .nil pass0 (pa_cons (pv 1) pa_nil)))) -- return _law_needless_right(pen)
      )) , ?_⟩
    refine ⟨.ref a0, rfl, a0, ns, rfl, hS, hl, fun p c H1 s1 np nc hP => ?_⟩
    refine ⟨1, rfl, by decide, by decide, ?_⟩
    refine for_range (n := 1) (fun i σ H' => ∃ y2 y3 y4 y5 y6 y7 y8, σ = [some (.ref a0), some (.ref p), y2, y3, y4, y5, y6, y7, y8] ∧ Pen H' p c) ?_ ?_ ?_
    · exact ⟨none, none, none, none, none, none, none, rfl, hP⟩
    · clear hP
      rintro i σ H2 hi ⟨y2, y3, y4, y5, y6, y7, y8, rfl, hP⟩
      generalize 0 + (i : Int) = ti
      refine ⟨fun σ H' => ∃ l kl rl pl, σ = [some (.ref a0), some (.ref p), some (.int ti), some (.ref l), y4, y5, y6, y7, y8] ∧ Pen H' p c ∧ PlanAt H' l kl rl pl ∧ PlanOk pl, ?_, ?_⟩
      · refine ⟨.ref p, rfl, p, c, 7, rfl, hP, by decide, by decide, fun d H2 d0 d1 k2 hP2 => ?_⟩
        refine ⟨d, 0, rfl, rfl, _, rfl, ite2 (fun _ => ?_) (fun _ => ?_)⟩
        · exact ⟨.ref p, rfl, p, c, rfl, hP2, fun l kl rl pl H4 k4 hP4 fl fk fr hp ok => ⟨l, kl, rl, pl, rfl, hP4, hp, ok⟩⟩
        · exact ⟨.ref p, rfl, p, c, 1, 2, 3, rfl, hP2, by decide, by decide, by decide, by decide, by decide, by decide, fun l kl rl pl H4 _ k4 hP4 fl fk fr hp ok _ => ⟨l, kl, rl, pl, rfl, hP4, hp, ok⟩⟩
      clear hP
      rintro σ H3 ⟨l, kl, rl, pl, rfl, hP, hp, ok⟩
      refine ⟨fun σ H' => ∃ x lv lh d, σ = [some (.ref a0), some (.ref p), some (.int ti), some (.ref l), some (.ref x), y5, y6, y7, y8] ∧ Pen H' p c ∧ PlanAt H' l kl rl pl ∧ WP T.Watcher.C H' x lv lh d pl, ?_, ?_⟩
      · exact ⟨.ref l, rfl, l, kl, rl, pl, rfl, hp, ok, fun x lv lh d H4 s4 fx fv fh fd hW => ⟨x, lv, lh, d, rfl, hP.mono s4, hp.mono s4, ⟨hW, ok⟩⟩⟩
      clear hP hp
      rintro σ H4 ⟨x, lv, lh, d, rfl, hP, hp, hW⟩
      refine ⟨fun σ H' => ∃ x' lv' lh' d', σ = [some (.ref a0), some (.ref p), some (.int ti), some (.ref l), some (.ref x), some (.ref x'), y6, y7, y8] ∧ Q59 T.Watcher.C H' p c l kl rl x lv lh d x' lv' lh' d' pl, ?_, ?_⟩
      · exact ⟨.ref x, rfl, x, lv, lh, d, pl, rfl, hW, fun x' lv' lh' d' H5 s5 fx fv fh fd hV => ⟨x', lv', lh', d', rfl, ⟨hP.mono s5, hp.mono s5, hW.mono s5, ⟨hV, dropM_ok ok⟩⟩⟩⟩
      clear hP hp hW
      rintro σ H5 ⟨x', lv', lh', d', rfl, D⟩
      have okD := dropM_ok ok
      have alD := drop_allN ok
      have hlD := okD.k.len
      -- if needed_places(less) != ..
      refine ⟨fun σ H' => σ = [some (.ref a0), some (.ref p), some (.int ti), some (.ref l), some (.ref x), some (.ref x'), y6, y7, y8] ∧ Q59 T.Watcher.C H' p c l kl rl x lv lh d x' lv' lh' d' pl, ?_, ?_⟩
      · refine ⟨.ref x', rfl, x', lv', lh', d', dropM pl, rfl, D.w2, fun r rs H6 s6 n1 n2 hR => ⟨rs, n2, ?_⟩⟩
        have sU := unfL_same s6 n2
        have h1 := rows_td hR
        rw [allN_D alD] at h1
        have D6 := D.mono sU
        clear hR
        generalize unfL H6 rs = H7 at *
        obtain ⟨dx', hx'⟩ := D6.w2.w.ins
        refine ⟨.ref x', rfl, x', dx', _, rfl, hx', rfl, x', lv', lh', d', _, _, _, _, rfl, D6.w2.w, fun t nt => ?_⟩
        have sT := same_new (o := .tup (((dropM pl).kinds.map (·.2)).map V.int)) nt
        have hT : (upd H7 t (.tup (((dropM pl).kinds.map (·.2)).map V.int))) t = some (.tup (((dropM pl).kinds.map (·.2)).map V.int)) := upd_same
        generalize upd H7 t (.tup (((dropM pl).kinds.map (·.2)).map V.int)) = H8 at *
        refine ⟨t, rfl, ⟨_, SqT.of hT⟩, fun DD nD => ?_⟩
        refine lc_tup (K := K) (a := t) (xs := ((dropM pl).kinds.map (·.2)).map V.int) (fun j H' => Same H8 H' ∧ ∃ ys, H' DD = some (.lst ys) ∧ TDs H' ys (((dropM pl).kinds.take j).map fun k => PyData.tuple ((iota k.2.toNat).map .int))) ?_ ?_ ?_ ?_
        · exact ⟨same_new nD, [], upd_same, .nil⟩
        · rintro j H' hj ⟨sm, _⟩
          exact SqT.of (sm _ _ hT)
        · rintro j y H' hj ⟨sm, ys, hD, hys⟩
          rw [List.getElem?_map, List.getElem?_map] at hj
          obtain ⟨z, hz, rfl⟩ := Option.map_eq_some_iff.mp hj
          obtain ⟨k, hk, rfl⟩ := Option.map_eq_some_iff.mp hz
          have kb := okD.k.all k (List.mem_of_getElem? hk)
          have hj2 := (List.getElem?_eq_some_iff.mp hk).1
          have ly : ys.length = j := by
            have := hys.len
            rw [List.length_map, List.length_take] at this
            omega
          refine ⟨rfl, .int k.2, rfl, k.2, rfl, RgOk.of_le (Int.le_refl 0) (by omega) (by omega) kb.2.2.1, fun a na => ?_⟩
          have sa := same_new (o := .tup (rgV 0 k.2)) na
          have hD2 := sa _ _ hD
          have tp := Tups.lst (o := .lst (ys ++ [.ref a])) hD2
          refine ⟨ys, hD2, by omega, same_at (sm.trans sa) nD, _, upd_same, ?_⟩
          rw [List.take_add_one, hk, List.map_append]
          refine tds_snoc ((hys.mono (Tups.same sa)).mono tp) (.tup (tp _ _ upd_same) ?_)
          rw [rg_iota]
          exact TDs.ofInts
        · rintro H' ⟨sm, ys, hD, hys⟩
          rw [List.length_map, List.length_map, List.take_length] at hys
          refine ⟨DD, _, rfl, .inl ⟨SqL.of hD, fun t2 nt2 => ?_⟩⟩
          have s2 := same_new (o := .tup ys) nt2
          have sA := (sT.trans sm).trans s2
          have hsh := due_sh ((dropM pl).kinds.map fun k => iota k.2.toNat)
          rw [← all_is] at hsh
          refine ⟨allD (dropM pl).kinds, allD (dropM pl).kinds, TD.mono (Tups.same sA) _ h1, .tup upd_same (hys.mono (Tups.same s2)), hsh.1, hsh.1, ?_⟩
          rw [SeqAt.eqv_refl _ hsh.2]
          exact ⟨false, rfl, iteF ⟨rfl, D6.mono sA⟩⟩
      clear D
      rintro σ H6 ⟨rfl, D⟩
      -- again
      refine ⟨fun σ H' => ∃ x2 lv2 lh2 d2, σ = [some (.ref a0), some (.ref p), some (.int ti), some (.ref l), some (.ref x), some (.ref x'), y6, some (.ref x2), y8] ∧ Q59 T.Watcher.C H' p c l kl rl x lv lh d x' lv' lh' d' pl ∧ WAt T.Watcher.C H' x2 lv2 lh2 d2 pl.words ((dropM pl).kinds.map (·.1)) ((dropM pl).kinds.map (·.2)) (rowsOf (sortP (dropM pl).rules)), ?_, ?_⟩
      · refine ⟨.ref x', rfl, x', lv', lh', d', dropM pl, rfl, D.w2, fun x2 lv2 lh2 d2 H7 s7 fx fv fh fd hV => ⟨x2, lv2, lh2, d2, rfl, D.mono s7, ?_⟩⟩
        rw [kinds_all okD alD, drop_all okD alD] at hV
        exact hV
      clear D
      rintro σ H7 ⟨x2, lv2, lh2, d2, rfl, D, hV2⟩
      refine ⟨fun σ H' => σ = [some (.ref a0), some (.ref p), some (.int ti), some (.ref l), some (.ref x), some (.ref x'), y6, some (.ref x2), y8] ∧ Q59 T.Watcher.C H' p c l kl rl x lv lh d x' lv' lh' d' pl ∧ WAt T.Watcher.C H' x2 lv2 lh2 d2 pl.words ((dropM pl).kinds.map (·.1)) ((dropM pl).kinds.map (·.2)) (rowsOf (sortP (dropM pl).rules)), ?_, ?_⟩
      · have kb : ∀ k ∈ (dropM pl).rules.map (·.1), KB k := fun k hk => by
          obtain ⟨r, hr, rfl⟩ := List.mem_map.mp hk
          exact (rule_kb okD.k (okD.r r hr)).1
        obtain ⟨dx2, hx2⟩ := hV2.ins
        refine ⟨.ref x2, rfl, x2, dx2, _, rfl, hx2, rfl, x2, lv2, lh2, d2, _, _, _, _, rfl, hV2, fun r H8 kvs s8 nr hr8 kv8 => ?_⟩
        refine ⟨.inr (.inr (.inl ⟨rfl, .inr ⟨_, hr8⟩⟩)), r, kvs, rfl, rfl, hr8, fun pp np => ?_⟩
        have s9 := same_new np (o := DX.itemsO pp r)
        have hp9 : (upd H8 pp (DX.itemsO pp r)) pp = some (DX.itemsO pp r) := upd_same
        generalize upd H8 pp (DX.itemsO pp r) = H9 at *
        refine ⟨pp, r, kvs, _, rfl, hp9, s9 _ _ hr8, KvD.mono (Tups.same s9) kv8, fun l2 as H10 s10 nl2 hl2 td => ?_⟩
        have sA := (s8.trans s9).trans s10
        have D10 := D.mono sA
        obtain ⟨dx', hx'⟩ := D10.w2.w.ins
        refine ⟨.ref x', rfl, x', dx', _, rfl, hx', rfl, x', lv', lh', d', _, _, _, _, rfl, D10.w2.w, fun r3 H11 kvs3 s11 nr3 hr11 kv11 => ?_⟩
        refine ⟨.inr (.inr (.inl ⟨rfl, .inr ⟨_, hr11⟩⟩)), r3, kvs3, rfl, rfl, hr11, fun p3 np3 => ?_⟩
        have s12 := same_new np3 (o := DX.itemsO p3 r3)
        have hp12 : (upd H11 p3 (DX.itemsO p3 r3)) p3 = some (DX.itemsO p3 r3) := upd_same
        generalize upd H11 p3 (DX.itemsO p3 r3) = H12 at *
        refine ⟨p3, r3, kvs3, _, rfl, hp12, s12 _ _ hr11, KvD.mono (Tups.same s12) kv11, fun l4 as4 H13 s13 nl4 hl4 td4 => ?_⟩
        have sB := (s11.trans s12).trans s13
        rw [sorted_same (R := rowsOf (sortP (dropM pl).rules)) (PR := (dropM pl).rules) ((sortP_prm okD.nd).map _) hV2.nd kb] at td
        rw [sorted_same (PR := (dropM pl).rules) (List.Perm.refl _) D.w2.w.nd kb] at td4
        have sh : SeqAt.shaped (.list (orderedD (dropM pl).rules)) = true := ordered_lay okD.nd fun r hr => (rule_kb okD.k (okD.r r hr)).2
        have sh2 : (PyData.list (orderedD (dropM pl).rules)).canLay0 = true := by
          have := sh
          unfold SeqAt.shaped at this
          rw [Bool.and_eq_true] at this
          exact this.1
        refine ⟨_, _, Dp.lst (SqL.of (sB _ _ hl2)) (TDs.dp _ (td.mono (Tups.same sB))), Dp.lst (SqL.of hl4) (TDs.dp _ td4), sh, sh, ?_⟩
        rw [SeqAt.eqv_refl _ sh2]
        refine ⟨false, rfl, iteF ?_⟩
        have s3 := sA.trans sB
        have D13 := D.mono s3
        have V13 := hV2.mono s3
        obtain ⟨dx3, hx3⟩ := V13.ins
        refine ⟨.ref x2, rfl, x2, dx3, _, rfl, hx3, rfl, x2, lv2, lh2, d2, _, _, _, _, rfl, V13, fun t1 nt1 => ?_⟩
        have s14 := same_new (o := .tup (((dropM pl).kinds.map (·.1)).map V.int)) nt1
        have h14 : (upd H13 t1 (.tup (((dropM pl).kinds.map (·.1)).map V.int))) t1 = some (.tup (((dropM pl).kinds.map (·.1)).map V.int)) := upd_same
        generalize upd H13 t1 (.tup (((dropM pl).kinds.map (·.1)).map V.int)) = H14 at *
        have D14 := D13.mono s14
        obtain ⟨dx4, hx4⟩ := D14.w2.w.ins
        refine ⟨.ref x', rfl, x', dx4, _, rfl, hx4, rfl, x', lv', lh', d', _, _, _, _, rfl, D14.w2.w, fun t2 nt2 => ?_⟩
        have s15 := same_new (o := .tup (((dropM pl).kinds.map (·.1)).map V.int)) nt2
        refine ⟨_, _, .tup (s15 _ _ h14) TDs.ofInts, .tup upd_same TDs.ofInts, shaped_intsT _, shaped_intsT _, ?_⟩
        rw [SeqAt.eqv_refl _ (by simp only [PyData.canLay0]; exact (lay_ints _).1)]
        exact ⟨false, rfl, iteF ⟨rfl, D14.mono s15, V13.mono (s14.trans s15)⟩⟩
      clear D hV2
      rintro σ H8 ⟨rfl, D, hV2⟩
      refine ⟨fun σ H' => σ = [some (.ref a0), some (.ref p), some (.int ti), some (.ref l), some (.ref x), some (.ref x'), y6, some (.ref x2), y8] ∧ Q59 T.Watcher.C H' p c l kl rl x lv lh d x' lv' lh' d' pl, ?_, ?_⟩
      · obtain ⟨dx3, hx3⟩ := hV2.ins
        refine ⟨.ref x2, rfl, x2, dx3, _, rfl, hx3, rfl, x2, lv2, lh2, d2, _, _, _, _, rfl, hV2, fun t1 nt1 => ?_⟩
        have s14 := same_new (o := .tup (((dropM pl).kinds.map (·.2)).map V.int)) nt1
        have h14 : (upd H8 t1 (.tup (((dropM pl).kinds.map (·.2)).map V.int))) t1 = some (.tup (((dropM pl).kinds.map (·.2)).map V.int)) := upd_same
        generalize upd H8 t1 (.tup (((dropM pl).kinds.map (·.2)).map V.int)) = H14 at *
        have D14 := D.mono s14
        obtain ⟨dx4, hx4⟩ := D14.w2.w.ins
        refine ⟨.ref x', rfl, x', dx4, _, rfl, hx4, rfl, x', lv', lh', d', _, _, _, _, rfl, D14.w2.w, fun t2 nt2 => ?_⟩
        have s15 := same_new (o := .tup (((dropM pl).kinds.map (·.2)).map V.int)) nt2
        refine ⟨_, _, .tup (s15 _ _ h14) TDs.ofInts, .tup upd_same TDs.ofInts, shaped_intsT _, shaped_intsT _, ?_⟩
        rw [SeqAt.eqv_refl _ (by simp only [PyData.canLay0]; exact (lay_ints _).1)]
        refine ⟨false, rfl, iteF ?_⟩
        have D15 := D14.mono s15
        have hx5 := (s14.trans s15) _ _ hx3
        generalize upd H14 t2 (.tup (((dropM pl).kinds.map (·.2)).map V.int)) = H15 at *
        exact ⟨.ref x2, rfl, x2, T.Watcher.C, dx3, _, .int pl.words, rfl, hx5, T.Watcher.cl, T.W.n1, rfl, .ref l, rfl, l, _, 0, .int pl.words, rfl, rfl, SqL.of D15.at_.at_, atI_nat (j := 0) rfl, rfl, false, by simp, iteF ⟨rfl, D15⟩⟩
      clear D hV2
      rintro σ H9 ⟨rfl, D⟩
      refine ⟨.ref x, rfl, x, lv, lh, d, pl, rfl, D.w1, fun r rs H10 s10 n1 n2 hR => ⟨rs, n2, ?_⟩⟩
      have sU := unfL_same s10 n2
      have h1 := rows_td hR
      have D10 := D.mono sU
      clear hR
      generalize unfL H10 rs = H11 at *
      obtain ⟨ks, hk, hts⟩ := D10.at_.kin
      have lks : ks.length = pl.kinds.length := by
        have := hts.length
        rwa [List.length_map] at this
      have lk6 := ok.k.len
      refine ⟨.ref l, rfl, l, _, 1, .ref kl, rfl, rfl, SqL.of D10.at_.at_, atI_nat (j := 1) rfl, kl, rfl, ⟨_, SqL.of hk⟩, fun DD nD => ?_⟩
      refine lc_list (K := K) (a := kl) (xs := ks) (fun j H' => Same H11 H' ∧ ∃ ys, H' DD = some (.lst ys) ∧ TDs H' ys ((pl.kinds.take j).map fun k => PyData.tuple ((iota k.2.toNat).map .int))) ?_ ?_ ?_ ?_
      · exact ⟨same_new nD, [], upd_same, .nil⟩
      · rintro j H' hj ⟨sm, _⟩
        exact SqL.of (sm _ _ hk)
      · rintro j y H' hj ⟨sm, ys, hD, hys⟩
        have jl := (List.getElem?_eq_some_iff.mp hj).1
        obtain ⟨a, v, ea, ha, em⟩ := kinds_at hts (i := (j : Int)) (by omega) (by omega)
        have ey : y = .ref a := by
          have := atI_nat (xs := ks) (j := j) hj
          rw [this] at ea
          exact Option.some.inj ea
        subst ey
        rw [Int.toNat_natCast] at em
        have hb := held_bd ok.k (i := (j : Int)) (by omega) (by omega)
        have ly : ys.length = j := by
          have := hys.len
          rw [List.length_map, List.length_take] at this
          omega
        refine ⟨rfl, .ref a, rfl, a, _, 1, .int (heldAt pl.kinds (j : Int)), rfl, rfl, SqT.of (sm _ _ ha), atI_nat (j := 1) rfl, heldAt pl.kinds (j : Int), rfl, RgOk.of_le (Int.le_refl 0) (by omega) (by omega) hb.1, fun b nb => ?_⟩
        have sa := same_new (o := .tup (rgV 0 (heldAt pl.kinds (j : Int)))) nb
        have hD2 := sa _ _ hD
        have tp := Tups.lst (o := .lst (ys ++ [.ref b])) hD2
        refine ⟨ys, hD2, by omega, same_at (sm.trans sa) nD, _, upd_same, ?_⟩
        rw [List.take_add_one, em, List.map_append]
        refine tds_snoc ((hys.mono (Tups.same sa)).mono tp) (.tup (tp _ _ upd_same) ?_)
        rw [rg_iota]
        exact TDs.ofInts
      · rintro H' ⟨sm, ys, hD, hys⟩
        rw [lks, List.take_length] at hys
        refine ⟨DD, _, rfl, .inl ⟨SqL.of hD, fun t2 nt2 => ?_⟩⟩
        have s2 := same_new (o := .tup ys) nt2
        have sA := sm.trans s2
        have hsh := due_sh (pl.kinds.map fun k => iota k.2.toNat)
        rw [← all_is] at hsh
        have hsh1 := due_sh (neededM pl)
        rw [← needed_is] at hsh1
        refine ⟨neededD pl, allD pl.kinds, TD.mono (Tups.same sA) _ h1, .tup upd_same (hys.mono (Tups.same s2)), hsh1.1, hsh.1, _, rfl, ?_⟩
        have DZ := D10.mono sA
        generalize upd H' t2 (.tup ys) = H12 at *
        cases he : PyData.eqv (neededD pl) (allD pl.kinds) with
        | false => exact iteF ⟨_, _, _, _, _, _, _, rfl, DZ.pen⟩
        | true =>
          have al := allN_of he
          have ek : (dropM pl).kinds = pl.kinds := kinds_all ok al
          have er : (dropM pl).rules = sortP pl.rules := congrArg Plan.rules (drop_all ok al)
          have hV := DZ.w2.w
          rw [ek, er] at hV
          refine iteT ⟨.ref x', rfl, .ref l, rfl, x', lv', lh', d', l, kl, rl, pl, rowsOf (sortP pl.rules), rfl, ⟨hV, DZ.at_, ok, (sortP_prm ok.nd).map _⟩, fun H13 s13 => ?_⟩
          refine ⟨true, rfl, ?_⟩
          exact ⟨_, _, _, _, _, _, _, rfl, DZ.pen.mono s13⟩
    · rintro σ H2 ⟨y2, y3, y4, y5, y6, y7, y8, rfl, hP⟩
      exact ⟨.ref p, rfl, p, c, rfl, hP, fun H' => q _⟩
end

theorem all_mk {l : PySem.W.OpenLaw} {w : World} {K : PySem.W.Frag} {h : Heap} {mg : Str → Option Value} {fa f_is_integer f_is_between f_Watcher_init f_Watcher_len f_Watcher_add_state f_Watcher_set_verdict f_Watcher_add_rule f_Watcher_remove_rule f_Watcher_verdicts f_Watcher_held_counts f_Watcher_rules f_Watcher_rule_for f_Watcher_require_state f_Watcher_require_word f_require_verdict f_is_test f_are_sources f_is_source f_may_be_rule f_rule_order f_part_order f_after_message f_carried f_verdicts_at f_steps_from f_steps_among f_ways_to f_held_numbers f_equal_places f_cases_between f_situation_after f_value_of f_least_other f_other_value f_are_sought f_ways_to_sought f_ways_to_unlike f_all_places f_needed_places f_dropped f_renumbered f_law_pen f_law_fresh f_law_draw f_law_some_sources f_law_plan f_law_built f_law_rank f_law_ordered_rules f_law_shows f_law_few_plan f_law_needless_right f_law : Addr} (X : K.In h) (G : h.Ns mainGlobals mg) (hfa : mg "law" = some (.ref fa))
    {od0 an0 od1 an1 od2 an2 od3 an3 od4 an4 od5 an5 od6 an6 od7 an7 od8 an8 od9 an9 od10 an10 od11 an11 od12 an12 od13 an13 od14 an14 od15 an15 od16 an16 od17 an17 od18 an18 od19 an19 od20 an20 od21 an21 od22 an22 od23 an23 od24 an24 od25 an25 od26 an26 od27 an27 od28 an28 od29 an29 od30 an30 od31 an31 od32 an32 od33 an33 od34 an34 od35 an35 od36 an36 od37 an37 od38 an38 od39 an39 od40 an40 od41 an41 od42 an42 od43 an43 od44 an44 od45 an45 od46 an46 od47 an47 od48 an48 od49 an49 od50 an50 od51 an51 od52 an52 : Option Addr} {sl0 sl1 sl2 sl3 sl4 sl5 sl6 sl7 sl8 sl9 sl10 sl11 sl12 sl13 sl14 sl15 sl16 sl17 sl18 sl19 sl20 sl21 sl22 sl23 sl24 sl25 sl26 sl27 sl28 sl29 sl30 sl31 sl32 sl33 sl34 sl35 sl36 sl37 sl38 sl39 sl40 sl41 sl42 sl43 sl44 sl45 sl46 sl47 sl48 sl49 sl50 sl51 sl52 : Array (Option Value)} {oc0 kV0 dc0 pm0 cd0 ct0 oc1 kV1 dc1 pm1 cd1 ct1 oc2 kV2 dc2 pm2 cd2 ct2 oc3 kV3 dc3 pm3 cd3 ct3 oc4 kV4 dc4 pm4 cd4 ct4 oc5 kV5 dc5 pm5 cd5 ct5 oc6 kV6 dc6 pm6 cd6 ct6 oc7 kV7 dc7 pm7 cd7 ct7 oc8 kV8 dc8 pm8 cd8 ct8 oc9 kV9 dc9 pm9 cd9 ct9 oc10 kV10 dc10 pm10 cd10 ct10 oc11 kV11 dc11 pm11 cd11 ct11 oc12 kV12 dc12 pm12 cd12 ct12 oc13 kV13 dc13 pm13 cd13 ct13 oc14 kV14 dc14 pm14 cd14 ct14 oc15 kV15 dc15 pm15 cd15 ct15 oc16 kV16 dc16 pm16 cd16 ct16 oc17 kV17 dc17 pm17 cd17 ct17 oc18 kV18 dc18 pm18 cd18 ct18 oc19 kV19 dc19 pm19 cd19 ct19 oc20 kV20 dc20 pm20 cd20 ct20 oc21 kV21 dc21 pm21 cd21 ct21 oc22 kV22 dc22 pm22 cd22 ct22 oc23 kV23 dc23 pm23 cd23 ct23 oc24 kV24 dc24 pm24 cd24 ct24 oc25 kV25 dc25 pm25 cd25 ct25 oc26 kV26 dc26 pm26 cd26 ct26 oc27 kV27 dc27 pm27 cd27 ct27 oc28 kV28 dc28 pm28 cd28 ct28 oc29 kV29 dc29 pm29 cd29 ct29 oc30 kV30 dc30 pm30 cd30 ct30 oc31 kV31 dc31 pm31 cd31 ct31 oc32 kV32 dc32 pm32 cd32 ct32 oc33 kV33 dc33 pm33 cd33 ct33 oc34 kV34 dc34 pm34 cd34 ct34 oc35 kV35 dc35 pm35 cd35 ct35 oc36 kV36 dc36 pm36 cd36 ct36 oc37 kV37 dc37 pm37 cd37 ct37 oc38 kV38 dc38 pm38 cd38 ct38 oc39 kV39 dc39 pm39 cd39 ct39 oc40 kV40 dc40 pm40 cd40 ct40 oc41 kV41 dc41 pm41 cd41 ct41 oc42 kV42 dc42 pm42 cd42 ct42 oc43 kV43 dc43 pm43 cd43 ct43 oc44 kV44 dc44 pm44 cd44 ct44 oc45 kV45 dc45 pm45 cd45 ct45 oc46 kV46 dc46 pm46 cd46 ct46 oc47 kV47 dc47 pm47 cd47 ct47 oc48 kV48 dc48 pm48 cd48 ct48 oc49 kV49 dc49 pm49 cd49 ct49 oc50 kV50 dc50 pm50 cd50 ct50 oc51 kV51 dc51 pm51 cd51 ct51 oc52 kV52 dc52 pm52 cd52 ct52 : Value}
    {ck_MOST_WORDS ck_MOST_STATES ck_MOST_HELD ck_MOST_VERDICT ck_NEW ck_VALUE ck_BOTH ck_FIRST ck_SECOND ck_ALIKE ck_TOGETHER : Tok}
    {C_Watcher : Addr}
    (a0 : PySem.W.nsIn K mainGlobals "is_integer" = some (some (.ref f_is_integer)))
    (l0 : K.lookup f_is_integer = some ⟨oc0, od0, .func (PySem.W.fnOf "is_integer" "is_integer" (defArgs s_is_integer) (defBody s_is_integer) (defScope s_is_integer) .none kV0 dc0 pm0 an0 cd0 ct0), sl0⟩) (c0 : PySem.W.codeIn K cd0 "is_integer" = true) (k0 : PySem.W.keepIn K (.ref f_is_integer) = true)
    (a1 : PySem.W.nsIn K mainGlobals "is_between" = some (some (.ref f_is_between)))
    (l1 : K.lookup f_is_between = some ⟨oc1, od1, .func (PySem.W.fnOf "is_between" "is_between" (defArgs s_is_between) (defBody s_is_between) (defScope s_is_between) .none kV1 dc1 pm1 an1 cd1 ct1), sl1⟩) (c1 : PySem.W.codeIn K cd1 "is_between" = true) (k1 : PySem.W.keepIn K (.ref f_is_between) = true)
    (a2 : PySem.W.findIn K (.ref C_Watcher) "__init__" = some (some (.ref f_Watcher_init))) (i2 : PySem.W.isFn K (.ref f_Watcher_init) = true)
    (l2 : K.lookup f_Watcher_init = some ⟨oc2, od2, .func (PySem.W.fnOf "__init__" "Watcher.__init__" (defArgs s_Watcher_init) (defBody s_Watcher_init) (defScope s_Watcher_init) .none kV2 dc2 pm2 an2 cd2 ct2), sl2⟩) (c2 : PySem.W.codeIn K cd2 "Watcher.__init__" = true) (k2 : PySem.W.keepIn K (.ref f_Watcher_init) = true)
    (a3 : PySem.W.findIn K (.ref C_Watcher) "__len__" = some (some (.ref f_Watcher_len))) (i3 : PySem.W.isFn K (.ref f_Watcher_len) = true)
    (l3 : K.lookup f_Watcher_len = some ⟨oc3, od3, .func (PySem.W.fnOf "__len__" "Watcher.__len__" (defArgs s_Watcher_len) (defBody s_Watcher_len) (defScope s_Watcher_len) .none kV3 dc3 pm3 an3 cd3 ct3), sl3⟩) (c3 : PySem.W.codeIn K cd3 "Watcher.__len__" = true) (k3 : PySem.W.keepIn K (.ref f_Watcher_len) = true)
    (a4 : PySem.W.findIn K (.ref C_Watcher) "add_state" = some (some (.ref f_Watcher_add_state))) (i4 : PySem.W.isFn K (.ref f_Watcher_add_state) = true)
    (l4 : K.lookup f_Watcher_add_state = some ⟨oc4, od4, .func (PySem.W.fnOf "add_state" "Watcher.add_state" (defArgs s_Watcher_add_state) (defBody s_Watcher_add_state) (defScope s_Watcher_add_state) .none kV4 dc4 pm4 an4 cd4 ct4), sl4⟩) (c4 : PySem.W.codeIn K cd4 "Watcher.add_state" = true) (k4 : PySem.W.keepIn K (.ref f_Watcher_add_state) = true)
    (a5 : PySem.W.findIn K (.ref C_Watcher) "set_verdict" = some (some (.ref f_Watcher_set_verdict))) (i5 : PySem.W.isFn K (.ref f_Watcher_set_verdict) = true)
    (l5 : K.lookup f_Watcher_set_verdict = some ⟨oc5, od5, .func (PySem.W.fnOf "set_verdict" "Watcher.set_verdict" (defArgs s_Watcher_set_verdict) (defBody s_Watcher_set_verdict) (defScope s_Watcher_set_verdict) .none kV5 dc5 pm5 an5 cd5 ct5), sl5⟩) (c5 : PySem.W.codeIn K cd5 "Watcher.set_verdict" = true) (k5 : PySem.W.keepIn K (.ref f_Watcher_set_verdict) = true)
    (a6 : PySem.W.findIn K (.ref C_Watcher) "add_rule" = some (some (.ref f_Watcher_add_rule))) (i6 : PySem.W.isFn K (.ref f_Watcher_add_rule) = true)
    (l6 : K.lookup f_Watcher_add_rule = some ⟨oc6, od6, .func (PySem.W.fnOf "add_rule" "Watcher.add_rule" (defArgs s_Watcher_add_rule) (defBody s_Watcher_add_rule) (defScope s_Watcher_add_rule) .none kV6 dc6 pm6 an6 cd6 ct6), sl6⟩) (c6 : PySem.W.codeIn K cd6 "Watcher.add_rule" = true) (k6 : PySem.W.keepIn K (.ref f_Watcher_add_rule) = true)
    (a7 : PySem.W.findIn K (.ref C_Watcher) "remove_rule" = some (some (.ref f_Watcher_remove_rule))) (i7 : PySem.W.isFn K (.ref f_Watcher_remove_rule) = true)
    (l7 : K.lookup f_Watcher_remove_rule = some ⟨oc7, od7, .func (PySem.W.fnOf "remove_rule" "Watcher.remove_rule" (defArgs s_Watcher_remove_rule) (defBody s_Watcher_remove_rule) (defScope s_Watcher_remove_rule) .none kV7 dc7 pm7 an7 cd7 ct7), sl7⟩) (c7 : PySem.W.codeIn K cd7 "Watcher.remove_rule" = true) (k7 : PySem.W.keepIn K (.ref f_Watcher_remove_rule) = true)
    (a8 : PySem.W.findIn K (.ref C_Watcher) "verdicts" = some (some (.ref f_Watcher_verdicts))) (i8 : PySem.W.isFn K (.ref f_Watcher_verdicts) = true)
    (l8 : K.lookup f_Watcher_verdicts = some ⟨oc8, od8, .func (PySem.W.fnOf "verdicts" "Watcher.verdicts" (defArgs s_Watcher_verdicts) (defBody s_Watcher_verdicts) (defScope s_Watcher_verdicts) .none kV8 dc8 pm8 an8 cd8 ct8), sl8⟩) (c8 : PySem.W.codeIn K cd8 "Watcher.verdicts" = true) (k8 : PySem.W.keepIn K (.ref f_Watcher_verdicts) = true)
    (a9 : PySem.W.findIn K (.ref C_Watcher) "held_counts" = some (some (.ref f_Watcher_held_counts))) (i9 : PySem.W.isFn K (.ref f_Watcher_held_counts) = true)
    (l9 : K.lookup f_Watcher_held_counts = some ⟨oc9, od9, .func (PySem.W.fnOf "held_counts" "Watcher.held_counts" (defArgs s_Watcher_held_counts) (defBody s_Watcher_held_counts) (defScope s_Watcher_held_counts) .none kV9 dc9 pm9 an9 cd9 ct9), sl9⟩) (c9 : PySem.W.codeIn K cd9 "Watcher.held_counts" = true) (k9 : PySem.W.keepIn K (.ref f_Watcher_held_counts) = true)
    (a10 : PySem.W.findIn K (.ref C_Watcher) "rules" = some (some (.ref f_Watcher_rules))) (i10 : PySem.W.isFn K (.ref f_Watcher_rules) = true)
    (l10 : K.lookup f_Watcher_rules = some ⟨oc10, od10, .func (PySem.W.fnOf "rules" "Watcher.rules" (defArgs s_Watcher_rules) (defBody s_Watcher_rules) (defScope s_Watcher_rules) .none kV10 dc10 pm10 an10 cd10 ct10), sl10⟩) (c10 : PySem.W.codeIn K cd10 "Watcher.rules" = true) (k10 : PySem.W.keepIn K (.ref f_Watcher_rules) = true)
    (a11 : PySem.W.findIn K (.ref C_Watcher) "rule_for" = some (some (.ref f_Watcher_rule_for))) (i11 : PySem.W.isFn K (.ref f_Watcher_rule_for) = true)
    (l11 : K.lookup f_Watcher_rule_for = some ⟨oc11, od11, .func (PySem.W.fnOf "rule_for" "Watcher.rule_for" (defArgs s_Watcher_rule_for) (defBody s_Watcher_rule_for) (defScope s_Watcher_rule_for) .none kV11 dc11 pm11 an11 cd11 ct11), sl11⟩) (c11 : PySem.W.codeIn K cd11 "Watcher.rule_for" = true) (k11 : PySem.W.keepIn K (.ref f_Watcher_rule_for) = true)
    (a12 : PySem.W.findIn K (.ref C_Watcher) "require_state" = some (some (.ref f_Watcher_require_state))) (i12 : PySem.W.isFn K (.ref f_Watcher_require_state) = true)
    (l12 : K.lookup f_Watcher_require_state = some ⟨oc12, od12, .func (PySem.W.fnOf "require_state" "Watcher.require_state" (defArgs s_Watcher_require_state) (defBody s_Watcher_require_state) (defScope s_Watcher_require_state) .none kV12 dc12 pm12 an12 cd12 ct12), sl12⟩) (c12 : PySem.W.codeIn K cd12 "Watcher.require_state" = true) (k12 : PySem.W.keepIn K (.ref f_Watcher_require_state) = true)
    (a13 : PySem.W.findIn K (.ref C_Watcher) "require_word" = some (some (.ref f_Watcher_require_word))) (i13 : PySem.W.isFn K (.ref f_Watcher_require_word) = true)
    (l13 : K.lookup f_Watcher_require_word = some ⟨oc13, od13, .func (PySem.W.fnOf "require_word" "Watcher.require_word" (defArgs s_Watcher_require_word) (defBody s_Watcher_require_word) (defScope s_Watcher_require_word) .none kV13 dc13 pm13 an13 cd13 ct13), sl13⟩) (c13 : PySem.W.codeIn K cd13 "Watcher.require_word" = true) (k13 : PySem.W.keepIn K (.ref f_Watcher_require_word) = true)
    (a14 : PySem.W.nsIn K mainGlobals "require_verdict" = some (some (.ref f_require_verdict)))
    (l14 : K.lookup f_require_verdict = some ⟨oc14, od14, .func (PySem.W.fnOf "require_verdict" "require_verdict" (defArgs s_require_verdict) (defBody s_require_verdict) (defScope s_require_verdict) .none kV14 dc14 pm14 an14 cd14 ct14), sl14⟩) (c14 : PySem.W.codeIn K cd14 "require_verdict" = true) (k14 : PySem.W.keepIn K (.ref f_require_verdict) = true)
    (a15 : PySem.W.nsIn K mainGlobals "is_test" = some (some (.ref f_is_test)))
    (l15 : K.lookup f_is_test = some ⟨oc15, od15, .func (PySem.W.fnOf "is_test" "is_test" (defArgs s_is_test) (defBody s_is_test) (defScope s_is_test) .none kV15 dc15 pm15 an15 cd15 ct15), sl15⟩) (c15 : PySem.W.codeIn K cd15 "is_test" = true) (k15 : PySem.W.keepIn K (.ref f_is_test) = true)
    (a16 : PySem.W.nsIn K mainGlobals "are_sources" = some (some (.ref f_are_sources)))
    (l16 : K.lookup f_are_sources = some ⟨oc16, od16, .func (PySem.W.fnOf "are_sources" "are_sources" (defArgs s_are_sources) (defBody s_are_sources) (defScope s_are_sources) .none kV16 dc16 pm16 an16 cd16 ct16), sl16⟩) (c16 : PySem.W.codeIn K cd16 "are_sources" = true) (k16 : PySem.W.keepIn K (.ref f_are_sources) = true)
    (a17 : PySem.W.nsIn K mainGlobals "is_source" = some (some (.ref f_is_source)))
    (l17 : K.lookup f_is_source = some ⟨oc17, od17, .func (PySem.W.fnOf "is_source" "is_source" (defArgs s_is_source) (defBody s_is_source) (defScope s_is_source) .none kV17 dc17 pm17 an17 cd17 ct17), sl17⟩) (c17 : PySem.W.codeIn K cd17 "is_source" = true) (k17 : PySem.W.keepIn K (.ref f_is_source) = true)
    (a18 : PySem.W.nsIn K mainGlobals "may_be_rule" = some (some (.ref f_may_be_rule)))
    (l18 : K.lookup f_may_be_rule = some ⟨oc18, od18, .func (PySem.W.fnOf "may_be_rule" "may_be_rule" (defArgs s_may_be_rule) (defBody s_may_be_rule) (defScope s_may_be_rule) .none kV18 dc18 pm18 an18 cd18 ct18), sl18⟩) (c18 : PySem.W.codeIn K cd18 "may_be_rule" = true) (k18 : PySem.W.keepIn K (.ref f_may_be_rule) = true)
    (a19 : PySem.W.nsIn K mainGlobals "rule_order" = some (some (.ref f_rule_order)))
    (l19 : K.lookup f_rule_order = some ⟨oc19, od19, .func (PySem.W.fnOf "rule_order" "rule_order" (defArgs s_rule_order) (defBody s_rule_order) (defScope s_rule_order) .none kV19 dc19 pm19 an19 cd19 ct19), sl19⟩) (c19 : PySem.W.codeIn K cd19 "rule_order" = true) (k19 : PySem.W.keepIn K (.ref f_rule_order) = true)
    (a20 : PySem.W.nsIn K mainGlobals "part_order" = some (some (.ref f_part_order)))
    (l20 : K.lookup f_part_order = some ⟨oc20, od20, .func (PySem.W.fnOf "part_order" "part_order" (defArgs s_part_order) (defBody s_part_order) (defScope s_part_order) .none kV20 dc20 pm20 an20 cd20 ct20), sl20⟩) (c20 : PySem.W.codeIn K cd20 "part_order" = true) (k20 : PySem.W.keepIn K (.ref f_part_order) = true)
    (a21 : PySem.W.nsIn K mainGlobals "after_message" = some (some (.ref f_after_message)))
    (l21 : K.lookup f_after_message = some ⟨oc21, od21, .func (PySem.W.fnOf "after_message" "after_message" (defArgs s_after_message) (defBody s_after_message) (defScope s_after_message) .none kV21 dc21 pm21 an21 cd21 ct21), sl21⟩) (c21 : PySem.W.codeIn K cd21 "after_message" = true) (k21 : PySem.W.keepIn K (.ref f_after_message) = true)
    (a22 : PySem.W.nsIn K mainGlobals "carried" = some (some (.ref f_carried)))
    (l22 : K.lookup f_carried = some ⟨oc22, od22, .func (PySem.W.fnOf "carried" "carried" (defArgs s_carried) (defBody s_carried) (defScope s_carried) .none kV22 dc22 pm22 an22 cd22 ct22), sl22⟩) (c22 : PySem.W.codeIn K cd22 "carried" = true) (k22 : PySem.W.keepIn K (.ref f_carried) = true)
    (a23 : PySem.W.nsIn K mainGlobals "verdicts_at" = some (some (.ref f_verdicts_at)))
    (l23 : K.lookup f_verdicts_at = some ⟨oc23, od23, .func (PySem.W.fnOf "verdicts_at" "verdicts_at" (defArgs s_verdicts_at) (defBody s_verdicts_at) (defScope s_verdicts_at) .none kV23 dc23 pm23 an23 cd23 ct23), sl23⟩) (c23 : PySem.W.codeIn K cd23 "verdicts_at" = true) (k23 : PySem.W.keepIn K (.ref f_verdicts_at) = true)
    (a24 : PySem.W.nsIn K mainGlobals "steps_from" = some (some (.ref f_steps_from)))
    (l24 : K.lookup f_steps_from = some ⟨oc24, od24, .func (PySem.W.fnOf "steps_from" "steps_from" (defArgs s_steps_from) (defBody s_steps_from) (defScope s_steps_from) .none kV24 dc24 pm24 an24 cd24 ct24), sl24⟩) (c24 : PySem.W.codeIn K cd24 "steps_from" = true) (k24 : PySem.W.keepIn K (.ref f_steps_from) = true)
    (a25 : PySem.W.nsIn K mainGlobals "steps_among" = some (some (.ref f_steps_among)))
    (l25 : K.lookup f_steps_among = some ⟨oc25, od25, .func (PySem.W.fnOf "steps_among" "steps_among" (defArgs s_steps_among) (defBody s_steps_among) (defScope s_steps_among) .none kV25 dc25 pm25 an25 cd25 ct25), sl25⟩) (c25 : PySem.W.codeIn K cd25 "steps_among" = true) (k25 : PySem.W.keepIn K (.ref f_steps_among) = true)
    (a26 : PySem.W.nsIn K mainGlobals "ways_to" = some (some (.ref f_ways_to)))
    (l26 : K.lookup f_ways_to = some ⟨oc26, od26, .func (PySem.W.fnOf "ways_to" "ways_to" (defArgs s_ways_to) (defBody s_ways_to) (defScope s_ways_to) .none kV26 dc26 pm26 an26 cd26 ct26), sl26⟩) (c26 : PySem.W.codeIn K cd26 "ways_to" = true) (k26 : PySem.W.keepIn K (.ref f_ways_to) = true)
    (a27 : PySem.W.nsIn K mainGlobals "held_numbers" = some (some (.ref f_held_numbers)))
    (l27 : K.lookup f_held_numbers = some ⟨oc27, od27, .func (PySem.W.fnOf "held_numbers" "held_numbers" (defArgs s_held_numbers) (defBody s_held_numbers) (defScope s_held_numbers) .none kV27 dc27 pm27 an27 cd27 ct27), sl27⟩) (c27 : PySem.W.codeIn K cd27 "held_numbers" = true) (k27 : PySem.W.keepIn K (.ref f_held_numbers) = true)
    (a28 : PySem.W.nsIn K mainGlobals "equal_places" = some (some (.ref f_equal_places)))
    (l28 : K.lookup f_equal_places = some ⟨oc28, od28, .func (PySem.W.fnOf "equal_places" "equal_places" (defArgs s_equal_places) (defBody s_equal_places) (defScope s_equal_places) .none kV28 dc28 pm28 an28 cd28 ct28), sl28⟩) (c28 : PySem.W.codeIn K cd28 "equal_places" = true) (k28 : PySem.W.keepIn K (.ref f_equal_places) = true)
    (a29 : PySem.W.nsIn K mainGlobals "cases_between" = some (some (.ref f_cases_between)))
    (l29 : K.lookup f_cases_between = some ⟨oc29, od29, .func (PySem.W.fnOf "cases_between" "cases_between" (defArgs s_cases_between) (defBody s_cases_between) (defScope s_cases_between) .none kV29 dc29 pm29 an29 cd29 ct29), sl29⟩) (c29 : PySem.W.codeIn K cd29 "cases_between" = true) (k29 : PySem.W.keepIn K (.ref f_cases_between) = true)
    (a30 : PySem.W.nsIn K mainGlobals "situation_after" = some (some (.ref f_situation_after)))
    (l30 : K.lookup f_situation_after = some ⟨oc30, od30, .func (PySem.W.fnOf "situation_after" "situation_after" (defArgs s_situation_after) (defBody s_situation_after) (defScope s_situation_after) .none kV30 dc30 pm30 an30 cd30 ct30), sl30⟩) (c30 : PySem.W.codeIn K cd30 "situation_after" = true) (k30 : PySem.W.keepIn K (.ref f_situation_after) = true)
    (a31 : PySem.W.nsIn K mainGlobals "value_of" = some (some (.ref f_value_of)))
    (l31 : K.lookup f_value_of = some ⟨oc31, od31, .func (PySem.W.fnOf "value_of" "value_of" (defArgs s_value_of) (defBody s_value_of) (defScope s_value_of) .none kV31 dc31 pm31 an31 cd31 ct31), sl31⟩) (c31 : PySem.W.codeIn K cd31 "value_of" = true) (k31 : PySem.W.keepIn K (.ref f_value_of) = true)
    (a32 : PySem.W.nsIn K mainGlobals "least_other" = some (some (.ref f_least_other)))
    (l32 : K.lookup f_least_other = some ⟨oc32, od32, .func (PySem.W.fnOf "least_other" "least_other" (defArgs s_least_other) (defBody s_least_other) (defScope s_least_other) .none kV32 dc32 pm32 an32 cd32 ct32), sl32⟩) (c32 : PySem.W.codeIn K cd32 "least_other" = true) (k32 : PySem.W.keepIn K (.ref f_least_other) = true)
    (a33 : PySem.W.nsIn K mainGlobals "other_value" = some (some (.ref f_other_value)))
    (l33 : K.lookup f_other_value = some ⟨oc33, od33, .func (PySem.W.fnOf "other_value" "other_value" (defArgs s_other_value) (defBody s_other_value) (defScope s_other_value) .none kV33 dc33 pm33 an33 cd33 ct33), sl33⟩) (c33 : PySem.W.codeIn K cd33 "other_value" = true) (k33 : PySem.W.keepIn K (.ref f_other_value) = true)
    (a34 : PySem.W.nsIn K mainGlobals "are_sought" = some (some (.ref f_are_sought)))
    (l34 : K.lookup f_are_sought = some ⟨oc34, od34, .func (PySem.W.fnOf "are_sought" "are_sought" (defArgs s_are_sought) (defBody s_are_sought) (defScope s_are_sought) .none kV34 dc34 pm34 an34 cd34 ct34), sl34⟩) (c34 : PySem.W.codeIn K cd34 "are_sought" = true) (k34 : PySem.W.keepIn K (.ref f_are_sought) = true)
    (a35 : PySem.W.nsIn K mainGlobals "ways_to_sought" = some (some (.ref f_ways_to_sought)))
    (l35 : K.lookup f_ways_to_sought = some ⟨oc35, od35, .func (PySem.W.fnOf "ways_to_sought" "ways_to_sought" (defArgs s_ways_to_sought) (defBody s_ways_to_sought) (defScope s_ways_to_sought) .none kV35 dc35 pm35 an35 cd35 ct35), sl35⟩) (c35 : PySem.W.codeIn K cd35 "ways_to_sought" = true) (k35 : PySem.W.keepIn K (.ref f_ways_to_sought) = true)
    (a36 : PySem.W.nsIn K mainGlobals "ways_to_unlike" = some (some (.ref f_ways_to_unlike)))
    (l36 : K.lookup f_ways_to_unlike = some ⟨oc36, od36, .func (PySem.W.fnOf "ways_to_unlike" "ways_to_unlike" (defArgs s_ways_to_unlike) (defBody s_ways_to_unlike) (defScope s_ways_to_unlike) .none kV36 dc36 pm36 an36 cd36 ct36), sl36⟩) (c36 : PySem.W.codeIn K cd36 "ways_to_unlike" = true) (k36 : PySem.W.keepIn K (.ref f_ways_to_unlike) = true)
    (a37 : PySem.W.nsIn K mainGlobals "all_places" = some (some (.ref f_all_places)))
    (l37 : K.lookup f_all_places = some ⟨oc37, od37, .func (PySem.W.fnOf "all_places" "all_places" (defArgs s_all_places) (defBody s_all_places) (defScope s_all_places) .none kV37 dc37 pm37 an37 cd37 ct37), sl37⟩) (c37 : PySem.W.codeIn K cd37 "all_places" = true) (k37 : PySem.W.keepIn K (.ref f_all_places) = true)
    (a38 : PySem.W.nsIn K mainGlobals "needed_places" = some (some (.ref f_needed_places)))
    (l38 : K.lookup f_needed_places = some ⟨oc38, od38, .func (PySem.W.fnOf "needed_places" "needed_places" (defArgs s_needed_places) (defBody s_needed_places) (defScope s_needed_places) .none kV38 dc38 pm38 an38 cd38 ct38), sl38⟩) (c38 : PySem.W.codeIn K cd38 "needed_places" = true) (k38 : PySem.W.keepIn K (.ref f_needed_places) = true)
    (a39 : PySem.W.nsIn K mainGlobals "dropped" = some (some (.ref f_dropped)))
    (l39 : K.lookup f_dropped = some ⟨oc39, od39, .func (PySem.W.fnOf "dropped" "dropped" (defArgs s_dropped) (defBody s_dropped) (defScope s_dropped) .none kV39 dc39 pm39 an39 cd39 ct39), sl39⟩) (c39 : PySem.W.codeIn K cd39 "dropped" = true) (k39 : PySem.W.keepIn K (.ref f_dropped) = true)
    (a40 : PySem.W.nsIn K mainGlobals "renumbered" = some (some (.ref f_renumbered)))
    (l40 : K.lookup f_renumbered = some ⟨oc40, od40, .func (PySem.W.fnOf "renumbered" "renumbered" (defArgs s_renumbered) (defBody s_renumbered) (defScope s_renumbered) .none kV40 dc40 pm40 an40 cd40 ct40), sl40⟩) (c40 : PySem.W.codeIn K cd40 "renumbered" = true) (k40 : PySem.W.keepIn K (.ref f_renumbered) = true)
    (a41 : PySem.W.nsIn K mainGlobals "_law_pen" = some (some (.ref f_law_pen)))
    (l41 : K.lookup f_law_pen = some ⟨oc41, od41, .func (PySem.W.fnOf "_law_pen" "_law_pen" (defArgs s_law_pen) (defBody s_law_pen) (defScope s_law_pen) .none kV41 dc41 pm41 an41 cd41 ct41), sl41⟩) (c41 : PySem.W.codeIn K cd41 "_law_pen" = true) (k41 : PySem.W.keepIn K (.ref f_law_pen) = true)
    (a42 : PySem.W.nsIn K mainGlobals "_law_fresh" = some (some (.ref f_law_fresh)))
    (l42 : K.lookup f_law_fresh = some ⟨oc42, od42, .func (PySem.W.fnOf "_law_fresh" "_law_fresh" (defArgs s_law_fresh) (defBody s_law_fresh) (defScope s_law_fresh) .none kV42 dc42 pm42 an42 cd42 ct42), sl42⟩) (c42 : PySem.W.codeIn K cd42 "_law_fresh" = true) (k42 : PySem.W.keepIn K (.ref f_law_fresh) = true)
    (a43 : PySem.W.nsIn K mainGlobals "_law_draw" = some (some (.ref f_law_draw)))
    (l43 : K.lookup f_law_draw = some ⟨oc43, od43, .func (PySem.W.fnOf "_law_draw" "_law_draw" (defArgs s_law_draw) (defBody s_law_draw) (defScope s_law_draw) .none kV43 dc43 pm43 an43 cd43 ct43), sl43⟩) (c43 : PySem.W.codeIn K cd43 "_law_draw" = true) (k43 : PySem.W.keepIn K (.ref f_law_draw) = true)
    (a44 : PySem.W.nsIn K mainGlobals "_law_some_sources" = some (some (.ref f_law_some_sources)))
    (l44 : K.lookup f_law_some_sources = some ⟨oc44, od44, .func (PySem.W.fnOf "_law_some_sources" "_law_some_sources" (defArgs s_law_some_sources) (defBody s_law_some_sources) (defScope s_law_some_sources) .none kV44 dc44 pm44 an44 cd44 ct44), sl44⟩) (c44 : PySem.W.codeIn K cd44 "_law_some_sources" = true) (k44 : PySem.W.keepIn K (.ref f_law_some_sources) = true)
    (a45 : PySem.W.nsIn K mainGlobals "_law_plan" = some (some (.ref f_law_plan)))
    (l45 : K.lookup f_law_plan = some ⟨oc45, od45, .func (PySem.W.fnOf "_law_plan" "_law_plan" (defArgs s_law_plan) (defBody s_law_plan) (defScope s_law_plan) .none kV45 dc45 pm45 an45 cd45 ct45), sl45⟩) (c45 : PySem.W.codeIn K cd45 "_law_plan" = true) (k45 : PySem.W.keepIn K (.ref f_law_plan) = true)
    (a46 : PySem.W.nsIn K mainGlobals "_law_built" = some (some (.ref f_law_built)))
    (l46 : K.lookup f_law_built = some ⟨oc46, od46, .func (PySem.W.fnOf "_law_built" "_law_built" (defArgs s_law_built) (defBody s_law_built) (defScope s_law_built) .none kV46 dc46 pm46 an46 cd46 ct46), sl46⟩) (c46 : PySem.W.codeIn K cd46 "_law_built" = true) (k46 : PySem.W.keepIn K (.ref f_law_built) = true)
    (a47 : PySem.W.nsIn K mainGlobals "_law_rank" = some (some (.ref f_law_rank)))
    (l47 : K.lookup f_law_rank = some ⟨oc47, od47, .func (PySem.W.fnOf "_law_rank" "_law_rank" (defArgs s_law_rank) (defBody s_law_rank) (defScope s_law_rank) .none kV47 dc47 pm47 an47 cd47 ct47), sl47⟩) (c47 : PySem.W.codeIn K cd47 "_law_rank" = true) (k47 : PySem.W.keepIn K (.ref f_law_rank) = true)
    (a48 : PySem.W.nsIn K mainGlobals "_law_ordered_rules" = some (some (.ref f_law_ordered_rules)))
    (l48 : K.lookup f_law_ordered_rules = some ⟨oc48, od48, .func (PySem.W.fnOf "_law_ordered_rules" "_law_ordered_rules" (defArgs s_law_ordered_rules) (defBody s_law_ordered_rules) (defScope s_law_ordered_rules) .none kV48 dc48 pm48 an48 cd48 ct48), sl48⟩) (c48 : PySem.W.codeIn K cd48 "_law_ordered_rules" = true) (k48 : PySem.W.keepIn K (.ref f_law_ordered_rules) = true)
    (a49 : PySem.W.nsIn K mainGlobals "_law_shows" = some (some (.ref f_law_shows)))
    (l49 : K.lookup f_law_shows = some ⟨oc49, od49, .func (PySem.W.fnOf "_law_shows" "_law_shows" (defArgs s_law_shows) (defBody s_law_shows) (defScope s_law_shows) .none kV49 dc49 pm49 an49 cd49 ct49), sl49⟩) (c49 : PySem.W.codeIn K cd49 "_law_shows" = true) (k49 : PySem.W.keepIn K (.ref f_law_shows) = true)
    (a50 : PySem.W.nsIn K mainGlobals "_law_few_plan" = some (some (.ref f_law_few_plan)))
    (l50 : K.lookup f_law_few_plan = some ⟨oc50, od50, .func (PySem.W.fnOf "_law_few_plan" "_law_few_plan" (defArgs s_law_few_plan) (defBody s_law_few_plan) (defScope s_law_few_plan) .none kV50 dc50 pm50 an50 cd50 ct50), sl50⟩) (c50 : PySem.W.codeIn K cd50 "_law_few_plan" = true) (k50 : PySem.W.keepIn K (.ref f_law_few_plan) = true)
    (a51 : PySem.W.nsIn K mainGlobals "_law_needless_right" = some (some (.ref f_law_needless_right)))
    (l51 : K.lookup f_law_needless_right = some ⟨oc51, od51, .func (PySem.W.fnOf "_law_needless_right" "_law_needless_right" (defArgs s_law_needless_right) (defBody s_law_needless_right) (defScope s_law_needless_right) .none kV51 dc51 pm51 an51 cd51 ct51), sl51⟩) (c51 : PySem.W.codeIn K cd51 "_law_needless_right" = true) (k51 : PySem.W.keepIn K (.ref f_law_needless_right) = true)
    (a52 : PySem.W.nsIn K mainGlobals "law" = some (some (.ref f_law)))
    (l52 : K.lookup f_law = some ⟨oc52, od52, .func (PySem.W.fnOf "law" "law" (defArgs s_law) (defBody s_law) (defScope s_law) .none kV52 dc52 pm52 an52 cd52 ct52), sl52⟩) (c52 : PySem.W.codeIn K cd52 "law" = true) (k52 : PySem.W.keepIn K (.ref f_law) = true)
    (tf_Watcher_len : PySem.W.typeIn K (.ref f_Watcher_len) = some (.type "function"))
    (wC_Watcher : PySem.W.nsIn K mainGlobals "Watcher" = some (some (.ref C_Watcher))) (pg_Watcher : PySem.W.plainGet K C_Watcher Str.empty = true) (hd_Watcher : PySem.W.hasDictIn K C_Watcher = true) (po_Watcher : PySem.W.plainOver K C_Watcher = true) (sa_Watcher : PySem.W.findIn K (.ref C_Watcher) "__setattr__" = some (some (.builtin "object.__setattr__"))) (mk_Watcher : PySem.W.makesIn K C_Watcher = true) (kc_Watcher : PySem.W.keepIn K (.ref C_Watcher) = true)
    (nf_Watcherwords : PySem.W.findIn K (.ref C_Watcher) "words" = some none)
    (nf_Watcher_verdicts : PySem.W.findIn K (.ref C_Watcher) "_verdicts" = some none)
    (nf_Watcher_held : PySem.W.findIn K (.ref C_Watcher) "_held" = some none)
    (nf_Watcher_rules : PySem.W.findIn K (.ref C_Watcher) "_rules" = some none)
    {eC0 ei0 : Addr} {nm0 eq0 : Str} {eN0 : Addr} {bs0 : List Value} {sn0 : List Str} {sub0 : List Value} {ab0 : Bool} {col0 : Option Bool} {dd0 : Option Addr} {m00 m10 m20 m30 m50 : Option Value} {eod0 ean0 : Option Addr} {esl0 : Array (Option Value)} {eoc0 edc0 epm0 ecd0 ect0 : Value}
    (eaC0 : PySem.W.nsIn K mainGlobals "NotAWord" = some (some (.ref eC0))) (exL0 : K.lookup eC0 = some (excClassObj nm0 eq0 eC0 eN0 bs0 [.type "ValueError", .type "Exception", .type "BaseException", .type "object"] true sn0 sub0 ab0 col0 dd0 m00 m10 m20 m30 m50 "ValueError.__new__"))
    (esa0 : PySem.W.findIn K (.ref eC0) "__setattr__" = some (some (.builtin "object.__setattr__"))) (ega0 : PySem.W.findIn K (.ref eC0) "__getattribute__" = some (some (.builtin "BaseException.__getattribute__"))) (egg0 : PySem.W.findIn K (.ref eC0) "__getattr__" = some none) (enb0 : PySem.W.findIn K (.ref eC0) "word" = some none)
    (ea10 : PySem.W.findIn K (.ref eC0) "__init__" = some (some (.ref ei0))) (et10 : PySem.W.typeIn K (.ref ei0) = some (.type "function"))
    (el10 : K.lookup ei0 = some ⟨eoc0, eod0, .func (PySem.W.fnOf "__init__" "NotAWord.__init__" (defArgs s_NotAWord_init) (defBody s_NotAWord_init) (defScope s_NotAWord_init) .none .none edc0 epm0 ean0 ecd0 ect0), esl0⟩) (ec10 : PySem.W.codeIn K ecd0 "NotAWord.__init__" = true)
    (ekC0 : PySem.W.keepIn K (.ref eC0) = true) (eeC0 : PySem.W.subIn K (.ref eC0) (.type "BaseException") = some true) (etC0 : PySem.W.typeIn K (.ref eC0) = some (.type "type")) (ehC0 : PySem.W.hasDictIn K eC0 = true) (eiC0 : PySem.W.isClsIn K eC0 = true) (esC0 : PySem.W.subIn K (.ref eC0) (.ref eC0) = some true)
    {eC1 ei1 : Addr} {nm1 eq1 : Str} {eN1 : Addr} {bs1 : List Value} {sn1 : List Str} {sub1 : List Value} {ab1 : Bool} {col1 : Option Bool} {dd1 : Option Addr} {m01 m11 m21 m31 m51 : Option Value} {eod1 ean1 : Option Addr} {esl1 : Array (Option Value)} {eoc1 edc1 epm1 ecd1 ect1 : Value}
    (eaC1 : PySem.W.nsIn K mainGlobals "NotAVerdict" = some (some (.ref eC1))) (exL1 : K.lookup eC1 = some (excClassObj nm1 eq1 eC1 eN1 bs1 [.type "ValueError", .type "Exception", .type "BaseException", .type "object"] true sn1 sub1 ab1 col1 dd1 m01 m11 m21 m31 m51 "ValueError.__new__"))
    (esa1 : PySem.W.findIn K (.ref eC1) "__setattr__" = some (some (.builtin "object.__setattr__"))) (ega1 : PySem.W.findIn K (.ref eC1) "__getattribute__" = some (some (.builtin "BaseException.__getattribute__"))) (egg1 : PySem.W.findIn K (.ref eC1) "__getattr__" = some none) (enb1 : PySem.W.findIn K (.ref eC1) "verdict" = some none)
    (ea11 : PySem.W.findIn K (.ref eC1) "__init__" = some (some (.ref ei1))) (et11 : PySem.W.typeIn K (.ref ei1) = some (.type "function"))
    (el11 : K.lookup ei1 = some ⟨eoc1, eod1, .func (PySem.W.fnOf "__init__" "NotAVerdict.__init__" (defArgs s_NotAVerdict_init) (defBody s_NotAVerdict_init) (defScope s_NotAVerdict_init) .none .none edc1 epm1 ean1 ecd1 ect1), esl1⟩) (ec11 : PySem.W.codeIn K ecd1 "NotAVerdict.__init__" = true)
    (ekC1 : PySem.W.keepIn K (.ref eC1) = true) (eeC1 : PySem.W.subIn K (.ref eC1) (.type "BaseException") = some true) (etC1 : PySem.W.typeIn K (.ref eC1) = some (.type "type")) (ehC1 : PySem.W.hasDictIn K eC1 = true) (eiC1 : PySem.W.isClsIn K eC1 = true) (esC1 : PySem.W.subIn K (.ref eC1) (.ref eC1) = some true)
    {eC2 ei2 : Addr} {nm2 eq2 : Str} {eN2 : Addr} {bs2 : List Value} {sn2 : List Str} {sub2 : List Value} {ab2 : Bool} {col2 : Option Bool} {dd2 : Option Addr} {m02 m12 m22 m32 m52 : Option Value} {eod2 ean2 : Option Addr} {esl2 : Array (Option Value)} {eoc2 edc2 epm2 ecd2 ect2 : Value}
    (eaC2 : PySem.W.nsIn K mainGlobals "InvalidTest" = some (some (.ref eC2))) (exL2 : K.lookup eC2 = some (excClassObj nm2 eq2 eC2 eN2 bs2 [.type "ValueError", .type "Exception", .type "BaseException", .type "object"] true sn2 sub2 ab2 col2 dd2 m02 m12 m22 m32 m52 "ValueError.__new__"))
    (esa2 : PySem.W.findIn K (.ref eC2) "__setattr__" = some (some (.builtin "object.__setattr__"))) (ega2 : PySem.W.findIn K (.ref eC2) "__getattribute__" = some (some (.builtin "BaseException.__getattribute__"))) (egg2 : PySem.W.findIn K (.ref eC2) "__getattr__" = some none) (enb2 : PySem.W.findIn K (.ref eC2) "test" = some none)
    (ea12 : PySem.W.findIn K (.ref eC2) "__init__" = some (some (.ref ei2))) (et12 : PySem.W.typeIn K (.ref ei2) = some (.type "function"))
    (el12 : K.lookup ei2 = some ⟨eoc2, eod2, .func (PySem.W.fnOf "__init__" "InvalidTest.__init__" (defArgs s_InvalidTest_init) (defBody s_InvalidTest_init) (defScope s_InvalidTest_init) .none .none edc2 epm2 ean2 ecd2 ect2), esl2⟩) (ec12 : PySem.W.codeIn K ecd2 "InvalidTest.__init__" = true)
    (ekC2 : PySem.W.keepIn K (.ref eC2) = true) (eeC2 : PySem.W.subIn K (.ref eC2) (.type "BaseException") = some true) (etC2 : PySem.W.typeIn K (.ref eC2) = some (.type "type")) (ehC2 : PySem.W.hasDictIn K eC2 = true) (eiC2 : PySem.W.isClsIn K eC2 = true) (esC2 : PySem.W.subIn K (.ref eC2) (.ref eC2) = some true)
    {eC3 ei3 : Addr} {nm3 eq3 : Str} {eN3 : Addr} {bs3 : List Value} {sn3 : List Str} {sub3 : List Value} {ab3 : Bool} {col3 : Option Bool} {dd3 : Option Addr} {m03 m13 m23 m33 m53 : Option Value} {eod3 ean3 : Option Addr} {esl3 : Array (Option Value)} {eoc3 edc3 epm3 ecd3 ect3 : Value}
    (eaC3 : PySem.W.nsIn K mainGlobals "InvalidSources" = some (some (.ref eC3))) (exL3 : K.lookup eC3 = some (excClassObj nm3 eq3 eC3 eN3 bs3 [.type "ValueError", .type "Exception", .type "BaseException", .type "object"] true sn3 sub3 ab3 col3 dd3 m03 m13 m23 m33 m53 "ValueError.__new__"))
    (esa3 : PySem.W.findIn K (.ref eC3) "__setattr__" = some (some (.builtin "object.__setattr__"))) (ega3 : PySem.W.findIn K (.ref eC3) "__getattribute__" = some (some (.builtin "BaseException.__getattribute__"))) (egg3 : PySem.W.findIn K (.ref eC3) "__getattr__" = some none) (enb3 : PySem.W.findIn K (.ref eC3) "sources" = some none)
    (ea13 : PySem.W.findIn K (.ref eC3) "__init__" = some (some (.ref ei3))) (et13 : PySem.W.typeIn K (.ref ei3) = some (.type "function"))
    (el13 : K.lookup ei3 = some ⟨eoc3, eod3, .func (PySem.W.fnOf "__init__" "InvalidSources.__init__" (defArgs s_InvalidSources_init) (defBody s_InvalidSources_init) (defScope s_InvalidSources_init) .none .none edc3 epm3 ean3 ecd3 ect3), esl3⟩) (ec13 : PySem.W.codeIn K ecd3 "InvalidSources.__init__" = true)
    (ekC3 : PySem.W.keepIn K (.ref eC3) = true) (eeC3 : PySem.W.subIn K (.ref eC3) (.type "BaseException") = some true) (etC3 : PySem.W.typeIn K (.ref eC3) = some (.type "type")) (ehC3 : PySem.W.hasDictIn K eC3 = true) (eiC3 : PySem.W.isClsIn K eC3 = true) (esC3 : PySem.W.subIn K (.ref eC3) (.ref eC3) = some true)
    {eC4 ei4 : Addr} {nm4 eq4 : Str} {eN4 : Addr} {bs4 : List Value} {sn4 : List Str} {sub4 : List Value} {ab4 : Bool} {col4 : Option Bool} {dd4 : Option Addr} {m04 m14 m24 m34 m54 : Option Value} {eod4 ean4 : Option Addr} {esl4 : Array (Option Value)} {eoc4 edc4 epm4 ecd4 ect4 : Value}
    (eaC4 : PySem.W.nsIn K mainGlobals "UnknownState" = some (some (.ref eC4))) (exL4 : K.lookup eC4 = some (excClassObj nm4 eq4 eC4 eN4 bs4 [.type "LookupError", .type "Exception", .type "BaseException", .type "object"] true sn4 sub4 ab4 col4 dd4 m04 m14 m24 m34 m54 "LookupError.__new__"))
    (esa4 : PySem.W.findIn K (.ref eC4) "__setattr__" = some (some (.builtin "object.__setattr__"))) (ega4 : PySem.W.findIn K (.ref eC4) "__getattribute__" = some (some (.builtin "BaseException.__getattribute__"))) (egg4 : PySem.W.findIn K (.ref eC4) "__getattr__" = some none) (enb4 : PySem.W.findIn K (.ref eC4) "state" = some none)
    (ea14 : PySem.W.findIn K (.ref eC4) "__init__" = some (some (.ref ei4))) (et14 : PySem.W.typeIn K (.ref ei4) = some (.type "function"))
    (el14 : K.lookup ei4 = some ⟨eoc4, eod4, .func (PySem.W.fnOf "__init__" "UnknownState.__init__" (defArgs s_UnknownState_init) (defBody s_UnknownState_init) (defScope s_UnknownState_init) .none .none edc4 epm4 ean4 ecd4 ect4), esl4⟩) (ec14 : PySem.W.codeIn K ecd4 "UnknownState.__init__" = true)
    (ekC4 : PySem.W.keepIn K (.ref eC4) = true) (eeC4 : PySem.W.subIn K (.ref eC4) (.type "BaseException") = some true) (etC4 : PySem.W.typeIn K (.ref eC4) = some (.type "type")) (ehC4 : PySem.W.hasDictIn K eC4 = true) (eiC4 : PySem.W.isClsIn K eC4 = true) (esC4 : PySem.W.subIn K (.ref eC4) (.ref eC4) = some true)
    {eC5 ei5 : Addr} {nm5 eq5 : Str} {eN5 : Addr} {bs5 : List Value} {sn5 : List Str} {sub5 : List Value} {ab5 : Bool} {col5 : Option Bool} {dd5 : Option Addr} {m05 m15 m25 m35 m55 : Option Value} {eod5 ean5 : Option Addr} {esl5 : Array (Option Value)} {eoc5 edc5 epm5 ecd5 ect5 : Value}
    (eaC5 : PySem.W.nsIn K mainGlobals "RuleExists" = some (some (.ref eC5))) (exL5 : K.lookup eC5 = some (excClassObj nm5 eq5 eC5 eN5 bs5 [.type "RuntimeError", .type "Exception", .type "BaseException", .type "object"] true sn5 sub5 ab5 col5 dd5 m05 m15 m25 m35 m55 "RuntimeError.__new__"))
    (esa5 : PySem.W.findIn K (.ref eC5) "__setattr__" = some (some (.builtin "object.__setattr__"))) (ega5 : PySem.W.findIn K (.ref eC5) "__getattribute__" = some (some (.builtin "BaseException.__getattribute__"))) (egg5 : PySem.W.findIn K (.ref eC5) "__getattr__" = some none) (enb5 : PySem.W.findIn K (.ref eC5) "rule" = some none)
    (ea15 : PySem.W.findIn K (.ref eC5) "__init__" = some (some (.ref ei5))) (et15 : PySem.W.typeIn K (.ref ei5) = some (.type "function"))
    (el15 : K.lookup ei5 = some ⟨eoc5, eod5, .func (PySem.W.fnOf "__init__" "RuleExists.__init__" (defArgs s_RuleExists_init) (defBody s_RuleExists_init) (defScope s_RuleExists_init) .none .none edc5 epm5 ean5 ecd5 ect5), esl5⟩) (ec15 : PySem.W.codeIn K ecd5 "RuleExists.__init__" = true)
    (ekC5 : PySem.W.keepIn K (.ref eC5) = true) (eeC5 : PySem.W.subIn K (.ref eC5) (.type "BaseException") = some true) (etC5 : PySem.W.typeIn K (.ref eC5) = some (.type "type")) (ehC5 : PySem.W.hasDictIn K eC5 = true) (eiC5 : PySem.W.isClsIn K eC5 = true) (esC5 : PySem.W.subIn K (.ref eC5) (.ref eC5) = some true)
    {eC6 ei6 : Addr} {nm6 eq6 : Str} {eN6 : Addr} {bs6 : List Value} {sn6 : List Str} {sub6 : List Value} {ab6 : Bool} {col6 : Option Bool} {dd6 : Option Addr} {m06 m16 m26 m36 m56 : Option Value} {eod6 ean6 : Option Addr} {esl6 : Array (Option Value)} {eoc6 edc6 epm6 ecd6 ect6 : Value}
    (eaC6 : PySem.W.nsIn K mainGlobals "LimitExceeded" = some (some (.ref eC6))) (exL6 : K.lookup eC6 = some (excClassObj nm6 eq6 eC6 eN6 bs6 [.type "OverflowError", .type "ArithmeticError", .type "Exception", .type "BaseException", .type "object"] true sn6 sub6 ab6 col6 dd6 m06 m16 m26 m36 m56 "OverflowError.__new__"))
    (esa6 : PySem.W.findIn K (.ref eC6) "__setattr__" = some (some (.builtin "object.__setattr__"))) (ega6 : PySem.W.findIn K (.ref eC6) "__getattribute__" = some (some (.builtin "BaseException.__getattribute__"))) (egg6 : PySem.W.findIn K (.ref eC6) "__getattr__" = some none) (enb6 : PySem.W.findIn K (.ref eC6) "limit" = some none)
    (ea16 : PySem.W.findIn K (.ref eC6) "__init__" = some (some (.ref ei6))) (et16 : PySem.W.typeIn K (.ref ei6) = some (.type "function"))
    (el16 : K.lookup ei6 = some ⟨eoc6, eod6, .func (PySem.W.fnOf "__init__" "LimitExceeded.__init__" (defArgs s_LimitExceeded_init) (defBody s_LimitExceeded_init) (defScope s_LimitExceeded_init) .none .none edc6 epm6 ean6 ecd6 ect6), esl6⟩) (ec16 : PySem.W.codeIn K ecd6 "LimitExceeded.__init__" = true)
    (ekC6 : PySem.W.keepIn K (.ref eC6) = true) (eeC6 : PySem.W.subIn K (.ref eC6) (.type "BaseException") = some true) (etC6 : PySem.W.typeIn K (.ref eC6) = some (.type "type")) (ehC6 : PySem.W.hasDictIn K eC6 = true) (eiC6 : PySem.W.isClsIn K eC6 = true) (esC6 : PySem.W.subIn K (.ref eC6) (.ref eC6) = some true)
    {eC7 ei7 : Addr} {nm7 eq7 : Str} {eN7 : Addr} {bs7 : List Value} {sn7 : List Str} {sub7 : List Value} {ab7 : Bool} {col7 : Option Bool} {dd7 : Option Addr} {m07 m17 m27 m37 m57 : Option Value} {eod7 ean7 : Option Addr} {esl7 : Array (Option Value)} {eoc7 edc7 epm7 ecd7 ect7 : Value}
    (eaC7 : PySem.W.nsIn K mainGlobals "UnknownRule" = some (some (.ref eC7))) (exL7 : K.lookup eC7 = some (excClassObj nm7 eq7 eC7 eN7 bs7 [.type "LookupError", .type "Exception", .type "BaseException", .type "object"] true sn7 sub7 ab7 col7 dd7 m07 m17 m27 m37 m57 "LookupError.__new__"))
    (esa7 : PySem.W.findIn K (.ref eC7) "__setattr__" = some (some (.builtin "object.__setattr__"))) (ega7 : PySem.W.findIn K (.ref eC7) "__getattribute__" = some (some (.builtin "BaseException.__getattribute__"))) (egg7 : PySem.W.findIn K (.ref eC7) "__getattr__" = some none) (enb7 : PySem.W.findIn K (.ref eC7) "rule" = some none)
    (ea17 : PySem.W.findIn K (.ref eC7) "__init__" = some (some (.ref ei7))) (et17 : PySem.W.typeIn K (.ref ei7) = some (.type "function"))
    (el17 : K.lookup ei7 = some ⟨eoc7, eod7, .func (PySem.W.fnOf "__init__" "UnknownRule.__init__" (defArgs s_UnknownRule_init) (defBody s_UnknownRule_init) (defScope s_UnknownRule_init) .none .none edc7 epm7 ean7 ecd7 ect7), esl7⟩) (ec17 : PySem.W.codeIn K ecd7 "UnknownRule.__init__" = true)
    (ekC7 : PySem.W.keepIn K (.ref eC7) = true) (eeC7 : PySem.W.subIn K (.ref eC7) (.type "BaseException") = some true) (etC7 : PySem.W.typeIn K (.ref eC7) = some (.type "type")) (ehC7 : PySem.W.hasDictIn K eC7 = true) (eiC7 : PySem.W.isClsIn K eC7 = true) (esC7 : PySem.W.subIn K (.ref eC7) (.ref eC7) = some true)
    (ka_MOST_WORDS : PySem.W.nsIn K mainGlobals "MOST_WORDS" = some (some (.int 3 ck_MOST_WORDS)))
    (ka_MOST_STATES : PySem.W.nsIn K mainGlobals "MOST_STATES" = some (some (.int 6 ck_MOST_STATES)))
    (ka_MOST_HELD : PySem.W.nsIn K mainGlobals "MOST_HELD" = some (some (.int 3 ck_MOST_HELD)))
    (ka_MOST_VERDICT : PySem.W.nsIn K mainGlobals "MOST_VERDICT" = some (some (.int 3 ck_MOST_VERDICT)))
    (ka_NEW : PySem.W.nsIn K mainGlobals "NEW" = some (some (.str "new" ck_NEW)))
    (ka_VALUE : PySem.W.nsIn K mainGlobals "VALUE" = some (some (.str "value" ck_VALUE)))
    (ka_BOTH : PySem.W.nsIn K mainGlobals "BOTH" = some (some (.str "both" ck_BOTH)))
    (ka_FIRST : PySem.W.nsIn K mainGlobals "FIRST" = some (some (.str "first" ck_FIRST)))
    (ka_SECOND : PySem.W.nsIn K mainGlobals "SECOND" = some (some (.str "second" ck_SECOND)))
    (ka_ALIKE : PySem.W.nsIn K mainGlobals "ALIKE" = some (some (.str "alike" ck_ALIKE)))
    (ka_TOGETHER : PySem.W.nsIn K mainGlobals "TOGETHER" = some (some (.str "together" ck_TOGETHER)))
    (z0 : PySem.W.nsIn K mainGlobals "abs" = some none)
    (z1 : PySem.W.nsIn K mainGlobals "enumerate" = some none)
    (z2 : PySem.W.nsIn K mainGlobals "list" = some none)
    (z3 : PySem.W.nsIn K mainGlobals "len" = some none)
    (z4 : PySem.W.nsIn K mainGlobals "range" = some none)
    (z5 : PySem.W.nsIn K mainGlobals "tuple" = some none)
    (z6 : PySem.W.nsIn K mainGlobals "isinstance" = some none)
    (z7 : PySem.W.nsIn K mainGlobals "bool" = some none)
    (z8 : PySem.W.nsIn K mainGlobals "int" = some none)
    (z9 : PySem.W.nsIn K mainGlobals "sorted" = some none)
    (z10 : PySem.W.nsIn K mainGlobals "set" = some none)
    (z11 : PySem.W.nsIn K mainGlobals "repr" = some none)
    (z12 : PySem.W.nsIn K mainGlobals "dict" = some none)
    : ∃ fd : FuncData, (∀ (s : Shared) (v : Value), BindsTo s fd ⟨[v], []⟩ [("script", v)]) ∧ ∀ base : Heap, K.In base → base.Ns mainGlobals mg → FnG l.prog w K mg base CX0 11 fa fd ["script"] (sp_law K) := by
  have e := hfa.symm.trans (PySem.W.mg_of X G a52)
  cases e
  have F_is_integer := fun_mk (st := s_is_integer) l0 c0 k0
  have b_is_integer := F_is_integer.binds (ps := ["value"]) fun _ _ _ _ _ _ us hl => match us, hl with | [_], _ => rfl
  have F_is_between := fun_mk (st := s_is_between) l1 c1 k1
  have b_is_between := F_is_between.binds (ps := ["value", "low", "high"]) fun _ _ _ _ _ _ us hl => match us, hl with | [_, _, _], _ => rfl
  have F_Watcher_init := fun_mk (st := s_Watcher_init) l2 c2 k2
  have b_Watcher_init := F_Watcher_init.binds (ps := ["self", "words"]) fun _ _ _ _ _ _ us hl => match us, hl with | [_, _], _ => rfl
  have F_Watcher_len := fun_mk (st := s_Watcher_len) l3 c3 k3
  have b_Watcher_len := F_Watcher_len.binds (ps := ["self"]) fun _ _ _ _ _ _ us hl => match us, hl with | [_], _ => rfl
  have F_Watcher_add_state := fun_mk (st := s_Watcher_add_state) l4 c4 k4
  have b_Watcher_add_state := F_Watcher_add_state.binds (ps := ["self", "verdict", "held"]) fun _ _ _ _ _ _ us hl => match us, hl with | [_, _, _], _ => rfl
  have F_Watcher_set_verdict := fun_mk (st := s_Watcher_set_verdict) l5 c5 k5
  have b_Watcher_set_verdict := F_Watcher_set_verdict.binds (ps := ["self", "state", "verdict"]) fun _ _ _ _ _ _ us hl => match us, hl with | [_, _, _], _ => rfl
  have F_Watcher_add_rule := fun_mk (st := s_Watcher_add_rule) l6 c6 k6
  have b_Watcher_add_rule := F_Watcher_add_rule.binds (ps := ["self", "state", "word", "test", "target", "sources"]) fun _ _ _ _ _ _ us hl => match us, hl with | [_, _, _, _, _, _], _ => rfl
  have F_Watcher_remove_rule := fun_mk (st := s_Watcher_remove_rule) l7 c7 k7
  have b_Watcher_remove_rule := F_Watcher_remove_rule.binds (ps := ["self", "state", "word", "test"]) fun _ _ _ _ _ _ us hl => match us, hl with | [_, _, _, _], _ => rfl
  have F_Watcher_verdicts := fun_mk (st := s_Watcher_verdicts) l8 c8 k8
  have b_Watcher_verdicts := F_Watcher_verdicts.binds (ps := ["self"]) fun _ _ _ _ _ _ us hl => match us, hl with | [_], _ => rfl
  have F_Watcher_held_counts := fun_mk (st := s_Watcher_held_counts) l9 c9 k9
  have b_Watcher_held_counts := F_Watcher_held_counts.binds (ps := ["self"]) fun _ _ _ _ _ _ us hl => match us, hl with | [_], _ => rfl
  have F_Watcher_rules := fun_mk (st := s_Watcher_rules) l10 c10 k10
  have b_Watcher_rules := F_Watcher_rules.binds (ps := ["self"]) fun _ _ _ _ _ _ us hl => match us, hl with | [_], _ => rfl
  have F_Watcher_rule_for := fun_mk (st := s_Watcher_rule_for) l11 c11 k11
  have b_Watcher_rule_for := F_Watcher_rule_for.binds (ps := ["self", "state", "word", "test"]) fun _ _ _ _ _ _ us hl => match us, hl with | [_, _, _, _], _ => rfl
  have F_Watcher_require_state := fun_mk (st := s_Watcher_require_state) l12 c12 k12
  have b_Watcher_require_state := F_Watcher_require_state.binds (ps := ["self", "state"]) fun _ _ _ _ _ _ us hl => match us, hl with | [_, _], _ => rfl
  have F_Watcher_require_word := fun_mk (st := s_Watcher_require_word) l13 c13 k13
  have b_Watcher_require_word := F_Watcher_require_word.binds (ps := ["self", "word"]) fun _ _ _ _ _ _ us hl => match us, hl with | [_, _], _ => rfl
  have F_require_verdict := fun_mk (st := s_require_verdict) l14 c14 k14
  have b_require_verdict := F_require_verdict.binds (ps := ["verdict"]) fun _ _ _ _ _ _ us hl => match us, hl with | [_], _ => rfl
  have F_is_test := fun_mk (st := s_is_test) l15 c15 k15
  have b_is_test := F_is_test.binds (ps := ["test", "held"]) fun _ _ _ _ _ _ us hl => match us, hl with | [_, _], _ => rfl
  have F_are_sources := fun_mk (st := s_are_sources) l16 c16 k16
  have b_are_sources := F_are_sources.binds (ps := ["sources", "wanted", "held", "test"]) fun _ _ _ _ _ _ us hl => match us, hl with | [_, _, _, _], _ => rfl
  have F_is_source := fun_mk (st := s_is_source) l17 c17 k17
  have b_is_source := F_is_source.binds (ps := ["source", "held", "test"]) fun _ _ _ _ _ _ us hl => match us, hl with | [_, _, _], _ => rfl
  have F_may_be_rule := fun_mk (st := s_may_be_rule) l18 c18 k18
  have b_may_be_rule := F_may_be_rule.binds (ps := ["rule"]) fun _ _ _ _ _ _ us hl => match us, hl with | [_], _ => rfl
  have F_rule_order := fun_mk (st := s_rule_order) l19 c19 k19
  have b_rule_order := F_rule_order.binds (ps := ["rule"]) fun _ _ _ _ _ _ us hl => match us, hl with | [_], _ => rfl
  have F_part_order := fun_mk (st := s_part_order) l20 c20 k20
  have b_part_order := F_part_order.binds (ps := ["part"]) fun _ _ _ _ _ _ us hl => match us, hl with | [_], _ => rfl
  have F_after_message := fun_mk (st := s_after_message) l21 c21 k21
  have b_after_message := F_after_message.binds (ps := ["watcher", "state", "held", "word", "value"]) fun _ _ _ _ _ _ us hl => match us, hl with | [_, _, _, _, _], _ => rfl
  have F_carried := fun_mk (st := s_carried) l22 c22 k22
  have b_carried := F_carried.binds (ps := ["sources", "held", "value"]) fun _ _ _ _ _ _ us hl => match us, hl with | [_, _, _], _ => rfl
  have F_verdicts_at := fun_mk (st := s_verdicts_at) l23 c23 k23
  have b_verdicts_at := F_verdicts_at.binds (ps := ["pair", "situation"]) fun _ _ _ _ _ _ us hl => match us, hl with | [_, _], _ => rfl
  have F_steps_from := fun_mk (st := s_steps_from) l24 c24 k24
  have b_steps_from := F_steps_from.binds (ps := ["pair", "situation"]) fun _ _ _ _ _ _ us hl => match us, hl with | [_, _], _ => rfl
  have F_steps_among := fun_mk (st := s_steps_among) l25 c25 k25
  have b_steps_among := F_steps_among.binds (ps := ["pair", "situations"]) fun _ _ _ _ _ _ us hl => match us, hl with | [_, _], _ => rfl
  have F_ways_to := fun_mk (st := s_ways_to) l26 c26 k26
  have b_ways_to := F_ways_to.binds (ps := ["steps", "ends"]) fun _ _ _ _ _ _ us hl => match us, hl with | [_, _], _ => rfl
  have F_held_numbers := fun_mk (st := s_held_numbers) l27 c27 k27
  have b_held_numbers := F_held_numbers.binds (ps := ["pair", "situation"]) fun _ _ _ _ _ _ us hl => match us, hl with | [_, _], _ => rfl
  have F_equal_places := fun_mk (st := s_equal_places) l28 c28 k28
  have b_equal_places := F_equal_places.binds (ps := ["first", "second"]) fun _ _ _ _ _ _ us hl => match us, hl with | [_, _], _ => rfl
  have F_cases_between := fun_mk (st := s_cases_between) l29 c29 k29
  have b_cases_between := F_cases_between.binds (ps := ["first", "second"]) fun _ _ _ _ _ _ us hl => match us, hl with | [_, _], _ => rfl
  have F_situation_after := fun_mk (st := s_situation_after) l30 c30 k30
  have b_situation_after := F_situation_after.binds (ps := ["pair", "situation", "held", "word", "case"]) fun _ _ _ _ _ _ us hl => match us, hl with | [_, _, _, _, _], _ => rfl
  have F_value_of := fun_mk (st := s_value_of) l31 c31 k31
  have b_value_of := F_value_of.binds (ps := ["case", "first", "second"]) fun _ _ _ _ _ _ us hl => match us, hl with | [_, _, _], _ => rfl
  have F_least_other := fun_mk (st := s_least_other) l32 c32 k32
  have b_least_other := F_least_other.binds (ps := ["values"]) fun _ _ _ _ _ _ us hl => match us, hl with | [_], _ => rfl
  have F_other_value := fun_mk (st := s_other_value) l33 c33 k33
  have b_other_value := F_other_value.binds (ps := ["watcher", "p", "i"]) fun _ _ _ _ _ _ us hl => match us, hl with | [_, _, _], _ => rfl
  have F_are_sought := fun_mk (st := s_are_sought) l34 c34 k34
  have b_are_sought := F_are_sought.binds (ps := ["claim", "verdicts"]) fun _ _ _ _ _ _ us hl => match us, hl with | [_, _], _ => rfl
  have F_ways_to_sought := fun_mk (st := s_ways_to_sought) l35 c35 k35
  have b_ways_to_sought := F_ways_to_sought.binds (ps := ["watchers", "situations", "claim"]) fun _ _ _ _ _ _ us hl => match us, hl with | [_, _, _], _ => rfl
  have F_ways_to_unlike := fun_mk (st := s_ways_to_unlike) l36 c36 k36
  have b_ways_to_unlike := F_ways_to_unlike.binds (ps := ["watcher", "situations"]) fun _ _ _ _ _ _ us hl => match us, hl with | [_, _], _ => rfl
  have F_all_places := fun_mk (st := s_all_places) l37 c37 k37
  have b_all_places := F_all_places.binds (ps := ["watcher"]) fun _ _ _ _ _ _ us hl => match us, hl with | [_], _ => rfl
  have F_needed_places := fun_mk (st := s_needed_places) l38 c38 k38
  have b_needed_places := F_needed_places.binds (ps := ["watcher"]) fun _ _ _ _ _ _ us hl => match us, hl with | [_], _ => rfl
  have F_dropped := fun_mk (st := s_dropped) l39 c39 k39
  have b_dropped := F_dropped.binds (ps := ["watcher"]) fun _ _ _ _ _ _ us hl => match us, hl with | [_], _ => rfl
  have F_renumbered := fun_mk (st := s_renumbered) l40 c40 k40
  have b_renumbered := F_renumbered.binds (ps := ["part", "places"]) fun _ _ _ _ _ _ us hl => match us, hl with | [_, _], _ => rfl
  have F_law_pen := fun_mk (st := s_law_pen) l41 c41 k41
  have b_law_pen := F_law_pen.binds (ps := ["script"]) fun _ _ _ _ _ _ us hl => match us, hl with | [_], _ => rfl
  have F_law_fresh := fun_mk (st := s_law_fresh) l42 c42 k42
  have b_law_fresh := F_law_fresh.binds (ps := ["pen"]) fun _ _ _ _ _ _ us hl => match us, hl with | [_], _ => rfl
  have F_law_draw := fun_mk (st := s_law_draw) l43 c43 k43
  have b_law_draw := F_law_draw.binds (ps := ["pen", "many"]) fun _ _ _ _ _ _ us hl => match us, hl with | [_, _], _ => rfl
  have F_law_some_sources := fun_mk (st := s_law_some_sources) l44 c44 k44
  have b_law_some_sources := F_law_some_sources.binds (ps := ["pen", "held", "test", "many"]) fun _ _ _ _ _ _ us hl => match us, hl with | [_, _, _, _], _ => rfl
  have F_law_plan := fun_mk (st := s_law_plan) l45 c45 k45
  have b_law_plan := F_law_plan.binds (ps := ["pen", "words", "states", "held"]) fun _ _ _ _ _ _ us hl => match us, hl with | [_, _, _, _], _ => rfl
  have F_law_built := fun_mk (st := s_law_built) l46 c46 k46
  have b_law_built := F_law_built.binds (ps := ["plan"]) fun _ _ _ _ _ _ us hl => match us, hl with | [_], _ => rfl
  have F_law_rank := fun_mk (st := s_law_rank) l47 c47 k47
  have b_law_rank := F_law_rank.binds (ps := ["rule"]) fun _ _ _ _ _ _ us hl => match us, hl with | [_], _ => rfl
  have F_law_ordered_rules := fun_mk (st := s_law_ordered_rules) l48 c48 k48
  have b_law_ordered_rules := F_law_ordered_rules.binds (ps := ["plan"]) fun _ _ _ _ _ _ us hl => match us, hl with | [_], _ => rfl
  have F_law_shows := fun_mk (st := s_law_shows) l49 c49 k49
  have b_law_shows := F_law_shows.binds (ps := ["watcher", "plan"]) fun _ _ _ _ _ _ us hl => match us, hl with | [_, _], _ => rfl
  have F_law_few_plan := fun_mk (st := s_law_few_plan) l50 c50 k50
  have b_law_few_plan := F_law_few_plan.binds (ps := ["pen"]) fun _ _ _ _ _ _ us hl => match us, hl with | [_], _ => rfl
  have F_law_needless_right := fun_mk (st := s_law_needless_right) l51 c51 k51
  have b_law_needless_right := F_law_needless_right.binds (ps := ["pen"]) fun _ _ _ _ _ _ us hl => match us, hl with | [_], _ => rfl
  have F_law := fun_mk (st := s_law) l52 c52 k52
  have T_NotAWord : L2.ErrOk OwnE.bVE "NotAWord" "word" "NotAWord.__init__" K mg eC0 ei0 := ⟨OwnE.bVE_ok, { gC := PySem.W.mg_of X G eaC0, cls := ⟨nm0, eq0, eN0, bs0, _, sn0, sub0, ab0, col0, dd0, m00, m10, m20, m30, m50, exL0, by decide +kernel⟩, sa := esa0, ga := ega0, gg := egg0, noN := enb0, iC := ea10, tC := et10, kC := ekC0, exC := eeC0, tyC := etC0, hdC := ehC0, te := OwnE.exm_own eeC0 eiC0 etC0 esC0, fn := ⟨eoc0, eod0, edc0, epm0, ean0, ecd0, ect0, esl0, _, _, _, _, _, _, defScope s_NotAWord_init, el10, ec10, rfl, by decide +kernel, by decide +kernel, rfl, rfl⟩ }, by decide, by decide, fun _ _ _ _ _ _ _ _ _ _ _ _ _ _ _ _ => by first | rfl | with_unfolding_all rfl⟩
  have T_NotAVerdict : L2.ErrOk OwnE.bVE "NotAVerdict" "verdict" "NotAVerdict.__init__" K mg eC1 ei1 := ⟨OwnE.bVE_ok, { gC := PySem.W.mg_of X G eaC1, cls := ⟨nm1, eq1, eN1, bs1, _, sn1, sub1, ab1, col1, dd1, m01, m11, m21, m31, m51, exL1, by decide +kernel⟩, sa := esa1, ga := ega1, gg := egg1, noN := enb1, iC := ea11, tC := et11, kC := ekC1, exC := eeC1, tyC := etC1, hdC := ehC1, te := OwnE.exm_own eeC1 eiC1 etC1 esC1, fn := ⟨eoc1, eod1, edc1, epm1, ean1, ecd1, ect1, esl1, _, _, _, _, _, _, defScope s_NotAVerdict_init, el11, ec11, rfl, by decide +kernel, by decide +kernel, rfl, rfl⟩ }, by decide, by decide, fun _ _ _ _ _ _ _ _ _ _ _ _ _ _ _ _ => by first | rfl | with_unfolding_all rfl⟩
  have T_InvalidTest : L2.ErrOk OwnE.bVE "InvalidTest" "test" "InvalidTest.__init__" K mg eC2 ei2 := ⟨OwnE.bVE_ok, { gC := PySem.W.mg_of X G eaC2, cls := ⟨nm2, eq2, eN2, bs2, _, sn2, sub2, ab2, col2, dd2, m02, m12, m22, m32, m52, exL2, by decide +kernel⟩, sa := esa2, ga := ega2, gg := egg2, noN := enb2, iC := ea12, tC := et12, kC := ekC2, exC := eeC2, tyC := etC2, hdC := ehC2, te := OwnE.exm_own eeC2 eiC2 etC2 esC2, fn := ⟨eoc2, eod2, edc2, epm2, ean2, ecd2, ect2, esl2, _, _, _, _, _, _, defScope s_InvalidTest_init, el12, ec12, rfl, by decide +kernel, by decide +kernel, rfl, rfl⟩ }, by decide, by decide, fun _ _ _ _ _ _ _ _ _ _ _ _ _ _ _ _ => by first | rfl | with_unfolding_all rfl⟩
  have T_InvalidSources : L2.ErrOk OwnE.bVE "InvalidSources" "sources" "InvalidSources.__init__" K mg eC3 ei3 := ⟨OwnE.bVE_ok, { gC := PySem.W.mg_of X G eaC3, cls := ⟨nm3, eq3, eN3, bs3, _, sn3, sub3, ab3, col3, dd3, m03, m13, m23, m33, m53, exL3, by decide +kernel⟩, sa := esa3, ga := ega3, gg := egg3, noN := enb3, iC := ea13, tC := et13, kC := ekC3, exC := eeC3, tyC := etC3, hdC := ehC3, te := OwnE.exm_own eeC3 eiC3 etC3 esC3, fn := ⟨eoc3, eod3, edc3, epm3, ean3, ecd3, ect3, esl3, _, _, _, _, _, _, defScope s_InvalidSources_init, el13, ec13, rfl, by decide +kernel, by decide +kernel, rfl, rfl⟩ }, by decide, by decide, fun _ _ _ _ _ _ _ _ _ _ _ _ _ _ _ _ => by first | rfl | with_unfolding_all rfl⟩
  have T_UnknownState : L2.ErrOk OwnE.bLE "UnknownState" "state" "UnknownState.__init__" K mg eC4 ei4 := ⟨OwnE.bLE_ok, { gC := PySem.W.mg_of X G eaC4, cls := ⟨nm4, eq4, eN4, bs4, _, sn4, sub4, ab4, col4, dd4, m04, m14, m24, m34, m54, exL4, by decide +kernel⟩, sa := esa4, ga := ega4, gg := egg4, noN := enb4, iC := ea14, tC := et14, kC := ekC4, exC := eeC4, tyC := etC4, hdC := ehC4, te := OwnE.exm_own eeC4 eiC4 etC4 esC4, fn := ⟨eoc4, eod4, edc4, epm4, ean4, ecd4, ect4, esl4, _, _, _, _, _, _, defScope s_UnknownState_init, el14, ec14, rfl, by decide +kernel, by decide +kernel, rfl, rfl⟩ }, by decide, by decide, fun _ _ _ _ _ _ _ _ _ _ _ _ _ _ _ _ => by first | rfl | with_unfolding_all rfl⟩
  have T_RuleExists : L2.ErrOk OwnE.bRE "RuleExists" "rule" "RuleExists.__init__" K mg eC5 ei5 := ⟨OwnE.bRE_ok, { gC := PySem.W.mg_of X G eaC5, cls := ⟨nm5, eq5, eN5, bs5, _, sn5, sub5, ab5, col5, dd5, m05, m15, m25, m35, m55, exL5, by decide +kernel⟩, sa := esa5, ga := ega5, gg := egg5, noN := enb5, iC := ea15, tC := et15, kC := ekC5, exC := eeC5, tyC := etC5, hdC := ehC5, te := OwnE.exm_own eeC5 eiC5 etC5 esC5, fn := ⟨eoc5, eod5, edc5, epm5, ean5, ecd5, ect5, esl5, _, _, _, _, _, _, defScope s_RuleExists_init, el15, ec15, rfl, by decide +kernel, by decide +kernel, rfl, rfl⟩ }, by decide, by decide, fun _ _ _ _ _ _ _ _ _ _ _ _ _ _ _ _ => by first | rfl | with_unfolding_all rfl⟩
  have T_LimitExceeded : L2.ErrOk OwnE.bOE "LimitExceeded" "limit" "LimitExceeded.__init__" K mg eC6 ei6 := ⟨OwnE.bOE_ok, { gC := PySem.W.mg_of X G eaC6, cls := ⟨nm6, eq6, eN6, bs6, _, sn6, sub6, ab6, col6, dd6, m06, m16, m26, m36, m56, exL6, by decide +kernel⟩, sa := esa6, ga := ega6, gg := egg6, noN := enb6, iC := ea16, tC := et16, kC := ekC6, exC := eeC6, tyC := etC6, hdC := ehC6, te := OwnE.exm_own eeC6 eiC6 etC6 esC6, fn := ⟨eoc6, eod6, edc6, epm6, ean6, ecd6, ect6, esl6, _, _, _, _, _, _, defScope s_LimitExceeded_init, el16, ec16, rfl, by decide +kernel, by decide +kernel, rfl, rfl⟩ }, by decide, by decide, fun _ _ _ _ _ _ _ _ _ _ _ _ _ _ _ _ => by first | rfl | with_unfolding_all rfl⟩
  have T_UnknownRule : L2.ErrOk OwnE.bLE "UnknownRule" "rule" "UnknownRule.__init__" K mg eC7 ei7 := ⟨OwnE.bLE_ok, { gC := PySem.W.mg_of X G eaC7, cls := ⟨nm7, eq7, eN7, bs7, _, sn7, sub7, ab7, col7, dd7, m07, m17, m27, m37, m57, exL7, by decide +kernel⟩, sa := esa7, ga := ega7, gg := egg7, noN := enb7, iC := ea17, tC := et17, kC := ekC7, exC := eeC7, tyC := etC7, hdC := ehC7, te := OwnE.exm_own eeC7 eiC7 etC7 esC7, fn := ⟨eoc7, eod7, edc7, epm7, ean7, ecd7, ect7, esl7, _, _, _, _, _, _, defScope s_UnknownRule_init, el17, ec17, rfl, by decide +kernel, by decide +kernel, rfl, rfl⟩ }, by decide, by decide, fun _ _ _ _ _ _ _ _ _ _ _ _ _ _ _ _ => by first | rfl | with_unfolding_all rfl⟩
  have T : Tx K mg := {
    Watcher := ⟨C_Watcher, ⟨pg_Watcher, hd_Watcher, po_Watcher, sa_Watcher⟩, PySem.W.mg_of X G wC_Watcher⟩
    nf_Watcherwords := nf_Watcherwords
    nf_Watcher_verdicts := nf_Watcher_verdicts
    nf_Watcher_held := nf_Watcher_held
    nf_Watcher_rules := nf_Watcher_rules
    is_integer := ⟨f_is_integer, _, F_is_integer, b_is_integer, PySem.W.mg_of X G a0⟩
    is_between := ⟨f_is_between, _, F_is_between, b_is_between, PySem.W.mg_of X G a1⟩
    Watcher_init := ⟨f_Watcher_init, _, F_Watcher_init, b_Watcher_init, ⟨a2, i2, k2⟩⟩
    Watcher_len := ⟨f_Watcher_len, _, F_Watcher_len, b_Watcher_len, ⟨a3, i3, k3⟩⟩
    Watcher_add_state := ⟨f_Watcher_add_state, _, F_Watcher_add_state, b_Watcher_add_state, ⟨a4, i4, k4⟩⟩
    Watcher_set_verdict := ⟨f_Watcher_set_verdict, _, F_Watcher_set_verdict, b_Watcher_set_verdict, ⟨a5, i5, k5⟩⟩
    Watcher_add_rule := ⟨f_Watcher_add_rule, _, F_Watcher_add_rule, b_Watcher_add_rule, ⟨a6, i6, k6⟩⟩
    Watcher_remove_rule := ⟨f_Watcher_remove_rule, _, F_Watcher_remove_rule, b_Watcher_remove_rule, ⟨a7, i7, k7⟩⟩
    Watcher_verdicts := ⟨f_Watcher_verdicts, _, F_Watcher_verdicts, b_Watcher_verdicts, ⟨a8, i8, k8⟩⟩
    Watcher_held_counts := ⟨f_Watcher_held_counts, _, F_Watcher_held_counts, b_Watcher_held_counts, ⟨a9, i9, k9⟩⟩
    Watcher_rules := ⟨f_Watcher_rules, _, F_Watcher_rules, b_Watcher_rules, ⟨a10, i10, k10⟩⟩
    Watcher_rule_for := ⟨f_Watcher_rule_for, _, F_Watcher_rule_for, b_Watcher_rule_for, ⟨a11, i11, k11⟩⟩
    Watcher_require_state := ⟨f_Watcher_require_state, _, F_Watcher_require_state, b_Watcher_require_state, ⟨a12, i12, k12⟩⟩
    Watcher_require_word := ⟨f_Watcher_require_word, _, F_Watcher_require_word, b_Watcher_require_word, ⟨a13, i13, k13⟩⟩
    require_verdict := ⟨f_require_verdict, _, F_require_verdict, b_require_verdict, PySem.W.mg_of X G a14⟩
    is_test := ⟨f_is_test, _, F_is_test, b_is_test, PySem.W.mg_of X G a15⟩
    are_sources := ⟨f_are_sources, _, F_are_sources, b_are_sources, PySem.W.mg_of X G a16⟩
    is_source := ⟨f_is_source, _, F_is_source, b_is_source, PySem.W.mg_of X G a17⟩
    may_be_rule := ⟨f_may_be_rule, _, F_may_be_rule, b_may_be_rule, PySem.W.mg_of X G a18⟩
    rule_order := ⟨f_rule_order, _, F_rule_order, b_rule_order, PySem.W.mg_of X G a19⟩
    part_order := ⟨f_part_order, _, F_part_order, b_part_order, PySem.W.mg_of X G a20⟩
    after_message := ⟨f_after_message, _, F_after_message, b_after_message, PySem.W.mg_of X G a21⟩
    carried := ⟨f_carried, _, F_carried, b_carried, PySem.W.mg_of X G a22⟩
    verdicts_at := ⟨f_verdicts_at, _, F_verdicts_at, b_verdicts_at, PySem.W.mg_of X G a23⟩
    steps_from := ⟨f_steps_from, _, F_steps_from, b_steps_from, PySem.W.mg_of X G a24⟩
    steps_among := ⟨f_steps_among, _, F_steps_among, b_steps_among, PySem.W.mg_of X G a25⟩
    ways_to := ⟨f_ways_to, _, F_ways_to, b_ways_to, PySem.W.mg_of X G a26⟩
    held_numbers := ⟨f_held_numbers, _, F_held_numbers, b_held_numbers, PySem.W.mg_of X G a27⟩
    equal_places := ⟨f_equal_places, _, F_equal_places, b_equal_places, PySem.W.mg_of X G a28⟩
    cases_between := ⟨f_cases_between, _, F_cases_between, b_cases_between, PySem.W.mg_of X G a29⟩
    situation_after := ⟨f_situation_after, _, F_situation_after, b_situation_after, PySem.W.mg_of X G a30⟩
    value_of := ⟨f_value_of, _, F_value_of, b_value_of, PySem.W.mg_of X G a31⟩
    least_other := ⟨f_least_other, _, F_least_other, b_least_other, PySem.W.mg_of X G a32⟩
    other_value := ⟨f_other_value, _, F_other_value, b_other_value, PySem.W.mg_of X G a33⟩
    are_sought := ⟨f_are_sought, _, F_are_sought, b_are_sought, PySem.W.mg_of X G a34⟩
    ways_to_sought := ⟨f_ways_to_sought, _, F_ways_to_sought, b_ways_to_sought, PySem.W.mg_of X G a35⟩
    ways_to_unlike := ⟨f_ways_to_unlike, _, F_ways_to_unlike, b_ways_to_unlike, PySem.W.mg_of X G a36⟩
    all_places := ⟨f_all_places, _, F_all_places, b_all_places, PySem.W.mg_of X G a37⟩
    needed_places := ⟨f_needed_places, _, F_needed_places, b_needed_places, PySem.W.mg_of X G a38⟩
    dropped := ⟨f_dropped, _, F_dropped, b_dropped, PySem.W.mg_of X G a39⟩
    renumbered := ⟨f_renumbered, _, F_renumbered, b_renumbered, PySem.W.mg_of X G a40⟩
    law_pen := ⟨f_law_pen, _, F_law_pen, b_law_pen, PySem.W.mg_of X G a41⟩
    law_fresh := ⟨f_law_fresh, _, F_law_fresh, b_law_fresh, PySem.W.mg_of X G a42⟩
    law_draw := ⟨f_law_draw, _, F_law_draw, b_law_draw, PySem.W.mg_of X G a43⟩
    law_some_sources := ⟨f_law_some_sources, _, F_law_some_sources, b_law_some_sources, PySem.W.mg_of X G a44⟩
    law_plan := ⟨f_law_plan, _, F_law_plan, b_law_plan, PySem.W.mg_of X G a45⟩
    law_built := ⟨f_law_built, _, F_law_built, b_law_built, PySem.W.mg_of X G a46⟩
    law_rank := ⟨f_law_rank, _, F_law_rank, b_law_rank, PySem.W.mg_of X G a47⟩
    law_ordered_rules := ⟨f_law_ordered_rules, _, F_law_ordered_rules, b_law_ordered_rules, PySem.W.mg_of X G a48⟩
    law_shows := ⟨f_law_shows, _, F_law_shows, b_law_shows, PySem.W.mg_of X G a49⟩
    law_few_plan := ⟨f_law_few_plan, _, F_law_few_plan, b_law_few_plan, PySem.W.mg_of X G a50⟩
    law_needless_right := ⟨f_law_needless_right, _, F_law_needless_right, b_law_needless_right, PySem.W.mg_of X G a51⟩
    mk_Watcher := ⟨mk_Watcher, a2, i2, kc_Watcher⟩
    bt_rule_order := fun s v => .of_eq rfl
    bt_law_rank := fun s v => .of_eq rfl
    bt_part_order := fun s v => .of_eq rfl
    tf_Watcher_len := tf_Watcher_len
    NotAWord := ⟨eC0, ei0, T_NotAWord⟩
    NotAVerdict := ⟨eC1, ei1, T_NotAVerdict⟩
    InvalidTest := ⟨eC2, ei2, T_InvalidTest⟩
    InvalidSources := ⟨eC3, ei3, T_InvalidSources⟩
    UnknownState := ⟨eC4, ei4, T_UnknownState⟩
    RuleExists := ⟨eC5, ei5, T_RuleExists⟩
    LimitExceeded := ⟨eC6, ei6, T_LimitExceeded⟩
    UnknownRule := ⟨eC7, ei7, T_UnknownRule⟩
    ck_MOST_WORDS := ck_MOST_WORDS
    g_MOST_WORDS := PySem.W.mg_of X G ka_MOST_WORDS
    ck_MOST_STATES := ck_MOST_STATES
    g_MOST_STATES := PySem.W.mg_of X G ka_MOST_STATES
    ck_MOST_HELD := ck_MOST_HELD
    g_MOST_HELD := PySem.W.mg_of X G ka_MOST_HELD
    ck_MOST_VERDICT := ck_MOST_VERDICT
    g_MOST_VERDICT := PySem.W.mg_of X G ka_MOST_VERDICT
    ck_NEW := ck_NEW
    g_NEW := PySem.W.mg_of X G ka_NEW
    ck_VALUE := ck_VALUE
    g_VALUE := PySem.W.mg_of X G ka_VALUE
    ck_BOTH := ck_BOTH
    g_BOTH := PySem.W.mg_of X G ka_BOTH
    ck_FIRST := ck_FIRST
    g_FIRST := PySem.W.mg_of X G ka_FIRST
    ck_SECOND := ck_SECOND
    g_SECOND := PySem.W.mg_of X G ka_SECOND
    ck_ALIKE := ck_ALIKE
    g_ALIKE := PySem.W.mg_of X G ka_ALIKE
    ck_TOGETHER := ck_TOGETHER
    g_TOGETHER := PySem.W.mg_of X G ka_TOGETHER
    m_abs := PySem.W.mg_none_of X G z0
    m_enumerate := PySem.W.mg_none_of X G z1
    m_list := PySem.W.mg_none_of X G z2
    m_len := PySem.W.mg_none_of X G z3
    m_range := PySem.W.mg_none_of X G z4
    m_tuple := PySem.W.mg_none_of X G z5
    m_isinstance := PySem.W.mg_none_of X G z6
    m_bool := PySem.W.mg_none_of X G z7
    m_int := PySem.W.mg_none_of X G z8
    m_sorted := PySem.W.mg_none_of X G z9
    m_set := PySem.W.mg_none_of X G z10
    m_repr := PySem.W.mg_none_of X G z11
    m_dict := PySem.W.mg_none_of X G z12 }
  exact ⟨PySem.W.fnOf "law" "law" (defArgs s_law) (defBody s_law) (defScope s_law) .none kV52 dc52 pm52 an52 cd52 ct52, fun s v => .of_eq rfl, fun base _ _ => ok_law T F_law⟩
theorem walk {l : PySem.W.OpenLaw} {q : Program} {loose : List Str} {XP : (Str → Option Value) → Heap → Prop} {YP : World → Heap → Prop} {d : DefRec} {K : Params → PySem.W.Frag} (hn : l.most = some 63) (hdf : d.params.defaults = [])
    (hY : ∀ (w : World) (h : Heap), YP w h → (K w.params).In h)
    (F : ∀ (w : World) (mg : Str → Option Value) (fa : Addr) (h : Heap), (K w.params).In h → h.Ns mainGlobals mg → mg d.name = some (.ref fa) →
      ∃ fd : FuncData, (∀ (s : Shared) (u : Value), BindsTo s fd ⟨[u], []⟩ [("script", u)]) ∧ ∀ base : Heap, (K w.params).In base → base.Ns mainGlobals mg → FnG l.prog w (K w.params) mg base CX0 11 fa fd ["script"] (sp_law (K w.params))) :
    PySem.W.WalkO q loose XP YP l.row.toRowW d [] (fun f vs => PySem.call f vs) :=
  walk_ofG (n := 63) (k := 11) (x := "script") (sp := sp_law) hn (by decide) hdf ⟨rfl, by decide, by decide⟩ hY F fun _ _ a ns hl hb _ hS => ⟨a, ns, rfl, hS, hl, fun _ => rfl⟩
end Sb
open PySem PySem.W PyProof.Rows
set_option maxRecDepth 100000 in
set_option maxHeartbeats 0 in
theorem PySem.Challenge.cw_seenbefore_k59_whole_nothing_to_drop_twi_holds : PySem.Challenge.rw_seenbefore_k59_whole_nothing_to_drop_twi.Holds := by
  w_on; o_law; k_head; (case hw => w_witness2)
  k_fill
  refine Sb.walk (l := PySem.Challenge.rw_seenbefore_k59_whole_nothing_to_drop_twi) rfl rfl (fun w h Y => PySem.W.kIn_of Y) ?F
  case F =>
    intro w mg fa h KX G hmg
    refine' Sb.all_mk KX G hmg ?a0 ?l0 ?c0 ?k0 ?a1 ?l1 ?c1 ?k1 ?a2 ?i2 ?l2 ?c2 ?k2 ?a3 ?i3 ?l3 ?c3 ?k3 ?a4 ?i4 ?l4 ?c4 ?k4 ?a5 ?i5 ?l5 ?c5 ?k5 ?a6 ?i6 ?l6 ?c6 ?k6 ?a7 ?i7 ?l7 ?c7 ?k7 ?a8 ?i8 ?l8 ?c8 ?k8 ?a9 ?i9 ?l9 ?c9 ?k9 ?a10 ?i10 ?l10 ?c10 ?k10 ?a11 ?i11 ?l11 ?c11 ?k11 ?a12 ?i12 ?l12 ?c12 ?k12 ?a13 ?i13 ?l13 ?c13 ?k13 ?a14 ?l14 ?c14 ?k14 ?a15 ?l15 ?c15 ?k15 ?a16 ?l16 ?c16 ?k16 ?a17 ?l17 ?c17 ?k17 ?a18 ?l18 ?c18 ?k18 ?a19 ?l19 ?c19 ?k19 ?a20 ?l20 ?c20 ?k20 ?a21 ?l21 ?c21 ?k21 ?a22 ?l22 ?c22 ?k22 ?a23 ?l23 ?c23 ?k23 ?a24 ?l24 ?c24 ?k24 ?a25 ?l25 ?c25 ?k25 ?a26 ?l26 ?c26 ?k26 ?a27 ?l27 ?c27 ?k27 ?a28 ?l28 ?c28 ?k28 ?a29 ?l29 ?c29 ?k29 ?a30 ?l30 ?c30 ?k30 ?a31 ?l31 ?c31 ?k31 ?a32 ?l32 ?c32 ?k32 ?a33 ?l33 ?c33 ?k33 ?a34 ?l34 ?c34 ?k34 ?a35 ?l35 ?c35 ?k35 ?a36 ?l36 ?c36 ?k36 ?a37 ?l37 ?c37 ?k37 ?a38 ?l38 ?c38 ?k38 ?a39 ?l39 ?c39 ?k39 ?a40 ?l40 ?c40 ?k40 ?a41 ?l41 ?c41 ?k41 ?a42 ?l42 ?c42 ?k42 ?a43 ?l43 ?c43 ?k43 ?a44 ?l44 ?c44 ?k44 ?a45 ?l45 ?c45 ?k45 ?a46 ?l46 ?c46 ?k46 ?a47 ?l47 ?c47 ?k47 ?a48 ?l48 ?c48 ?k48 ?a49 ?l49 ?c49 ?k49 ?a50 ?l50 ?c50 ?k50 ?a51 ?l51 ?c51 ?k51 ?a52 ?l52 ?c52 ?k52 ?tf_Watcher_len ?wC_Watcher ?pg_Watcher ?hd_Watcher ?po_Watcher ?sa_Watcher ?mk_Watcher ?kc_Watcher ?nf_Watcherwords ?nf_Watcher_verdicts ?nf_Watcher_held ?nf_Watcher_rules ?eaC0 ?exL0 ?esa0 ?ega0 ?egg0 ?enb0 ?ea10 ?et10 ?el10 ?ec10 ?ekC0 ?eeC0 ?etC0 ?ehC0 ?eiC0 ?esC0 ?eaC1 ?exL1 ?esa1 ?ega1 ?egg1 ?enb1 ?ea11 ?et11 ?el11 ?ec11 ?ekC1 ?eeC1 ?etC1 ?ehC1 ?eiC1 ?esC1 ?eaC2 ?exL2 ?esa2 ?ega2 ?egg2 ?enb2 ?ea12 ?et12 ?el12 ?ec12 ?ekC2 ?eeC2 ?etC2 ?ehC2 ?eiC2 ?esC2 ?eaC3 ?exL3 ?esa3 ?ega3 ?egg3 ?enb3 ?ea13 ?et13 ?el13 ?ec13 ?ekC3 ?eeC3 ?etC3 ?ehC3 ?eiC3 ?esC3 ?eaC4 ?exL4 ?esa4 ?ega4 ?egg4 ?enb4 ?ea14 ?et14 ?el14 ?ec14 ?ekC4 ?eeC4 ?etC4 ?ehC4 ?eiC4 ?esC4 ?eaC5 ?exL5 ?esa5 ?ega5 ?egg5 ?enb5 ?ea15 ?et15 ?el15 ?ec15 ?ekC5 ?eeC5 ?etC5 ?ehC5 ?eiC5 ?esC5 ?eaC6 ?exL6 ?esa6 ?ega6 ?egg6 ?enb6 ?ea16 ?et16 ?el16 ?ec16 ?ekC6 ?eeC6 ?etC6 ?ehC6 ?eiC6 ?esC6 ?eaC7 ?exL7 ?esa7 ?ega7 ?egg7 ?enb7 ?ea17 ?et17 ?el17 ?ec17 ?ekC7 ?eeC7 ?etC7 ?ehC7 ?eiC7 ?esC7 ?ka_MOST_WORDS ?ka_MOST_STATES ?ka_MOST_HELD ?ka_MOST_VERDICT ?ka_NEW ?ka_VALUE ?ka_BOTH ?ka_FIRST ?ka_SECOND ?ka_ALIKE ?ka_TOGETHER ?z0 ?z1 ?z2 ?z3 ?z4 ?z5 ?z6 ?z7 ?z8 ?z9 ?z10 ?z11 ?z12
    case wC_Watcher => k_is
    case a0 => k_is
    case l0 => k_is
    case c0 => k_is
    case k0 => k_is
    case a1 => k_is
    case l1 => k_is
    case c1 => k_is
    case k1 => k_is
    case a2 => k_is
    case i2 => k_is
    case l2 => k_is
    case c2 => k_is
    case k2 => k_is
    case a3 => k_is
    case i3 => k_is
    case l3 => k_is
    case c3 => k_is
    case k3 => k_is
    case a4 => k_is
    case i4 => k_is
    case l4 => k_is
    case c4 => k_is
    case k4 => k_is
    case a5 => k_is
    case i5 => k_is
    case l5 => k_is
    case c5 => k_is
    case k5 => k_is
    case a6 => k_is
    case i6 => k_is
    case l6 => k_is
    case c6 => k_is
    case k6 => k_is
    case a7 => k_is
    case i7 => k_is
    case l7 => k_is
    case c7 => k_is
    case k7 => k_is
    case a8 => k_is
    case i8 => k_is
    case l8 => k_is
    case c8 => k_is
    case k8 => k_is
    case a9 => k_is
    case i9 => k_is
    case l9 => k_is
    case c9 => k_is
    case k9 => k_is
    case a10 => k_is
    case i10 => k_is
    case l10 => k_is
    case c10 => k_is
    case k10 => k_is
    case a11 => k_is
    case i11 => k_is
    case l11 => k_is
    case c11 => k_is
    case k11 => k_is
    case a12 => k_is
    case i12 => k_is
    case l12 => k_is
    case c12 => k_is
    case k12 => k_is
    case a13 => k_is
    case i13 => k_is
    case l13 => k_is
    case c13 => k_is
    case k13 => k_is
    case a14 => k_is
    case l14 => k_is
    case c14 => k_is
    case k14 => k_is
    case a15 => k_is
    case l15 => k_is
    case c15 => k_is
    case k15 => k_is
    case a16 => k_is
    case l16 => k_is
    case c16 => k_is
    case k16 => k_is
    case a17 => k_is
    case l17 => k_is
    case c17 => k_is
    case k17 => k_is
    case a18 => k_is
    case l18 => k_is
    case c18 => k_is
    case k18 => k_is
    case a19 => k_is
    case l19 => k_is
    case c19 => k_is
    case k19 => k_is
    case a20 => k_is
    case l20 => k_is
    case c20 => k_is
    case k20 => k_is
    case a21 => k_is
    case l21 => k_is
    case c21 => k_is
    case k21 => k_is
    case a22 => k_is
    case l22 => k_is
    case c22 => k_is
    case k22 => k_is
    case a23 => k_is
    case l23 => k_is
    case c23 => k_is
    case k23 => k_is
    case a24 => k_is
    case l24 => k_is
    case c24 => k_is
    case k24 => k_is
    case a25 => k_is
    case l25 => k_is
    case c25 => k_is
    case k25 => k_is
    case a26 => k_is
    case l26 => k_is
    case c26 => k_is
    case k26 => k_is
    case a27 => k_is
    case l27 => k_is
    case c27 => k_is
    case k27 => k_is
    case a28 => k_is
    case l28 => k_is
    case c28 => k_is
    case k28 => k_is
    case a29 => k_is
    case l29 => k_is
    case c29 => k_is
    case k29 => k_is
    case a30 => k_is
    case l30 => k_is
    case c30 => k_is
    case k30 => k_is
    case a31 => k_is
    case l31 => k_is
    case c31 => k_is
    case k31 => k_is
    case a32 => k_is
    case l32 => k_is
    case c32 => k_is
    case k32 => k_is
    case a33 => k_is
    case l33 => k_is
    case c33 => k_is
    case k33 => k_is
    case a34 => k_is
    case l34 => k_is
    case c34 => k_is
    case k34 => k_is
    case a35 => k_is
    case l35 => k_is
    case c35 => k_is
    case k35 => k_is
    case a36 => k_is
    case l36 => k_is
    case c36 => k_is
    case k36 => k_is
    case a37 => k_is
    case l37 => k_is
    case c37 => k_is
    case k37 => k_is
    case a38 => k_is
    case l38 => k_is
    case c38 => k_is
    case k38 => k_is
    case a39 => k_is
    case l39 => k_is
    case c39 => k_is
    case k39 => k_is
    case a40 => k_is
    case l40 => k_is
    case c40 => k_is
    case k40 => k_is
    case a41 => k_is
    case l41 => k_is
    case c41 => k_is
    case k41 => k_is
    case a42 => k_is
    case l42 => k_is
    case c42 => k_is
    case k42 => k_is
    case a43 => k_is
    case l43 => k_is
    case c43 => k_is
    case k43 => k_is
    case a44 => k_is
    case l44 => k_is
    case c44 => k_is
    case k44 => k_is
    case a45 => k_is
    case l45 => k_is
    case c45 => k_is
    case k45 => k_is
    case a46 => k_is
    case l46 => k_is
    case c46 => k_is
    case k46 => k_is
    case a47 => k_is
    case l47 => k_is
    case c47 => k_is
    case k47 => k_is
    case a48 => k_is
    case l48 => k_is
    case c48 => k_is
    case k48 => k_is
    case a49 => k_is
    case l49 => k_is
    case c49 => k_is
    case k49 => k_is
    case a50 => k_is
    case l50 => k_is
    case c50 => k_is
    case k50 => k_is
    case a51 => k_is
    case l51 => k_is
    case c51 => k_is
    case k51 => k_is
    case a52 => k_is
    case l52 => k_is
    case c52 => k_is
    case k52 => k_is
    case tf_Watcher_len => k_is
    case pg_Watcher => k_is
    case hd_Watcher => k_is
    case po_Watcher => k_is
    case sa_Watcher => k_is
    case mk_Watcher => k_is
    case kc_Watcher => k_is
    case nf_Watcherwords => k_is
    case nf_Watcher_verdicts => k_is
    case nf_Watcher_held => k_is
    case nf_Watcher_rules => k_is
    case eaC0 => k_is
    case exL0 => k_is
    case esa0 => k_is
    case ega0 => k_is
    case egg0 => k_is
    case enb0 => k_is
    case ea10 => k_is
    case et10 => k_is
    case el10 => k_is
    case ec10 => k_is
    case ekC0 => k_is
    case eeC0 => k_is
    case etC0 => k_is
    case ehC0 => k_is
    case eiC0 => k_is
    case esC0 => first | rfl | k_is
    case eaC1 => k_is
    case exL1 => k_is
    case esa1 => k_is
    case ega1 => k_is
    case egg1 => k_is
    case enb1 => k_is
    case ea11 => k_is
    case et11 => k_is
    case el11 => k_is
    case ec11 => k_is
    case ekC1 => k_is
    case eeC1 => k_is
    case etC1 => k_is
    case ehC1 => k_is
    case eiC1 => k_is
    case esC1 => first | rfl | k_is
    case eaC2 => k_is
    case exL2 => k_is
    case esa2 => k_is
    case ega2 => k_is
    case egg2 => k_is
    case enb2 => k_is
    case ea12 => k_is
    case et12 => k_is
    case el12 => k_is
    case ec12 => k_is
    case ekC2 => k_is
    case eeC2 => k_is
    case etC2 => k_is
    case ehC2 => k_is
    case eiC2 => k_is
    case esC2 => first | rfl | k_is
    case eaC3 => k_is
    case exL3 => k_is
    case esa3 => k_is
    case ega3 => k_is
    case egg3 => k_is
    case enb3 => k_is
    case ea13 => k_is
    case et13 => k_is
    case el13 => k_is
    case ec13 => k_is
    case ekC3 => k_is
    case eeC3 => k_is
    case etC3 => k_is
    case ehC3 => k_is
    case eiC3 => k_is
    case esC3 => first | rfl | k_is
    case eaC4 => k_is
    case exL4 => k_is
    case esa4 => k_is
    case ega4 => k_is
    case egg4 => k_is
    case enb4 => k_is
    case ea14 => k_is
    case et14 => k_is
    case el14 => k_is
    case ec14 => k_is
    case ekC4 => k_is
    case eeC4 => k_is
    case etC4 => k_is
    case ehC4 => k_is
    case eiC4 => k_is
    case esC4 => first | rfl | k_is
    case eaC5 => k_is
    case exL5 => k_is
    case esa5 => k_is
    case ega5 => k_is
    case egg5 => k_is
    case enb5 => k_is
    case ea15 => k_is
    case et15 => k_is
    case el15 => k_is
    case ec15 => k_is
    case ekC5 => k_is
    case eeC5 => k_is
    case etC5 => k_is
    case ehC5 => k_is
    case eiC5 => k_is
    case esC5 => first | rfl | k_is
    case eaC6 => k_is
    case exL6 => k_is
    case esa6 => k_is
    case ega6 => k_is
    case egg6 => k_is
    case enb6 => k_is
    case ea16 => k_is
    case et16 => k_is
    case el16 => k_is
    case ec16 => k_is
    case ekC6 => k_is
    case eeC6 => k_is
    case etC6 => k_is
    case ehC6 => k_is
    case eiC6 => k_is
    case esC6 => first | rfl | k_is
    case eaC7 => k_is
    case exL7 => k_is
    case esa7 => k_is
    case ega7 => k_is
    case egg7 => k_is
    case enb7 => k_is
    case ea17 => k_is
    case et17 => k_is
    case el17 => k_is
    case ec17 => k_is
    case ekC7 => k_is
    case eeC7 => k_is
    case etC7 => k_is
    case ehC7 => k_is
    case eiC7 => k_is
    case esC7 => first | rfl | k_is
    case ka_MOST_WORDS => k_is
    case ka_MOST_STATES => k_is
    case ka_MOST_HELD => k_is
    case ka_MOST_VERDICT => k_is
    case ka_NEW => k_is
    case ka_VALUE => k_is
    case ka_BOTH => k_is
    case ka_FIRST => k_is
    case ka_SECOND => k_is
    case ka_ALIKE => k_is
    case ka_TOGETHER => k_is
    case z0 => k_is
    case z1 => k_is
    case z2 => k_is
    case z3 => k_is
    case z4 => k_is
    case z5 => k_is
    case z6 => k_is
    case z7 => k_is
    case z8 => k_is
    case z9 => k_is
    case z10 => k_is
    case z11 => k_is
    case z12 => k_is
