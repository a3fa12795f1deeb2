import PyProof.Rows.All
import Wide.All
import OpenK.AllK
import Wide.FinOn
import HandS.ForMost
import HandS.ExcOwn
import HandS.EndBits
import HandS.Codes
import HandS.Wide
import HandS.TupAny
import HandS.ForExc
import HandS.IsInst
import HandS.Strs
import HandS.SetKeys
import HandS.TupMul
import HandS.TryMany
import HandS.DictComp
import HandS.Conv
import HandS.SortKw
import KE.KExcInit
import KE.SortKeyHeap
import KE.KDictSum
import PyProof.NeData
import PyProof.EqKinds
import OpenK.KMake
import HandS.TupLen
import HandS.Walk
import HandS.Iter
import KE.KDictDisplayH
import HandS.DictTup
import HandS.ListItems
import KE.KDictItemsList
import HandS.SortInts
import HandS.More
import HandS.ExcIs
import KE.KExcIs
import HandS.DictEq
import KE.KEqNest
import KE.DataEq
import HandS.Flow
import KE.SortData
import PyProof.Rows.SortWalk
import KE.KNestM
import HandS.Zip
import KE.GoesMore
import KE.GoesEnum
import HandS.Style
import HandS.StrMore
import KE.IntTextLaws
import HandS.WrittenGet
import HandS.FStr
import PyProof.StrBlock2
import HandS.Star
import HandS.RaiseMore
import HandS.TryOnly
import KE.KUnpackStar
import KE.KTryMore
import KE.KDictPairs
import KE.KDictCopyH
import HandS.TupLe
import HandS.Defaults
import HandS.MakeKwOnly
import PySem.Challenge.RW_seenbefore_k96_many_situations_by_hand
set_option Elab.async false
set_option linter.all false
set_option maxRecDepth 100000
set_option maxHeartbeats 4000000

/-! Promises of defs where no repr is under way (guards = []): so the repr of made data is known to the sign. -/
namespace Sb
open PySem PySem.Spec PyProof.Rows L2
/-- as FnOk, for calls around which no repr is under way -/
structure FnG (P : Program) (w : World) (K : PySem.W.Frag) (mg : Str → Option Value) (base : Heap) (CX : CXT) (k : Nat) (f : Addr)
    (fd : FuncData) (ps : List Str) (sp : Sp) : Prop where
  len : ∀ vs H Q E, sp vs H Q E → vs.length = ps.length
  run : ∀ (A : Around) (outer : List Env) (s : Shared) (H : Hp) (args : Args) (us : List Value) (vs : List V) (Q : VK) (E : XK),
    A.guards = some [] → Room k A → Env0 P w K mg base A outer s H → BindsTo s fd args (ps.zip us) → Vals vs us → sp vs H Q E →
    codeAny (model P w) A (.call (.ref f) args) (CR CX outer P w H s Q E) s
section
variable {P : Program} {w : World} {K : PySem.W.Frag} {mg : Str → Option Value} {base : Heap} {CX : CXT} {k : Nat} {f : Addr}
theorem FnG.mono {j : Nat} {fd : FuncData} {ps : List Str} {sp : Sp} (F : FnG P w K mg base CX j f fd ps sp) (h : j ≤ k) : FnG P w K mg base CX k f fd ps sp :=
  { len := F.len, run := fun A o s H a us vs Q E g r => F.run A o s H a us vs Q E g (r.mono h) }
theorem FnG.imp {fd : FuncData} {ps : List Str} {sp sp' : Sp} (F : FnG P w K mg base CX k f fd ps sp) (h : ∀ vs H Q E, sp' vs H Q E → sp vs H Q E) :
    FnG P w K mg base CX k f fd ps sp' :=
  { len := fun vs H Q E z => F.len vs H Q E (h _ _ _ _ z), run := fun A o s H a us vs Q E g r e b v z => F.run A o s H a us vs Q E g r e b v (h _ _ _ _ z) }
theorem FnG.of {fd : FuncData} {ps : List Str} {sp : Sp} (F : FnOk P w K mg base CX k f fd ps sp) : FnG P w K mg base CX k f fd ps sp :=
  { len := F.len, run := fun A o s H a us vs Q E _ r => F.run A o s H a us vs Q E r }
/-- from a body to its def -/
theorem fnG_body {name qual : Str} {params : Arguments} {body : List Stmt} {sc : Scope} {dV kV doc pm cdv ct oc : Value} {an od : Option Addr} {osl : Array (Option Value)} {N ps : List Str} {sp : Sp}
    (lk : K.lookup f = some ⟨oc, od, .func (PySem.W.fnOf name qual params body sc dV kV doc pm an cdv ct), osl⟩) (hcd : PySem.W.codeIn K cdv qual = true) (S : FnScope N ps sc)
    (len : ∀ vs H Q E, sp vs H Q E → vs.length = ps.length)
    (walk : ∀ (A : Around) (outer : List Env) (s : Shared) (H : Hp) (vs : List V) (Q : VK) (E : XK), A.guards = some [] →
      Room k (A.deeper (envOfC qual sc s.heap.objs.size f cdv)) → sp vs H Q E →
      ∃ t, PSs (cxOf CX P w K mg base N qual sc f cdv A outer s H E) body t ∧ t { nx := fun _ H' => Q .non H', rt := Q } (start N vs) H) :
    FnG P w K mg base CX (k + 1) f (PySem.W.fnOf name qual params body sc dV kV doc pm an cdv ct) ps sp := by
  constructor
  · exact len
  intro A outer s H args us vs Q E gd room e0 bd rv want
  have inK : K.In s.heap := e0.mod.kin.keeps fun b o q => (e0.bs b o q).1
  have noLim : s.heap.NoLimit := e0.mod.nolimit.keeps fun b o q => (e0.bs b o q).1
  have kinds : ∀ y ∈ ps.zip us, sc.names.lookup y.1 = some .local ∨
      (sc.names.lookup y.1 = some .cell ∧ ((cellsFrom (s.heap.objs.size + 1) sc.names []).lookup y.1).isSome = true) := by
    rintro ⟨n, v⟩ hy
    cases S.par n (List.of_mem_zip hy).1 with
    | inl q => exact Or.inl q
    | inr q => exact Or.inr ⟨q, PySem.W.cellsFrom_some _ _ _ (Or.inl q)⟩
  apply codeAny_call_function room.depth (inK _ _ lk) rfl S.co S.gen rfl (PySem.W.codeRec_of inK hcd)
  apply bd
  apply wpAny_newFunctionEnv_cells S.kind kinds
  intro env he s1 x
  subst he
  refine ⟨noLim.keeps x.toInCall.keep, ?_⟩
  apply codeAny_func
  obtain ⟨t, ht, hq⟩ := walk A outer s H vs Q E gd (room.deeper _) want
  have I := inv_start (CX := CX) (E := E) S room.hd e0 (len _ _ _ _ want) rv x
  refine wpAny_mono (ht.run [] s1 (start N vs) H _ I hq) (fun fl s' hs => ?_) (fun _ _ hs => hs)
  match fl, hs with
  | .ret u, ⟨v, σ', H', J, r', q⟩ => exact ⟨v, H', J.os, J.bare, J.base, J.hok, r', q⟩
  | .next, ⟨σ', H', J, q⟩ => exact ⟨V.non, H', J.os, J.bare, J.base, J.hok, rfl, q⟩
  | .brk, ⟨_, _, _, q⟩ => exact q.elim
  | .cont, ⟨_, _, _, q⟩ => exact q.elim
/-- a def of the text; its walk may use that no repr is under way -/
theorem okG {x qual : Str} {st : Stmt} {fd : FuncData} {N ps : List Str} {sp : Sp} (F : Fun K x qual st f fd) (S : FnScope N ps (defScope st)) (len : ∀ vs H Q E, sp vs H Q E → vs.length = ps.length)
    (walk : ∀ (cdv : Value) (A : Around) (outer : List Env) (s : Shared) (H : Hp) (vs : List V) (Q : VK) (E : XK), A.guards = some [] →
      Room k (A.deeper (envOfC qual (defScope st) s.heap.objs.size f cdv)) → sp vs H Q E →
      ∃ t, PSs (cxOf CX0 P w K mg base N qual (defScope st) f cdv A outer s H E).nox (defBody st) t ∧ t { nx := fun _ H' => Q .non H', rt := Q } (start N vs) H) :
    FnG P w K mg base CX0 (k + 1) f fd ps sp := by
  obtain ⟨oc, od, kV, doc, pm, an, cdv, ct, osl, e, lk, hcd⟩ := F.ex
  subst e
  apply fnG_body lk hcd S len
  intro A outer s H vs Q E gd room want
  obtain ⟨t, h, q⟩ := walk cdv A outer s H vs Q E gd room want
  exact ⟨t, h.nox, q⟩
/-- the same for a def that may raise -/
theorem okGX {x qual : Str} {st : Stmt} {fd : FuncData} {N ps : List Str} {sp : Sp} (F : Fun K x qual st f fd) (S : FnScope N ps (defScope st)) (len : ∀ vs H Q E, sp vs H Q E → vs.length = ps.length)
    (walk : ∀ (cdv : Value) (A : Around) (outer : List Env) (s : Shared) (H : Hp) (vs : List V) (Q : VK) (E : XK), A.guards = some [] →
      Room k (A.deeper (envOfC qual (defScope st) s.heap.objs.size f cdv)) → sp vs H Q E →
      ∃ t, PSs (cxOf (L2.CX P w) P w K mg base N qual (defScope st) f cdv A outer s H E) (defBody st) t ∧ t { nx := fun _ H' => Q .non H', rt := Q } (start N vs) H) :
    FnG P w K mg base (L2.CX P w) (k + 1) f fd ps sp := by
  obtain ⟨oc, od, kV, doc, pm, an, cdv, ct, osl, e, lk, hcd⟩ := F.ex
  subst e
  exact fnG_body lk hcd S len fun A outer s H vs Q E gd room want => walk cdv A outer s H vs Q E gd room want
end

section
variable {X : Cx} {CX : CXT} {k : Nat} {f C : Addr} {fd : FuncData} {ps : List Str} {sp : Sp} {dvs : List V} {ds : List Value} {x m : Str} {p pos apos : Pos} {e o : Expr} {es : List Expr} {ta : TE} {t : TA}
/-- the callee runs; E hangs on the slots -/
theorem runG {pins : List (Addr × Obj)} {σ : L2.St} {H : Hp} {s : Shared} {Q : VK} {E : XK} {us : List Value} {vs : List V} (F : FnG X.prog X.w X.K X.mg X.base CX k f fd ps sp) (gd : X.A.guards = some []) (hr : Room k X.A)
    (hb : Binds X.K fd ps ds) (hd : Vals dvs ds) (hx : ∀ (e : Value) (s' : Shared), CX X.stack H s E e s' → X.xe e s') (I : Inv X pins σ H s) (r : Vals vs us) (h : sp (vs ++ dvs) H Q E) :
    wpAny (model X.prog X.w) X.A (call (.ref f) us) (EP X pins σ Q) X.xe s := by
  have rr := r.append hd
  have nl : (us ++ ds).length = ps.length := rr.length ▸ F.len _ _ _ _ h
  apply wpAny_call
  refine codeAny_mono (F.run X.A X.stack s H ⟨us, []⟩ _ _ Q E gd hr I.env0 (hb s us I.kIn nl) rr h) ?_
  intro res s' hres
  match res, hres with
  | .error er, z => exact hx er s' z
  | .ok (.ret u), z => exact I.after z
  | .ok .next, z => exact z.elim
  | .ok .brk, z => exact z.elim
  | .ok .cont, z => exact z.elim
/-- f(e, ..) -/
theorem pe_callG {E : XK} (F : FnG X.prog X.w X.K X.mg X.base CX k f fd ps sp) (gd : X.A.guards = some []) (hr : Room k X.A) (hg : Gl X x) (hm : X.mg x = some (.ref f)) (hk : PySem.W.keepIn X.K (.ref f) = true)
    (hb : Binds X.K fd ps ds) (hd : Vals dvs ds) (hx : Passes CX X E) (ha : PA X (e :: es) t) (hdb : (x == ("__debug__" : Str)) = false := by decide)
    (he : starEach (e :: es) X.env = (false, eval e X.env) :: starEach es X.env := by rfl)
    (hpl : (backTo pos (starEach es X.env)).any (·.1) = false := by rfl) : PE X (.Call (.Name x p) (e :: es) [] pos) (tCall sp dvs E t) := by
  constructor
  intro pins s σ H Q I h
  apply wpAny_Call_Name_kw
  apply ld_glob I hg hm _ hdb
  apply PySem.W.callWith_K (h₀ := X.base) I.ok.mod.kin hk _ he hpl
  refine thn (ha.run pos pins s σ H _ I h) ?_
  rintro us s1 ⟨vs, H1, I1, r, q⟩
  exact ⟨I1.kIn, runG F gd hr hb hd (fun er s' z => hx pins σ H1 s1 er s' I1 z) I1 r q⟩
/-- f(e, ..), what is raised wished for at the slots -/
theorem pe_callGS {E : L2.St → XK} (F : FnG X.prog X.w X.K X.mg X.base CX k f fd ps sp) (gd : X.A.guards = some []) (hr : Room k X.A) (hg : Gl X x) (hm : X.mg x = some (.ref f)) (hk : PySem.W.keepIn X.K (.ref f) = true)
    (hb : Binds X.K fd ps []) (hx : ∀ σ, PassesAt CX X σ (E σ)) (ha : PA X (e :: es) t) (hdb : (x == ("__debug__" : Str)) = false := by decide)
    (he : starEach (e :: es) X.env = (false, eval e X.env) :: starEach es X.env := by rfl)
    (hpl : (backTo pos (starEach es X.env)).any (·.1) = false := by rfl) : PE X (.Call (.Name x p) (e :: es) [] pos) (tCallS sp E t) := by
  constructor
  intro pins s σ H Q I h
  apply wpAny_Call_Name_kw
  apply ld_glob I hg hm _ hdb
  apply PySem.W.callWith_K (h₀ := X.base) I.ok.mod.kin hk _ he hpl
  refine thn (ha.run pos pins s σ H _ I h) ?_
  rintro us s1 ⟨vs, H1, I1, r, q⟩
  have q' : sp (vs ++ []) H1 Q (E σ) := by rw [List.append_nil]; exact q
  exact ⟨I1.kIn, runG F gd hr hb .nil (fun er s' z => hx σ pins H1 s1 er s' I1 z) I1 r q'⟩
/-- repr of data -/
theorem call_reprD (gd : X.A.guards = some []) (hu : X.A.units + 64 < cLine) : CallR X (.builtin "repr") (fun xs H Q => ∃ v d, xs = [v] ∧ Dp X.K H v d ∧ d.showable = true ∧ d.hasDict = false ∧ d.depth ≤ 60 ∧ d.shown.length ≤ sizeLine ∧ Q (.str d.shown) H) := by
  rintro pins s σ H xs us Q I r ⟨v, d, rfl, hd, hs, hnd, hdp, hz, q⟩
  obtain ⟨u, rfl, ru⟩ := vals1 r
  obtain ⟨as, rd⟩ := Dp.reads I d v u hd ru
  cases v with
  | ref a =>
    obtain rfl : u = Value.ref a := ru
    refine repr_of_reads' rd hs (PyData.noDict_hsm hnd) gd (by omega) (fun _ _ z => z) (fun h' u' tk hk => ?_) hz
    exact ⟨.str d.shown, H, I.kept (fun b o z => hk b o z), ⟨_, rfl⟩, q⟩
  | non =>
    cases hd
    obtain rfl : u = Value.none := ru
    exact PySem.P.repr_of_none ⟨.str _, H, I.tok _, ⟨_, rfl⟩, q⟩
  | bl b =>
    cases hd
    obtain rfl : u = Value.bool b := ru
    exact PySem.P.repr_of_bool ⟨.str _, H, I.tok _, ⟨_, rfl⟩, q⟩
  | int i =>
    cases hd
    obtain ⟨tk, rfl⟩ := ru
    have hi : i.natAbs.log2 < 1920 := by simpa [PyData.showable] using hs
    exact PySem.P.repr_of_int hi ⟨.str _, H, I.tok _, ⟨_, rfl⟩, q⟩
  | str z =>
    cases hd
    obtain ⟨tk, rfl⟩ := ru
    exact PySem.P.repr_of_str (hsz := by simpa only [PyData.shown] using hz) ⟨.str _, H, I.tok _, ⟨_, rfl⟩, q⟩
  | byt b => cases hd
  | flt b => cases hd
  | ty n => cases hd
end
end Sb

namespace Sb
open PySem PySem.Spec PyProof.Rows L2
section
variable {P : Program} {w : World} {K : PySem.W.Frag} {mg mb : Str → Option Value} {k : Nat} {fa a : Addr} {fd : FuncData} {x : Str} {sp : Sp} {s1 : Shared} {vs : List Value} {ns : List Int}
/-- what the row asks of the law's call -/
abbrev Done (P : Program) (w : World) (fa a : Addr) (s1 : Shared) : Prop := codeAny (model P w) callerA (.call (.ref fa) ⟨[.ref a], []⟩)
  (fun r s' => r = .ok (.ret (.bool true)) ∧ OldK s1.heap s'.heap ∧ s'.os = s1.os ∧ AllBare s'.gens) s1
/-- the law's call over an abstract heap that tracks the script at most -/
theorem overH {H : Hp} (KX : K.In s1.heap) (hns : s1.heap.Ns mainGlobals mg) (hb : s1.heap.Ns builtinsNs mb) (hbb : ∀ x : Str, x ≠ "__name__" → mb x = bootBuiltins x) (hlim : s1.heap.NoLimit) (hg : s1.gens = #[])
    (ha : s1.heap.get? a = some { cls := .type "list", data := .seq vs.toArray }) (hr : Room k callerA)
    (F : ∀ base : Heap, K.In base → base.Ns mainGlobals mg → FnG P w K mg base CX0 k fa fd [x] sp) (bd : ∀ (s : Shared) (u : Value), BindsTo s fd ⟨[u], []⟩ [(x, u)])
    (hO : Only H) (ok : HOk P w H s1.heap) (onlyA : ∀ b, H b ≠ none → b = a) (notK : H a ≠ none → K.lookup a = none)
    (want : sp [.ref a] H (fun v _ => v = .bl true) fun _ _ _ => False) : Done P w fa a s1 := by
  have free : ∀ {b : Addr} {o : Obj}, s1.heap.get? b = some o → (b = a → H b = none) → H b = none := by
    intro b o _ z
    cases q : H b with
    | none => rfl
    | some u =>
      have e : b = a := onlyA b (by simp [q])
      rw [z e] at q
      cases q
  have dict : ∀ {b : Addr} {o : Obj} {es : Array DictEntry} {ep : Nat}, s1.heap.get? b = some o → o.data = .dict es ep → H b = none := by
    intro b o es ep e d
    apply free e
    intro z
    subst z
    rw [ha] at e
    cases e
    cases (show Data.seq vs.toArray _ = Data.dict es ep from d)
  have spaces : ∀ {b : Addr} {m : Str → Option Value}, s1.heap.Ns b m → (hidT s1.heap H).Ns b m := by
    rintro b m ⟨o, es, ep, e, d, r⟩
    exact ⟨o, es, ep, hidT_get e (dict e d), d, r⟩
  have inB : K.In (hidT s1.heap H) := by
    intro b o e
    refine hidT_get (KX b o e) (free (KX b o e) fun z => ?_)
    subst z
    cases q : H b with
    | none => rfl
    | some u =>
      rw [notK (by simp [q])] at e
      cases e
  obtain ⟨mc, c1, c2⟩ := hlim
  have md : Mod K mg (hidT s1.heap H) := ⟨inB, spaces hns, ⟨mb, spaces hb, hbb⟩, ⟨mc, spaces c1, c2⟩⟩
  have e0 : Env0 P w K mg (hidT s1.heap H) callerA [] s1 H :=
    { frames := rfl, mod := md, bs := fun b o e => of_hidT e, bsz := Nat.le_of_eq (hidT_size _ _), funs := trivial, frf := (fun b z => (by cases z)), hok := ok, bare := .of_eq hg }
  have run := (F _ inB (spaces hns)).run callerA [] s1 H ⟨[.ref a], []⟩ [.ref a] [.ref a] _ _ rfl hr e0 (bd s1 (.ref a)) (.cons rfl .nil) want
  refine codeAny_mono run ?_
  intro r s' z
  match r, z with
  | .error e, z =>
    exact False.elim z
  | .ok .next, z => exact False.elim z
  | .ok .brk, z => exact False.elim z
  | .ok .cont, z => exact False.elim z
  | .ok (.ret u), ⟨v, H', os, bare, un, ok', rel, q⟩ =>
    subst q
    obtain rfl : u = Value.bool true := rel
    refine ⟨rfl, OldK.of_keep ?_, os, bare⟩
    intro b o e
    cases q : H b with
    | none => exact un.keep b o e q (fun z => by cases z) (fun z => by cases z)
    | some u =>
      cases hO b with
      | inl z =>
        rw [q] at z
        cases z
      | inr z =>
        obtain ⟨ob, xs, z⟩ := z
        have e1 := (ok b _ z).1
        have e2 := (ok' b _ (un.frzs b ob _ z)).1
        rw [e] at e1
        cases e1
        exact e2
/-- the law's call -/
theorem law_callG (KX : K.In s1.heap) (hns : s1.heap.Ns mainGlobals mg) (hb : s1.heap.Ns builtinsNs mb) (hbb : ∀ x : Str, x ≠ "__name__" → mb x = bootBuiltins x) (hlim : s1.heap.NoLimit) (hg : s1.gens = #[])
    (ha : s1.heap.get? a = some { cls := .type "list", data := .seq vs.toArray }) (hi : IntsAre vs ns) (hl : ns.length ≤ sizeLine) (hr : Room k callerA)
    (F : ∀ base : Heap, K.In base → base.Ns mainGlobals mg → FnG P w K mg base CX0 k fa fd [x] sp) (bd : ∀ (s : Shared) (u : Value), BindsTo s fd ⟨[u], []⟩ [(x, u)])
    (want : ∀ H : Hp, Only H → SqL K H a (ns.map V.int) → sp [.ref a] H (fun v _ => v = .bl true) fun _ _ _ => False) : Done P w fa a s1 := by
  have rv := vals_ints hi
  have nv := hi.length
  by_cases hk : K.lookup a = none
  · let H : Hp := fun b => if b = a then some (.frz { cls := .type "list", data := .seq vs.toArray } (.lst (ns.map V.int))) else none
    have at_a : H a = some (.frz { cls := .type "list", data := .seq vs.toArray } (.lst (ns.map V.int))) := if_pos rfl
    have off : ∀ b, b ≠ a → H b = none := fun b z => if_neg z
    have hO : Only H := by
      intro b
      by_cases e : b = a
      · subst e
        exact Or.inr ⟨_, _, at_a⟩
      · exact Or.inl (off b e)
    refine overH (H := H) KX hns hb hbb hlim hg ha hr F bd hO ?_ ?_ (fun _ => hk) (want H hO (Or.inl (Or.inr ⟨_, at_a⟩)))
    · intro b u z
      by_cases e : b = a
      · subst e
        rw [at_a] at z
        cases z
        exact ⟨ha, by rw [List.length_map]; exact hl, vs, _, rv, ha⟩
      · rw [off b e] at z
        cases z
    · intro b z
      by_cases e : b = a
      · exact e
      · exact absurd (off b e) z
  · cases q : K.lookup a with
    | none => exact absurd q hk
    | some o =>
      have e := KX a o q
      rw [ha] at e
      cases e
      have hO : Only fun _ => none := fun _ => Or.inl rfl
      refine overH (H := fun _ => none) KX hns hb hbb hlim hg ha hr F bd hO (fun b u z => by cases z) (fun b z => absurd rfl z) (fun z => absurd rfl z) (want _ hO (Or.inr ?_))
      exact ⟨_, vs.toArray, _, q, rfl, rfl, rfl, by rw [List.size_toArray, nv]; exact hl, by simpa using rv⟩
end
/-- the row's end, from the law's promise -/
theorem walk_ofG {l : PySem.W.OpenLaw} {n k : Nat} {q : Program} {loose : List Str} {XP : (Str → Option Value) → Heap → Prop} {YP : World → Heap → Prop} {d : DefRec} {K : Params → PySem.W.Frag} {sp : PySem.W.Frag → Sp} {x : Str}
    (hn : l.most = some n) (hn2 : n ≤ sizeLine) (hdf : d.params.defaults = []) (hr : Room k callerA) (hY : ∀ (w : World) (h : Heap), YP w h → (K w.params).In h)
    (F : ∀ (w : World) (mg : Str → Option Value) (fa : Addr) (h : Heap), (K w.params).In h → h.Ns mainGlobals mg → mg d.name = some (.ref fa) →
      ∃ fd : FuncData, (∀ (s : Shared) (u : Value), BindsTo s fd ⟨[u], []⟩ [(x, u)]) ∧
        ∀ base : Heap, (K w.params).In base → base.Ns mainGlobals mg → FnG l.prog w (K w.params) mg base CX0 k fa fd [x] (sp (K w.params)))
    (want : ∀ (K : PySem.W.Frag) (H : Hp) (a : Addr) (ns : List Int), ns.length ≤ n → (∀ z ∈ ns, Builtin.Int.intBits z ≤ 1048576) → Only H → SqL K H a (ns.map V.int) →
      sp K [.ref a] H (fun v _ => v = .bl true) fun _ _ _ => False) : PySem.W.WalkO q loose XP YP l.row.toRowW d [] (fun f vs => PySem.call f vs) := by
  apply Att.attach_callB hn hdf
  intro w s0 s1 mg mb fa o pm cd doc a vs ns G Y ho hd hcd hmg hobj hints hlen hbits hg
  obtain ⟨fd, bd, hF⟩ := F w mg fa _ (hY w _ Y) G.T.g hmg
  exact law_callG (hY w _ Y) G.T.g G.T.b G.T.builtins G.T.nolimit hg hobj hints (Nat.le_trans hlen hn2) hr hF bd (fun H hO hS => want _ H a ns hlen hbits hO hS)
end Sb

/-! Data that is small enough to be shown and compared. -/
namespace Sb
open PySem PySem.Spec PyProof.Rows L2
structure Nice (n m : Nat) (d : PyData) : Prop where
  lay : d.canLay0 = true
  dep : d.depth ≤ n
  sho : d.showable = true
  nod : d.hasDict = false
  len : d.shown.length ≤ m
theorem Nice.mono {n m n' m' : Nat} {d : PyData} (h : Nice n m d) (hn : n ≤ n') (hm : m ≤ m') : Nice n' m' d :=
  { h with dep := Nat.le_trans h.dep hn, len := Nat.le_trans h.len hm }
theorem Nice.shaped {n m : Nat} {d : PyData} (h : Nice n m d) (hn : n ≤ 64) : SeqAt.shaped d = true := by
  unfold SeqAt.shaped
  rw [h.lay, decide_eq_true (Nat.le_trans h.dep hn)]
  rfl
theorem log_small {i : Int} (h : i.natAbs < 10 ^ 99) : i.natAbs.log2 < 400 :=
  PySem.Flt.log2_lt_of (by decide) (Nat.lt_of_lt_of_le h (by decide +kernel))
theorem Nice.int {i : Int} (h : i.natAbs < 10 ^ 99) : Nice 0 100 (.int i) := by
  refine ⟨rfl, Nat.le_refl _, ?_, rfl, ?_⟩
  · have := log_small h
    simp only [PyData.showable, decide_eq_true_eq]
    omega
  · have e := int_text_length_le10 (k := 99) (by decide) h
    show (Str.ofString (toString i)).length ≤ 100
    rw [PySem.ofString_length]
    exact e
theorem Nice.bool (b : Bool) : Nice 0 5 (.bool b) := by
  refine ⟨rfl, Nat.le_refl _, rfl, rfl, ?_⟩
  cases b <;> decide
theorem Nice.none : Nice 0 4 .none := ⟨rfl, Nat.le_refl _, rfl, rfl, by decide⟩
theorem niceAll {n m : Nat} : ∀ {ds : List PyData}, (∀ d ∈ ds, Nice n m d) → PyData.canLayAll0 ds = true ∧ PyData.depthAll ds ≤ n ∧ PyData.showableAll ds = true ∧ PyData.hasDictAll ds = false ∧
    ((PyData.shownAll ds).map (·.length)).sum ≤ ds.length * m ∧ (PyData.shownAll ds).length = ds.length
  | [], _ => ⟨rfl, Nat.zero_le _, rfl, rfl, by simp [PyData.shownAll], rfl⟩
  | d :: ds, h => by
    have hd := h d List.mem_cons_self
    obtain ⟨a, b, c, e, f, g⟩ := niceAll (ds := ds) fun x hx => h x (List.mem_cons_of_mem _ hx)
    refine ⟨?_, ?_, ?_, ?_, ?_, ?_⟩
    · simp only [PyData.canLayAll0, hd.lay, a, Bool.and_self]
    · simp only [PyData.depthAll]
      exact Nat.max_le.mpr ⟨hd.dep, b⟩
    · simp only [PyData.showableAll, hd.sho, c, Bool.and_self]
    · simp only [PyData.hasDictAll, hd.nod, e, Bool.or_self]
    · simp only [PyData.shownAll, List.map_cons, List.sum_cons, List.length_cons]
      have := hd.len
      rw [Nat.succ_mul]
      omega
    · simp only [PyData.shownAll, List.length_cons, g]
theorem Nice.tuple {n m k : Nat} {ds : List PyData} (h : ∀ d ∈ ds, Nice n m d) (hk : ds.length ≤ k) : Nice (n + 1) (k * m + 2 * k + 3) (.tuple ds) := by
  obtain ⟨a, b, c, e, f, g⟩ := niceAll h
  refine ⟨a, by simp only [PyData.depth]; omega, c, e, ?_⟩
  have l := tupleText_len_le (PyData.shownAll ds)
  simp only [PyData.shown]
  rw [g] at l
  have l2 : ds.length * m ≤ k * m := Nat.mul_le_mul_right _ hk
  omega
theorem Nice.list {n m k : Nat} {ds : List PyData} (h : ∀ d ∈ ds, Nice n m d) (hk : ds.length ≤ k) : Nice (n + 1) (k * m + 2 * k + 3) (.list ds) := by
  obtain ⟨a, b, c, e, f, g⟩ := niceAll h
  refine ⟨a, by simp only [PyData.depth]; omega, c, e, ?_⟩
  have l := listText_len_le (PyData.shownAll ds)
  simp only [PyData.shown]
  rw [g] at l
  have l2 : ds.length * m ≤ k * m := Nat.mul_le_mul_right _ hk
  omega
theorem shaped_ints (l : List Int) : SeqAt.shaped (.list (l.map PyData.int)) = true := by
  unfold SeqAt.shaped
  have h : PyData.canLayAll0 (l.map PyData.int) = true ∧ PyData.depthAll (l.map PyData.int) = 0 := by
    induction l with
    | nil => exact ⟨rfl, rfl⟩
    | cons x r ih => exact ⟨by simp only [List.map_cons, PyData.canLayAll0, PyData.canLay0, ih.1, Bool.and_self], by simp only [List.map_cons, PyData.depthAll, PyData.depth, ih.2, Nat.max_self]⟩
  simp only [PyData.canLay0, PyData.depth, h.1, h.2, Bool.true_and, decide_eq_true_eq]
  decide
theorem dp_ints (K : PySem.W.Frag) (H : Hp) : ∀ l : List Int, DpAll K H (l.map V.int) (l.map PyData.int)
  | [] => .nil
  | x :: r => .cons (.int x) (dp_ints K H r)
theorem eqv_ints : ∀ l m : List Int, PyData.eqvAll (l.map PyData.int) (m.map PyData.int) = decide (l = m)
  | [], [] => rfl
  | [], _ :: _ => rfl
  | _ :: _, [] => rfl
  | x :: r, y :: t => by
    simp only [List.map_cons, PyData.eqvAll, PyData.eqv, eqv_ints r t, List.cons.injEq]
    by_cases h : x = y <;> simp [h]
theorem div_wide {i j : Int} (h : 0 < j) (h2 : j < 2 ^ 100) : CDivW i j := wide_div (b := 100) h (by omega) (by decide) (by decide)
end Sb

/-! Data that never changes: scalars and tuples of them, at any depth. -/
namespace Sb
open PySem PySem.Spec PyProof.Rows L2
mutual
inductive TD (H : Hp) : V → PyData → Prop
  | non : TD H .non .none
  | bl (b : Bool) : TD H (.bl b) (.bool b)
  | int (i : Int) : TD H (.int i) (.int i)
  | str (x : Str) : TD H (.str x) (.str x)
  | tup {a : Addr} {xs : List V} {ds : List PyData} : H a = some (.tup xs) → TDs H xs ds → TD H (.ref a) (.tuple ds)
inductive TDs (H : Hp) : List V → List PyData → Prop
  | nil : TDs H [] []
  | cons {v : V} {vs : List V} {d : PyData} {ds : List PyData} : TD H v d → TDs H vs ds → TDs H (v :: vs) (d :: ds)
end
/-- tuples stay -/
def Tups (H H' : Hp) : Prop := ∀ a xs, H a = some (.tup xs) → H' a = some (.tup xs)
theorem Tups.refl {H : Hp} : Tups H H := fun _ _ h => h
theorem Tups.trans {H H1 H2 : Hp} (a : Tups H H1) (b : Tups H1 H2) : Tups H H2 := fun x y h => b x y (a x y h)
theorem Tups.same {H H' : Hp} (h : Same H H') : Tups H H' := fun a xs e => h a _ e
theorem Tups.new {H : Hp} {a : Addr} {o : HO} (h : H a = none) : Tups H (upd H a o) := fun b xs e => by
  rw [upd_ne (ne_of_none e h)]
  exact e
theorem Tups.put {H : Hp} {a : Addr} {o u : HO} (h : H a = some u) (hu : ∀ xs, u ≠ .tup xs) : Tups H (upd H a o) := fun b xs e => by
  rw [upd_ne (ne_of e h (hu xs).symm)]
  exact e
theorem Tups.lst {H : Hp} {a : Addr} {o : HO} {l : List V} (h : H a = some (.lst l)) : Tups H (upd H a o) := Tups.put h (fun _ z => by cases z)
mutual
theorem TD.mono {H H' : Hp} (t : Tups H H') : ∀ {v : V} (d : PyData), TD H v d → TD H' v d
  | _, .none, h => by cases h; exact .non
  | _, .bool b, h => by cases h; exact .bl b
  | _, .int i, h => by cases h; exact .int i
  | _, .str x, h => by cases h; exact .str x
  | _, .tuple ds, h => by
    cases h with
    | tup e r => exact .tup (t _ _ e) (TDs.mono t ds r)
  | _, .list _, h => by cases h
  | _, .dict _, h => by cases h
theorem TDs.mono {H H' : Hp} (t : Tups H H') : ∀ {vs : List V} (ds : List PyData), TDs H vs ds → TDs H' vs ds
  | _, [], h => by cases h; exact .nil
  | _, d :: ds, h => by
    cases h with
    | cons a r => exact .cons (TD.mono t d a) (TDs.mono t ds r)
end
mutual
theorem TD.dp {K : PySem.W.Frag} {H : Hp} : ∀ {v : V} (d : PyData), TD H v d → Dp K H v d
  | _, .none, h => by cases h; exact .non
  | _, .bool b, h => by cases h; exact .bl b
  | _, .int i, h => by cases h; exact .int i
  | _, .str x, h => by cases h; exact .str x
  | _, .tuple ds, h => by
    cases h with
    | tup e r => exact .tup (SqT.of e) (TDs.dp ds r)
  | _, .list _, h => by cases h
  | _, .dict _, h => by cases h
theorem TDs.dp {K : PySem.W.Frag} {H : Hp} : ∀ {vs : List V} (ds : List PyData), TDs H vs ds → DpAll K H vs ds
  | _, [], h => by cases h; exact .nil
  | _, d :: ds, h => by
    cases h with
    | cons a r => exact .cons (TD.dp d a) (TDs.dp ds r)
end
theorem TDs.length {H : Hp} : ∀ {vs : List V} {ds : List PyData}, TDs H vs ds → vs.length = ds.length
  | _, _, .nil => rfl
  | _, _, .cons _ r => congrArg (· + 1) r.length
theorem TDs.get {H : Hp} : ∀ {vs : List V} {ds : List PyData} {i : Nat} {v : V}, TDs H vs ds → vs[i]? = some v → ∃ d, ds[i]? = some d ∧ TD H v d
  | _, _, _, _, .nil, e => by simp at e
  | _, _, 0, _, .cons a _, e => by
    simp at e
    subst e
    exact ⟨_, rfl, a⟩
  | _, _, i + 1, v, .cons _ r, e => by
    obtain ⟨d, h1, h2⟩ := TDs.get (i := i) (v := v) r (by simpa using e)
    exact ⟨d, by simpa using h1, h2⟩
theorem TDs.at {H : Hp} : ∀ {vs : List V} {ds : List PyData} {i : Nat} {d : PyData}, TDs H vs ds → ds[i]? = some d → ∃ v, vs[i]? = some v ∧ TD H v d
  | _, _, _, _, .nil, e => by simp at e
  | _, _, 0, _, .cons a _, e => by
    simp at e
    subst e
    exact ⟨_, rfl, a⟩
  | _, _, i + 1, v, .cons _ r, e => by
    obtain ⟨d, h1, h2⟩ := TDs.at (i := i) (d := v) r (by simpa using e)
    exact ⟨d, by simpa using h1, h2⟩
theorem TDs.app {H : Hp} : ∀ {vs us : List V} {ds es : List PyData}, TDs H vs ds → TDs H us es → TDs H (vs ++ us) (ds ++ es)
  | _, _, _, _, .nil, s => s
  | _, _, _, _, .cons a r, s => .cons a (r.app s)
theorem TDs.take {H : Hp} : ∀ {vs : List V} {ds : List PyData} (n : Nat), TDs H vs ds → TDs H (vs.take n) (ds.take n)
  | _, _, 0, _ => .nil
  | _, _, _ + 1, .nil => .nil
  | _, _, n + 1, .cons a r => .cons a (r.take n)
theorem TDs.drop {H : Hp} : ∀ {vs : List V} {ds : List PyData} (n : Nat), TDs H vs ds → TDs H (vs.drop n) (ds.drop n)
  | _, _, 0, r => r
  | _, _, _ + 1, .nil => .nil
  | _, _, n + 1, .cons _ r => r.drop n
theorem TDs.ints {H : Hp} : ∀ {vs : List V} {ns : List Int}, TDs H vs (ns.map PyData.int) → vs = ns.map V.int
  | _, [], h => by cases h; rfl
  | _, n :: ns, h => by
    cases h with
    | cons a r =>
      cases a
      rw [List.map_cons, r.ints]
theorem TDs.ofInts {H : Hp} : ∀ {ns : List Int}, TDs H (ns.map V.int) (ns.map PyData.int)
  | [] => .nil
  | n :: ns => .cons (.int n) TDs.ofInts
/-- a tuple at v -/
theorem TD.isTup {H : Hp} {v : V} {ds : List PyData} (h : TD H v (.tuple ds)) : ∃ a xs, v = .ref a ∧ H a = some (.tup xs) ∧ TDs H xs ds := by
  cases h with
  | tup e r => exact ⟨_, _, rfl, e, r⟩
theorem TD.isInt {H : Hp} {v : V} {i : Int} (h : TD H v (.int i)) : v = .int i := by cases h; rfl
/-- a pair of ints -/
theorem TD.pair {H : Hp} {v : V} {i j : Int} (h : TD H v (.tuple [.int i, .int j])) : ∃ a, v = .ref a ∧ H a = some (.tup [.int i, .int j]) := by
  obtain ⟨a, xs, rfl, e, r⟩ := h.isTup
  cases r with
  | cons h1 r =>
    cases r with
    | cons h2 r =>
      cases r
      cases h1
      cases h2
      exact ⟨a, rfl, e⟩
theorem TD.ofPair {H : Hp} {a : Addr} {i j : Int} (h : H a = some (.tup [.int i, .int j])) : TD H (.ref a) (.tuple [.int i, .int j]) := .tup h (.cons (.int i) (.cons (.int j) .nil))

/-! ### streams -/
def msgD (m : Int × Int) : PyData := .tuple [.int m.1, .int m.2]
def strmD (ms : List (Int × Int)) : PyData := .tuple (ms.map msgD)
theorem msgD_inj {a b : Int × Int} (h : PyData.eqv (msgD a) (msgD b) = true) : a = b := by
  obtain ⟨a1, a2⟩ := a
  obtain ⟨b1, b2⟩ := b
  simp only [msgD, PyData.eqv, PyData.eqvAll, Bool.and_true, Bool.and_eq_true, beq_iff_eq] at h
  rw [h.1, h.2]
theorem eqv_msgs : ∀ a b : List (Int × Int), PyData.eqvAll (a.map msgD) (b.map msgD) = decide (a = b)
  | [], [] => rfl
  | [], _ :: _ => rfl
  | _ :: _, [] => rfl
  | x :: r, y :: t => by
    have ih := eqv_msgs r t
    by_cases h : x = y
    · subst h
      have e : PyData.eqv (msgD x) (msgD x) = true := by simp [msgD, PyData.eqv, PyData.eqvAll]
      simp only [List.map_cons, PyData.eqvAll, e, ih, Bool.true_and, List.cons.injEq, true_and]
    · have e : PyData.eqv (msgD x) (msgD y) = false := by
        cases q : PyData.eqv (msgD x) (msgD y) with
        | false => rfl
        | true => exact absurd (msgD_inj q) h
      simp only [List.map_cons, PyData.eqvAll, e, Bool.false_and, List.cons.injEq, h, false_and, decide_false]
theorem eqv_strm (a b : List (Int × Int)) : PyData.eqv (strmD a) (strmD b) = decide (a = b) := by
  simp only [strmD, PyData.eqv]
  exact eqv_msgs a b
/-- a stream of ints that are not too long -/
def Short (ms : List (Int × Int)) : Prop := ∀ m ∈ ms, m.1.natAbs < 10 ^ 99 ∧ m.2.natAbs < 10 ^ 99
theorem nice_msg {m : Int × Int} (h : m.1.natAbs < 10 ^ 99 ∧ m.2.natAbs < 10 ^ 99) : Nice 1 207 (msgD m) := by
  refine Nice.tuple (n := 0) (m := 100) (k := 2) (fun d hd => ?_) (Nat.le_refl 2)
  simp only [List.mem_cons, List.not_mem_nil, or_false] at hd
  rcases hd with rfl | rfl
  · exact Nice.int h.1
  · exact Nice.int h.2
theorem nice_strm {ms : List (Int × Int)} {k : Nat} (h : Short ms) (hk : ms.length ≤ k) : Nice 2 (k * 207 + 2 * k + 3) (strmD ms) := by
  refine Nice.tuple (n := 1) (m := 207) (k := k) (fun d hd => ?_) (by rw [List.length_map]; exact hk)
  obtain ⟨m, hm, rfl⟩ := List.mem_map.mp hd
  exact nice_msg (h m hm)
theorem TDs.msg {H : Hp} {vs : List V} {ms : List (Int × Int)} {i : Nat} {v : V} (r : TDs H vs (ms.map msgD)) (h : vs[i]? = some v) : ∃ m a, ms[i]? = some m ∧ v = .ref a ∧ H a = some (.tup [.int m.1, .int m.2]) := by
  obtain ⟨d, h1, h2⟩ := r.get h
  rw [List.getElem?_map] at h1
  cases e : ms[i]? with
  | none => rw [e] at h1; cases h1
  | some m =>
    rw [e] at h1
    cases h1
    obtain ⟨a, h3, h4⟩ := TD.pair h2
    exact ⟨m, a, rfl, h3, h4⟩
theorem TDs.msgs_len {H : Hp} {vs : List V} {ms : List (Int × Int)} (r : TDs H vs (ms.map msgD)) : vs.length = ms.length := by
  rw [r.length, List.length_map]
end Sb

/-! Operators over data that never changes. -/
namespace Sb
open PySem PySem.Spec PyProof.Rows L2
theorem same_new {H : Hp} {p : Addr} {o : HO} (h : H p = none) : Same H (upd H p o) := fun b u e => by
  rw [upd_ne (ne_of_none e h)]
  exact e
section
variable {X : Cx}
theorem opImp {f : Value → Value → Sem Value} {r r' : R2} (h : OpR X f r) (i : ∀ x y H Q, r' x y H Q → r x y H Q) : OpR X f r' :=
  fun pins s σ H x y v u Q I rx ry z => h pins s σ H x y v u Q I rx ry (i x y H Q z)
/-- t + u -/
def rCatD : R2 := fun x y H Q => ∃ ds es, TD H x (.tuple ds) ∧ TD H y (.tuple es) ∧ ds.length + es.length ≤ 100000 ∧
  ∀ p H', Same H H' → TD H' (.ref p) (.tuple (ds ++ es)) → Q (.ref p) H'
theorem op_catD : OpR X (binaryOp .Add) rCatD := opImp op_catA fun x y H Q h => by
  obtain ⟨ds, es, h1, h2, hl, q⟩ := h
  obtain ⟨a, xs, rfl, ha, hx⟩ := h1.isTup
  obtain ⟨b, ys, rfl, hb, hy⟩ := h2.isTup
  have lx := hx.length
  have ly := hy.length
  refine ⟨a, b, xs, ys, rfl, rfl, SqT.of ha, SqT.of hb, ?_, ?_, ?_, ?_⟩
  · rw [lx, ly]
    exact Nat.le_trans hl (by decide)
  · intro e
    subst e
    cases hx
    exact q b H (Same.refl H) h2
  · intro _ e
    subst e
    cases hy
    exact q a H (Same.refl H) (by rw [List.append_nil]; exact h1)
  · intro _ _ p np
    exact q p _ (same_new np) (.tup upd_same (TDs.mono (Tups.new np) _ (hx.app hy)))
/-- a part of a list, by its bounds -/
def cutA {α : Type} (xs : List α) (lo hi : Option Int) : List α := (xs.drop (HT.sIx xs.length 0 lo)).take (HT.sIx xs.length xs.length hi - HT.sIx xs.length 0 lo)
theorem cutA_to {α : Type} (xs : List α) {k : Nat} (h : k ≤ xs.length) : cutA xs none (some (k : Int)) = xs.take k := by
  unfold cutA
  rw [HT.sIx_none, HT.sIx_nat, List.drop_zero, Nat.sub_zero, Nat.min_eq_left h]
theorem cutA_from {α : Type} (xs : List α) {k : Nat} (h : k ≤ xs.length) : cutA xs (some (k : Int)) none = xs.drop k := by
  unfold cutA
  rw [HT.sIx_none, HT.sIx_nat, Nat.min_eq_left h]
  exact List.take_of_length_le (by rw [List.length_drop]; exact Nat.le_refl _)
theorem TDs.cut {H : Hp} {xs : List V} {ds : List PyData} (h : TDs H xs ds) (lo hi : Option Int) : TDs H (cutV xs lo hi) (cutA ds lo hi) := by
  unfold cutV cutA
  rw [h.length]
  exact (h.drop _).take _
/-- t[lo:hi] -/
def rSlD : V → Option Int → Option Int → Hp → VK → Prop := fun x lo hi H Q => ∃ ds, TD H x (.tuple ds) ∧ ∀ p H', Same H H' → TD H' (.ref p) (.tuple (cutA ds lo hi)) → Q (.ref p) H'
theorem sl_D : SlR X rSlD := by
  intro pins s σ H x v vl vu lo hi sl Q I rx hs pl pu h
  refine sl_tupA pins s σ H x v vl vu lo hi sl Q I rx hs pl pu ?_
  obtain ⟨ds, hT, q⟩ := h
  obtain ⟨a, xs, rfl, ha, hx⟩ := hT.isTup
  refine ⟨a, xs, rfl, SqT.of ha, ?_, ?_⟩
  · rintro ⟨e1, e2⟩
    refine q a H (Same.refl H) ?_
    have e : cutA ds lo hi = ds := by
      unfold cutA
      rw [← hx.length, e1, e2, List.drop_zero, Nat.sub_zero]
      exact List.take_of_length_le (by rw [hx.length]; exact Nat.le_refl _)
    rw [e]
    exact hT
  · intro _ p np
    exact q p _ (same_new np) (.tup upd_same (TDs.mono (Tups.new np) _ (hx.cut lo hi)))
/-- x == y, x != y over data that never changes -/
def rEqT : R2 := fun x y H Q => ∃ d e, TD H x d ∧ TD H y e ∧ SeqAt.shaped d = true ∧ SeqAt.shaped e = true ∧ Q (.bl (PyData.eqv d e)) H
def rNeT : R2 := fun x y H Q => ∃ d e, TD H x d ∧ TD H y e ∧ SeqAt.shaped d = true ∧ SeqAt.shaped e = true ∧ Q (.bl (!PyData.eqv d e)) H
theorem op_eqT (hu : X.A.units + 64 < cLine) : OpR X (compareOp .Eq) rEqT := opImp (op_eqD hu) fun x y H Q ⟨d, e, h1, h2, r⟩ => ⟨d, e, h1.dp _, h2.dp _, r⟩
theorem op_neT (hu : X.A.units + 64 < cLine) : OpR X (compareOp .NotEq) rNeT := opImp (op_neD hu) fun x y H Q ⟨d, e, h1, h2, r⟩ => ⟨d, e, h1.dp _, h2.dp _, r⟩
end
theorem shaped_strm (ms : List (Int × Int)) : SeqAt.shaped (strmD ms) = true := by
  have h : PyData.canLayAll0 (ms.map msgD) = true ∧ PyData.depthAll (ms.map msgD) ≤ 1 := by
    induction ms with
    | nil => exact ⟨rfl, Nat.zero_le _⟩
    | cons x r ih => exact ⟨by simp only [List.map_cons, PyData.canLayAll0, ih.1, Bool.and_true]; rfl, by simp only [List.map_cons, PyData.depthAll]; exact Nat.max_le.mpr ⟨Nat.le_refl _, ih.2⟩⟩
  unfold SeqAt.shaped
  simp only [strmD, PyData.canLay0, PyData.depth, h.1, Bool.true_and, decide_eq_true_eq]
  have := h.2
  omega
end Sb

/-! An own error class over a built-in one, its __init__ storing its one argument under the argument's name. -/
namespace PySem
namespace OwnE
open PySem.W PySem.Calls PyProof.Rows PySem.HandSPX Builtin Builtin.ObjectAttr
/-- the base: its name, its __new__, its __init__, its mro -/
structure Base where
  B : String
  newId : String
  initId : String
  bm : List Value
structure Base.Ok (b : Base) : Prop where
  fb : ExcBaseFacts b.B b.newId b.initId b.bm
  sb : StoreFacts b.B b.bm "object.__setattr__" "object"
  ne : b.bm.isEmpty = false
section
variable {prog : Program} {w : World} {A : Around} {R : Result → Shared → Prop} {hp : Heap} {g : Array GenState} {d : Drawn} {t : Nat} {os : OsState}
theorem tail_some {b : Base} (ok : b.Ok) : ∀ l : List Value, excTail b.bm l = true → l.isEmpty = false
  | [], e => by
    have z : b.bm = [] := (beq_iff_eq.mp e).symm
    have n := ok.ne
    rw [z] at n
    exact absurd n (by decide)
  | _ :: _, _ => rfl
/-- x.name = v, x a new error -/
theorem stored {b : Base} (ok : b.Ok) {K : W.Frag} {name : Str} {tk : Tok} {v : Value} {x C : Addr} {fv : Array Value} {cd : ClassData} (inK : K.In hp)
    (at_x : hp.get? x = some { cls := .ref C, data := .fields fv }) (at_C : W.clsIn K C = some cd) (tail : excTail b.bm cd.mro = true) (own : cd.hasDict = true) (free : W.findIn K (.ref C) name = some none)
    (want : ∀ h' tk' dx, (∀ c o, c ≠ x → hp.get? c = some o → h'.get? c = some o) → hp.objs.size ≤ dx → dx ≠ x →
      h'.get? x = some { cls := .ref C, dict := some dx, data := .fields fv } → h'.Ns1 dx (fun y => if y = name then some v else none) →
      R (.ok (.ret .none)) ⟨h', g, d, tk', os⟩) :
    codeAny (model prog w) A (.call (.builtin "object.__setattr__") ⟨[.ref x, .str name tk, v], []⟩) R ⟨hp, g, d, t, os⟩ := by
  have inst : W.InstAt hp x { cls := .ref C, data := .fields fv } C none := ⟨at_x, rfl, rfl, trivial⟩
  have so := F.store_object
  have some_ := tail_some ok _ tail
  have object : cd.mro.contains (.type "object") = true := by rw [excTail_contains "object" _ tail]; exact ok.sb.hasOwner
  have apart : x ≠ hp.objs.size := Nat.ne_of_lt (Heap.lt_size at_x)
  have under : W.Looks (model prog w) hp (isInstance (.ref x) (.type "object")) true := by
    refine inst.type.andThen (W.looks_mroIn inK ?_)
    unfold W.mroIn
    rw [at_C, Option.bind_some, if_neg (by rw [some_]; decide), object]
  have data : W.Looks (model prog w) hp (classData C) cd := W.looks_clsIn inK at_C
  have order : W.Looks (model prog w) hp (mroOf (.ref C)) cd.mro := data.andThen .now
  have nobody : W.Looks (model prog w) hp (storeTaker? none) none := .now
  apply codeAny_call_builtin so.slot.plain so.entry
  apply @W.check_slot (model prog w) _ _ ⟨hp, g, d, t, os⟩ "object.__setattr__" "object" "__setattr__" (.ref x) [.str name tk, v] [] _ so.kind so.split under (so.args (.ref x) (.str name tk) v)
  rw [W.osa_eq, refuse_eq]
  apply wpAny_bind
  apply wpAny_bind
  apply inst.type.at
  apply wpAny_bind
  apply order.at
  rw [excTail_pass _ (ok.sb.passes _) _ tail]
  apply wpAny_pure
  apply wpAny_bind
  apply inst.type.at
  apply wpAny_bind
  apply (W.looks_findIn inK free).at
  apply wpAny_bind
  apply nobody.at
  show wpAny _ _ (storeInOwnDict (.ref x) (.ref C) (.str name tk) name v false) _ _ _
  obtain ⟨nm, bs, mro, ns, qn, hd, sn, sb, ab, col, del⟩ := cd
  dsimp only at own
  subst own
  unfold storeInOwnDict ownDictForStores
  repeat (first
    | with_reducible refine store_in_new ?_ ?_
    | with_reducible refine wpAny_loadPart_at at_x ?_
    | with_reducible refine data.at ?_
    | wp_step)
  · exact ⟨_, #[], _, (Heap.get?_update_ne _ _ _ _ apart.symm).trans (Heap.get?_push_at rfl rfl), rfl, (fun e he => absurd he (by simp)), (fun _ => rfl)⟩
  · intro h' tk' ns1 but
    have still : (hp.push { cls := .type "dict", data := .dict #[] }).get? x = some { cls := .ref C, data := .fields fv } := Heap.get?_push_of_some _ at_x
    refine want h' tk' hp.objs.size ?_ (Nat.le_refl _) apart.symm ?_ ns1
    · intro c o hc ho
      rw [but.2 c (Nat.ne_of_lt (Heap.lt_size ho)), Heap.get?_update_ne _ _ _ _ hc]
      exact Heap.get?_push_of_some _ ho
    · rw [but.2 x apart]
      exact Heap.get?_update_self _ still rfl
end
/-! the text of __init__ -/
def iA (f : Str) (p1 p2 : Pos) : Arguments := { posonlyargs := [], args := [{ arg := "self", annotation := none, pos := p1 }, { arg := f, annotation := none, pos := p2 }], vararg := none, kwonlyargs := [], kw_defaults := [], kwarg := none, defaults := [] }
def iB (f : Str) (q1 q2 q3 q4 : Pos) : List Stmt := [.Assign [.Attribute (.Name "self" q1) f q2] (.Name f q3) q4]
/-- what the written part says of the class x, at C, and of its __init__, at fI -/
structure ErrTxt (b : Base) (x f qual : Str) (K : Frag) (mg : Str → Option Value) (C fI : Addr) : Prop where
  gC : mg x = some (.ref C)
  cls : ∃ nm q N bs bm sn sub ab col dd k0 k1 k2 k3 k5, K.lookup C = some (excClassObj nm q C N bs bm true sn sub ab col dd k0 k1 k2 k3 k5 b.newId) ∧ excTail b.bm bm = true
  sa : findIn K (.ref C) "__setattr__" = some (some (.builtin "object.__setattr__"))
  ga : findIn K (.ref C) "__getattribute__" = some (some (.builtin "BaseException.__getattribute__"))
  gg : findIn K (.ref C) "__getattr__" = some none
  noN : findIn K (.ref C) f = some none
  iC : findIn K (.ref C) "__init__" = some (some (.ref fI))
  tC : typeIn K (.ref fI) = some (.type "function")
  kC : keepIn K (.ref C) = true
  exC : subIn K (.ref C) (.type "BaseException") = some true
  tyC : typeIn K (.ref C) = some (.type "type")
  hdC : hasDictIn K C = true
  te : exmOne K (.ref C) (.ref C) = some true
  fn : ∃ (oc : Value) (od : Option Addr) (doc pm : Value) (an : Option Addr) (cdv ct : Value) (osl : Array (Option Value)) (p1 p2 q1 q2 q3 q4 : Pos) (iS : Scope),
    K.lookup fI = some ⟨oc, od, .func (fnOf "__init__" qual (iA f p1 p2) (iB f q1 q2 q3 q4) iS .none .none doc pm an cdv ct), osl⟩ ∧ codeIn K cdv qual = true ∧
    iS.kind = .function ∧ iS.names.lookup ("self" : Str) = some .local ∧ iS.names.lookup f = some .local ∧ iS.isCoroutine = false ∧ iS.isGenerator = false
theorem one_le_line (v : Value) : [v].length ≤ sizeLine := by
  show 1 ≤ sizeLine
  decide
theorem ldE {M : Model} {s : Shared} {name : Str} {scope : Scope} {L a : Addr} {cd : Value} {m : Str → Option Value} {x : Str} {pos : Pos} {v : Value} {Q : Value → Shared → Prop} {A : Around} {E : Value → Shared → Prop} (hn : s.heap.Ns L m) (hv : m x = some v) (h : Q v s)
    (hk : scope.kind = .function) (hl : scope.names.lookup x = some .local) (hd : (x == ("__debug__" : Str)) = false) :
    wpAny M A (eval (.Name x pos) (envOfC name scope L a cd)) Q E s := wpAny_Name (wpAny_loadName_local hk hl hn hv h) hd
/-- what __init__ leaves of a fresh exception at x -/
structure Left (h h' : Heap) (x C dx t1 : Addr) (f : Str) (v : Value) : Prop where
  keep : ∀ b o, b ≠ x → h.get? b = some o → h'.get? b = some o
  obj : h'.get? x = some { cls := .ref C, dict := some dx, data := .fields #[.ref t1, .none, .none, .none, .bool false, .none] }
  dbig : h.objs.size ≤ dx
  dne : dx ≠ x
  ns : h'.Ns1 dx (fun y => if y = f then some v else none)
/-- a made error -/
structure Made1 (h h' : Heap) (e C d : Addr) (f : Str) (v : Value) : Prop where
  keep : ∀ b o, h.get? b = some o → h'.get? b = some o
  new : h.objs.size ≤ e
  obj : ∃ oe vs, h'.get? e = some oe ∧ oe.cls = .ref C ∧ oe.dict = some d ∧ oe.data = .fields vs ∧ vs[1]? = some .none
  dbig : h.objs.size ≤ d
  dne : d ≠ e
  ns : h'.Ns1 d (fun y => if y = f then some v else none)
section
variable {prog : Program} {w : World} {A : Around} {E : Value → Shared → Prop} {R : Result → Shared → Prop} {s : Shared} {b : Base} {x f qual : Str} {K : Frag} {mg : Str → Option Value} {C fI : Addr}
theorem run_init (ok : b.Ok) (T : ErrTxt b x f qual K mg C fI) (hf1 : ¬ f = ("self" : Str)) (hf2 : (f == ("__debug__" : Str)) = false)
    (bind : ∀ (oc : Value) (od : Option Addr) (doc pm : Value) (an : Option Addr) (cdv ct : Value) (p1 p2 q1 q2 q3 q4 : Pos) (iS : Scope) (u v : Value),
      bindArgs (fnOf "__init__" qual (iA f p1 p2) (iB f q1 q2 q3 q4) iS .none .none doc pm an cdv ct) ⟨[u, v], []⟩ = pure [(("self" : Str), u), (f, v)])
    {e t0 : Addr} {v : Value} (X : K.In s.heap) (hlim : s.heap.NoLimit) (he : s.heap.get? e = some (excO C t0)) (hnx : K.lookup e = none) (hroom : A.depth < recursionLimit)
    (want : ∀ h' tk dx, Left s.heap h' e C dx t0 f v → R (.ok (.ret .none)) { s with heap := h', toks := tk }) :
    codeAny (model prog w) A (.call (.ref fI) ⟨[.ref e, v], []⟩) R s := by
  obtain ⟨oc, od, doc, pm, an, cdv, ct, osl, p1, p2, q1, q2, q3, q4, iS, ho, hcd, sk, s1, s2, s3, s4⟩ := T.fn
  obtain ⟨nm, q, N, bs, bm, sn, sub, ab, col, dd, k0, k1, k2, k3, k5, hC, hbm⟩ := T.cls
  have hcl : clsIn K C = some { name := nm, bases := bs, mro := .ref C :: bm, ns := N, qualname := q, hasDict := true, slotNames := sn, subclasses := sub, abstract := ab, collection := col, hasDel := false } := by
    unfold clsIn
    rw [hC] <;> rfl
  refine Att.call_fn (binds := [(("self" : Str), .ref e), (f, v)]) X hlim ho hcd hroom (BindsTo.of_eq (bind oc od doc pm an cdv ct p1 p2 q1 q2 q3 q4 iS _ _)) ?_ (fun z IC => ?_) s3 s4 sk
  · simp [s1, s2]
  obtain ⟨hh, tk1, rfl⟩ := IC.toInCall.same
  have keep := IC.toInCall.keep
  have ns := IC.toInCall.ns
  have X1 : K.In hh := X.keeps keep
  have at_e := keep _ _ he
  have of_f : bindL (envOfC qual iS s.heap.objs.size fI cdv).kindOf [(("self" : Str), .ref e), (f, v)] (fun _ => none) f = some v := by
    have a1 : (envOfC qual iS s.heap.objs.size fI cdv).kindOf f = some .local := s2
    simp only [bindL, a1, if_true]
  have of_s : bindL (envOfC qual iS s.heap.objs.size fI cdv).kindOf [(("self" : Str), .ref e), (f, v)] (fun _ => none) ("self" : Str) = some (.ref e) := by
    have a1 : (envOfC qual iS s.heap.objs.size fI cdv).kindOf f = some .local := s2
    have a2 : (envOfC qual iS s.heap.objs.size fI cdv).kindOf ("self" : Str) = some .local := s1
    simp only [bindL, a1, a2, if_true]
    rw [if_neg (fun z => hf1 z.symm)]
  show wpAny _ _ (execs _ _) _ _ _
  refine wpAny_execs_cons (plainObj_wpAny_Assign_Attribute ?_)
  apply ldE (v := v) ns of_f _ sk s2 hf2
  apply ldE (v := .ref e) ns of_s _ sk s1 (by decide)
  refine set_plain X1 (ox := excO C t0) (od := none) ⟨at_e, rfl, rfl, trivial⟩ T.sa ?_
  refine stored ok X1 at_e hcl (show excTail b.bm (.ref C :: bm) = true from hbm) rfl T.noN ?_
  intro h3 tk3 dx keep3 dn dne at3 ns3
  show wpAny _ _ (execs _ _) _ _ _
  have z : s.heap.objs.size < hh.objs.size := ns.lt
  refine wpAny_execs_nil (want h3 tk3 dx ?_)
  exact { keep := fun c o hc q => keep3 c o hc (keep c o q), obj := at3, dbig := Nat.le_of_lt (Nat.lt_of_lt_of_le z dn), dne := dne, ns := ns3 }
theorem run_made (ok : b.Ok) (T : ErrTxt b x f qual K mg C fI) (hf1 : ¬ f = ("self" : Str)) (hf2 : (f == ("__debug__" : Str)) = false)
    (bind : ∀ (oc : Value) (od : Option Addr) (doc pm : Value) (an : Option Addr) (cdv ct : Value) (p1 p2 q1 q2 q3 q4 : Pos) (iS : Scope) (u v : Value),
      bindArgs (fnOf "__init__" qual (iA f p1 p2) (iB f q1 q2 q3 q4) iS .none .none doc pm an cdv ct) ⟨[u, v], []⟩ = pure [(("self" : Str), u), (f, v)])
    {v : Value} (X : K.In s.heap) (hlim : s.heap.NoLimit) (hroom : A.depth + 1 < recursionLimit)
    (want : ∀ h' tk e d, Made1 s.heap h' e C d f v → R (.ok (.ret (.ref e))) { s with heap := h', toks := tk }) :
    codeAny (model prog w) A (.call (.ref C) ⟨[v], []⟩) R s := by
  obtain ⟨nm, q, N, bs, bm, sn, sub, ab, col, dd, k0, k1, k2, k3, k5, hC, hbm⟩ := T.cls
  obtain ⟨hp, g, dr, tk, os⟩ := s
  have keep : ∀ c o, hp.get? c = some o → ((hp.push (kdv_tup [v])).push (excO C hp.objs.size)).get? c = some o := by
    intro c o z
    exact Heap.get?_push_of_some _ (Heap.get?_push_of_some _ z)
  have there : ((hp.push (kdv_tup [v])).push (excO C hp.objs.size)).get? (hp.objs.size + 1) = some (excO C hp.objs.size) := by heap_get
  have new : K.lookup (hp.objs.size + 1) = none := by
    cases e : K.lookup (hp.objs.size + 1) with
    | none => rfl
    | some o => exact absurd (Nat.lt_of_succ_lt (Heap.lt_size (X _ _ e))) (Nat.lt_irrefl _)
  apply call_own ok.fb (fun X => excTail_contains X bm hbm) (X _ _ hC) (looks_findIn X T.iC) (fun self => bind_fn X self T.tC) (one_le_line v)
  refine run_init (s := ⟨(hp.push (kdv_tup [v])).push (excO C hp.objs.size), g, dr, tk, os⟩) ok T hf1 hf2 bind (X.keeps keep) (hlim.keeps keep) there new hroom ?_
  rintro h' tk' dx ⟨keep2, at2, dn, dne, ns2⟩
  have z : hp.objs.size + 1 + 1 ≤ dx := by
    have q := dn
    rw [Heap.size_push, Heap.size_push] at q
    exact q
  refine ⟨rfl, want h' tk' (hp.objs.size + 1) dx ?_⟩
  refine { keep := fun c o q => keep2 c o ?_ (keep c o q), new := Nat.le_succ _, obj := ⟨_, _, at2, rfl, rfl, rfl, rfl⟩, dbig := (by show hp.objs.size ≤ dx; omega), dne := dne, ns := ns2 }
  exact Nat.ne_of_lt (Nat.lt_succ_of_lt (Heap.lt_size q))
end
end OwnE
end PySem
namespace L2
open PySem PySem.Spec PyProof.Rows
theorem relO_one {f : Str} {v : V} {v' : Value} (r : RelV v v') (y : Str) : RelO (List.lookup y [(f, v)]) (if y = f then some v' else none) := by
  by_cases h : y = f
  · subst h
    rw [if_pos rfl]
    have q : List.lookup y [(y, v)] = some v := by simp [List.lookup]
    rw [q]
    exact r
  · rw [if_neg h]
    have q1 : (y == f) = false := by simpa using h
    have q : List.lookup y [(f, v)] = none := by simp [List.lookup, q1]
    rw [q]
    trivial
section
variable {X : Cx} {b : OwnE.Base} {x f qual : Str} {C fI : Addr}
/-- what an error class's text gives, at any state -/
structure ErrOk (b : OwnE.Base) (x f qual : Str) (K : PySem.W.Frag) (mg : Str → Option Value) (C fI : Addr) : Prop where
  ok : b.Ok
  T : PySem.OwnE.ErrTxt b x f qual K mg C fI
  hf1 : ¬ f = ("self" : Str)
  hf2 : (f == ("__debug__" : Str)) = false
  bind : ∀ (oc : Value) (od : Option Addr) (doc pm : Value) (an : Option Addr) (cdv ct : Value) (p1 p2 q1 q2 q3 q4 : Pos) (iS : Scope) (u v : Value),
      bindArgs (PySem.W.fnOf "__init__" qual (OwnE.iA f p1 p2) (OwnE.iB f q1 q2 q3 q4) iS .none .none doc pm an cdv ct) ⟨[u, v], []⟩ = pure [(("self" : Str), u), (f, v)]
/-- x(e) -/
def tMkE (C : Addr) (f : Str) (ta : TA) : St → Hp → XK → Prop := fun σ H Q => ta σ H fun vs H1 => ∃ v, vs = [v] ∧ ∀ d, H1 d = none → Q (.ref C) (some d) (upd H1 d (.xd [(f, v)]))
theorem pmk_E {a : Expr} {ta : TA} {p pos : Pos} {k : Nat} (T : ErrOk b x f qual X.K X.mg C fI) (hr : Room k X.A) (ha : PA X [a] ta) (hg : Gl X x := by rfl) (hdb : (x == ("__debug__" : Str)) = false := by decide)
    (he : starEach (a :: []) X.env = (false, eval a X.env) :: starEach [] X.env := by rfl) (hpl : (backTo pos (starEach [] X.env)).any (·.1) = false := by rfl) :
    PMk X (.Call (.Name x p) [a] [] pos) (tMkE C f ta) := by
  intro pins s σ H Q I h
  apply wpAny_Call_Name_kw
  apply ld_glob I hg T.T.gC _ hdb
  apply PySem.W.callWith_K (h₀ := X.base) I.ok.mod.kin T.T.kC _ he hpl
  refine thn (ha.run pos pins s σ H _ I h) ?_
  rintro us s1 ⟨vs, H1, I1, r1, v, ev, q1⟩
  subst ev
  refine ⟨I1.kIn, ?_⟩
  match us, r1 with
  | [v'], .cons rv .nil =>
    show wpAny _ _ (call (.ref C) [v']) _ _ _
    have hlim := I1.nolimit
    obtain ⟨hp, g, dr, tk, os⟩ := s1
    apply wpAny_call
    refine PySem.OwnE.run_made T.ok T.T T.hf1 T.hf2 T.bind I1.kIn hlim (by have := hr.dp; omega) ?_
    intro h' tk' e d M
    show MkP X pins σ Q (.ref e) ⟨h', g, dr, tk', os⟩
    obtain ⟨oe, fv, hoe, hc, hd, hdat, h1⟩ := M.obj
    have hns := M.ns
    obtain ⟨G', g1, g2⟩ := restrict h' fun c => decide (c ≠ e)
    have gk : ∀ c, c ≠ e → G'.get? c = h'.get? c := fun c hc => g1 c (decide_eq_true hc)
    have ge : G'.get? e = none := g2 e (by simp)
    have old : ∀ c o, hp.get? c = some o → G'.get? c = some o := by
      intro c o q
      rw [gk c (Nat.ne_of_lt (Nat.lt_of_lt_of_le (Heap.lt_size q) M.new))]
      exact M.keep c o q
    have ob : ObjOk X.prog X.w (upd H1 d (.xd [(f, v)])) G' d (.xd [(f, v)]) := ⟨_, hns.at (fun o q => (gk d M.dne).trans q), fun y => relO_one rv y⟩
    have J : Inv X pins σ (upd H1 d (.xd [(f, v)])) ⟨G', g, dr, tk', os⟩ := I1.laid (t' := tk') old M.dbig ob
    refine ⟨e, oe, fv, ⟨G', g, dr, tk', os⟩, _, .ref C, some d, rfl, J, ?_, ge, hoe, ⟨hc, hd⟩, hdat, h1, ?_, rfl, I1.bare, raises_own T.T.exC T.T.tyC, q1 d (I1.hok.fresh M.dbig)⟩
    · intro c o q
      by_cases hc : c = e
      · have q' : G'.get? c = some o := q
        rw [hc, ge] at q'
        cases q'
      · exact (gk c hc).symm.trans q
    · rw [upd_ne (Ne.symm M.dne)]
      exact I1.hok.fresh M.new
/-- raise x(e) -/
def tRaiseE (C : Addr) (f : Str) (W : WX) (ta : TA) : TS := fun _ σ H => tMkE C f ta σ H fun cls d H' => W cls d σ H'
theorem ps_raiseE {a : Expr} {ta : TA} {W : WX} {p pos pos2 : Pos} {k : Nat} (hc : X.calm = true) (T : ErrOk b x f qual X.K X.mg C fI) (hr : Room k X.A) (tk : Takes X W) (ha : PA X [a] ta) (hg : Gl X x := by rfl) (hdb : (x == ("__debug__" : Str)) = false := by decide)
    (he : starEach (a :: []) X.env = (false, eval a X.env) :: starEach [] X.env := by rfl) (hpl : (backTo pos (starEach [] X.env)).any (·.1) = false := by rfl) :
    PS X (.Raise (some (.Call (.Name x p) [a] [] pos)) none pos2) (tRaiseE C f W ta) := ps_raise hc tk (pmk_E T hr ha hg hdb he hpl)
/-- e.f, e the error that the suite holds (at a; its class cls, its dict d) -/
def tByE (C : Addr) (f : Str) (a : Addr) (cls : Value) (d : Option Addr) (te : TE) : TE := fun σ H Q => te σ H fun y H1 => y = .ref a ∧ cls = .ref C ∧ ∃ (dd : Addr) (v : V), d = some dd ∧ H1 dd = some (.xd [(f, v)]) ∧ Q v H1
theorem pe_byE {a : Addr} {oe : Obj} {cls : Value} {d : Option Addr} {pn : List (Addr × Obj)} {e : Expr} {te : TE} {pos : Pos} (T : ErrOk b x f qual X.K X.mg C fI) (hz : Zc cls d oe) (hf : ∃ vs, oe.data = .fields vs) (he : PE (X.suite a ((a, oe) :: pn)) e te)
    (hb : attributeBase e f X.env (eval e X.env) = eval e X.env := by rfl) :
    PE (X.suite a ((a, oe) :: pn)) (.Attribute e f pos) (tByE C f a cls d te) := by
  constructor
  intro pins s σ H Q I h
  refine attr_of hb (thn (he.run pins s σ H _ I h) ?_)
  rintro u s1 ⟨y, H1, I1, ry, ey, ec, dd, v, ed, ea, q⟩
  subst ey ec ed
  obtain rfl : u = Value.ref a := ry
  have ha := (I1.pin (a, oe) (List.mem_append_left _ List.mem_cons_self)).1
  obtain ⟨vs, hd⟩ := hf
  obtain ⟨mA, hns, hr⟩ := (I1.hok dd _ ea : ObjOk X.prog X.w H1 s1.heap dd (.xd [(f, v)]))
  obtain ⟨od, ho, hl⟩ := lookIn_ns hns
  have l : List.lookup f [(f, v)] = some v := by simp [List.lookup]
  obtain ⟨u, hu, ru⟩ := RelO.some_of (v := v) (o := mA f) (by rw [← l]; exact hr f)
  have J : PySem.W.InstAt s1.heap a oe C (some od) := by
    refine ⟨ha, hz.1, ?_, ?_⟩
    · unfold PySem.W.notCls
      rw [hd] <;> rfl
    · rw [hz.2]
      exact ho
  exact HandSPX.exc_get I1.kIn J T.T.ga T.T.gg T.T.exC (PySem.W.findObj_own T.T.hdC T.T.noN rfl (by rw [hl, hu])) (handed_of ru) ⟨v, H1, I1.tok _, ru, q⟩
end
end L2
namespace PySem.OwnE
def bVE : Base := ⟨"ValueError", "ValueError.__new__", "ValueError.__init__", [Value.type "ValueError", Value.type "Exception", Value.type "BaseException", Value.type "object"]⟩
def bLE : Base := ⟨"LookupError", "LookupError.__new__", "LookupError.__init__", [Value.type "LookupError", Value.type "Exception", Value.type "BaseException", Value.type "object"]⟩
def bRE : Base := ⟨"RuntimeError", "RuntimeError.__new__", "RuntimeError.__init__", [Value.type "RuntimeError", Value.type "Exception", Value.type "BaseException", Value.type "object"]⟩
def bOE : Base := ⟨"OverflowError", "OverflowError.__new__", "OverflowError.__init__", [Value.type "OverflowError", Value.type "ArithmeticError", Value.type "Exception", Value.type "BaseException", Value.type "object"]⟩
theorem bVE_ok : bVE.Ok := ⟨F.excBase_ValueError, F.store_ValueError, rfl⟩
theorem bLE_ok : bLE.Ok := ⟨F.excBase_LookupError, F.store_LookupError, rfl⟩
theorem bRE_ok : bRE.Ok := ⟨F.excBase_RuntimeError, F.store_RuntimeError, rfl⟩
theorem bOE_ok : bOE.Ok := ⟨F.excBase_OverflowError, F.store_OverflowError, rfl⟩
/-- an error of its own class is what the class's clause names -/
theorem exm_own {K : W.Frag} {S : Addr} (h1 : W.subIn K (.ref S) (.type "BaseException") = some true) (h2 : W.isClsIn K S = true) (h3 : W.typeIn K (.ref S) = some (.type "type")) (h4 : W.subIn K (.ref S) (.ref S) = some true) : W.exmOne K (.ref S) (.ref S) = some true := by
  have e1 : (W.subIn K (.ref S) (.type "BaseException") == some true) = true := by
    rw [h1]
    rfl
  have e2 : ((W.clsIn K S).isSome && W.typeIn K (.ref S) == some (.type "type")) = true := by
    rw [show (W.clsIn K S).isSome = true from h2, h3]
    rfl
  unfold W.exmOne
  rw [if_pos e1]
  show (if ((W.clsIn K S).isSome && W.typeIn K (.ref S) == some (.type "type")) = true then W.subIn K (.ref S) (.ref S) else none) = some true
  rw [if_pos e2]
  exact h4
/-- what a clause of the class S says of an error of the class R -/
theorem exm_to {K : W.Frag} {R S : Addr} {b : Bool} (h1 : W.subIn K (.ref S) (.type "BaseException") = some true) (h2 : W.isClsIn K S = true) (h3 : W.typeIn K (.ref S) = some (.type "type")) (h4 : W.subIn K (.ref R) (.ref S) = some b) : W.exmOne K (.ref R) (.ref S) = some b := by
  have e1 : (W.subIn K (.ref S) (.type "BaseException") == some true) = true := by
    rw [h1]
    rfl
  have e2 : ((W.clsIn K S).isSome && W.typeIn K (.ref S) == some (.type "type")) = true := by
    rw [show (W.clsIn K S).isSome = true from h2, h3]
    rfl
  unfold W.exmOne
  rw [if_pos e1]
  show (if ((W.clsIn K S).isSome && W.typeIn K (.ref S) == some (.type "type")) = true then W.subIn K (.ref R) (.ref S) else none) = some b
  rw [if_pos e2]
  exact h4
end PySem.OwnE

/-! Where the text's defs, methods, classes and errors stand. -/
namespace Sb
open PySem PySem.Spec PyProof.Rows L2
structure Dn (K : PySem.W.Frag) (mg : Str → Option Value) (nm : Str) (st : Stmt) (ps : List Str) where
  f : Addr
  fd : FuncData
  F : Fun K nm nm st f fd
  b : Binds K fd ps []
  g : mg nm = some (.ref f)
structure Mn (K : PySem.W.Frag) (C : Addr) (nm qual : Str) (st : Stmt) (ps : List Str) where
  f : Addr
  fd : FuncData
  F : Fun K nm qual st f fd
  b : Binds K fd ps []
  M : Meth K C nm f
structure Cn (K : PySem.W.Frag) (mg : Str → Option Value) (nm : Str) where
  C : Addr
  cl : Cls K C
  g : mg nm = some (.ref C)
structure En (K : PySem.W.Frag) (mg : Str → Option Value) (bs : OwnE.Base) (nm fld qual : Str) where
  C : Addr
  i : Addr
  e : L2.ErrOk bs nm fld qual K mg C i
end Sb

/-! Data of any kind: scalars, tuples, lists, the empty dict; none of it lies at p. -/
namespace Sb
open PySem PySem.Spec PyProof.Rows L2
mutual
inductive LD (p : Addr) (H : Hp) : V → PyData → Prop
  | non : LD p H .non .none
  | bl (b : Bool) : LD p H (.bl b) (.bool b)
  | int (i : Int) : LD p H (.int i) (.int i)
  | str (x : Str) : LD p H (.str x) (.str x)
  | tup {a : Addr} {xs : List V} {ds : List PyData} : a ≠ p → H a = some (.tup xs) → LDs p H xs ds → LD p H (.ref a) (.tuple ds)
  | lst {a : Addr} {xs : List V} {ds : List PyData} : a ≠ p → a ≠ sysModules → H a = some (.lst xs) → LDs p H xs ds → LD p H (.ref a) (.list ds)
  | dic {a : Addr} : a ≠ p → H a = some (.dK []) → LD p H (.ref a) (.dict [])
  | dct {a : Addr} : a ≠ p → H a = some (.dT []) → LD p H (.ref a) (.dict [])
inductive LDs (p : Addr) (H : Hp) : List V → List PyData → Prop
  | nil : LDs p H [] []
  | cons {v : V} {vs : List V} {d : PyData} {ds : List PyData} : LD p H v d → LDs p H vs ds → LDs p H (v :: vs) (d :: ds)
end
/-- all but p stands -/
abbrev But (p : Addr) (H H' : Hp) : Prop := ∀ b o, H b = some o → b ≠ p → H' b = some o
theorem But.same {p : Addr} {H H' : Hp} (h : Same H H') : But p H H' := fun b o e _ => h b o e
mutual
theorem LD.mono {p : Addr} {H H' : Hp} (t : But p H H') : ∀ {v : V} (d : PyData), LD p H v d → LD p H' v d
  | _, .none, h => by cases h; exact .non
  | _, .bool b, h => by cases h; exact .bl b
  | _, .int i, h => by cases h; exact .int i
  | _, .str x, h => by cases h; exact .str x
  | _, .tuple ds, h => by
    cases h with
    | tup n e r => exact .tup n (t _ _ e n) (LDs.mono t ds r)
  | _, .list ds, h => by
    cases h with
    | lst n m e r => exact .lst n m (t _ _ e n) (LDs.mono t ds r)
  | _, .dict _, h => by
    cases h with
    | dic n e => exact .dic n (t _ _ e n)
    | dct n e => exact .dct n (t _ _ e n)
theorem LDs.mono {p : Addr} {H H' : Hp} (t : But p H H') : ∀ {vs : List V} (ds : List PyData), LDs p H vs ds → LDs p H' vs ds
  | _, [], h => by cases h; exact .nil
  | _, d :: ds, h => by
    cases h with
    | cons a r => exact .cons (LD.mono t d a) (LDs.mono t ds r)
end
theorem LDs.length {p : Addr} {H : Hp} : ∀ {vs : List V} {ds : List PyData}, LDs p H vs ds → vs.length = ds.length
  | _, _, .nil => rfl
  | _, _, .cons _ r => congrArg (· + 1) r.length
theorem LDs.get {p : Addr} {H : Hp} : ∀ {vs : List V} {ds : List PyData} {i : Nat} {v : V}, LDs p H vs ds → vs[i]? = some v → ∃ d, ds[i]? = some d ∧ LD p H v d
  | _, _, _, _, .nil, e => by simp at e
  | _, _, 0, _, .cons a _, e => by
    simp at e
    subst e
    exact ⟨_, rfl, a⟩
  | _, _, i + 1, v, .cons _ r, e => by
    obtain ⟨d, h1, h2⟩ := LDs.get (i := i) (v := v) r (by simpa using e)
    exact ⟨d, by simpa using h1, h2⟩
theorem LDs.at {p : Addr} {H : Hp} : ∀ {vs : List V} {ds : List PyData} {i : Nat} {d : PyData}, LDs p H vs ds → ds[i]? = some d → ∃ v, vs[i]? = some v ∧ LD p H v d
  | _, _, _, _, .nil, e => by simp at e
  | _, _, 0, _, .cons a _, e => by
    simp at e
    subst e
    exact ⟨_, rfl, a⟩
  | _, _, i + 1, v, .cons _ r, e => by
    obtain ⟨d, h1, h2⟩ := LDs.at (i := i) (d := v) r (by simpa using e)
    exact ⟨d, by simpa using h1, h2⟩
theorem LDs.app {p : Addr} {H : Hp} : ∀ {vs us : List V} {ds es : List PyData}, LDs p H vs ds → LDs p H us es → LDs p H (vs ++ us) (ds ++ es)
  | _, _, _, _, .nil, s => s
  | _, _, _, _, .cons a r, s => .cons a (r.app s)
theorem LDs.take {p : Addr} {H : Hp} : ∀ {vs : List V} {ds : List PyData} (n : Nat), LDs p H vs ds → LDs p H (vs.take n) (ds.take n)
  | _, _, 0, _ => .nil
  | _, _, _ + 1, .nil => .nil
  | _, _, n + 1, .cons a r => .cons a (r.take n)
theorem LDs.drop {p : Addr} {H : Hp} : ∀ {vs : List V} {ds : List PyData} (n : Nat), LDs p H vs ds → LDs p H (vs.drop n) (ds.drop n)
  | _, _, 0, r => r
  | _, _, _ + 1, .nil => .nil
  | _, _, n + 1, .cons _ r => r.drop n
mutual
theorem TD.ld {p : Addr} {H : Hp} (hp : ∀ xs, H p ≠ some (.tup xs)) : ∀ {v : V} (d : PyData), TD H v d → LD p H v d
  | _, .none, h => by cases h; exact .non
  | _, .bool b, h => by cases h; exact .bl b
  | _, .int i, h => by cases h; exact .int i
  | _, .str x, h => by cases h; exact .str x
  | _, .tuple ds, h => by
    cases h with
    | tup e r => exact .tup (fun z => hp _ (z ▸ e)) e (TDs.ld hp ds r)
  | _, .list _, h => by cases h
  | _, .dict _, h => by cases h
theorem TDs.ld {p : Addr} {H : Hp} (hp : ∀ xs, H p ≠ some (.tup xs)) : ∀ {vs : List V} (ds : List PyData), TDs H vs ds → LDs p H vs ds
  | _, [], h => by cases h; exact .nil
  | _, d :: ds, h => by
    cases h with
    | cons a r => exact .cons (TD.ld hp d a) (TDs.ld hp ds r)
end
/-! it is read off the heap -/
section
variable {X : Cx} {pins : List (Addr × Obj)} {σ : L2.St} {H : Hp} {s : Shared} {p : Addr}
mutual
theorem LD.reads (I : L2.Inv X pins σ H s) : ∀ (d : PyData) (v : V) (u : Value), LD p H v d → RelV v u → ∃ as, Reads s.heap u d as ∧ sysModules ∉ as
  | .none, _, _, h, r => by cases h; cases r; exact ⟨_, Reads.none, List.not_mem_nil⟩
  | .bool b, _, _, h, r => by cases h; cases r; exact ⟨_, Reads.bool b, List.not_mem_nil⟩
  | .int i, _, _, h, r => by cases h; obtain ⟨t, rfl⟩ := r; exact ⟨_, Reads.int i t, List.not_mem_nil⟩
  | .str x, _, _, h, r => by cases h; obtain ⟨t, rfl⟩ := r; exact ⟨_, Reads.str x t, List.not_mem_nil⟩
  | .list ds, _, _, h, r => by
    cases h with
    | lst n m e hs =>
      cases r
      obtain ⟨its, rv, ⟨o, k, ho, hc, _, hd⟩, _⟩ := I.list (SqL.of e)
      obtain ⟨as, hr, hn⟩ := LDs.reads I ds _ its hs rv
      refine ⟨_, Reads.list ho hc hd hr, fun z => ?_⟩
      rcases List.mem_cons.mp z with z | z
      · exact m z.symm
      · exact hn z
  | .tuple ds, _, _, h, r => by
    cases h with
    | tup n e hs =>
      cases r
      obtain ⟨its, rv, ⟨o, ho, hc, k, hd⟩, _⟩ := I.tuple (SqT.of e)
      obtain ⟨as, hr, hn⟩ := LDs.reads I ds _ its hs rv
      exact ⟨_, Reads.tuple ho hc hd hr, hn⟩
  | .dict _, _, _, h, r => by
    cases h with
    | @dic a n e =>
      cases r
      obtain ⟨_, low, vs, rel, o, es, ep, ho, ex, hd, _, pr, _⟩ := dk_of I.hok e
      cases rel
      have hes : es.toList = [] := List.eq_nil_of_length_eq_zero (Pairs.length pr)
      refine ⟨_, Reads.dict (kvs := []) ho ex.1 hd (by rw [hes]; exact .nil) (by rw [hes]; exact .nil), fun z => ?_⟩
      have z' : sysModules = a := by simpa using z
      rw [← z'] at low
      simp at low
    | @dct a n e =>
      cases r
      obtain ⟨_, low, xs, rel, o, es, ep, ho, ex, hd, pr, _⟩ := dt_of I.hok e
      cases rel
      have hes : es.toList = [] := pr
      refine ⟨_, Reads.dict (kvs := []) ho ex.1 hd (by rw [hes]; exact .nil) (by rw [hes]; exact .nil), fun z => ?_⟩
      have z' : sysModules = a := by simpa using z
      rw [← z'] at low
      simp at low
theorem LDs.reads (I : L2.Inv X pins σ H s) : ∀ (ds : List PyData) (vs : List V) (us : List Value), LDs p H vs ds → Vals vs us → ∃ as, ReadsAll s.heap us ds as ∧ sysModules ∉ as
  | [], _, _, h, r => by cases h; cases r; exact ⟨_, ReadsAll.nil, List.not_mem_nil⟩
  | d :: ds, _, _, h, r => by
    cases h with
    | cons h1 h2 =>
      cases r with
      | cons r1 r2 =>
        obtain ⟨as, q1, n1⟩ := LD.reads I d _ _ h1 r1
        obtain ⟨bs, q2, n2⟩ := LDs.reads I ds _ _ h2 r2
        refine ⟨_, ReadsAll.cons q1 q2, fun z => ?_⟩
        rcases List.mem_append.mp z with z | z
        · exact n1 z
        · exact n2 z
end
end
/-- its type -/
def tyN : PyData → String
  | .none => "NoneType"
  | .bool _ => "bool"
  | .int _ => "int"
  | .str _ => "str"
  | .list _ => "list"
  | .tuple _ => "tuple"
  | .dict _ => "dict"
theorem LD.ty {K : PySem.W.Frag} {p : Addr} {H : Hp} {v : V} {d : PyData} (h : LD p H v d) : TyX K H v (.type (tyN d)) := by
  cases h with
  | non => exact .base .non
  | bl b => exact .base (.bl b)
  | int i => exact .base (.int i)
  | str x => exact .base (.str x)
  | tup n e r => exact .base (.tup e)
  | lst n m e r => exact .base (.lst e)
  | dic n e => exact .base (.dK e)
  | dct n e => exact .base (.dT e)
def isIntD : PyData → Bool
  | .int _ => true
  | .bool _ => true
  | _ => false
def isBoolD : PyData → Bool
  | .bool _ => true
  | _ => false
def isTupD : PyData → Bool
  | .tuple _ => true
  | _ => false
theorem kit_int (K : PySem.W.Frag) (d : PyData) : PySem.W.kitOne K (.type (tyN d)) (.type "int") = some (isIntD d) := by
  cases d <;> first | rfl | decide +kernel | kernel_rfl
theorem kit_bool (K : PySem.W.Frag) (d : PyData) : PySem.W.kitOne K (.type (tyN d)) (.type "bool") = some (isBoolD d) := by
  cases d <;> first | rfl | decide +kernel | kernel_rfl
theorem kit_tup (K : PySem.W.Frag) (d : PyData) : PySem.W.kitOne K (.type (tyN d)) (.type "tuple") = some (isTupD d) := by
  cases d <;> first | rfl | decide +kernel | kernel_rfl
section
variable {X : Cx}
/-- isinstance(x, T) -/
def rIsL (T : String) (f : PyData → Bool) : List V → Hp → VK → Prop := fun xs H Q => ∃ p v d, xs = [v, .ty T] ∧ LD p H v d ∧ Q (.bl (f d)) H
theorem call_isL {T : String} {f : PyData → Bool} (hf : ∀ K d, PySem.W.kitOne K (.type (tyN d)) (.type T) = some (f d)) : CallR X (.builtin "isinstance") (rIsL T f) := by
  intro pins s σ H xs us Q I r h
  obtain ⟨p, v, d, rfl, hv, q⟩ := h
  exact call_isi pins s σ H _ us Q I r ⟨v, .ty T, _, _, _, rfl, .ty T, hv.ty, hf _ d, q⟩
/-- repr -/
def rReprL : List V → Hp → VK → Prop := fun xs H Q => ∃ p v d, xs = [v] ∧ LD p H v d ∧ d.showable = true ∧ d.depth ≤ 60 ∧ d.shown.length ≤ sizeLine ∧ Q (.str d.shown) H
theorem call_reprL (gd : X.A.guards = some []) (hu : X.A.units + 64 < cLine) : CallR X (.builtin "repr") rReprL := by
  intro pins s σ H xs us Q I r h
  obtain ⟨p, v, d, rfl, hv, hs, hd, hz, q⟩ := h
  by_cases hn : d.hasDict = false ∧ ∀ a, v ≠ .ref a
  · have dp : Dp X.K H v d := by
      cases hv with
      | non => exact .non
      | bl b => exact .bl b
      | int i => exact .int i
      | str x => exact .str x
      | tup n e r => exact absurd rfl (hn.2 _)
      | lst n m e r => exact absurd rfl (hn.2 _)
      | dic n e => exact absurd rfl (hn.2 _)
      | dct n e => exact absurd rfl (hn.2 _)
    exact call_reprD gd hu pins s σ H _ us Q I r ⟨v, d, rfl, dp, hs, hn.1, hd, hz, q⟩
  · obtain ⟨a, rfl⟩ : ∃ a, v = .ref a := by
      cases hv with
      | non => exact absurd ⟨rfl, fun _ z => by cases z⟩ hn
      | bl b => exact absurd ⟨rfl, fun _ z => by cases z⟩ hn
      | int i => exact absurd ⟨rfl, fun _ z => by cases z⟩ hn
      | str x => exact absurd ⟨rfl, fun _ z => by cases z⟩ hn
      | tup n e r => exact ⟨_, rfl⟩
      | lst n m e r => exact ⟨_, rfl⟩
      | dic n e => exact ⟨_, rfl⟩
      | dct n e => exact ⟨_, rfl⟩
    obtain ⟨u, rfl, ru⟩ := vals1 r
    obtain rfl : u = Value.ref a := ru
    obtain ⟨as, rd, low⟩ := LD.reads I d _ _ hv rfl
    exact repr_of_reads' rd hs (fun _ => low) gd (by omega) (fun _ _ z => z) (fun h' u' tk hk => ⟨.str d.shown, H, I.kept (fun b o z => hk b o z), ⟨_, rfl⟩, q⟩) hz
/-- list(t), where it lies -/
def rLstL : List V → Hp → VK → Prop := fun xs H Q => ∃ a ys, xs = [.ref a] ∧ H a = some (.tup ys) ∧ ∀ l, H l = none → l ≠ sysModules → Q (.ref l) (upd H l (.lst ys))
theorem call_lstL : CallR X (.type "list") rLstL := by
  intro pins s σ H xs us Q I r h
  obtain ⟨a, ys, rfl, ha, q⟩ := h
  obtain ⟨u, rfl, rx⟩ := vals1 r
  obtain rfl : u = Value.ref a := rx
  obtain ⟨its, rv, ⟨o, ho, hc, n, hd⟩, hz⟩ := I.tuple (SqT.of ha)
  have hl := rv.length
  refine call_list_seq a (.inr rfl) ho hc hd (fun h' c' kp e => ?_) (by simp only [List.size_toArray] <;> omega)
  exact ⟨.ref s.heap.objs.size, _, I.laid (t' := s.toks) kp (Nat.le_refl _) (show ObjOk X.prog X.w _ h' _ (.lst ys) from ⟨hz, its, c', rv, e⟩), rfl, q _ (I.hok.fresh (Nat.le_refl _)) (Nat.ne_of_gt I.big)⟩
/-- t != () -/
def rNe0 : R2 := fun x y H Q => ∃ a b xs, x = .ref a ∧ y = .ref b ∧ H a = some (.tup xs) ∧ H b = some (.tup []) ∧ Q (.bl (!xs.isEmpty)) H
theorem op_ne0 (hu : X.A.units + 64 < cLine) : OpR X (compareOp .NotEq) rNe0 := by
  intro pins s σ H x y v u Q I rx ry h
  obtain ⟨a, b, xs, rfl, rfl, ha, hb, q⟩ := h
  cases rx
  cases ry
  obtain ⟨its, r1, t1, _⟩ := I.tuple (SqT.of ha)
  obtain ⟨its2, r2, t2, _⟩ := I.tuple (SqT.of hb)
  cases r2
  have l1 := r1.length
  refine SeqAt.RcNeAt.tuples (e := fun _ => true) t1 t2 (by omega) (fun j _ h2 => absurd h2 (Nat.not_lt_zero _)) X.prog X.w X.xe (EP X pins σ Q) ⟨.bl _, H, I, rfl, ?_⟩
  have e : (!((List.range (min its.toArray.size ([] : List Value).toArray.size)).all (fun _ => true) && its.toArray.size == ([] : List Value).toArray.size)) = !xs.isEmpty := by
    cases xs with
    | nil => cases r1; rfl
    | cons z zs => cases r1; simp
  rw [e]
  exact q
/-- two pairs of texts, != -/
def rNeS : R2 := fun x y H Q => ∃ a b s1 s2 t1 t2, x = .ref a ∧ y = .ref b ∧ H a = some (.tup [.str s1, .str s2]) ∧ H b = some (.tup [.str t1, .str t2]) ∧ Q (.bl (!(s1 == t1 && s2 == t2))) H
theorem op_neS (hu : X.A.units + 64 < cLine) : OpR X (compareOp .NotEq) rNeS := by
  intro pins s σ H x y v u Q I rx ry h
  obtain ⟨a, b, s1, s2, t1, t2, rfl, rfl, ha, hb, q⟩ := h
  cases rx
  cases ry
  obtain ⟨its, r1, T1, _⟩ := I.tuple (SqT.of ha)
  obtain ⟨its2, r2, T2, _⟩ := I.tuple (SqT.of hb)
  obtain ⟨a1, a2, rfl, ra1, ra2⟩ := vals2 r1
  obtain ⟨b1, b2, rfl, rb1, rb2⟩ := vals2 r2
  obtain ⟨k1, rfl⟩ := ra1
  obtain ⟨k2, rfl⟩ := ra2
  obtain ⟨k3, rfl⟩ := rb1
  obtain ⟨k4, rfl⟩ := rb2
  refine SeqAt.RcNeAt.tuples (e := fun j => if j = 0 then s1 == t1 else s2 == t2) T1 T2 (by omega) (fun j h1 h2 => ?_) X.prog X.w X.xe (EP X pins σ Q) ⟨.bl _, H, I, rfl, ?_⟩
  · match j, h1, h2 with
    | 0, _, _ => exact SeqAt.EqAt.str_str _ _ _ _
    | 1, _, _ => exact SeqAt.EqAt.str_str _ _ _ _
  · have e : ((List.range (min 2 2)).all (fun j => if j = 0 then s1 == t1 else s2 == t2) && (2 == 2 : Bool)) = (s1 == t1 && s2 == t2) := by
      simp [List.range, List.range.loop]
    show Q (.bl (!((List.range (min 2 2)).all (fun j => if j = 0 then s1 == t1 else s2 == t2) && (2 == 2 : Bool)))) H
    rw [e]
    exact q
/-- t[lo:hi], t + u -/
def rSlL (p : Addr) : V → Option Int → Option Int → Hp → VK → Prop := fun x lo hi H Q => ∃ ds, LD p H x (.tuple ds) ∧ H p ≠ none ∧ ∀ a H', Same H H' → LD p H' (.ref a) (.tuple (cutA ds lo hi)) → Q (.ref a) H'
theorem LDs.cut {p : Addr} {H : Hp} {xs : List V} {ds : List PyData} (h : LDs p H xs ds) (lo hi : Option Int) : LDs p H (cutV xs lo hi) (cutA ds lo hi) := by
  unfold cutV cutA
  rw [h.length]
  exact (h.drop _).take _
theorem LD.isTup {p : Addr} {H : Hp} {v : V} {ds : List PyData} (h : LD p H v (.tuple ds)) : ∃ a xs, v = .ref a ∧ a ≠ p ∧ H a = some (.tup xs) ∧ LDs p H xs ds := by
  cases h with
  | tup n e r => exact ⟨_, _, rfl, n, e, r⟩
theorem ne_at {p q : Addr} {H : Hp} (hp : H p ≠ none) (hq : H q = none) : q ≠ p := fun e => hp (e ▸ hq)
theorem sl_L {p : Addr} : SlR X (rSlL p) := by
  intro pins s σ H x v vl vu lo hi sl Q I rx hs pl pu h
  refine sl_tupA pins s σ H x v vl vu lo hi sl Q I rx hs pl pu ?_
  obtain ⟨ds, hT, hp, q⟩ := h
  obtain ⟨a, xs, rfl, n, ha, hx⟩ := hT.isTup
  refine ⟨a, xs, rfl, SqT.of ha, ?_, ?_⟩
  · rintro ⟨e1, e2⟩
    refine q a H (Same.refl H) ?_
    have e : cutA ds lo hi = ds := by
      unfold cutA
      rw [← hx.length, e1, e2, List.drop_zero, Nat.sub_zero]
      exact List.take_of_length_le (by rw [hx.length]; exact Nat.le_refl _)
    rw [e]
    exact hT
  · intro _ t nt
    exact q t _ (same_new nt) (.tup (ne_at hp nt) upd_same (LDs.mono (But.same (same_new nt)) _ (hx.cut lo hi)))
def rCatL (p : Addr) : R2 := fun x y H Q => ∃ ds es, LD p H x (.tuple ds) ∧ LD p H y (.tuple es) ∧ H p ≠ none ∧ ds.length + es.length ≤ 100000 ∧ ∀ a H', Same H H' → LD p H' (.ref a) (.tuple (ds ++ es)) → Q (.ref a) H'
theorem op_catL {p : Addr} : OpR X (binaryOp .Add) (rCatL p) := opImp op_catA fun x y H Q h => by
  obtain ⟨ds, es, h1, h2, hp, hl, q⟩ := h
  obtain ⟨a, xs, rfl, n1, ha, hx⟩ := h1.isTup
  obtain ⟨b, ys, rfl, n2, hb, hy⟩ := h2.isTup
  have lx := hx.length
  have ly := hy.length
  refine ⟨a, b, xs, ys, rfl, rfl, SqT.of ha, SqT.of hb, ?_, ?_, ?_, ?_⟩
  · rw [lx, ly]
    exact Nat.le_trans hl (by decide)
  · intro e
    subst e
    cases hx
    exact q b H (Same.refl H) h2
  · intro _ e
    subst e
    cases hy
    exact q a H (Same.refl H) (by rw [List.append_nil]; exact h1)
  · intro _ _ t nt
    exact q t _ (same_new nt) (.tup (ne_at hp nt) upd_same (LDs.mono (But.same (same_new nt)) _ (hx.app hy)))
end
/-! small enough to be shown -/
mutual
def wt : PyData → Nat
  | .list xs => wts xs + 1
  | .tuple xs => wts xs + 1
  | .dict _ => 1
  | _ => 1
def wts : List PyData → Nat
  | [] => 0
  | x :: r => wt x + wts r
end
mutual
def Sm : PyData → Prop
  | .int i => i.natAbs < 10 ^ 99
  | .str x => (reprText x).length ≤ 100
  | .list xs => Sms xs
  | .tuple xs => Sms xs
  | .dict kvs => kvs = []
  | _ => True
def Sms : List PyData → Prop
  | [] => True
  | x :: r => Sm x ∧ Sms r
end
theorem Sms.get : ∀ {ds : List PyData} {i : Nat} {d : PyData}, Sms ds → ds[i]? = some d → Sm d
  | _ :: _, 0, _, h, e => by simp at e; exact e ▸ h.1
  | _ :: r, i + 1, _, h, e => Sms.get (ds := r) (i := i) h.2 (by simpa using e)
theorem Sms.app : ∀ {ds es : List PyData}, Sms ds → Sms es → Sms (ds ++ es)
  | [], _, _, h => h
  | _ :: _, _, h, g => ⟨h.1, Sms.app h.2 g⟩
theorem Sms.take : ∀ {ds : List PyData} (n : Nat), Sms ds → Sms (ds.take n)
  | _, 0, _ => trivial
  | [], _ + 1, _ => trivial
  | _ :: _, n + 1, h => ⟨h.1, Sms.take n h.2⟩
theorem Sms.drop : ∀ {ds : List PyData} (n : Nat), Sms ds → Sms (ds.drop n)
  | _, 0, h => h
  | [], _ + 1, _ => trivial
  | _ :: _, n + 1, h => Sms.drop n h.2
theorem wts_app : ∀ (ds es : List PyData), wts (ds ++ es) = wts ds + wts es
  | [], es => by simp [wts]
  | d :: r, es => by
    simp only [List.cons_append, wts, wts_app r es]
    omega
theorem wts_take_drop (ds : List PyData) (n : Nat) : wts (ds.take n) + wts (ds.drop n) = wts ds := by
  rw [← wts_app, List.take_append_drop]
theorem wts_get : ∀ {ds : List PyData} {i : Nat} {d : PyData}, ds[i]? = some d → wt d ≤ wts ds
  | _ :: _, 0, _, e => by
    simp at e
    subst e
    simp only [wts]
    omega
  | _ :: r, i + 1, _, e => by
    have := wts_get (ds := r) (i := i) (by simpa using e)
    simp only [wts]
    omega
theorem depthAll_app : ∀ (ds es : List PyData), PyData.depthAll (ds ++ es) = max (PyData.depthAll ds) (PyData.depthAll es)
  | [], es => by simp [PyData.depthAll]
  | d :: r, es => by
    simp only [List.cons_append, PyData.depthAll, depthAll_app r es]
    omega
theorem depth_get : ∀ {ds : List PyData} {i : Nat} {d : PyData}, ds[i]? = some d → d.depth ≤ PyData.depthAll ds
  | _ :: _, 0, _, e => by
    simp at e
    subst e
    simp only [PyData.depthAll]
    omega
  | _ :: r, i + 1, _, e => by
    have := depth_get (ds := r) (i := i) (by simpa using e)
    simp only [PyData.depthAll]
    omega
theorem depth_cut (ds : List PyData) (n : Nat) : PyData.depthAll (ds.take n) ≤ PyData.depthAll ds ∧ PyData.depthAll (ds.drop n) ≤ PyData.depthAll ds := by
  have h := depthAll_app (ds.take n) (ds.drop n)
  rw [List.take_append_drop] at h
  omega
mutual
theorem sm_shown : ∀ d : PyData, Sm d → d.showable = true ∧ d.shown.length + 2 ≤ 110 * wt d
  | .none, _ => ⟨rfl, by decide⟩
  | .bool b, _ => ⟨rfl, by cases b <;> decide⟩
  | .int i, h => by
    have n := Nice.int h
    refine ⟨n.sho, ?_⟩
    have := n.len
    show _ ≤ 110 * 1
    omega
  | .str x, h => by
    refine ⟨rfl, ?_⟩
    have h' : (reprText x).length ≤ 100 := h
    show (reprText x).length + 2 ≤ 110 * 1
    omega
  | .list xs, h => by
    obtain ⟨a, b, c⟩ := sms_shown xs h
    refine ⟨a, ?_⟩
    have l := listText_len_le (PyData.shownAll xs)
    simp only [PyData.shown, wt]
    omega
  | .tuple xs, h => by
    obtain ⟨a, b, c⟩ := sms_shown xs h
    refine ⟨a, ?_⟩
    have l := tupleText_len_le (PyData.shownAll xs)
    simp only [PyData.shown, wt]
    omega
  | .dict kvs, h => by
    have h' : kvs = [] := h
    subst h'
    exact ⟨rfl, by decide⟩
theorem sms_shown : ∀ ds : List PyData, Sms ds → PyData.showableAll ds = true ∧ ((PyData.shownAll ds).map (·.length)).sum + 2 * (PyData.shownAll ds).length ≤ 110 * wts ds ∧ (PyData.shownAll ds).length = ds.length
  | [], _ => ⟨rfl, by decide, rfl⟩
  | d :: ds, h => by
    obtain ⟨a, b⟩ := sm_shown d h.1
    obtain ⟨c, e, f⟩ := sms_shown ds h.2
    refine ⟨by simp only [PyData.showableAll, a, c, Bool.and_self], ?_, by simp only [PyData.shownAll, List.length_cons, f]⟩
    simp only [PyData.shownAll, List.map_cons, List.sum_cons, List.length_cons, wts]
    omega
end
end Sb

/-! o.m(..), C(..): calls of promises that know that no repr is under way. -/
namespace Sb
open PySem PySem.Spec PyProof.Rows L2
/-- how a method's call is read -/
abbrev MethForm (X : Cx) (o : Expr) (m : Str) (es : List Expr) (pos apos : Pos) (pl : Sem Bool) : Prop :=
  eval (.Call (.Attribute o m apos) es [] pos) X.env = (do let ov ← eval o X.env; standAt apos.atName; let (f, first) ← holding [ov] (getMethod ov m pl); callWith pos f first (backTo pos (starEach es X.env)) (backToKw pos (keywordEach [] X.env)))
section
variable {X : Cx} {CX : CXT} {k : Nat} {f C : Addr} {fd : FuncData} {ps : List Str} {sp : Sp} {dvs : List V} {ds : List Value} {x m : Str} {p pos apos : Pos} {e o : Expr} {es : List Expr} {ta : TE} {t : TA} {E : XK}
/-- o.m(e, ..) -/
theorem pe_methG {pl : Sem Bool} (ho : PE X o ta) (c : Cls X.K C) (hm : Meth X.K C m f) (F : FnG X.prog X.w X.K X.mg X.base CX k f fd ps sp) (gd : X.A.guards = some []) (hr : Room k X.A) (hb : Binds X.K fd ps ds) (hd : Vals dvs ds) (hx : Passes CX X E) (ha : PA X (e :: es) t)
    (hst : starEach (e :: es) X.env = (false, eval e X.env) :: starEach es X.env := by rfl) (hpl : (backTo pos (starEach es X.env)).any (·.1) = false := by rfl)
    (ht : MethForm X o m (e :: es) pos apos pl := by rfl) : PE X (.Call (.Attribute o m apos) (e :: es) [] pos) (tMeth C m sp dvs E ta t) := by
  constructor
  intro pins s σ H Q I h
  refine PySem.W.methodCall_KW (pl := pl) (thn (ho.run pins s σ H _ I h) ?_) ht
  rintro u s1 ⟨y, H1, I1, ry, a, dx, fs, rfl, ea, l, q⟩
  obtain rfl : u = Value.ref a := ry
  refine getmeth_ok I1 ea c hm l ?_
  refine PySem.W.callWith_K (first := [.ref a]) (h₀ := X.base) I.ok.mod.kin hm.kp (thn (ha.run pos pins s1 σ H1 _ I1 q) ?_) hst hpl
  rintro us s2 ⟨vs, H2, I2, r, q2⟩
  exact ⟨I2.kIn, runG (us := .ref a :: us) (vs := .ref a :: vs) F gd hr hb hd (fun er s' z => hx pins σ H2 s2 er s' I2 z) I2 (.cons rfl r) q2⟩
/-- o.m() -/
theorem pe_meth0G {pl : Sem Bool} (ho : PE X o ta) (c : Cls X.K C) (hm : Meth X.K C m f) (F : FnG X.prog X.w X.K X.mg X.base CX k f fd ps sp) (gd : X.A.guards = some []) (hr : Room k X.A) (hb : Binds X.K fd ps ds) (hd : Vals dvs ds) (hx : Passes CX X E)
    (ht : MethForm X o m [] pos apos pl := by rfl) : PE X (.Call (.Attribute o m apos) [] [] pos) (tMeth C m sp dvs E ta tNil) := by
  constructor
  intro pins s σ H Q I h
  refine PySem.W.methodCall_KW (pl := pl) (thn (ho.run pins s σ H _ I h) ?_) ht
  rintro u s1 ⟨y, H1, I1, ry, a, dx, fs, rfl, ea, l, q⟩
  obtain rfl : u = Value.ref a := ry
  refine getmeth_ok I1 ea c hm l ?_
  exact PySem.W.callWith_K0 (first := [.ref a]) I1.kIn hm.kp (runG (us := [.ref a]) (vs := [.ref a]) F gd hr hb hd (fun er s' z => hx pins σ H1 s1 er s' I1 z) I1 (.cons rfl .nil) q)
/-- the same, what is raised wished for at the slots -/
theorem pe_methGS {pl : Sem Bool} {E : L2.St → XK} (ho : PE X o ta) (c : Cls X.K C) (hm : Meth X.K C m f) (F : FnG X.prog X.w X.K X.mg X.base CX k f fd ps sp) (gd : X.A.guards = some []) (hr : Room k X.A) (hb : Binds X.K fd ps []) (hx : ∀ σ, PassesAt CX X σ (E σ)) (ha : PA X (e :: es) t)
    (hst : starEach (e :: es) X.env = (false, eval e X.env) :: starEach es X.env := by rfl) (hpl : (backTo pos (starEach es X.env)).any (·.1) = false := by rfl)
    (ht : MethForm X o m (e :: es) pos apos pl := by rfl) : PE X (.Call (.Attribute o m apos) (e :: es) [] pos) (fun σ H Q => tMeth C m sp [] (E σ) ta t σ H Q) := by
  constructor
  intro pins s σ H Q I h
  refine PySem.W.methodCall_KW (pl := pl) (thn (ho.run pins s σ H _ I h) ?_) ht
  rintro u s1 ⟨y, H1, I1, ry, a, dx, fs, rfl, ea, l, q⟩
  obtain rfl : u = Value.ref a := ry
  refine getmeth_ok I1 ea c hm l ?_
  refine PySem.W.callWith_K (first := [.ref a]) (h₀ := X.base) I.ok.mod.kin hm.kp (thn (ha.run pos pins s1 σ H1 _ I1 q) ?_) hst hpl
  rintro us s2 ⟨vs, H2, I2, r, q2⟩
  exact ⟨I2.kIn, runG (us := .ref a :: us) (vs := .ref a :: vs) F gd hr hb .nil (fun er s' z => hx σ pins H2 s2 er s' I2 z) I2 (.cons rfl r) q2⟩
/-- C(e, ..) -/
theorem make_runG {pins : List (Addr × Obj)} {σ : L2.St} {H : Hp} {s : Shared} {Q : VK} {us : List Value} {vs : List V} (M : Mk X.K C f) (F : FnG X.prog X.w X.K X.mg X.base CX k f fd ps sp) (gd : X.A.guards = some []) (hr : Room (k + 1) X.A) (hb : Binds X.K fd ps ds) (hd : Vals dvs ds)
    (hx : ∀ (e : Value) (s' : Shared) (H0 : Hp) (s0 : Shared), L2.Inv X pins σ H0 s0 → CX X.stack H0 s0 E e s' → X.xe e s') (I : L2.Inv X pins σ H s) (r : Vals vs us)
    (h : ∀ x dx, H x = none → H dx = none → dx ≠ x → sp (.ref x :: (vs ++ dvs)) (upd (upd H dx (.own x)) x (.ins C dx [])) (fun v H2 => v = .non ∧ Q (.ref x) H2) E) : wpAny (model X.prog X.w) X.A (call (.ref C) us) (EP X pins σ Q) X.xe s := by
  have q := h (s.heap.objs.size + 1) s.heap.objs.size (I.hok.fresh (Nat.le_succ _)) (I.hok.fresh (Nat.le_refl _)) (Nat.ne_of_lt (Nat.lt_succ_self _))
  have J := Inv.made (C := C) I
  have rr : Vals (V.ref (s.heap.objs.size + 1) :: (vs ++ dvs)) (Value.ref (s.heap.objs.size + 1) :: (us ++ ds)) := .cons rfl (r.append hd)
  have nl : (Value.ref (s.heap.objs.size + 1) :: us ++ ds).length = ps.length := rr.length ▸ F.len _ _ _ _ q
  apply wpAny_call
  refine make_map (f := f) I.kIn M.makes M.init (beq_iff_eq.mp M.fn) ?_
  refine codeAny_mono (F.run _ X.stack _ _ ⟨Value.ref (s.heap.objs.size + 1) :: us, []⟩ (Value.ref (s.heap.objs.size + 1) :: (us ++ ds)) _ _ E gd (hr.make C us []) (J.env0.make C us []) (hb _ (Value.ref (s.heap.objs.size + 1) :: us) J.kIn nl) rr q) ?_
  intro res s' z
  match res, z with
  | .error er, z => exact hx er s' _ _ J z
  | .ok (.ret u), z =>
    obtain ⟨v, H', J', rv, rfl, q'⟩ := J.after z
    exact ⟨rv, V.ref (s.heap.objs.size + 1), H', J', rfl, q'⟩
  | .ok .next, z => exact z.elim
  | .ok .brk, z => exact z.elim
  | .ok .cont, z => exact z.elim
theorem pe_makeG (M : Mk X.K C f) (F : FnG X.prog X.w X.K X.mg X.base CX k f fd ps sp) (gd : X.A.guards = some []) (hr : Room (k + 1) X.A) (hg : Gl X x) (hm : X.mg x = some (.ref C)) (hb : Binds X.K fd ps ds) (hd : Vals dvs ds) (hx : Passes CX X E) (ha : PA X (e :: es) t)
    (hdb : (x == ("__debug__" : Str)) = false := by decide) (he : starEach (e :: es) X.env = (false, eval e X.env) :: starEach es X.env := by rfl) (hpl : (backTo pos (starEach es X.env)).any (·.1) = false := by rfl) : PE X (.Call (.Name x p) (e :: es) [] pos) (tMake C sp dvs E t) := by
  constructor
  intro pins s σ H Q I h
  apply wpAny_Call_Name_kw
  apply ld_glob I hg hm _ hdb
  apply PySem.W.callWith_K (h₀ := X.base) I.ok.mod.kin M.kp _ he hpl
  refine thn (ha.run pos pins s σ H _ I h) ?_
  rintro us s1 ⟨vs, H1, I1, r, q⟩
  exact ⟨I1.kIn, make_runG M F gd hr hb hd (fun er s' H0 s0 J z => hx pins σ H0 s0 er s' J z) I1 r q⟩
/-- the same, what is raised wished for at the slots -/
def tMakeS (C : Addr) (sp : Sp) (E : L2.St → XK) (t : TA) : TE := fun σ H Q => tMake C sp [] (E σ) t σ H Q
theorem pe_makeGS {E : L2.St → XK} (M : Mk X.K C f) (F : FnG X.prog X.w X.K X.mg X.base CX k f fd ps sp) (gd : X.A.guards = some []) (hr : Room (k + 1) X.A) (hg : Gl X x) (hm : X.mg x = some (.ref C)) (hb : Binds X.K fd ps []) (hx : ∀ σ, PassesAt CX X σ (E σ)) (ha : PA X (e :: es) t)
    (hdb : (x == ("__debug__" : Str)) = false := by decide) (he : starEach (e :: es) X.env = (false, eval e X.env) :: starEach es X.env := by rfl) (hpl : (backTo pos (starEach es X.env)).any (·.1) = false := by rfl) : PE X (.Call (.Name x p) (e :: es) [] pos) (tMakeS C sp E t) := by
  constructor
  intro pins s σ H Q I h
  apply wpAny_Call_Name_kw
  apply ld_glob I hg hm _ hdb
  apply PySem.W.callWith_K (h₀ := X.base) I.ok.mod.kin M.kp _ he hpl
  refine thn (ha.run pos pins s σ H _ I h) ?_
  rintro us s1 ⟨vs, H1, I1, r, q⟩
  exact ⟨I1.kIn, make_runG M F gd hr hb .nil (fun er s' H0 s0 J z => hx σ pins H0 s0 er s' J z) I1 r q⟩
/-- len(x), x's class has its own __len__ -/
def rLenG (C : Addr) (sp : Sp) : List V → Hp → VK → Prop := fun xs H Q => ∃ (a dx : Addr) (fs : List (Str × V)), xs = [.ref a] ∧ H a = some (.ins C dx fs) ∧
  sp [.ref a] H (fun v H2 => ∃ n : Nat, v = .int n ∧ n ≤ 1000 ∧ Q (.int n) H2) fun _ _ _ => False
theorem call_lenG {sp : Sp} (at_ : PySem.W.findIn X.K (.ref C) "__len__" = some (some (.ref f))) (tf : PySem.W.typeIn X.K (.ref f) = some (.type "function")) (F : FnG X.prog X.w X.K X.mg X.base CX0 k f fd ps sp) (gd : X.A.guards = some []) (hr : Room (k + 1) X.A) (hb : Binds X.K fd ps []) :
    CallR X (.builtin "len") (rLenG C sp) := by
  intro pins s σ H xs us Q I r h
  obtain ⟨a, dx, fs, rfl, ha, want⟩ := h
  obtain ⟨u, rfl, ru⟩ := vals1 r
  obtain rfl : u = Value.ref a := ru
  obtain ⟨mA, O, _⟩ := ins_get I.hok ha
  obtain ⟨od, J, _⟩ := O.look
  refine PySem.Calls.call_function_entry kind_len plain_len entry_len (args_len1 _) ?_
  unfold Builtin.«len»
  refine wpAny_bind (m := oneArg "len" _) ?_
  apply wpAny_pure
  have nl : ([.ref a] : List Value).length = ps.length := by
    have z := F.len _ _ _ _ want
    exact z
  have run := F.run X.A.in1 X.stack s H ⟨[.ref a], []⟩ [.ref a] [.ref a] _ _ gd hr.in1 I.env0.in1 (hb s [.ref a] I.kIn (by rw [List.append_nil]; exact nl)) (.cons rfl .nil) want
  refine wpAny_bind (m := callSpecial? (.ref a) (Str.ofString "__len__")) (PySem.W.special_fn I.kIn J at_ tf (wpAny_call (codeAny_mono run ?_)))
  intro res s' z
  match res, z with
  | .error er, z => exact z.elim
  | .ok .next, z => exact z.elim
  | .ok .brk, z => exact z.elim
  | .ok .cont, z => exact z.elim
  | .ok (.ret u), z =>
    obtain ⟨v, H', J', rv, n, rfl, hn, q⟩ := I.after z
    obtain ⟨t, rfl⟩ := rv
    show wpAny _ _ (holding [Value.int (n : Int) t] (asIndex (Value.int (n : Int) t)) >>= _) _ _ s'
    refine wpAny_bind (wpAny_holding (wpAny_pure ?_))
    refine wpAny_bind (wpAny_letGo ?_)
    have e1 : ¬ ((n : Nat) : Int) < 0 := by omega
    have e2 : ¬ ((n : Nat) : Int) ≥ 2 ^ 63 := by omega
    show wpAny _ _ (if ((n : Nat) : Int) < 0 then _ else _) _ _ _
    rw [if_neg e1]
    show wpAny _ _ (if ((n : Nat) : Int) ≥ 2 ^ 63 then _ else _) _ _ _
    rw [if_neg e2]
    refine wpAny_bind (wpAny_mkInt ?_)
    apply wpAny_pure
    exact ⟨_, rfl, .int n, H', J'.tok _, ⟨_, rfl⟩, q⟩
end
end Sb

/-! try with several clauses, each with a name or without. -/
namespace Sb
open PySem PySem.Spec PyProof.Rows L2
abbrev TSx := Addr → Value → Option Addr → TS
/-- behind a named clause its name is gone -/
def gone (i : Nat) (D : Ends) : Ends := { nx := fun σ H => D.nx (σ.set i none) H, rt := D.rt, bk := fun σ H => D.bk (σ.set i none) H, ct := fun σ H => D.ct (σ.set i none) H }
/-- what a clause asks once it is the one -/
def onCl (nm : Option Nat) (ts : TSx) (D : Ends) : WX := fun cls d σ H => match nm with
  | none => ∀ a, H a = none → ts a cls d D σ H
  | some i => ∀ a, H a = none → ts a cls d (gone i D) (σ.set i (some (.ref a))) H
def wMix (K : PySem.W.Frag) (Wout : WX) (D : Ends) : List (Value × Option Nat × TSx) → WX
  | [] => Wout
  | (c, nm, ts) :: r => fun cls d σ H => ∃ b, PySem.W.exmOne K cls c = some b ∧ (b = true → onCl nm ts D cls d σ H) ∧ (b = false → wMix K Wout D r cls d σ H)
/-- a clause's suite, read in the suite's context -/
abbrev Suite (X : Cx) (b : List Stmt) (ts : TSx) : Prop := ∀ (a : Addr) (oe : Obj) (cls : Value) (d : Option Addr) (pn : List (Addr × Obj)), Zc cls d oe → (∃ vs, oe.data = .fields vs) → PSs (X.suite a ((a, oe) :: pn)) b (ts a cls d)
inductive MixOk (X : Cx) : List ExceptHandler → List (Value × Option Nat × TSx) → Prop
  | nil : MixOk X [] []
  | plain {x : Str} {c : Value} {ts : TSx} {b0 : Stmt} {b : List Stmt} {np p : Pos} {hds : List ExceptHandler} {l : List (Value × Option Nat × TSx)} (hc : Names X x c) (hsu : Suite X (b0 :: b) ts) (r : MixOk X hds l) :
      MixOk X (.ExceptHandler (some (.Name x np)) none (b0 :: b) p :: hds) ((c, none, ts) :: l)
  | named {x n : Str} {i : Nat} {c : Value} {ts : TSx} {b0 : Stmt} {b : List Stmt} {np p : Pos} {hds : List ExceptHandler} {l : List (Value × Option Nat × TSx)} (hi : X.N[i]? = some n) (hln : X.env.kindOf n = some .local) (hc : Names X x c) (hsu : Suite X (b0 :: b) ts) (r : MixOk X hds l) :
      MixOk X (.ExceptHandler (some (.Name x np)) (some n) (b0 :: b) p :: hds) ((c, some i, ts) :: l)
section
variable {X : Cx} {body : List Stmt} {h0 : ExceptHandler} {hds : List ExceptHandler} {l : List (Value × Option Nat × TSx)} {pos : Pos} {tb : WX → TS} {Wout : WX}
theorem ps_try_mix (hs : X.stack = X.env :: X.outer) (hf : X.env.frame = some X.env.locals) (hN : X.N.Nodup) (tk : L2.Takes X Wout)
    (hb : ∀ (W : WX) (pn : List (Addr × Obj)) (xe : Value → Shared → Prop), L2.Takes (X.tr pn xe) W → PassesOwn (model X.prog X.w) X.A X.env xe → PSs (X.tr pn xe) body (tb W)) (hh : MixOk X (h0 :: hds) l) :
    PS X (.Try body (h0 :: hds) [] [] pos) (fun D σ H => tb (wMix X.K Wout D l) D σ H) := by
  constructor
  intro pins s σ H D I h
  have ok := I.ok
  have hfr : X.A.frames = some (X.env :: X.outer) := hs ▸ ok.frames
  let XE : Value → Shared → Prop := fun e s1 => wpAny (model X.prog X.w) X.A (noteFrame e X.env) (fun _ s2 => wpAny (model X.prog X.w) X.A (setFlight e none) (fun _ s3 => wpAny (model X.prog X.w) X.A (handleBy e X.env (h0 :: hds)) (SP X pins D) X.xe s3) X.xe s2) X.xe s1
  have takes : L2.Takes (X.tr (X.pn ++ pins) XE) (wMix X.K Wout D l) := by
    rintro u s' ⟨a, B, sI, pins', σ', H', cls, d, rfl, J', nb, up, sky, na, os, ag, w⟩
    have J : L2.Inv X pins σ' H' sI := J'.ofTry ok
    replace sky : Sky B (X.env :: X.outer) a (Zc cls d) X.env.locals s'.heap := hs ▸ sky
    show wpAny (model X.prog X.w) X.A (noteFrame (.ref a) X.env) _ _ _
    refine Sky.land Zc.steady hfr hf sky fun h3 fl3 up3 => ?_
    have J3 : L2.Inv X pins σ' H' { s' with heap := h3 } := J.landed nb fl3.1 (up.trans up3) os ag
    obtain ⟨oe3, vs3, he3, hz3, hd3⟩ := fl3.there
    have off : a ∉ frs (X.env :: X.outer) := fun hm => by
      obtain ⟨_, o', e', hn⟩ := fl3.2.2.1.mem hm
      rw [he3] at e'
      cases e'
      exact hn _ hd3
    have nL : a ≠ X.env.locals := fun z => off (List.mem_filterMap.mpr ⟨X.env, List.mem_cons_self, z ▸ hf⟩)
    have nF : a ∉ X.fs := fun hm => by
      obtain ⟨e, he, q⟩ := List.mem_filterMap.mp hm
      exact off (List.mem_filterMap.mpr ⟨e, List.mem_cons_of_mem _ he, q⟩)
    have S3 := J3.suite he3 hd3 na nL nF
    have LT : PySem.W.Looks (model X.prog X.w) h3 (typeOf (.ref a)) cls := fun A Q E s k q => wpAny_typeOf_ref (k _ _ he3) (hz3.1 ▸ q)
    -- the clause's class is read
    have test : ∀ {x : Str} {c : Value} {np : Pos} {Q : Value → Shared → Prop} {E : Value → Shared → Prop}, Names X x c → Q c { s' with heap := h3 } → wpAny (model X.prog X.w) (X.A.mark (some (.ref a))) (eval (.Name x np) X.env) Q E { s' with heap := h3 } := by
      rintro x c np Q E ⟨hg, hdb, hm | ⟨hm, hv, hnn⟩⟩ q
      · exact ld_glob (X := X.suite a ((a, oe3) :: (X.pn ++ pins))) S3 hg hm q hdb
      · exact ld_blt (X := X.suite a ((a, oe3) :: (X.pn ++ pins))) S3 hg hm hv q hnn hdb
    have go : ∀ {hds' : List ExceptHandler} {l' : List (Value × Option Nat × TSx)}, MixOk X hds' l' → wMix X.K Wout D l' cls d σ' H' → wpAny (model X.prog X.w) X.A (handleBy (.ref a) X.env hds') (SP X pins D) X.xe { s' with heap := h3 } := by
      intro hds' l' hk
      induction hk with
      | nil =>
        intro w
        apply wpAny_handleBy_nil
        obtain ⟨k1, k2, k3, oe, vs, T, oT, ts', he, hz, hd, h1, hr⟩ := id fl3
        unfold PySem.passOn
        refine wpAny_bind (wpAny_field he hd h1 ?_)
        rw [if_neg (show ¬ ((Value.ref T == Value.none) = true) by simp)]
        have out : wpAny (model X.prog X.w) X.A (setFlight (.ref a) X.env.frame) (fun _ s4 => wpAny (model X.prog X.w) X.A (throw (.ref a) : Sem Flow) (SP X pins D) X.xe s4) X.xe { s' with heap := h3 } := by
          rw [hf]
          refine HandSPX.setFlight_upZ fl3 fun h4 hh4 up4 => wpAny_throw (tk _ _ ⟨a, B, sI, pins, σ', H', cls, d, rfl, J, nb, (up.trans up3).trans up4, .inr (.inr ?_), na, os, ag, w⟩)
          rw [hs]
          exact hh4
        first | exact wpAny_bind (wpAny_pure (wpAny_bind out)) | exact wpAny_bind out
      | @plain x c ts b0 b np p hds2 l2 hc hsu r ih =>
        rintro ⟨k, hk1, yes, no⟩
        refine wpAny_handleBy_cons (codeAny_handlers_test ?_) (fun q => by cases q)
        refine test hc ((PySem.W.exm_one (M := model X.prog X.w) J3.kIn LT hk1).here ?_)
        cases k with
        | false => exact ih (no rfl)
        | true =>
          refine codeAny_handlers_suite (HandSPX.lands_againZ fl3 fun h4 fl4 up4 => ?_)
          have J4 : L2.Inv X pins σ' H' { s' with heap := h4 } := J.landed nb fl4.1 ((up.trans up3).trans up4) os ag
          obtain ⟨oe4, vs4, he4, hz4, hd4⟩ := fl4.there
          refine wpAny_mono ((hsu a oe4 cls d (X.pn ++ pins) hz4 ⟨_, hd4⟩).run [] _ _ H' _ (J4.suite he4 hd4 na nL nF) (yes rfl a na)) ?_ (fun _ _ z => z.elim)
          intro f s6 hsp
          match f, hsp with
          | .next, ⟨σ6, H6, S6, q6⟩ => exact ⟨_, _, S6.unsuite ok, q6⟩
          | .brk, ⟨σ6, H6, S6, q6⟩ => exact ⟨_, _, S6.unsuite ok, q6⟩
          | .cont, ⟨σ6, H6, S6, q6⟩ => exact ⟨_, _, S6.unsuite ok, q6⟩
          | .ret u, ⟨v6, σ6, H6, S6, r6, q6⟩ => exact ⟨_, _, _, S6.unsuite ok, r6, q6⟩
      | @named x n i c ts b0 b np p hds2 l2 hi hln hc hsu r ih =>
        rintro ⟨k, hk1, yes, no⟩
        refine wpAny_handleBy_cons (codeAny_handlers_test ?_) (fun q => by cases q)
        refine test hc ((PySem.W.exm_one (M := model X.prog X.w) J3.kIn LT hk1).here ?_)
        cases k with
        | false => exact ih (no rfl)
        | true =>
          refine codeAny_handlers_suite_as (HandSPX.lands_againZ fl3 fun h4 fl4 up4 => ?_)
          have J4 : L2.Inv X pins σ' H' { s' with heap := h4 } := J.landed nb fl4.1 ((up.trans up3).trans up4) os ag
          obtain ⟨oe4, vs4, he4, hz4, hd4⟩ := fl4.there
          refine store_ok (X := X.suite a ((a, oe4) :: (X.pn ++ pins))) (v := .ref a) (J4.suite he4 hd4 na nL nF) hN hi (.inl hln) rfl (fun s5 S5 => ?_) (.inr hln)
          refine wpAny_mono ((hsu a oe4 cls d (X.pn ++ pins) hz4 ⟨_, hd4⟩).run [] s5 _ H' _ S5 (yes rfl a na)) ?_ (fun _ _ z => z.elim)
          intro f s6 hsp
          match f, hsp with
          | .next, ⟨σ6, H6, S6, q6⟩ => exact gone_ok (S6.unsuite ok) hN hi hln fun s7 J7 => ⟨_, _, J7, q6⟩
          | .brk, ⟨σ6, H6, S6, q6⟩ => exact gone_ok (S6.unsuite ok) hN hi hln fun s7 J7 => ⟨_, _, J7, q6⟩
          | .cont, ⟨σ6, H6, S6, q6⟩ => exact gone_ok (S6.unsuite ok) hN hi hln fun s7 J7 => ⟨_, _, J7, q6⟩
          | .ret u, ⟨v6, σ6, H6, S6, r6, q6⟩ => exact gone_ok (S6.unsuite ok) hN hi hln fun s7 J7 => ⟨_, _, _, J7, r6, q6⟩
    exact go hh w
  refine wpAny_Try_except (wpAny_mono ((hb (wMix X.K Wout D l) (X.pn ++ pins) XE takes PassesOwn.looking).run [] s σ H D (I.toTry _) h) ?_ (fun e s1 he => he))
  intro f s1 hsp
  match f, hsp with
  | .next, ⟨σ', H', J', q⟩ => exact wpAny_execs_nil ⟨σ', H', J'.ofTry ok, q⟩
  | .brk, ⟨σ', H', J', q⟩ => exact ⟨σ', H', J'.ofTry ok, q⟩
  | .cont, ⟨σ', H', J', q⟩ => exact ⟨σ', H', J'.ofTry ok, q⟩
  | .ret u, ⟨v, σ', H', J', r, q⟩ => exact ⟨v, σ', H', J'.ofTry ok, r, q⟩
end
end Sb

/-! sorted(d, key=f) over a dict whose keys are tuples; f gives rows of ints. -/
namespace Sb
open PySem PySem.Spec PyProof.Rows L2
open PySem.W (EachIs KeyPure KeepsBut dataLe AllAlike Sortable)
abbrev KRow := List Key × Addr × Value
/-- the keys in the order of their ranks -/
def srt (rank : List Key → List Int) (ks : List (List Key)) : List (List Key) := ks.mergeSort fun a b => decide (rank a ≤ rank b)
/-- key tuples, at these addresses -/
def IsKs (H : Hp) (ks : List (List Key)) (bs : List Addr) : Prop := Paired (fun k b => H b = some (.tup (k.map kV))) ks bs
/-- f is a function that gives a key tuple its rank -/
structure KeyFn (X : Cx) (f : Addr) (rank : List Key → List Int) (ok : List Key → Prop) : Prop where
  run : ∀ (s : Shared) (A : Around) (a : Addr) (its : List Value) (k : List Key), X.K.In s.heap → s.heap.Ns mainGlobals X.mg → s.heap.NoLimit → A.depth + 1 < recursionLimit → A.handled = none → ok k → Vals (k.map kV) its →
    IsTup s.heap a its.toArray → wpAny (model X.prog X.w) A (call (.ref f) [.ref a]) (KeyPure (.tuple ((rank k).map .int)) s) (fun _ _ => False) s
  some_ : ∀ k, ∃ x r, rank k = x :: r
  same : ∀ a b, (rank a).length = (rank b).length
theorem each_refs : ∀ ks : List KRow, EachIs (fun (v : Value) (x : KRow) => v = .ref x.2.1) (ks.map fun x => Value.ref x.2.1) ks
  | [] => .nil
  | _ :: r => .cons rfl (each_refs r)
theorem refs_each : ∀ {out : List Value} {ks : List KRow}, EachIs (fun (v : Value) (x : KRow) => v = .ref x.2.1) out ks → out = (ks.map fun x => x.2.1).map Value.ref
  | _, _, .nil => rfl
  | _, _, .cons h t => by
    rw [List.map_cons, List.map_cons, ← refs_each t, h]
theorem isKs_of {H : Hp} : ∀ {ks : List KRow}, (∀ x ∈ ks, H x.2.1 = some (.tup (x.1.map kV))) → IsKs H (ks.map (·.1)) (ks.map fun x => x.2.1)
  | [], _ => .nil
  | x :: r, h => .cons (h x List.mem_cons_self) (isKs_of fun y hy => h y (List.mem_cons_of_mem _ hy))
theorem kt_mem {H : Hp} {kvs : List (List Key × V)} {xs : List KRow} (r : KT H kvs xs) : kvs.map (·.1) = xs.map (·.1) ∧ ∀ x ∈ xs, H x.2.1 = some (.tup (x.1.map kV)) := by
  induction r with
  | nil => exact ⟨rfl, fun _ h => by cases h⟩
  | @cons a b l1 l2 h t ih =>
    refine ⟨by rw [List.map_cons, List.map_cons, h.1, ih.1], fun x hx => ?_⟩
    rcases List.mem_cons.mp hx with rfl | hx
    · rw [← h.1]
      exact h.2.1
    · exact ih.2 x hx
theorem alike_rows : ∀ (xs ys : List Int), PySem.W.alike (.tuple (xs.map .int)) (.tuple (ys.map .int)) = true := fun xs ys => PySem.W.alike_ints xs ys
theorem le_rows (rank : List Key → List Int) : dataLe false (fun x : KRow => PyData.tuple ((rank x.1).map .int)) = fun p q => decide (rank p.1 ≤ rank q.1) := by
  have e := PySem.W.dataLe_rows (β := KRow) (fun x => rank x.1)
  rw [← e]
  funext p q
  rfl
/-- sorted(d, key=f) -/
def rSortT (f : Addr) (rank : List Key → List Int) (ok : List Key → Prop) : List V → List V → Hp → VK → Prop := fun xs zs H Q => ∃ (d : Addr) (kvs : List (List Key × V)), xs = [.ref d] ∧ zs = [.ref f] ∧ H d = some (.dT kvs) ∧ (∀ k ∈ kvs.map (·.1), ok k) ∧
  ∀ p bs, H p = none → IsKs H (srt rank (kvs.map (·.1))) bs → Q (.ref p) (upd H p (.lst (bs.map V.ref)))
theorem call_sortT {X : Cx} {f : Addr} {rank : List Key → List Int} {ok : List Key → Prop} {k0 : Nat} (hc : X.calm = true) (hr : Room (k0 + 1) X.A) (F : KeyFn X f rank ok) : CallRK X (.builtin "sorted") ["key"] (rSortT f rank ok) := by
  intro pins s σ H xs zs us ws Q I r rz h
  obtain ⟨d, kvs, rfl, rfl, hd, hok, q⟩ := h
  obtain ⟨u, rfl, rx⟩ := vals1 r
  obtain ⟨u2, rfl, rx2⟩ := vals1 rz
  obtain rfl : u = Value.ref d := rx
  obtain rfl : u2 = Value.ref f := rx2
  obtain ⟨z, lo, ks, pr, o, es, ep, ho, hx, hdt, he, hn⟩ := (show ObjOk X.prog X.w H s.heap d (.dT kvs) from I.hok d _ hd)
  have l1 : es.size = ks.length := size_of_entries he
  obtain ⟨ek, hks⟩ := kt_mem pr
  have l2 : kvs.length = ks.length := Paired.length pr
  show wpAny _ _ (call (.builtin "sorted") [.ref d] [(Str.ofString "key", .ref f)]) _ _ _
  refine PyProof.Rows.call_function_entry_kw PyProof.Rows.kind_sorted PyProof.Rows.plain_sorted PyProof.Rows.entry_sorted (PyProof.Rows.ksk_s1 _ _) ?_
  unfold Builtin.«sorted»
  refine wpAny_bind (m := checkCount "sorted" 1 1 _) ?_
  apply wpAny_pure
  refine wpAny_bind (PySem.W.kdu_collect (A := X.A.in1) (kdl_raw lo hx hdt) (I.ok.hd hc) ho (by omega) fun h' tk acc kp it => ?_)
  have ea : acc.toList = ks.map fun x => Value.ref x.2.1 := by
    apply List.ext_getElem?
    intro j
    have la : acc.toList.length = ks.length := by
      rw [Array.length_toList, it.1, l1]
    rw [List.getElem?_map]
    by_cases hj : j < ks.length
    · have e1 : acc.toList[j]? = some acc.toList[j] := List.getElem?_eq_getElem (by omega)
      obtain ⟨en, hen, hv⟩ := it.2 j _ ((Array.getElem?_toList).symm.trans e1)
      have e2 := entry_at he j
      rw [hen, List.getElem?_eq_getElem hj] at e2
      have e3 : en = entryOfKey (tupleKind (mixKind X.prog X.w)) ks[j] := Option.some.inj e2
      rw [e1, hv, e3, List.getElem?_eq_getElem hj]
      rfl
    · rw [List.getElem?_eq_none (by omega), List.getElem?_eq_none (by omega)]
      rfl
  have la : acc.toList.length = ks.length := by rw [ea, List.length_map]
  have I1 : Inv X pins σ H { s with heap := h', toks := tk } := I.kept kp
  refine wpAny_bind (wpAny_newList ?_ (by omega))
  have hoL : (h'.push (seqObj "list" acc.toList.toArray 0)).get? h'.objs.size = some (seqObj "list" acc.toList.toArray 0) := Heap.get?_push_size _ rfl
  have up : ∀ c o, h'.get? c = some o → (h'.push (seqObj "list" acc.toList.toArray 0)).get? c = some o := fun c o e => Heap.get?_push_of_some _ e
  show wpAny _ _ _ _ _ { s with heap := h'.push (seqObj "list" acc.toList.toArray 0), toks := tk }
  refine wpAny_bind (wpAny_holding (wpAny_call_entry_kw PyProof.Rows.slot_list_sort ⟨_, hoL, rfl⟩ PyProof.Rows.entry_list_sort ?body (PyProof.Rows.ksk_l1 _ _)))
  rw [PyProof.Rows.ksk_t1]
  have each : EachIs (fun (v : Value) (x : KRow) => v = .ref x.2.1) acc.toList ks := by rw [ea]; exact each_refs ks
  have ne : ∀ {c : Addr} {o : Obj}, h'.get? c = some o → c ≠ h'.objs.size := fun e => Nat.ne_of_lt (Heap.lt_size e)
  refine PySem.W.keyH_tree (kz := ks.map fun x => PyData.tuple ((rank x.1).map .int)) (s := { s with heap := h'.push (seqObj "list" acc.toList.toArray 0), toks := tk }) hoL (by rw [List.length_map, la]) (by omega)
    (AllAlike.of fun a b => alike_rows _ _) (Sortable.tuples fun b => ?_) ?_ (PySem.W.keyH_turns (s := { s with heap := h'.push (seqObj "list" acc.toList.toArray 0), toks := tk }) each fun v x hR hxk h2 tk2 kp2 => ?_) fun h3 tk3 out c kp3 hD ko => ?_
  · obtain ⟨x, r, e⟩ := F.some_ b.1
    exact ⟨_, _, by rw [e]; rfl⟩
  · intro dd hdd
    obtain ⟨x, _, rfl⟩ := List.mem_map.mp hdd
    have dp : PyData.depth (.tuple ((rank x.1).map PyData.int)) = 1 := by
      show PyData.depthAll _ + 1 = 1
      rw [PySem.W.depth_ints]
    rw [dp]
    have := hr.un
    show X.A.units + 1 + 1 + 1 < cLine
    omega
  · rw [hR]
    obtain ⟨_, its, rv, it1⟩ := (show ObjOk X.prog X.w H h' x.2.1 (.tup (x.1.map kV)) from I1.hok _ _ (hks x hxk))
    have k2 : ∀ c o, h'.get? c = some o → h2.get? c = some o := fun c o e => kp2 c o (ne e) (up c o e)
    refine F.run { s with heap := h2, toks := tk2 } _ x.2.1 its x.1 (I1.kIn.keeps k2) ((I1.mod.glob.keeps I1.bk).keeps k2) (I1.nolimit.keeps k2) ?_ ?_ (hok _ (by rw [ek]; exact List.mem_map.mpr ⟨x, hxk, rfl⟩)) rv ?_
    · have := hr.dp
      show X.A.depth + 1 < recursionLimit
      omega
    · exact I.ok.hd hc
    · obtain ⟨ob, h1, r⟩ := it1
      exact ⟨ob, k2 _ _ h1, r⟩
  · have eo := PySem.W.keyedOut_each (fun x : KRow => PyData.tuple ((rank x.1).map .int)) ko each
    have lo2 := ko.length (by rw [List.length_map, la])
    rw [le_rows] at eo
    have er := refs_each eo
    have hmem : ∀ x ∈ ks.mergeSort (fun p q => decide (rank p.1 ≤ rank q.1)), H x.2.1 = some (.tup (x.1.map kV)) := fun x hx => hks x ((List.mergeSort_perm ks _).mem_iff.mp hx)
    have em : (ks.mergeSort (fun p q => decide (rank p.1 ≤ rank q.1))).map (·.1) = srt rank (kvs.map (·.1)) := by
      unfold srt
      rw [ek]
      exact List.map_mergeSort fun a _ b _ => rfl
    have isk := isKs_of hmem
    rw [em] at isk
    have keep3 : ∀ b o, h'.get? b = some o → h3.get? b = some o := fun b o e => kp3 b o (ne e) (up b o e)
    have rv : Vals (((ks.mergeSort (fun p q => decide (rank p.1 ≤ rank q.1))).map fun x => x.2.1).map V.ref) out := by
      rw [er]
      exact vals_refs _
    have hz : (((ks.mergeSort (fun p q => decide (rank p.1 ≤ rank q.1))).map fun x => x.2.1).map V.ref).length ≤ sizeLine := by
      rw [rv.length]
      omega
    refine ⟨_, rfl, ?_⟩
    apply wpAny_pure
    refine ⟨_, rfl, .ref h'.objs.size, _, I1.laid (t' := tk3) (o := .lst (((ks.mergeSort (fun p q => decide (rank p.1 ≤ rank q.1))).map fun x => x.2.1).map V.ref)) keep3 (Nat.le_refl _) ⟨hz, out, c, rv, hD⟩, rfl, q _ _ (I1.hok.fresh (Nat.le_refl _)) isk⟩
end Sb

/-! {k: v for x in ..} with tuples for keys. -/
namespace Sb
open PySem PySem.Spec PyProof.Rows L2
section
variable {X : Cx} {pins : List (Addr × Obj)} {σ : L2.St} {H : Hp}
/-- D[k] = v, k the tuple at b -/
theorem putT_ok {s : Shared} {E : Value → Shared → Prop} {D b : Addr} {kvs : List (List Key × V)} {k : List Key} {v : V} {r : Value} {Q : Unit → Shared → Prop} (hu : X.A.units + 1 < cLine) (I : L2.Inv X pins σ H s) (hD : H D = some (.dT kvs)) (hb : H b = some (.tup (k.map kV))) (hz : kvs.length < sizeLine)
    (rv : RelV v r) (want : ∀ s', L2.Inv X pins σ (upd H D (.dT (putK kvs k v))) s' → Q () s') : wpAny (model X.prog X.w) X.A (dictSet D (.ref b) r) Q E s := by
  obtain ⟨z, low, xs, rel, dd⟩ := dt_of I.hok hD
  have l1 : xs.length ≤ sizeLine := Paired.length rel ▸ z
  have l2 := length_putK kvs k v
  refine wpAny_dictSet_heap (hsz := l1) ?room (key_of I.hok hb) dd fun h' dd' but => want _ ?_
  case room => show X.A.units < cLine; omega
  obtain ⟨q, es, ep, g1, g2, g3, g4, _, g5⟩ := dd'
  refine d_write I (by rw [hD]; trivial) but ⟨q, g1⟩ ⟨by omega, low, _, (rel.put k hb rv).keeps fun c ys ec => ?_, q, es, ep, g1, g2, g3, g4, g5⟩
  rw [upd_ne (ne_of ec hD fun z => nomatch z)]
  exact ec
end
/-- what the turns are to show; D: the new dict -/
def DcW (J : It) (g : TG) (tt : TT) (tk tv : TE) (vs : List Nat) (σ : L2.St) (D : Addr) (Qd : Hp → Prop) (H0 : Hp) : Prop := ∃ W : Nat → Nat → Hp → Prop, (∃ m, W 0 m H0) ∧ ∀ i m H, W i m H →
  (J.stop i H ∧ Qd H) ∨ (J.go i H ∧ ∃ Nx : Hp → Prop, (∀ H', Nx H' → ∃ m', m' < m ∧ W (i + 1) m' H') ∧ ∀ x H', J.yld i H x H' → g x (wipe σ vs) H' fun σ2 H2 => wipe σ2 vs = wipe σ vs ∧ tt σ2 H2 fun b H3 =>
    if b = true then tk σ2 H3 fun y H4 => tv σ2 H4 fun z H5 => ∃ kvs k t, y = .ref t ∧ H5 t = some (.tup (k.map kV)) ∧ H5 D = some (.dT kvs) ∧ kvs.length < sizeLine ∧ Nx (upd H5 D (.dT (putK kvs k z))) else Nx H3)
def tDcT (wi : TI) (g : TG) (tt : TT) (tk tv : TE) (vs : List Nat) : TE := fun σ H Q => wi σ H fun J H1 => ∀ D, H1 D = none → DcW J g tt tk tv vs σ D (Q (.ref D)) (upd H1 D (.dT []))
section
variable {X : Cx} {kx vx tg iter : Expr} {ifs : List Expr} {scope : Scope} {own : List (Str × Nat)} {pos : Pos} {wi : TI} {g : TG} {tt : TT} {tk tv : TE}
theorem pe_dcT (hc : X.calm = true) (hN : X.N.Nodup) (hu : X.A.units + 1 < cLine) (hi : PI X tg iter wi) (ok : BlkOk X.N X.env.scope scope own) (hg : ∀ (s : Shared) (H : Hp) (C : Addr) (cl : List (Str × Addr)) (fp : List Addr), PG (X.blk s H scope (compEnvC scope cl C X.env) fp) tg g) (ht : ∀ (s : Shared) (H : Hp) (C : Addr) (cl : List (Str × Addr)) (fp : List Addr), PTs (X.blk s H scope (compEnvC scope cl C X.env) fp) ifs tt) (hk : ∀ (s : Shared) (H : Hp) (C : Addr) (cl : List (Str × Addr)) (fp : List Addr), PE (X.blk s H scope (compEnvC scope cl C X.env) fp) kx tk)
    (hv : ∀ (s : Shared) (H : Hp) (C : Addr) (cl : List (Str × Addr)) (fp : List Addr), PE (X.blk s H scope (compEnvC scope cl C X.env) fp) vx tv) (hs : ∀ x, foldedSetIterable iter X.env x = pure x := by intro _; rfl) : PE X (.DictComp kx vx [⟨tg, iter, ifs, 0⟩] scope pos) (tDcT wi g tt tk tv (own.map (·.2))) := by
  constructor
  intro pins s σ H Q I h
  rw [arm_eval_DictComp]
  have closed : ∀ y ∈ scope.names, y.2 = .free → ∃ c, X.env.cells.lookup y.1 = some c := by
    intro y hy e
    exact (ok.free y hy e).elim (fun k => I.ok.has _ (.inl k)) (fun k => I.ok.has _ (.inr k))
  refine wpAny_comprehension_free rfl hs (closure_ok closed) ok.kind (fun y hy e => by rw [ok.uniq y hy, e]) ?_
  refine thn (hi.run pins s σ H _ I h) fun xv s1 hx => thn hx ?_
  rintro itv s2 ⟨it, fp, tn, J, H2, rfl, I2, T, st2, f2, q⟩
  refine wpAny_newObj_type (newEnv_comp ?_)
  generalize eD : s2.heap.objs.size = D
  have nD : H2 D = none := I2.hok.fresh (Nat.le_of_eq eD)
  obtain ⟨W, ⟨m0, w0⟩, turn⟩ := q D nD
  -- D is laid
  generalize es3 : ({ s2 with heap := s2.heap.push { cls := .type "dict", data := .dict #[] } } : Shared) = s3
  have h3 : s3.heap = s2.heap.push { cls := .type "dict", data := .dict #[] } := by
    rw [← es3]
  generalize eH3 : upd H2 D (.dT []) = H3 at w0
  have I3 : L2.Inv X pins σ H3 s3 := by
    have lay := I2.laid (t' := s2.toks) (h' := s2.heap.push { cls := .type "dict", data := .dict #[] }) (fun b o e => Heap.get?_push_of_some _ e) (Nat.le_of_eq eD) (eD ▸ dt_empty s2.heap I2.big)
    rw [← es3, ← eH3]
    exact lay
  have small : ∀ b ∈ fp, b < s2.heap.objs.size := by
    intro b hb
    obtain ⟨o, e, _⟩ := T.obj _ _ st2 b hb
    exact Heap.lt_size e
  have f3 : ∀ b ∈ fp, FpOk X pins H3 b ∧ b < s3.heap.objs.size := by
    intro b hb
    have lt := small b hb
    constructor
    · refine ⟨?_, (f2 b hb).2⟩
      rw [← eH3, upd_ne (eD ▸ Nat.ne_of_lt lt)]
      exact (f2 b hb).1
    · rw [h3, Heap.size_push]
      exact Nat.lt_succ_of_lt lt
  have n3 : ∀ b ∈ fp, H3 b = none := fun b hb => (f3 b hb).1.1
  have st3 : tn 0 s3.heap := by
    refine T.keep _ _ _ st2 ?_
    rw [h3]
    exact fun b _ o e => Heap.get?_push_of_some _ e
  have I4 := block_start I3 ok hN f3
  show codeAny _ _ (.compStart (.DictComp kx vx [⟨tg, iter, ifs, 0⟩] scope pos) 0 (.ref it) (.ref D) (compEnvC scope (cellsFrom (s3.heap.objs.size + 1) scope.names (cloFrom X.env.cells scope.names [])) s3.heap.objs.size X.env)) (compPost (model X.prog X.w) X.A X.xe none _ (.ref D) s3.heap.objs.size) { s3 with heap := pushCells (s3.heap.push { cls := .type "dict", data := .dict #[] }) scope.names }
  have bg := hg s3 H3 s3.heap.objs.size (cellsFrom (s3.heap.objs.size + 1) scope.names (cloFrom X.env.cells scope.names [])) fp
  have bt := ht s3 H3 s3.heap.objs.size (cellsFrom (s3.heap.objs.size + 1) scope.names (cloFrom X.env.cells scope.names [])) fp
  have bk := hk s3 H3 s3.heap.objs.size (cellsFrom (s3.heap.objs.size + 1) scope.names (cloFrom X.env.cells scope.names [])) fp
  have bv := hv s3 H3 s3.heap.objs.size (cellsFrom (s3.heap.objs.size + 1) scope.names (cloFrom X.env.cells scope.names [])) fp
  generalize ece : compEnvC scope (cellsFrom (s3.heap.objs.size + 1) scope.names (cloFrom X.env.cells scope.names [])) s3.heap.objs.size X.env = ce at I4 bg bt bk bv ⊢
  have cL : ce.locals = s3.heap.objs.size := ece ▸ rfl
  generalize es4 : ({ s3 with heap := pushCells (s3.heap.push { cls := .type "dict", data := .dict #[] }) scope.names } : Shared) = s4 at I4 ⊢
  have st4 : tn 0 s4.heap := by
    refine T.keep _ _ _ st3 fun b _ o e => ?_
    rw [← es4]
    exact pushCells_keeps _ _ _ _ (Heap.get?_push_of_some _ e)
  have stat : ∀ {σ' : L2.St} {H' : Hp} {s' : Shared}, L2.Inv (X.blk s3 H3 scope ce fp) [] σ' H' s' → (∀ b ∈ fp, H' b = none) → ∀ b ∈ fp, FpOk (X.blk s3 H3 scope ce fp) [] H' b := by
    intro σ' H' s' J' hn b hb
    refine ⟨hn b hb, (J'.ok.exf b hb).1, J'.ok.exfs b hb, .inl hb, (J'.ok.exf b hb).2, fun p hp => ?_⟩
    have z : p ∈ ([] : List (Addr × Obj)) ++ [] := hp
    simp at z
  -- the loop's state
  let At : Nat → Shared → Prop := fun n s' => ∃ i H', L2.Inv (X.blk s3 H3 scope ce fp) [] (wipe σ (own.map (·.2))) H' s' ∧ tn i s'.heap ∧ (∀ b ∈ fp, H' b = none) ∧ W i n H'
  have loop : codeAny (model X.prog X.w) X.A (.compLoop (.DictComp kx vx [⟨tg, iter, ifs, 0⟩] scope pos) 0 (.ref it) (.ref D) ce) (compPost (model X.prog X.w) X.A X.xe none (EP X pins σ Q) (.ref D) s3.heap.objs.size) s4 := by
    refine compLoop_anyD At ?_ m0 ⟨0, H3, I4, st4, n3, w0⟩
    rintro n s5 ⟨i, H5, I5, st5, n5, w5⟩
    rcases turn i n H5 w5 with ⟨stop, done⟩ | ⟨go, Nx, hNx, step⟩
    · refine thnF (T.done (X.blk s3 H3 scope ce fp) rfl rfl rfl hc i [] s5 _ H5 (fun _ _ => False) I5 (stat I5 n5) st5 stop) ?_
      rintro r s6 ⟨rfl, I6⟩
      have I7 : L2.Inv X pins σ H5 s6 := by
        refine I3.call' (ch := fp) I6.os I6.base I6.hok I6.bare fun b hb => ?_
        have z := (f3 b hb).1.2
        exact ⟨z.2.2.1, z.1, z.2.2.2.1, z.2.2.2.2⟩
      have free := I6.free
      rw [show (X.blk s3 H3 scope ce fp).env.locals = s3.heap.objs.size from cL] at free
      obtain ⟨m, hn, _⟩ := I6.loc
      have hn : s6.heap.Ns ce.locals m := hn
      rw [cL] at hn
      refine ⟨m, hn, fun h'' sb => ?_⟩
      obtain ⟨g0, g1, g2, g3, g4, g5⟩ := I3.fpOk (Nat.le_refl _) free
      exact ⟨.ref D, H5, I7.turned (t' := s6.toks) (fun b o hb e => (sb.2 b hb).trans e) g0 g1 g3 g4 g5, rfl, done⟩
    · refine thnF (T.item (X.blk s3 H3 scope ce fp) rfl rfl rfl hc i [] s5 _ H5 (fun _ _ => False) I5 (stat I5 n5) st5 go) ?_
      rintro r s6 ⟨u, rfl, go6⟩
      refine thnF go6 ?_
      rintro _ s7 ⟨x, H7, I7, r7, y7, st7, n7⟩
      refine thnF (bg.run _ s7 _ H7 x u _ (I7.pinned (stat I7 n7) (T.obj _ _ st7)) r7 (step x H7 y7)) ?_
      rintro _ s8 ⟨σ8, H8, I8, hw8, q8⟩
      refine thnF (bt.run _ s8 σ8 H8 _ I8 q8) ?_
      rintro b s9 ⟨H9, I9, q9⟩
      have next : ∀ {s' : Shared} {H' : Hp}, L2.Inv (X.blk s3 H3 scope ce fp) ([] ++ pinsAt fp s7.heap) σ8 H' s' → Nx H' → ∃ m, m < n ∧ At m s' := by
        intro s' H' J' nx
        obtain ⟨m', lt, w'⟩ := hNx H' nx
        have pinned : ∀ b ∈ fp, ∀ o, s7.heap.get? b = some o → s'.heap.get? b = some o ∧ H' b = none := by
          intro b hb o e
          have z := J'.pin (b, o) (List.mem_append_right _ (List.mem_append_right _ (mem_pinsAt hb e)))
          exact ⟨z.1, z.2.1⟩
        refine ⟨m', lt, i + 1, H', (J'.unpinned (pins := [])).weak ?_ ?_, T.keep _ _ _ st7 fun b hb o e => (pinned b hb o e).1, ?_, w'⟩
        · rw [← hw8, wipe_length]
        · intro j v e
          rw [← hw8] at e
          exact (wipe_some e).1
        · intro b hb
          obtain ⟨o, e, _⟩ := T.obj _ _ st7 b hb
          exact (pinned b hb o e).2
      cases b with
      | false => exact next I9 q9
      | true =>
        refine thnF (bk.run _ s9 σ8 H9 _ I9 q9) ?_
        rintro z1 s10 ⟨yk, H10, I10, r10, q10⟩
        refine thnF (bv.run _ s10 σ8 H10 _ I10 q10) ?_
        rintro z2 s11 ⟨yv, H11, I11, r11, kvs, k, t, rfl, ht11, hD11, lt11, nx⟩
        obtain rfl : z1 = Value.ref t := r10
        exact putT_ok (X := X.blk s3 H3 scope ce fp) hu I11 hD11 ht11 lt11 r11 fun s12 I12 => next I12 nx
  exact codeAny_compStart_dict loop (T.self X.A 0 _ _ _ st4 loop)
end
theorem dcT_list {K : PySem.W.Frag} {a : Addr} {xs : List V} {g : TG} {tt : TT} {tk tv : TE} {vs : List Nat} {σ : L2.St} {H0 : Hp} {D : Addr} {Qd : Hp → Prop} (Pv : Nat → Hp → Prop) (h0 : Pv 0 H0) (hl : ∀ i H, Pv i H → SqL K H a xs)
    (hs : ∀ i x H, xs[i]? = some x → Pv i H → g x (wipe σ vs) H fun σ2 H2 => wipe σ2 vs = wipe σ vs ∧ tt σ2 H2 fun b H3 =>
      if b = true then tk σ2 H3 fun y H4 => tv σ2 H4 fun z H5 => ∃ kvs k t, y = .ref t ∧ H5 t = some (.tup (k.map kV)) ∧ H5 D = some (.dT kvs) ∧ kvs.length < sizeLine ∧ Pv (i + 1) (upd H5 D (.dT (putK kvs k z))) else Pv (i + 1) H3) (hd : ∀ H, Pv xs.length H → Qd H) :
    DcW (Itl K a) g tt tk tv vs σ D Qd H0 := by
  refine ⟨fun i m H => m + i = xs.length ∧ Pv i H, ⟨xs.length, rfl, h0⟩, fun i m H ⟨hm, p⟩ => ?_⟩
  have q := hl i H p
  cases m with
  | zero =>
    have e : i = xs.length := by omega
    subst e
    exact .inl ⟨⟨xs, q, Nat.le_refl _⟩, hd H p⟩
  | succ m =>
    have h1 : i < xs.length := by omega
    have hx := List.getElem?_eq_getElem h1
    refine .inr ⟨⟨xs, _, q, hx⟩, Pv (i + 1), fun H' p' => ⟨m, Nat.lt_succ_self m, by omega, p'⟩, ?_⟩
    rintro v H' ⟨rfl, f1⟩
    exact hs i v _ (f1 xs q) p
end Sb

/-! x == text, x of any kind but a dict. -/
namespace Sb
open PySem PySem.Spec PyProof.Rows L2
def isStrD (d : PyData) (z : Str) : Bool := match d with
  | .str y => y == z
  | _ => false
def isDctD : PyData → Bool
  | .dict _ => true
  | _ => false
def rEqS : R2 := fun x y H Q => ∃ p d z, LD p H x d ∧ isDctD d = false ∧ y = .str z ∧ Q (.bl (isStrD d z)) H
theorem op_eqS {X : Cx} (hu : X.A.units + 64 < cLine) : OpR X (compareOp .Eq) rEqS := by
  intro pins s σ H x y v u Q I rx ry h
  obtain ⟨p, d, z, hx, hd, rfl, q⟩ := h
  obtain ⟨tz, rfl⟩ := ry
  have fin : ∀ {b : Bool}, SeqAt.RcAt X.A s v (.str z tz) b → Q (.bl b) H → wpAny (model X.prog X.w) X.A (compareOp .Eq v (.str z tz)) (EP X pins σ Q) X.xe s := fun r g => r X.prog X.w X.xe _ ⟨.bl _, H, I, rfl, g⟩
  cases hx with
  | non =>
    cases rx
    exact fin (SeqAt.RcAt.none_str _ _) q
  | bl b =>
    cases rx
    exact fin (SeqAt.RcAt.bool_str _ _ _) q
  | int i =>
    obtain ⟨t, rfl⟩ := rx
    exact fin (SeqAt.RcAt.int_str _ _ _ _) q
  | str y =>
    obtain ⟨t, rfl⟩ := rx
    exact fin (SeqAt.RcAt.str_str _ _ _ _) q
  | tup n e r =>
    cases rx
    obtain ⟨its, rv, pl, _⟩ := I.tuple (SqT.of e)
    exact fin (SeqAt.RcAt.tuple_str _ _ pl (by omega)) q
  | lst n m e r =>
    cases rx
    obtain ⟨its, rv, pl, _⟩ := I.list (SqL.of e)
    exact fin (SeqAt.RcAt.list_str _ _ pl.isList (by omega)) q
  | dic n e => cases hd
  | dct n e => cases hd
/-- [e, ..], where it lies -/
def tLstB (t : TA) : TE := fun σ H Q => t σ H fun xs H1 => xs.length ≤ sizeLine ∧ ∀ p, H1 p = none → p ≠ sysModules → Q (.ref p) (upd H1 p (.lst xs))
theorem pe_lstB {X : Cx} {es : List Expr} {pos : Pos} {t : TA} (h : PA X es t) : PE X (.List es pos) (tLstB t) := by
  constructor
  intro pins s σ H Q I hq
  refine wpAny_List_spliced (thn (h.run pos pins s σ H _ I hq) ?_)
  rintro us s1 ⟨xs, H1, I1, r, z, q⟩
  refine ⟨r.length ▸ z, .ref s1.heap.objs.size, _, I1.laid (t' := s1.toks) (o := .lst xs) (fun b u e => Heap.get?_push_of_some _ e) (Nat.le_refl _) ⟨z, us, 0, r, Heap.get?_push_size _ rfl⟩, rfl, q _ (I1.hok.fresh (Nat.le_refl _)) (Nat.ne_of_gt I1.big)⟩
end Sb

/-! len(set(t)), t a tuple of ints and texts; t.index(n), t a tuple of ints. -/
namespace Sb
open PySem PySem.Spec PyProof.Rows L2
instance memKey (k : Key) (l : List Key) : Decidable (k ∈ l) := @List.instDecidableMemOfLawfulBEq Key instBEqOfDecidableEq inferInstance k l
theorem setOfK_congr {prog : Program} {w : World} {h : Heap} {a : Addr} {S S' : Key → Bool} {n n' : Nat} (hS : h.SetOf (mixKind prog w) a S n) (e : ∀ k, S k = S' k) (en : n = n') : h.SetOf (mixKind prog w) a S' n' := by
  have : S = S' := funext e
  subst this
  subst en
  exact hS
def uniqK (l : List Key) : List Key := l.foldl (fun acc k => if k ∈ acc then acc else acc ++ [k]) []
theorem uniqK_snoc (l : List Key) (x : Key) : uniqK (l ++ [x]) = if x ∈ uniqK l then uniqK l else uniqK l ++ [x] := by
  unfold uniqK
  rw [List.foldl_append]
  rfl
theorem uniqK_len : ∀ (n : Nat) (l : List Key), l.length = n → (uniqK l).length ≤ l.length ∧ (∀ k, k ∈ uniqK l ↔ k ∈ l) ∧ (l.Nodup → uniqK l = l) ∧ ((uniqK l).length = l.length → l.Nodup)
  | 0, l, h => by
    obtain rfl := List.eq_nil_of_length_eq_zero h
    exact ⟨Nat.le_refl _, fun k => Iff.rfl, fun _ => rfl, fun _ => List.nodup_nil⟩
  | n + 1, l, h => by
    have hl : l ≠ [] := by intro e; subst e; cases h
    obtain ⟨r, x, rfl⟩ : ∃ r x, l = r ++ [x] := ⟨l.dropLast, l.getLast hl, (List.dropLast_concat_getLast hl).symm⟩
    have hr : r.length = n := by rw [List.length_append] at h; simpa using h
    obtain ⟨a, b, c, d⟩ := uniqK_len n r hr
    rw [uniqK_snoc]
    by_cases hx : x ∈ uniqK r
    · rw [if_pos hx]
      have hx' := (b x).mp hx
      refine ⟨by rw [List.length_append]; exact Nat.le_trans a (Nat.le_add_right _ _), fun k => ?_, fun nd => ?_, fun e => ?_⟩
      · rw [b k, List.mem_append]
        constructor
        · exact .inl
        · rintro (z | z)
          · exact z
          · rw [List.mem_singleton] at z
            exact z ▸ hx'
      · exact absurd hx' (fun z => (List.nodup_append.mp nd).2.2 x z x List.mem_cons_self rfl)
      · rw [List.length_append, List.length_singleton] at e
        omega
    · rw [if_neg hx]
      have hx' : x ∉ r := fun z => hx ((b x).mpr z)
      refine ⟨by rw [List.length_append, List.length_append]; exact Nat.add_le_add_right a _, fun k => ?_, fun nd => ?_, fun e => ?_⟩
      · rw [List.mem_append, List.mem_append, b k]
      · rw [c (List.nodup_append.mp nd).1]
      · rw [List.length_append, List.length_append] at e
        have nd := d (Nat.add_right_cancel e)
        refine List.nodup_append.mpr ⟨nd, by simp, fun a ha b hb => ?_⟩
        rw [List.mem_singleton] at hb
        subst hb
        rintro rfl
        exact hx' ha
section
variable {prog : Program} {w : World} {A : Around} {R : Result → Shared → Prop} {I : Addr} {fp wr : List Addr} {G : Array GenState → Array GenState → Prop} {n : Nat} {P : Nat → Value → Prop} {St : Nat → Shared → Prop}
theorem loopMix (W : WalksS prog w A.in1 I fp wr G n P St) (S : Addr) (hSf : S ∉ fp) (xs : List Key) (hsz : xs.length = n) (hn1 : n ≤ 50)
    (hval : ∀ i v, P i v → ∃ k, xs[i]? = some k ∧ RelV (kV k) v) :
    ∀ (k i : Nat) (s : Shared), n - i = k → i ≤ n → St i s →
      s.heap.SetOf (mixKind prog w) S (fun k' => decide (k' ∈ uniqK (xs.take i))) (uniqK (xs.take i)).length →
      (∀ s', Moved (S :: wr) G s s' → s'.heap.SetOf (mixKind prog w) S (fun k' => decide (k' ∈ uniqK (xs.take n))) (uniqK (xs.take n)).length → R (.ok (.ret .none)) s') →
      codeAny (model prog w) A (.builtin "set.update.loop" ⟨[.ref S, .ref I], []⟩) R s := by
  have hSw : S ∉ wr := fun h => hSf (W.sub _ h)
  have hsub : ∀ b ∈ wr, b ∈ S :: wr := fun b hb => List.mem_cons_of_mem _ hb
  intro k
  induction k with
  | zero =>
    intro i s hk hi hst hS hR
    have hin : i = n := by omega
    subst hin
    refine codeAny_builtin PyProof.Rows.F.entry_set_update_loop ?_
    rw [Around.under_plainId PyProof.Rows.F.plain_set_update_loop _]
    show wpAny _ A.in1 (pyNext (.ref I) >>= _) _ _ s
    refine wpAny_bind (W.done s _ _ hst fun s' hm => ?_)
    show wpAny _ A.in1 (ret Value.none) _ _ s'
    exact wpAny_pure (hR s' (hm.mono hsub) (by
      obtain ⟨o, es, ep, t, ho, rest⟩ := hS
      exact ⟨o, es, ep, t, hm.heap S _ hSw ho, rest⟩))
  | succ k ih =>
    intro i s hk hi hst hS hR
    have hlt : i < n := by omega
    refine codeAny_builtin PyProof.Rows.F.entry_set_update_loop ?_
    rw [Around.under_plainId PyProof.Rows.F.plain_set_update_loop _]
    show wpAny _ A.in1 (pyNext (.ref I) >>= _) _ _ s
    refine wpAny_bind (W.item i s _ _ hlt hst fun v s' hP hst' hm => ?_)
    obtain ⟨x, hx, rv⟩ := hval i v hP
    have hS' : s'.heap.SetOf (mixKind prog w) S (fun k' => decide (k' ∈ uniqK (xs.take i))) (uniqK (xs.take i)).length := by
      obtain ⟨o, es, ep, tb, ho, rest⟩ := hS
      exact ⟨o, es, ep, tb, hm.heap S _ hSw ho, rest⟩
    show wpAny _ A.in1 (holding [v] (setAdd S v) >>= _) _ _ s'
    refine wpAny_bind (wpAny_holding ?_)
    unfold setAdd
    refine wpAny_holding ?_
    refine wpAny_bind ((mixKind prog w).pyHash (k := x) (kV_is rv) ?_)
    have lu : (uniqK (xs.take i)).length ≤ i := Nat.le_trans (uniqK_len _ _ rfl).1 (by rw [List.length_take]; exact Nat.min_le_left _ _)
    refine wpAny_setAddHashed_of (knd := mixKind prog w) (s := { s' with toks := s'.toks + 1 }) (kV_is rv) (key_scan rv) hS' (by unfold scanBound; omega) fun h' hsb hS2 => ?_
    have hSi : h'.SetOf (mixKind prog w) S (fun k' => decide (k' ∈ uniqK (xs.take (i + 1)))) (uniqK (xs.take (i + 1))).length := by
      have e : xs.take (i + 1) = xs.take i ++ [x] := by rw [List.take_add_one, hx]; rfl
      rw [e, uniqK_snoc]
      refine setOfK_congr hS2 (fun k' => ?_) ?_
      · by_cases h : x ∈ uniqK (xs.take i)
        · rw [if_pos h]
          by_cases e2 : k' = x
          · subst e2; simp [h]
          · simp [e2]
        · rw [if_neg h]
          simp [List.mem_append]
      · by_cases h : x ∈ uniqK (xs.take i)
        · rw [if_pos h, decide_eq_true h]; rfl
        · rw [if_neg h, decide_eq_false h, List.length_append]; rfl
    refine wpAny_pure ⟨plainId_quiet PyProof.Rows.F.plain_set_update_loop _, ih (i + 1) _ (by omega) hlt (W.frame _ s' _ _ hst' (Nat.le_succ _) fun b hb o e => ?_) hSi fun s'' hm'' hS'' => ?_⟩
    · rw [hsb.2 b (fun h : b = S => hSf (by rw [← h]; exact hb))]; exact e
    · refine hR s'' (Moved.trans W.gtrans ((hm.mono hsub).then_heap (Nat.le_succ _) fun b o hb e => ?_) hm'') hS''
      rw [hsb.2 b (fun h : b = S => hb (by rw [h]; exact List.mem_cons_self))]; exact e
end
section
variable {prog : Program} {w : World} {A : Around} {E : Value → Shared → Prop} {s : Shared}
theorem call_set_tupleM {l : Addr} {items : Array Value} {xs : List Key} {Q : Value → Shared → Prop}
    (hh : A.handled = none) (hl : s.heap.IsTuple l items) (hi : Vals (xs.map kV) items.toList) (hn1 : xs.length ≤ 50)
    (h : ∀ (h' : Heap) (tk : Nat), h'.SetOf (mixKind prog w) s.heap.objs.size (fun k' => decide (k' ∈ uniqK (xs.take items.size))) (uniqK (xs.take items.size)).length →
      (∀ b o, b < s.heap.objs.size → s.heap.get? b = some o → h'.get? b = some o) → Q (.ref s.heap.objs.size) { s with heap := h', toks := tk }) :
    wpAny (model prog w) A (call (.type "set") [.ref l]) Q E s := by
  obtain ⟨c, tl, hmro⟩ := PySem.F.called_set.mro
  have hmade := PySem.F.called_set.made
  have hsub := PySem.F.called_set.sub
  refine wpAny_call (codeAny_of_tree ?_)
  show wpAny _ _ (callAny (.type "set") _) _ _ _
  refine wpAny_pure ⟨Code.quiet_builtin _ (by decide +kernel), codeAny_builtin PySem.F.entry_type_call ?_⟩
  rw [Around.under_plain (weight_type_call_type "set" [.ref l] []) rfl]
  have h1 := PySem.F.called_set.notType
  have h2 := PySem.F.called_set.canCreate
  have hct := PySem.F.typeCall_set_1 (.ref l)
  repeat (any_goals (first | assumption | wp_step))
  refine codeAny_mono (code_set_new_1 (.ref l) (E := E) (Q₁ := fun obj s₁ => ∃ led : Bool, obj = .ref s.heap.objs.size ∧ s₁ = { s with heap := s.heap.push { cls := .type "set", dict := none, data := .set #[] 0 (.fresh 0 0 led) } }) fun led => ⟨led, rfl, rfl⟩) fun r s₁ hr => ?_
  cases r with
  | error e => exact hr
  | ok fl =>
    cases fl with
    | ret obj =>
      obtain ⟨led, rfl, rfl⟩ := hr
      have hS : (s.heap.push { cls := .type "set", dict := none, data := .set #[] 0 (.fresh 0 0 led) }).get? s.heap.objs.size = some { cls := .type "set", dict := none, data := .set #[] 0 (.fresh 0 0 led) } := Heap.get?_push_size _ rfl
      have hT : Shared.TypeIs { s with heap := s.heap.push { cls := .type "set", dict := none, data := .set #[] 0 (.fresh 0 0 led) } } (.ref s.heap.objs.size) "set" := ⟨_, hS, rfl⟩
      have hli := PySem.F.called_set.init.lookup
      have hbi := PySem.F.called_set.init.bind (.ref s.heap.objs.size)
      repeat (any_goals (first | assumption | wp_step))
      refine codeAny_mono (codeAny_call_builtin (R := wants (fun r s₂ => r = .none ∧ ∃ h' tk, s₂ = { s with heap := h', toks := tk } ∧
          h'.SetOf (mixKind prog w) s.heap.objs.size (fun k' => decide (k' ∈ uniqK (xs.take items.size))) (uniqK (xs.take items.size)).length ∧
          (∀ b o, b < s.heap.objs.size → s.heap.get? b = some o → h'.get? b = some o)) E) PySem.F.called_set.init.plain PySem.F.entry_set_init (check_set_init_1 hT ?_)) fun r₂ s₂ hr₂ => ?_
      · obtain ⟨ol, hol, hcl, nl, hdl⟩ := hl
        obtain ⟨ocls, odict, odata, oslots⟩ := ol
        simp only at hcl hdl
        subst hcl; subst hdl
        have hol' : (s.heap.push { cls := .type "set", dict := none, data := .set #[] 0 (.fresh 0 0 led) }).get? l = some { cls := .type "tuple", dict := odict, data := .seq items nl, slots := oslots } := Heap.get?_push_of_some _ hol
        have hsls := PySem.F.sub_tuple_set
        have hslf := PySem.F.sub_tuple_frozenset
        have hne : (Value.type "tuple" == Value.type "dict") = false := by decide
        have hl1 : (s.heap.push { cls := .type "set", dict := none, data := .set #[] 0 (.fresh 0 0 led) }).IsTuple l items := ⟨_, hol', rfl, nl, rfl⟩
        unfold Builtin.«set.__init__» noKeywords Builtin.Frozenset.updateFrom
        generalize hPI : pyIter = PI
        wp_walk
        subst hPI
        refine wpAny_pyIter_tuple hl1 ?_
        refine wpAny_bind (wpAny_runValue ?_)
        have hlS : l < s.heap.objs.size := Heap.lt_size hol
        have hh3 : A.in1.in1.in1.handled = none := by simp [hh]
        have hneI : l ≠ (s.heap.push { cls := .type "set", dict := none, data := .set #[] 0 (.fresh 0 0 led) }).objs.size := by
          rw [Heap.size_push]; exact Nat.ne_of_lt (Nat.lt_succ_of_lt hlS)
        have hSf : s.heap.objs.size ∉ [(s.heap.push { cls := .type "set", dict := none, data := .set #[] 0 (.fresh 0 0 led) }).objs.size, l] := by
          rw [Heap.size_push]; simp only [List.mem_cons, List.mem_singleton, List.not_mem_nil, or_false, not_or]
          exact ⟨Nat.ne_of_lt (Nat.lt_succ_self _), Nat.ne_of_gt hlS⟩
        have hsz : xs.length = items.size := by rw [← Array.length_toList, ← hi.length, List.length_map]
        have hval : ∀ (i : Nat) (v : Value), items[i]? = some v → ∃ k, xs[i]? = some k ∧ RelV (kV k) v := fun i v hv => by
          have hlt : i < items.size := (Array.getElem?_eq_some_iff.mp hv).1
          have hlx : i < xs.length := by omega
          refine ⟨xs[i], List.getElem?_eq_getElem hlx, ?_⟩
          obtain ⟨w', hw, rw'⟩ := hi.get (i := i) (x := kV xs[i]) (by rw [List.getElem?_map, List.getElem?_eq_getElem hlx]; rfl)
          rw [Array.getElem?_toList] at hw
          rw [hv] at hw
          cases hw
          exact rw'
        refine loopMix ((Walks.tuple hh3 _ l hneI items).toS) s.heap.objs.size
          hSf xs hsz (by rw [← hsz]; exact hn1) hval (items.size - 0) 0 _ (by omega) (Nat.zero_le _)
          ⟨⟨_, Heap.get?_push_size _ rfl, rfl, rfl⟩, (hl1.push _)⟩ ?hS0 ?hR
        case hS0 =>
          have hget : ((s.heap.push { cls := .type "set", dict := none, data := .set #[] 0 (.fresh 0 0 led) }).push { cls := .type "tuple_iterator", data := .fields #[.ref l, .int 0 0] }).get? s.heap.objs.size
              = some { cls := .type "set", dict := none, data := .set #[] 0 (.fresh 0 0 led) } := Heap.get?_push_of_some _ hS
          exact ⟨_, #[], 0, _, hget, ⟨rfl, rfl, rfl⟩, rfl, (fun e he => by simp at he), (fun k => by simp [uniqK]), (by decide), (by rfl), rfl⟩
        case hR =>
          intro s' hm hS'
          obtain ⟨h', g', d', tk', os'⟩ := s'
          have eg : g' = s.gens := hm.gens
          have ed : d' = s.drawn := hm.drawn
          have eo : os' = s.os := hm.os
          subst eg; subst ed; subst eo
          show wpAny _ _ _ _ _ _
          refine wpAny_pure ?_
          show wpAny _ _ (ret Value.none) _ _ _
          refine wpAny_pure ⟨rfl, h', tk', rfl, hS', fun b o hb e => ?_⟩
          have hb1 : b ≠ s.heap.objs.size := Nat.ne_of_lt hb
          have hb2 : b ≠ (s.heap.push { cls := .type "set", dict := none, data := .set #[] 0 (.fresh 0 0 led) }).objs.size := by
            rw [Heap.size_push]; exact Nat.ne_of_lt (Nat.lt_succ_of_lt hb)
          exact hm.heap b o (by simp only [List.mem_cons, List.mem_singleton, List.not_mem_nil, or_false, not_or]; exact ⟨hb1, hb2⟩) (Heap.get?_push_of_some _ (Heap.get?_push_of_some _ e))
      · cases r₂ with
        | error e => exact hr₂
        | ok fl₂ =>
          cases fl₂ with
          | ret r =>
            obtain ⟨rfl, h', tk, rfl, hS', hk'⟩ := hr₂
            repeat (any_goals (first | assumption | wp_step))
            exact h _ _ hS' hk'
          | _ => exact hr₂.elim
    | _ => exact hr.elim
end
section
variable {X : Cx}
def tLenSetM (ta : TE) : TE := fun σ H Q => ta σ H fun x H1 => ∃ (l : Addr) (xs : List Key), x = .ref l ∧ H1 l = some (.tup (xs.map kV)) ∧ xs.length ≤ 50 ∧ Q (.int (uniqK xs).length) H1
theorem pe_lenSetM {a : Expr} {ta : TE} {p p2 q pos : Pos} (hc : X.calm = true) (hg : Gl X "len") (hm : X.mg "len" = none) (hg2 : Gl X "set") (hm2 : X.mg "set" = none) (ha : PE X a ta)
    (na : starEach [a] X.env = (false, eval a X.env) :: starEach [] X.env := by rfl) : PE X (.Call (.Name "len" p) [.Call (.Name "set" p2) [a] [] q] [] pos) (tLenSetM ta) := by
  refine ⟨fun pins s σ H Q I h => ?_⟩
  refine Call_ (ld_blt I hg hm boot_len ?_)
  refine PyProof.Rows.callWith_builtin1 (PyProof.Rows.args_cons ?_ rfl) rfl rfl
  refine Call_ (ld_blt I hg2 hm2 boot_set ?_)
  refine PyProof.Rows.callWith_type1 (PyProof.Rows.args_cons (thn (ha.run pins s σ H _ I h) fun v s1 ⟨x, H1, I1, r1, q1⟩ => PyProof.Rows.args_nil ?_) na) na rfl
  obtain ⟨l, xs, rfl, hq, h1, q1⟩ := q1
  cases r1
  obtain ⟨its, r, pl, hz⟩ := I1.tuple (SqT.of hq)
  refine call_set_tupleM (I1.ok.hd hc) pl (by simpa using r) h1 fun h' tk hS hk => ?_
  refine PyProof.Rows.args_nil ?_
  have hl : its.toArray.size = xs.length := by rw [List.size_toArray, ← r.length, List.length_map]
  rw [hl, List.take_length] at hS
  obtain ⟨o, es, ep, t, ho, hex, hd, _, _, _, hf, hn⟩ := hS
  have I2 : L2.Inv X pins σ H1 { s1 with heap := h', toks := tk } := I1.kept fun b o e => hk b o (Heap.lt_size e) e
  have lu := (uniqK_len _ xs rfl).1
  refine call_len_set ho hex hd hf (by rw [hn] <;> omega) ⟨.int (uniqK xs).length, H1, I2.tok _, ⟨_, by rw [hn]⟩, q1⟩
/-- t.index(n), the first place -/
def rIdxI (K : PySem.W.Frag) : V → List V → Hp → VK → Prop := fun x xs H Q => ∃ (p : Addr) (ys : List Int) (z : Int) (j : Nat), x = .ref p ∧ xs = [.int z] ∧ SqT K H p (ys.map V.int) ∧ ys[j]? = some z ∧ (∀ m, m < j → ys[m]? ≠ some z) ∧ Q (.int (j : Nat)) H
theorem flat_ints (ys : List Int) : (ys.map V.int).all flatV = true := by
  rw [List.all_map]
  exact List.all_eq_true.mpr fun _ _ => rfl
theorem mt_tup_indexI : MtR X "tuple.index" (rIdxI X.K) := by
  intro pins s σ H x xs v us Q I rx rs h
  obtain ⟨p, ys, z, j, rfl, rfl, hq, hy, hno, q⟩ := h
  cases rx
  obtain ⟨u, rfl, t, rfl⟩ := vals1 rs
  obtain ⟨its, r, pl, hz⟩ := I.tuple hq
  obtain ⟨⟨cls, dd, dt, sl⟩, ho, hc, n, hd⟩ := pl
  simp only at hc hd
  subst hc
  subst hd
  have hl : its.toArray.size = ys.length := by rw [List.size_toArray, ← r.length, List.length_map]
  have hj : j < its.toArray.size := by rw [hl]; exact (List.getElem?_eq_some_iff.mp hy).1
  have at' : ∀ (m : Nat) (hm : m < its.toArray.size), ∃ y t', ys[m]? = some y ∧ its.toArray[m] = Value.int y t' := fun m hm => by
    have hm' : m < ys.length := by rw [← hl]; exact hm
    obtain ⟨w, hw, t', hw'⟩ := r.get (i := m) (x := .int ys[m]) (by simp [hm'])
    refine ⟨ys[m], t', List.getElem?_eq_getElem hm', ?_⟩
    have e := (List.getElem?_eq_some_iff.mp hw).2
    rw [← hw', ← e]
    simp
  refine call_meets PySem.F.slot_tuple_index ⟨_, ho, rfl⟩ PySem.F.entry_tuple_index (PySem.F.args_tuple_index_2 _ _) (TI.tuple_indexAt p its.toArray n dd sl (.int z t) (eqU (.int z)) j hj ?_ ?_)
    ⟨ho, fun w hw => mem_eqAt (x := .int z) ⟨t, rfl⟩ rfl r (flat_ints ys) w (by simpa using hw), ⟨.int (j : Nat), H, I.tok _, ⟨_, rfl⟩, q⟩⟩
  · obtain ⟨y, t', h1, h2⟩ := at' j hj
    rw [hy] at h1
    cases h1
    rw [h2]
    show (z == z) = true
    exact beq_self_eq_true z
  · intro m hm hmj
    obtain ⟨y, t', h1, h2⟩ := at' m hm
    rw [h2]
    show (y == z) = false
    have : y ≠ z := fun e => hno m hmj (by rw [h1, e])
    exact beq_eq_false_iff_ne.mpr this
end
end Sb

/-! t * k for tuples of data, the empty one too. -/
namespace Sb
open PySem PySem.Spec PyProof.Rows L2
theorem tuple_mul0 (l : Addr) (n : Nat) (dd : Option Addr) (sl : Array (Option Value)) (x : Int) (u : Tok) (hx : -(2 ^ 63) ≤ x ∧ x < 2 ^ 63) :
    Meets (Builtin.«tuple.__mul__» ⟨[.ref l, .int x u], []⟩) (fun _ R s => s.heap.get? l = some { cls := .type "tuple", dict := dd, data := .seq #[] n, slots := sl } ∧ R (.ok (.ret (Value.ref l))) s) :=
  .of_wp fun P w A R s h => by
    obtain ⟨hp, g, d, tk, os⟩ := s
    obtain ⟨hl, h⟩ := h
    have f1 := AutoSeq1.idx_int
    have c0 : (decide (x < -(2 ^ 63)) || decide (x ≥ 2 ^ 63)) = false := by
      rw [decide_eq_false (by omega), decide_eq_false (by omega)] <;> rfl
    wp_walk using wpAny_loadPart' hl
    refine wpAny_ite_false (decide_eq_false (by rw [c0]; exact Bool.false_ne_true)) ?_
    wp_walk using wpAny_loadPart' hl
    exact ⟨_, rfl, h⟩
theorem TDs.flat {H : Hp} {xs : List V} {ds : List PyData} (h : TDs H xs ds) : ∀ k, TDs H (List.replicate k xs).flatten (List.replicate k ds).flatten
  | 0 => .nil
  | k + 1 => h.app (h.flat k)
def rMulD : R2 := fun x y H Q => ∃ ds k, TD H x (.tuple ds) ∧ y = .int k ∧ 2 ≤ k ∧ k ≤ 1000 ∧ ds.length ≤ 1000 ∧ ∀ p H', Same H H' → TD H' (.ref p) (.tuple (List.replicate k.toNat ds).flatten) → Q (.ref p) H'
section
variable {X : Cx}
theorem op_mulD : OpR X (binaryOp .Mult) rMulD := by
  intro pins s σ H x y v u Q I rx ry h
  obtain ⟨ds, k, hT, rfl, h1, h2, hz, q⟩ := h
  obtain ⟨l, xs, rfl, hl, hx⟩ := hT.isTup
  have lx := hx.length
  by_cases hne : xs = []
  · subst hne
    cases hx
    cases rx
    obtain ⟨t, rfl⟩ := ry
    obtain ⟨its, r, ⟨⟨cls, dd, data, sl⟩, ho, hc, n, hd⟩, hs⟩ := I.tuple (SqT.of hl)
    cases r
    simp only at hc hd
    subst hc hd
    refine wpAny_binaryOp_repeat_ref (T := "tuple") (U := "int") (by decide) ⟨_, ho, rfl⟩ (fun s' => typeIs_int s' k t) noFill_tuple_mul PySem.F.fills_int_mul PySem.F.slot_int_rmul repeat_tuple PySem.F.slot_int_index.lookup
      (call_meets PySem.F.slot_int_rmul (typeIs_int s k t) PySem.F.entry_int_rmul (PySem.F.args_int_rmul_2 _ _) (int_rmul_tuple k t l #[] n dd sl)
        ⟨ho, rfl, ⟨_, ho, rfl⟩, call_meets PySem.F.slot_tuple_mul ⟨_, ho, rfl⟩ PySem.F.entry_tuple_mul (PySem.F.args_tuple_mul_2 _ _) (tuple_mul0 l n dd sl k t (by omega)) ⟨ho, ?_⟩⟩)
    refine ⟨.ref l, H, I, rfl, q l H (Same.refl H) ?_⟩
    have e : (List.replicate k.toNat ([] : List PyData)).flatten = [] := by simp
    rw [e]
    exact hT
  · exact op_repT pins s σ H _ _ v u Q I rx ry ⟨l, k, xs, rfl, rfl, SqT.of hl, hne, h1, h2, by omega, fun p np => q p _ (same_new np) (.tup upd_same (TDs.mono (Tups.new np) _ (hx.flat k.toNat)))⟩
end
end Sb

/-! Tuples whose object is known to have no dict: their methods may be called. -/
namespace Sb
open PySem PySem.Spec PyProof.Rows L2
section
variable {X : Cx}
/-- (e, ..), its object known -/
def tTupF (t : TA) : TE := fun σ H Q => t σ H fun xs H1 => xs.length ≤ sizeLine ∧ ∀ p ob, H1 p = none → ob.dict = none → Q (.ref p) (upd H1 p (.frz ob (.tup xs)))
theorem pe_tupF {es : List Expr} {x1} {pos : Pos} {t : TA} (h : PA X es t) : PE X (.Tuple es x1 pos) (tTupF t) := by
  refine ⟨fun pins s σ H Q I hq => ?_⟩
  refine wpAny_Tuple_spliced (thn (h.run pos pins s σ H _ I hq) fun us s1 ⟨xs, H1, I1, r, z, q⟩ => ⟨by rw [← r.length]; exact z, ?_⟩)
  have hf : H1 s1.heap.objs.size = none := I1.hok.fresh (Nat.le_refl _)
  refine ⟨.ref s1.heap.objs.size, upd H1 s1.heap.objs.size (.frz { cls := .type "tuple", data := .seq us.toArray } (.tup xs)), I1.laid (t' := s1.toks) (fun b u e => Heap.get?_push_of_some _ e) (Nat.le_refl _) ?_, rfl, q _ _ hf rfl⟩
  exact ⟨Heap.get?_push_size _ rfl, z, us, r, ⟨_, Heap.get?_push_size _ rfl, rfl, _, rfl⟩⟩
/-- tuple(xs) -/
def rTupF (K : PySem.W.Frag) : List V → Hp → VK → Prop := fun xs H Q => ∃ p ys, xs = [.ref p] ∧ SqL K H p ys ∧ ∀ l ob, H l = none → ob.dict = none → Q (.ref l) (upd H l (.frz ob (.tup ys)))
theorem call_tupleF : CallR X (.type "tuple") (rTupF X.K) := by
  intro pins s σ H xs us Q I r h
  obtain ⟨p, ys, rfl, hq, q⟩ := h
  obtain ⟨u, rfl, rx⟩ := vals1 r
  cases rx
  obtain ⟨its, r', pl, hz⟩ := I.list hq
  have hlen := r'.length
  refine call_tuple_list pl.isList (fun h' kp => ?_) (by simp only [List.size_toArray] <;> omega)
  have I1 : L2.Inv X pins σ H { s with heap := h' } := I.kept (t' := s.toks) kp
  have I2 : L2.Inv X pins σ (upd H h'.objs.size (.frz { cls := .type "tuple", data := .seq its.toArray } (.tup ys))) { s with heap := h'.push { cls := .type "tuple", data := .seq its.toArray } } :=
    I1.laid (t' := s.toks) (fun b o e => Heap.get?_push_of_some _ e) (Nat.le_refl _) (show ObjOk X.prog X.w _ _ _ (.frz _ (.tup ys)) from ⟨Heap.get?_push_size _ rfl, hz, its, r', IsTup.new _ _⟩)
  exact ⟨.ref h'.objs.size, _, I2, rfl, q _ _ (I1.hok.fresh (Nat.le_refl _)) rfl⟩
/-- t.m(e, ..) -/
def tBMT (r : V → List V → Hp → VK → Prop) (to : TE) (t : TA) : TE := fun σ H Q => to σ H fun x H1 => (∃ p ob xs, x = V.ref p ∧ H1 p = some (.frz ob (.tup xs)) ∧ ob.dict = none) ∧ t σ H1 fun xs H2 => r x xs H2 Q
variable {o e : Expr} {es : List Expr} {to : TE} {t : TA} {name : Str} {apos cpos : Pos} {id : String} {r : V → List V → Hp → VK → Prop}
theorem pe_bmT (pa : PlainAttrs "tuple") (slot : Slot "tuple" name id) (hty : typeOf (.builtin id) = pure (.type "method_descriptor")) (hm : MtR X id r) (ho : PE X o to) (ha : PA X (e :: es) t)
    (hbase : attributeBase o name X.env (eval o X.env) = eval o X.env := by rfl)
    (hfew : ((backTo cpos (starEach (e :: es) X.env)).all (fun x => !x.1) && (backToKw cpos (keywordEach [] X.env)).all (fun x => x.1.isSome)
      && decide ((e :: es).length + ([] : List Keyword).length + (if ([] : List Keyword).isEmpty then 0 else 1) < 30)) = true := by rfl)
    (hline : (apos.endLine == cpos.line) = true := by rfl) (hs : starEach (e :: es) X.env = (false, eval e X.env) :: starEach es X.env := by rfl) (hplain : (backTo cpos (starEach es X.env)).any (·.1) = false := by rfl) :
    PE X (.Call (.Attribute o name apos) (e :: es) [] cpos) (tBMT r to t) := by
  refine ⟨fun pins s σ H Q I h => ?_⟩
  refine wpAny_Call_method_late hbase hfew hline rfl (thn (ho.run pins s σ H _ I h) fun v s1 ⟨x, H1, I1, r1, ⟨p, ob, xs, ex, hp, hd⟩, q1⟩ => ?_)
  subst ex
  obtain rfl : v = Value.ref p := r1
  obtain ⟨g, z, its, rv, o', ho', hc, n, hdat⟩ := (show ObjOk X.prog X.w H1 s1.heap p (.frz ob (.tup xs)) from I1.hok p _ hp)
  have eo : o' = ob := by
    rw [g] at ho'
    exact (Option.some.inj ho').symm
  subst eo
  refine ⟨"tuple", id, pa, slot, hty, ⟨o', g, hc⟩, fun a e2 => ?_, ?_⟩
  · cases e2
    exact ⟨o', g, hd⟩
  have hA := ha.run cpos pins s1 σ H1 _ I1 q1
  rw [hs] at hA ⊢
  refine Calls.callWith_builtin (by show (false || (backTo cpos (starEach es X.env)).any (·.1)) = false; rw [hplain] <;> rfl) (Calls.evalArgs_plain ?_)
  exact thn hA fun us s2 ⟨vs, H2, I2, r2, q2⟩ => hm pins s2 σ H2 (.ref p) vs (.ref p) us Q I2 rfl r2 q2
end
/-- held values, in order, at a -/
def HT (H : Hp) (a : Addr) (ns : List Int) : Prop := ∃ ob, H a = some (.frz ob (.tup (ns.map V.int))) ∧ ob.dict = none
theorem HT.sq {K : PySem.W.Frag} {H : Hp} {a : Addr} {ns : List Int} (h : HT H a ns) : SqT K H a (ns.map V.int) := by
  obtain ⟨ob, e, _⟩ := h
  exact .inl (.inr ⟨ob, e⟩)
theorem HT.mono {H H' : Hp} {a : Addr} {ns : List Int} (h : HT H a ns) (s : Same H H') : HT H' a ns := by
  obtain ⟨ob, e, d⟩ := h
  exact ⟨ob, s _ _ e, d⟩
theorem HT.ty {H : Hp} {a : Addr} {ns : List Int} (h : HT H a ns) : ∃ p ob xs, V.ref a = V.ref p ∧ H p = some (.frz ob (.tup xs)) ∧ ob.dict = none := by
  obtain ⟨ob, e, d⟩ := h
  exact ⟨a, ob, _, rfl, e, d⟩
theorem inV_ints (v : Int) : ∀ ns : List Int, inV (.int v) (ns.map V.int) = decide (v ∈ ns)
  | [] => rfl
  | n :: r => by
    have ih := inV_ints v r
    unfold inV at ih ⊢
    rw [List.map_cons, List.any_cons, ih]
    by_cases h : n = v
    · subst h
      simp [eqV]
    · have h' : ¬ v = n := fun e => h e.symm
      simp [eqV, h, h', List.mem_cons]
end Sb

/-! Numbered streams: the mathematics. -/
namespace Sb
open PySem PySem.Spec PyProof.Rows L2
def grow (names : List Int) (v : Int) : List Int := if v ∈ names then names else names ++ [v]
def numGo : List Int → List (Int × Int) → List (Int × Int)
  | _, [] => []
  | names, m :: r => (m.1, ((grow names m.2).idxOf m.2 : Nat)) :: numGo (grow names m.2) r
def numb (ms : List (Int × Int)) : List (Int × Int) := numGo [] ms
def seen (names : List Int) (ms : List (Int × Int)) : List Int := ms.foldl (fun n m => grow n m.2) names
theorem numGo_len : ∀ (ms : List (Int × Int)) (names : List Int), (numGo names ms).length = ms.length
  | [], _ => rfl
  | m :: r, names => by simp only [numGo, List.length_cons, numGo_len r]
theorem numb_len (ms : List (Int × Int)) : (numb ms).length = ms.length := numGo_len ms []
theorem numGo_snoc : ∀ (ms : List (Int × Int)) (names : List Int) (m : Int × Int), numGo names (ms ++ [m]) = numGo names ms ++ [(m.1, (((grow (seen names ms) m.2).idxOf m.2 : Nat) : Int))]
  | [], _, _ => rfl
  | x :: r, names, m => by
    simp only [List.cons_append, numGo, numGo_snoc r (grow names x.2) m]
    rfl
theorem numGo_take : ∀ (ms : List (Int × Int)) (names : List Int) (n : Nat), numGo names (ms.take n) = (numGo names ms).take n
  | [], _, n => by simp [numGo]
  | x :: r, names, 0 => by simp [numGo]
  | x :: r, names, n + 1 => by simp only [List.take_succ_cons, numGo, numGo_take r]
theorem numb_take (ms : List (Int × Int)) (n : Nat) : numb (ms.take n) = (numb ms).take n := numGo_take ms [] n
theorem seen_snoc (ms : List (Int × Int)) (names : List Int) (m : Int × Int) : seen names (ms ++ [m]) = grow (seen names ms) m.2 := by
  unfold seen
  rw [List.foldl_append]
  rfl
theorem grow_len (names : List Int) (v : Int) : (grow names v).length ≤ names.length + 1 := by
  unfold grow
  split
  · omega
  · simp
theorem seen_len : ∀ (ms : List (Int × Int)) (names : List Int), (seen names ms).length ≤ names.length + ms.length
  | [], names => Nat.le_refl _
  | m :: r, names => by
    have h := seen_len r (grow names m.2)
    have g := grow_len names m.2
    show (seen (grow names m.2) r).length ≤ _
    rw [List.length_cons]
    omega
theorem mem_grow (names : List Int) (v : Int) : v ∈ grow names v := by
  unfold grow
  split
  · assumption
  · simp
theorem idx_append {names : List Int} {v : Int} (h : v ∈ names) (t : List Int) : (names ++ t).idxOf v = names.idxOf v := by
  induction names with
  | nil => cases h
  | cons x r ih =>
    simp only [List.cons_append, List.idxOf_cons]
    by_cases e : x == v
    · simp [e]
    · rcases List.mem_cons.mp h with rfl | h
      · simp at e
      · simp [e, ih h]
theorem idx_new {names : List Int} {v : Int} (h : v ∉ names) : (names ++ [v]).idxOf v = names.length := by
  induction names with
  | nil => simp
  | cons x r ih =>
    have hx : ¬ x = v := fun e => h (by rw [e]; exact List.mem_cons_self)
    have hr : v ∉ r := fun e => h (List.mem_cons_of_mem _ e)
    simp only [List.cons_append, List.idxOf_cons, List.length_cons]
    rw [ih hr]
    have e1 : (x == v) = false := by simpa using hx
    rw [e1]
    rfl
theorem idx_lt {names : List Int} {v : Int} (h : v ∈ names) : names.idxOf v < names.length := List.idxOf_lt_length_iff.mpr h
/-! renaming -/
theorem idx_map {f : Int → Int} (hf : ∀ x y, f x = f y → x = y) (v : Int) : ∀ names : List Int, (names.map f).idxOf (f v) = names.idxOf v
  | [] => by simp
  | x :: r => by
    simp only [List.map_cons, List.idxOf_cons, idx_map hf v r]
    by_cases e : x = v
    · subst e; simp
    · have : ¬ f x = f v := fun z => e (hf _ _ z)
      have e1 : (x == v) = false := by simpa using e
      have e2 : (f x == f v) = false := by simpa using this
      rw [e1, e2]
theorem mem_map_inj {f : Int → Int} (hf : ∀ x y, f x = f y → x = y) {v : Int} {names : List Int} : f v ∈ names.map f ↔ v ∈ names := by
  constructor
  · intro h
    obtain ⟨u, hu, e⟩ := List.mem_map.mp h
    rw [← hf _ _ e]
    exact hu
  · intro h
    exact List.mem_map.mpr ⟨v, h, rfl⟩
theorem grow_map {f : Int → Int} (hf : ∀ x y, f x = f y → x = y) (names : List Int) (v : Int) : grow (names.map f) (f v) = (grow names v).map f := by
  unfold grow
  by_cases h : v ∈ names
  · rw [if_pos h, if_pos ((mem_map_inj hf).mpr h)]
  · rw [if_neg h, if_neg (fun z => h ((mem_map_inj hf).mp z)), List.map_append]
    rfl
theorem numGo_map {f : Int → Int} (hf : ∀ x y, f x = f y → x = y) : ∀ (ms : List (Int × Int)) (names : List Int), numGo (names.map f) (ms.map fun m => (m.1, f m.2)) = numGo names ms
  | [], _ => rfl
  | m :: r, names => by
    simp only [List.map_cons, numGo, grow_map hf, idx_map hf, numGo_map hf r]
theorem numb_map {f : Int → Int} (hf : ∀ x y, f x = f y → x = y) (ms : List (Int × Int)) : numb (ms.map fun m => (m.1, f m.2)) = numb ms := numGo_map hf ms []
/-! numbered twice -/
def iot (k : Nat) : List Int := (List.range k).map (fun i : Nat => (i : Int))
theorem iot_succ (k : Nat) : iot (k + 1) = iot k ++ [(k : Int)] := by
  unfold iot
  rw [List.range_succ, List.map_append]
  rfl
theorem mem_iot {j k : Nat} : (j : Int) ∈ iot k ↔ j < k := by
  unfold iot
  rw [List.mem_map]
  constructor
  · rintro ⟨a, ha, e⟩
    have := List.mem_range.mp ha
    omega
  · intro h
    exact ⟨j, List.mem_range.mpr h, rfl⟩
theorem idx_iot : ∀ {k j : Nat}, j < k → (iot k).idxOf (j : Int) = j
  | 0, _, h => absurd h (Nat.not_lt_zero _)
  | k + 1, j, h => by
    rw [iot_succ]
    by_cases e : j < k
    · rw [idx_append (mem_iot.mpr e), idx_iot e]
    · have : j = k := by omega
      subst this
      rw [idx_new (fun z => Nat.lt_irrefl _ (mem_iot.mp z))]
      simp [iot]
theorem iot_len (k : Nat) : (iot k).length = k := by simp [iot]
theorem numGo_idem : ∀ (ms : List (Int × Int)) (names : List Int), numGo (iot names.length) (numGo names ms) = numGo names ms
  | [], _ => rfl
  | m :: r, names => by
    by_cases h : m.2 ∈ names
    · have e : grow names m.2 = names := if_pos h
      have hl := idx_lt h
      have g : grow (iot names.length) (names.idxOf m.2 : Nat) = iot names.length := if_pos (mem_iot.mpr hl)
      simp only [numGo, e, g, idx_iot hl, numGo_idem r names]
    · have e : grow names m.2 = names ++ [m.2] := if_neg h
      have g : grow (iot names.length) ((names.length : Nat) : Int) = iot (names.length + 1) := by
        rw [iot_succ]
        exact if_neg (fun z => Nat.lt_irrefl _ (mem_iot.mp z))
      have ih := numGo_idem r (names ++ [m.2])
      rw [List.length_append] at ih
      simp only [numGo, e, idx_new h, g, idx_iot (Nat.lt_succ_self _)]
      exact congrArg _ ih
theorem numb_idem (ms : List (Int × Int)) : numb (numb ms) = numb ms := by
  have h := numGo_idem ms []
  exact h
theorem numGo_mem : ∀ (ms : List (Int × Int)) (names : List Int) (m : Int × Int), m ∈ numGo names ms → 0 ≤ m.2 ∧ m.2 < names.length + ms.length ∧ ∃ x ∈ ms, x.1 = m.1
  | [], _, _, h => by cases h
  | x :: r, names, m, h => by
    rcases List.mem_cons.mp h with rfl | h
    · refine ⟨by omega, ?_, x, List.mem_cons_self, rfl⟩
      have := idx_lt (mem_grow names x.2)
      have := grow_len names x.2
      rw [List.length_cons]
      show ((List.idxOf x.2 (grow names x.2) : Nat) : Int) < _
      omega
    · obtain ⟨a, b, y, hy, e⟩ := numGo_mem r (grow names x.2) m h
      have := grow_len names x.2
      refine ⟨a, ?_, y, List.mem_cons_of_mem _ hy, e⟩
      rw [List.length_cons]
      omega
theorem numb_short {ms : List (Int × Int)} (h : Short ms) (hl : ms.length ≤ 100000) : Short (numb ms) := by
  intro m hm
  obtain ⟨a, b, x, hx, e⟩ := numGo_mem ms [] m hm
  refine ⟨?_, ?_⟩
  · rw [← e]
    exact (h x hx).1
  · have : m.2 < 100000 + 1 := by simp at b; omega
    omega
/-! the dict of numbers -/
def DN (kvs : List (Key × V)) (names : List Int) : Prop := kvs.length = names.length ∧ ∀ v : Int, valV kvs (Sum.inl v : Key) = if v ∈ names then some (.int (names.idxOf v : Nat)) else none
theorem DN.nil : DN [] [] := ⟨rfl, fun v => by rw [if_neg (by simp)]; rfl⟩
theorem DN.in {kvs : List (Key × V)} {names : List Int} (h : DN kvs names) {v : Int} (hv : v ∈ names) : valV kvs (Sum.inl v : Key) = some (.int (names.idxOf v : Nat)) := by rw [h.2, if_pos hv]
theorem DN.out {kvs : List (Key × V)} {names : List Int} (h : DN kvs names) {v : Int} (hv : v ∉ names) : valV kvs (Sum.inl v : Key) = none := by rw [h.2, if_neg hv]
theorem DN.put {kvs : List (Key × V)} {names : List Int} (h : DN kvs names) {v : Int} (hv : v ∉ names) : DN (putK kvs (Sum.inl v : Key) (.int (kvs.length : Nat))) (names ++ [v]) := by
  refine ⟨?_, fun u => ?_⟩
  · rw [putK_new _ (h.out hv), List.length_append, List.length_append, h.1]
    rfl
  · rw [valV_put]
    by_cases e : u = v
    · subst e
      rw [if_pos rfl, if_pos (by simp), idx_new hv, h.1]
    · rw [if_neg (fun z => e (Sum.inl.inj z)), h.2]
      by_cases hu : u ∈ names
      · rw [if_pos hu, if_pos (List.mem_append_left _ hu), idx_append hu]
      · rw [if_neg hu, if_neg]
        intro z
        rcases List.mem_append.mp z with z | z
        · exact hu z
        · simp at z
          exact e z
end Sb

/-! len(set(xs)), xs a list of ints and texts. -/
namespace Sb
open PySem PySem.Spec PyProof.Rows L2
section
variable {prog : Program} {w : World} {A : Around} {E : Value → Shared → Prop} {s : Shared}
theorem call_set_listM {l : Addr} {items : Array Value} {xs : List Key} {Q : Value → Shared → Prop}
    (hh : A.handled = none) (hl : s.heap.IsList l items) (hi : Vals (xs.map kV) items.toList) (hn1 : xs.length ≤ 50)
    (h : ∀ (h' : Heap) (tk : Nat), h'.SetOf (mixKind prog w) s.heap.objs.size (fun k' => decide (k' ∈ uniqK (xs.take items.size))) (uniqK (xs.take items.size)).length →
      (∀ b o, b < s.heap.objs.size → s.heap.get? b = some o → h'.get? b = some o) → Q (.ref s.heap.objs.size) { s with heap := h', toks := tk }) :
    wpAny (model prog w) A (call (.type "set") [.ref l]) Q E s := by
  obtain ⟨c, tl, hmro⟩ := PySem.F.called_set.mro
  have hmade := PySem.F.called_set.made
  have hsub := PySem.F.called_set.sub
  refine wpAny_call (codeAny_of_tree ?_)
  show wpAny _ _ (callAny (.type "set") _) _ _ _
  refine wpAny_pure ⟨Code.quiet_builtin _ (by decide +kernel), codeAny_builtin PySem.F.entry_type_call ?_⟩
  rw [Around.under_plain (weight_type_call_type "set" [.ref l] []) rfl]
  have h1 := PySem.F.called_set.notType
  have h2 := PySem.F.called_set.canCreate
  have hct := PySem.F.typeCall_set_1 (.ref l)
  repeat (any_goals (first | assumption | wp_step))
  refine codeAny_mono (code_set_new_1 (.ref l) (E := E) (Q₁ := fun obj s₁ => ∃ led : Bool, obj = .ref s.heap.objs.size ∧ s₁ = { s with heap := s.heap.push { cls := .type "set", dict := none, data := .set #[] 0 (.fresh 0 0 led) } }) fun led => ⟨led, rfl, rfl⟩) fun r s₁ hr => ?_
  cases r with
  | error e => exact hr
  | ok fl =>
    cases fl with
    | ret obj =>
      obtain ⟨led, rfl, rfl⟩ := hr
      have hS : (s.heap.push { cls := .type "set", dict := none, data := .set #[] 0 (.fresh 0 0 led) }).get? s.heap.objs.size = some { cls := .type "set", dict := none, data := .set #[] 0 (.fresh 0 0 led) } := Heap.get?_push_size _ rfl
      have hT : Shared.TypeIs { s with heap := s.heap.push { cls := .type "set", dict := none, data := .set #[] 0 (.fresh 0 0 led) } } (.ref s.heap.objs.size) "set" := ⟨_, hS, rfl⟩
      have hli := PySem.F.called_set.init.lookup
      have hbi := PySem.F.called_set.init.bind (.ref s.heap.objs.size)
      repeat (any_goals (first | assumption | wp_step))
      refine codeAny_mono (codeAny_call_builtin (R := wants (fun r s₂ => r = .none ∧ ∃ h' tk, s₂ = { s with heap := h', toks := tk } ∧
          h'.SetOf (mixKind prog w) s.heap.objs.size (fun k' => decide (k' ∈ uniqK (xs.take items.size))) (uniqK (xs.take items.size)).length ∧
          (∀ b o, b < s.heap.objs.size → s.heap.get? b = some o → h'.get? b = some o)) E) PySem.F.called_set.init.plain PySem.F.entry_set_init (check_set_init_1 hT ?_)) fun r₂ s₂ hr₂ => ?_
      · obtain ⟨ol, hol, hcl, nl, hdl⟩ := hl
        obtain ⟨ocls, odict, odata, oslots⟩ := ol
        simp only at hcl hdl
        subst hcl; subst hdl
        have hol' : (s.heap.push { cls := .type "set", dict := none, data := .set #[] 0 (.fresh 0 0 led) }).get? l = some { cls := .type "list", dict := odict, data := .seq items nl, slots := oslots } := Heap.get?_push_of_some _ hol
        have hsls := PySem.F.sub_list_set
        have hslf := PySem.F.sub_list_frozenset
        have hne : (Value.type "list" == Value.type "dict") = false := by decide
        have hl1 : (s.heap.push { cls := .type "set", dict := none, data := .set #[] 0 (.fresh 0 0 led) }).IsList l items := ⟨_, hol', rfl, nl, rfl⟩
        unfold Builtin.«set.__init__» noKeywords Builtin.Frozenset.updateFrom
        generalize hPI : pyIter = PI
        wp_walk
        subst hPI
        refine wpAny_pyIter_list hl1 ?_
        refine wpAny_bind (wpAny_runValue ?_)
        have hlS : l < s.heap.objs.size := Heap.lt_size hol
        have hh3 : A.in1.in1.in1.handled = none := by simp [hh]
        have hneI : l ≠ (s.heap.push { cls := .type "set", dict := none, data := .set #[] 0 (.fresh 0 0 led) }).objs.size := by
          rw [Heap.size_push]; exact Nat.ne_of_lt (Nat.lt_succ_of_lt hlS)
        have hSf : s.heap.objs.size ∉ [(s.heap.push { cls := .type "set", dict := none, data := .set #[] 0 (.fresh 0 0 led) }).objs.size, l] := by
          rw [Heap.size_push]; simp only [List.mem_cons, List.mem_singleton, List.not_mem_nil, or_false, not_or]
          exact ⟨Nat.ne_of_lt (Nat.lt_succ_self _), Nat.ne_of_gt hlS⟩
        have hsz : xs.length = items.size := by rw [← Array.length_toList, ← hi.length, List.length_map]
        have hval : ∀ (i : Nat) (v : Value), items[i]? = some v → ∃ k, xs[i]? = some k ∧ RelV (kV k) v := fun i v hv => by
          have hlt : i < items.size := (Array.getElem?_eq_some_iff.mp hv).1
          have hlx : i < xs.length := by omega
          refine ⟨xs[i], List.getElem?_eq_getElem hlx, ?_⟩
          obtain ⟨w', hw, rw'⟩ := hi.get (i := i) (x := kV xs[i]) (by rw [List.getElem?_map, List.getElem?_eq_getElem hlx]; rfl)
          rw [Array.getElem?_toList] at hw
          rw [hv] at hw
          cases hw
          exact rw'
        refine loopMix ((Walks.list hh3 _ l hneI items).toS) s.heap.objs.size
          hSf xs hsz (by rw [← hsz]; exact hn1) hval (items.size - 0) 0 _ (by omega) (Nat.zero_le _)
          ⟨⟨_, Heap.get?_push_size _ rfl, rfl, rfl⟩, (hl1.push _)⟩ ?hS0 ?hR
        case hS0 =>
          have hget : ((s.heap.push { cls := .type "set", dict := none, data := .set #[] 0 (.fresh 0 0 led) }).push { cls := .type "list_iterator", data := .fields #[.ref l, .int 0 0] }).get? s.heap.objs.size
              = some { cls := .type "set", dict := none, data := .set #[] 0 (.fresh 0 0 led) } := Heap.get?_push_of_some _ hS
          exact ⟨_, #[], 0, _, hget, ⟨rfl, rfl, rfl⟩, rfl, (fun e he => by simp at he), (fun k => by simp [uniqK]), (by decide), (by rfl), rfl⟩
        case hR =>
          intro s' hm hS'
          obtain ⟨h', g', d', tk', os'⟩ := s'
          have eg : g' = s.gens := hm.gens
          have ed : d' = s.drawn := hm.drawn
          have eo : os' = s.os := hm.os
          subst eg; subst ed; subst eo
          show wpAny _ _ _ _ _ _
          refine wpAny_pure ?_
          show wpAny _ _ (ret Value.none) _ _ _
          refine wpAny_pure ⟨rfl, h', tk', rfl, hS', fun b o hb e => ?_⟩
          have hb1 : b ≠ s.heap.objs.size := Nat.ne_of_lt hb
          have hb2 : b ≠ (s.heap.push { cls := .type "set", dict := none, data := .set #[] 0 (.fresh 0 0 led) }).objs.size := by
            rw [Heap.size_push]; exact Nat.ne_of_lt (Nat.lt_succ_of_lt hb)
          exact hm.heap b o (by simp only [List.mem_cons, List.mem_singleton, List.not_mem_nil, or_false, not_or]; exact ⟨hb1, hb2⟩) (Heap.get?_push_of_some _ (Heap.get?_push_of_some _ e))
      · cases r₂ with
        | error e => exact hr₂
        | ok fl₂ =>
          cases fl₂ with
          | ret r =>
            obtain ⟨rfl, h', tk, rfl, hS', hk'⟩ := hr₂
            repeat (any_goals (first | assumption | wp_step))
            exact h _ _ hS' hk'
          | _ => exact hr₂.elim
    | _ => exact hr.elim
end
section
variable {X : Cx}
def tLenSetL (K : PySem.W.Frag) (ta : TE) : TE := fun σ H Q => ta σ H fun x H1 => ∃ (l : Addr) (xs : List Key), x = .ref l ∧ SqL K H1 l (xs.map kV) ∧ xs.length ≤ 50 ∧ Q (.int (uniqK xs).length) H1
theorem pe_lenSetL {a : Expr} {ta : TE} {p p2 q pos : Pos} (hc : X.calm = true) (hg : Gl X "len") (hm : X.mg "len" = none) (hg2 : Gl X "set") (hm2 : X.mg "set" = none) (ha : PE X a ta)
    (na : starEach [a] X.env = (false, eval a X.env) :: starEach [] X.env := by rfl) : PE X (.Call (.Name "len" p) [.Call (.Name "set" p2) [a] [] q] [] pos) (tLenSetL X.K ta) := by
  refine ⟨fun pins s σ H Q I h => ?_⟩
  refine Call_ (ld_blt I hg hm boot_len ?_)
  refine PyProof.Rows.callWith_builtin1 (PyProof.Rows.args_cons ?_ rfl) rfl rfl
  refine Call_ (ld_blt I hg2 hm2 boot_set ?_)
  refine PyProof.Rows.callWith_type1 (PyProof.Rows.args_cons (thn (ha.run pins s σ H _ I h) fun v s1 ⟨x, H1, I1, r1, q1⟩ => PyProof.Rows.args_nil ?_) na) na rfl
  obtain ⟨l, xs, rfl, hq, h1, q1⟩ := q1
  cases r1
  obtain ⟨its, r, pl, hz⟩ := I1.list hq
  refine call_set_listM (I1.ok.hd hc) pl.isList (by simpa using r) h1 fun h' tk hS hk => ?_
  refine PyProof.Rows.args_nil ?_
  have hl : its.toArray.size = xs.length := by rw [List.size_toArray, ← r.length, List.length_map]
  rw [hl, List.take_length] at hS
  obtain ⟨o, es, ep, t, ho, hex, hd, _, _, _, hf, hn⟩ := hS
  have I2 : L2.Inv X pins σ H1 { s1 with heap := h', toks := tk } := I1.kept fun b o e => hk b o (Heap.lt_size e) e
  have lu := (uniqK_len _ xs rfl).1
  refine call_len_set ho hex hd hf (by rw [hn] <;> omega) ⟨.int (uniqK xs).length, H1, I2.tok _, ⟨_, by rw [hn]⟩, q1⟩
end
end Sb

/-! Dicts with tuple keys: against the empty one, shown, displayed; a dict against a text. -/
namespace Sb
open PySem PySem.Spec PyProof.Rows L2
section
variable {prog : Program} {w : World} {A : Around} {E : Value → Shared → Prop} {s : Shared}
theorem samePairs_empty {nm : String} {a b : Addr} {oa ob : Obj} {es es' : Array DictEntry} {ep ep' : Nat} {Q : Bool → Shared → Prop} (ha : (a == sysModules) = false) (hb : (b == sysModules) = false)
    (hoa : s.heap.get? a = some oa) (hda : oa.data = .dict es ep) (hob : s.heap.get? b = some ob) (hdb : ob.data = .dict es' ep') (h0 : es'.size = 0) (h : Q (decide (es.size = 0)) s) :
    wpAny (model prog w) A (Builtin.Dict.samePairs nm a b) Q E s := by
  unfold Builtin.Dict.samePairs Builtin.Dict.showsAll
  rw [if_neg (show ¬ (a == sysModules) = true by rw [ha]; exact Bool.false_ne_true), if_neg (show ¬ (b == sysModules) = true by rw [hb]; exact Bool.false_ne_true)]
  refine wpAny_bind (wpAny_pure (wpAny_bind (wpAny_pure ?_)))
  refine wpAny_bind (wpAny_dictEntries hoa hda ?_)
  dsimp only
  refine wpAny_bind (wpAny_dictEntries hob hdb ?_)
  by_cases hsz : es.size = 0
  case neg =>
    rw [if_pos (by simp [h0, hsz])]
    rw [decide_eq_false hsz] at h
    exact wpAny_bind (wpAny_rule (wpAny_pure h))
  case pos =>
    rw [decide_eq_true hsz] at h
    rw [if_neg (by rw [hsz, h0]; simp)]
    refine wpAny_bind (wpAny_dictEpoch hoa hda ?_)
    refine wpAny_bind ?_
    rw [Std.Legacy.Range.forIn_eq_forIn_range']
    simp only [Std.Legacy.Range.size, Nat.sub_zero, Nat.add_sub_cancel, Nat.div_one]
    rw [hsz]
    exact wpAny_pure (wpAny_pure h)
theorem rc_dictE {neg : Bool} {a b : Addr} {oa ob : Obj} {es es' : Array DictEntry} {ep ep' : Nat} {Q : Value → Shared → Prop} (ha : (a == sysModules) = false) (hb : (b == sysModules) = false)
    (hoa : s.heap.get? a = some oa) (hca : oa.ExactDict) (hda : oa.data = .dict es ep) (hob : s.heap.get? b = some ob) (hcb : ob.ExactDict) (hdb : ob.data = .dict es' ep') (h0 : es'.size = 0) (hu : A.units < cLine) (h : Q (.bool (if neg then !decide (es.size = 0) else decide (es.size = 0))) s) :
    wpAny (model prog w) A (compareOp (if neg then .NotEq else .Eq) (.ref a) (.ref b)) Q E s := by
  have ta : s.TypeIs (.ref a) "dict" := ⟨oa, hoa, hca.1⟩
  have tb : s.TypeIs (.ref b) "dict" := ⟨ob, hob, hcb.1⟩
  cases neg with
  | false =>
    refine wpAny_richCompare_same_room (op := .Eq) ta tb PySem.F.slot_dict_eq (wpAny_call_entry PySem.F.slot_dict_eq ta PySem.F.entry_dict_eq ?_ (PySem.F.args_dict_eq_2 _ _)) hu
    show wpAny _ _ (Builtin.Dict.dictSlotArgs "__eq__" ⟨[.ref a, .ref b], []⟩ >>= _) _ _ s
    refine wpAny_bind ?_
    unfold Builtin.Dict.dictSlotArgs
    refine wpAny_bind (wpAny_notOrdered_dict ta ?_)
    show wpAny _ _ (pure (Value.ref a, Value.ref b)) _ _ s
    refine wpAny_pure ?_
    refine wpAny_bind (wpAny_isInstance (T := "dict") tb PySem.F.sub_dict_dict ?_)
    simp only [Bool.not_true, Bool.false_eq_true, if_false]
    refine wpAny_bind (wpAny_pure (wpAny_bind (wpAny_pure ?_)))
    refine wpAny_bind (samePairs_empty ha hb hoa hda hob hdb h0 ?_)
    refine wpAny_pure ⟨_, rfl, ?_, ?_⟩
    · exact fun x => nomatch x
    · simpa using h
  | true =>
    refine wpAny_richCompare_same_room (op := .NotEq) ta tb PySem.F.slot_dict_ne (wpAny_call_entry PySem.F.slot_dict_ne ta PySem.F.entry_dict_ne ?_ (PySem.F.args_dict_ne_2 _ _)) hu
    show wpAny _ _ (Builtin.Dict.dictSlotArgs "__ne__" ⟨[.ref a, .ref b], []⟩ >>= _) _ _ s
    refine wpAny_bind ?_
    unfold Builtin.Dict.dictSlotArgs
    refine wpAny_bind (wpAny_notOrdered_dict ta ?_)
    show wpAny _ _ (pure (Value.ref a, Value.ref b)) _ _ s
    refine wpAny_pure ?_
    refine wpAny_bind (wpAny_isInstance (T := "dict") tb PySem.F.sub_dict_dict ?_)
    simp only [Bool.not_true, Bool.false_eq_true, if_false]
    refine wpAny_bind (wpAny_pure (wpAny_bind (wpAny_pure ?_)))
    refine wpAny_bind (samePairs_empty ha hb hoa hda hob hdb h0 ?_)
    refine wpAny_pure ⟨_, rfl, ?_, ?_⟩
    · exact fun x => nomatch x
    · simpa using h
theorem dict_eq_str (l : Addr) (o : Obj) (b : Str) (u : Tok) {Q : Value → Shared → Prop} (ho : s.heap.get? l = some o) (hc : o.ExactDict) (hq : Q .notImplemented s) : wpAny (model prog w) A (call (.builtin "dict.__eq__") [.ref l, .str b u]) Q E s := by
  have ta : s.TypeIs (.ref l) "dict" := ⟨o, ho, hc.1⟩
  refine wpAny_call_entry PySem.F.slot_dict_eq ta PySem.F.entry_dict_eq ?_ (PySem.F.args_dict_eq_2 _ _)
  show wpAny _ _ (Builtin.Dict.dictSlotArgs "__eq__" ⟨[.ref l, .str b u], []⟩ >>= _) _ _ s
  refine wpAny_bind ?_
  unfold Builtin.Dict.dictSlotArgs
  refine wpAny_bind (wpAny_notOrdered_dict ta ?_)
  show wpAny _ _ (pure (Value.ref l, Value.str b u)) _ _ s
  refine wpAny_pure ?_
  refine wpAny_bind (wpAny_isInstance (T := "str") (typeIs_str s b u) PySem.F.sub_str_dict ?_)
  exact wpAny_bind (wpAny_rule (wpAny_pure ⟨_, rfl, hq⟩))
theorem str_eq_obj (b : Str) (u : Tok) (l : Addr) (c : Value) (es : Array DictEntry) (ep : Nat) (dd : Option Addr) (sl : Array (Option Value)) :
    Meets (Builtin.«str.__eq__» ⟨[.str b u, .ref l], []⟩) (fun _ R s => s.heap.get? l = some { cls := c, dict := dd, data := .dict es ep, slots := sl } ∧ R (.ok (.ret .notImplemented)) s) :=
  .of_wp fun prog w A R s h => by obtain ⟨hp, g, d, tk, os⟩ := s; obtain ⟨hl, h⟩ := h; wp_walk using wpAny_loadPart' hl, wpAny_load hl; exact ⟨_, rfl, h⟩
theorem rc_dict_str {l : Addr} {o : Obj} {es : Array DictEntry} {ep : Nat} (b : Str) (u : Tok) (ho : s.heap.get? l = some o) (hc : o.ExactDict) (hd : o.data = .dict es ep) (hu : A.units < cLine) {Q : Value → Shared → Prop} (h : Q (.bool false) s) : wpAny (model prog w) A (compareOp .Eq (.ref l) (.str b u)) Q E s := by
  obtain ⟨cls, dd, data, sl⟩ := o
  simp only at hd
  subst hd
  exact SeqAt.rc_eq_decline_or (k := false) ⟨_, ho, hc.1⟩ (typeIs_str s b u) (by decide) PySem.F.sub_str_dict PySem.F.slot_dict_eq PySem.F.slot_str_eq_refl
    (fun _ hq => dict_eq_str l _ b u ho hc hq)
    (fun _ hq => call_meets PySem.F.slot_str_eq_refl (typeIs_str s b u) PySem.F.entry_str_eq (PySem.F.args_str_eq_2 _ _) (str_eq_obj b u l cls es ep dd sl) ⟨ho, hq⟩)
    (fun _ hq => wpAny_of_eq (rfl : isSame (.ref l) (.str b u) = pure false) hq) (.inr hu) h
end
section
variable {X : Cx}
/-- x == {}, x != {} -/
def rDE (neg : Bool) : R2 := fun x y H Q => ∃ a b kvs, x = .ref a ∧ y = .ref b ∧ H a = some (.dT kvs) ∧ (H b = some (.dK []) ∨ H b = some (.dT [])) ∧ Q (.bl (if neg then !decide (kvs.length = 0) else decide (kvs.length = 0))) H
theorem op_dE {neg : Bool} (hu : X.A.units + 64 < cLine) : OpR X (compareOp (if neg then .NotEq else .Eq)) (rDE neg) := by
  intro pins s σ H x y v u Q I rx ry h
  obtain ⟨a, b, kvs, rfl, rfl, ha, hb, q⟩ := h
  cases rx
  cases ry
  obtain ⟨z, low, xs, rel, o, es, ep, ho, ex, hd, pr, _⟩ := dt_of I.hok ha
  have l1 : es.size = kvs.length := by
    have : es.toList.length = xs.length := by rw [pr, List.length_map]
    rw [Array.length_toList] at this
    rw [this, ← Paired.length rel]
  obtain ⟨lowb, ob, es', ep', hob, exb, hdb, l2⟩ : (b == sysModules) = false ∧ ∃ ob es' ep', s.heap.get? b = some ob ∧ ob.ExactDict ∧ ob.data = .dict es' ep' ∧ es'.size = 0 := by
    rcases hb with hb | hb
    · obtain ⟨_, low, vs, rel, o, es, ep, ho, ex, hd, _, pr, _⟩ := dk_of I.hok hb
      cases rel
      have hes : es.toList = [] := List.eq_nil_of_length_eq_zero (Pairs.length pr)
      exact ⟨low, o, es, ep, ho, ex, hd, by rw [← Array.length_toList, hes]; rfl⟩
    · obtain ⟨_, low, xs, rel, o, es, ep, ho, ex, hd, pr, _⟩ := dt_of I.hok hb
      cases rel
      have hes : es.toList = [] := pr
      exact ⟨low, o, es, ep, ho, ex, hd, by rw [← Array.length_toList, hes]; rfl⟩
  refine rc_dictE low lowb ho ex hd hob exb hdb l2 (by omega) ⟨.bl _, H, I, rfl, ?_⟩
  rw [l1]
  exact q
/-- x == text, x of any kind -/
def rEqS' : R2 := fun x y H Q => ∃ p d z, LD p H x d ∧ y = .str z ∧ Q (.bl (isStrD d z)) H
theorem op_eqS' (hu : X.A.units + 64 < cLine) : OpR X (compareOp .Eq) rEqS' := by
  intro pins s σ H x y v u Q I rx ry h
  obtain ⟨p, d, z, hx, rfl, q⟩ := h
  by_cases hd : isDctD d = false
  · exact op_eqS hu pins s σ H _ _ v u Q I rx ry ⟨p, d, z, hx, hd, rfl, q⟩
  · obtain ⟨tz, rfl⟩ := ry
    cases hx with
    | @dic a n e =>
      cases rx
      obtain ⟨_, low, vs, rel, o, es, ep, ho, ex, hdt, _⟩ := dk_of I.hok e
      exact rc_dict_str z tz ho ex hdt (by omega) ⟨.bl _, H, I, rfl, q⟩
    | @dct a n e =>
      cases rx
      obtain ⟨_, low, xs, rel, o, es, ep, ho, ex, hdt, _⟩ := dt_of I.hok e
      exact rc_dict_str z tz ho ex hdt (by omega) ⟨.bl _, H, I, rfl, q⟩
    | _ => exact absurd rfl hd
end
end Sb

/-! sorted(a list of data), by the data's own order. -/
namespace Sb
open PySem PySem.Spec PyProof.Rows L2
open PySem.W (EachIs dataLe AllAlike Sortable)
/-- an item beside what it stands for -/
def rSortDd (K : PySem.W.Frag) {δ : Type} (enc : δ → PyData) : List V → Hp → VK → Prop := fun xs H Q => ∃ (l : Addr) (bs : List (V × δ)), xs = [.ref l] ∧ SqL K H l (bs.map (·.1)) ∧ (∀ b ∈ bs, Dp K H b.1 (enc b.2)) ∧ (∀ b b' : δ, PySem.W.alike (enc b) (enc b') = true) ∧ (∀ b : δ, ∃ x r, enc b = .tuple (x :: r)) ∧ (∀ b ∈ bs, (enc b.2).depth ≤ 8) ∧
  ∀ p, H p = none → Q (.ref p) (upd H p (.lst ((bs.mergeSort (dataLe false fun b => enc b.2)).map (·.1))))
theorem each_vals {δ : Type} : ∀ {bs : List (V × δ)} {us : List Value}, Vals (bs.map (·.1)) us → EachIs (fun u b => RelV b.1 u) us bs
  | [], _, h => by cases h; exact .nil
  | b :: bs, _, h => by
    cases h with
    | cons a t => exact .cons a (each_vals t)
theorem vals_each {δ : Type} : ∀ {bs : List (V × δ)} {us : List Value}, EachIs (fun u b => RelV b.1 u) us bs → Vals (bs.map (·.1)) us
  | [], _, h => by cases h; exact .nil
  | b :: bs, _, h => by
    cases h with
    | cons a t => exact .cons a (vals_each t)
theorem call_sortDd {X : Cx} {δ : Type} {enc : δ → PyData} (hu : X.A.units + 64 < cLine) : CallR X (.builtin "sorted") (rSortDd X.K enc) := by
  intro pins s σ H xs us Q I r h
  obtain ⟨l, bs, rfl, hl, hD, hal, hk, hdp, q⟩ := h
  obtain ⟨u, rfl, rx⟩ := vals1 r
  obtain rfl : u = Value.ref l := rx
  obtain ⟨its, rv, pl, hz⟩ := I.list hl
  have each := each_vals rv
  have le : its.length = bs.length := each.length
  have reads : EachIs (fun v b => ∃ as, Reads s.heap v (enc b.2) as) its bs := by
    have : ∀ {bs : List (V × δ)} {us : List Value}, (∀ b ∈ bs, Dp X.K H b.1 (enc b.2)) → EachIs (fun u b => RelV b.1 u) us bs → EachIs (fun v b => ∃ as, Reads s.heap v (enc b.2) as) us bs := by
      intro bs
      induction bs with
      | nil => intro us _ h; cases h; exact .nil
      | cons b bs ih =>
        intro us hd h
        cases h with
        | cons a t => exact .cons (Dp.reads I _ _ _ (hd b List.mem_cons_self) a) (ih (fun x hx => hd x (List.mem_cons_of_mem _ hx)) t)
    exact this hD each
  rw [List.length_map] at hz
  refine PySem.W.sorted_data (R := fun u b => RelV b.1 u) (enc := fun b : V × δ => enc b.2) pl.isList each reads (AllAlike.of fun a b => hal _ _) (Sortable.tuples fun b => hk _) hz (fun b hb => ?_) fun out lo ho => ?_
  · have := hdp b hb
    omega
  · obtain ⟨e, ee⟩ := sortedAll_at s.heap its (List.toArray out)
    have vo := vals_each ho
    have k : ∀ c o, s.heap.get? c = some o → (sortedAll s.heap its (List.toArray out)).get? c = some o := fun c o hc => sortedAll_old hc
    have hz2 : ((bs.mergeSort (dataLe false fun b => enc b.2)).map (·.1)).length ≤ sizeLine := by
      rw [List.length_map, (List.mergeSort_perm _ _).length_eq]
      exact hz
    exact ⟨.ref (s.heap.objs.size + 1), _, I.laid (o := .lst ((bs.mergeSort (dataLe false fun b => enc b.2)).map (·.1))) (t' := s.toks) k (Nat.le_succ _) ⟨hz2, out, e, vo, ee⟩, rfl, q _ (I.hok.fresh (Nat.le_succ _))⟩
end Sb

/-! Dicts whose keys are nested tuples (situations): {}, k in d, d[k], d[k] = v, sorted(d). -/
namespace Sb
open PySem PySem.Spec PyProof.Rows L2
open PySem.W (EachIs dataLe AllAlike Sortable)
mutual
/-- a nested key as data -/
def nkD : NestedKey → PyData
  | .none => .none
  | .num i => .int i
  | .text x => .str x
  | .tup ks => .tuple (nkDs ks)
def nkDs : List NestedKey → List PyData
  | [] => []
  | k :: r => nkD k :: nkDs r
end
mutual
theorem nkD_depth : ∀ k : NestedKey, (nkD k).depth ≤ k.depth
  | .none => Nat.zero_le _
  | .num _ => Nat.zero_le _
  | .text _ => Nat.zero_le _
  | .tup ks => by
    have := nkDs_depth ks
    show PyData.depthAll (nkDs ks) + 1 ≤ NestedKey.depth (.tup ks)
    rw [NestedKey.depth]
    omega
theorem nkDs_depth : ∀ ks : List NestedKey, PyData.depthAll (nkDs ks) ≤ NestedKey.depthAll ks
  | [] => Nat.zero_le _
  | k :: r => by
    have h1 := nkD_depth k
    have h2 := nkDs_depth r
    show max (nkD k).depth (PyData.depthAll (nkDs r)) ≤ NestedKey.depthAll (k :: r)
    rw [NestedKey.depthAll]
    omega
end
abbrev NRow := NestedKey × Addr × Value
/-- what stands at a: a dict of these entries -/
def NO (P : Program) (w : World) (a : Addr) (xs : List NRow) : HO := .ext fun h => (a == sysModules) = false ∧ xs.length ≤ sizeLine ∧ ∃ o es ep, h.get? a = some o ∧ o.ExactDict ∧ o.data = .dict es ep ∧ es.toList = xs.map (entryOfKey (nestedKind P w)) ∧ (xs.map (·.1)).Nodup
/-- a key's value, in the heap -/
def NKey (H : Hp) (k : NestedKey) (v : V) : Prop := k.depth ≤ 8 ∧ TD H v (nkD k) ∧ ∃ ks, k = .tup ks
theorem NKey.mono {H H' : Hp} {k : NestedKey} {v : V} (t : Tups H H') (h : NKey H k v) : NKey H' k v := ⟨h.1, TD.mono t _ h.2.1, h.2.2⟩
abbrev NRel (H : Hp) : List (NestedKey × V) → List NRow → Prop := Paired fun p q => p.1 = q.1 ∧ NKey H p.1 (.ref q.2.1) ∧ RelV p.2 q.2.2
theorem NRel.mono {H H' : Hp} {kvs : List (NestedKey × V)} {xs : List NRow} (t : Tups H H') (h : NRel H kvs xs) : NRel H' kvs xs := Paired.mapP h fun _ _ z => ⟨z.1, z.2.1.mono t, z.2.2⟩
theorem NRel.val {H : Hp} {kvs : List (NestedKey × V)} {xs : List NRow} (r : NRel H kvs xs) (k : NestedKey) : RelO (valV kvs k) ((atKey xs k).map (·.2)) := by
  induction r with
  | nil => exact True.intro
  | @cons p q ps qs h t ih =>
    by_cases e : p.1 = k
    · have e' : q.1 = k := h.1.symm.trans e
      have b : atKey (q :: qs) k = some q.2 := by simp [atKey, List.find?_cons, e']
      rw [valV_pos e, b]
      exact h.2.2
    · have e' : ¬ q.1 = k := fun z => e (h.1.trans z)
      have b : atKey (q :: qs) k = atKey qs k := by simp [atKey, List.find?_cons, e']
      rw [valV_neg e, b]
      exact ih
theorem NRel.repl {H : Hp} {kvs : List (NestedKey × V)} {xs : List NRow} (r : NRel H kvs xs) (k : NestedKey) {y : V} {u : Value} (ry : RelV y u) : NRel H (kvs.map fun kv => if kv.1 = k then (kv.1, y) else kv) (xs.map (putAt k u)) := by
  induction r with
  | nil => exact .nil
  | @cons p q ps qs h t ih =>
    refine .cons ?_ ih
    dsimp only
    by_cases e : p.1 = k
    · have e' : q.1 = k := h.1.symm.trans e
      rw [if_pos e, show putAt k u q = (q.1, q.2.1, u) from if_pos e']
      exact ⟨h.1, h.2.1, ry⟩
    · have e' : ¬ q.1 = k := fun z => e (h.1.trans z)
      rw [if_neg e, show putAt k u q = q from if_neg e']
      exact h
theorem NRel.put {H : Hp} {kvs : List (NestedKey × V)} {xs : List NRow} (r : NRel H kvs xs) {k : NestedKey} {b : Addr} {y : V} {u : Value} (hb : NKey H k (.ref b)) (ry : RelV y u) : NRel H (putK kvs k y) (storedH xs k b u) := by
  have e : (kvs.any fun kv => decide (kv.1 = k)) = (atKey xs k).isSome := by
    rw [valV_any, (r.val k).isSome_eq, Option.isSome_map]
  unfold putK storedH
  rw [e]
  by_cases q : (atKey xs k).isSome = true
  · rw [if_pos q, if_pos q]
    exact r.repl k ry
  · rw [if_neg q, if_neg q]
    exact Paired.snoc r ⟨rfl, hb, ry⟩
/-- at a stands a dict of these keys and values -/
def NDict (P : Program) (w : World) (H : Hp) (a : Addr) (kvs : List (NestedKey × V)) : Prop := ∃ xs, H a = some (NO P w a xs) ∧ NRel H kvs xs
theorem NDict.keep {P : Program} {w : World} {H H' : Hp} {a : Addr} {kvs : List (NestedKey × V)} (h : NDict P w H a kvs) (t : Tups H H') (k : ∀ o, H a = some o → H' a = some o) : NDict P w H' a kvs := by
  obtain ⟨xs, e, r⟩ := h
  exact ⟨xs, k _ e, r.mono t⟩
theorem NDict.mono {P : Program} {w : World} {H H' : Hp} {a : Addr} {kvs : List (NestedKey × V)} (h : NDict P w H a kvs) (s : Same H H') : NDict P w H' a kvs := h.keep (Tups.same s) (fun _ z => s _ _ z)
theorem NDict.some {P : Program} {w : World} {H : Hp} {a : Addr} {kvs : List (NestedKey × V)} (h : NDict P w H a kvs) : ∃ φ, H a = some (.ext φ) := let ⟨_, e, _⟩ := h; ⟨_, e⟩
section
variable {X : Cx} {pins : List (Addr × Obj)} {σ : L2.St} {H : Hp} {s : Shared} {a : Addr} {kvs : List (NestedKey × V)} {k : NestedKey} {y v : V} {u r : Value} {A : Around} {E : Value → Shared → Prop}
mutual
theorem nested_of (I : Inv X pins σ H s) : ∀ (k : NestedKey) (v : V) (u : Value), TD H v (nkD k) → RelV v u → NestedIs s.heap k u
  | .none, _, u, h, r => by
    cases h
    obtain rfl : u = Value.none := r
    exact .none
  | .num i, _, u, h, r => by
    cases h
    obtain ⟨t, rfl⟩ := r
    exact .int i t
  | .text x, _, u, h, r => by
    cases h
    obtain ⟨t, rfl⟩ := r
    exact .text x t
  | .tup ks, _, u, h, r => by
    cases h with
    | @tup a xs ds e d =>
      obtain rfl : u = Value.ref a := r
      obtain ⟨_, its, rv, o, h1, h2, n, h3⟩ := (show ObjOk X.prog X.w H s.heap a (.tup xs) from I.hok a _ e)
      exact .tup h1 h2 h3 (by simpa using nested_all I ks xs its d rv)
theorem nested_all (I : Inv X pins σ H s) : ∀ (ks : List NestedKey) (vs : List V) (us : List Value), TDs H vs (nkDs ks) → Vals vs us → NestedAll s.heap ks us
  | [], _, _, h, r => by
    cases h
    cases r
    exact .nil
  | k :: ks, _, _, h, r => by
    cases h with
    | cons h1 h2 =>
      cases r with
      | cons r1 r2 => exact .cons (nested_of I k _ _ h1 r1) (nested_all I ks _ _ h2 r2)
end
mutual
theorem nested_rd (I : Inv X pins σ H s) : ∀ (k : NestedKey) (v : V) (u : Value), TD H v (nkD k) → RelV v u → Reads s.heap u (nkD k) []
  | .none, _, u, h, r => by
    cases h
    obtain rfl : u = Value.none := r
    exact .none
  | .num i, _, u, h, r => by
    cases h
    obtain ⟨t, rfl⟩ := r
    exact .int i t
  | .text x, _, u, h, r => by
    cases h
    obtain ⟨t, rfl⟩ := r
    exact .str x t
  | .tup ks, _, u, h, r => by
    cases h with
    | @tup a xs ds e d =>
      obtain rfl : u = Value.ref a := r
      obtain ⟨_, its, rv, o, h1, h2, n, h3⟩ := (show ObjOk X.prog X.w H s.heap a (.tup xs) from I.hok a _ e)
      exact .tuple h1 h2 h3 (by simpa using nested_rds I ks xs its d rv)
theorem nested_rds (I : Inv X pins σ H s) : ∀ (ks : List NestedKey) (vs : List V) (us : List Value), TDs H vs (nkDs ks) → Vals vs us → ReadsAll s.heap us (nkDs ks) []
  | [], _, _, h, r => by
    cases h
    cases r
    exact .nil
  | k :: ks, _, _, h, r => by
    cases h with
    | cons h1 h2 =>
      cases r with
      | cons r1 r2 => exact .cons (as := []) (bs := []) (nested_rd I k _ _ h1 r1) (nested_rds I ks _ _ h2 r2)
end
theorem nkey_of (I : Inv X pins σ H s) {b : Addr} (h : NKey H k (.ref b)) : (nestedKind X.prog X.w).is s.heap k b := ⟨nested_of I k _ _ h.2.1 rfl, h.1⟩
theorem nd_of (I : Inv X pins σ H s) (h : NDict X.prog X.w H a kvs) : (a == sysModules) = false ∧ kvs.length ≤ sizeLine ∧ ∃ xs, NRel H kvs xs ∧ xs.length ≤ sizeLine ∧ s.heap.DictOfH (nestedKind X.prog X.w) a xs := by
  obtain ⟨xs, e, r⟩ := h
  obtain ⟨⟨c1, c2, o, es, ep, h1, h2, h3, h4, h5⟩, _⟩ := (show ObjOk X.prog X.w H s.heap a (NO X.prog X.w a xs) from I.hok a _ e)
  refine ⟨c1, by rw [Paired.length r]; exact c2, xs, r, c2, o, es, ep, h1, h2, h3, h4, fun x hx => ?_, h5⟩
  have all : ∀ {l : List (NestedKey × V)} {m : List NRow}, NRel H l m → ∀ x ∈ m, (nestedKind X.prog X.w).is s.heap x.1 x.2.1 := by
    intro l m q
    induction q with
    | nil => intro x hx; exact nomatch hx
    | @cons p q ps qs hq t ih =>
      intro x hx
      rcases List.mem_cons.mp hx with e | hx
      · subst e
        exact nkey_of I (by rw [← hq.1]; exact hq.2.1)
      · exact ih x hx
  exact all r x hx
theorem room8 (hu : A.units + 64 < cLine) : (nestedKind X.prog X.w).room A.in1 := by
  show A.units + 1 + 8 < cLine
  omega
/-- k in d, k not in d -/
def rInN (P : Program) (w : World) (neg : Bool) : R2 := fun x y H Q => ∃ a k kvs, y = .ref a ∧ NKey H k x ∧ NDict P w H a kvs ∧ Q (.bl (if neg then !(valV kvs k).isSome else (valV kvs k).isSome)) H
theorem nk_ref (h : NKey H k y) : ∃ b, y = .ref b := by
  obtain ⟨_, t, ks, rfl⟩ := h
  cases t
  exact ⟨_, rfl⟩
theorem op_inN (hu : X.A.units + 64 < cLine) : OpR X (compareOp .In) (rInN X.prog X.w false) := by
  intro pins s σ H x y v u Q I rx ry h
  obtain ⟨a, k, kvs, rfl, hk, hd, q⟩ := h
  obtain ⟨b, rfl⟩ := nk_ref hk
  obtain rfl : v = Value.ref b := rx
  obtain rfl : u = Value.ref a := ry
  obtain ⟨c1, c2, xs, rel, _, dd⟩ := nd_of I hd
  refine wpAny_in_heap (room8 hu) (nkey_of I hk) c1 dd ?_
  have e := (rel.val k).isSome_eq
  rw [Option.isSome_map] at e
  rw [← e]
  exact ⟨.bl (valV kvs k).isSome, H, I.tok _, rfl, q⟩
theorem op_notInN (hu : X.A.units + 64 < cLine) : OpR X (compareOp .NotIn) (rInN X.prog X.w true) := by
  intro pins s σ H x y v u Q I rx ry h
  obtain ⟨a, k, kvs, rfl, hk, hd, q⟩ := h
  obtain ⟨b, rfl⟩ := nk_ref hk
  obtain rfl : v = Value.ref b := rx
  obtain rfl : u = Value.ref a := ry
  obtain ⟨c1, c2, xs, rel, _, dd⟩ := nd_of I hd
  refine wpAny_notIn_heap (room8 hu) (nkey_of I hk) c1 dd ?_
  have e := (rel.val k).isSome_eq
  rw [Option.isSome_map] at e
  rw [← e]
  exact ⟨.bl (!(valV kvs k).isSome), H, I.tok _, rfl, q⟩
/-- d[k], there -/
def tGetN (P : Program) (w : World) (td ty : TE) : TE := fun σ H Q => td σ H fun x H1 => ty σ H1 fun y H2 => ∃ a k kvs v, x = .ref a ∧ NKey H2 k y ∧ NDict P w H2 a kvs ∧ valV kvs k = some v ∧ Q v H2
theorem pe_getN {value slice : Expr} {pos : Pos} {td ty : TE} (hu : X.A.units + 64 < cLine) (ho : PE X value td) (hi : PE X slice ty) (hs : NoSl slice := by intro _ _; rfl) : PE X (.Subscript value slice pos) (tGetN X.prog X.w td ty) := by
  refine ⟨fun pins s σ H Q I h => ?_⟩
  refine subD_of (T := "dict") (id := "dict.__getitem__") (by first | exact slot_dict_getitem.lookup | exact PySem.F.slot_dict_getitem.lookup) hs (thn (ho.run pins s σ H _ I h) fun u s1 ⟨x, H1, I1, rx, q1⟩ => thn (hi.run pins s1 σ H1 _ I1 q1) fun iv s2 ⟨y, H2, I2, ry, a, k, kvs, v, ex, hk, hd, l, q2⟩ => ?_)
  subst ex
  obtain rfl : u = Value.ref a := rx
  obtain ⟨b, rfl⟩ := nk_ref hk
  obtain rfl : iv = Value.ref b := ry
  obtain ⟨c1, c2, xs, rel, _, dd⟩ := nd_of I2 hd
  obtain ⟨w', hw, rw'⟩ := RelO.some_of (v := v) (o := (atKey xs k).map (·.2)) (by rw [← l]; exact rel.val k)
  obtain ⟨p, hp, hp2⟩ := Option.map_eq_some_iff.mp hw
  refine ⟨dd.typeIs, wpAny_getItem_heap (room8 hu) (nkey_of I2 hk) dd hp ?_⟩
  rw [hp2]
  exact ⟨v, H2, I2.tok _, rw', q2⟩
/-- d[k] = v -/
def sPutN (P : Program) (w : World) (td ty tv : TE) : TS := fun D σ H => tv σ H fun v H1 => td σ H1 fun x H2 => ty σ H2 fun y H3 => ∃ a k kvs, x = .ref a ∧ NKey H3 k y ∧ NDict P w H3 a kvs ∧ kvs.length < sizeLine ∧
  ∀ H4, (∀ c, c ≠ a → H4 c = H3 c) → NDict P w H4 a (putK kvs k v) → D.nx σ H4
theorem ps_putN {o i value : Expr} {pos pos' : Pos} {td ty tv : TE} (hu : X.A.units + 64 < cLine) (ho : PE X o td) (hi : PE X i ty) (hv : PE X value tv) (hs : swapsWith value (some (.Subscript o i pos')) pos.line X.env = pure false) :
    PS X (.Assign [.Subscript o i pos'] value pos) (sPutN X.prog X.w td ty tv) := by
  refine ⟨fun pins s σ H D I h => ?_⟩
  refine wpAny_Assign_Subscript (thn (hv.run pins s σ H _ I h) fun r s1 ⟨v, H1, I1, rv, q1⟩ => thn (ho.run pins s1 σ H1 _ I1 q1) fun u s2 ⟨x, H2, I2, rx, q2⟩ => thn (hi.run pins s2 σ H2 _ I2 q2) fun iv s3 ⟨y, H3, I3, ry, a, k, kvs, ex, hk, hd, hl, q3⟩ => ?_) hs
  subst ex
  obtain rfl : u = Value.ref a := rx
  obtain ⟨b, rfl⟩ := nk_ref hk
  obtain rfl : iv = Value.ref b := ry
  obtain ⟨c1, c2, xs, rel, hz, dd⟩ := nd_of I3 hd
  obtain ⟨φ, ea⟩ := hd.some
  refine wpAny_setItem_heap (hsz := hz) (room8 hu) (nkey_of I3 hk) dd fun h' dd' hs' => ?_
  obtain ⟨q, es, ep, hq, h2, h3, h4, _, h5⟩ := dd'
  have rel' := rel.put hk rv
  have ll : (putK kvs k v).length ≤ kvs.length + 1 := length_putK kvs k v
  have lx : (storedH xs k b r).length ≤ sizeLine := by
    rw [← Paired.length rel']
    omega
  have tp : Tups H3 (upd H3 a (NO X.prog X.w a (storedH xs k b r))) := Tups.put ea (fun _ z => nomatch z)
  refine ⟨σ, upd H3 a (NO X.prog X.w a (storedH xs k b r)), d_write I3 (by rw [ea]; exact True.intro) hs' ⟨q, hq⟩ ⟨⟨c1, lx, q, es, ep, hq, h2, h3, h4, h5⟩, ⟨q, hq⟩, ?_⟩, q3 _ (fun c hc => upd_ne hc) ⟨_, upd_same, rel'.mono tp⟩⟩
  rintro h1 h2 ⟨d1, d2, o, es, ep, e1, e2⟩ kp
  exact ⟨d1, d2, o, es, ep, kp _ e1, e2⟩
/-- {}, to be such a dict -/
def tNewN (P : Program) (w : World) : TE := fun _ H Q => ∀ p, H p = none → Q (.ref p) (upd H p (NO P w p []))
theorem NDict.new {P : Program} {w : World} {H : Hp} {p : Addr} : NDict P w (upd H p (NO P w p [])) p [] := ⟨[], upd_same, .nil⟩
theorem pe_newN {pos : Pos} : PE X (.Dict [] [] pos) (tNewN X.prog X.w) := ⟨fun pins s σ H Q I h => by
  have hb : (s.heap.objs.size == sysModules) = false := beq_eq_false_iff_ne.mpr (Ne.symm (Nat.ne_of_lt I.big))
  refine wpAny_Dict_empty ⟨.ref s.heap.objs.size, _, I.laid (a := s.heap.objs.size) (o := NO X.prog X.w s.heap.objs.size []) (t' := s.toks) (fun _ _ q => Heap.get?_push_of_some _ q) (Nat.le_refl _) ⟨⟨hb, Nat.zero_le _, _, #[], 0, Heap.get?_push_size _ rfl, ⟨rfl, rfl, rfl⟩, rfl, rfl, List.nodup_nil⟩, ⟨_, Heap.get?_push_size _ rfl⟩, ?_⟩, rfl, h _ (I.hok.fresh (Nat.le_refl _))⟩
  rintro h1 h2 ⟨d1, d2, o, es, ep, e1, e2⟩ kp
  exact ⟨d1, d2, o, es, ep, kp _ e1, e2⟩⟩
theorem each_refsN : ∀ ks : List NRow, EachIs (fun (v : Value) (x : NRow) => v = .ref x.2.1) (ks.map fun x => Value.ref x.2.1) ks
  | [] => .nil
  | _ :: r => .cons rfl (each_refsN r)
theorem refs_eachN : ∀ {out : List Value} {ks : List NRow}, EachIs (fun (v : Value) (x : NRow) => v = .ref x.2.1) out ks → out = (ks.map fun x => x.2.1).map Value.ref
  | _, _, .nil => rfl
  | _, _, .cons h t => by
    rw [List.map_cons, List.map_cons, ← refs_eachN t, h]
/-- these keys at these addresses -/
def IsNK (H : Hp) (ks : List NestedKey) (bs : List Addr) : Prop := Paired (fun k b => NKey H k (.ref b)) ks bs
theorem IsNK.mono {H H' : Hp} {ks : List NestedKey} {bs : List Addr} (h : IsNK H ks bs) (t : Tups H H') : IsNK H' ks bs := Paired.mapP h fun _ _ z => z.mono t
theorem isNK_of {H : Hp} : ∀ {ks : List NRow}, (∀ x ∈ ks, NKey H x.1 (.ref x.2.1)) → IsNK H (ks.map (·.1)) (ks.map fun x => x.2.1)
  | [], _ => .nil
  | x :: r, h => .cons (h x List.mem_cons_self) (isNK_of fun y hy => h y (List.mem_cons_of_mem _ hy))
theorem nrel_mem {H : Hp} {kvs : List (NestedKey × V)} {xs : List NRow} (r : NRel H kvs xs) : kvs.map (·.1) = xs.map (·.1) ∧ ∀ x ∈ xs, NKey H x.1 (.ref x.2.1) := by
  induction r with
  | nil => exact ⟨rfl, fun _ h => by cases h⟩
  | @cons a b l1 l2 h t ih =>
    refine ⟨by rw [List.map_cons, List.map_cons, h.1, ih.1], fun x hx => ?_⟩
    rcases List.mem_cons.mp hx with rfl | hx
    · rw [← h.1]
      exact h.2.1
    · exact ih.2 x hx
/-- the keys in the order of their data -/
def srtN (ks : List NestedKey) : List NestedKey := ks.mergeSort (dataLe false nkD)
/-- all these data are alike, none empty -/
def NOrd (ks : List NestedKey) : Prop := (∀ a ∈ ks, ∀ b ∈ ks, PySem.W.alike (nkD a) (nkD b) = true) ∧ ∀ a ∈ ks, ∃ x r, nkD a = .tuple (x :: r)
/-- sorted(d) -/
def rSortN (P : Program) (w : World) : List V → Hp → VK → Prop := fun xs H Q => ∃ (d : Addr) (kvs : List (NestedKey × V)), xs = [.ref d] ∧ NDict P w H d kvs ∧ NOrd (kvs.map (·.1)) ∧ ∀ p bs, H p = none → IsNK H (srtN (kvs.map (·.1))) bs → Q (.ref p) (upd H p (.lst (bs.map V.ref)))
theorem call_sortN (hc : X.calm = true) (hu : X.A.units + 64 < cLine) : CallR X (.builtin "sorted") (rSortN X.prog X.w) := by
  intro pins s σ H xs us Q I r h
  obtain ⟨d, kvs, rfl, hd, hord, q⟩ := h
  obtain ⟨u, rfl, rx⟩ := vals1 r
  obtain rfl : u = Value.ref d := rx
  obtain ⟨lo, c2, ks, rel, hz, o, es, ep, ho, hx, hdt, he, hki, hn⟩ := nd_of I hd
  have l1 : es.size = ks.length := size_of_entries he
  obtain ⟨ek, hks⟩ := nrel_mem rel
  show wpAny _ _ (call (.builtin "sorted") [.ref d]) _ _ _
  refine PySem.Calls.call_function_entry PyProof.Rows.kind_sorted PyProof.Rows.plain_sorted PyProof.Rows.entry_sorted (by first | exact args_sorted1 _ | exact PyProof.Rows.args_sorted1 _ | exact PySem.args_sorted1 _) ?_
  unfold Builtin.«sorted»
  refine wpAny_bind (m := checkCount "sorted" 1 1 _) (wpAny_pure ?_)
  refine wpAny_bind (PySem.W.kdu_collect (A := X.A.in1) (kdl_raw lo hx hdt) (I.ok.hd hc) ho (by omega) fun h' tk acc kp it => ?_)
  have ea : acc.toList = ks.map fun x => Value.ref x.2.1 := by
    apply List.ext_getElem?
    intro j
    have la : acc.toList.length = ks.length := by
      rw [Array.length_toList, it.1, l1]
    rw [List.getElem?_map]
    by_cases hj : j < ks.length
    · have e1 : acc.toList[j]? = some acc.toList[j] := List.getElem?_eq_getElem (by omega)
      obtain ⟨en, hen, hv⟩ := it.2 j _ ((Array.getElem?_toList).symm.trans e1)
      have e2 := entry_at he j
      rw [hen, List.getElem?_eq_getElem hj] at e2
      have e3 : en = entryOfKey (nestedKind X.prog X.w) ks[j] := Option.some.inj e2
      rw [e1, hv, e3, List.getElem?_eq_getElem hj]
      rfl
    · rw [List.getElem?_eq_none (by omega), List.getElem?_eq_none (by omega)]
      rfl
  have la : acc.toList.length = ks.length := by rw [ea, List.length_map]
  have I1 : Inv X pins σ H { s with heap := h', toks := tk } := I.kept kp
  refine wpAny_bind (wpAny_newList ?_ (by omega))
  have hoL : (h'.push (seqObj "list" acc.toList.toArray 0)).get? h'.objs.size = some (seqObj "list" acc.toList.toArray 0) := Heap.get?_push_size _ rfl
  have up : ∀ c o, h'.get? c = some o → (h'.push (seqObj "list" acc.toList.toArray 0)).get? c = some o := fun c o e => Heap.get?_push_of_some _ e
  show wpAny _ _ _ _ _ { s with heap := h'.push (seqObj "list" acc.toList.toArray 0), toks := tk }
  have each : EachIs (fun (v : Value) (x : NRow) => v = .ref x.2.1) acc.toList ks := by rw [ea]; exact each_refsN ks
  have ne : ∀ {c : Addr} {o : Obj}, h'.get? c = some o → c ≠ h'.objs.size := fun e => Nat.ne_of_lt (Heap.lt_size e)
  have er : EachIs (fun (v : Value) (x : NRow) => ∃ as, Reads (h'.push (seqObj "list" acc.toList.toArray 0)) v (nkD x.1) as ∧ h'.objs.size ∉ as) acc.toList ks := by
    have all : ∀ l : List NRow, (∀ x ∈ l, x ∈ ks) → EachIs (fun (v : Value) (x : NRow) => ∃ as, Reads (h'.push (seqObj "list" acc.toList.toArray 0)) v (nkD x.1) as ∧ h'.objs.size ∉ as) (l.map fun x => Value.ref x.2.1) l := by
      intro l
      induction l with
      | nil => intro _; exact .nil
      | cons x l ih =>
        intro hl
        exact .cons ⟨[], PyProof.Rows.Reads.keeps up (nested_rd I1 x.1 (.ref x.2.1) (.ref x.2.1) (hks x (hl x List.mem_cons_self)).2.1 rfl), List.not_mem_nil⟩ (ih fun y hy => hl y (List.mem_cons_of_mem _ hy))
    have e2 := all ks fun _ h => h
    rw [← ea] at e2
    exact e2
  have hmem : ∀ x ∈ ks, x.1 ∈ kvs.map (·.1) := fun x hx => by rw [ek]; exact List.mem_map.mpr ⟨x, hx, rfl⟩
  refine wpAny_bind (wpAny_holding (PySem.W.list_sort_data (s := { s with heap := h'.push (seqObj "list" acc.toList.toArray 0), toks := tk }) (R := fun (v : Value) (x : NRow) => v = .ref x.2.1) (enc := fun x : NRow => nkD x.1) (bs := ks) hoL each er ?_ (.inl ?_) hz (fun b hb => ?_) fun out lo ho => ?_))
  · intro a ha b hb
    obtain ⟨x, hx, rfl⟩ := List.mem_map.mp ha
    obtain ⟨y, hy, rfl⟩ := List.mem_map.mp hb
    exact hord.1 _ (hmem x hx) _ (hmem y hy)
  · intro a ha
    obtain ⟨x, hx, rfl⟩ := List.mem_map.mp ha
    exact hord.2 _ (hmem x hx)
  · have d8 := (hks b hb).1
    have dd := nkD_depth b.1
    show X.A.units + 1 + 1 + (nkD b.1).depth < cLine
    omega
  · have eo := refs_eachN ho
    have hm2 : ∀ x ∈ ks.mergeSort (dataLe false fun x : NRow => nkD x.1), NKey H x.1 (.ref x.2.1) := fun x hx => hks x ((List.mergeSort_perm ks _).mem_iff.mp hx)
    have em : (ks.mergeSort (dataLe false fun x : NRow => nkD x.1)).map (·.1) = srtN (kvs.map (·.1)) := by
      unfold srtN
      rw [ek]
      exact List.map_mergeSort fun a _ b _ => rfl
    have isk := isNK_of hm2
    rw [em] at isk
    obtain ⟨ep2, hD⟩ := PyProof.Rows.sortedHeap_at (vs := acc.toList) (out := out.toArray) hoL
    have keep3 : ∀ b o, h'.get? b = some o → (PyProof.Rows.sortedHeap (h'.push (seqObj "list" acc.toList.toArray 0)) h'.objs.size acc.toList out.toArray).get? b = some o := fun b o e => by
      rw [PyProof.Rows.sortedHeap_old (ne e) (Nat.lt_of_lt_of_le (Heap.lt_size e) (by rw [Heap.size_push]; exact Nat.le_succ _))]
      exact up b o e
    have rv : Vals (((ks.mergeSort (dataLe false fun x : NRow => nkD x.1)).map fun x => x.2.1).map V.ref) out := by
      rw [eo]
      exact vals_refs _
    have hz2 : (((ks.mergeSort (dataLe false fun x : NRow => nkD x.1)).map fun x => x.2.1).map V.ref).length ≤ sizeLine := by
      rw [rv.length]
      omega
    apply wpAny_pure
    exact ⟨_, rfl, .ref h'.objs.size, _, I1.laid (t' := tk) (o := .lst (((ks.mergeSort (dataLe false fun x : NRow => nkD x.1)).map fun x => x.2.1).map V.ref)) keep3 (Nat.le_refl _) ⟨hz2, out, ep2, rv, hD⟩, rfl, q _ _ (I1.hok.fresh (Nat.le_refl _)) isk⟩
end
end Sb

/-! tuple(range(..)), its own object known. -/
namespace Sb
open PySem PySem.Spec PyProof.Rows L2
section
variable {X : Cx} {e : Expr} {te : L2.St → Hp → (Int → Int → Hp → Prop) → Prop}
def tTupRgF (te : L2.St → Hp → (Int → Int → Hp → Prop) → Prop) : TE := fun σ H Q => te σ H fun a b H1 => RgOk a b ∧ ∀ q ob, H1 q = none → ob.dict = none → Q (.ref q) (upd H1 q (.frz ob (.tup (rgV a b))))
theorem pe_tupRgF {p pos : Pos} (hc : X.calm = true) (hg : Gl X "tuple") (hm : X.mg "tuple" = none) (he : PRg X e te) (na : starEach [e] X.env = (false, eval e X.env) :: starEach [] X.env := by rfl) : PE X (.Call (.Name "tuple" p) [e] [] pos) (tTupRgF te) := by
  refine ⟨fun pins s σ H Q I h => ?_⟩
  refine Call_ (ld_blt I hg hm (show bootBuiltins "tuple" = some (.type "tuple") by decide +kernel) (PyProof.Rows.callWith_type1 (args_cons (thn (he pins s σ H _ I h) fun x s1 ⟨r, a, b, t, u, v, H1, ex, hr, I1, ok, q⟩ => args_nil ?_) na) na))
  subst ex
  obtain ⟨b1, b2, b3, b4, b5⟩ := ok
  refine call_tuple_range (n := (b - a).toNat) (I1.ok.hd hc) hr (small_one b1 b2 b3 b4) (rangeSize_nat a b) b5 fun h' tk acc hk hi => ?_
  have I2 : Inv X pins σ H1 { s1 with heap := h', toks := tk } := I1.kept hk
  refine ⟨.ref h'.objs.size, upd H1 h'.objs.size (.frz { cls := .type "tuple", data := .seq acc.toList.toArray } (.tup (rgV a b))), I2.laid (t' := tk) (fun c o e => Heap.get?_push_of_some _ e) (Nat.le_refl _) (show ObjOk X.prog X.w _ _ _ (.frz _ (.tup (rgV a b))) from ⟨?_, ?_, acc.toList, vals_rg hi, ?_⟩), rfl, q _ _ (I2.hok.fresh (Nat.le_refl _)) rfl⟩
  · rw [Array.toArray_toList]
    exact Heap.get?_push_size _ rfl
  · rw [rgV_length, sizeLine_eq]; omega
  · rw [Array.toArray_toList]; exact IsTup.new _ _
end
end Sb

/-! A list's display whose list is no module's table. -/
namespace Sb
open PySem PySem.Spec PyProof.Rows L2
section
variable {X : Cx}
def tLstS (t : TA) : TE := fun σ H Q => t σ H fun xs H1 => xs.length ≤ sizeLine ∧ ∀ (p : Addr), H1 p = none → p ≠ sysModules → Q (V.ref p) (upd H1 p (HO.lst xs))
theorem pe_lstS {es : List Expr} {t : TA} {pos : Pos} (h : PA X es t) : PE X (.List es pos) (tLstS t) := by
  refine ⟨fun pins s σ H Q I q => ?_⟩
  rw [arm_eval_List]
  refine wpAny_bind (wpAny_standAt (wpAny_bind (thn (h.run pos pins s σ H _ I q) fun vs s1 ⟨xs, H1, I1, r1, hz, q1⟩ => ?_)))
  have lv : vs.toArray.size = xs.length := by rw [List.size_toArray, r1.length]
  show wpAny _ _ (if vs.toArray.size > sizeLine then _ else newObjAsIs (Value.type "list") (Data.seq vs.toArray)) _ _ _
  rw [if_neg (by rw [lv]; omega)]
  unfold newObjAsIs
  refine wpAny_bind (wpAny_alloc ?_)
  refine wpAny_pure ?_
  have kp : ∀ b o, s1.heap.get? b = some o → (s1.heap.push { cls := .type "list", data := .seq vs.toArray }).get? b = some o := fun _ _ e => Heap.get?_push_of_some _ e
  exact ⟨.ref s1.heap.objs.size, _, I1.laid (t' := s1.toks) kp (Nat.le_refl _) (show ObjOk X.prog X.w _ _ _ (.lst xs) from ⟨hz, vs, _, r1, by first | rfl | exact Heap.get?_push_size _ rfl⟩), rfl, q1 _ (I1.hok.fresh (Nat.le_refl _)) (Nat.ne_of_gt I1.big)⟩
/-- l != [] -/
def rNeL0 : R2 := fun x y H Q => ∃ a b xs, x = .ref a ∧ y = .ref b ∧ H a = some (.lst xs) ∧ H b = some (.lst []) ∧ Q (.bl (!xs.isEmpty)) H
theorem op_neL0 (hu : X.A.units + 64 < cLine) : OpR X (compareOp .NotEq) rNeL0 := by
  intro pins s σ H x y v u Q I rx ry h
  obtain ⟨a, b, xs, rfl, rfl, ha, hb, q⟩ := h
  cases rx
  cases ry
  obtain ⟨its, r1, t1, _⟩ := I.list (SqL.of (K := X.K) ha)
  obtain ⟨its2, r2, t2, _⟩ := I.list (SqL.of (K := X.K) hb)
  cases r2
  cases xs with
  | nil =>
    cases r1
    refine SeqAt.RcNeAt.lists (e := fun _ => true) t1.isList t2.isList rfl (by omega) (fun j _ h2 => absurd h2 (Nat.not_lt_zero _)) X.prog X.w X.xe (EP X pins σ Q) ⟨.bl _, H, I, rfl, q⟩
  | cons z zs =>
    cases r1
    refine SeqAt.RcNeAt.lists_lengths t1.isList t2.isList (by rfl) (by omega) X.prog X.w X.xe (EP X pins σ Q) ⟨.bl _, H, I, rfl, q⟩
end
end Sb

/-! l == [] -/
namespace Sb
open PySem PySem.Spec PyProof.Rows L2
section
variable {X : Cx}
def rEqL0 : R2 := fun x y H Q => ∃ a b xs, x = .ref a ∧ y = .ref b ∧ H a = some (.lst xs) ∧ H b = some (.lst []) ∧ Q (.bl xs.isEmpty) H
theorem op_eqL0 (hu : X.A.units + 64 < cLine) : OpR X (compareOp .Eq) rEqL0 := by
  intro pins s σ H x y v u Q I rx ry h
  obtain ⟨a, b, xs, rfl, rfl, ha, hb, q⟩ := h
  cases rx
  cases ry
  obtain ⟨its, r1, t1, _⟩ := I.list (SqL.of (K := X.K) ha)
  obtain ⟨its2, r2, t2, _⟩ := I.list (SqL.of (K := X.K) hb)
  cases r2
  cases xs with
  | nil =>
    cases r1
    refine SeqAt.RcAt.lists (e := fun _ => true) t1.isList t2.isList rfl (by omega) (fun j _ h2 => absurd h2 (Nat.not_lt_zero _)) X.prog X.w X.xe (EP X pins σ Q) ⟨.bl _, H, I, rfl, q⟩
  | cons z zs =>
    cases r1
    refine SeqAt.RcAt.lists_lengths t1.isList t2.isList (by rfl) (by omega) X.prog X.w X.xe (EP X pins σ Q) ⟨.bl _, H, I, rfl, q⟩
end
end Sb

/-! for i, x in enumerate(tuple). -/
namespace Sb
open PySem PySem.Spec PyProof.Rows L2
theorem meets_enumT (a : Addr) (items : Array Value) :
    Meets (Builtin.«enumerate.__new__» ⟨[.type "enumerate", .ref a], []⟩) (fun _ R s => s.heap.IsTuple a items ∧
      R (.ok (.ret (.ref (s.heap.push { cls := .type "tuple_iterator", data := .fields #[.ref a, .int 0 0] }).objs.size)))
        { s with heap := (s.heap.push { cls := .type "tuple_iterator", data := .fields #[.ref a, .int 0 0] }).push { cls := .type "enumerate", data := .fields #[.none, .bool false, .ref s.heap.objs.size, rawInt 0, .none, .none] } }) :=
  .of_wp fun prog w A R s h => by
    obtain ⟨hp, g, d, tk, os⟩ := s
    obtain ⟨h1, h⟩ := h
    have hsub := sub_enumerate
    obtain ⟨⟨c, dct, dt, sl⟩, hl, hc, n, hd⟩ := id h1
    replace hc : c = .type "tuple" := hc
    replace hd : dt = .seq items n := hd
    subst hc hd
    have q1 : ∀ {A' : Around} {E : Value → Shared → Prop} {Q : Value → Shared → Prop}, Q (.ref hp.objs.size) ⟨hp.push { cls := .type "tuple_iterator", data := .fields #[.ref a, .int 0 0] }, g, d, tk, os⟩ → wpAny (model prog w) A' (pyIter (.ref a)) Q E ⟨hp, g, d, tk, os⟩ :=
      fun q => wpAny_pyIter_tuple h1 q
    wp_walk using AutoSeq1.wpAny_loadPart' hl, q1
    refine wpAny_stack_any fun st => wpAny_pure ?_
    split
    · rename_i c _ _ _ _ _
      cases (c == Value.type "enumerate")
      · wp_walk using AutoSeq1.wpAny_loadPart' hl, q1
        exact ⟨_, rfl, h⟩
      · wp_walk using AutoSeq1.wpAny_loadPart' hl, q1
        exact ⟨_, rfl, h⟩
    · wp_walk using AutoSeq1.wpAny_loadPart' hl, q1
      exact ⟨_, rfl, h⟩
section
variable {prog : Program} {w : World} {A : Around} {E : Value → Shared → Prop} {s : Shared}
theorem call_enumT {l : Addr} {items : Array Value} {Q : Value → Shared → Prop} (hL : s.heap.IsTuple l items)
    (h : ∀ h', IsEnum h' (s.heap.objs.size + 1) s.heap.objs.size 0 .none → h'.IsTupleIter s.heap.objs.size l 0 → h'.objs.size = s.heap.objs.size + 2 →
      (∀ b o, s.heap.get? b = some o → h'.get? b = some o) → Q (.ref (s.heap.objs.size + 1)) { s with heap := h' }) :
    wpAny (model prog w) A (call (.type "enumerate") [.ref l]) Q E s := by
  refine callType_new F.called_enumerate (by decide) (F.typeCall_enumerate_1 _) (F.newCall_enumerate_1 _) (fun obj => F.args_object_init_2 obj _) F.entry_enumerate_new
    (meets_enumT l items) ⟨hL, ?_⟩
  have hz : (s.heap.push { cls := .type "tuple_iterator", data := .fields #[.ref l, .int 0 0] }).objs.size = s.heap.objs.size + 1 := Heap.size_push ..
  show _ ∧ _
  rw [hz]
  have he : IsEnum ((s.heap.push { cls := .type "tuple_iterator", data := .fields #[.ref l, .int 0 0] }).push
      { cls := .type "enumerate", data := .fields #[.none, .bool false, .ref s.heap.objs.size, rawInt 0, .none, .none] }) (s.heap.objs.size + 1) s.heap.objs.size 0 .none := by
    have := Heap.get?_push_size (s.heap.push { cls := .type "tuple_iterator", data := .fields #[.ref l, .int 0 0] })
      (o := { cls := .type "enumerate", data := .fields #[.none, .bool false, .ref s.heap.objs.size, rawInt 0, .none, .none] }) rfl
    rw [hz] at this; exact this
  exact ⟨⟨_, he, rfl⟩, h _ he ⟨_, Heap.get?_push_of_some _ (Heap.get?_push_size _ rfl), rfl, rfl⟩ (by rw [Heap.size_push, hz]) fun b o x => Heap.get?_push_of_some _ (Heap.get?_push_of_some _ x)⟩
theorem enumT_end {e it l : Addr} {i : Nat} {items : Array Value} {old : Value} {Q : Option Value → Shared → Prop} (hh : A.handled = none)
    (he : IsEnum s.heap e it i old) (hit : s.heap.IsTupleIter it l i) (hl : s.heap.IsTuple l items) (hx : items[i]? = none)
    (hQ : ∀ h', Heap.ExtBut it s.heap h' → Q none { s with heap := h' }) : wpAny (model prog w) A (pyNext (.ref e)) Q E s := by
  have hT : s.TypeIs (.ref e) "enumerate" := ⟨_, he, rfl⟩
  unfold pyNext
  refine wpAny_bind (wpAny_attempt (wpAny_callSpecial?_slot (name := Str.ofString "__next__") hT F.slot_enumerate_next
    (wpAny_call_entry F.slot_enumerate_next hT F.entry_enumerate_next ?_ (F.args_enumerate_next_1 _))))
  show wpAny _ _ (field (.ref e) 2 >>= _) _ _ _
  refine wpAny_bind (wpAny_field he rfl (x := .ref it) rfl ?_)
  refine wpAny_bind (RZ.nextOf_tuple_end hh hit hl hx fun h' x he' hx' => ?_)
  obtain ⟨o, ho, hc⟩ := hx'
  refine wpAny_bind (wpAny_isInstance (T := "StopIteration") (b := true) ⟨o, ho, hc⟩ isSubtype_stop ?_)
  exact wpAny_pure (hQ _ he')
end
/-- the tuple at a, each item in a new pair -/
def Itet (K : PySem.W.Frag) (a : Addr) : It :=
  ⟨fun i H => ∃ (xs : List V) (x : V), SqT K H a xs ∧ xs[i]? = some x, fun i H v H' => ∃ T x, v = .ref T ∧ H T = none ∧ H' = upd H T (.tup [.int (i : Nat), x]) ∧ ∀ xs, SqT K H a xs → xs[i]? = some x, fun i H => ∃ xs : List V, SqT K H a xs ∧ xs.length ≤ i⟩
theorem turn_enumT {P : Program} {w : World} {K : PySem.W.Frag} {elts : List Expr} {kk : Nat} {tpos : Pos} (a e it : Addr) (nea : e ≠ a) (nia : it ≠ a) :
    Turn P w K (.Tuple elts kk tpos) (Itet K a) [e, it] e (fun i h => (∃ old, IsEnum h e it ((i : Nat) : Int) old) ∧ h.IsTupleIter it a i ∧ e ≠ it) where
  mem := by simp
  obj := fun i h st b hb => by
    obtain ⟨⟨old, he⟩, ⟨o, ho, hc, hd⟩, _⟩ := st
    have e' : b = e ∨ b = it := by simpa using hb
    rcases e' with z | z
    · rw [z]; exact ⟨_, he, fun v q => nomatch q⟩
    · rw [z]; exact ⟨o, ho, fun v q => by rw [hd] at q; cases q⟩
  keep := fun i h h' st k => let ⟨⟨old, he⟩, hi, hne⟩ := st; ⟨⟨old, k e (by simp) _ he⟩, hi.at fun o q => k it (by simp) o q, hne⟩
  item := by
    intro X hP hw hK hc i pins s σ H E I hf st hg
    subst hP hw hK
    obtain ⟨⟨old, he⟩, hit, hne⟩ := st
    obtain ⟨xs, x, hq, hx⟩ := hg
    obtain ⟨its, rv, p, hz⟩ := I.tuple hq
    obtain ⟨u, hu, ru⟩ := rv.get hx
    have hel : e < s.heap.objs.size := Heap.lt_size he
    have hil : it < s.heap.objs.size := by obtain ⟨_, q, _⟩ := hit; exact Heap.lt_size q
    have hlt : i < its.toArray.size := by
      have := (List.getElem?_eq_some_iff.mp hu).1
      simpa using this
    have D := Draws.tuple (prog := X.prog) (w := X.w) (A := X.A.in1) (I.ok.hd hc) it a (Ne.symm nia) its.toArray
    refine wpAny_pyNext_enum_itemD D he ⟨hit, p⟩ hlt hne (by simp [hne, nea]) fun x' h' tk hx' ho hit' hT hsz hk => ?_
    have ex : x' = u := by
      have e1 : its.toArray[i]? = some u := by simpa using hu
      exact Option.some.inj (hx'.symm.trans e1)
    subst ex
    refine ⟨_, rfl, wpAny_letOwnedTupleGo_enum (s := { s with heap := h', toks := tk + 1 }) ho fun h'' he' sb => ?_⟩
    have hT2 : h''.get? s.heap.objs.size = some { cls := .type "tuple", data := .seq #[.int i tk, x'] } := (sb.2 _ (Nat.ne_of_gt hel)).trans hT
    have new : ObjOk X.prog X.w (upd H s.heap.objs.size (.tup [.int (i : Nat), x])) h'' s.heap.objs.size (.tup [.int (i : Nat), x]) :=
      ⟨by show 2 ≤ sizeLine; decide, [.int i tk, x'], .cons ⟨_, rfl⟩ (.cons ru .nil), ⟨_, hT2, rfl, _, rfl⟩⟩
    have I1 : Inv X pins σ (upd H s.heap.objs.size (.tup [.int (i : Nat), x])) { s with heap := h'', toks := tk + 1 } :=
      I.turnedNew (ch := [e, it]) (fun b ob hb q => (sb.2 b (fun z => hb (by simp [z]))).trans (hk b ob (fun z => hb (by simp [z])) (fun z => hb (by simp [z])) q)) hf (Nat.le_refl _) new
    refine ⟨.ref s.heap.objs.size, _, I1, rfl, ⟨_, x, rfl, I.hok.fresh (Nat.le_refl _), rfl, fun ys hy => by rw [I.tuple_inj hy hq]; exact hx⟩, ⟨⟨x', ?_⟩, hit'.1.at fun o q => (sb.2 it (Ne.symm hne)).trans q, hne⟩, fun b hb => ?_⟩
    · have e1 : ((i + 1 : Nat) : Int) = (i : Int) + 1 := by omega
      rw [e1]; exact he'
    · have hb' : b < s.heap.objs.size := by
        have e' : b = e ∨ b = it := by simpa using hb
        rcases e' with z | z
        · rw [z]; exact hel
        · rw [z]; exact hil
      rw [upd_ne (Nat.ne_of_lt hb')]
      exact (hf b hb).1
  done := by
    intro X hP hw hK hc i pins s σ H E I hf st hg
    subst hP hw hK
    obtain ⟨⟨old, he⟩, hit, hne⟩ := st
    obtain ⟨xs, hq, hx⟩ := hg
    obtain ⟨its, rv, p, hz⟩ := I.tuple hq
    obtain ⟨f0, f1, f2, f3, f4, f5⟩ := hf it (by simp)
    have hl := rv.length
    exact enumT_end (I.ok.hd hc) he hit p (by simp; omega) fun h' eb => ⟨rfl, I.turned (t' := s.toks) (fun b o hb q => eb b o hb q) f0 f1 f3 f4 f5⟩
  self := fun A i s Q E st h => let ⟨⟨_, he⟩, _⟩ := st; wpAny_pyIter_enum he h
def iEnumT (K : PySem.W.Frag) (ta : TA) : TI := fun σ H R => ta σ H fun vs H1 => ∃ a xs, vs = [.ref a] ∧ SqT K H1 a xs ∧ R (Itet K a) H1
theorem pi_enumT {X : Cx} {e : Expr} {ta : TA} {p pos tpos : Pos} {elts : List Expr} {kk : Nat} (hg : Gl X "enumerate") (hm : X.mg "enumerate" = none) (ha : PA X [e] ta) (hs : starEach [e] X.env = [(false, eval e X.env)] := by rfl) :
    PI X (.Tuple elts kk tpos) (.Call (.Name "enumerate" p) [e] [] pos) (iEnumT X.K ta) := by
  refine ⟨fun pins s σ H R I h => ?_⟩
  refine Call_ (ld_blt I hg hm boot_enumerate (PyProof.Rows.callWith_type1 (thn (ha.run pos pins s σ H _ I h) fun us s1 ⟨vs, H1, I1, r1, q1⟩ => ?_) hs rfl))
  obtain ⟨a, xs, ex, hq, q⟩ := q1
  subst ex
  cases r1 with
  | cons r rr =>
    cases rr
    cases r
    obtain ⟨its, rv, p', hz⟩ := I1.tuple hq
    refine call_enumT p' fun h' he hit hsz hk => wpAny_pyIter_enum he ?_
    have I2 : Inv X pins σ H1 { s1 with heap := h' } := I1.kept (t' := s1.toks) hk
    have ha : a < s1.heap.objs.size := by obtain ⟨_, z, _⟩ := p'; exact Heap.lt_size z
    refine ⟨s1.heap.objs.size + 1, [s1.heap.objs.size + 1, s1.heap.objs.size], _, _, H1, rfl, I2, turn_enumT a (s1.heap.objs.size + 1) s1.heap.objs.size (Nat.ne_of_gt (Nat.lt_succ_of_lt ha)) (Nat.ne_of_gt ha), ⟨⟨.none, he⟩, hit, Nat.succ_ne_self _⟩, fun b hb => ?_, q⟩
    have e' : b = s1.heap.objs.size + 1 ∨ b = s1.heap.objs.size := by simpa using hb
    have hle : s1.heap.objs.size ≤ b := by
      rcases e' with z | z
      · rw [z]; exact Nat.le_add_right _ _
      · rw [z]; exact Nat.le_refl _
    exact I1.fpOk hle (I1.hok.fresh hle)
theorem walk_enumT {K : PySem.W.Frag} {a : Addr} {xs : List V} : Walk (Itet K a) xs.length (fun H => SqT K H a xs) (YPair (fun i => some (.int (i : Nat))) (fun i => xs[i]?)) := by
  refine ⟨fun i _ hi q => ⟨xs, xs[i], q, by simp [hi]⟩, fun _ q => ⟨xs, q, Nat.le_refl _⟩, fun i H v H' _ q y => ?_⟩
  obtain ⟨T, x, h1, h2, h3, h4⟩ := y
  exact ⟨T, .int (i : Nat), x, h1, h2, h3, rfl, h4 xs q⟩
end Sb

/-! x = {k: v for ..}, keys ints or texts. -/
namespace Sb
open PySem PySem.Spec PyProof.Rows L2
section
variable {X : Cx}
theorem ps_setDc {i : Nat} {y : Str} {py : Pos} {kx vx tg iter : Expr} {ifs : List Expr} {scope : Scope} {own : List (Str × Nat)} {pos spos : Pos} {wi : TI} {g : TG} {tt : TT} {tk tv : TE} (hc : X.calm = true) (hN : X.N.Nodup) (hy : X.N[i]? = some y) (hyl : X.env.scope.names.lookup y = some .local)
    (hsw : swapsWith (.DictComp kx vx [⟨tg, iter, ifs, 0⟩] scope pos) (some (.Name y py)) spos.line X.env = pure true) (hi : PI X tg iter wi) (ok : BlkOk X.N X.env.scope scope own)
    (hg : ∀ (s : Shared) (H : Hp) (C : Addr) (cl : List (Str × Addr)) (fp : List Addr), PG (X.blk s H scope (compEnvC scope cl C X.env) fp) tg g) (ht : ∀ (s : Shared) (H : Hp) (C : Addr) (cl : List (Str × Addr)) (fp : List Addr), PTs (X.blk s H scope (compEnvC scope cl C X.env) fp) ifs tt)
    (hk : ∀ (s : Shared) (H : Hp) (C : Addr) (cl : List (Str × Addr)) (fp : List Addr), PE (X.blk s H scope (compEnvC scope cl C X.env) fp) kx tk)
    (he : ∀ (s : Shared) (H : Hp) (C : Addr) (cl : List (Str × Addr)) (fp : List Addr), PE (X.blk s H scope (compEnvC scope cl C X.env) fp) vx tv) (hs : ∀ x, foldedSetIterable iter X.env x = pure x := by intro _; rfl) :
    PS X (.Assign [.Name y py] (.DictComp kx vx [⟨tg, iter, ifs, 0⟩] scope pos) spos) (tAsg (tDc wi g tt tk tv (own.map (·.2))) (gName i)) := by
  refine ⟨fun pins s σ H D I h => ?_⟩
  rw [exec_Assign_Name_used _ _ _ _ hsw]
  refine wpAny_bind (wpAny_standAt (wpAny_bind ?_))
  show wpAny _ X.A (do let _ ← comprehension (.DictComp kx vx [⟨tg, iter, ifs, 0⟩] scope pos) scope X.env (firstIterPos [⟨tg, iter, ifs, 0⟩] pos) newDict false (eval iter X.env) (some (assign (.Name y py) X.env))) _ _ s
  have h : tDc wi g tt tk tv (own.map (·.2)) σ H (fun x H1 => gName i x σ H1 D.nx) := h
  refine wpAny_bind (thn (dc_core (Qf := fun _ s' => SP X pins D .next s') hc hN I hi ok hg ht hk he hs h fun L C s' m H' I' q hn f => ?_) fun _ s' hq => wpAny_pure (wpAny_pure hq))
  show wpAny _ _ (assign (.Name y py) X.env (.ref L)) _ _ _
  refine wpAny_assign_Name (store_ok2 (v := V.ref L) I' hN hy (.inl hyl) rfl (fun s2 I2 ⟨a, sb, ha⟩ => ?_) (.inr hyl))
  obtain ⟨f0, f1, f2, f3, f4, f5⟩ := f
  have haC : C ≠ a := by
    rcases ha with z | z
    · rw [z]; exact f1
    · exact fun e => f4 y a z e.symm
  exact ⟨m, hn.sameBut sb haC, fun h3 sb3 => ⟨_, H', I2.turned (t' := s2.toks) (fun b o hb e => (sb3.2 b hb).trans e) f0 f1 f3 f4 f5, q⟩⟩
end
end Sb

namespace Sb
open PySem PySem.Spec PyProof.Rows L2
theorem ne_fr {H : Hp} {a b : Addr} {o : HO} (n : H b = none) (h : H a = some o) : a ≠ b := ne_of_none h n
theorem ne_fr' {H : Hp} {a b : Addr} {o : HO} (n : H b = none) (h : H a = some o) : b ≠ a := (ne_of_none h n).symm
theorem upd_off {H : Hp} {a b : Addr} {o u : HO} (n : b ≠ a) (h : H b = some u) : upd H a o b = some u := by rw [upd_ne n]; exact h
theorem upd_offN {H : Hp} {a b : Addr} {o : HO} (n : b ≠ a) (h : H b = none) : upd H a o b = none := by rw [upd_ne n]; exact h
theorem upd_none {H : Hp} {a b : Addr} {o : HO} (h : upd H a o b = none) : b ≠ a ∧ H b = none := by
  by_cases e : b = a
  · subst e
    rw [upd_same] at h
    cases h
  · rw [upd_ne e] at h
    exact ⟨e, h⟩
local macro_rules | `(tactic| walk_at "ne") => `(tactic| first
  | assumption
  | exact Ne.symm (by assumption)
  | exact ne_fr (by assumption) (by walk_at "hp")
  | exact ne_fr' (by assumption) (by walk_at "hp"))
local macro_rules | `(tactic| walk_at "hp") => `(tactic| first
  | assumption
  | exact upd_same
  | exact upd_off (by walk_at "ne") (by walk_at "hp"))

def top (i : Nat) : Stmt := PySem.Challenge.pw_seenbefore_k96_many_situations_by_hand.main.body.getD i (.Pass ⟨0, 0, 0, 0⟩)
abbrev s_is_integer : Stmt := top 2
abbrev s_is_between : Stmt := top 3
abbrev s_Watcher_init : Stmt := inClass (top 19) 0
abbrev s_Watcher_add_state : Stmt := inClass (top 19) 3
abbrev s_Watcher_add_rule : Stmt := inClass (top 19) 5
abbrev s_Watcher_held_counts : Stmt := inClass (top 19) 8
abbrev s_Watcher_rule_for : Stmt := inClass (top 19) 11
abbrev s_Watcher_require_state : Stmt := inClass (top 19) 12
abbrev s_Watcher_require_word : Stmt := inClass (top 19) 13
abbrev s_require_verdict : Stmt := top 20
abbrev s_is_test : Stmt := top 21
abbrev s_are_sources : Stmt := top 22
abbrev s_is_source : Stmt := top 23
abbrev s_after_message : Stmt := top 27
abbrev s_carried : Stmt := top 28
abbrev s_reached_situations : Stmt := top 33
abbrev s_steps_from : Stmt := top 34
abbrev s_steps_among : Stmt := top 35
abbrev s_held_numbers : Stmt := top 36
abbrev s_equal_places : Stmt := top 37
abbrev s_cases_between : Stmt := top 38
abbrev s_situation_after : Stmt := top 39
abbrev s_value_of : Stmt := top 40
abbrev s_least_other : Stmt := top 41
abbrev s_law_walker : Stmt := top 43
abbrev s_law_ways : Stmt := top 44
abbrev s_law : Stmt := top 45
abbrev s_NotAWord_init : Stmt := inClass (top 5) 0
abbrev s_NotAVerdict_init : Stmt := inClass (top 6) 0
abbrev s_InvalidTest_init : Stmt := inClass (top 7) 0
abbrev s_InvalidSources_init : Stmt := inClass (top 8) 0
abbrev s_UnknownState_init : Stmt := inClass (top 9) 0
abbrev s_RuleExists_init : Stmt := inClass (top 10) 0
abbrev s_LimitExceeded_init : Stmt := inClass (top 11) 0
/-- where all stands -/
structure Tx (K : PySem.W.Frag) (mg : Str → Option Value) where
  Watcher : Cn K mg "Watcher"
  nf_Watcherwords : NoAttr K Watcher.C "words"
  nf_Watcher_verdicts : NoAttr K Watcher.C "_verdicts"
  nf_Watcher_held : NoAttr K Watcher.C "_held"
  nf_Watcher_rules : NoAttr K Watcher.C "_rules"
  is_integer : Dn K mg "is_integer" s_is_integer ["value"]
  is_between : Dn K mg "is_between" s_is_between ["value", "low", "high"]
  Watcher_init : Mn K Watcher.C "__init__" "Watcher.__init__" s_Watcher_init ["self", "words"]
  Watcher_add_state : Mn K Watcher.C "add_state" "Watcher.add_state" s_Watcher_add_state ["self", "verdict", "held"]
  Watcher_add_rule : Mn K Watcher.C "add_rule" "Watcher.add_rule" s_Watcher_add_rule ["self", "state", "word", "test", "target", "sources"]
  Watcher_held_counts : Mn K Watcher.C "held_counts" "Watcher.held_counts" s_Watcher_held_counts ["self"]
  Watcher_rule_for : Mn K Watcher.C "rule_for" "Watcher.rule_for" s_Watcher_rule_for ["self", "state", "word", "test"]
  Watcher_require_state : Mn K Watcher.C "require_state" "Watcher.require_state" s_Watcher_require_state ["self", "state"]
  Watcher_require_word : Mn K Watcher.C "require_word" "Watcher.require_word" s_Watcher_require_word ["self", "word"]
  require_verdict : Dn K mg "require_verdict" s_require_verdict ["verdict"]
  is_test : Dn K mg "is_test" s_is_test ["test", "held"]
  are_sources : Dn K mg "are_sources" s_are_sources ["sources", "wanted", "held", "test"]
  is_source : Dn K mg "is_source" s_is_source ["source", "held", "test"]
  after_message : Dn K mg "after_message" s_after_message ["watcher", "state", "held", "word", "value"]
  carried : Dn K mg "carried" s_carried ["sources", "held", "value"]
  reached_situations : Dn K mg "reached_situations" s_reached_situations ["pair", "situation"]
  steps_from : Dn K mg "steps_from" s_steps_from ["pair", "situation"]
  steps_among : Dn K mg "steps_among" s_steps_among ["pair", "situations"]
  held_numbers : Dn K mg "held_numbers" s_held_numbers ["pair", "situation"]
  equal_places : Dn K mg "equal_places" s_equal_places ["first", "second"]
  cases_between : Dn K mg "cases_between" s_cases_between ["first", "second"]
  situation_after : Dn K mg "situation_after" s_situation_after ["pair", "situation", "held", "word", "case"]
  value_of : Dn K mg "value_of" s_value_of ["case", "first", "second"]
  least_other : Dn K mg "least_other" s_least_other ["values"]
  law_walker : Dn K mg "_law_walker" s_law_walker ["many", "held", "word", "is_first"]
  law_ways : Dn K mg "_law_ways" s_law_ways ["lefts", "rights"]
  mk_Watcher : Mk K Watcher.C Watcher_init.f
  NotAWord : En K mg OwnE.bVE "NotAWord" "word" "NotAWord.__init__"
  NotAVerdict : En K mg OwnE.bVE "NotAVerdict" "verdict" "NotAVerdict.__init__"
  InvalidTest : En K mg OwnE.bVE "InvalidTest" "test" "InvalidTest.__init__"
  InvalidSources : En K mg OwnE.bVE "InvalidSources" "sources" "InvalidSources.__init__"
  UnknownState : En K mg OwnE.bLE "UnknownState" "state" "UnknownState.__init__"
  RuleExists : En K mg OwnE.bRE "RuleExists" "rule" "RuleExists.__init__"
  LimitExceeded : En K mg OwnE.bOE "LimitExceeded" "limit" "LimitExceeded.__init__"
  ck_MOST_WORDS : Tok
  g_MOST_WORDS : mg "MOST_WORDS" = some (.int 3 ck_MOST_WORDS)
  ck_MOST_STATES : Tok
  g_MOST_STATES : mg "MOST_STATES" = some (.int 6 ck_MOST_STATES)
  ck_MOST_HELD : Tok
  g_MOST_HELD : mg "MOST_HELD" = some (.int 3 ck_MOST_HELD)
  ck_MOST_VERDICT : Tok
  g_MOST_VERDICT : mg "MOST_VERDICT" = some (.int 3 ck_MOST_VERDICT)
  ck_NEW : Tok
  g_NEW : mg "NEW" = some (.str "new" ck_NEW)
  ck_VALUE : Tok
  g_VALUE : mg "VALUE" = some (.str "value" ck_VALUE)
  ck_BOTH : Tok
  g_BOTH : mg "BOTH" = some (.str "both" ck_BOTH)
  ck_FIRST : Tok
  g_FIRST : mg "FIRST" = some (.str "first" ck_FIRST)
  ck_SECOND : Tok
  g_SECOND : mg "SECOND" = some (.str "second" ck_SECOND)
  m_abs : mg "abs" = none
  m_enumerate : mg "enumerate" = none
  m_list : mg "list" = none
  m_len : mg "len" = none
  m_range : mg "range" = none
  m_tuple : mg "tuple" = none
  m_isinstance : mg "isinstance" = none
  m_bool : mg "bool" = none
  m_int : mg "int" = none
  m_sorted : mg "sorted" = none
  m_set : mg "set" = none
/-! ### the pen: cells of the script, drawn one by one -/
def cutAll (ns : List Int) (h : ns.length ≤ 63) : cutV (ns.map V.int) none (some 63) = ns.map V.int := by
  unfold cutV
  rw [show HT.sIx (ns.map V.int).length 0 none = 0 from HT.sIx_none _ _, show HT.sIx (ns.map V.int).length (ns.map V.int).length (some 63) = min 63 (ns.map V.int).length from HT.sIx_nat _ _ 63]
  rw [List.drop_zero, Nat.sub_zero, List.length_map, Nat.min_eq_right h]
  exact List.take_of_length_le (by rw [List.length_map]; exact Nat.le_refl _)
/-- but at p, what was tracked is as it was -/
def Keep (p : Addr) (H H' : Hp) : Prop := ∀ b o, H b = some o → b ≠ p → H' b = some o
theorem Keep.refl {p : Addr} {H : Hp} : Keep p H H := fun _ _ h _ => h
theorem Keep.trans {p : Addr} {H H1 H2 : Hp} (a : Keep p H H1) (b : Keep p H1 H2) : Keep p H H2 := fun c o h n => b c o (a c o h n) n
theorem Keep.new {p q : Addr} {H : Hp} {o : HO} (h : H q = none) : Keep p H (upd H q o) := fun b u e _ => by rw [upd_ne (ne_of_none e h)]; exact e
theorem Keep.at {p : Addr} {H H1 : Hp} {o : HO} (a : Keep p H H1) : Keep p H (upd H1 p o) := fun b u e n => by rw [upd_ne n]; exact a b u e n
theorem Keep.same {p : Addr} {H H1 : Hp} (h : Same H H1) : Keep p H H1 := fun b o e _ => h b o e
/-- the pen stands at p, its cells at c -/
def PenIs (H : Hp) (p c : Addr) (ns : List Int) (at_ st : Int) : Prop := H p = some (.lst [.ref c, .int at_, .int st]) ∧ H c = some (.lst (ns.map V.int))
def Pen (H : Hp) (p c : Addr) : Prop := ∃ ns at_ st, PenIs H p c ns at_ st ∧ 0 ≤ at_ ∧ 0 ≤ st ∧ ns.length ≤ 63
theorem PenIs.ne {H : Hp} {p c : Addr} {ns : List Int} {a z : Int} (h : PenIs H p c ns a z) : p ≠ c := by
  refine ne_of h.1 h.2 ?_
  intro e
  cases ns with
  | nil => cases e
  | cons x r => cases e
theorem Pen.ne {H : Hp} {p c : Addr} (h : Pen H p c) : p ≠ c := by
  obtain ⟨_, _, _, h, _⟩ := h
  exact h.ne
theorem Pen.mono {H H' : Hp} {p c : Addr} (h : Pen H p c) (e : Same H H') : Pen H' p c := by
  obtain ⟨ns, a, z, h, r⟩ := h
  exact ⟨ns, a, z, ⟨e _ _ h.1, e _ _ h.2⟩, r⟩
theorem Pen.free {H : Hp} {p c q : Addr} (h : Pen H p c) (e : H q = none) : p ≠ q ∧ c ≠ q := by
  obtain ⟨ns, a, z, h, r⟩ := h
  exact ⟨ne_of_none h.1 e, ne_of_none h.2 e⟩
theorem Pen.tups {H H' : Hp} {p c : Addr} (h : Pen H p c) (k : Keep p H H') : Tups H H' := fun a xs e => by
  obtain ⟨ns, x, z, ⟨h1, _⟩, _⟩ := h
  exact k a _ e (ne_of e h1 (fun z => by cases z))
theorem Pen.at {H : Hp} {p c : Addr} (h : Pen H p c) : ∃ l, H p = some (.lst l) := by
  obtain ⟨ns, x, z, ⟨h1, _⟩, _⟩ := h
  exact ⟨_, h1⟩
theorem Pen.put {H : Hp} {p c a : Addr} {o : HO} (h : Pen H p c) (n1 : a ≠ p) (n2 : a ≠ c) : Pen (upd H a o) p c := by
  obtain ⟨ns, x, z, ⟨h1, h2⟩, r⟩ := h
  exact ⟨ns, x, z, ⟨by rw [upd_ne n1.symm]; exact h1, by rw [upd_ne n2.symm]; exact h2⟩, r⟩
def sp_law_pen (K : PySem.W.Frag) : Sp := fun vs H Q _ => ∃ (a : Addr) (ns : List Int), vs = [.ref a] ∧ SqL K H a (ns.map V.int) ∧ ns.length ≤ 63 ∧
  ∀ p c H', Same H H' → H p = none → H c = none → Pen H' p c → Q (.ref p) H'
def sp_law_fresh : Sp := fun vs H Q _ => ∃ (p c : Addr) (ns : List Int) (a z : Int), vs = [.ref p] ∧ PenIs H p c ns a z ∧ 0 ≤ a ∧ ns.length ≤ 63 ∧
  ∀ r H', 0 ≤ r → Keep p H H' → PenIs H' p c ns (a + 1) z → Q (.int r) H'
def sp_law_draw : Sp := fun vs H Q _ => ∃ (p c : Addr) (many : Int), vs = [.ref p, .int many] ∧ Pen H p c ∧ 0 < many ∧ many < 2 ^ 100 ∧
  ∀ d H', 0 ≤ d → d < many → Keep p H H' → Pen H' p c → Q (.int d) H'

/-! ### integers -/
/-- an integer from lo to hi -/
def btw (d : PyData) (lo hi : Int) : Bool := match d with
  | .int n => decide (lo ≤ n) && decide (n ≤ hi)
  | _ => false
def isI (d : PyData) : Bool := isIntD d && !isBoolD d
def sp_is_integer : Sp := fun vs H Q _ => ∃ (p : Addr) (v : V) (d : PyData), vs = [v] ∧ LD p H v d ∧ Q (.bl (isI d)) H
def sp_is_between : Sp := fun vs H Q _ => ∃ (p : Addr) (v : V) (d : PyData) (lo hi : Int), vs = [v, .int lo, .int hi] ∧ LD p H v d ∧ Q (.bl (btw d lo hi)) H
section
variable {P : Program} {w : World} {K : PySem.W.Frag} {mg : Str → Option Value} {base : Heap}
abbrev N_is_integer : List Str := ["value"]
theorem sc_is_integer : FnScope N_is_integer ["value"] (defScope s_is_integer) := ⟨rfl, rfl, rfl, by decide +kernel, rfl, by decide +kernel, by decide +kernel⟩
theorem ok_is_integer {f : Addr} {fd : FuncData} {k : Nat} (F : Fun K "is_integer" "is_integer" s_is_integer f fd) (m_isinstance : mg "isinstance" = none) (m_int : mg "int" = none) (m_bool : mg "bool" = none) : FnG P w K mg base CX0 (k + 1) f fd ["value"] sp_is_integer := by
  refine okG F sc_is_integer (fun vs H Q E h => ?_) (fun cdv A outer s H vs Q E gd hr h => ?_)
  · obtain ⟨p, v, d, rfl, _⟩ := h
    rfl
  · obtain ⟨p, v, d, rfl, hv, q⟩ := h
    refine ⟨_, 
      (pss_one (ps_ret (pe_and (pe_callB (call_isL kit_int) (by rfl) m_isinstance (by decide +kernel) (pa_cons (pv 0) (pa_cons (pe_bltn (v := .ty "int") (by rfl) m_int (by decide +kernel) (show RelV (.ty "int") (.type "int") from rfl)) pa_nil))) (pe_one (pe_not (pe_callB (call_isL kit_bool) (by rfl) m_isinstance (by decide +kernel) (pa_cons (pv 0) (pa_cons (pe_bltn (v := .ty "bool") (by rfl) m_bool (by decide +kernel) (show RelV (.ty "bool") (.type "bool") from rfl)) pa_nil)))))))) -- return isinstance(value, int) and (not isinstance(value, bool))
       , ?_⟩
    refine ⟨v, rfl, p, v, d, rfl, hv, _, rfl, ?_⟩
    unfold isI at q
    cases hi : isIntD d with
    | false =>
      rw [hi] at q
      exact q
    | true =>
      rw [hi] at q
      exact ⟨v, rfl, p, v, d, rfl, hv, _, rfl, q⟩
abbrev N_is_between : List Str := ["value", "low", "high"]
theorem sc_is_between : FnScope N_is_between ["value", "low", "high"] (defScope s_is_between) := ⟨rfl, rfl, rfl, by decide +kernel, rfl, by decide +kernel, by decide +kernel⟩
theorem ok_is_between {f f_is_integer : Addr} {fd fd_is_integer : FuncData} (F : Fun K "is_between" "is_between" s_is_between f fd) (F_is_integer : Fun K "is_integer" "is_integer" s_is_integer f_is_integer fd_is_integer) (b_is_integer : Binds K fd_is_integer ["value"] [])
    (g_is_integer : mg "is_integer" = some (.ref f_is_integer)) (m_isinstance : mg "isinstance" = none) (m_int : mg "int" = none) (m_bool : mg "bool" = none) : FnG P w K mg base CX0 2 f fd ["value", "low", "high"] sp_is_between := by
  have G_is_integer : FnG P w K mg base CX0 1 f_is_integer fd_is_integer ["value"] sp_is_integer := ok_is_integer F_is_integer m_isinstance m_int m_bool
  refine okG F sc_is_between (fun vs H Q E h => ?_) (fun cdv A outer s H vs Q E gd hr h => ?_)
  · obtain ⟨p, v, d, lo, hi, rfl, _⟩ := h
    rfl
  · obtain ⟨p, v, d, lo, hi, rfl, hv, q⟩ := h
    refine ⟨_, 
      (pss_one (ps_ret (pe_and (pe_callG G_is_integer gd (hr.mono (by decide)) rfl g_is_integer F_is_integer.kp b_is_integer .nil pass0 (pa_cons (pv 0) pa_nil)) (pe_one (pe_chain op_le op_le (pv 1) (pv 0) (pv 2)))))) -- return is_integer(value) and low <= value <= high
       , ?_⟩
    refine ⟨v, rfl, p, v, d, rfl, hv, _, rfl, ?_⟩
    cases hv with
    | int n => 
      refine ⟨.int lo, rfl, .int n, rfl, lo, n, rfl, rfl, _, rfl, ite2 (fun h1 => ?_) (fun h1 => ?_)⟩
      · refine ⟨.int hi, rfl, n, hi, rfl, rfl, ?_⟩
        have q' : Q (.bl (decide (lo ≤ n) && decide (n ≤ hi))) H := q
        rw [h1] at q'
        exact q'
      · have q' : Q (.bl (decide (lo ≤ n) && decide (n ≤ hi))) H := q
        rw [Bool.eq_false_iff.mpr h1] at q'
        exact q'
    | _ => exact q
end

/-! ### watchers -/
def wf (n : Int) (lv lh d : Addr) : List (Str × V) := [("words", .int n), ("_verdicts", .ref lv), ("_held", .ref lh), ("_rules", .ref d)]
/-- a rule's name: state, word, test -/
def RK (k : List Key) : Prop := ∃ (i j : Int) (t : Key), k = [Sum.inl i, Sum.inl j, t] ∧ ((∃ r, t = Sum.inl r) ∨ t = Sum.inr ("new" : Str))
abbrev Rows := List (List Key × PyData)
abbrev KvD (H : Hp) : List (List Key × V) → Rows → Prop := Paired fun p q => p.1 = q.1 ∧ TD H p.2 q.2
theorem KvD.mono {H H' : Hp} {kvs : List (List Key × V)} {R : Rows} (t : Tups H H') (h : KvD H kvs R) : KvD H' kvs R := Paired.mapP h fun _ _ z => ⟨z.1, TD.mono t _ z.2⟩
theorem KvD.keys {H : Hp} {kvs : List (List Key × V)} {R : Rows} (h : KvD H kvs R) : kvs.map (·.1) = R.map (·.1) := by
  induction h with
  | nil => rfl
  | cons a _ ih => rw [List.map_cons, List.map_cons, a.1, ih]
structure WAt (C : Addr) (H : Hp) (x lv lh d : Addr) (n : Int) (vs hs : List Int) (R : Rows) : Prop where
  ins : ∃ dx, H x = some (.ins C dx (wf n lv lh d))
  ver : H lv = some (.lst (vs.map V.int))
  hel : H lh = some (.lst (hs.map V.int))
  rul : ∃ kvs, H d = some (.dT kvs) ∧ KvD H kvs R
  ne : lv ≠ lh
  rk : ∀ k ∈ R.map (·.1), RK k
  nd : (R.map (·.1)).Nodup
  len : vs.length = hs.length ∧ vs.length ≤ 6 ∧ R.length ≤ 1000
theorem WAt.mono {C : Addr} {H H' : Hp} {x lv lh d : Addr} {n : Int} {vs hs : List Int} {R : Rows} (h : WAt C H x lv lh d n vs hs R) (s : Same H H') : WAt C H' x lv lh d n vs hs R := by
  obtain ⟨⟨dx, a⟩, b, c, ⟨kvs, e, f⟩, g, i, j, l⟩ := h
  exact ⟨⟨dx, s _ _ a⟩, s _ _ b, s _ _ c, ⟨kvs, s _ _ e, f.mono (Tups.same s)⟩, g, i, j, l⟩
theorem btw_int {d : PyData} {lo hi : Int} (h : btw d lo hi = true) : ∃ n, d = .int n ∧ lo ≤ n ∧ n ≤ hi := by
  cases d with
  | int n =>
    have h' : (decide (lo ≤ n) && decide (n ≤ hi)) = true := h
    simp only [Bool.and_eq_true, decide_eq_true_eq] at h'
    exact ⟨n, rfl, h'.1, h'.2⟩
  | _ => cases h
abbrev w1 (n : Int) : List (Str × V) := [("words", .int n)]
abbrev w2 (n : Int) (lv : Addr) : List (Str × V) := [("words", .int n), ("_verdicts", .ref lv)]
abbrev w3 (n : Int) (lv lh : Addr) : List (Str × V) := [("words", .int n), ("_verdicts", .ref lv), ("_held", .ref lh)]
theorem wf2 (n : Int) (lv : Addr) : putF "_verdicts" (.ref lv) (w1 n) = (w2 n lv) := by
  unfold putF
  rw [if_neg (by decide)]
  rfl
theorem wf3 (n : Int) (lv lh : Addr) : putF "_held" (.ref lh) (w2 n lv) = (w3 n lv lh) := by
  unfold putF
  rw [if_neg (by decide)]
  unfold putF
  rw [if_neg (by decide)]
  rfl
theorem wf4 (n : Int) (lv lh d : Addr) : putF "_rules" (.ref d) (w3 n lv lh) = wf n lv lh d := by
  unfold putF
  rw [if_neg (by decide)]
  unfold putF
  rw [if_neg (by decide)]
  unfold putF
  rw [if_neg (by decide)]
  rfl
def sp_W_init (C CL : Addr) : Sp := fun vs H Q E => ∃ (p x dx : Addr) (v : V) (d : PyData), vs = [.ref x, v] ∧ H x = some (.ins C dx []) ∧ LD p H v d ∧
  (∀ n, d = .int n → 1 ≤ n → n ≤ 3 → ∀ H' lv lh dd, But x H H' → H lv = none → H lh = none → H dd = none → WAt C H' x lv lh dd n [0] [0] [] → Q .non H') ∧
  (btw d 1 3 = false → ∀ e, H e = none → E (.ref CL) (some e) (upd H e (.xd [(("limit" : Str), .int 3)])))
/-- the fields' names are no names of the class -/
structure WCls (K : PySem.W.Frag) (C : Addr) : Prop where
  cl : Cls K C
  n1 : NoAttr K C "words"
  n2 : NoAttr K C "_verdicts"
  n3 : NoAttr K C "_held"
  n4 : NoAttr K C "_rules"
section
variable {P : Program} {w : World} {K : PySem.W.Frag} {mg : Str → Option Value} {base : Heap}
abbrev N_Watcher_init : List Str := ["self", "words"]
theorem sc_Watcher_init : FnScope N_Watcher_init ["self", "words"] (defScope s_Watcher_init) := ⟨rfl, rfl, rfl, by decide +kernel, rfl, by decide +kernel, by decide +kernel⟩
theorem ok_Watcher_init {f f_is_between C CL iL : Addr} {fd fd_is_between : FuncData} {t3 : Tok} (F : Fun K "__init__" "Watcher.__init__" s_Watcher_init f fd) (F_is_between : Fun K "is_between" "is_between" s_is_between f_is_between fd_is_between) (b_is_between : Binds K fd_is_between ["value", "low", "high"] [])
    (g_is_between : mg "is_between" = some (.ref f_is_between)) (G_is_between : FnG P w K mg base CX0 2 f_is_between fd_is_between ["value", "low", "high"] sp_is_between) (T_LimitExceeded : L2.ErrOk OwnE.bOE "LimitExceeded" "limit" "LimitExceeded.__init__" K mg CL iL) (g_MOST_WORDS : mg "MOST_WORDS" = some (.int 3 t3)) (W : WCls K C) :
    FnG P w K mg base (L2.CX P w) 3 f fd ["self", "words"] (sp_W_init C CL) := by
  refine okGX F sc_Watcher_init (fun vs H Q E h => ?_) (fun cdv A outer s H vs Q E gd hr h => ?_)
  · obtain ⟨p, x, dx, v, d, rfl, _⟩ := h
    rfl
  · obtain ⟨p, x, dx, v, d, rfl, hx, hv, q1, q2⟩ := h
    have hr1 : Room 1 _ := hr.mono (by decide)
    refine ⟨_, 
      (pss_cons (ps_if (pt_not (pt_val (pe_callG G_is_between gd (hr.mono (by decide)) rfl g_is_between F_is_between.kp b_is_between .nil pass0 (pa_cons (pv 1) (pa_cons pe_int (pa_cons (pe_glob (v := .int 3) rfl g_MOST_WORDS ⟨_, rfl⟩) pa_nil)))))) 
        (pss_one (L2.ps_raiseE (W := fun cls d _ H => E cls d H) rfl T_LimitExceeded hr1 (takes_of rfl rfl rfl rfl) (by exact (pa_cons (pe_glob (v := .int 3) rfl g_MOST_WORDS ⟨_, rfl⟩) pa_nil)))) -- raise LimitExceeded(MOST_WORDS)
         pss_nil) -- if not is_between(words, 1, MOST_WORDS):
      (pss_cons (ps_fld (pv 0) (pv 1) rfl) -- self.words = words
      (pss_cons (ps_fld (pv 0) (pe_lst (pa_cons pe_int pa_nil)) rfl) -- self._verdicts = [0]
      (pss_cons (ps_fld (pv 0) (pe_lst (pa_cons pe_int pa_nil)) rfl) -- self._held = [0]
      (pss_one (ps_fld (pv 0) pe_dnewT rfl)) -- self._rules = {}
      )))) , ?_⟩
    refine ⟨v, rfl, p, v, d, 1, 3, rfl, hv, _, rfl, ?_⟩
    cases hb : btw d 1 3 with
    | false => exact ⟨.int 3, rfl, fun e he => q2 hb e he⟩
    | true =>
      obtain ⟨n, rfl, n0, n1⟩ := btw_int hb
      cases hv
      -- self.words = words
      refine ⟨.int n, rfl, .ref x, rfl, x, C, dx, [], rfl, hx, W.cl, W.n1, (by show 0 < 1000; decide), ?_⟩
      rw [show putF "words" (.int n) [] = (w1 n) from rfl]
      have b1 : But x H (upd H x (.ins C dx (w1 n))) := fun b o e ne => by rw [upd_ne ne]; exact e
      have hx1 : upd H x (.ins C dx (w1 n)) x = some (.ins C dx (w1 n)) := upd_same
      have nn : ∀ a, upd H x (.ins C dx (w1 n)) a = none → H a = none ∧ a ≠ x := fun a e => ⟨(upd_none e).2, (upd_none e).1⟩
      generalize upd H x (.ins C dx (w1 n)) = H1 at b1 hx1 nn
      -- self._verdicts = [0]
      refine ⟨by show 1 ≤ sizeLine; decide, fun lv nv => ?_⟩
      have xv : x ≠ lv := ne_of_none hx1 nv
      have hx2 : upd H1 lv (.lst [.int 0]) x = some (.ins C dx (w1 n)) := by rw [upd_ne xv]; exact hx1
      refine ⟨.ref x, rfl, x, C, dx, _, rfl, hx2, W.cl, W.n2, (by show 1 < 1000; decide), ?_⟩
      rw [wf2]
      have hv3 : upd (upd H1 lv (.lst [.int 0])) x (.ins C dx (w2 n lv)) lv = some (.lst [.int 0]) := by rw [upd_ne xv.symm]; exact upd_same
      have hx3 : upd (upd H1 lv (.lst [.int 0])) x (.ins C dx (w2 n lv)) x = some (.ins C dx (w2 n lv)) := upd_same
      have b3 : But x H (upd (upd H1 lv (.lst [.int 0])) x (.ins C dx (w2 n lv))) := fun b o e ne => by
        rw [upd_ne ne, upd_ne (ne_of_none (b1 b o e ne) nv)]
        exact b1 b o e ne
      have nv0 := (nn lv nv).1
      have nn3 : ∀ a, upd (upd H1 lv (.lst [.int 0])) x (.ins C dx (w2 n lv)) a = none → H a = none := fun a e => (nn a (upd_none (upd_none e).2).2).1
      generalize upd (upd H1 lv (.lst [.int 0])) x (.ins C dx (w2 n lv)) = H3 at hv3 hx3 b3 nn3
      -- self._held = [0]
      refine ⟨by show 1 ≤ sizeLine; decide, fun lh nh => ?_⟩
      have xh : x ≠ lh := ne_of_none hx3 nh
      have vh : lv ≠ lh := ne_of_none hv3 nh
      have hx4 : upd H3 lh (.lst [.int 0]) x = some (.ins C dx (w2 n lv)) := by rw [upd_ne xh]; exact hx3
      refine ⟨.ref x, rfl, x, C, dx, _, rfl, hx4, W.cl, W.n3, (by show 2 < 1000; decide), ?_⟩
      rw [wf3]
      have xv3 : x ≠ lv := ne_of hx3 hv3 (fun z => nomatch z)
      have hv5 : upd (upd H3 lh (.lst [.int 0])) x (.ins C dx (w3 n lv lh)) lv = some (.lst [.int 0]) := by rw [upd_ne xv3.symm, upd_ne vh]; exact hv3
      have hh5 : upd (upd H3 lh (.lst [.int 0])) x (.ins C dx (w3 n lv lh)) lh = some (.lst [.int 0]) := by rw [upd_ne xh.symm]; exact upd_same
      have hx5 : upd (upd H3 lh (.lst [.int 0])) x (.ins C dx (w3 n lv lh)) x = some (.ins C dx (w3 n lv lh)) := upd_same
      have b5 : But x H (upd (upd H3 lh (.lst [.int 0])) x (.ins C dx (w3 n lv lh))) := fun b o e ne => by
        rw [upd_ne ne, upd_ne (ne_of_none (b3 b o e ne) nh)]
        exact b3 b o e ne
      have nh0 := nn3 lh nh
      have nn5 : ∀ a, upd (upd H3 lh (.lst [.int 0])) x (.ins C dx (w3 n lv lh)) a = none → H a = none := fun a e => nn3 a (upd_none (upd_none e).2).2
      generalize upd (upd H3 lh (.lst [.int 0])) x (.ins C dx (w3 n lv lh)) = H5 at hv5 hh5 hx5 b5 nn5
      -- self._rules = {}
      intro dd ndd
      have xd : x ≠ dd := ne_of_none hx5 ndd
      have hx6 : upd H5 dd (.dT []) x = some (.ins C dx (w3 n lv lh)) := by rw [upd_ne xd]; exact hx5
      refine ⟨.ref x, rfl, x, C, dx, _, rfl, hx6, W.cl, W.n4, (by show 3 < 1000; decide), ?_⟩
      rw [wf4]
      have xv5 : x ≠ lv := ne_of hx5 hv5 (fun z => nomatch z)
      have xh5 : x ≠ lh := ne_of hx5 hh5 (fun z => nomatch z)
      refine q1 n rfl n0 n1 _ lv lh dd (fun b o e ne => ?_) nv0 nh0 (nn5 dd ndd) { ins := ⟨dx, upd_same⟩, ver := ?_, hel := ?_, rul := ⟨[], ?_, .nil⟩, ne := vh, rk := (fun _ z => by cases z), nd := List.nodup_nil, len := ⟨rfl, by decide, by decide⟩ }
      · rw [upd_ne ne, upd_ne (ne_of_none (b5 b o e ne) ndd)]
        exact b5 b o e ne
      · rw [upd_ne xv5.symm, upd_ne (ne_of_none hv5 ndd)]
        exact hv5
      · rw [upd_ne xh5.symm, upd_ne (ne_of_none hh5 ndd)]
        exact hh5
      · rw [upd_ne xd.symm]
        exact upd_same
end

/-! ### plans -/
def kD : Key → PyData
  | .inl n => .int n
  | .inr s => .str s
theorem TDs.keys {H : Hp} : ∀ {ks : List Key}, TDs H (ks.map kV) (ks.map kD)
  | [] => .nil
  | .inl n :: r => .cons (.int n) TDs.keys
  | .inr s :: r => .cons (.str s) TDs.keys
abbrev PRule := List Key × (Int × List Key)
def ruleD (r : Int × List Key) : PyData := .tuple [.int r.1, .tuple (r.2.map kD)]
def rowsOf (R : List PRule) : Rows := R.map fun p => (p.1, ruleD p.2)
theorem rowsOf_keys (R : List PRule) : (rowsOf R).map (·.1) = R.map (·.1) := by
  unfold rowsOf
  rw [List.map_map]
  rfl
theorem rowsOf_snoc (R : List PRule) (r : PRule) : rowsOf (R ++ [r]) = rowsOf R ++ [(r.1, ruleD r.2)] := by
  unfold rowsOf
  rw [List.map_append]
  rfl
def heldAt (ks : List (Int × Int)) (i : Int) : Int := ((ks[i.toNat]?).getD (0, 0)).2
def TestOk (h : Int) (t : Key) : Prop := (∃ n : Int, t = Sum.inl n ∧ 0 ≤ n ∧ n < h) ∨ t = Sum.inr ("new" : Str)
def SrcAt (h : Int) (t : Key) (k : Key) : Prop := (∃ n : Int, k = Sum.inl n ∧ 0 ≤ n ∧ n < h) ∨ (k = Sum.inr ("value" : Str) ∧ t = Sum.inr ("new" : Str))
structure SrcOk (h : Int) (t : Key) (m : Int) (ks : List Key) : Prop where
  len : (ks.length : Int) = m
  nd : ks.Nodup
  all : ∀ k ∈ ks, SrcAt h t k
def RuleOk (w : Int) (kinds : List (Int × Int)) (r : PRule) : Prop := ∃ (i j : Int) (t : Key), r.1 = [Sum.inl i, Sum.inl j, t] ∧ 0 ≤ i ∧ i < kinds.length ∧ 0 ≤ j ∧ j < w ∧ TestOk (heldAt kinds i) t ∧ 0 ≤ r.2.1 ∧ r.2.1 < kinds.length ∧ SrcOk (heldAt kinds i) t (heldAt kinds r.2.1) r.2.2
structure KindsOk (kinds : List (Int × Int)) : Prop where
  len : 1 ≤ kinds.length ∧ kinds.length ≤ 6
  zero : heldAt kinds 0 = 0
  all : ∀ k ∈ kinds, 0 ≤ k.1 ∧ k.1 ≤ 3 ∧ 0 ≤ k.2 ∧ k.2 ≤ 3
structure Plan where
  words : Int
  kinds : List (Int × Int)
  rules : List PRule
structure PlanOk (P : Plan) : Prop where
  w : 1 ≤ P.words ∧ P.words ≤ 3
  k : KindsOk P.kinds
  r : ∀ r ∈ P.rules, RuleOk P.words P.kinds r
  nd : (P.rules.map (·.1)).Nodup
  len : P.rules.length ≤ 100
structure PlanAt (H : Hp) (l kl rl : Addr) (P : Plan) : Prop where
  at_ : H l = some (.lst [.int P.words, .ref kl, .ref rl])
  kin : ∃ vs, H kl = some (.lst vs) ∧ TDs H vs (P.kinds.map msgD)
  rul : ∃ kvs, H rl = some (.dT kvs) ∧ KvD H kvs (rowsOf P.rules)
theorem PlanAt.mono {H H' : Hp} {l kl rl : Addr} {P : Plan} (h : PlanAt H l kl rl P) (s : Same H H') : PlanAt H' l kl rl P := by
  obtain ⟨a, ⟨vs, b, c⟩, ⟨kvs, d, e⟩⟩ := h
  exact ⟨s _ _ a, ⟨vs, s _ _ b, c.mono (Tups.same s)⟩, ⟨kvs, s _ _ d, e.mono (Tups.same s)⟩⟩
theorem Keep.put {p a : Addr} {H H1 : Hp} {o : HO} (k : Keep p H H1) (n : H a = none) : Keep p H (upd H1 a o) := fun b u e nb => by
  rw [upd_ne (ne_of_none e n)]
  exact k b u e nb
theorem Keep.free {p a : Addr} {H H1 : Hp} (k : Keep p H H1) (hp : H1 p ≠ none) (n : H1 a = none) : H a = none := by
  cases e : H a with
  | none => rfl
  | some o =>
    by_cases q : a = p
    · subst q
      exact absurd n hp
    · rw [k a o e q] at n
      cases n
theorem Pen.some' {H : Hp} {p c : Addr} (h : Pen H p c) : H p ≠ none := by
  obtain ⟨l, e⟩ := h.at
  rw [e]
  exact fun z => nomatch z
/-- the plan stands, but for what the pen does -/
theorem PlanAt.but {H H' : Hp} {p c l kl rl : Addr} {P : Plan} (h : PlanAt H l kl rl P) (hP : Pen H p c) (b : Keep p H H') (n1 : l ≠ p) (n2 : kl ≠ p) : PlanAt H' l kl rl P := by
  obtain ⟨u, hp⟩ := hP.at
  obtain ⟨a, ⟨vs, e, f⟩, ⟨kvs, g, i⟩⟩ := h
  exact ⟨b _ _ a n1, ⟨vs, b _ _ e n2, f.mono (hP.tups b)⟩, ⟨kvs, b _ _ g (ne_of g hp (fun z => nomatch z)), i.mono (hP.tups b)⟩⟩
theorem ixN_at {n j : Nat} (hj : j < n) : ixN n (j : Int) = some j := by
  unfold ixN
  rw [if_pos (by omega), if_pos (by omega)]
  simp
theorem seqIx {n k : Nat} (h : k < n) : seqIndex? (k : Int) n = some k := (ixN_seq (ixN_at h)).1
theorem erase_perm {α : Type} : ∀ (l : List α) (k : Nat) (h : k < l.length), (l[k] :: l.eraseIdx k).Perm l
  | x :: r, 0, _ => List.Perm.refl _
  | x :: r, k + 1, h => (List.Perm.swap x (r[k]'(Nat.lt_of_succ_lt_succ h)) _).trans (List.Perm.cons x (erase_perm r k (Nat.lt_of_succ_lt_succ h)))
theorem erase_map {α β : Type} (f : α → β) : ∀ (l : List α) (k : Nat), (l.map f).eraseIdx k = (l.eraseIdx k).map f
  | [], k => by cases k <;> rfl
  | x :: r, 0 => rfl
  | x :: r, k + 1 => by simp only [List.map_cons, List.eraseIdx_cons_succ, erase_map f r k]
def sp_law_some_sources : Sp := fun vs H Q _ => ∃ (p c : Addr) (h m : Int) (t : Key), vs = [.ref p, .int h, kV t, .int m] ∧ Pen H p c ∧ 0 ≤ h ∧ h ≤ 3 ∧ 0 ≤ m ∧ m ≤ 3 ∧ TestOk h t ∧
  ∀ v H', Keep p H H' → Pen H' p c → (v = .non ∨ ∃ a ks, v = .ref a ∧ H' a = some (.tup (ks.map kV)) ∧ SrcOk h t m ks) → Q v H'
def pick (rs fs : List Key) (h : Int) (t : Key) : Prop := (rs ++ fs).Nodup ∧ ∀ k ∈ rs ++ fs, SrcAt h t k
theorem pick_step {rs fs : List Key} {h : Int} {t : Key} (hp : pick rs fs h t) {k : Nat} (hk : k < rs.length) : pick (rs.eraseIdx k) (fs ++ [rs[k]]) h t := by
  have e : (rs.eraseIdx k ++ (fs ++ [rs[k]])).Perm (rs ++ fs) := by
    have e1 : (rs.eraseIdx k ++ (fs ++ [rs[k]])).Perm ((fs ++ [rs[k]]) ++ rs.eraseIdx k) := List.perm_append_comm
    have e2 : ((fs ++ [rs[k]]) ++ rs.eraseIdx k) = fs ++ (rs[k] :: rs.eraseIdx k) := by rw [List.append_assoc]; rfl
    have e3 : (rs[k] :: rs.eraseIdx k).Perm rs := erase_perm rs k hk
    rw [e2] at e1
    exact e1.trans ((List.Perm.append_left fs e3).trans List.perm_append_comm)
  exact ⟨e.nodup_iff.mpr hp.1, fun x hx => hp.2 x (e.mem_iff.mp hx)⟩
theorem rgV_keys {h : Int} : rgV 0 h = ((List.range h.toNat).map fun i : Nat => (Sum.inl (i : Int) : Key)).map kV := by
  unfold rgV
  rw [List.map_map]
  simp only [Int.sub_zero]
  refine List.map_congr_left fun i _ => ?_
  show V.int (0 + (i : Int)) = V.int i
  rw [Int.zero_add]
theorem pick_rg {h : Int} {t : Key} (h0 : 0 ≤ h) : pick ((List.range h.toNat).map fun i : Nat => (Sum.inl (i : Int) : Key)) [] h t := by
  refine ⟨?_, fun k hk => ?_⟩
  · rw [List.append_nil]
    refine List.Pairwise.map _ (fun a b hab e => ?_) List.nodup_range
    have := Sum.inl.inj e
    omega
  · rw [List.append_nil] at hk
    obtain ⟨i, hi, rfl⟩ := List.mem_map.mp hk
    have := List.mem_range.mp hi
    exact .inl ⟨i, rfl, by omega, by omega⟩
theorem map_set_erase {rs : List Key} (k : Nat) : (rs.map kV).eraseIdx k = (rs.eraseIdx k).map kV := erase_map _ _ _
section
variable {P : Program} {w : World} {K : PySem.W.Frag} {mg : Str → Option Value} {base : Heap}
end

/-! ### plans are drawn -/
def putP (R : List PRule) (k : List Key) (v : Int × List Key) : List PRule :=
  if (R.any fun r => decide (r.1 = k)) = true then R.map (fun r => if r.1 = k then (r.1, v) else r) else R ++ [(k, v)]
theorem putP_keys (R : List PRule) (k : List Key) (v : Int × List Key) : (k ∈ R.map (·.1) → (putP R k v).map (·.1) = R.map (·.1)) ∧ (k ∉ R.map (·.1) → (putP R k v).map (·.1) = R.map (·.1) ++ [k]) := by
  unfold putP
  by_cases h : (R.any fun r => decide (r.1 = k)) = true
  · have hm : k ∈ R.map (·.1) := by
      obtain ⟨r, hr, e⟩ := List.any_eq_true.mp h
      exact List.mem_map.mpr ⟨r, hr, of_decide_eq_true e⟩
    refine ⟨fun _ => ?_, fun z => absurd hm z⟩
    rw [if_pos h, List.map_map]
    refine List.map_congr_left fun r _ => ?_
    show (if r.1 = k then (r.1, v) else r).1 = r.1
    split <;> rfl
  · have hm : k ∉ R.map (·.1) := fun z => h (by
      obtain ⟨r, hr, e⟩ := List.mem_map.mp z
      exact List.any_eq_true.mpr ⟨r, hr, decide_eq_true e⟩)
    refine ⟨fun z => absurd z hm, fun _ => ?_⟩
    rw [if_neg h, List.map_append]
    rfl
theorem putP_nodup {R : List PRule} {k : List Key} {v : Int × List Key} (h : (R.map (·.1)).Nodup) : ((putP R k v).map (·.1)).Nodup := by
  by_cases hm : k ∈ R.map (·.1)
  · rw [(putP_keys R k v).1 hm]
    exact h
  · rw [(putP_keys R k v).2 hm]
    refine List.nodup_append.mpr ⟨h, by simp, fun a ha b hb => ?_⟩
    rw [List.mem_singleton] at hb
    subst hb
    rintro rfl
    exact hm ha
theorem putP_len (R : List PRule) (k : List Key) (v : Int × List Key) : (putP R k v).length ≤ R.length + 1 := by
  unfold putP
  split
  · rw [List.length_map]
    exact Nat.le_succ _
  · rw [List.length_append]
    exact Nat.le_refl _
theorem putP_mem {R : List PRule} {k : List Key} {v : Int × List Key} {r : PRule} (h : r ∈ putP R k v) : r ∈ R ∨ r = (k, v) := by
  unfold putP at h
  split at h
  · obtain ⟨s, hs, rfl⟩ := List.mem_map.mp h
    by_cases e : s.1 = k
    · rw [if_pos e]
      exact .inr (by rw [e])
    · rw [if_neg e]
      exact .inl hs
  · rcases List.mem_append.mp h with z | z
    · exact .inl z
    · exact .inr (List.mem_singleton.mp z)
theorem kvd_map {H : Hp} {k : List Key} {x : V} {v : Int × List Key} (hx : TD H x (ruleD v)) : ∀ {R : List PRule} {kvs : List (List Key × V)}, KvD H kvs (rowsOf R) →
    KvD H (kvs.map fun kv => if kv.1 = k then (kv.1, x) else kv) (rowsOf (R.map fun r => if r.1 = k then (r.1, v) else r))
  | [], _, h => by
    cases h
    exact .nil
  | r :: R, _, h => by
    cases h with
    | @cons a _ l1 _ ab t =>
      have e1 : a.1 = r.1 := ab.1
      refine .cons ?_ (kvd_map hx (R := R) t)
      show (if a.1 = k then (a.1, x) else a).1 = (if r.1 = k then (r.1, v) else r).1 ∧ TD H (if a.1 = k then (a.1, x) else a).2 (ruleD (if r.1 = k then (r.1, v) else r).2)
      by_cases e : r.1 = k
      · rw [if_pos (e1.trans e), if_pos e]
        exact ⟨e1, hx⟩
      · rw [if_neg (fun z => e (e1.symm.trans z)), if_neg e]
        exact ab
theorem kvd_put {H : Hp} {R : List PRule} {kvs : List (List Key × V)} {k : List Key} {x : V} {v : Int × List Key} (h : KvD H kvs (rowsOf R)) (hx : TD H x (ruleD v)) : KvD H (putK kvs k x) (rowsOf (putP R k v)) := by
  have ek : kvs.map (·.1) = R.map (·.1) := by rw [h.keys, rowsOf_keys]
  have ea : (kvs.any fun kv => decide (kv.1 = k)) = (R.any fun r => decide (r.1 = k)) := by
    have e1 : (kvs.any fun kv => decide (kv.1 = k)) = (kvs.map (·.1)).any fun j => decide (j = k) := by rw [List.any_map]; rfl
    have e2 : (R.any fun r => decide (r.1 = k)) = (R.map (·.1)).any fun j => decide (j = k) := by rw [List.any_map]; rfl
    rw [e1, e2, ek]
  unfold putK putP
  rw [ea]
  split
  · exact kvd_map hx h
  · rw [rowsOf_snoc]
    exact Paired.snoc h ⟨rfl, hx⟩
/-- the plan's parts while they are made -/
structure PB (H H' : Hp) (p c kl rl : Addr) (ks : List (Int × Int)) (R : List PRule) : Prop where
  keep : Keep p H H'
  pen : Pen H' p c
  fk : H kl = none
  fr : H rl = none
  nk : kl ≠ p ∧ kl ≠ c
  nr : rl ≠ p ∧ rl ≠ c
  kin : ∃ vs, H' kl = some (.lst vs) ∧ TDs H' vs (ks.map msgD)
  rul : ∃ kvs, H' rl = some (.dT kvs) ∧ KvD H' kvs (rowsOf R)
theorem PB.draw {H H1 H2 : Hp} {p c kl rl : Addr} {ks : List (Int × Int)} {R : List PRule} (b : PB H H1 p c kl rl ks R) (k : Keep p H1 H2) (hP : Pen H2 p c) : PB H H2 p c kl rl ks R := by
  obtain ⟨a, e, f, g, n, m, ⟨vs, i, j⟩, ⟨kvs, l, o⟩⟩ := b
  exact ⟨a.trans k, hP, f, g, n, m, ⟨vs, k _ _ i n.1, j.mono (e.tups k)⟩, ⟨kvs, k _ _ l m.1, o.mono (e.tups k)⟩⟩
theorem PB.new {H H1 : Hp} {p c kl rl a : Addr} {o : HO} {ks : List (Int × Int)} {R : List PRule} (b : PB H H1 p c kl rl ks R) (n : H1 a = none) : PB H (upd H1 a o) p c kl rl ks R :=
  b.draw (Keep.new n) (b.pen.mono (same_new n))
theorem PB.push {H H1 : Hp} {p c kl rl : Addr} {ks : List (Int × Int)} {R : List PRule} (b : PB H H1 p c kl rl ks R) {vs : List V} {v : V} {m : Int × Int} (hk : H1 kl = some (.lst vs)) (ht : TDs H1 vs (ks.map msgD)) (hv : TD H1 v (msgD m)) :
    PB H (upd H1 kl (.lst (vs ++ [v]))) p c kl rl (ks ++ [m]) R := by
  obtain ⟨a, e, f, g, n, m', _, ⟨kvs, l, o⟩⟩ := b
  have tp : Tups H1 (upd H1 kl (.lst (vs ++ [v]))) := Tups.lst hk
  have nrk : rl ≠ kl := ne_of l hk (fun z => nomatch z)
  refine ⟨a.put f, e.put n.1 n.2, f, g, n, m', ⟨_, upd_same, ?_⟩, ⟨kvs, by rw [upd_ne nrk]; exact l, o.mono tp⟩⟩
  rw [List.map_append]
  exact (ht.mono tp).app (.cons (hv.mono tp) .nil)
theorem PB.rule {H H1 : Hp} {p c kl rl : Addr} {ks : List (Int × Int)} {R : List PRule} (b : PB H H1 p c kl rl ks R) {kvs : List (List Key × V)} {k : List Key} {x : V} {r : Int × List Key} (hr : H1 rl = some (.dT kvs)) (hk : KvD H1 kvs (rowsOf R)) (hx : TD H1 x (ruleD r)) :
    PB H (upd H1 rl (.dT (putK kvs k x))) p c kl rl ks (putP R k r) := by
  obtain ⟨a, e, f, g, n, m', ⟨vs, i, j⟩, _⟩ := b
  have tp : Tups H1 (upd H1 rl (.dT (putK kvs k x))) := Tups.put hr (fun _ z => nomatch z)
  have nrk : kl ≠ rl := ne_of i hr (fun z => nomatch z)
  exact ⟨a.put g, e.put m'.1 m'.2, f, g, n, m', ⟨vs, by rw [upd_ne nrk]; exact i, j.mono tp⟩, ⟨_, upd_same, kvd_put (hk.mono tp) (hx.mono tp)⟩⟩
def testsOf (u : Int) : List Key := ((List.range u.toNat).map fun i : Nat => (Sum.inl (i : Int) : Key)) ++ [Sum.inr ("new" : Str)]
theorem testsOf_len (u : Int) : (testsOf u).length = u.toNat + 1 := by
  unfold testsOf
  rw [List.length_append, List.length_map, List.length_range]
  rfl
theorem testsOf_ok {u : Int} {t : Key} (h0 : 0 ≤ u) (h : t ∈ testsOf u) : TestOk u t := by
  unfold testsOf at h
  rcases List.mem_append.mp h with z | z
  · obtain ⟨i, hi, rfl⟩ := List.mem_map.mp z
    have := List.mem_range.mp hi
    exact .inl ⟨i, rfl, by omega, by omega⟩
  · exact .inr (List.mem_singleton.mp z)
theorem testsOf_v (u : Int) : rgV 0 u ++ [V.str "new"] = (testsOf u).map kV := by
  unfold testsOf
  rw [List.map_append, rgV_keys]
  rfl
theorem kinds_at {H : Hp} {vs : List V} {ks : List (Int × Int)} (ht : TDs H vs (ks.map msgD)) {i : Int} (h0 : 0 ≤ i) (h1 : i < ks.length) : ∃ a v, atI vs i = some (.ref a) ∧ H a = some (.tup [.int v, .int (heldAt ks i)]) ∧ ks[i.toNat]? = some (v, heldAt ks i) := by
  have hl := ht.msgs_len
  obtain ⟨j, rfl⟩ : ∃ j : Nat, i = j := ⟨i.toNat, by omega⟩
  have hj : j < vs.length := by omega
  obtain ⟨m, a, e1, e2, e3⟩ := ht.msg (List.getElem?_eq_getElem hj)
  have e4 : heldAt ks (j : Int) = m.2 := by
    unfold heldAt
    rw [Int.toNat_natCast, e1]
    rfl
  refine ⟨a, m.1, atI_nat (by rw [List.getElem?_eq_getElem hj, e2]), by rw [e4]; exact e3, by rw [e4, Int.toNat_natCast]; exact e1⟩
theorem kinds_bd {ks : List (Int × Int)} (hk : ∀ k ∈ ks, 0 ≤ k.1 ∧ k.1 ≤ 3 ∧ 0 ≤ k.2 ∧ k.2 ≤ 3) {i : Nat} {m : Int × Int} (h : ks[i]? = some m) : 0 ≤ m.1 ∧ m.1 ≤ 3 ∧ 0 ≤ m.2 ∧ m.2 ≤ 3 := hk m (List.mem_of_getElem? h)
theorem kinds_push {ks : List (Int × Int)} {m : Int × Int} (h : KindsOk ks) (hl : ks.length ≤ 5) (h0 : 0 ≤ m.1) (h1 : m.1 ≤ 3) (h2 : 0 ≤ m.2) (h3 : m.2 ≤ 3) : KindsOk (ks ++ [m]) := by
  refine ⟨⟨by rw [List.length_append]; have := h.len; omega, by rw [List.length_append]; show ks.length + 1 ≤ 6; omega⟩, ?_, fun k hk => ?_⟩
  · have z := h.zero
    unfold heldAt at z ⊢
    have := h.len
    rw [show (0 : Int).toNat = 0 from rfl] at z ⊢
    rw [List.getElem?_append_left (by omega)]
    exact z
  · rcases List.mem_append.mp hk with z | z
    · exact h.all k z
    · rw [List.mem_singleton] at z
      subst z
      exact ⟨h0, h1, h2, h3⟩
/-- what is known of the rules -/
structure RB (w : Int) (ks : List (Int × Int)) (R : List PRule) (n : Nat) : Prop where
  ok : ∀ r ∈ R, RuleOk w ks r
  nd : (R.map (·.1)).Nodup
  len : R.length ≤ n
theorem RB.le {w : Int} {ks : List (Int × Int)} {R : List PRule} {n m : Nat} (h : RB w ks R n) (e : n ≤ m) : RB w ks R m := ⟨h.ok, h.nd, Nat.le_trans h.len e⟩
theorem RB.put {w : Int} {ks : List (Int × Int)} {R : List PRule} {n : Nat} (h : RB w ks R n) {k : List Key} {v : Int × List Key} (hr : RuleOk w ks (k, v)) : RB w ks (putP R k v) (n + 1) := by
  refine ⟨fun r hr' => ?_, putP_nodup h.nd, Nat.le_trans (putP_len R k v) (Nat.succ_le_succ h.len)⟩
  rcases putP_mem hr' with z | rfl
  · exact h.ok r z
  · exact hr
def sp_law_plan : Sp := fun vs H Q _ => ∃ (p c : Addr) (w st h : Int), vs = [.ref p, .int w, .int st, .int h] ∧ Pen H p c ∧ 1 ≤ w ∧ w ≤ 3 ∧ 1 ≤ st ∧ st ≤ 6 ∧ 0 ≤ h ∧ h ≤ 3 ∧
  ∀ l kl rl pl H', pl.words = w → Keep p H H' → Pen H' p c → H l = none → H kl = none → H rl = none → PlanAt H' l kl rl pl → PlanOk pl → (pl.kinds.length : Int) ≤ st → Q (.ref l) H'

/-! ### rules in order -/
def lookR (R : Rows) (k : List Key) : PyData := ((R.find? fun p => decide (p.1 = k)).map (·.2)).getD .none
def rankK : List Key → List Int
  | [Sum.inl i, Sum.inl j, Sum.inl r] => [i, j, r]
  | [Sum.inl i, Sum.inl j, Sum.inr _] => [i, j, 3]
  | _ => [0, 0, 0]
theorem rankK_cons (k : List Key) : ∃ x r, rankK k = x :: r := by
  unfold rankK
  split <;> exact ⟨_, _, rfl⟩
theorem rankK_len (k : List Key) : (rankK k).length = 3 := by
  unfold rankK
  split <;> rfl
def sortR (R : Rows) : Rows := (srt rankK (R.map (·.1))).map fun k => (k, lookR R k)
theorem KvD.val {H : Hp} {kvs : List (List Key × V)} {R : Rows} {k : List Key} (h : KvD H kvs R) (hk : k ∈ R.map (·.1)) : ∃ v, valV kvs k = some v ∧ TD H v (lookR R k) := by
  induction h with
  | nil => cases hk
  | @cons a b l1 l2 ab _ ih =>
    unfold valV lookR
    by_cases e : a.1 = k
    · have e2 : b.1 = k := ab.1 ▸ e
      refine ⟨a.2, ?_, ?_⟩
      · rw [List.find?_cons_of_pos (by simpa using e)]
        rfl
      · rw [List.find?_cons_of_pos (by simpa using e2)]
        exact ab.2
    · have e2 : ¬ b.1 = k := ab.1 ▸ e
      rw [List.find?_cons_of_neg (by simpa using e), List.find?_cons_of_neg (by simpa using e2)]
      refine ih ?_
      rcases List.mem_cons.mp hk with z | z
      · exact absurd z.symm e2
      · exact z
theorem kvd_of {H : Hp} {kvs : List (List Key × V)} {R : Rows} (h : KvD H kvs R) : ∀ {ks : List (List Key)}, (∀ k ∈ ks, k ∈ R.map (·.1)) → KvD H (ks.map fun k => (k, (valV kvs k).getD .non)) (ks.map fun k => (k, lookR R k))
  | [], _ => .nil
  | k :: r, hk => by
    obtain ⟨v, e, t⟩ := h.val (hk k List.mem_cons_self)
    refine .cons ⟨rfl, ?_⟩ (kvd_of h fun x hx => hk x (List.mem_cons_of_mem _ hx))
    show TD H ((valV kvs k).getD .non) _
    rw [e]
    exact t
theorem srt_mem {rank : List Key → List Int} {ks : List (List Key)} {k : List Key} : k ∈ srt rank ks ↔ k ∈ ks := (List.mergeSort_perm ks _).mem_iff
theorem srt_nodup {rank : List Key → List Int} {ks : List (List Key)} (h : ks.Nodup) : (srt rank ks).Nodup := (List.mergeSort_perm ks _).nodup_iff.mpr h
theorem srt_len {rank : List Key → List Int} {ks : List (List Key)} : (srt rank ks).length = ks.length := (List.mergeSort_perm ks _).length_eq
theorem isKs_at {H : Hp} {ks : List (List Key)} {bs : List Addr} (h : IsKs H ks bs) : ∀ {i : Nat} {b : Addr}, bs[i]? = some b → ∃ k, ks[i]? = some k ∧ H b = some (.tup (k.map kV)) := by
  induction h with
  | nil => intro i b e; simp at e
  | cons a _ ih =>
    intro i b e
    cases i with
    | zero =>
      simp at e
      subst e
      exact ⟨_, rfl, a⟩
    | succ i =>
      obtain ⟨k, h1, h2⟩ := ih (i := i) (b := b) (by simpa using e)
      exact ⟨k, by simpa using h1, h2⟩
theorem valV_map_none {f : List Key → V} {ks : List (List Key)} {k : List Key} (h : k ∉ ks) : valV (ks.map fun k => (k, f k)) k = none := by
  unfold valV
  rw [List.find?_eq_none.mpr]
  · rfl
  · intro x hx
    obtain ⟨y, hy, rfl⟩ := List.mem_map.mp hx
    simp only [decide_eq_true_eq]
    rintro rfl
    exact h hy
/-- a watcher is asked -/
def sp_W_len (C : Addr) : Sp := fun us H Q _ => ∃ (x lv lh d : Addr) (n : Int) (vs hs : List Int) (R : Rows), us = [.ref x] ∧ WAt C H x lv lh d n vs hs R ∧ Q (.int vs.length) H
def sp_W_ver (C : Addr) : Sp := fun us H Q _ => ∃ (x lv lh d : Addr) (n : Int) (vs hs : List Int) (R : Rows), us = [.ref x] ∧ WAt C H x lv lh d n vs hs R ∧ ∀ t, H t = none → Q (.ref t) (upd H t (.tup (vs.map V.int)))
def sp_W_hel (C : Addr) : Sp := fun us H Q _ => ∃ (x lv lh d : Addr) (n : Int) (vs hs : List Int) (R : Rows), us = [.ref x] ∧ WAt C H x lv lh d n vs hs R ∧ ∀ t, H t = none → Q (.ref t) (upd H t (.tup (hs.map V.int)))
def sp_W_rules (C : Addr) : Sp := fun us H Q _ => ∃ (x lv lh d : Addr) (n : Int) (vs hs : List Int) (R : Rows), us = [.ref x] ∧ WAt C H x lv lh d n vs hs R ∧
  ∀ t H' kvs, Same H H' → H t = none → H' t = some (.dT kvs) → KvD H' kvs (sortR R) → Q (.ref t) H'

section
variable {P : Program} {w : World} {K : PySem.W.Frag} {mg : Str → Option Value} {base : Heap}
abbrev N_Watcher_held_counts : List Str := ["self"]
theorem sc_Watcher_held_counts : FnScope N_Watcher_held_counts ["self"] (defScope s_Watcher_held_counts) := ⟨rfl, rfl, rfl, by decide +kernel, rfl, by decide +kernel, by decide +kernel⟩
theorem ok_Watcher_held_counts {f C : Addr} {fd : FuncData} {k : Nat} (F : Fun K "held_counts" "Watcher.held_counts" s_Watcher_held_counts f fd) (W : WCls K C) (m_tuple : mg "tuple" = none) : FnG P w K mg base CX0 (k + 1) f fd ["self"] (sp_W_hel C) := by
  refine okG F sc_Watcher_held_counts (fun vs H Q E h => ?_) (fun cdv A outer s H vs Q E gd hr h => ?_)
  · obtain ⟨x, lv, lh, d, n, vs, hs, R, rfl, _⟩ := h
    rfl
  · obtain ⟨x, lv, lh, d, n, vs, hs, R, rfl, hW, q⟩ := h
    refine ⟨_, 
      (pss_one (ps_ret (pe_callTy call_tuple_of (by rfl) m_tuple (by decide +kernel) (pa_cons (pe_fld (pv 0) rfl) pa_nil)))) -- return tuple(self._held)
       , ?_⟩
    obtain ⟨dx, hx⟩ := hW.ins
    exact ⟨.ref x, rfl, x, C, dx, _, .ref lh, rfl, hx, W.cl, W.n3, rfl, lh, _, rfl, .inl ⟨SqL.of hW.hel, q⟩⟩
end

/-! ### the parts of rules; states are added -/
theorem passNo {X : Cx} : Passes (L2.CX X.prog X.w) X fun _ _ _ => False := L2.passes_call (W := fun _ _ _ _ => False) L2.takes_none5 (fun _ _ _ _ h => h)
def sp_require_verdict (C : Addr) : Sp := fun us H Q E => ∃ (p : Addr) (v : V) (d : PyData), us = [v] ∧ LD p H v d ∧ (btw d 0 3 = true → Q .non H) ∧ (btw d 0 3 = false → ∀ e, H e = none → E (.ref C) (some e) (upd H e (.xd [(("verdict" : Str), v)])))
def sp_require_state (C CU : Addr) : Sp := fun us H Q E => ∃ (x lv lh d : Addr) (n : Int) (vs hs : List Int) (R : Rows) (p : Addr) (v : V) (dd : PyData), us = [.ref x, v] ∧ WAt C H x lv lh d n vs hs R ∧ LD p H v dd ∧
  (btw dd 0 ((vs.length : Int) - 1) = true → Q .non H) ∧ (btw dd 0 ((vs.length : Int) - 1) = false → ∀ e, H e = none → E (.ref CU) (some e) (upd H e (.xd [(("state" : Str), v)])))
def isTest (d : PyData) (h : Int) : Bool := isStrD d "new" || btw d 0 (h - 1)
def sp_is_test : Sp := fun us H Q _ => ∃ (p : Addr) (v : V) (d : PyData) (h : Int), us = [v, .int h] ∧ LD p H v d ∧ isDctD d = false ∧ Q (.bl (isTest d h)) H
def sp_no_sources : Sp := fun us H Q _ => ∃ (a : Addr) (wn h : Int) (t : V), us = [.ref a, .int wn, .int h, t] ∧ H a = some (.tup []) ∧ Q (.bl (decide (wn = 0))) H
def sp_add_state (C CV CL : Addr) : Sp := fun us H Q E => ∃ (x lv lh d : Addr) (n : Int) (vs hs : List Int) (R : Rows) (p : Addr) (v1 v2 : V) (d1 d2 : PyData), us = [.ref x, v1, v2] ∧ WAt C H x lv lh d n vs hs R ∧ LD p H v1 d1 ∧ LD p H v2 d2 ∧
  (btw d1 0 3 = false → ∀ e, H e = none → E (.ref CV) (some e) (upd H e (.xd [(("verdict" : Str), v1)]))) ∧
  (btw d1 0 3 = true → btw d2 0 3 = false → ∀ e, H e = none → E (.ref CL) (some e) (upd H e (.xd [(("limit" : Str), .int 3)]))) ∧
  (btw d1 0 3 = true → btw d2 0 3 = true → vs.length = 6 → ∀ e, H e = none → E (.ref CL) (some e) (upd H e (.xd [(("limit" : Str), .int 6)]))) ∧
  (∀ a b, d1 = .int a → d2 = .int b → btw d1 0 3 = true → btw d2 0 3 = true → vs.length < 6 → ∀ H', (∀ c o, H c = some o → c ≠ lv → c ≠ lh → H' c = some o) → WAt C H' x lv lh d n (vs ++ [a]) (hs ++ [b]) R → Q (.int vs.length) H')

section
variable {P : Program} {w : World} {K : PySem.W.Frag} {mg : Str → Option Value} {base : Heap}
abbrev N_require_verdict : List Str := ["verdict"]
theorem sc_require_verdict : FnScope N_require_verdict ["verdict"] (defScope s_require_verdict) := ⟨rfl, rfl, rfl, by decide +kernel, rfl, by decide +kernel, by decide +kernel⟩
theorem ok_require_verdict {f f_is_between C iC : Addr} {fd fd_is_between : FuncData} {t3 : Tok} (F : Fun K "require_verdict" "require_verdict" s_require_verdict f fd) (F_is_between : Fun K "is_between" "is_between" s_is_between f_is_between fd_is_between) (b_is_between : Binds K fd_is_between ["value", "low", "high"] [])
    (g_is_between : mg "is_between" = some (.ref f_is_between)) (G_is_between : FnG P w K mg base CX0 2 f_is_between fd_is_between ["value", "low", "high"] sp_is_between) (T_NotAVerdict : L2.ErrOk OwnE.bVE "NotAVerdict" "verdict" "NotAVerdict.__init__" K mg C iC) (g_MOST_VERDICT : mg "MOST_VERDICT" = some (.int 3 t3)) :
    FnG P w K mg base (L2.CX P w) 3 f fd ["verdict"] (sp_require_verdict C) := by
  refine okGX F sc_require_verdict (fun vs H Q E h => ?_) (fun cdv A outer s H vs Q E gd hr h => ?_)
  · obtain ⟨p, v, d, rfl, _⟩ := h
    rfl
  · obtain ⟨p, v, d, rfl, hv, q1, q2⟩ := h
    have hr1 : Room 1 _ := hr.mono (by decide)
    refine ⟨_, 
      (pss_one (ps_if (pt_not (pt_val (pe_callG G_is_between gd (hr.mono (by decide)) rfl g_is_between F_is_between.kp b_is_between .nil pass0 (pa_cons (pv 0) (pa_cons pe_int (pa_cons (pe_glob (v := .int 3) rfl g_MOST_VERDICT ⟨_, rfl⟩) pa_nil)))))) 
        (pss_one (L2.ps_raiseE (W := fun cls d _ H => E cls d H) rfl T_NotAVerdict hr1 (takes_of rfl rfl rfl rfl) (by exact (pa_cons (pv 0) pa_nil)))) -- raise NotAVerdict(verdict)
         pss_nil)) -- if not is_between(verdict, 0, MOST_VERDICT):
       , ?_⟩
    refine ⟨v, rfl, p, v, d, 0, 3, rfl, hv, _, rfl, ?_⟩
    cases hb : btw d 0 3 with
    | false => exact ⟨v, rfl, v, rfl, fun e he => q2 hb e he⟩
    | true => exact q1 hb
end

section
variable {P : Program} {w : World} {K : PySem.W.Frag} {mg : Str → Option Value} {base : Heap}
abbrev N_Watcher_require_state : List Str := ["self", "state"]
theorem sc_Watcher_require_state : FnScope N_Watcher_require_state ["self", "state"] (defScope s_Watcher_require_state) := ⟨rfl, rfl, rfl, by decide +kernel, rfl, by decide +kernel, by decide +kernel⟩
theorem ok_require_state {f f_is_between C CU iU : Addr} {fd fd_is_between : FuncData} (F : Fun K "require_state" "Watcher.require_state" s_Watcher_require_state f fd) (F_is_between : Fun K "is_between" "is_between" s_is_between f_is_between fd_is_between) (b_is_between : Binds K fd_is_between ["value", "low", "high"] [])
    (g_is_between : mg "is_between" = some (.ref f_is_between)) (G_is_between : FnG P w K mg base CX0 2 f_is_between fd_is_between ["value", "low", "high"] sp_is_between) (T_UnknownState : L2.ErrOk OwnE.bLE "UnknownState" "state" "UnknownState.__init__" K mg CU iU) (W : WCls K C) (m_len : mg "len" = none) :
    FnG P w K mg base (L2.CX P w) 3 f fd ["self", "state"] (sp_require_state C CU) := by
  refine okGX F sc_Watcher_require_state (fun vs H Q E h => ?_) (fun cdv A outer s H vs Q E gd hr h => ?_)
  · obtain ⟨x, lv, lh, d, n, vs, hs, R, p, v, dd, rfl, _⟩ := h
    rfl
  · obtain ⟨x, lv, lh, d, n, vs, hs, R, p, v, dd, rfl, hW, hv, q1, q2⟩ := h
    have hr1 : Room 1 _ := hr.mono (by decide)
    refine ⟨_, 
      (pss_one (ps_if (pt_not (pt_val (pe_callG G_is_between gd (hr.mono (by decide)) rfl g_is_between F_is_between.kp b_is_between .nil pass0 (pa_cons (pv 1) (pa_cons pe_int (pa_cons (pe_op op_sub (pe_callB call_len_seq (by rfl) m_len PySem.boot_len (pa_cons (pe_fld (pv 0) rfl) pa_nil)) pe_int) pa_nil)))))) 
        (pss_one (L2.ps_raiseE (W := fun cls d _ H => E cls d H) rfl T_UnknownState hr1 (takes_of rfl rfl rfl rfl) (by exact (pa_cons (pv 1) pa_nil)))) -- raise UnknownState(state)
         pss_nil)) -- if not is_between(state, 0, len(self._verdicts) - 1):
       , ?_⟩
    obtain ⟨dx, hx⟩ := hW.ins
    refine ⟨v, rfl, .ref x, rfl, x, C, dx, _, .ref lv, rfl, hx, W.cl, W.n2, rfl, lv, _, rfl, .inl (SqL.of hW.ver), _, 1, rfl, rfl, p, v, dd, 0, _, rfl, hv, _, rfl, ?_⟩
    rw [List.length_map]
    cases hb : btw dd 0 ((vs.length : Int) - 1) with
    | false => exact ⟨v, rfl, v, rfl, fun e he => q2 hb e he⟩
    | true => exact q1 hb
end

section
variable {P : Program} {w : World} {K : PySem.W.Frag} {mg : Str → Option Value} {base : Heap}
abbrev N_is_test : List Str := ["test", "held"]
theorem sc_is_test : FnScope N_is_test ["test", "held"] (defScope s_is_test) := ⟨rfl, rfl, rfl, by decide +kernel, rfl, by decide +kernel, by decide +kernel⟩
theorem ok_is_test {f f_is_between : Addr} {fd fd_is_between : FuncData} {tN : Tok} (F : Fun K "is_test" "is_test" s_is_test f fd) (F_is_between : Fun K "is_between" "is_between" s_is_between f_is_between fd_is_between) (b_is_between : Binds K fd_is_between ["value", "low", "high"] [])
    (g_is_between : mg "is_between" = some (.ref f_is_between)) (G_is_between : FnG P w K mg base CX0 2 f_is_between fd_is_between ["value", "low", "high"] sp_is_between) (g_NEW : mg "NEW" = some (.str "new" tN)) : FnG P w K mg base CX0 3 f fd ["test", "held"] sp_is_test := by
  refine okG F sc_is_test (fun vs H Q E h => ?_) (fun cdv A outer s H vs Q E gd hr h => ?_)
  · obtain ⟨p, v, d, h', rfl, _⟩ := h
    rfl
  · obtain ⟨p, v, d, h', rfl, hv, nd, q⟩ := h
    refine ⟨_, 
      (pss_one (ps_ret (pe_or (pe_cmpR (op_eqS hr.units) (pv 0) (pe_glob (v := .str "new") rfl g_NEW ⟨_, rfl⟩) (nomark _)) (pe_one (pe_callG G_is_between gd (hr.mono (by decide)) rfl g_is_between F_is_between.kp b_is_between .nil pass0 (pa_cons (pv 0) (pa_cons pe_int (pa_cons (pe_op op_sub (pv 1) pe_int) pa_nil)))))))) -- return test == NEW or is_between(test, 0, held - 1)
       , ?_⟩
    refine ⟨v, rfl, p, d, "new", hv, nd, rfl, _, rfl, ?_⟩
    unfold isTest at q
    cases hb : isStrD d "new" with
    | true =>
      rw [hb] at q
      exact q
    | false =>
      rw [hb] at q
      exact ⟨v, rfl, .int h', rfl, h', 1, rfl, rfl, p, v, d, 0, h' - 1, rfl, hv, q⟩
end

section
variable {P : Program} {w : World} {K : PySem.W.Frag} {mg : Str → Option Value} {base : Heap}
abbrev N_Watcher_add_state : List Str := ["self", "verdict", "held"]
theorem sc_Watcher_add_state : FnScope N_Watcher_add_state ["self", "verdict", "held"] (defScope s_Watcher_add_state) := ⟨rfl, rfl, rfl, by decide +kernel, rfl, by decide +kernel, by decide +kernel⟩
theorem ok_Watcher_add_state {f f_is_between f_require_verdict C CV CL iL : Addr} {fd fd_is_between fd_require_verdict : FuncData} {t3 t6 : Tok} (F : Fun K "add_state" "Watcher.add_state" s_Watcher_add_state f fd) (F_is_between : Fun K "is_between" "is_between" s_is_between f_is_between fd_is_between) (b_is_between : Binds K fd_is_between ["value", "low", "high"] [])
    (g_is_between : mg "is_between" = some (.ref f_is_between)) (G_is_between : FnG P w K mg base CX0 2 f_is_between fd_is_between ["value", "low", "high"] sp_is_between) (F_require_verdict : Fun K "require_verdict" "require_verdict" s_require_verdict f_require_verdict fd_require_verdict) (b_require_verdict : Binds K fd_require_verdict ["verdict"] [])
    (g_require_verdict : mg "require_verdict" = some (.ref f_require_verdict)) (G_require_verdict : FnG P w K mg base (L2.CX P w) 3 f_require_verdict fd_require_verdict ["verdict"] (sp_require_verdict CV)) (T_LimitExceeded : L2.ErrOk OwnE.bOE "LimitExceeded" "limit" "LimitExceeded.__init__" K mg CL iL)
    (g_MOST_HELD : mg "MOST_HELD" = some (.int 3 t3)) (g_MOST_STATES : mg "MOST_STATES" = some (.int 6 t6)) (W : WCls K C) (m_len : mg "len" = none) : FnG P w K mg base (L2.CX P w) 4 f fd ["self", "verdict", "held"] (sp_add_state C CV CL) := by
  refine okGX F sc_Watcher_add_state (fun vs H Q E h => ?_) (fun cdv A outer s H vs Q E gd hr h => ?_)
  · obtain ⟨x, lv, lh, d, n, vs, hs, R, p, v1, v2, d1, d2, rfl, _⟩ := h
    rfl
  · obtain ⟨x, lv, lh, d, n, vs, hs, R, p, v1, v2, d1, d2, rfl, hW, h1, h2, q1, q2, q3, q4⟩ := h
    have hr1 : Room 1 _ := hr.mono (by decide)
    refine ⟨_, 
      (pss_cons (ps_expr (pe_callG G_require_verdict gd (hr.mono (by decide)) rfl g_require_verdict F_require_verdict.kp b_require_verdict .nil (L2.passes_call (W := fun cls d _ H => E cls d H) (takes_of rfl rfl rfl rfl) (fun _ _ _ _ h => h)) (pa_cons (pv 1) pa_nil))) -- require_verdict(verdict)
      (pss_cons (ps_if (pt_not (pt_val (pe_callG G_is_between gd (hr.mono (by decide)) rfl g_is_between F_is_between.kp b_is_between .nil pass0 (pa_cons (pv 2) (pa_cons pe_int (pa_cons (pe_glob (v := .int 3) rfl g_MOST_HELD ⟨_, rfl⟩) pa_nil)))))) 
        (pss_one (L2.ps_raiseE (W := fun cls d _ H => E cls d H) rfl T_LimitExceeded hr1 (takes_of rfl rfl rfl rfl) (by exact (pa_cons (pe_glob (v := .int 3) rfl g_MOST_HELD ⟨_, rfl⟩) pa_nil)))) -- raise LimitExceeded(MOST_HELD)
         pss_nil) -- if not is_between(held, 0, MOST_HELD):
      (pss_cons (ps_if (pt_cmpR op_eq (pe_callB call_len_seq (by rfl) m_len PySem.boot_len (pa_cons (pe_fld (pv 0) rfl) pa_nil)) (pe_glob (v := .int 6) rfl g_MOST_STATES ⟨_, rfl⟩) (nomark _)) 
        (pss_one (L2.ps_raiseE (W := fun cls d _ H => E cls d H) rfl T_LimitExceeded hr1 (takes_of rfl rfl rfl rfl) (by exact (pa_cons (pe_glob (v := .int 6) rfl g_MOST_STATES ⟨_, rfl⟩) pa_nil)))) -- raise LimitExceeded(MOST_STATES)
         pss_nil) -- if len(self._verdicts) == MOST_STATES:
      (pss_cons (ps_expr (pe_bm PySem.F.plainAttrs_list PySem.F.slot_list_append PySem.F.type_list_append mt_append (pe_fld (pv 0) rfl) (pa_cons (pv 1) pa_nil))) -- self._verdicts.append(verdict)
      (pss_cons (ps_expr (pe_bm PySem.F.plainAttrs_list PySem.F.slot_list_append PySem.F.type_list_append mt_append (pe_fld (pv 0) rfl) (pa_cons (pv 2) pa_nil))) -- self._held.append(held)
      (pss_one (ps_ret (pe_op op_sub (pe_callB call_len_seq (by rfl) m_len PySem.boot_len (pa_cons (pe_fld (pv 0) rfl) pa_nil)) pe_int))) -- return len(self._verdicts) - 1
      ))))) , ?_⟩
    obtain ⟨dx, hx⟩ := hW.ins
    have hv := hW.ver
    have hh := hW.hel
    have ne := hW.ne
    have ll := hW.len
    refine ⟨v1, rfl, p, v1, d1, rfl, h1, fun o1 => ?_, q1⟩
    refine ⟨v2, rfl, p, v2, d2, 0, 3, rfl, h2, _, rfl, ?_⟩
    cases hb : btw d2 0 3 with
    | false => exact ⟨.int 3, rfl, fun e he => q2 o1 hb e he⟩
    | true =>
      refine ⟨.ref x, rfl, x, C, dx, _, .ref lv, rfl, hx, W.cl, W.n2, rfl, lv, _, rfl, .inl (SqL.of hv), rfl, _, rfl, ?_⟩
      rw [List.length_map]
      by_cases h6 : vs.length = 6
      · rw [h6]
        exact ⟨.int 6, rfl, fun e he => q3 o1 hb h6 e he⟩
      · have h6' : ¬ (V.int ((vs.length : Nat) : Int)) = V.int 6 := fun z => h6 (by have := V.int.inj z; omega)
        rw [decide_eq_false h6']
        obtain ⟨a, rfl, _⟩ := btw_int o1
        obtain ⟨b, rfl, _⟩ := btw_int hb
        cases h1
        cases h2
        have xv : x ≠ lv := ne_of hx hv (fun z => nomatch z)
        have xh : x ≠ lh := ne_of hx hh (fun z => nomatch z)
        refine ⟨.ref x, rfl, x, C, dx, _, .ref lv, rfl, hx, W.cl, W.n2, rfl, .inl ⟨rfl, _, SqL.of hv⟩, .int a, rfl, lv, _, .int a, rfl, rfl, hv, by rw [List.length_map]; exact small1000 (by omega), ?_⟩
        have hx1 : upd H lv (.lst (vs.map V.int ++ [V.int a])) x = some (.ins C dx (wf n lv lh d)) := by rw [upd_ne xv]; exact hx
        have hh1 : upd H lv (.lst (vs.map V.int ++ [V.int a])) lh = some (.lst (hs.map V.int)) := by rw [upd_ne ne.symm]; exact hh
        refine ⟨.ref x, rfl, x, C, dx, _, .ref lh, rfl, hx1, W.cl, W.n3, rfl, .inl ⟨rfl, _, SqL.of hh1⟩, .int b, rfl, lh, _, .int b, rfl, rfl, hh1, by rw [List.length_map]; exact small1000 (by omega), ?_⟩
        have hx2 : upd (upd H lv (.lst (vs.map V.int ++ [V.int a]))) lh (.lst (hs.map V.int ++ [V.int b])) x = some (.ins C dx (wf n lv lh d)) := by rw [upd_ne xh]; exact hx1
        have hv2 : upd (upd H lv (.lst (vs.map V.int ++ [V.int a]))) lh (.lst (hs.map V.int ++ [V.int b])) lv = some (.lst (vs.map V.int ++ [V.int a])) := by rw [upd_ne ne]; exact upd_same
        refine ⟨.ref x, rfl, x, C, dx, _, .ref lv, rfl, hx2, W.cl, W.n2, rfl, lv, _, rfl, .inl (SqL.of hv2), _, 1, rfl, rfl, ?_⟩
        have el : (((vs.map V.int ++ [V.int a]).length : Nat) : Int) - 1 = (vs.length : Int) := by
          rw [List.length_append, List.length_map]
          show ((vs.length + 1 : Nat) : Int) - 1 = _
          omega
        dsimp only
        rw [el]
        obtain ⟨kvs, hd, hkv⟩ := hW.rul
        have dv : d ≠ lv := ne_of hd hv (fun z => nomatch z)
        have dh : d ≠ lh := ne_of hd hh (fun z => nomatch z)
        have tp : Tups H (upd (upd H lv (.lst (vs.map V.int ++ [V.int a]))) lh (.lst (hs.map V.int ++ [V.int b]))) := (Tups.lst hv).trans (Tups.lst hh1)
        refine q4 a b rfl rfl o1 hb (by omega) _ (fun c o e n1 n2 => ?_) { ins := ⟨dx, hx2⟩, ver := ?_, hel := ?_, rul := ⟨kvs, ?_, hkv.mono tp⟩, ne := ne, rk := hW.rk, nd := hW.nd, len := ⟨by rw [List.length_append, List.length_append, ll.1]; rfl, by rw [List.length_append]; show vs.length + 1 ≤ 6; omega, ll.2.2⟩ }
        · rw [upd_ne n2, upd_ne n1]
          exact e
        · rw [hv2, List.map_append]
          rfl
        · rw [upd_same, List.map_append]
          rfl
        · rw [upd_ne dh, upd_ne dv]
          exact hd
end

/-! ### sources, words, rules -/
theorem Tx.W {K : PySem.W.Frag} {mg : Str → Option Value} (T : Tx K mg) : WCls K T.Watcher.C := ⟨T.Watcher.cl, T.nf_Watcherwords, T.nf_Watcher_verdicts, T.nf_Watcher_held, T.nf_Watcher_rules⟩
theorem ldK {p : Addr} {H : Hp} : ∀ t : Key, LD p H (kV t) (kD t)
  | .inl n => .int n
  | .inr s => .str s
theorem kD_nd : ∀ t : Key, isDctD (kD t) = false
  | .inl _ => rfl
  | .inr _ => rfl
def isSrc (d : PyData) (h : Int) (t : Key) : Bool := if isStrD d "value" = true then isStrD (kD t) "new" else btw d 0 (h - 1)
/-- the data are sources of a rule -/
structure AreSrc (d : PyData) (wn h : Int) (t : Key) (ks : List Key) : Prop where
  d : d = .tuple (ks.map kD)
  len : (ks.length : Int) = wn
  all : ∀ k ∈ ks, isSrc (kD k) h t = true
  nd : ks.Nodup
/-- a tuple of the wanted length is short -/
def SmallT (d : PyData) (wn : Int) : Prop := ∀ ds, d = .tuple ds → (ds.length : Int) = wn → ds.length ≤ 50
theorem isSrc_key {p : Addr} {H : Hp} {v : V} {d : PyData} {h : Int} {t : Key} (hv : LD p H v d) (hs : isSrc d h t = true) : ∃ k : Key, d = kD k ∧ v = kV k := by
  unfold isSrc at hs
  cases hv with
  | int i => exact ⟨.inl i, rfl, rfl⟩
  | str x => exact ⟨.inr x, rfl, rfl⟩
  | _ => cases hs
theorem srcs_of {p : Addr} {H : Hp} {h : Int} {t : Key} : ∀ {xs : List V} {ds : List PyData}, LDs p H xs ds → (∀ e ∈ ds, isSrc e h t = true) → ∃ ks : List Key, ds = ks.map kD ∧ xs = ks.map kV
  | _, _, .nil, _ => ⟨[], rfl, rfl⟩
  | _, _, .cons a r, hs => by
    obtain ⟨k, rfl, rfl⟩ := isSrc_key a (hs _ List.mem_cons_self)
    obtain ⟨ks, rfl, rfl⟩ := srcs_of r fun e he => hs e (List.mem_cons_of_mem _ he)
    exact ⟨k :: ks, rfl, rfl⟩
theorem kD_inj {a b : Key} (h : kD a = kD b) : a = b := by
  cases a <;> cases b <;> simp_all [kD]
theorem map_kD_inj : ∀ {a b : List Key}, a.map kD = b.map kD → a = b
  | [], [], _ => rfl
  | [], _ :: _, h => by cases h
  | _ :: _, [], h => by cases h
  | x :: a, y :: b, h => by
    simp only [List.map_cons, List.cons.injEq] at h
    rw [kD_inj h.1, map_kD_inj h.2]
def hAt (hs : List Int) (i : Int) : Int := (hs[i.toNat]?).getD 0
def sp_is_source : Sp := fun us H Q _ => ∃ (p : Addr) (v : V) (d : PyData) (h : Int) (t : Key), us = [v, .int h, kV t] ∧ LD p H v d ∧ Q (.bl (isSrc d h t)) H
def sp_are_sources : Sp := fun us H Q _ => ∃ (p : Addr) (v : V) (d : PyData) (wn h : Int) (t : Key), us = [v, .int wn, .int h, kV t] ∧ LD p H v d ∧ SmallT d wn ∧ ((∃ ks, AreSrc d wn h t ks) → Q (.bl true) H) ∧ ((¬ ∃ ks, AreSrc d wn h t ks) → Q (.bl false) H)
def sp_require_word (C CW : Addr) : Sp := fun us H Q E => ∃ (x lv lh d : Addr) (n : Int) (vs hs : List Int) (R : Rows) (p : Addr) (v : V) (dd : PyData), us = [.ref x, v] ∧ WAt C H x lv lh d n vs hs R ∧ LD p H v dd ∧
  (btw dd 0 (n - 1) = true → Q .non H) ∧ (btw dd 0 (n - 1) = false → ∀ e, H e = none → E (.ref CW) (some e) (upd H e (.xd [(("word" : Str), v)])))
def sp_set_verdict (C CU CV : Addr) : Sp := fun us H Q E => ∃ (x lv lh d : Addr) (n : Int) (vs hs : List Int) (R : Rows) (p : Addr) (v1 v2 : V) (d1 d2 : PyData), us = [.ref x, v1, v2] ∧ WAt C H x lv lh d n vs hs R ∧ LD p H v1 d1 ∧ LD p H v2 d2 ∧
  (btw d1 0 ((vs.length : Int) - 1) = false → ∀ e, H e = none → E (.ref CU) (some e) (upd H e (.xd [(("state" : Str), v1)]))) ∧
  (btw d1 0 ((vs.length : Int) - 1) = true → btw d2 0 3 = false → ∀ e, H e = none → E (.ref CV) (some e) (upd H e (.xd [(("verdict" : Str), v2)]))) ∧
  (∀ s v : Int, d1 = .int s → d2 = .int v → 0 ≤ s → s < vs.length → 0 ≤ v → v ≤ 3 → ∀ H', (∀ c o, H c = some o → c ≠ lv → H' c = some o) → WAt C H' x lv lh d n (vs.set s.toNat v) hs R → Q .non H')
def sp_rule_for (C : Addr) : Sp := fun us H Q _ => ∃ (x lv lh d : Addr) (n : Int) (vs hs : List Int) (R : Rows) (s w : Int) (t : Key), us = [.ref x, .int s, .int w, kV t] ∧ WAt C H x lv lh d n vs hs R ∧
  ([Sum.inl s, Sum.inl w, t] ∉ R.map (·.1) → ∀ H', Same H H' → Q .non H') ∧ ([Sum.inl s, Sum.inl w, t] ∈ R.map (·.1) → ∀ v H', Same H H' → TD H' v (lookR R [Sum.inl s, Sum.inl w, t]) → Q v H')
structure ErrA where
  (U W T S R : Addr)
def sp_add_rule (C : Addr) (X : ErrA) : Sp := fun us H Q E => ∃ (x lv lh d : Addr) (n : Int) (vs hs : List Int) (R : Rows) (p : Addr) (v1 v2 v3 v4 v5 : V) (d1 d2 d3 d4 d5 : PyData), us = [.ref x, v1, v2, v3, v4, v5] ∧
  WAt C H x lv lh d n vs hs R ∧ LD p H v1 d1 ∧ LD p H v2 d2 ∧ LD p H v3 d3 ∧ LD p H v4 d4 ∧ LD p H v5 d5 ∧ isDctD d3 = false ∧ (∀ i : Int, SmallT d5 (hAt hs i)) ∧ R.length < 1000 ∧
  (btw d1 0 ((vs.length : Int) - 1) = false → ∀ e, H e = none → E (.ref X.U) (some e) (upd H e (.xd [(("state" : Str), v1)]))) ∧
  (btw d1 0 ((vs.length : Int) - 1) = true → btw d4 0 ((vs.length : Int) - 1) = false → ∀ e, H e = none → E (.ref X.U) (some e) (upd H e (.xd [(("state" : Str), v4)]))) ∧
  (btw d1 0 ((vs.length : Int) - 1) = true → btw d4 0 ((vs.length : Int) - 1) = true → btw d2 0 (n - 1) = false → ∀ e, H e = none → E (.ref X.W) (some e) (upd H e (.xd [(("word" : Str), v2)]))) ∧
  ∀ s tg w : Int, d1 = .int s → d4 = .int tg → d2 = .int w → 0 ≤ s → s < vs.length → 0 ≤ tg → tg < vs.length → 0 ≤ w → w < n →
    (isTest d3 (hAt hs s) = false → ∀ e, H e = none → E (.ref X.T) (some e) (upd H e (.xd [(("test" : Str), v3)]))) ∧
    ∀ t : Key, v3 = kV t → d3 = kD t → isTest (kD t) (hAt hs s) = true →
      ((¬ ∃ ks, AreSrc d5 (hAt hs tg) (hAt hs s) t ks) → ∀ e, H e = none → E (.ref X.S) (some e) (upd H e (.xd [(("sources" : Str), v5)]))) ∧
      ∀ ks, AreSrc d5 (hAt hs tg) (hAt hs s) t ks →
        ([Sum.inl s, Sum.inl w, t] ∈ R.map (·.1) → ∀ T, H T = none → ∀ e, upd H T (.tup [.int s, .int w, v3]) e = none → E (.ref X.R) (some e) (upd (upd H T (.tup [.int s, .int w, v3])) e (.xd [(("rule" : Str), .ref T)]))) ∧
        ([Sum.inl s, Sum.inl w, t] ∉ R.map (·.1) → ∀ H', (∀ c o, H c = some o → c ≠ d → H' c = some o) → WAt C H' x lv lh d n vs hs (R ++ [([Sum.inl s, Sum.inl w, t], ruleD (tg, ks))]) → Q .non H')
theorem test_key' {p : Addr} {H : Hp} {v : V} {d : PyData} {h : Int} (hv : LD p H v d) (ht : isTest d h = true) : ∃ t : Key, v = kV t ∧ d = kD t ∧ ((∃ r, t = Sum.inl r) ∨ t = Sum.inr ("new" : Str)) := by
  cases hv with
  | int i => exact ⟨Sum.inl i, rfl, rfl, .inl ⟨i, rfl⟩⟩
  | str x =>
    have e : (x == ("new" : Str)) = true := by
      have z : ((x == ("new" : Str)) || false) = true := ht
      rwa [Bool.or_false] at z
    exact ⟨Sum.inr x, rfl, rfl, .inr (by rw [beq_iff_eq.mp e])⟩
  | _ => cases ht
theorem hs_at {hs : List Int} {i : Int} (h0 : 0 ≤ i) (h1 : i < hs.length) : atI (hs.map V.int) i = some (.int (hAt hs i)) := by
  obtain ⟨j, rfl⟩ : ∃ j : Nat, i = j := ⟨i.toNat, by omega⟩
  have hj : j < hs.length := by omega
  refine atI_nat ?_
  unfold hAt
  rw [Int.toNat_natCast, List.getElem?_map, List.getElem?_eq_getElem hj]
  rfl
theorem btw_true {n lo hi : Int} (h0 : lo ≤ n) (h1 : n ≤ hi) : btw (.int n) lo hi = true := by
  show (decide (lo ≤ n) && decide (n ≤ hi)) = true
  rw [decide_eq_true h0, decide_eq_true h1]
  rfl
section
variable {P : Program} {w : World} {K : PySem.W.Frag} {mg : Str → Option Value} {base : Heap}
theorem G_is_between (T : Tx K mg) : FnG P w K mg base CX0 2 T.is_between.f T.is_between.fd ["value", "low", "high"] sp_is_between := ok_is_between T.is_between.F T.is_integer.F T.is_integer.b T.is_integer.g T.m_isinstance T.m_int T.m_bool
theorem G_require_verdict (T : Tx K mg) : FnG P w K mg base (L2.CX P w) 3 T.require_verdict.f T.require_verdict.fd ["verdict"] (sp_require_verdict T.NotAVerdict.C) := ok_require_verdict T.require_verdict.F T.is_between.F T.is_between.b T.is_between.g (G_is_between T) T.NotAVerdict.e T.g_MOST_VERDICT
theorem G_Watcher_require_state (T : Tx K mg) : FnG P w K mg base (L2.CX P w) 3 T.Watcher_require_state.f T.Watcher_require_state.fd ["self", "state"] (sp_require_state T.Watcher.C T.UnknownState.C) := ok_require_state T.Watcher_require_state.F T.is_between.F T.is_between.b T.is_between.g (G_is_between T) T.UnknownState.e T.W T.m_len
theorem G_is_test (T : Tx K mg) : FnG P w K mg base CX0 3 T.is_test.f T.is_test.fd ["test", "held"] sp_is_test := ok_is_test T.is_test.F T.is_between.F T.is_between.b T.is_between.g (G_is_between T) T.g_NEW
theorem G_Watcher_add_state (T : Tx K mg) : FnG P w K mg base (L2.CX P w) 4 T.Watcher_add_state.f T.Watcher_add_state.fd ["self", "verdict", "held"] (sp_add_state T.Watcher.C T.NotAVerdict.C T.LimitExceeded.C) :=
  ok_Watcher_add_state T.Watcher_add_state.F T.is_between.F T.is_between.b T.is_between.g (G_is_between T) T.require_verdict.F T.require_verdict.b T.require_verdict.g (G_require_verdict T) T.LimitExceeded.e T.g_MOST_HELD T.g_MOST_STATES T.W T.m_len
theorem G_Watcher_init (T : Tx K mg) : FnG P w K mg base (L2.CX P w) 3 T.Watcher_init.f T.Watcher_init.fd ["self", "words"] (sp_W_init T.Watcher.C T.LimitExceeded.C) := ok_Watcher_init T.Watcher_init.F T.is_between.F T.is_between.b T.is_between.g (G_is_between T) T.LimitExceeded.e T.g_MOST_WORDS T.W
end

section
variable {P : Program} {w : World} {K : PySem.W.Frag} {mg : Str → Option Value} {base : Heap}
abbrev N_is_source : List Str := ["source", "held", "test"]
theorem sc_is_source : FnScope N_is_source ["source", "held", "test"] (defScope s_is_source) := ⟨rfl, rfl, rfl, by decide +kernel, rfl, by decide +kernel, by decide +kernel⟩
theorem G_is_source (T : Tx K mg) : FnG P w K mg base CX0 3 T.is_source.f T.is_source.fd ["source", "held", "test"] sp_is_source := by
  refine okG T.is_source.F sc_is_source (fun vs H Q E h => ?_) (fun cdv A outer s H vs Q E gd hr h => ?_)
  · obtain ⟨p, v, d, h', t, rfl, _⟩ := h
    rfl
  · obtain ⟨p, v, d, h', t, rfl, hv, q⟩ := h
    refine ⟨_, 
      (pss_cons (ps_if (pt_cmpR (op_eqS' hr.units) (pv 0) (pe_glob (v := .str "value") rfl T.g_VALUE ⟨_, rfl⟩) (nomark _)) 
        (pss_one (ps_ret (pe_cmpR (op_eqS hr.units) (pv 2) (pe_glob (v := .str "new") rfl T.g_NEW ⟨_, rfl⟩) (nomark _)))) -- return test == NEW
         pss_nil) -- if source == VALUE:
      (pss_one (ps_ret (pe_callG (G_is_between T) gd (hr.mono (by decide)) rfl T.is_between.g T.is_between.F.kp T.is_between.b .nil pass0 (pa_cons (pv 0) (pa_cons pe_int (pa_cons (pe_op op_sub (pv 1) pe_int) pa_nil)))))) -- return is_between(source, 0, held - 1)
      ) , ?_⟩
    refine ⟨v, rfl, p, d, "value", hv, rfl, _, rfl, ?_⟩
    unfold isSrc at q
    cases hb : isStrD d "value" with
    | true =>
      rw [hb, if_pos rfl] at q
      exact iteT ⟨kV t, rfl, p, kD t, "new", ldK t, kD_nd t, rfl, q⟩
    | false =>
      rw [hb, if_neg Bool.false_ne_true] at q
      exact iteF ⟨v, rfl, .int h', rfl, h', 1, rfl, rfl, p, v, d, 0, h' - 1, rfl, hv, q⟩
end

section
variable {P : Program} {w : World} {K : PySem.W.Frag} {mg : Str → Option Value} {base : Heap}
abbrev N_are_sources : List Str := ["sources", "wanted", "held", "test", "source"]
theorem sc_are_sources : FnScope N_are_sources ["sources", "wanted", "held", "test"] (defScope s_are_sources) := ⟨rfl, rfl, rfl, by decide +kernel, rfl, by decide +kernel, by decide +kernel⟩
theorem G_are_sources (T : Tx K mg) : FnG P w K mg base CX0 4 T.are_sources.f T.are_sources.fd ["sources", "wanted", "held", "test"] sp_are_sources := by
  refine okG T.are_sources.F sc_are_sources (fun vs H Q E h => ?_) (fun cdv A outer s H vs Q E gd hr h => ?_)
  · obtain ⟨p, v, d, wn, h', t, rfl, _⟩ := h
    rfl
  · obtain ⟨p, v, d, wn, h', t, rfl, hv, sm, q1, q2⟩ := h
    refine ⟨_, 
      (pss_cons (ps_if (PW.pt (pw_or (pt_not (pt_val (pe_callB (call_isL kit_tup) (by rfl) T.m_isinstance (by decide +kernel) (pa_cons (pv 0) (pa_cons (pe_bltn (v := .ty "tuple") (by rfl) T.m_tuple (by decide +kernel) (show RelV (.ty "tuple") (.type "tuple") from rfl)) pa_nil))))) (pw_or1 (pt_cmpR op_ne (pe_callB call_len_seq (by rfl) T.m_len PySem.boot_len (pa_cons (pv 0) pa_nil)) (pv 1) (nomark _))))) 
        (pss_one (ps_ret pe_bl)) -- return False
         pss_nil) -- if not isinstance(sources, tuple) or len(sources) != wanted:
      (pss_cons (ps_for PassesOwn.never rfl (pi_tup (pv 0)) (pg_name (i := 4) sc_are_sources.nd rfl (.inl rfl)) 
        (pss_one (ps_if (pt_not (pt_val (pe_callG (G_is_source T) gd (hr.mono (by decide)) rfl T.is_source.g T.is_source.F.kp T.is_source.b .nil pass0 (pa_cons (pv 4) (pa_cons (pv 2) (pa_cons (pv 3) pa_nil)))))) 
          (pss_one (ps_ret pe_bl)) -- return False
           pss_nil)) -- if not is_source(source, held, test):
        ) -- for source in sources:
      (pss_one (ps_ret (pe_cmpR op_eq (pe_lenSetM rfl (by rfl) T.m_len (by rfl) T.m_set (pv 0)) (pe_callB call_len_seq (by rfl) T.m_len PySem.boot_len (pa_cons (pv 0) pa_nil)) (nomark _)))) -- return len(set(sources)) == len(sources)
      )) , ?_⟩
    refine ⟨v, rfl, p, v, d, rfl, hv, _, rfl, ?_⟩
    cases hb : isTupD d with
    | false =>
      refine q2 ?_
      rintro ⟨ks, e⟩
      rw [e.d] at hb
      cases hb
    | true =>
      cases hv with
      | @tup a xs ds na ha hs =>
        have lx := hs.length
        refine ⟨.ref a, rfl, a, xs, rfl, .inr (SqT.of ha), .int wn, rfl, rfl, _, rfl, ?_⟩
        by_cases hw : (xs.length : Int) = wn
        · subst hw
          refine iteNS rfl ?_
          refine ⟨.ref a, rfl, a, rfl, ⟨_, SqT.of ha⟩, ?_⟩
          refine for_tup (K := K) (a := a) (xs := xs) (fun i σ H' => ∃ y, σ = [some (.ref a), some (.int (xs.length : Int)), some (.int h'), some (kV t), y] ∧ H' = H ∧ ∀ e ∈ ds.take i, isSrc e h' t = true) ?_ ?_ ?_ ?_
          · exact ⟨none, rfl, rfl, fun e he => by cases he⟩
          · rintro i σ H' hi ⟨y, rfl, rfl, _⟩
            exact SqT.of ha
          · rintro i x σ H' hi ⟨y, rfl, rfl, all⟩
            obtain ⟨e, he, hx⟩ := hs.get hi
            refine ⟨x, rfl, .int h', rfl, kV t, rfl, p, x, e, h', t, rfl, hx, _, rfl, ?_⟩
            cases hb2 : isSrc e h' t with
            | false =>
              refine iteT (q2 ?_)
              rintro ⟨ks, z⟩
              have z1 := PyData.tuple.inj z.d
              rw [z1, List.getElem?_map] at he
              obtain ⟨k, hk, rfl⟩ := Option.map_eq_some_iff.mp he
              rw [z.all k (List.mem_of_getElem? hk)] at hb2
              cases hb2
            | true =>
              refine iteF ⟨_, rfl, rfl, fun e' he' => ?_⟩
              rw [List.take_add_one, he] at he'
              rcases List.mem_append.mp he' with z | z
              · exact all e' z
              · have : e' = e := by simpa using z
                rw [this]
                exact hb2
          · rintro σ H' ⟨y, rfl, rfl, all⟩
            rw [lx, List.take_length] at all
            obtain ⟨ks, rfl, rfl⟩ := srcs_of hs all
            have sl := sm _ rfl (by rw [← lx])
            rw [List.length_map] at sl
            refine ⟨.ref a, rfl, a, ks, rfl, ha, sl, .ref a, rfl, a, _, rfl, .inr (SqT.of ha), rfl, ?_⟩
            rw [List.length_map]
            obtain ⟨u1, u2, u3, u4⟩ := uniqK_len _ ks rfl
            by_cases hn : ks.Nodup
            · rw [u3 hn, decide_eq_true rfl]
              refine q1 ⟨ks, rfl, by rw [List.length_map], fun k hk => all _ (List.mem_map.mpr ⟨k, hk, rfl⟩), hn⟩
            · have ne : ¬ (V.int ((uniqK ks).length : Nat) = V.int (ks.length : Nat)) := fun z => hn (u4 (by have := V.int.inj z; omega))
              rw [decide_eq_false ne]
              refine q2 ?_
              rintro ⟨ks', z⟩
              have := map_kD_inj (PyData.tuple.inj z.d)
              exact hn (this ▸ z.nd)
        · have ne : (V.int ((xs.length : Nat) : Int)) ≠ V.int wn := fun z => hw (V.int.inj z)
          rw [decide_eq_false ne]
          refine iteT (q2 ?_)
          rintro ⟨ks, z⟩
          have z1 := PyData.tuple.inj z.d
          have z2 := z.len
          rw [z1, List.length_map] at lx
          exact hw (by omega)
      | _ => cases hb
end

section
variable {P : Program} {w : World} {K : PySem.W.Frag} {mg : Str → Option Value} {base : Heap}
abbrev N_Watcher_require_word : List Str := ["self", "word"]
theorem sc_Watcher_require_word : FnScope N_Watcher_require_word ["self", "word"] (defScope s_Watcher_require_word) := ⟨rfl, rfl, rfl, by decide +kernel, rfl, by decide +kernel, by decide +kernel⟩
theorem G_Watcher_require_word (T : Tx K mg) : FnG P w K mg base (L2.CX P w) 3 T.Watcher_require_word.f T.Watcher_require_word.fd ["self", "word"] (sp_require_word T.Watcher.C T.NotAWord.C) := by
  refine okGX T.Watcher_require_word.F sc_Watcher_require_word (fun vs H Q E h => ?_) (fun cdv A outer s H vs Q E gd hr h => ?_)
  · obtain ⟨x, lv, lh, d, n, vs, hs, R, p, v, dd, rfl, _⟩ := h
    rfl
  · obtain ⟨x, lv, lh, d, n, vs, hs, R, p, v, dd, rfl, hW, hv, q1, q2⟩ := h
    refine ⟨_, 
      (pss_one (ps_if (pt_not (pt_val (pe_callG (G_is_between T) gd (hr.mono (by decide)) rfl T.is_between.g T.is_between.F.kp T.is_between.b .nil pass0 (pa_cons (pv 1) (pa_cons pe_int (pa_cons (pe_op op_sub (pe_fld (pv 0) rfl) pe_int) pa_nil)))))) 
        (pss_one (L2.ps_raiseE (W := fun cls d _ H => E cls d H) rfl T.NotAWord.e (show Room 1 _ from hr.mono (by decide)) (takes_of rfl rfl rfl rfl) (by exact (pa_cons (pv 1) pa_nil)))) -- raise NotAWord(word)
         pss_nil)) -- if not is_between(word, 0, self.words - 1):
       , ?_⟩
    obtain ⟨dx, hx⟩ := hW.ins
    refine ⟨v, rfl, .ref x, rfl, x, T.Watcher.C, dx, _, .int n, rfl, hx, T.Watcher.cl, T.W.n1, rfl, n, 1, rfl, rfl, p, v, dd, 0, _, rfl, hv, _, rfl, ?_⟩
    cases hb : btw dd 0 (n - 1) with
    | false => exact ⟨v, rfl, v, rfl, fun e he => q2 hb e he⟩
    | true => exact q1 hb
end

section
variable {P : Program} {w : World} {K : PySem.W.Frag} {mg : Str → Option Value} {base : Heap}
abbrev N_Watcher_rule_for : List Str := ["self", "state", "word", "test"]
theorem sc_Watcher_rule_for : FnScope N_Watcher_rule_for ["self", "state", "word", "test"] (defScope s_Watcher_rule_for) := ⟨rfl, rfl, rfl, by decide +kernel, rfl, by decide +kernel, by decide +kernel⟩
theorem G_Watcher_rule_for (T : Tx K mg) : FnG P w K mg base CX0 1 T.Watcher_rule_for.f T.Watcher_rule_for.fd ["self", "state", "word", "test"] (sp_rule_for T.Watcher.C) := by
  refine okG T.Watcher_rule_for.F sc_Watcher_rule_for (fun vs H Q E h => ?_) (fun cdv A outer s H vs Q E gd hr h => ?_)
  · obtain ⟨x, lv, lh, d, n, vs, hs, R, s', w', t, rfl, _⟩ := h
    rfl
  · obtain ⟨x, lv, lh, d, n, vs, hs, R, s', w', t, rfl, hW, q1, q2⟩ := h
    refine ⟨_, 
      (pss_one (ps_ret (pe_dget1 (hu_of hr) (pe_fld (pv 0) rfl) (pe_tup (pa_cons (pv 1) (pa_cons (pv 2) (pa_cons (pv 3) pa_nil)))) ⟨by rfl, by rfl, by rfl, by rfl⟩))) -- return self._rules.get((state, word, test))
       , ?_⟩
    obtain ⟨dx, hx⟩ := hW.ins
    obtain ⟨kvs, hd, hkv⟩ := hW.rul
    refine ⟨.ref x, rfl, x, T.Watcher.C, dx, _, .ref d, rfl, hx, T.Watcher.cl, T.W.n4, rfl, d, rfl, .inr ⟨kvs, .inl hd⟩, .int s', rfl, .int w', rfl, kV t, rfl, by show 3 ≤ sizeLine; decide, fun tt nt => ?_⟩
    have sm : Same H (upd H tt (.tup [.int s', .int w', kV t])) := same_new nt
    refine ⟨_, DGet.t (k := [Sum.inl s', Sum.inl w', t]) (sm _ _ hd) upd_same, ?_⟩
    by_cases hk : [Sum.inl s', Sum.inl w', t] ∈ R.map (·.1)
    · obtain ⟨v, ev, tv⟩ := hkv.val hk
      rw [ev]
      exact q2 hk v _ sm (tv.mono (Tups.same sm))
    · have en : valV kvs [Sum.inl s', Sum.inl w', t] = none := by
        unfold valV
        rw [List.find?_eq_none.mpr]
        · rfl
        · intro y hy
          simp only [decide_eq_true_eq]
          intro e
          exact hk (e ▸ hkv.keys ▸ List.mem_map.mpr ⟨y, hy, rfl⟩)
      rw [en]
      exact q1 hk _ sm
end

section
variable {P : Program} {w : World} {K : PySem.W.Frag} {mg : Str → Option Value} {base : Heap}
abbrev N_Watcher_add_rule : List Str := ["self", "state", "word", "test", "target", "sources", "rule"]
theorem sc_Watcher_add_rule : FnScope N_Watcher_add_rule ["self", "state", "word", "test", "target", "sources"] (defScope s_Watcher_add_rule) := ⟨rfl, rfl, rfl, by decide +kernel, rfl, by decide +kernel, by decide +kernel⟩
theorem G_Watcher_add_rule (T : Tx K mg) : FnG P w K mg base (L2.CX P w) 5 T.Watcher_add_rule.f T.Watcher_add_rule.fd ["self", "state", "word", "test", "target", "sources"] (sp_add_rule T.Watcher.C ⟨T.UnknownState.C, T.NotAWord.C, T.InvalidTest.C, T.InvalidSources.C, T.RuleExists.C⟩) := by
  refine okGX T.Watcher_add_rule.F sc_Watcher_add_rule (fun vs H Q E h => ?_) (fun cdv A outer s H vs Q E gd hr h => ?_)
  · obtain ⟨x, lv, lh, d, n, vs, hs, R, p, v1, v2, v3, v4, v5, d1, d2, d3, d4, d5, rfl, _⟩ := h
    rfl
  · obtain ⟨x, lv, lh, d, n, vs, hs, R, p, v1, v2, v3, v4, v5, d1, d2, d3, d4, d5, rfl, hW, h1, h2, h3, h4, h5, n3, sm5, lR, q1, q2, q3, q4⟩ := h
    refine ⟨_, 
      (pss_cons (ps_expr (pe_methG (pv 0) T.Watcher.cl T.Watcher_require_state.M (G_Watcher_require_state T) gd (hr.mono (by decide)) T.Watcher_require_state.b .nil (L2.passes_call (W := fun cls d _ H => E cls d H) (takes_of rfl rfl rfl rfl) (fun _ _ _ _ h => h)) (pa_cons (pv 1) pa_nil))) -- self.require_state(state)
      (pss_cons (ps_expr (pe_methG (pv 0) T.Watcher.cl T.Watcher_require_state.M (G_Watcher_require_state T) gd (hr.mono (by decide)) T.Watcher_require_state.b .nil (L2.passes_call (W := fun cls d _ H => E cls d H) (takes_of rfl rfl rfl rfl) (fun _ _ _ _ h => h)) (pa_cons (pv 4) pa_nil))) -- self.require_state(target)
      (pss_cons (ps_expr (pe_methG (pv 0) T.Watcher.cl T.Watcher_require_word.M (G_Watcher_require_word T) gd (hr.mono (by decide)) T.Watcher_require_word.b .nil (L2.passes_call (W := fun cls d _ H => E cls d H) (takes_of rfl rfl rfl rfl) (fun _ _ _ _ h => h)) (pa_cons (pv 2) pa_nil))) -- self.require_word(word)
      (pss_cons (ps_if (pt_not (pt_val (pe_callG (G_is_test T) gd (hr.mono (by decide)) rfl T.is_test.g T.is_test.F.kp T.is_test.b .nil pass0 (pa_cons (pv 3) (pa_cons (pe_ix ix_list (pe_fld (pv 0) rfl) (pv 1) (fun _ _ => rfl)) pa_nil))))) 
        (pss_one (L2.ps_raiseE (W := fun cls d _ H => E cls d H) rfl T.InvalidTest.e (show Room 1 _ from hr.mono (by decide)) (takes_of rfl rfl rfl rfl) (by exact (pa_cons (pv 3) pa_nil)))) -- raise InvalidTest(test)
         pss_nil) -- if not is_test(test, self._held[state]):
      (pss_cons (ps_if (pt_not (pt_val (pe_callG (G_are_sources T) gd (hr.mono (by decide)) rfl T.are_sources.g T.are_sources.F.kp T.are_sources.b .nil pass0 (pa_cons (pv 5) (pa_cons (pe_ix ix_list (pe_fld (pv 0) rfl) (pv 4) (fun _ _ => rfl)) (pa_cons (pe_ix ix_list (pe_fld (pv 0) rfl) (pv 1) (fun _ _ => rfl)) (pa_cons (pv 3) pa_nil))))))) 
        (pss_one (L2.ps_raiseE (W := fun cls d _ H => E cls d H) rfl T.InvalidSources.e (show Room 1 _ from hr.mono (by decide)) (takes_of rfl rfl rfl rfl) (by exact (pa_cons (pv 5) pa_nil)))) -- raise InvalidSources(sources)
         pss_nil) -- if not are_sources(sources, self._held[target], self._held[state], test):
      (pss_cons (ps_set (i := 6) sc_Watcher_add_rule.nd rfl (.inl rfl) (pe_tup (pa_cons (pv 1) (pa_cons (pv 2) (pa_cons (pv 3) pa_nil))))) -- rule = (state, word, test)
      (pss_cons (ps_if (pt_cmp (pc_din (hu_of hr) (pv 6) (pe_fld (pv 0) rfl))) 
        (pss_one (L2.ps_raiseE (W := fun cls d _ H => E cls d H) rfl T.RuleExists.e (show Room 1 _ from hr.mono (by decide)) (takes_of rfl rfl rfl rfl) (by exact (pa_cons (pv 6) pa_nil)))) -- raise RuleExists(rule)
         pss_nil) -- if rule in self._rules:
      (pss_one (ps_dput (hu_of hr) (pe_fld (pv 0) rfl) (pv 6) (pe_tup (pa_cons (pv 4) (pa_cons (pv 5) pa_nil))) rfl)) -- self._rules[rule] = (target, sources)
      ))))))) , ?_⟩
    obtain ⟨dx, hx⟩ := hW.ins
    have hh := hW.hel
    have cl := T.Watcher.cl
    refine ⟨.ref x, rfl, x, dx, _, rfl, hx, rfl, v1, rfl, x, lv, lh, d, n, vs, hs, R, p, v1, d1, rfl, hW, h1, fun o1 => ?_, q1⟩
    refine ⟨.ref x, rfl, x, dx, _, rfl, hx, rfl, v4, rfl, x, lv, lh, d, n, vs, hs, R, p, v4, d4, rfl, hW, h4, fun o4 => ?_, q2 o1⟩
    refine ⟨.ref x, rfl, x, dx, _, rfl, hx, rfl, v2, rfl, x, lv, lh, d, n, vs, hs, R, p, v2, d2, rfl, hW, h2, fun o2 => ?_, q3 o1 o4⟩
    obtain ⟨s', rfl, s0, s1⟩ := btw_int o1
    obtain ⟨tg, rfl, g0, g1⟩ := btw_int o4
    obtain ⟨wd, rfl, w0, w1⟩ := btw_int o2
    cases h1
    cases h2
    cases h4
    have ls := hW.len.1
    obtain ⟨q5, q6⟩ := q4 s' tg wd rfl rfl rfl s0 (by omega) g0 (by omega) w0 (by omega)
    refine ⟨v3, rfl, .ref x, rfl, x, T.Watcher.C, dx, _, .ref lh, rfl, hx, cl, T.W.n3, rfl, .int s', rfl, lh, _, s', .int (hAt hs s'), rfl, rfl, SqL.of hh, hs_at s0 (by omega), p, v3, d3, hAt hs s', rfl, h3, n3, _, rfl, ?_⟩
    cases hb : isTest d3 (hAt hs s') with
    | false => exact iteT ⟨v3, rfl, v3, rfl, fun e he => q5 hb e he⟩
    | true =>
      refine iteF ?_
      obtain ⟨t, rfl, rfl, tk⟩ := test_key' h3 hb
      obtain ⟨q7, q8⟩ := q6 t rfl rfl hb
      refine ⟨v5, rfl, .ref x, rfl, x, T.Watcher.C, dx, _, .ref lh, rfl, hx, cl, T.W.n3, rfl, .int tg, rfl, lh, _, tg, .int (hAt hs tg), rfl, rfl, SqL.of hh, hs_at g0 (by omega), .ref x, rfl, x, T.Watcher.C, dx, _, .ref lh, rfl, hx, cl, T.W.n3, rfl, .int s', rfl, lh, _, s', .int (hAt hs s'), rfl, rfl, SqL.of hh, hs_at s0 (by omega), kV t, rfl, p, v5, d5, hAt hs tg, hAt hs s', t, rfl, h5, sm5 tg, fun ok => ?_, fun bad => ?_⟩
      · refine ⟨_, rfl, iteF ?_⟩
        obtain ⟨ks, ok⟩ := ok
        obtain ⟨q9, q10⟩ := q8 ks ok
        obtain ⟨kvs, hd, hkv⟩ := hW.rul
        have ek := hkv.keys
        refine ⟨.int s', rfl, .int wd, rfl, kV t, rfl, by show 3 ≤ sizeLine; decide, fun TT nT => ?_⟩
        have sT : Same H (upd H TT (.tup [.int s', .int wd, kV t])) := same_new nT
        have hT : upd H TT (.tup [.int s', .int wd, kV t]) TT = some (.tup (([Sum.inl s', Sum.inl wd, t] : List Key).map kV)) := upd_same
        have g := DGet.t (k := [Sum.inl s', Sum.inl wd, t]) (sT _ _ hd) hT
        refine ⟨.ref TT, rfl, .ref x, rfl, x, T.Watcher.C, dx, _, .ref d, rfl, sT _ _ hx, cl, T.W.n4, rfl, d, _, rfl, g, _, rfl, ?_⟩
        by_cases hk : [Sum.inl s', Sum.inl wd, t] ∈ R.map (·.1)
        · obtain ⟨v, ev, _⟩ := hkv.val hk
          rw [ev]
          exact iteT ⟨.ref TT, rfl, .ref TT, rfl, fun e he => q9 hk TT nT e he⟩
        · have en : valV kvs [Sum.inl s', Sum.inl wd, t] = none := by
            unfold valV
            rw [List.find?_eq_none.mpr]
            · rfl
            · intro y hy
              simp only [decide_eq_true_eq]
              intro e
              exact hk (e ▸ ek ▸ List.mem_map.mpr ⟨y, hy, rfl⟩)
          rw [en]
          refine iteF ?_
          refine ⟨.int tg, rfl, v5, rfl, by show 2 ≤ sizeLine; decide, fun U nU => ?_⟩
          have sU : Same (upd H TT (.tup [.int s', .int wd, kV t])) (upd (upd H TT (.tup [.int s', .int wd, kV t])) U (.tup [.int tg, v5])) := same_new nU
          have hU : upd (upd H TT (.tup [.int s', .int wd, kV t])) U (.tup [.int tg, v5]) U = some (.tup [.int tg, v5]) := upd_same
          have hT2 := sU _ _ hT
          have s2 := sT.trans sU
          generalize upd (upd H TT (.tup [.int s', .int wd, kV t])) U (.tup [.int tg, v5]) = H2 at s2 hU hT2
          have hd2 := s2 _ _ hd
          have lk : kvs.length < 1000 := by
            have := Paired.length hkv
            omega
          refine ⟨.ref x, rfl, x, T.Watcher.C, dx, _, .ref d, rfl, s2 _ _ hx, cl, T.W.n4, rfl, .ref TT, rfl, d, _, rfl, DPut.t (k := [Sum.inl s', Sum.inl wd, t]) hd2 hT2 (small1000 (Nat.le_of_lt lk)), ?_⟩
          have tp : Tups H2 (upd H2 d (.dT (putK kvs [Sum.inl s', Sum.inl wd, t] (.ref U)))) := Tups.put hd2 (fun _ z => by cases z)
          have hW2 := hW.mono s2
          have vd : lv ≠ d := ne_of hW2.ver hd2 (fun z => nomatch z)
          have hd' : lh ≠ d := ne_of hW2.hel hd2 (fun z => nomatch z)
          have xd : x ≠ d := ne_of (s2 _ _ hx) hd2 (fun z => nomatch z)
          refine q10 hk _ (fun c o e nc => ?_) { ins := ⟨dx, ?_⟩, ver := ?_, hel := ?_, rul := ⟨_, upd_same, ?_⟩, ne := hW.ne, rk := ?_, nd := ?_, len := ⟨hW.len.1, hW.len.2.1, by rw [List.length_append]; show R.length + 1 ≤ 1000; omega⟩ }
          · rw [upd_ne nc]
            exact s2 _ _ e
          · rw [upd_ne xd]
            exact s2 _ _ hx
          · rw [upd_ne vd]
            exact hW2.ver
          · rw [upd_ne hd']
            exact hW2.hel
          · have en2 := putK_new (V.ref U) en
            rw [en2] at tp ⊢
            refine Paired.snoc (KvD.mono tp (KvD.mono (Tups.same s2) hkv)) ⟨rfl, ?_⟩
            have h5' := h5
            rw [ok.d] at h5'
            obtain ⟨a5, xs5, rfl, _, ha5, hs5⟩ := h5'.isTup
            obtain ⟨ks', e1, e2⟩ := srcs_of hs5 (h := hAt hs s') (t := t) (fun e he => by obtain ⟨k, hk, rfl⟩ := List.mem_map.mp he; exact ok.all k hk)
            rw [← map_kD_inj e1] at e2
            subst e2
            exact .tup (tp _ _ hU) (.cons (.int tg) (.cons (.tup (tp _ _ (s2 _ _ ha5)) TDs.keys) .nil))
          · intro k hk2
            rw [List.map_append] at hk2
            rcases List.mem_append.mp hk2 with z | z
            · exact hW.rk k z
            · simp at z
              subst z
              exact ⟨s', wd, t, rfl, tk⟩
          · rw [List.map_append]
            refine List.nodup_append.mpr ⟨hW.nd, by simp, ?_⟩
            intro a ha b hb2
            simp at hb2
            subst hb2
            rintro rfl
            exact hk ha
      · exact ⟨_, rfl, iteT ⟨v5, rfl, v5, rfl, fun e he => q7 bad e he⟩⟩
end

/-! ### watchers are built from plans -/
theorem WAt.off {C : Addr} {H : Hp} {x lv lh d a : Addr} {n : Int} {vs hs : List Int} {R : Rows} {o u : HO} (h : WAt C H x lv lh d n vs hs R) (ha : H a = some u) (hu : ∀ xs, u ≠ .tup xs) (n1 : a ≠ x) (n2 : a ≠ lv) (n3 : a ≠ lh) (n4 : a ≠ d) : WAt C (upd H a o) x lv lh d n vs hs R := by
  have tp : Tups H (upd H a o) := Tups.put ha hu
  obtain ⟨⟨dx, b⟩, e, f, ⟨kvs, g, i⟩, ne, j, k, len⟩ := h
  exact ⟨⟨dx, by rw [upd_ne n1.symm]; exact b⟩, by rw [upd_ne n2.symm]; exact e, by rw [upd_ne n3.symm]; exact f, ⟨kvs, by rw [upd_ne n4.symm]; exact g, i.mono tp⟩, ne, j, k, len⟩
theorem TDs.unkeys {H : Hp} : ∀ {xs : List V} {ks : List Key}, TDs H xs (ks.map kD) → xs = ks.map kV
  | _, [], h => by cases h; rfl
  | _, .inl n :: ks, h => by
    cases h with
    | cons a r =>
      cases a
      rw [r.unkeys]
      rfl
  | _, .inr s :: ks, h => by
    cases h with
    | cons a r =>
      cases a
      rw [r.unkeys]
      rfl
theorem lds_keys {p : Addr} {H : Hp} : ∀ ks : List Key, LDs p H (ks.map kV) (ks.map kD)
  | [] => .nil
  | k :: r => .cons (ldK k) (lds_keys r)
theorem val_nodup {kvs : List (List Key × V)} (nd : (kvs.map (·.1)).Nodup) {i : Nat} {k : List Key} {v : V} (h : kvs[i]? = some (k, v)) : valV kvs k = some v := by
  induction kvs generalizing i with
  | nil => simp at h
  | cons p r ih =>
    cases i with
    | zero =>
      have : p = (k, v) := by simpa using h
      subst this
      exact valV_pos rfl
    | succ i =>
      have h' : r[i]? = some (k, v) := by simpa using h
      have nd' := List.nodup_cons.mp nd
      rw [valV_neg, ih nd'.2 h']
      rintro rfl
      exact nd'.1 (List.mem_map.mpr ⟨_, List.mem_of_getElem? h', rfl⟩)
theorem TD.rule {H : Hp} {v : V} {r : Int × List Key} (h : TD H v (ruleD r)) : ∃ a b, v = .ref a ∧ H a = some (.tup [.int r.1, .ref b]) ∧ H b = some (.tup (r.2.map kV)) := by
  obtain ⟨a, xs, rfl, e, t⟩ := h.isTup
  cases t with
  | cons h1 t =>
    cases h1
    cases t with
    | cons h2 t =>
      cases t
      obtain ⟨b, ys, rfl, e2, t2⟩ := h2.isTup
      rw [t2.unkeys] at e2
      exact ⟨a, b, rfl, e, e2⟩
theorem srcOk_are {h m : Int} {t : Key} {ks : List Key} (s : SrcOk h t m ks) : AreSrc (.tuple (ks.map kD)) m h t ks := by
  refine ⟨rfl, s.len, fun k hk => ?_, s.nd⟩
  rcases s.all k hk with ⟨n, rfl, n0, n1⟩ | ⟨rfl, rfl⟩
  · unfold isSrc
    rw [if_neg (by exact Bool.false_ne_true)]
    exact btw_true n0 (by omega)
  · rfl
theorem testOk_is {h : Int} {t : Key} (s : TestOk h t) : isTest (kD t) h = true := by
  rcases s with ⟨n, rfl, n0, n1⟩ | rfl
  · show (false || btw (.int n) 0 (h - 1)) = true
    rw [btw_true n0 (by omega)]
    rfl
  · rfl
theorem smallT_keys {ks : List Key} {i : Int} (h : ks.length ≤ 50) : SmallT (.tuple (ks.map kD)) i := fun ds e _ => by
  cases e
  rw [List.length_map]
  exact h
theorem hAt_held (ks : List (Int × Int)) (i : Int) : hAt (ks.map (·.2)) i = heldAt ks i := by
  unfold hAt heldAt
  rw [List.getElem?_map]
  cases ks[i.toNat]? <;> rfl
theorem held_bd {ks : List (Int × Int)} (h : KindsOk ks) {i : Int} (h0 : 0 ≤ i) (h1 : i < ks.length) : 0 ≤ heldAt ks i ∧ heldAt ks i ≤ 3 := by
  have hj : i.toNat < ks.length := by omega
  unfold heldAt
  rw [List.getElem?_eq_getElem hj]
  have := h.all ks[i.toNat] (List.getElem_mem hj)
  exact ⟨this.2.2.1, this.2.2.2⟩
structure Fr (H H' : Hp) (x lv lh d : Addr) : Prop where
  sm : Same H H'
  x : H x = none
  v : H lv = none
  h : H lh = none
  d : H d = none

/-! ### runs -/
def lookP (R : List PRule) (k : List Key) : Option (Int × List Key) := (R.find? fun r => decide (r.1 = k)).map (·.2)
theorem lookP_none {R : List PRule} {k : List Key} (h : lookP R k = none) : k ∉ (rowsOf R).map (·.1) := by
  rw [rowsOf_keys]
  intro z
  obtain ⟨r, hr, e⟩ := List.mem_map.mp z
  unfold lookP at h
  rw [Option.map_eq_none_iff, List.find?_eq_none] at h
  exact h r hr (decide_eq_true e)
theorem lookP_some {R : List PRule} {k : List Key} {v : Int × List Key} (h : lookP R k = some v) : (k, v) ∈ R ∧ k ∈ (rowsOf R).map (·.1) ∧ lookR (rowsOf R) k = ruleD v := by
  unfold lookP at h
  obtain ⟨r, e, rfl⟩ := Option.map_eq_some_iff.mp h
  have hk : r.1 = k := by simpa using List.find?_some e
  have hm := List.mem_of_find?_eq_some e
  subst hk
  refine ⟨hm, by rw [rowsOf_keys]; exact List.mem_map.mpr ⟨r, hm, rfl⟩, ?_⟩
  unfold lookR rowsOf
  rw [List.find?_map]
  have e2 : (R.find? ((fun p : List Key × PyData => decide (p.1 = r.1)) ∘ fun p : PRule => (p.1, ruleD p.2))) = some r := e
  rw [e2]
  rfl
def testV (held : List Int) (v : Int) : Key := if v ∈ held then Sum.inl (held.idxOf v : Nat) else Sum.inr ("new" : Str)
def srcV (held : List Int) (v : Int) : Key → Int
  | .inl n => (held[n.toNat]?).getD 0
  | .inr _ => v
def carryK (src : List Key) (held : List Int) (v : Int) : List Int := src.map (srcV held v)
def stepM (R : List PRule) (s : Int × List Int) (m : Int × Int) : Int × List Int :=
  match lookP R [Sum.inl s.1, Sum.inl m.1, testV s.2 m.2] with
  | none => s
  | some r => (r.1, carryK r.2 s.2 m.2)
def runM (R : List PRule) (s : Int × List Int) (ms : List (Int × Int)) : Int × List Int := ms.foldl (stepM R) s
def SrcIn (held : List Int) (k : Key) : Prop := (∃ n : Int, k = Sum.inl n ∧ 0 ≤ n ∧ n < held.length) ∨ k = Sum.inr ("value" : Str)
structure StOk (kinds : List (Int × Int)) (s : Int × List Int) : Prop where
  lo : 0 ≤ s.1
  hi : s.1 < kinds.length
  len : (s.2.length : Int) = heldAt kinds s.1
theorem step_in {w : Int} {kinds : List (Int × Int)} {R : List PRule} (hR : ∀ r ∈ R, RuleOk w kinds r) {s : Int × List Int} (hs : StOk kinds s) {m : Int × Int} {r : Int × List Key} (h : lookP R [Sum.inl s.1, Sum.inl m.1, testV s.2 m.2] = some r) :
    (∀ k ∈ r.2, SrcIn s.2 k) ∧ StOk kinds (r.1, carryK r.2 s.2 m.2) := by
  obtain ⟨i, j, t, e, i0, i1, j0, j1, tok, g0, g1, sok⟩ := hR _ (lookP_some h).1
  dsimp only at e tok g0 g1 sok
  have ei : i = s.1 := by
    have := (List.cons.inj e).1
    exact (Sum.inl.inj this).symm
  subst ei
  refine ⟨fun k hk => ?_, ⟨g0, g1, ?_⟩⟩
  · rcases sok.all k hk with ⟨n, rfl, n0, n1⟩ | ⟨rfl, _⟩
    · exact .inl ⟨n, rfl, n0, by rw [hs.len]; exact n1⟩
    · exact .inr rfl
  · unfold carryK
    rw [List.length_map]
    exact sok.len
theorem step_ok {w : Int} {kinds : List (Int × Int)} {R : List PRule} (hR : ∀ r ∈ R, RuleOk w kinds r) {s : Int × List Int} (hs : StOk kinds s) (m : Int × Int) : StOk kinds (stepM R s m) := by
  unfold stepM
  split
  · exact hs
  · exact (step_in hR hs (by assumption)).2
theorem run_ok {w : Int} {kinds : List (Int × Int)} {R : List PRule} (hR : ∀ r ∈ R, RuleOk w kinds r) : ∀ (ms : List (Int × Int)) {s : Int × List Int}, StOk kinds s → StOk kinds (runM R s ms)
  | [], _, h => h
  | m :: ms, _, h => run_ok hR ms (step_ok hR h m)
theorem st_zero {kinds : List (Int × Int)} (h : KindsOk kinds) : StOk kinds (0, []) := ⟨Int.le_refl 0, by have := h.len; show (0 : Int) < kinds.length; omega, by rw [h.zero]; rfl⟩
/-- a state with its held values, at v -/
def StAt (H : Hp) (v : V) (s : Int × List Int) : Prop := ∃ r a, v = .ref r ∧ H r = some (.tup [.int s.1, .ref a]) ∧ HT H a s.2
theorem StAt.mono {H H' : Hp} {v : V} {s : Int × List Int} (h : StAt H v s) (e : Same H H') : StAt H' v s := by
  obtain ⟨r, a, rfl, h1, h2⟩ := h
  exact ⟨r, a, rfl, e _ _ h1, h2.mono e⟩
def stD (s : Int × List Int) : PyData := .tuple [.int s.1, .tuple (s.2.map .int)]
theorem StAt.dp {K : PySem.W.Frag} {H : Hp} {v : V} {s : Int × List Int} (h : StAt H v s) : Dp K H v (stD s) := by
  obtain ⟨r, a, rfl, h1, h2⟩ := h
  exact .tup (SqT.of h1) (.cons (.int _) (.cons (.tup h2.sq (dp_ints _ _ _)) .nil))
def sp_carried : Sp := fun us H Q _ => ∃ (sa ha : Addr) (src : List Key) (held : List Int) (v : Int), us = [.ref sa, .ref ha, .int v] ∧ H sa = some (.tup (src.map kV)) ∧ HT H ha held ∧ (∀ k ∈ src, SrcIn held k) ∧ src.length ≤ 1000 ∧
  ∀ a H', Same H H' → H a = none → HT H' a (carryK src held v) → Q (.ref a) H'
/-- the watcher that a plan makes -/
structure WP (C : Addr) (H : Hp) (x lv lh d : Addr) (P : Plan) : Prop where
  w : WAt C H x lv lh d P.words (P.kinds.map (·.1)) (P.kinds.map (·.2)) (rowsOf P.rules)
  ok : PlanOk P
theorem WP.mono {C : Addr} {H H' : Hp} {x lv lh d : Addr} {P : Plan} (h : WP C H x lv lh d P) (e : Same H H') : WP C H' x lv lh d P := ⟨h.w.mono e, h.ok⟩
def sp_after (C : Addr) : Sp := fun us H Q _ => ∃ (x lv lh d ha : Addr) (pl : Plan) (s : Int) (held : List Int) (w v : Int), us = [.ref x, .int s, .ref ha, .int w, .int v] ∧ WP C H x lv lh d pl ∧ HT H ha held ∧ StOk pl.kinds (s, held) ∧
  ∀ u H', Same H H' → StAt H' u (stepM pl.rules (s, held) (w, v)) → Q u H'
/-- a stream of ints at t -/
def StrmAt (K : PySem.W.Frag) (H : Hp) (t : Addr) (ms : List (Int × Int)) : Prop := ∃ xs, SqT K H t xs ∧ TDs H xs (ms.map msgD)
theorem StrmAt.mono {K : PySem.W.Frag} {H H' : Hp} {t : Addr} {ms : List (Int × Int)} (h : StrmAt K H t ms) (e : Same H H') : StrmAt K H' t ms := by
  obtain ⟨xs, h1, h2⟩ := h
  refine ⟨xs, ?_, h2.mono (Tups.same e)⟩
  rcases h1 with (h1 | ⟨o, h1⟩) | h1
  · exact .inl (.inl (e _ _ h1))
  · exact .inl (.inr ⟨o, e _ _ h1⟩)
  · exact .inr h1
theorem idx_first {held : List Int} {v : Int} (h : v ∈ held) : held[held.idxOf v]? = some v ∧ ∀ m, m < held.idxOf v → held[m]? ≠ some v := by
  induction held with
  | nil => cases h
  | cons x r ih =>
    by_cases e : x = v
    · subst e
      rw [List.idxOf_cons_self]
      exact ⟨rfl, fun m hm => absurd hm (Nat.not_lt_zero _)⟩
    · have hr : v ∈ r := by
        rcases List.mem_cons.mp h with z | z
        · exact absurd z.symm e
        · exact z
      obtain ⟨a, b⟩ := ih hr
      have e2 : (x :: r).idxOf v = r.idxOf v + 1 := by rw [List.idxOf_cons, beq_eq_false_iff_ne.mpr e]; rfl
      rw [e2]
      refine ⟨by simpa using a, fun m hm => ?_⟩
      cases m with
      | zero => simpa using e
      | succ m => simpa using b m (by omega)
section
variable {P : Program} {w : World} {K : PySem.W.Frag} {mg : Str → Option Value} {base : Heap}
abbrev N_carried : List Str := ["sources", "held", "value", "source"]
theorem sc_carried : FnScope N_carried ["sources", "held", "value"] (defScope s_carried) := ⟨rfl, rfl, rfl, by decide +kernel, rfl, by decide +kernel, by decide +kernel⟩
theorem G_carried (T : Tx K mg) : FnG P w K mg base CX0 1 T.carried.f T.carried.fd ["sources", "held", "value"] sp_carried := by
  refine okG T.carried.F sc_carried (fun vs H Q E h => ?_) (fun cdv A outer s H vs Q E gd hr h => ?_)
  · obtain ⟨sa, ha, src, held, v, rfl, _⟩ := h
    rfl
  · obtain ⟨sa, ha, src, held, v, rfl, hs, hh, hin, ls, q⟩ := h
    refine ⟨_, 
      (pss_one (ps_ret (pe_callTy call_tupleF (by rfl) T.m_tuple (by decide +kernel) (pa_cons (pe_lc (own := [("source", 3)]) (g := gName 3) rfl sc_carried.nd (pi_tup (pv 0)) (blkOk_by (N := N_carried) (sc := defScope s_carried) (by decide +kernel)) (fun _ _ _ _ _ => (pg_name (i := 3) sc_carried.nd rfl (.inl rfl))) (fun _ _ _ _ _ => pts_nil) (fun _ _ _ _ _ => (pe_ifExp (pt_cmpR (op_eqS hr.units) (pv 3) (pe_glob (v := .str "value") rfl T.g_VALUE ⟨_, rfl⟩) (nomark _)) (pv 2) (pe_ix (r := rIxT K) ix_tup (pv 1) (pv 3) (fun _ _ => rfl))))) pa_nil)))) -- return tuple([value if source == VALUE else held[source] for source in sources])
       , ?_⟩
    refine ⟨.ref sa, rfl, sa, rfl, ⟨_, SqT.of hs⟩, fun D nD => ?_⟩
    refine lc_tup (K := K) (a := sa) (xs := src.map kV) (fun i H' => Same H H' ∧ H' D = some (.lst ((carryK (src.take i) held v).map V.int))) ?_ ?_ ?_ ?_
    · exact ⟨same_new nD, upd_same⟩
    · rintro i H' hi ⟨sm, hD⟩
      exact SqT.of (sm _ _ hs)
    · rintro i x H' hi ⟨sm, hD⟩
      rw [List.getElem?_map] at hi
      obtain ⟨k, ek, rfl⟩ := Option.map_eq_some_iff.mp hi
      have kin := hin k (List.mem_of_getElem? ek)
      have fin : ∀ y : Int, y = srcV held v k → (∃ acc, H' D = some (.lst acc) ∧ acc.length < sizeLine ∧ (Same H (upd H' D (.lst (acc ++ [V.int y]))) ∧ (upd H' D (.lst (acc ++ [V.int y]))) D = some (.lst ((carryK (src.take (i + 1)) held v).map V.int)))) := fun y hy => by
        refine ⟨_, hD, ?_, fun b o e => ?_, ?_⟩
        · rw [List.length_map, carryK, List.length_map, List.length_take]
          exact small1000 (by omega)
        · have : b ≠ D := ne_of_none e nD
          rw [upd_ne this]
          exact sm _ _ e
        · rw [upd_same, List.take_add_one, ek]
          unfold carryK
          rw [List.map_append, List.map_append, hy]
          rfl
      refine ⟨rfl, kV k, rfl, sa, kD k, "value", ldK k, kD_nd k, rfl, _, rfl, ?_⟩
      rcases kin with ⟨n, rfl, n0, n1⟩ | rfl
      · refine iteF ?_
        refine ⟨.ref ha, rfl, .int n, rfl, ha, held.map V.int, n, .int (srcV held v (.inl n)), rfl, rfl, (hh.mono sm).sq, ?_, fin _ rfl⟩
        obtain ⟨j, rfl⟩ : ∃ j : Nat, n = j := ⟨n.toNat, by omega⟩
        have hj : j < held.length := by omega
        refine atI_nat ?_
        rw [List.getElem?_map, List.getElem?_eq_getElem hj]
        show _ = some (V.int ((held[((j : Nat) : Int).toNat]?).getD 0))
        rw [Int.toNat_natCast, List.getElem?_eq_getElem hj]
        rfl
      · exact iteT ⟨.int v, rfl, fin v rfl⟩
    · rintro H' ⟨sm, hD⟩
      rw [List.length_map, List.take_length] at hD
      refine ⟨D, _, rfl, SqL.of hD, fun a ob na hob => ?_⟩
      exact q a _ (sm.trans (same_new na)) (sm.free na) ⟨ob, upd_same, hob⟩
abbrev N_after_message : List Str := ["watcher", "state", "held", "word", "value", "test", "rule", "target", "sources"]
theorem sc_after_message : FnScope N_after_message ["watcher", "state", "held", "word", "value"] (defScope s_after_message) := ⟨rfl, rfl, rfl, by decide +kernel, rfl, by decide +kernel, by decide +kernel⟩
theorem G_after_message (T : Tx K mg) : FnG P w K mg base CX0 2 T.after_message.f T.after_message.fd ["watcher", "state", "held", "word", "value"] (sp_after T.Watcher.C) := by
  refine okG T.after_message.F sc_after_message (fun vs H Q E h => ?_) (fun cdv A outer s H vs Q E gd hr h => ?_)
  · obtain ⟨x, lv, lh, d, ha, pl, s', held, w', v, rfl, _⟩ := h
    rfl
  · obtain ⟨x, lv, lh, d, ha, pl, s', held, w', v, rfl, hW, hh, hs, q⟩ := h
    refine ⟨_, 
      (C8.pss_cut (ps_set (i := 5) sc_after_message.nd rfl (.inl rfl) (pe_ifExp (pt_cmpR op_in_seq (pv 4) (pv 2) rfl) (pe_bmT PySem.F.plainAttrs_tuple PySem.F.slot_tuple_index PySem.F.type_tuple_index mt_tup_indexI (pv 2) (pa_cons (pv 4) pa_nil)) (pe_glob (v := .str "new") rfl T.g_NEW ⟨_, rfl⟩))) -- test = held.index(value) if value in held else NEW
      (pss_cons (ps_set (i := 6) sc_after_message.nd rfl (.inl rfl) (pe_methG (pv 0) T.Watcher.cl T.Watcher_rule_for.M (G_Watcher_rule_for T) gd (hr.mono (by decide)) T.Watcher_rule_for.b .nil pass0 (pa_cons (pv 1) (pa_cons (pv 3) (pa_cons (pv 5) pa_nil))))) -- rule = watcher.rule_for(state, word, test)
      (pss_cons (ps_if (pt_cmp (pc_isN (pv 6))) 
        (pss_one (ps_ret (pe_tup (pa_cons (pv 1) (pa_cons (pv 2) pa_nil))))) -- return (state, held)
         pss_nil) -- if rule is None:
      (pss_cons (ps_asg (pv 6) (pg_tup rfl (pgs_cons (pg_name (i := 7) sc_after_message.nd rfl (.inl rfl)) (pgs_cons (pg_name (i := 8) sc_after_message.nd rfl (.inl rfl)) pgs_nil)))) -- target, sources = rule
      (pss_one (ps_ret (pe_tup (pa_cons (pv 7) (pa_cons (pe_callG (G_carried T) gd (hr.mono (by decide)) rfl T.carried.g T.carried.F.kp T.carried.b .nil pass0 (pa_cons (pv 8) (pa_cons (pv 2) (pa_cons (pv 4) pa_nil)))) pa_nil))))) -- return (target, carried(sources, held, value))
      )))) , ?_⟩
    refine ⟨fun σ H' => σ = [some (.ref x), some (.int s'), some (.ref ha), some (.int w'), some (.int v), some (kV (testV held v)), none, none, none] ∧ H' = H, ?_, ?_⟩
    · refine ⟨.int v, rfl, .ref ha, rfl, ha, _, rfl, .inr hh.sq, rfl, flat_ints _, _, rfl, ?_⟩
      dsimp only
      rw [if_neg Bool.false_ne_true, inV_ints]
      by_cases hv : v ∈ held
      · rw [decide_eq_true hv]
        obtain ⟨i1, i2⟩ := idx_first hv
        have e : testV held v = Sum.inl ((held.idxOf v : Nat) : Int) := by unfold testV; rw [if_pos hv]
        rw [e]
        exact iteT ⟨.ref ha, rfl, hh.ty, .int v, rfl, ha, held, v, held.idxOf v, rfl, rfl, hh.sq, i1, i2, rfl, rfl⟩
      · rw [decide_eq_false hv]
        have e : testV held v = Sum.inr ("new" : Str) := by unfold testV; rw [if_neg hv]
        rw [e]
        exact iteF ⟨rfl, rfl⟩
    rintro σ H' ⟨rfl, rfl⟩
    obtain ⟨dx, hx⟩ := hW.w.ins
    refine ⟨.ref x, rfl, x, dx, _, rfl, hx, rfl, .int s', rfl, .int w', rfl, kV (testV held v), rfl, x, lv, lh, d, pl.words, _, _, rowsOf pl.rules, s', w', testV held v, rfl, hW.w, fun nk H1 s1 => ?_, fun hk v1 H1 s1 t1 => ?_⟩
    · have e : stepM pl.rules (s', held) (w', v) = (s', held) := by
        unfold stepM
        split
        · rfl
        · rename_i r hr'
          exact absurd (lookP_some hr').2.1 nk
      refine ⟨.non, rfl, _, rfl, iteT ?_⟩
      refine ⟨.int s', rfl, .ref ha, rfl, by show 2 ≤ sizeLine; decide, fun r nr => ?_⟩
      refine q (.ref r) _ (s1.trans (same_new nr)) ?_
      rw [e]
      exact ⟨r, ha, rfl, upd_same, (hh.mono s1).mono (same_new nr)⟩
    · obtain ⟨r, er⟩ : ∃ r, lookP pl.rules [Sum.inl s', Sum.inl w', testV held v] = some r := by
        cases e : lookP pl.rules [Sum.inl s', Sum.inl w', testV held v] with
        | none => exact absurd hk (lookP_none e)
        | some r => exact ⟨r, rfl⟩
      have e : stepM pl.rules (s', held) (w', v) = (r.1, carryK r.2 held v) := by
        unfold stepM
        rw [er]
      obtain ⟨sin, _⟩ := step_in (s := (s', held)) (m := (w', v)) hW.ok.r hs er
      have lsr : r.2.length ≤ 1000 := by
        obtain ⟨i, j, t, _, i0, i1, _, _, _, g0, g1, sok⟩ := hW.ok.r _ (lookP_some er).1
        have := sok.len
        have := held_bd hW.ok.k g0 g1
        dsimp only at *
        omega
      rw [(lookP_some er).2.2] at t1
      obtain ⟨a, b, rfl, h1, h2⟩ := TD.rule t1
      refine ⟨.ref a, rfl, _, rfl, iteF ?_⟩
      refine ⟨.ref a, rfl, a, _, rfl, SqT.of h1, rfl, .int r.1, [.ref b], rfl, .ref b, [], rfl, rfl, ?_⟩
      refine ⟨.int r.1, rfl, .ref b, rfl, .ref ha, rfl, .int v, rfl, b, ha, r.2, held, v, rfl, h2, hh.mono s1, sin, lsr, fun c H2 s2 nc hc => ?_⟩
      refine ⟨by show 2 ≤ sizeLine; decide, fun u nu => ?_⟩
      refine q (.ref u) _ ((s1.trans s2).trans (same_new nu)) ?_
      rw [e]
      exact ⟨u, c, rfl, upd_same, hc.mono (same_new nu)⟩
end

/-! ### edits of watchers -/
theorem kV_injV {a b : Key} (e : kV a = kV b) : a = b := by
  cases a with
  | inl n =>
    cases b with
    | inl m => rw [V.int.inj e]
    | inr s => exact V.noConfusion e
  | inr s =>
    cases b with
    | inl m => exact V.noConfusion e
    | inr s2 => rw [V.str.inj e]
theorem do_add_state {C CV CL : Addr} {H : Hp} {Q : VK} {E : XK} {x lv lh d : Addr} {n : Int} {ks : List (Int × Int)} {R : Rows} {a b : Int} (hW : WAt C H x lv lh d n (ks.map (·.1)) (ks.map (·.2)) R) (l5 : ks.length ≤ 5) (a0 : 0 ≤ a) (a3 : a ≤ 3) (b0 : 0 ≤ b) (b3 : b ≤ 3)
    (q : ∀ H', (∀ c o, H c = some o → c ≠ lv → c ≠ lh → H' c = some o) → WAt C H' x lv lh d n ((ks ++ [(a, b)]).map (·.1)) ((ks ++ [(a, b)]).map (·.2)) R → Q (.int ks.length) H') : sp_add_state C CV CL [.ref x, .int a, .int b] H Q E := by
  refine ⟨x, lv, lh, d, n, _, _, R, x, .int a, .int b, .int a, .int b, rfl, hW, .int _, .int _, fun bad => ?_, fun _ bad => ?_, fun _ _ six => ?_, fun a' b' ea eb _ _ _ H' k1 hW' => ?_⟩
  · rw [btw_true a0 a3] at bad
    cases bad
  · rw [btw_true b0 b3] at bad
    cases bad
  · rw [List.length_map] at six
    omega
  · cases ea
    cases eb
    rw [List.length_map]
    exact q H' k1 (by rw [List.map_append, List.map_append]; exact hW')
theorem do_add_rule {C : Addr} {X : ErrA} {H : Hp} {Q : VK} {E : XK} {x lv lh d sa : Addr} {n : Int} {ks : List (Int × Int)} {R : Rows} {s w : Int} {t : Key} {v : Int × List Key} (hW : WAt C H x lv lh d n (ks.map (·.1)) (ks.map (·.2)) R) (hks : KindsOk ks) (hr : RuleOk n ks ([Sum.inl s, Sum.inl w, t], v)) (hk : [Sum.inl s, Sum.inl w, t] ∉ R.map (·.1)) (lt : R.length < 1000)
    (hsa : H sa = some (.tup (v.2.map kV))) (q : ∀ H', (∀ c o, H c = some o → c ≠ d → H' c = some o) → WAt C H' x lv lh d n (ks.map (·.1)) (ks.map (·.2)) (R ++ [([Sum.inl s, Sum.inl w, t], ruleD v)]) → Q .non H') : sp_add_rule C X [.ref x, .int s, .int w, kV t, .int v.1, .ref sa] H Q E := by
  obtain ⟨i, j, t', e, i0, i1, j0, j1, tok, g0, g1, sok⟩ := hr
  injection e with e1 e
  injection e with e2 e
  injection e with e3 _
  have e1' := Sum.inl.inj e1
  have e2' := Sum.inl.inj e2
  subst e1' e2' e3
  obtain ⟨tg, sk⟩ := v
  dsimp only at g0 g1 sok hsa
  obtain ⟨dx, hx⟩ := hW.ins
  have hb1 := held_bd hks i0 i1
  have hb2 := held_bd hks g0 g1
  have sl : sk.length ≤ 50 := by have := sok.len; omega
  have l1 : (ks.map (·.1)).length = ks.length := List.length_map _
  refine ⟨x, lv, lh, d, n, _, _, R, x, .int s, .int w, kV t, .int tg, .ref sa, .int s, .int w, kD t, .int tg, .tuple (sk.map kD), rfl, hW, .int _, .int _, ldK t, .int _, .tup (fun e => by rw [e, hx] at hsa; cases hsa) hsa (lds_keys sk), kD_nd t, fun _ => smallT_keys sl, lt, fun bad => ?_, fun _ bad => ?_, fun _ _ bad => ?_, fun s' tg' w' es eg ew _ _ _ _ _ _ => ⟨fun bad => ?_, fun t' ev ed _ => ⟨fun bad => ?_, fun ks' are => ⟨fun z => ?_, fun _ H' k7 hW' => ?_⟩⟩⟩⟩
  · rw [l1, btw_true i0 (by omega)] at bad
    cases bad
  · rw [l1, btw_true g0 (by omega)] at bad
    cases bad
  · rw [btw_true j0 (by omega)] at bad
    cases bad
  · cases es
    rw [hAt_held, testOk_is tok] at bad
    cases bad
  · cases es
    cases eg
    have := kD_inj ed
    subst this
    rw [hAt_held, hAt_held] at bad
    exact absurd ⟨sk, srcOk_are sok⟩ bad
  · cases es
    cases ew
    have := kD_inj ed
    subst this
    exact absurd z hk
  · cases es
    cases ew
    cases eg
    have := kD_inj ed
    subst this
    have e4 : ks' = sk := by
      have := PyData.tuple.inj are.d
      exact (map_kD_inj this).symm
    subst e4
    exact q H' k7 hW'

/-! ### situations -/
abbrev Sit := Int × Int × List (Int × Int)
def pairD (m : Int × Int) : PyData := .tuple [.int m.1, .int m.2]
def pairsD (ps : List (Int × Int)) : PyData := .tuple (ps.map pairD)
def sitD (s : Sit) : PyData := .tuple [.int s.1, .int s.2.1, pairsD s.2.2]
def sitK (s : Sit) : NestedKey := .tup [.num s.1, .num s.2.1, .tup (s.2.2.map fun m => .tup [.num m.1, .num m.2])]
theorem nkDs_map {α : Type} (f : α → NestedKey) : ∀ l : List α, nkDs (l.map f) = l.map fun x => nkD (f x)
  | [] => rfl
  | x :: r => by
    show nkD (f x) :: nkDs (r.map f) = _
    rw [nkDs_map f r]
    rfl
theorem sitK_D (s : Sit) : nkD (sitK s) = sitD s := by
  unfold sitK sitD pairsD
  show PyData.tuple [.int s.1, .int s.2.1, .tuple (nkDs (s.2.2.map fun m => NestedKey.tup [.num m.1, .num m.2]))] = _
  rw [nkDs_map]
  rfl
theorem sitK_depth (s : Sit) : (sitK s).depth ≤ 8 := by
  have h : ∀ l : List (Int × Int), NestedKey.depthAll (l.map fun m => NestedKey.tup [.num m.1, .num m.2]) ≤ 1 := by
    intro l
    induction l with
    | nil => simp [NestedKey.depthAll]
    | cons x r ih =>
      simp only [List.map_cons, NestedKey.depthAll, NestedKey.depth]
      omega
  have := h s.2.2
  simp only [sitK, NestedKey.depth, NestedKey.depthAll]
  omega
theorem sitK_inj {s s' : Sit} (h : sitK s = sitK s') : s = s' := by
  obtain ⟨a, b, c⟩ := s
  obtain ⟨a', b', c'⟩ := s'
  unfold sitK at h
  simp only [NestedKey.tup.injEq, List.cons.injEq, NestedKey.num.injEq, and_true] at h
  obtain ⟨rfl, rfl, h⟩ := h
  have : ∀ l l' : List (Int × Int), (l.map fun m => NestedKey.tup [.num m.1, .num m.2]) = (l'.map fun m => NestedKey.tup [.num m.1, .num m.2]) → l = l' := by
    intro l
    induction l with
    | nil =>
      intro l' h
      cases l' with
      | nil => rfl
      | cons x r => cases h
    | cons x r ih =>
      intro l' h
      cases l' with
      | nil => cases h
      | cons y r' =>
        simp only [List.map_cons, List.cons.injEq, NestedKey.tup.injEq, NestedKey.num.injEq, and_true] at h
        rw [ih r' h.2, Prod.ext h.1.1 h.1.2]
  rw [this _ _ h]
theorem sit_key {H : Hp} {v : V} {s : Sit} (h : TD H v (sitD s)) : NKey H (sitK s) v := ⟨sitK_depth s, by rw [sitK_D]; exact h, _, rfl⟩
structure WA where
  (x lv lh d : Addr)
/-- a pair of watchers -/
structure PairAt (K : PySem.W.Frag) (C : Addr) (H : Hp) (t : Addr) (a b : WA) (P1 P2 : Plan) : Prop where
  sq : SqT K H t [.ref a.x, .ref b.x]
  w1 : WP C H a.x a.lv a.lh a.d P1
  w2 : WP C H b.x b.lv b.lh b.d P2
theorem sqT_same {K : PySem.W.Frag} {H H' : Hp} {t : Addr} {xs : List V} (h : SqT K H t xs) (e : Same H H') : SqT K H' t xs := by
  rcases h with (h1 | ⟨o, h1⟩) | h1
  · exact .inl (.inl (e _ _ h1))
  · exact .inl (.inr ⟨o, e _ _ h1⟩)
  · exact .inr h1
theorem PairAt.mono {K : PySem.W.Frag} {C : Addr} {H H' : Hp} {t : Addr} {a b : WA} {P1 P2 : Plan} (h : PairAt K C H t a b P1 P2) (s : Same H H') : PairAt K C H' t a b P1 P2 := ⟨sqT_same h.sq s, h.w1.mono s, h.w2.mono s⟩
/-- its states are there -/
structure SitIn (P1 P2 : Plan) (s : Sit) : Prop where
  p0 : 0 ≤ s.1
  p1 : s.1 < P1.kinds.length
  q0 : 0 ≤ s.2.1
  q1 : s.2.1 < P2.kinds.length
  len : s.2.2.length ≤ 3
def firstM (h : Int) : List Int := (List.range h.toNat).map fun i : Nat => (i : Int)
theorem firstM_V (h : Int) : (firstM h).map V.int = rgV 0 h := by
  unfold firstM rgV
  rw [List.map_map]
  simp [Function.comp_def]
theorem firstM_len (h : Int) : (firstM h).length = h.toNat := by
  unfold firstM
  rw [List.length_map, List.length_range]
def prt (pairs : List (Int × Int)) (j : Int) : Option Int := pairs.foldl (fun o m => if m.2 = j then some m.1 else o) none
def secF (pairs : List (Int × Int)) (h : Int) (n : Nat) : List Int × Int := (List.range n).foldl (fun (s : List Int × Int) (j : Nat) => match prt pairs (j : Int) with | some i => (s.1 ++ [i], s.2) | none => (s.1 ++ [s.2], s.2 + 1)) ([], h)
def secondM (pairs : List (Int × Int)) (h1 h2 : Int) : List Int := (secF pairs h1 h2.toNat).1
theorem secF_succ (pairs : List (Int × Int)) (h : Int) (n : Nat) : secF pairs h (n + 1) = match prt pairs (n : Int) with | some i => ((secF pairs h n).1 ++ [i], (secF pairs h n).2) | none => ((secF pairs h n).1 ++ [(secF pairs h n).2], (secF pairs h n).2 + 1) := by
  unfold secF
  rw [List.range_succ, List.foldl_append]
  rfl
theorem secF_len (pairs : List (Int × Int)) (h : Int) : ∀ n : Nat, (secF pairs h n).1.length = n
  | 0 => rfl
  | n + 1 => by
    rw [secF_succ]
    split <;> simp [secF_len pairs h n]
/-- the places at which both hold one value, of the first n -/
def eqF (f s : List Int) (n : Nat) : List (Int × Int) := (List.range n).filterMap fun (i : Nat) => (f[i]?).bind fun v => if v ∈ s then some ((i : Int), ((s.idxOf v : Nat) : Int)) else none
def eqM (f s : List Int) : List (Int × Int) := eqF f s f.length
theorem eqF_succ (f s : List Int) (n : Nat) {v : Int} (h : f[n]? = some v) : eqF f s (n + 1) = eqF f s n ++ (if v ∈ s then [((n : Int), ((s.idxOf v : Nat) : Int))] else []) := by
  unfold eqF
  rw [List.range_succ, List.filterMap_append]
  congr 1
  by_cases hv : v ∈ s <;> simp [h, hv]
theorem eqF_len (f s : List Int) (n : Nat) : (eqF f s n).length ≤ n := by
  unfold eqF
  exact Nat.le_trans (List.length_filterMap_le _ _) (by rw [List.length_range]; exact Nat.le_refl _)
/-- the places of the first one whose values the second one doesn't hold -/
def loneF (f s : List Int) (n : Nat) : List Int := (List.range n).filterMap fun (i : Nat) => (f[i]?).bind fun v => if v ∈ s then none else some (i : Int)
def loneM (f s : List Int) : List Int := loneF f s f.length
theorem loneF_succ (f s : List Int) (n : Nat) {v : Int} (h : f[n]? = some v) : loneF f s (n + 1) = loneF f s n ++ (if v ∈ s then [] else [(n : Int)]) := by
  unfold loneF
  rw [List.range_succ, List.filterMap_append]
  congr 1
  by_cases hv : v ∈ s <;> simp [h, hv]
theorem loneF_len (f s : List Int) (n : Nat) : (loneF f s n).length ≤ n := by
  unfold loneF
  exact Nat.le_trans (List.length_filterMap_le _ _) (by rw [List.length_range]; exact Nat.le_refl _)
inductive Cs where
  | both (i j : Int) | first (i : Int) | second (j : Int) | new
  deriving DecidableEq
def csD : Cs → PyData
  | .both i j => .tuple [.str "both", .int i, .int j]
  | .first i => .tuple [.str "first", .int i]
  | .second j => .tuple [.str "second", .int j]
  | .new => .tuple [.str "new"]
def casesM (f s : List Int) : List Cs := (eqM f s).map (fun m => Cs.both m.1 m.2) ++ ((loneM f s).map Cs.first ++ ((loneM s f).map Cs.second ++ [Cs.new]))
def leastF (vs : List Int) : Nat → Int → Int
  | 0, n => n
  | k + 1, n => if n ∈ vs then leastF vs k (n + 1) else n
def leastM (vs : List Int) : Int := leastF vs (vs.length + 1) 0
def valueM (c : Cs) (f s : List Int) : Int := match c with
  | .both i _ => (f[i.toNat]?).getD 0
  | .first i => (f[i.toNat]?).getD 0
  | .second j => (s[j.toNat]?).getD 0
  | .new => leastM (f ++ s)
def afterM (P1 P2 : Plan) (s : Sit) (f g : List Int) (w : Int) (c : Cs) : Sit := ((stepM P1.rules (s.1, f) (w, valueM c f g)).1, (stepM P2.rules (s.2.1, g) (w, valueM c f g)).1, eqM (stepM P1.rules (s.1, f) (w, valueM c f g)).2 (stepM P2.rules (s.2.1, g) (w, valueM c f g)).2)
def heldM (P1 P2 : Plan) (s : Sit) : List Int × List Int := (firstM (heldAt P1.kinds s.1), secondM s.2.2 (heldAt P1.kinds s.1) (heldAt P2.kinds s.2.1))
def stepsM (P1 P2 : Plan) (s : Sit) : List (Int × Cs × Sit) := (List.range P1.words.toNat).flatMap fun w : Nat => (casesM (heldM P1 P2 s).1 (heldM P1 P2 s).2).map fun c => ((w : Int), c, afterM P1 P2 s (heldM P1 P2 s).1 (heldM P1 P2 s).2 w c)
theorem heldM_ok {P1 P2 : Plan} {s : Sit} (o1 : PlanOk P1) (o2 : PlanOk P2) (h : SitIn P1 P2 s) : StOk P1.kinds (s.1, (heldM P1 P2 s).1) ∧ StOk P2.kinds (s.2.1, (heldM P1 P2 s).2) := by
  have b1 := held_bd o1.k h.p0 h.p1
  have b2 := held_bd o2.k h.q0 h.q1
  refine ⟨⟨h.p0, h.p1, ?_⟩, ⟨h.q0, h.q1, ?_⟩⟩
  · show (((firstM (heldAt P1.kinds s.1)).length : Nat) : Int) = heldAt P1.kinds s.1
    rw [firstM_len]
    omega
  · show (((secF s.2.2 (heldAt P1.kinds s.1) (heldAt P2.kinds s.2.1).toNat).1.length : Nat) : Int) = heldAt P2.kinds s.2.1
    rw [secF_len]
    omega
theorem afterM_in {P1 P2 : Plan} {s : Sit} {f g : List Int} {w : Int} {c : Cs} (o1 : PlanOk P1) (o2 : PlanOk P2) (h1 : StOk P1.kinds (s.1, f)) (h2 : StOk P2.kinds (s.2.1, g)) : SitIn P1 P2 (afterM P1 P2 s f g w c) := by
  have a := step_ok o1.r h1 (w, valueM c f g)
  have b := step_ok o2.r h2 (w, valueM c f g)
  refine ⟨a.lo, a.hi, b.lo, b.hi, ?_⟩
  have e := eqF_len (stepM P1.rules (s.1, f) (w, valueM c f g)).2 (stepM P2.rules (s.2.1, g) (w, valueM c f g)).2 (stepM P1.rules (s.1, f) (w, valueM c f g)).2.length
  have l := a.len
  have := (held_bd o1.k a.lo a.hi).2
  show (eqF _ _ _).length ≤ 3
  omega
def sp_held_numbers (K : PySem.W.Frag) (C : Addr) : Sp := fun us H Q _ => ∃ (t : Addr) (v : V) (a b : WA) (P1 P2 : Plan) (s : Sit), us = [.ref t, v] ∧ PairAt K C H t a b P1 P2 ∧ TD H v (sitD s) ∧ SitIn P1 P2 s ∧
  ∀ r x y H', Same H H' → H' r = some (.tup [.ref x, .ref y]) → HT H' x (heldM P1 P2 s).1 → HT H' y (heldM P1 P2 s).2 → Q (.ref r) H'
def sp_equal_places : Sp := fun us H Q _ => ∃ (x y : Addr) (f s : List Int), us = [.ref x, .ref y] ∧ HT H x f ∧ HT H y s ∧ f.length ≤ 100 ∧ s.length ≤ 100 ∧ ∀ r H', Same H H' → TD H' (.ref r) (pairsD (eqM f s)) → Q (.ref r) H'
def sp_cases_between : Sp := fun us H Q _ => ∃ (x y : Addr) (f s : List Int), us = [.ref x, .ref y] ∧ HT H x f ∧ HT H y s ∧ f.length ≤ 100 ∧ s.length ≤ 100 ∧ ∀ r H', Same H H' → TD H' (.ref r) (.tuple ((casesM f s).map csD)) → Q (.ref r) H'
def sp_least_other : Sp := fun us H Q _ => ∃ (x : Addr) (vs : List Int), us = [.ref x] ∧ H x = some (.tup (vs.map V.int)) ∧ vs.length ≤ 1000 ∧ Q (.int (leastM vs)) H
def CsIn (c : Cs) (f s : List Int) : Prop := match c with
  | .both i _ => 0 ≤ i ∧ i < f.length
  | .first i => 0 ≤ i ∧ i < f.length
  | .second j => 0 ≤ j ∧ j < s.length
  | .new => True
def sp_value_of : Sp := fun us H Q _ => ∃ (v : V) (x y : Addr) (c : Cs) (f s : List Int), us = [v, .ref x, .ref y] ∧ TD H v (csD c) ∧ HT H x f ∧ HT H y s ∧ f.length ≤ 100 ∧ s.length ≤ 100 ∧ CsIn c f s ∧ ∀ H', Same H H' → Q (.int (valueM c f s)) H'
def sp_situation_after (K : PySem.W.Frag) (C : Addr) : Sp := fun us H Q _ => ∃ (t r x y : Addr) (sv cv : V) (a b : WA) (P1 P2 : Plan) (s : Sit) (f g : List Int) (w : Int) (c : Cs), us = [.ref t, sv, .ref r, .int w, cv] ∧ PairAt K C H t a b P1 P2 ∧ TD H sv (sitD s) ∧ SitIn P1 P2 s ∧
  SqT K H r [.ref x, .ref y] ∧ HT H x f ∧ HT H y g ∧ StOk P1.kinds (s.1, f) ∧ StOk P2.kinds (s.2.1, g) ∧ TD H cv (csD c) ∧ CsIn c f g ∧
  ∀ v H', Same H H' → TD H' v (sitD (afterM P1 P2 s f g w c)) → Q v H'
def stepD (x : Int × Cs × Sit) : PyData := .tuple [.int x.1, csD x.2.1, sitD x.2.2]
def sp_steps_from (K : PySem.W.Frag) (C : Addr) : Sp := fun us H Q _ => ∃ (t : Addr) (v : V) (a b : WA) (P1 P2 : Plan) (s : Sit), us = [.ref t, v] ∧ PairAt K C H t a b P1 P2 ∧ TD H v (sitD s) ∧ SitIn P1 P2 s ∧
  ∀ r xs H', Same H H' → H r = none → H' r = some (.lst xs) → TDs H' xs ((stepsM P1 P2 s).map stepD) → Q (.ref r) H'

theorem same_at {H H' : Hp} {D : Addr} {o : HO} (s : Same H H') (n : H D = none) : Same H (upd H' D o) := fun c u e => by
  rw [upd_ne (ne_of_none e n)]
  exact s _ _ e
theorem tds_snoc {H : Hp} : ∀ {xs : List V} {ds : List PyData} {v : V} {d : PyData}, TDs H xs ds → TD H v d → TDs H (xs ++ [v]) (ds ++ [d])
  | _, [], _, _, h, k => by
    cases h
    exact .cons k .nil
  | _, _ :: _, _, _, h, k => by
    cases h with
    | cons a r => exact .cons a (tds_snoc r k)
theorem TDs.len {H : Hp} : ∀ {xs : List V} {ds : List PyData}, TDs H xs ds → xs.length = ds.length
  | _, [], h => by
    cases h
    rfl
  | _, _ :: _, h => by
    cases h with
    | cons a r => rw [List.length_cons, List.length_cons, r.len]
def LoW (x : Addr) (H : Hp) (vs : List Int) : Nat → L2.St → Hp → Prop := fun m σ H' => ∃ n : Int, σ = [some (.ref x), some (.int n)] ∧ H' = H ∧ leastF vs m n = leastM vs
theorem pig : ∀ (k : Nat) (n : Int) (vs : List Int), (∀ i : Nat, i < k → n + i ∈ vs) → k ≤ vs.length
  | 0, _, _, _ => Nat.zero_le _
  | k + 1, n, vs, h => by
    have hk := h k (by omega)
    have ih := pig k n (vs.erase (n + k)) fun i hi => (List.mem_erase_of_ne (by omega)).mpr (h i (by omega))
    rw [List.length_erase_of_mem hk] at ih
    have := List.length_pos_of_mem hk
    omega
theorem leastF_in {vs : List Int} : ∀ (k : Nat) (n : Int), leastF vs k n ∈ vs → ∀ i : Nat, i ≤ k → n + i ∈ vs
  | 0, n, h, i, hi => by
    obtain rfl : i = 0 := by omega
    simpa [leastF] using h
  | k + 1, n, h, i, hi => by
    unfold leastF at h
    by_cases hn : n ∈ vs
    · rw [if_pos hn] at h
      cases i with
      | zero => simpa using hn
      | succ i =>
        have := leastF_in k (n + 1) h i (by omega)
        have e : n + 1 + (i : Int) = n + ((i + 1 : Nat) : Int) := by omega
        rwa [e] at this
    · rw [if_neg hn] at h
      exact absurd h hn
theorem leastM_out (vs : List Int) : leastM vs ∉ vs := fun h => by
  have := pig (vs.length + 2) 0 vs fun i hi => leastF_in (vs.length + 1) 0 h i (by omega)
  omega
section
variable {P : Program} {w : World} {K : PySem.W.Frag} {mg : Str → Option Value} {base : Heap}
theorem G_Watcher_held_counts (T : Tx K mg) : FnG P w K mg base CX0 1 T.Watcher_held_counts.f T.Watcher_held_counts.fd ["self"] (sp_W_hel T.Watcher.C) := ok_Watcher_held_counts T.Watcher_held_counts.F T.W T.m_tuple
abbrev N_least_other : List Str := ["values", "number"]
theorem sc_least_other : FnScope N_least_other ["values"] (defScope s_least_other) := ⟨rfl, rfl, rfl, by decide +kernel, rfl, by decide +kernel, by decide +kernel⟩
theorem G_least_other (T : Tx K mg) : FnG P w K mg base CX0 1 T.least_other.f T.least_other.fd ["values"] sp_least_other := by
  refine okG T.least_other.F sc_least_other (fun vs H Q E h => ?_) (fun cdv A outer s H vs Q E gd hr h => ?_)
  · obtain ⟨x, vs, rfl, _⟩ := h
    rfl
  · obtain ⟨x, vs, rfl, hx, hl, q⟩ := h
    refine ⟨_, 
      (pss_cons (ps_set (i := 1) sc_least_other.nd rfl (.inl rfl) pe_int) -- number = 0
      (pss_cons (ps_while PassesOwn.never (pt_cmpR op_in_seq (pv 1) (pv 0) rfl) 
        (pss_one (ps_aug (i := 1) sc_least_other.nd rfl (.inl rfl) pe_int ip_add)) -- number += 1
        ) -- while number in values:
      (pss_one (ps_ret (pv 1))) -- return number
      )) , ?_⟩
    refine ⟨LoW x H vs, ⟨vs.length + 1, _, rfl, rfl, rfl⟩, fun m σ H' hW => ?_⟩
    obtain ⟨n, rfl, rfl, he⟩ := hW
    refine ⟨.int n, rfl, .ref x, rfl, x, _, rfl, .inr (SqT.of hx), rfl, flat_ints _, _, rfl, ?_⟩
    rw [if_neg Bool.false_ne_true, inV_ints]
    by_cases hn : n ∈ vs
    · rw [decide_eq_true hn]
      refine iteT ?_
      cases m with
      | zero =>
        have : leastM vs = n := he.symm
        exact absurd (this ▸ hn) (leastM_out vs)
      | succ m =>
        unfold leastF at he
        rw [if_pos hn] at he
        exact ⟨LoW x H' vs m, fun σ' H2 h2 => ⟨m, Nat.lt_succ_self m, h2⟩, .int n, rfl, n, 1, rfl, rfl, n + 1, rfl, rfl, he⟩
    · rw [decide_eq_false hn]
      refine iteF ?_
      have e : leastF vs m n = n := by
        cases m with
        | zero => rfl
        | succ m =>
          unfold leastF
          rw [if_neg hn]
      rw [e] at he
      rw [← he] at q
      exact ⟨.int n, rfl, q⟩
abbrev N_equal_places : List Str := ["first", "second", "i", "value"]
theorem sc_equal_places : FnScope N_equal_places ["first", "second"] (defScope s_equal_places) := ⟨rfl, rfl, rfl, by decide +kernel, rfl, by decide +kernel, by decide +kernel⟩
theorem G_equal_places (T : Tx K mg) : FnG P w K mg base CX0 1 T.equal_places.f T.equal_places.fd ["first", "second"] sp_equal_places := by
  refine okG T.equal_places.F sc_equal_places (fun vs H Q E h => ?_) (fun cdv A outer s H vs Q E gd hr h => ?_)
  · obtain ⟨x, y, f, s, rfl, _⟩ := h
    rfl
  · obtain ⟨x, y, f, g, rfl, hf, hg, lf, lg, q⟩ := h
    refine ⟨_, 
      (pss_one (ps_ret (pe_callTy call_tuple_of (by rfl) T.m_tuple (by decide +kernel) (pa_cons (pe_lc (own := [("i", 2), ("value", 3)]) (g := gTup K 2 (gCons (gName 2) (gCons (gName 3) gNil))) rfl sc_equal_places.nd (pi_enumT (by rfl) T.m_enumerate (pa_cons (pv 0) pa_nil)) (blkOk_by (N := N_equal_places) (sc := defScope s_equal_places) (by decide +kernel)) (fun _ _ _ _ _ => (pg_tup rfl (pgs_cons (pg_name (i := 2) sc_equal_places.nd rfl (.inl rfl)) (pgs_cons (pg_name (i := 3) sc_equal_places.nd rfl (.inl rfl)) pgs_nil)))) (fun _ _ _ _ _ => (pts_one (pt_cmpR (r := rIn K false) op_in_seq (pv 3) (pv 1) rfl))) (fun _ _ _ _ _ => (pe_tup (pa_cons (pv 2) (pa_cons (pe_bmT (r := rIdxI K) PySem.F.plainAttrs_tuple PySem.F.slot_tuple_index PySem.F.type_tuple_index mt_tup_indexI (pv 1) (pa_cons (pv 3) pa_nil)) pa_nil))))) pa_nil)))) -- return tuple([(i, second.index(value)) for i, value in enumerate(first) if value in second])
       , ?_⟩
    have L5 : 200000 ≤ sizeLine := by decide
    refine ⟨.ref x, rfl, x, _, rfl, hf.sq, fun D nD => ?_⟩
    refine lc_it (walk_enumT (xs := f.map V.int)) (fun i H' => Same H H' ∧ ∃ xs, H' D = some (.lst xs) ∧ TDs H' xs ((eqF f g i).map pairD)) ?_ ?_ ?_ ?_
    · exact ⟨same_at (Same.refl H) nD, [], upd_same, .nil⟩
    · exact fun i H' _ h => sqT_same hf.sq h.1
    · rintro i v H1 H2 hi ⟨sm, xs, hD, hxs⟩ ⟨TT, x1, x2, rfl, nT, rfl, e1, e2⟩
      cases e1
      have hi' : i < f.length := by rw [List.length_map] at hi; exact hi
      have ef : f[i]? = some f[i] := List.getElem?_eq_getElem hi'
      have ex : x2 = .int f[i] := by
        have e2 : (f.map V.int)[i]? = some x2 := e2
        rw [List.getElem?_map, ef] at e2
        exact (Option.some.inj e2).symm
      subst ex
      have s7 := same_new (o := .tup [.int (i : Nat), .int f[i]]) nT
      have sm7 := sm.trans s7
      have hD7 := s7 _ _ hD
      refine ⟨TT, _, rfl, SqT.of upd_same, rfl, .int (i : Nat), [.int f[i]], rfl, .int f[i], [], rfl, rfl, rfl, ?_⟩
      refine ⟨.int f[i], rfl, .ref y, rfl, y, _, rfl, .inr (hg.mono sm7).sq, rfl, flat_ints _, _, rfl, ?_⟩
      rw [if_neg Bool.false_ne_true, inV_ints, eqF_succ f g i ef]
      by_cases hv : f[i] ∈ g
      · rw [decide_eq_true hv, if_pos hv]
        refine iteT ?_
        obtain ⟨i1, i2⟩ := idx_first hv
        refine ⟨.int (i : Nat), rfl, .ref y, rfl, (hg.mono sm7).ty, .int f[i], rfl, y, g, f[i], g.idxOf f[i], rfl, rfl, (hg.mono sm7).sq, i1, i2, by show 2 ≤ sizeLine; decide, fun m nm => ?_⟩
        have s8 := same_new (o := .tup [.int (i : Nat), .int ((g.idxOf f[i] : Nat) : Int)]) nm
        have hD8 := s8 _ _ hD7
        have tp := Tups.lst (o := .lst (xs ++ [.ref m])) hD8
        refine ⟨xs, hD8, ?_, same_at (sm7.trans s8) nD, _, upd_same, ?_⟩
        · have := hxs.len
          have := eqF_len f g i
          rw [List.length_map] at *
          have := L5
          omega
        · rw [List.map_append]
          exact tds_snoc ((hxs.mono (Tups.same (s7.trans s8))).mono tp) (.tup (tp _ _ upd_same) (.cons (.int _) (.cons (.int _) .nil)))
      · rw [decide_eq_false hv, if_neg hv]
        refine iteF ?_
        rw [List.append_nil]
        exact ⟨sm7, xs, hD7, hxs.mono (Tups.same s7)⟩
    · rintro H1 ⟨sm, xs, hD, hxs⟩
      rw [List.length_map] at hxs
      refine ⟨D, xs, rfl, .inl ⟨SqL.of hD, fun l nl => ?_⟩⟩
      refine q l _ (sm.trans (same_new nl)) (.tup upd_same (hxs.mono (Tups.same (same_new nl))))
abbrev N_held_numbers : List Str := ["pair", "situation", "p", "q", "pairs", "first", "partners", "i", "j", "second", "fresh"]
theorem sc_held_numbers : FnScope N_held_numbers ["pair", "situation"] (defScope s_held_numbers) := ⟨rfl, rfl, rfl, by decide +kernel, rfl, by decide +kernel, by decide +kernel⟩
theorem G_held_numbers (T : Tx K mg) : FnG P w K mg base CX0 2 T.held_numbers.f T.held_numbers.fd ["pair", "situation"] (sp_held_numbers K T.Watcher.C) := by
  refine okG T.held_numbers.F sc_held_numbers (fun vs H Q E h => ?_) (fun cdv A outer s H vs Q E gd hr h => ?_)
  · obtain ⟨t, v, a, b, P1, P2, s, rfl, _⟩ := h
    rfl
  · obtain ⟨t, v, a, b, P1, P2, st, rfl, hp, hv, hin, q⟩ := h
    refine ⟨_, 
      (pss_cons (ps_asg (pv 1) (pg_tup rfl (pgs_cons (pg_name (i := 2) sc_held_numbers.nd rfl (.inl rfl)) (pgs_cons (pg_name (i := 3) sc_held_numbers.nd rfl (.inl rfl)) (pgs_cons (pg_name (i := 4) sc_held_numbers.nd rfl (.inl rfl)) pgs_nil))))) -- p, q, pairs = situation
      (C8.pss_cut (ps_set (i := 5) sc_held_numbers.nd rfl (.inl rfl) (pe_tupRgF rfl (by rfl) T.m_tuple (prg_1 (by rfl) T.m_range (pe_ix ix_tup (pe_meth0G (pe_ix ix_tup (pv 0) pe_int (fun _ _ => rfl)) T.Watcher.cl T.Watcher_held_counts.M (G_Watcher_held_counts T) gd (hr.mono (by decide)) T.Watcher_held_counts.b .nil pass0) (pv 2) (fun _ _ => rfl))))) -- first = tuple(range(pair[0].held_counts()[p]))
      (C8.pss_cut (ps_setDc (i := 6) (own := [("i", 7), ("j", 8)]) (g := gTup K 2 (gCons (gName 7) (gCons (gName 8) gNil))) rfl sc_held_numbers.nd rfl rfl (by rfl) (pi_tup (pv 4)) (blkOk_by (N := N_held_numbers) (sc := defScope s_held_numbers) (by decide +kernel)) (fun _ _ _ _ _ => (pg_tup rfl (pgs_cons (pg_name (i := 7) sc_held_numbers.nd rfl (.inl rfl)) (pgs_cons (pg_name (i := 8) sc_held_numbers.nd rfl (.inl rfl)) pgs_nil)))) (fun _ _ _ _ _ => pts_nil) (fun _ _ _ _ _ => (pv 8)) (fun _ _ _ _ _ => (pv 7))) -- partners = {j: i for i, j in pairs}
      (pss_cons (ps_set (i := 9) sc_held_numbers.nd rfl (.inl rfl) (pe_lst pa_nil)) -- second = []
      (pss_cons (ps_set (i := 10) sc_held_numbers.nd rfl (.inl rfl) (pe_callB call_len_seq (by rfl) T.m_len PySem.boot_len (pa_cons (pv 5) pa_nil))) -- fresh = len(first)
      (C8.pss_cut (ps_for PassesOwn.never rfl (pi_range1 rfl T.m_range (pa_cons (pe_ix ix_tup (pe_meth0G (pe_ix ix_tup (pv 0) pe_int (fun _ _ => rfl)) T.Watcher.cl T.Watcher_held_counts.M (G_Watcher_held_counts T) gd (hr.mono (by decide)) T.Watcher_held_counts.b .nil pass0) (pv 3) (fun _ _ => rfl)) pa_nil)) (pg_name (i := 8) sc_held_numbers.nd rfl (.inl rfl)) 
        (pss_one (ps_if (pt_cmp (pc_din (hu_of hr) (pv 8) (pv 6))) 
          (pss_one (ps_expr (pe_bm PySem.F.plainAttrs_list PySem.F.slot_list_append PySem.F.type_list_append mt_append (pv 9) (pa_cons (pe_dget (hu_of hr) (pv 6) (pv 8) (fun _ _ => rfl)) pa_nil)))) -- second.append(partners[j])
           
          (pss_cons (ps_expr (pe_bm PySem.F.plainAttrs_list PySem.F.slot_list_append PySem.F.type_list_append mt_append (pv 9) (pa_cons (pv 10) pa_nil))) -- second.append(fresh)
          (pss_one (ps_aug (i := 10) sc_held_numbers.nd rfl (.inl rfl) pe_int ip_add)) -- fresh += 1
          ))) -- if j in partners:
        ) -- for j in range(pair[1].held_counts()[q]):
      (pss_one (ps_ret (pe_tup (pa_cons (pv 5) (pa_cons (pe_callTy call_tupleF (by rfl) T.m_tuple (by decide +kernel) (pa_cons (pv 9) pa_nil)) pa_nil))))) -- return (first, tuple(second))
      )))))) , ?_⟩
    obtain ⟨p, pq, ps⟩ := st
    obtain ⟨sv, xs, rfl, hsv, hxs⟩ := hv.isTup
    cases hxs with
    | cons h1 hxs =>
      cases h1
      cases hxs with
      | cons h2 hxs =>
        cases h2
        cases hxs with
        | cons h3 hxs =>
          cases hxs
          obtain ⟨pa, ys, rfl, hpa, hys⟩ := h3.isTup
          refine ⟨.ref sv, rfl, sv, _, rfl, SqT.of hsv, rfl, .int p, [.int pq, .ref pa], rfl, .int pq, [.ref pa], rfl, .ref pa, [], rfl, rfl, ?_⟩
          obtain ⟨dx, hx⟩ := hp.w1.w.ins
          obtain ⟨dy, hy⟩ := hp.w2.w.ins
          have hA := held_bd hp.w1.ok.k hin.p0 hin.p1
          have hB := held_bd hp.w2.ok.k hin.q0 hin.q1
          dsimp only at hA hB
          have iA : atI ((P1.kinds.map (·.2)).map V.int) p = some (.int (heldAt P1.kinds p)) := by
            rw [← hAt_held]
            exact hs_at hin.p0 (by rw [List.length_map]; exact hin.p1)
          have iB : atI ((P2.kinds.map (·.2)).map V.int) pq = some (.int (heldAt P2.kinds pq)) := by
            rw [← hAt_held]
            exact hs_at hin.q0 (by rw [List.length_map]; exact hin.q1)
          refine ⟨fun σ H' => ∃ fa, σ = [some (.ref t), some (.ref sv), some (.int p), some (.int pq), some (.ref pa), some (.ref fa), none, none, none, none, none] ∧ Same H H' ∧ HT H' fa (firstM (heldAt P1.kinds p)), ?_, ?_⟩
          · clear q
            refine ⟨.ref t, rfl, t, _, 0, .ref a.x, rfl, rfl, hp.sq, atI_nat (j := 0) rfl, a.x, dx, _, rfl, hx, rfl, a.x, a.lv, a.lh, a.d, _, _, _, _, rfl, hp.w1.w, fun c nc => ⟨.int p, rfl, c, _, p, .int (heldAt P1.kinds p), rfl, rfl, SqT.of upd_same, iA, ?_⟩⟩
            refine ⟨heldAt P1.kinds p, rfl, RgOk.of_le (Int.le_refl 0) (by omega) (by omega) hA.1, fun fa ob nfa hob => ⟨fa, rfl, (same_new nc).trans (same_new nfa), ob, ?_, hob⟩⟩
            rw [upd_same, firstM_V]
          rintro σ H1 ⟨fa, rfl, s1, hfa⟩
          have lps : ys.length = ps.length := by
            have := hys.length
            rwa [List.length_map] at this
          have lp3 : ps.length ≤ 3 := hin.len
          refine ⟨fun σ H' => ∃ (D : Addr) (kvs : List (Key × V)), σ = [some (.ref t), some (.ref sv), some (.int p), some (.int pq), some (.ref pa), some (.ref fa), some (.ref D), none, none, none, none] ∧ Same H1 H' ∧ H1 D = none ∧ H' D = some (.dK kvs) ∧ ∀ j : Int, valV kvs (.inl j : Key) = (prt ps j).map V.int, ?_, ?_⟩
          · clear q
            refine ⟨.ref pa, rfl, pa, rfl, ⟨ys, SqT.of (s1 _ _ hpa)⟩, fun D nD => ?_⟩
            refine dc_tup (xs := ys) (fun i H' => Same H1 H' ∧ ∃ kvs : List (Key × V), H' D = some (.dK kvs) ∧ kvs.length ≤ i ∧ ∀ j : Int, valV kvs (.inl j : Key) = (prt (ps.take i) j).map V.int) ?_ ?_ ?_ ?_
            · exact ⟨same_at (Same.refl H1) nD, [], upd_same, Nat.le_refl _, fun j => rfl⟩
            · exact fun i H' _ h => SqT.of (h.1 _ _ (s1 _ _ hpa))
            · rintro i x H2 hx ⟨s2, kvs, hD, lk, hk⟩
              have hi : i < ps.length := by
                have := (List.getElem?_eq_some_iff.mp hx).1
                omega
              obtain ⟨d, hd, hxd⟩ := hys.get hx
              rw [List.getElem?_map, List.getElem?_eq_getElem hi] at hd
              obtain rfl := (Option.some.inj hd)
              obtain ⟨ta, zs, rfl, hta, hzs⟩ := hxd.isTup
              cases hzs with
              | cons g1 gr =>
                cases g1
                cases gr with
                | cons g2 gr =>
                  cases g2
                  cases gr
                  refine ⟨ta, _, rfl, SqT.of (s2 _ _ (s1 _ _ hta)), rfl, .int ps[i].1, [.int ps[i].2], rfl, .int ps[i].2, [], rfl, rfl, rfl, ?_⟩
                  refine ⟨.int ps[i].2, rfl, .int ps[i].1, rfl, kvs, .inl ps[i].2, rfl, hD, Nat.lt_of_le_of_lt lk (Nat.lt_trans hi (Nat.lt_of_le_of_lt lp3 (by decide))), same_at s2 nD, putK kvs (.inl ps[i].2) (.int ps[i].1), upd_same, ?_, fun j => ?_⟩
                  · have := length_putK kvs (.inl ps[i].2 : Key) (V.int ps[i].1)
                    omega
                  · rw [valV_put, hk j, List.take_add_one, List.getElem?_eq_getElem hi]
                    unfold prt
                    rw [Option.toList_some, List.foldl_append]
                    show _ = Option.map V.int (if ps[i].2 = j then some ps[i].1 else _)
                    by_cases e : ps[i].2 = j
                    · rw [if_pos e, if_pos (by rw [e])]
                      rfl
                    · rw [if_neg e, if_neg (fun z => e (Sum.inl.inj z).symm)]
            · rintro H2 ⟨s2, kvs, hD, lk, hk⟩
              rw [lps, List.take_length] at hk
              exact ⟨D, kvs, rfl, s2, nD, hD, hk⟩
          rintro σ H2 ⟨D, kvs, rfl, s2, nD, hD, hk⟩
          have s12 := s1.trans s2
          refine ⟨by show 0 ≤ sizeLine; decide, fun sl nsl => ?_⟩
          have s3 := same_new (o := .lst []) nsl
          refine ⟨.ref fa, rfl, fa, _, rfl, .inr ((hfa.mono s2).mono s3).sq, ?_⟩
          rw [List.length_map, firstM_len]
          refine ⟨fun σ H' => ∃ y, σ = [some (.ref t), some (.ref sv), some (.int p), some (.int pq), some (.ref pa), some (.ref fa), some (.ref D), none, y, some (.ref sl), some (.int (secF ps (heldAt P1.kinds p) (heldAt P2.kinds pq).toNat).2)] ∧ Same H H' ∧ HT H' fa (firstM (heldAt P1.kinds p)) ∧ H' sl = some (.lst ((secondM ps (heldAt P1.kinds p) (heldAt P2.kinds pq)).map V.int)), ?_, ?_⟩
          · clear q
            have sm := s12.trans s3
            have hy3 := sm _ _ hy
            refine ⟨.ref t, rfl, t, _, 1, .ref b.x, rfl, rfl, sqT_same hp.sq sm, atI_nat (j := 1) rfl, b.x, dy, _, rfl, hy3, rfl, b.x, b.lv, b.lh, b.d, _, _, _, _, rfl, hp.w2.w.mono sm, fun c nc => ⟨.int pq, rfl, c, _, pq, .int (heldAt P2.kinds pq), rfl, rfl, SqT.of upd_same, iB, heldAt P2.kinds pq, rfl, by omega, by omega, ?_⟩⟩
            have s4 := same_new (o := .tup ((P2.kinds.map (·.2)).map V.int)) nc
            refine for_range (n := (heldAt P2.kinds pq).toNat) (fun i σ H' => ∃ y, σ = [some (.ref t), some (.ref sv), some (.int p), some (.int pq), some (.ref pa), some (.ref fa), some (.ref D), none, y, some (.ref sl), some (.int (secF ps (heldAt P1.kinds p) i).2)] ∧ Same H2 H' ∧ H' sl = some (.lst ((secF ps (heldAt P1.kinds p) i).1.map V.int))) ?_ ?_ ?_
            · refine ⟨none, ?_, s3.trans s4, s4 _ _ upd_same⟩
              have e : (((heldAt P1.kinds p).toNat : Nat) : Int) = heldAt P1.kinds p := by omega
              rw [e]
              rfl
            · rintro i σ H5 hi ⟨y, rfl, s5, hsl⟩
              have e0 : (0 : Int) + (i : Int) = (i : Int) := by omega
              rw [e0]
              have hD5 := s5 _ _ hD
              have hki := hk (i : Int)
              have ll := secF_len ps (heldAt P1.kinds p) i
              refine ⟨.int (i : Int), rfl, .ref D, rfl, D, _, rfl, DGet.k (k := (.inl (i : Int) : Key)) hD5, _, rfl, ?_⟩
              rw [hki, Option.isSome_map]
              have es := secF_succ ps (heldAt P1.kinds p) i
              cases e : prt ps (i : Int) with
              | some z =>
                rw [e] at hki es
                dsimp only at es
                refine iteT ?_
                refine ⟨.ref sl, rfl, .inl ⟨rfl, _, SqL.of hsl⟩, .ref D, rfl, .int (i : Int), rfl, D, .int z, rfl, ?_, sl, _, .int z, rfl, rfl, hsl, ?_, some (.int (i : Int)), ?_, same_at s5 (by exact nsl), ?_⟩
                · have := DGet.k (k := (.inl (i : Int) : Key)) hD5
                  rw [hki] at this
                  exact this
                · rw [List.length_map, ll]
                  have : 10 ≤ sizeLine := by decide
                  omega
                · rw [es]
                  rfl
                · rw [upd_same, es, List.map_append]
                  rfl
              | none =>
                rw [e] at hki es
                dsimp only at es
                refine iteF ?_
                refine ⟨.ref sl, rfl, .inl ⟨rfl, _, SqL.of hsl⟩, .int _, rfl, sl, _, .int (secF ps (heldAt P1.kinds p) i).2, rfl, rfl, hsl, ?_, .int _, rfl, _, 1, rfl, rfl, some (.int (i : Int)), ?_, same_at s5 (by exact nsl), ?_⟩
                · rw [List.length_map, ll]
                  have : 10 ≤ sizeLine := by decide
                  omega
                · rw [es]
                  rfl
                · rw [upd_same, es, List.map_append]
                  rfl
            · rintro σ H5 ⟨y, rfl, s5, hsl⟩
              exact ⟨y, rfl, s12.trans s5, (hfa.mono s2).mono s5, hsl⟩
          rintro σ H3 ⟨y, rfl, s3', hfa3, hsl3⟩
          refine ⟨.ref fa, rfl, .ref sl, rfl, sl, _, rfl, SqL.of hsl3, fun l ob nl hob => ?_⟩
          have s6 := same_new (o := .frz ob (.tup ((secondM ps (heldAt P1.kinds p) (heldAt P2.kinds pq)).map V.int))) nl
          refine ⟨by show 2 ≤ sizeLine; decide, fun r nr => ?_⟩
          have s7 := same_new (o := .tup [.ref fa, .ref l]) nr
          exact q r fa l _ ((s3'.trans s6).trans s7) upd_same ((hfa3.mono s6).mono s7) ⟨ob, s7 _ _ upd_same, hob⟩
end

section
variable {P : Program} {w : World} {K : PySem.W.Frag} {mg : Str → Option Value} {base : Heap}
abbrev N_cases_between : List Str := ["first", "second", "both", "i", "j", "alone", "value", "others"]
theorem sc_cases_between : FnScope N_cases_between ["first", "second"] (defScope s_cases_between) := ⟨rfl, rfl, rfl, by decide +kernel, rfl, by decide +kernel, by decide +kernel⟩
theorem G_cases_between (T : Tx K mg) : FnG P w K mg base CX0 2 T.cases_between.f T.cases_between.fd ["first", "second"] sp_cases_between := by
  refine okG T.cases_between.F sc_cases_between (fun vs H Q E h => ?_) (fun cdv A outer s H vs Q E gd hr h => ?_)
  · obtain ⟨x, y, f, s, rfl, _⟩ := h
    rfl
  · obtain ⟨x, y, f, g, rfl, hf, hg, lf, lg, q⟩ := h
    refine ⟨_, 
      (C8.pss_cut (ps_setLc (i := 2) (own := [("i", 3), ("j", 4)]) (g := gTup K 2 (gCons (gName 3) (gCons (gName 4) gNil))) rfl sc_cases_between.nd rfl rfl (by rfl) (pi_tup (pe_callG (G_equal_places T) gd (hr.mono (by decide)) rfl T.equal_places.g T.equal_places.F.kp T.equal_places.b .nil pass0 (pa_cons (pv 0) (pa_cons (pv 1) pa_nil)))) (blkOk_by (N := N_cases_between) (sc := defScope s_cases_between) (by decide +kernel)) (fun _ _ _ _ _ => (pg_tup rfl (pgs_cons (pg_name (i := 3) sc_cases_between.nd rfl (.inl rfl)) (pgs_cons (pg_name (i := 4) sc_cases_between.nd rfl (.inl rfl)) pgs_nil)))) (fun _ _ _ _ _ => pts_nil) (fun _ _ _ _ _ => (pe_tup (pa_cons (pe_glob (v := .str "both") rfl T.g_BOTH ⟨_, rfl⟩) (pa_cons (pv 3) (pa_cons (pv 4) pa_nil)))))) -- both = [(BOTH, i, j) for i, j in equal_places(first, second)]
      (C8.pss_cut (ps_setLc (i := 5) (own := [("i", 3), ("value", 6)]) (g := gTup K 2 (gCons (gName 3) (gCons (gName 6) gNil))) rfl sc_cases_between.nd rfl rfl (by rfl) (pi_enumT (by rfl) T.m_enumerate (pa_cons (pv 0) pa_nil)) (blkOk_by (N := N_cases_between) (sc := defScope s_cases_between) (by decide +kernel)) (fun _ _ _ _ _ => (pg_tup rfl (pgs_cons (pg_name (i := 3) sc_cases_between.nd rfl (.inl rfl)) (pgs_cons (pg_name (i := 6) sc_cases_between.nd rfl (.inl rfl)) pgs_nil)))) (fun _ _ _ _ _ => (pts_one (pt_cmpR (r := rIn K true) op_notIn_seq (pv 6) (pv 1) rfl))) (fun _ _ _ _ _ => (pe_tup (pa_cons (pe_glob (v := .str "first") rfl T.g_FIRST ⟨_, rfl⟩) (pa_cons (pv 3) pa_nil))))) -- alone = [(FIRST, i) for i, value in enumerate(first) if value not in second]
      (C8.pss_cut (ps_setLc (i := 7) (own := [("j", 4), ("value", 6)]) (g := gTup K 2 (gCons (gName 4) (gCons (gName 6) gNil))) rfl sc_cases_between.nd rfl rfl (by rfl) (pi_enumT (by rfl) T.m_enumerate (pa_cons (pv 1) pa_nil)) (blkOk_by (N := N_cases_between) (sc := defScope s_cases_between) (by decide +kernel)) (fun _ _ _ _ _ => (pg_tup rfl (pgs_cons (pg_name (i := 4) sc_cases_between.nd rfl (.inl rfl)) (pgs_cons (pg_name (i := 6) sc_cases_between.nd rfl (.inl rfl)) pgs_nil)))) (fun _ _ _ _ _ => (pts_one (pt_cmpR (r := rIn K true) op_notIn_seq (pv 6) (pv 0) rfl))) (fun _ _ _ _ _ => (pe_tup (pa_cons (pe_glob (v := .str "second") rfl T.g_SECOND ⟨_, rfl⟩) (pa_cons (pv 4) pa_nil))))) -- others = [(SECOND, j) for j, value in enumerate(second) if value not in first]
      (pss_one (ps_ret (pe_tup (StX.pa_star (pv 2) (StX.pa_star (pv 5) (StX.pa_star (pv 7) (pa_cons (pe_tup (pa_cons (pe_glob (v := .str "new") rfl T.g_NEW ⟨_, rfl⟩) pa_nil)) pa_nil))))))) -- return (*both, *alone, *others, (NEW,))
      ))) , ?_⟩
    have L5 : 200000 ≤ sizeLine := by decide
    refine ⟨fun σ H' => ∃ y2 y3 y4 b1 xs, σ = [some (.ref x), some (.ref y), y2, y3, y4, none, none, none] ∧ y2 = some (.ref b1) ∧ Same H H' ∧ H' b1 = some (.lst xs) ∧ TDs H' xs (((eqM f g).map fun m => Cs.both m.1 m.2).map csD), ?_, ?_⟩
    · clear q
      refine ⟨.ref x, rfl, .ref y, rfl, x, y, f, g, rfl, hf, hg, lf, lg, fun r H1 s1 hr1 => ?_⟩
      obtain ⟨ra, es, er, hra, hes⟩ := hr1.isTup
      obtain rfl := V.ref.inj er
      have les : es.length = (eqM f g).length := by
        have := hes.length
        rwa [List.length_map] at this
      have le100 : (eqM f g).length ≤ 100 := Nat.le_trans (eqF_len f g _) lf
      refine ⟨r, rfl, ⟨es, SqT.of hra⟩, fun D nD => ?_⟩
      refine lc_tup (xs := es) (fun i H' => Same H1 H' ∧ ∃ xs, H' D = some (.lst xs) ∧ TDs H' xs ((((eqM f g).take i).map fun m => Cs.both m.1 m.2).map csD)) ?_ ?_ ?_ ?_
      · exact ⟨same_at (Same.refl H1) nD, [], upd_same, .nil⟩
      · exact fun i H' _ h => SqT.of (h.1 _ _ hra)
      · rintro i v H2 hv ⟨s2, xs, hD, hxs⟩
        have hi : i < (eqM f g).length := by
          have := (List.getElem?_eq_some_iff.mp hv).1
          omega
        obtain ⟨d, hd, hvd⟩ := hes.get hv
        rw [List.getElem?_map, List.getElem?_eq_getElem hi] at hd
        obtain rfl := (Option.some.inj hd)
        obtain ⟨ta, zs, rfl, hta, hzs⟩ := hvd.isTup
        cases hzs with
        | cons g1 gr =>
          cases g1
          cases gr with
          | cons g2 gr =>
            cases g2
            cases gr
            refine ⟨ta, _, rfl, SqT.of (s2 _ _ hta), rfl, .int (eqM f g)[i].1, [.int (eqM f g)[i].2], rfl, .int (eqM f g)[i].2, [], rfl, rfl, rfl, ?_⟩
            refine ⟨.int (eqM f g)[i].1, rfl, .int (eqM f g)[i].2, rfl, by show 3 ≤ sizeLine; decide, fun m nm => ?_⟩
            have s8 := same_new (o := .tup [.str "both", .int (eqM f g)[i].1, .int (eqM f g)[i].2]) nm
            have hD8 := s8 _ _ hD
            have tp := Tups.lst (o := .lst (xs ++ [.ref m])) hD8
            refine ⟨xs, hD8, ?_, same_at (s2.trans s8) nD, _, upd_same, ?_⟩
            · have := hxs.len
              rw [List.length_map, List.length_map, List.length_take] at this
              omega
            · rw [List.take_add_one, List.getElem?_eq_getElem hi, Option.toList_some, List.map_append, List.map_append]
              exact tds_snoc ((hxs.mono (Tups.same s8)).mono tp) (.tup (tp _ _ upd_same) (.cons (.str _) (.cons (.int _) (.cons (.int _) .nil))))
      · rintro H2 ⟨s2, xs, hD, hxs⟩
        rw [les, List.take_length] at hxs
        exact ⟨_, none, none, D, xs, rfl, rfl, s1.trans s2, hD, hxs⟩
    rintro σ H1 ⟨_, y3, y4, b1, x1, rfl, rfl, s1, hb1, hx1⟩
    refine ⟨fun σ H' => ∃ y3 y4 y6 b2 xs, σ = [some (.ref x), some (.ref y), some (.ref b1), y3, y4, some (.ref b2), y6, none] ∧ Same H1 H' ∧ H' b2 = some (.lst xs) ∧ TDs H' xs (((loneM f g).map Cs.first).map csD), ?_, ?_⟩
    · clear q
      refine ⟨.ref x, rfl, x, _, rfl, (hf.mono s1).sq, fun D nD => ?_⟩
      refine lc_it (walk_enumT (xs := f.map V.int)) (fun i H' => Same H1 H' ∧ ∃ xs, H' D = some (.lst xs) ∧ TDs H' xs (((loneF f g i).map Cs.first).map csD)) ?_ ?_ ?_ ?_
      · exact ⟨same_at (Same.refl _) nD, [], upd_same, .nil⟩
      · exact fun i H' _ h => sqT_same (hf.mono s1).sq h.1
      · rintro i v H3 H4 hi ⟨sm, xs, hD, hxs⟩ ⟨TT, x1, x2, rfl, nT, rfl, e1, e2⟩
        cases e1
        have hi' : i < f.length := by rw [List.length_map] at hi; exact hi
        have ef : f[i]? = some f[i] := List.getElem?_eq_getElem hi'
        have ex : x2 = .int f[i] := by
          have e2 : (f.map V.int)[i]? = some x2 := e2
          rw [List.getElem?_map, ef] at e2
          exact (Option.some.inj e2).symm
        subst ex
        have s7 := same_new (o := .tup [.int (i : Nat), .int f[i]]) nT
        have sm7 := sm.trans s7
        have hD7 := s7 _ _ hD
        refine ⟨TT, _, rfl, SqT.of upd_same, rfl, .int (i : Nat), [.int f[i]], rfl, .int f[i], [], rfl, rfl, rfl, ?_⟩
        refine ⟨.int f[i], rfl, .ref y, rfl, y, _, rfl, .inr ((hg.mono s1).mono sm7).sq, rfl, flat_ints _, _, rfl, ?_⟩
        rw [if_pos rfl, inV_ints, loneF_succ f g i ef]
        by_cases hv : f[i] ∈ g
        · rw [decide_eq_true hv, if_pos hv]
          refine iteF ?_
          rw [List.append_nil]
          exact ⟨sm7, xs, hD7, hxs.mono (Tups.same s7)⟩
        · rw [decide_eq_false hv, if_neg hv]
          refine iteT ?_
          refine ⟨.int (i : Nat), rfl, by show 2 ≤ sizeLine; decide, fun m nm => ?_⟩
          have s8 := same_new (o := .tup [.str "first", .int (i : Nat)]) nm
          have hD8 := s8 _ _ hD7
          have tp := Tups.lst (o := .lst (xs ++ [.ref m])) hD8
          refine ⟨xs, hD8, ?_, same_at (sm7.trans s8) nD, _, upd_same, ?_⟩
          · have := hxs.len
            have := loneF_len f g i
            rw [List.length_map, List.length_map] at *
            omega
          · rw [List.map_append, List.map_append]
            exact tds_snoc ((hxs.mono (Tups.same (s7.trans s8))).mono tp) (.tup (tp _ _ upd_same) (.cons (.str _) (.cons (.int _) .nil)))
      · rintro H3 ⟨sm, xs, hD, hxs⟩
        rw [List.length_map] at hxs
        exact ⟨_, _, none, D, xs, rfl, sm, hD, hxs⟩
    rintro σ H2 ⟨y3, y4, y6, b2, x2, rfl, s2, hb2, hx2⟩
    refine ⟨fun σ H' => ∃ y3 y4 y6 b3 xs, σ = [some (.ref x), some (.ref y), some (.ref b1), y3, y4, some (.ref b2), y6, some (.ref b3)] ∧ Same H2 H' ∧ H' b3 = some (.lst xs) ∧ TDs H' xs (((loneM g f).map Cs.second).map csD), ?_, ?_⟩
    · clear q
      have s12 := s1.trans s2
      refine ⟨.ref y, rfl, y, _, rfl, (hg.mono s12).sq, fun D nD => ?_⟩
      refine lc_it (walk_enumT (xs := g.map V.int)) (fun i H' => Same H2 H' ∧ ∃ xs, H' D = some (.lst xs) ∧ TDs H' xs (((loneF g f i).map Cs.second).map csD)) ?_ ?_ ?_ ?_
      · exact ⟨same_at (Same.refl _) nD, [], upd_same, .nil⟩
      · exact fun i H' _ h => sqT_same (hg.mono s12).sq h.1
      · rintro i v H3 H4 hi ⟨sm, xs, hD, hxs⟩ ⟨TT, x1, x2, rfl, nT, rfl, e1, e2⟩
        cases e1
        have hi' : i < g.length := by rw [List.length_map] at hi; exact hi
        have ef : g[i]? = some g[i] := List.getElem?_eq_getElem hi'
        have ex : x2 = .int g[i] := by
          have e2 : (g.map V.int)[i]? = some x2 := e2
          rw [List.getElem?_map, ef] at e2
          exact (Option.some.inj e2).symm
        subst ex
        have s7 := same_new (o := .tup [.int (i : Nat), .int g[i]]) nT
        have sm7 := sm.trans s7
        have hD7 := s7 _ _ hD
        refine ⟨TT, _, rfl, SqT.of upd_same, rfl, .int (i : Nat), [.int g[i]], rfl, .int g[i], [], rfl, rfl, rfl, ?_⟩
        refine ⟨.int g[i], rfl, .ref x, rfl, x, _, rfl, .inr ((hf.mono s12).mono sm7).sq, rfl, flat_ints _, _, rfl, ?_⟩
        rw [if_pos rfl, inV_ints, loneF_succ g f i ef]
        by_cases hv : g[i] ∈ f
        · rw [decide_eq_true hv, if_pos hv]
          refine iteF ?_
          rw [List.append_nil]
          exact ⟨sm7, xs, hD7, hxs.mono (Tups.same s7)⟩
        · rw [decide_eq_false hv, if_neg hv]
          refine iteT ?_
          refine ⟨.int (i : Nat), rfl, by show 2 ≤ sizeLine; decide, fun m nm => ?_⟩
          have s8 := same_new (o := .tup [.str "second", .int (i : Nat)]) nm
          have hD8 := s8 _ _ hD7
          have tp := Tups.lst (o := .lst (xs ++ [.ref m])) hD8
          refine ⟨xs, hD8, ?_, same_at (sm7.trans s8) nD, _, upd_same, ?_⟩
          · have := hxs.len
            have := loneF_len g f i
            rw [List.length_map, List.length_map] at *
            omega
          · rw [List.map_append, List.map_append]
            exact tds_snoc ((hxs.mono (Tups.same (s7.trans s8))).mono tp) (.tup (tp _ _ upd_same) (.cons (.str _) (.cons (.int _) .nil)))
      · rintro H3 ⟨sm, xs, hD, hxs⟩
        rw [List.length_map] at hxs
        exact ⟨_, _, _, D, xs, rfl, sm, hD, hxs⟩
    rintro σ H3 ⟨y3, y4, y6, b3, x3, rfl, s3, hb3, hx3⟩
    have t1 := hx1.mono (Tups.same (s2.trans s3))
    have t2 := hx2.mono (Tups.same s3)
    refine ⟨.ref b1, rfl, b1, x1, rfl, .inr (SqL.of ((s2.trans s3) _ _ hb1)), .ref b2, rfl, b2, x2, rfl, .inr (SqL.of (s3 _ _ hb2)), .ref b3, rfl, b3, x3, rfl, .inr (SqL.of hb3), by show 1 ≤ sizeLine; decide, fun m nm => ⟨?_, fun r nr => ?_⟩⟩
    · have e1 := hx1.len
      have e2 := hx2.len
      have e3 := hx3.len
      rw [List.length_map, List.length_map] at e1 e2 e3
      have n1 := eqF_len f g f.length
      have n2 := loneF_len f g f.length
      have n3 := loneF_len g f g.length
      have m1 : (eqM f g).length ≤ f.length := n1
      have m2 : (loneM f g).length ≤ f.length := n2
      have m3 : (loneM g f).length ≤ g.length := n3
      simp only [List.length_append, List.length_cons, List.length_nil]
      omega
    have s4 := same_new (o := .tup [.str "new"]) nm
    have s5 := same_new (o := .tup (x1 ++ (x2 ++ (x3 ++ [.ref m])))) nr
    have s45 := s4.trans s5
    refine q r _ (((s1.trans s2).trans s3).trans s45) (.tup upd_same ?_)
    unfold casesM
    rw [List.map_append, List.map_append, List.map_append]
    exact (t1.mono (Tups.same s45)).app ((t2.mono (Tups.same s45)).app ((hx3.mono (Tups.same s45)).app (.cons (.tup (s5 _ _ upd_same) (.cons (.str _) .nil)) .nil)))
abbrev N_value_of : List Str := ["case", "first", "second"]
theorem sc_value_of : FnScope N_value_of ["case", "first", "second"] (defScope s_value_of) := ⟨rfl, rfl, rfl, by decide +kernel, rfl, by decide +kernel, by decide +kernel⟩
theorem G_value_of (T : Tx K mg) : FnG P w K mg base CX0 2 T.value_of.f T.value_of.fd ["case", "first", "second"] sp_value_of := by
  refine okG T.value_of.F sc_value_of (fun vs H Q E h => ?_) (fun cdv A outer s H vs Q E gd hr h => ?_)
  · obtain ⟨v, x, y, c, f, s, rfl, _⟩ := h
    rfl
  · obtain ⟨v, x, y, c, f, g, rfl, hv, hf, hg, lf, lg, hc, q⟩ := h
    refine ⟨_, 
      (pss_cons (ps_if (pt_cmpR op_eq (pe_ix ix_tup (pv 0) pe_int (fun _ _ => rfl)) (pe_glob (v := .str "new") rfl T.g_NEW ⟨_, rfl⟩) (nomark _)) 
        (pss_one (ps_ret (pe_callG (G_least_other T) gd (hr.mono (by decide)) rfl T.least_other.g T.least_other.F.kp T.least_other.b .nil pass0 (pa_cons (pe_tup (StX.pa_star (pv 1) (StX.pa_star (pv 2) pa_nil))) pa_nil)))) -- return least_other((*first, *second))
         pss_nil) -- if case[0] == NEW:
      (pss_cons (ps_if (pt_cmpR op_eq (pe_ix ix_tup (pv 0) pe_int (fun _ _ => rfl)) (pe_glob (v := .str "second") rfl T.g_SECOND ⟨_, rfl⟩) (nomark _)) 
        (pss_one (ps_ret (pe_ix ix_tup (pv 2) (pe_ix ix_tup (pv 0) pe_int (fun _ _ => rfl)) (fun _ _ => rfl)))) -- return second[case[1]]
         pss_nil) -- if case[0] == SECOND:
      (pss_one (ps_ret (pe_ix ix_tup (pv 1) (pe_ix ix_tup (pv 0) pe_int (fun _ _ => rfl)) (fun _ _ => rfl)))) -- return first[case[1]]
      )) , ?_⟩
    have L5 : 200000 ≤ sizeLine := by decide
    obtain ⟨ca, xs, hca, rfl, hxs⟩ : ∃ ca xs, H ca = some (.tup xs) ∧ v = .ref ca ∧ ∃ ds, csD c = .tuple ds ∧ TDs H xs ds := by
      cases c <;> (obtain ⟨ca, xs, e, h1, h2⟩ := hv.isTup; exact ⟨ca, xs, h1, e, _, rfl, h2⟩)
    obtain ⟨ds, ed, hds⟩ := hxs
    have nm : ∀ (a b : Str), a ≠ b → decide (V.str a = V.str b) = false := fun a b n => decide_eq_false fun z => n (V.str.inj z)
    cases c with
    | new =>
      cases ed
      cases hds with
      | cons g1 gr =>
        cases g1
        cases gr
        refine ⟨.ref ca, rfl, ca, _, 0, .str "new", rfl, rfl, SqT.of hca, atI_nat (j := 0) rfl, rfl, true, congrArg V.bl (decide_eq_true rfl), iteT ?_⟩
        refine ⟨.ref x, rfl, x, _, rfl, .inl hf.sq, .ref y, rfl, y, _, rfl, .inl hg.sq, ?_, fun m nm => ?_⟩
        · rw [List.length_append, List.length_append, List.length_map, List.length_map]
          show _ + (_ + 0) ≤ sizeLine
          omega
        refine ⟨m, f ++ g, rfl, ?_, by rw [List.length_append]; omega, q _ (same_new nm)⟩
        rw [upd_same, List.append_nil, List.map_append]
    | both i j =>
      cases ed
      cases hds with
      | cons g1 gr =>
        cases g1
        cases gr with
        | cons g2 gr =>
          cases g2
          obtain ⟨hc0, hc1⟩ := hc
          obtain ⟨n, rfl⟩ : ∃ n : Nat, i = n := ⟨i.toNat, by omega⟩
          have hn : n < f.length := by omega
          refine ⟨.ref ca, rfl, ca, _, 0, .str "both", rfl, rfl, SqT.of hca, atI_nat (j := 0) rfl, rfl, false, congrArg V.bl (nm _ _ (by decide +kernel)), iteF ?_⟩
          refine ⟨.ref ca, rfl, ca, _, 0, .str "both", rfl, rfl, SqT.of hca, atI_nat (j := 0) rfl, rfl, false, congrArg V.bl (nm _ _ (by decide +kernel)), iteF ?_⟩
          refine ⟨.ref x, rfl, .ref ca, rfl, ca, _, 1, .int (n : Int), rfl, rfl, SqT.of hca, atI_nat (j := 1) rfl, x, _, (n : Int), .int f[n], rfl, rfl, hf.sq, atI_nat (by rw [List.getElem?_map, List.getElem?_eq_getElem hn]; rfl), ?_⟩
          have := q H (Same.refl H)
          have e : valueM (.both (n : Int) j) f g = f[n] := by
            show (f[(n : Int).toNat]?).getD 0 = f[n]
            rw [Int.toNat_natCast, List.getElem?_eq_getElem hn]
            rfl
          rw [e] at this
          exact this
    | first i =>
      cases ed
      cases hds with
      | cons g1 gr =>
        cases g1
        cases gr with
        | cons g2 gr =>
          cases g2
          cases gr
          obtain ⟨hc0, hc1⟩ := hc
          obtain ⟨n, rfl⟩ : ∃ n : Nat, i = n := ⟨i.toNat, by omega⟩
          have hn : n < f.length := by omega
          refine ⟨.ref ca, rfl, ca, _, 0, .str "first", rfl, rfl, SqT.of hca, atI_nat (j := 0) rfl, rfl, false, congrArg V.bl (nm _ _ (by decide +kernel)), iteF ?_⟩
          refine ⟨.ref ca, rfl, ca, _, 0, .str "first", rfl, rfl, SqT.of hca, atI_nat (j := 0) rfl, rfl, false, congrArg V.bl (nm _ _ (by decide +kernel)), iteF ?_⟩
          refine ⟨.ref x, rfl, .ref ca, rfl, ca, _, 1, .int (n : Int), rfl, rfl, SqT.of hca, atI_nat (j := 1) rfl, x, _, (n : Int), .int f[n], rfl, rfl, hf.sq, atI_nat (by rw [List.getElem?_map, List.getElem?_eq_getElem hn]; rfl), ?_⟩
          have := q H (Same.refl H)
          have e : valueM (.first (n : Int)) f g = f[n] := by
            show (f[(n : Int).toNat]?).getD 0 = f[n]
            rw [Int.toNat_natCast, List.getElem?_eq_getElem hn]
            rfl
          rw [e] at this
          exact this
    | second i =>
      cases ed
      cases hds with
      | cons g1 gr =>
        cases g1
        cases gr with
        | cons g2 gr =>
          cases g2
          cases gr
          obtain ⟨hc0, hc1⟩ := hc
          obtain ⟨n, rfl⟩ : ∃ n : Nat, i = n := ⟨i.toNat, by omega⟩
          have hn : n < g.length := by omega
          refine ⟨.ref ca, rfl, ca, _, 0, .str "second", rfl, rfl, SqT.of hca, atI_nat (j := 0) rfl, rfl, false, congrArg V.bl (nm _ _ (by decide +kernel)), iteF ?_⟩
          refine ⟨.ref ca, rfl, ca, _, 0, .str "second", rfl, rfl, SqT.of hca, atI_nat (j := 0) rfl, rfl, true, congrArg V.bl (decide_eq_true rfl), iteT ?_⟩
          refine ⟨.ref y, rfl, .ref ca, rfl, ca, _, 1, .int (n : Int), rfl, rfl, SqT.of hca, atI_nat (j := 1) rfl, y, _, (n : Int), .int g[n], rfl, rfl, hg.sq, atI_nat (by rw [List.getElem?_map, List.getElem?_eq_getElem hn]; rfl), ?_⟩
          have := q H (Same.refl H)
          have e : valueM (.second (n : Int)) f g = g[n] := by
            show (g[(n : Int).toNat]?).getD 0 = g[n]
            rw [Int.toNat_natCast, List.getElem?_eq_getElem hn]
            rfl
          rw [e] at this
          exact this
abbrev N_situation_after : List Str := ["pair", "situation", "held", "word", "case", "first", "second", "value", "p", "first_after", "q", "second_after"]
theorem sc_situation_after : FnScope N_situation_after ["pair", "situation", "held", "word", "case"] (defScope s_situation_after) := ⟨rfl, rfl, rfl, by decide +kernel, rfl, by decide +kernel, by decide +kernel⟩
theorem G_situation_after (T : Tx K mg) : FnG P w K mg base CX0 3 T.situation_after.f T.situation_after.fd ["pair", "situation", "held", "word", "case"] (sp_situation_after K T.Watcher.C) := by
  refine okG T.situation_after.F sc_situation_after (fun vs H Q E h => ?_) (fun cdv A outer s H vs Q E gd hr h => ?_)
  · obtain ⟨t, r, x, y, sv, cv, a, b, P1, P2, s, f, g, w', c, rfl, _⟩ := h
    rfl
  · obtain ⟨t, r, x, y, sv, cv, a, b, P1, P2, st, f, g, w', c, rfl, hp, hsv, hin, hr0, hf, hg, h1, h2, hcv, hc, q⟩ := h
    refine ⟨_, 
      (pss_cons (ps_asg (pv 2) (pg_tup rfl (pgs_cons (pg_name (i := 5) sc_situation_after.nd rfl (.inl rfl)) (pgs_cons (pg_name (i := 6) sc_situation_after.nd rfl (.inl rfl)) pgs_nil)))) -- first, second = held
      (C8.pss_cut (ps_set (i := 7) sc_situation_after.nd rfl (.inl rfl) (pe_callG (G_value_of T) gd (hr.mono (by decide)) rfl T.value_of.g T.value_of.F.kp T.value_of.b .nil pass0 (pa_cons (pv 4) (pa_cons (pv 5) (pa_cons (pv 6) pa_nil))))) -- value = value_of(case, first, second)
      (C8.pss_cut (ps_asg (pe_callG (G_after_message T) gd (hr.mono (by decide)) rfl T.after_message.g T.after_message.F.kp T.after_message.b .nil pass0 (pa_cons (pe_ix ix_tup (pv 0) pe_int (fun _ _ => rfl)) (pa_cons (pe_ix ix_tup (pv 1) pe_int (fun _ _ => rfl)) (pa_cons (pv 5) (pa_cons (pv 3) (pa_cons (pv 7) pa_nil)))))) (pg_tup rfl (pgs_cons (pg_name (i := 8) sc_situation_after.nd rfl (.inl rfl)) (pgs_cons (pg_name (i := 9) sc_situation_after.nd rfl (.inl rfl)) pgs_nil)))) -- p, first_after = after_message(pair[0], situation[0], first, word, value)
      (C8.pss_cut (ps_asg (pe_callG (G_after_message T) gd (hr.mono (by decide)) rfl T.after_message.g T.after_message.F.kp T.after_message.b .nil pass0 (pa_cons (pe_ix ix_tup (pv 0) pe_int (fun _ _ => rfl)) (pa_cons (pe_ix ix_tup (pv 1) pe_int (fun _ _ => rfl)) (pa_cons (pv 6) (pa_cons (pv 3) (pa_cons (pv 7) pa_nil)))))) (pg_tup rfl (pgs_cons (pg_name (i := 10) sc_situation_after.nd rfl (.inl rfl)) (pgs_cons (pg_name (i := 11) sc_situation_after.nd rfl (.inl rfl)) pgs_nil)))) -- q, second_after = after_message(pair[1], situation[1], second, word, value)
      (pss_one (ps_ret (pe_tup (pa_cons (pv 8) (pa_cons (pv 10) (pa_cons (pe_callG (G_equal_places T) gd (hr.mono (by decide)) rfl T.equal_places.g T.equal_places.F.kp T.equal_places.b .nil pass0 (pa_cons (pv 9) (pa_cons (pv 11) pa_nil))) pa_nil)))))) -- return (p, q, equal_places(first_after, second_after))
      )))) , ?_⟩
    obtain ⟨sa, zs, rfl, hsa, hzs⟩ := hsv.isTup
    cases hzs with
    | cons z1 zr =>
      cases z1
      cases zr with
      | cons z2 zr =>
        cases z2
        cases zr with
        | cons z3 zr =>
          cases zr
          refine ⟨.ref r, rfl, r, _, rfl, hr0, rfl, .ref x, [.ref y], rfl, .ref y, [], rfl, rfl, ?_⟩
          refine ⟨fun σ H' => σ = [some (.ref t), some (.ref sa), some (.ref r), some (.int w'), some cv, some (.ref x), some (.ref y), some (.int (valueM c f g)), none, none, none, none] ∧ Same H H', ?_, ?_⟩
          · clear q
            have l3 := h1.len
            have l4 := h2.len
            have b1 := held_bd hp.w1.ok.k h1.lo h1.hi
            have b2 := held_bd hp.w2.ok.k h2.lo h2.hi
            dsimp only at l3 l4 b1 b2
            exact ⟨cv, rfl, .ref x, rfl, .ref y, rfl, cv, x, y, c, f, g, rfl, hcv, hf, hg, by omega, by omega, hc, fun H1 s1 => ⟨rfl, s1⟩⟩
          rintro σ H1 ⟨rfl, s1⟩
          refine ⟨fun σ H' => ∃ x', σ = [some (.ref t), some (.ref sa), some (.ref r), some (.int w'), some cv, some (.ref x), some (.ref y), some (.int (valueM c f g)), some (.int (stepM P1.rules (st.1, f) (w', valueM c f g)).1), some (.ref x'), none, none] ∧ Same H H' ∧ HT H' x' (stepM P1.rules (st.1, f) (w', valueM c f g)).2, ?_, ?_⟩
          · clear q
            refine ⟨.ref t, rfl, t, _, 0, .ref a.x, rfl, rfl, sqT_same hp.sq s1, atI_nat (j := 0) rfl, .ref sa, rfl, sa, _, 0, .int st.1, rfl, rfl, SqT.of (s1 _ _ hsa), atI_nat (j := 0) rfl, .ref x, rfl, .int w', rfl, .int _, rfl, a.x, a.lv, a.lh, a.d, x, P1, st.1, f, w', valueM c f g, rfl, hp.w1.mono s1, hf.mono s1, h1, fun u H2 s2 hu => ?_⟩
            obtain ⟨ra, xa, rfl, hra, hxa⟩ := hu
            exact ⟨ra, _, rfl, SqT.of hra, rfl, .int _, [.ref xa], rfl, .ref xa, [], rfl, rfl, xa, rfl, s1.trans s2, hxa⟩
          rintro σ H2 ⟨x', rfl, s2, hx'⟩
          refine ⟨fun σ H' => ∃ y', σ = [some (.ref t), some (.ref sa), some (.ref r), some (.int w'), some cv, some (.ref x), some (.ref y), some (.int (valueM c f g)), some (.int (stepM P1.rules (st.1, f) (w', valueM c f g)).1), some (.ref x'), some (.int (stepM P2.rules (st.2.1, g) (w', valueM c f g)).1), some (.ref y')] ∧ Same H2 H' ∧ HT H' y' (stepM P2.rules (st.2.1, g) (w', valueM c f g)).2, ?_, ?_⟩
          · clear q
            refine ⟨.ref t, rfl, t, _, 1, .ref b.x, rfl, rfl, sqT_same hp.sq s2, atI_nat (j := 1) rfl, .ref sa, rfl, sa, _, 1, .int st.2.1, rfl, rfl, SqT.of (s2 _ _ hsa), atI_nat (j := 1) rfl, .ref y, rfl, .int w', rfl, .int _, rfl, b.x, b.lv, b.lh, b.d, y, P2, st.2.1, g, w', valueM c f g, rfl, hp.w2.mono s2, hg.mono s2, h2, fun u H3 s3 hu => ?_⟩
            obtain ⟨ra, xa, rfl, hra, hxa⟩ := hu
            exact ⟨ra, _, rfl, SqT.of hra, rfl, .int _, [.ref xa], rfl, .ref xa, [], rfl, rfl, xa, rfl, s3, hxa⟩
          rintro σ H3 ⟨y', rfl, s3, hy'⟩
          have o1 := step_ok hp.w1.ok.r h1 (w', valueM c f g)
          have o2 := step_ok hp.w2.ok.r h2 (w', valueM c f g)
          have l3 := o1.len
          have l4 := o2.len
          have b1 := held_bd hp.w1.ok.k o1.lo o1.hi
          have b2 := held_bd hp.w2.ok.k o2.lo o2.hi
          refine ⟨.int _, rfl, .int _, rfl, .ref x', rfl, .ref y', rfl, x', y', _, _, rfl, hx'.mono s3, hy', by omega, by omega, fun e H4 s4 he => ?_⟩
          refine ⟨by show 3 ≤ sizeLine; decide, fun m nm => ?_⟩
          have s5 := same_new (o := .tup [.int (stepM P1.rules (st.1, f) (w', valueM c f g)).1, .int (stepM P2.rules (st.2.1, g) (w', valueM c f g)).1, .ref e]) nm
          exact q _ _ (((s2.trans s3).trans s4).trans s5) (.tup upd_same (.cons (.int _) (.cons (.int _) (.cons (TD.mono (Tups.same s5) _ he) .nil))))
end

theorem casesM_in {f g : List Int} {c : Cs} (h : c ∈ casesM f g) : CsIn c f g := by
  unfold casesM at h
  rcases List.mem_append.mp h with h | h
  · obtain ⟨m, hm, rfl⟩ := List.mem_map.mp h
    obtain ⟨i, hi, e⟩ := List.mem_filterMap.mp hm
    have hi' := List.mem_range.mp hi
    rw [List.getElem?_eq_getElem hi', Option.bind_some] at e
    by_cases hv : f[i] ∈ g
    · rw [if_pos hv] at e
      obtain rfl := Option.some.inj e
      exact ⟨by show (0 : Int) ≤ (i : Int); omega, by show (i : Int) < f.length; omega⟩
    · rw [if_neg hv] at e
      cases e
  · rcases List.mem_append.mp h with h | h
    · obtain ⟨m, hm, rfl⟩ := List.mem_map.mp h
      obtain ⟨i, hi, e⟩ := List.mem_filterMap.mp hm
      have hi' := List.mem_range.mp hi
      rw [List.getElem?_eq_getElem hi', Option.bind_some] at e
      by_cases hv : f[i] ∈ g
      · rw [if_pos hv] at e
        cases e
      · rw [if_neg hv] at e
        obtain rfl := Option.some.inj e
        exact ⟨by show (0 : Int) ≤ (i : Int); omega, by show (i : Int) < f.length; omega⟩
    · rcases List.mem_append.mp h with h | h
      · obtain ⟨m, hm, rfl⟩ := List.mem_map.mp h
        obtain ⟨i, hi, e⟩ := List.mem_filterMap.mp hm
        have hi' := List.mem_range.mp hi
        rw [List.getElem?_eq_getElem hi', Option.bind_some] at e
        by_cases hv : g[i] ∈ f
        · rw [if_pos hv] at e
          cases e
        · rw [if_neg hv] at e
          obtain rfl := Option.some.inj e
          exact ⟨by show (0 : Int) ≤ (i : Int); omega, by show (i : Int) < g.length; omega⟩
      · rw [List.mem_singleton.mp h]
        exact True.intro
theorem casesM_len (f g : List Int) : (casesM f g).length ≤ f.length + (f.length + (g.length + 1)) := by
  have n1 : (eqM f g).length ≤ f.length := eqF_len f g f.length
  have n2 : (loneM f g).length ≤ f.length := loneF_len f g f.length
  have n3 : (loneM g f).length ≤ g.length := loneF_len g f g.length
  unfold casesM
  simp only [List.length_append, List.length_map, List.length_cons, List.length_nil]
  omega
theorem flat_len (P1 P2 : Plan) (s : Sit) (i : Nat) : ((List.range i).flatMap fun w : Nat => (casesM (heldM P1 P2 s).1 (heldM P1 P2 s).2).map fun c => ((w : Int), c, afterM P1 P2 s (heldM P1 P2 s).1 (heldM P1 P2 s).2 w c)).length = i * (casesM (heldM P1 P2 s).1 (heldM P1 P2 s).2).length := by
  induction i with
  | zero => simp
  | succ i ih =>
    rw [List.range_succ, List.flatMap_append, List.length_append, ih]
    simp [Nat.succ_mul]
/-- the steps of the words before i, and of the first j cases of word i, stand at D -/
def StW (P1 P2 : Plan) (s : Sit) (H0 : Hp) (D : Addr) (H : Hp) (i j : Nat) : Prop := Same H0 H ∧ H0 D = none ∧ ∃ xs, H D = some (.lst xs) ∧
  TDs H xs ((((List.range i).flatMap fun w : Nat => (casesM (heldM P1 P2 s).1 (heldM P1 P2 s).2).map fun c => ((w : Int), c, afterM P1 P2 s (heldM P1 P2 s).1 (heldM P1 P2 s).2 w c)) ++ (((casesM (heldM P1 P2 s).1 (heldM P1 P2 s).2).take j).map fun c => ((i : Int), c, afterM P1 P2 s (heldM P1 P2 s).1 (heldM P1 P2 s).2 i c))).map stepD)
section
variable {P : Program} {w : World} {K : PySem.W.Frag} {mg : Str → Option Value} {base : Heap}
abbrev N_steps_from : List Str := ["pair", "situation", "held", "first", "second", "in_order", "word", "case"]
theorem sc_steps_from : FnScope N_steps_from ["pair", "situation"] (defScope s_steps_from) := ⟨rfl, rfl, rfl, by decide +kernel, rfl, by decide +kernel, by decide +kernel⟩
theorem G_steps_from (T : Tx K mg) : FnG P w K mg base CX0 4 T.steps_from.f T.steps_from.fd ["pair", "situation"] (sp_steps_from K T.Watcher.C) := by
  refine okG T.steps_from.F sc_steps_from (fun vs H Q E h => ?_) (fun cdv A outer s H vs Q E gd hr h => ?_)
  · obtain ⟨t, v, a, b, P1, P2, s, rfl, _⟩ := h
    rfl
  · obtain ⟨t, v, a, b, P1, P2, st, rfl, hp, hv, hin, q⟩ := h
    refine ⟨_, 
      (C8.pss_cut (ps_set (i := 2) sc_steps_from.nd rfl (.inr rfl) (pe_callG (G_held_numbers T) gd (hr.mono (by decide)) rfl T.held_numbers.g T.held_numbers.F.kp T.held_numbers.b .nil pass0 (pa_cons (pv 0) (pa_cons (pv 1) pa_nil)))) -- held = held_numbers(pair, situation)
      (pss_cons (ps_asg (pv 2) (pg_tup rfl (pgs_cons (pg_name (i := 3) sc_steps_from.nd rfl (.inl rfl)) (pgs_cons (pg_name (i := 4) sc_steps_from.nd rfl (.inl rfl)) pgs_nil)))) -- first, second = held
      (C8.pss_cut (ps_set (i := 5) sc_steps_from.nd rfl (.inr rfl) (pe_callG (G_cases_between T) gd (hr.mono (by decide)) rfl T.cases_between.g T.cases_between.F.kp T.cases_between.b .nil pass0 (pa_cons (pv 3) (pa_cons (pv 4) pa_nil)))) -- in_order = cases_between(first, second)
      (pss_one (ps_ret (pe_lc2 (own := [("word", 6), ("case", 7)]) (vs1 := [7]) (g := gName 6) (g1 := gName 7) (wi1 := iTup K (tVar 5)) rfl sc_steps_from.nd (pi_range1 rfl T.m_range (pa_cons (pe_fld (pe_ix ix_tup (pv 0) pe_int (fun _ _ => rfl)) rfl) pa_nil)) (blkOk_by (N := N_steps_from) (sc := defScope s_steps_from) (by decide +kernel)) (by decide) (fun _ _ _ _ _ => (pg_name (i := 6) sc_steps_from.nd rfl (.inl rfl))) (fun _ _ _ _ _ => pts_nil) (fun _ _ _ _ _ => (pi_tup (pv 5))) (fun _ _ _ _ _ => (pg_name (i := 7) sc_steps_from.nd rfl (.inl rfl))) (fun _ _ _ _ _ => pts_nil) (fun _ _ _ _ _ => (pe_tup (pa_cons (pv 6) (pa_cons (pv 7) (pa_cons (pe_callG (G_situation_after T) gd (hr.mono (by decide)) rfl T.situation_after.g T.situation_after.F.kp T.situation_after.b .nil pass0 (pa_cons (pv 0) (pa_cons (pv 1) (pa_cons (pv 2) (pa_cons (pv 6) (pa_cons (pv 7) pa_nil)))))) pa_nil)))))))) -- return [(word, case, situation_after(pair, situation, held, word, case)) for word in range(pair[0].words) for case in in_order]
      ))) , ?_⟩
    have L5 : 200000 ≤ sizeLine := by decide
    obtain ⟨o1, o2⟩ := heldM_ok hp.w1.ok hp.w2.ok hin
    have l1 := o1.len
    have l2 := o2.len
    have b1 := held_bd hp.w1.ok.k o1.lo o1.hi
    have b2 := held_bd hp.w2.ok.k o2.lo o2.hi
    dsimp only at l1 l2 b1 b2
    refine ⟨fun σ H' => ∃ r x y, σ = [some (.ref t), some v, some (.ref r), none, none, none, none, none] ∧ Same H H' ∧ H' r = some (.tup [.ref x, .ref y]) ∧ HT H' x (heldM P1 P2 st).1 ∧ HT H' y (heldM P1 P2 st).2, ?_, ?_⟩
    · clear q
      exact ⟨.ref t, rfl, v, rfl, t, v, a, b, P1, P2, st, rfl, hp, hv, hin, fun r x y H1 s1 h1 h2 h3 => ⟨r, x, y, rfl, s1, h1, h2, h3⟩⟩
    rintro σ H1 ⟨r, x, y, rfl, s1, hr1, hx, hy⟩
    refine ⟨.ref r, rfl, r, _, rfl, SqT.of hr1, rfl, .ref x, [.ref y], rfl, .ref y, [], rfl, rfl, ?_⟩
    refine ⟨fun σ H' => ∃ c, σ = [some (.ref t), some v, some (.ref r), some (.ref x), some (.ref y), some (.ref c), none, none] ∧ Same H1 H' ∧ TD H' (.ref c) (.tuple ((casesM (heldM P1 P2 st).1 (heldM P1 P2 st).2).map csD)), ?_, ?_⟩
    · clear q
      exact ⟨.ref x, rfl, .ref y, rfl, x, y, _, _, rfl, hx, hy, by omega, by omega, fun c H2 s2 hc => ⟨c, rfl, s2, hc⟩⟩
    rintro σ H2 ⟨c, rfl, s2, hc⟩
    obtain ⟨dx, hx0⟩ := hp.w1.w.ins
    have s12 := s1.trans s2
    obtain ⟨ca, cs, ec, hca, hcs⟩ := hc.isTup
    obtain rfl := V.ref.inj ec
    have hw1 := hp.w1.ok.w
    have lcs : cs.length = (casesM (heldM P1 P2 st).1 (heldM P1 P2 st).2).length := by
      have := hcs.length
      rwa [List.length_map] at this
    have s12w := hp.w1.w
    refine ⟨.ref t, rfl, t, _, 0, .ref a.x, rfl, rfl, sqT_same hp.sq s12, atI_nat (j := 0) rfl, a.x, T.Watcher.C, dx, _, .int P1.words, rfl, s12 _ _ hx0, T.Watcher.cl, T.nf_Watcherwords, rfl, P1.words, rfl, by omega, by omega, fun D nD => ?_⟩
    refine ⟨fun i m H' => m = P1.words.toNat - i ∧ i ≤ P1.words.toNat ∧ StW P1 P2 st H2 D H' i 0, ⟨P1.words.toNat, by simp, Nat.zero_le _, ?_⟩, ?_⟩
    · exact ⟨same_at (Same.refl _) nD, nD, [], upd_same, .nil⟩
    rintro i m H3 ⟨rfl, hi, hP⟩
    by_cases hlt : i < P1.words.toNat
    · refine .inr ⟨hlt, fun H' => StW P1 P2 st H2 D H' (i + 1) 0, fun H4 p => ⟨P1.words.toNat - (i + 1), by omega, rfl, hlt, p⟩, fun xv H4 yy => ?_⟩
      obtain ⟨e, yy⟩ := yy
      subst e yy
      have e0 : (0 : Int) + (i : Int) = (i : Int) := by omega
      rw [e0]
      have hca3 := hP.1 _ _ hca
      refine ⟨rfl, .ref c, rfl, c, rfl, ⟨cs, SqT.of hca3⟩, fun j k H' => k = cs.length - j ∧ j ≤ cs.length ∧ StW P1 P2 st H2 D H' i j, ⟨cs.length, by simp, Nat.zero_le _, hP⟩, ?_⟩
      rintro j k H5 ⟨rfl, hj, hP5⟩
      have hca5 := hP5.1 _ _ hca
      by_cases hjl : j < cs.length
      · refine .inr ⟨⟨cs, cs[j], SqT.of hca5, by simp [hjl]⟩, fun H' => StW P1 P2 st H2 D H' i (j + 1), fun H' p => ⟨cs.length - (j + 1), by omega, rfl, hjl, p⟩, fun yv H6 yy => ?_⟩
        obtain ⟨e, yy⟩ := yy
        subst e
        have hyv : cs[j]? = some yv := yy cs (SqT.of hca5)
        have hjc : j < (casesM (heldM P1 P2 st).1 (heldM P1 P2 st).2).length := by omega
        obtain ⟨d, hd, hvd⟩ := hcs.get hyv
        rw [List.getElem?_map, List.getElem?_eq_getElem hjc] at hd
        obtain rfl := (Option.some.inj hd)
        obtain ⟨s5, _, xs, hD5, hx5⟩ := hP5
        have s15 := s12.trans s5
        have hcv := TD.mono (Tups.same s5) _ hvd
        refine ⟨rfl, .int (i : Int), rfl, yv, rfl, .ref t, rfl, v, rfl, .ref r, rfl, .int (i : Int), rfl, yv, rfl, t, r, x, y, v, yv, a, b, P1, P2, st, (heldM P1 P2 st).1, (heldM P1 P2 st).2, (i : Int), (casesM (heldM P1 P2 st).1 (heldM P1 P2 st).2)[j], rfl, hp.mono s15, TD.mono (Tups.same s15) _ hv, hin, SqT.of ((s2.trans s5) _ _ hr1), (hx.mono s2).mono s5, (hy.mono s2).mono s5, o1, o2, hcv, casesM_in (List.getElem_mem hjc), fun av H7 s7 hav => ⟨by show 3 ≤ sizeLine; decide, fun m nm => ?_⟩⟩
        have s8 := same_new (o := .tup [.int (i : Int), yv, av]) nm
        have s78 := s7.trans s8
        have hD8 := s78 _ _ hD5
        have tp := Tups.lst (o := .lst (xs ++ [.ref m])) hD8
        refine ⟨xs, hD8, ?_, same_at (s5.trans s78) nD, nD, _, upd_same, ?_⟩
        · have e1 := hx5.len
          rw [e1, List.length_map, List.length_append, List.length_map, List.length_take]
          have e2 := flat_len P1 P2 st i
          have e3 := casesM_len (heldM P1 P2 st).1 (heldM P1 P2 st).2
          have e4 : i * (casesM (heldM P1 P2 st).1 (heldM P1 P2 st).2).length ≤ 3 * 300 := Nat.mul_le_mul (by omega) (by omega)
          omega
        · rw [List.take_add_one, List.getElem?_eq_getElem hjc, Option.toList_some]
          simp only [List.map_append, List.map_cons, List.map_nil]
          rw [← List.append_assoc]
          simp only [List.map_append] at hx5
          exact tds_snoc ((hx5.mono (Tups.same s78)).mono tp) (.tup (tp _ _ upd_same) (.cons (.int _) (.cons (TD.mono tp _ (TD.mono (Tups.same s78) _ hcv)) (.cons (TD.mono tp _ (TD.mono (Tups.same s8) _ hav)) .nil))))
      · have e : j = cs.length := by omega
        subst e
        refine .inl ⟨⟨cs, SqT.of hca5, Nat.le_refl _⟩, ?_⟩
        obtain ⟨s5, _, xs, hD5, hx5⟩ := hP5
        refine ⟨s5, nD, xs, hD5, ?_⟩
        rw [lcs, List.take_length] at hx5
        rw [List.range_succ, List.flatMap_append, List.take_zero, List.map_nil, List.append_nil]
        simpa using hx5
    · have e : i = P1.words.toNat := by omega
      subst e
      refine .inl ⟨Nat.le_refl _, ?_⟩
      obtain ⟨s3, _, xs, hD3, hx3⟩ := hP
      rw [List.take_zero, List.map_nil, List.append_nil] at hx3
      have nDH : H D = none := by
        cases e : H D with
        | none => rfl
        | some o => rw [s12 _ _ e] at nD; cases nD
      exact q D xs H3 (s12.trans s3) nDH hD3 hx3
end

/-- what steps lead to -/
inductive Rch (P1 P2 : Plan) (ss : List Sit) : Sit → Prop
  | base {s : Sit} : s ∈ ss → Rch P1 P2 ss s
  | step {s : Sit} {x : Int × Cs × Sit} : Rch P1 P2 ss s → x ∈ stepsM P1 P2 s → Rch P1 P2 ss x.2.2
theorem Rch.in_ {P1 P2 : Plan} {ss : List Sit} (o1 : PlanOk P1) (o2 : PlanOk P2) (h : ∀ s ∈ ss, SitIn P1 P2 s) {s : Sit} (r : Rch P1 P2 ss s) : SitIn P1 P2 s := by
  induction r with
  | base hs => exact h _ hs
  | @step s x hs hx ih =>
    obtain ⟨w, _, hx⟩ := List.mem_flatMap.mp hx
    obtain ⟨c, _, rfl⟩ := List.mem_map.mp hx
    obtain ⟨a, b⟩ := heldM_ok o1 o2 ih
    exact afterM_in o1 o2 a b
theorem nodup_le {α : Type} [DecidableEq α] : ∀ {ks S : List α}, ks.Nodup → (∀ k ∈ ks, k ∈ S) → ks.length ≤ S.length
  | [], _, _, _ => Nat.zero_le _
  | k :: r, S, n, h => by
    have n' := List.nodup_cons.mp n
    have hk := h k List.mem_cons_self
    have ih := nodup_le (S := S.erase k) n'.2 fun x hx => (List.mem_erase_of_ne (fun e => n'.1 (by rw [← e]; exact hx))).mpr (h x (List.mem_cons_of_mem _ hx))
    rw [List.length_erase_of_mem hk] at ih
    have := List.length_pos_of_mem hk
    rw [List.length_cons]
    omega
theorem stepsM_len {P1 P2 : Plan} {s : Sit} (o1 : PlanOk P1) (o2 : PlanOk P2) (h : SitIn P1 P2 s) : (stepsM P1 P2 s).length ≤ 30 := by
  have e := flat_len P1 P2 s P1.words.toNat
  have e3 := casesM_len (heldM P1 P2 s).1 (heldM P1 P2 s).2
  obtain ⟨a, b⟩ := heldM_ok o1 o2 h
  have l1 := a.len
  have l2 := b.len
  have b1 := held_bd o1.k a.lo a.hi
  have b2 := held_bd o2.k b.lo b.hi
  dsimp only at l1 l2 b1 b2
  have hw := o1.w
  have : P1.words.toNat * (casesM (heldM P1 P2 s).1 (heldM P1 P2 s).2).length ≤ 3 * 10 := Nat.mul_le_mul (by omega) (by omega)
  unfold stepsM
  omega
abbrev StRel (P1 P2 : Plan) (z : Addr) (H : Hp) : List (NestedKey × V) → List Sit → Prop := Paired fun p k => p.1 = sitK k ∧ ∃ l xs, p.2 = .ref l ∧ l ≠ z ∧ H l = some (.lst xs) ∧ TDs H xs ((stepsM P1 P2 k).map stepD)
/-- a dict from these situations to their lists of steps -/
def StD (P : Program) (w : World) (P1 P2 : Plan) (H : Hp) (D : Addr) (ks : List Sit) : Prop := ∃ kvs z, NDict P w H D kvs ∧ StRel P1 P2 z H kvs ks
theorem StRel.keys {P1 P2 : Plan} {z : Addr} {H : Hp} {kvs : List (NestedKey × V)} {ks : List Sit} (h : StRel P1 P2 z H kvs ks) : kvs.map (·.1) = ks.map sitK := by
  induction h with
  | nil => rfl
  | cons a _ ih => rw [List.map_cons, List.map_cons, a.1, ih]
theorem StRel.val {P1 P2 : Plan} {z : Addr} {H : Hp} {kvs : List (NestedKey × V)} {ks : List Sit} (h : StRel P1 P2 z H kvs ks) (s : Sit) : (s ∉ ks → valV kvs (sitK s) = none) ∧ (s ∈ ks → ∃ l xs, valV kvs (sitK s) = some (.ref l) ∧ H l = some (.lst xs) ∧ TDs H xs ((stepsM P1 P2 s).map stepD)) := by
  induction h with
  | nil => exact ⟨fun _ => rfl, fun z => by cases z⟩
  | @cons p k ps ks hp _ ih =>
    by_cases e : k = s
    · subst e
      refine ⟨fun z => absurd List.mem_cons_self z, fun _ => ?_⟩
      obtain ⟨l, xs, e2, _, h1, h2⟩ := hp.2
      exact ⟨l, xs, by rw [valV_pos hp.1, e2], h1, h2⟩
    · have ne : ¬ p.1 = sitK s := fun z => e (sitK_inj (hp.1.symm.trans z))
      rw [valV_neg ne]
      exact ⟨fun z => ih.1 fun y => z (List.mem_cons_of_mem _ y), fun z => ih.2 (by rcases List.mem_cons.mp z with z | z; exact absurd z.symm e; exact z)⟩
def sp_steps_among (P : Program) (w : World) (K : PySem.W.Frag) (C : Addr) : Sp := fun us H Q _ => ∃ (t l : Addr) (vs : List V) (a b : WA) (P1 P2 : Plan) (ss S : List Sit), us = [.ref t, .ref l] ∧ PairAt K C H t a b P1 P2 ∧ H l = some (.lst vs) ∧ TDs H vs (ss.map sitD) ∧ (∀ s ∈ ss, SitIn P1 P2 s) ∧ ss.length ≤ 1000 ∧
  (∀ k, Rch P1 P2 ss k → k ∈ S) ∧ S.length ≤ 100000 ∧
  ∀ D ks H', Same H H' → H D = none → StD P w P1 P2 H' D ks → ks.Nodup → (∀ k, k ∈ ks ↔ Rch P1 P2 ss k) → Q (.ref D) H'
/-- the loop's word -/
structure AmW (P : Program) (w : World) (P1 P2 : Plan) (ss S : List Sit) (H0 : Hp) (D wl : Addr) (m : Nat) (H : Hp) (ks ws : List Sit) : Prop where
  sm : Same H0 H
  st : ∃ kvs, NDict P w H D kvs ∧ StRel P1 P2 wl H kvs ks
  wt : ∃ vs, H wl = some (.lst vs) ∧ TDs H vs (ws.map sitD)
  nd : ks.Nodup
  rk : ∀ k ∈ ks, Rch P1 P2 ss k
  rw_ : ∀ k ∈ ws, Rch P1 P2 ss k
  base : ∀ s ∈ ss, s ∈ ks ∨ s ∈ ws
  cl : ∀ k ∈ ks, ∀ x ∈ stepsM P1 P2 k, x.2.2 ∈ ks ∨ x.2.2 ∈ ws
  me : m = (S.length - ks.length) * 1000 + ws.length
  ln : ws.length ≤ 1000 + 30 * ks.length
/-- all but a stands -/
def NLx (a : Addr) (H H' : Hp) : Prop := ∀ c o, H c = some o → c ≠ a → H' c = some o
def AmV (P : Program) (w : World) (P1 P2 : Plan) (ss S : List Sit) (H0 : Hp) (t l D wl : Addr) : Nat → L2.St → Hp → Prop := fun m σ H => ∃ ks ws y4 y5 y6, σ = [some (.ref t), some (.ref l), some (.ref D), some (.ref wl), y4, y5, y6] ∧ AmW P w P1 P2 ss S H0 D wl m H ks ws
theorem tds_split {H : Hp} : ∀ {ds : List PyData} {vs : List V} {d : PyData}, TDs H vs (ds ++ [d]) → ∃ vs0 v, vs = vs0 ++ [v] ∧ TDs H vs0 ds ∧ TD H v d
  | [], _, _, h => by
    cases h with
    | cons a r =>
      cases r
      exact ⟨[], _, rfl, .nil, a⟩
  | _ :: _, _, _, h => by
    cases h with
    | cons a r =>
      obtain ⟨vs0, v, rfl, h1, h2⟩ := tds_split r
      exact ⟨_ :: vs0, v, rfl, .cons a h1, h2⟩
/-- all but lists that z names stands -/
theorem StRel.but {P1 P2 : Plan} {z : Addr} {H H' : Hp} {kvs : List (NestedKey × V)} {ks : List Sit} (h : StRel P1 P2 z H kvs ks) (k : ∀ c xs, c ≠ z → H c = some (.lst xs) → H' c = some (.lst xs)) (t : Tups H H') : StRel P1 P2 z H' kvs ks :=
  Paired.mapP h fun _ _ ⟨a, l, xs, b, c, d, e⟩ => ⟨a, l, xs, b, c, k _ _ c d, e.mono t⟩
section
variable {P : Program} {w : World} {K : PySem.W.Frag} {mg : Str → Option Value} {base : Heap}
abbrev N_steps_among : List Str := ["pair", "situations", "steps", "waiting", "here", "_", "there"]
theorem sc_steps_among : FnScope N_steps_among ["pair", "situations"] (defScope s_steps_among) := ⟨rfl, rfl, rfl, by decide +kernel, rfl, by decide +kernel, by decide +kernel⟩
theorem G_steps_among (T : Tx K mg) : FnG P w K mg base CX0 5 T.steps_among.f T.steps_among.fd ["pair", "situations"] (sp_steps_among P w K T.Watcher.C) := by
  refine okG T.steps_among.F sc_steps_among (fun vs H Q E h => ?_) (fun cdv A outer s H vs Q E gd hr h => ?_)
  · obtain ⟨t, l, vs, a, b, P1, P2, ss, S, rfl, _⟩ := h
    rfl
  · obtain ⟨t, l, vs, a, b, P1, P2, ss, S, rfl, hp, hl, hvs, hin, lss, hS, lS, q⟩ := h
    refine ⟨_, 
      (pss_cons (ps_set (i := 2) sc_steps_among.nd rfl (.inl rfl) pe_newN) -- steps = {}
      (pss_cons (ps_set (i := 3) sc_steps_among.nd rfl (.inl rfl) (pe_callTy call_list_of (by rfl) T.m_list (by decide +kernel) (pa_cons (pv 1) pa_nil))) -- waiting = list(situations)
      (pss_cons (ps_while PassesOwn.never (pt_truth (pv 3) (by intro _; rfl)) 
        (pss_cons (ps_set (i := 4) sc_steps_among.nd rfl (.inl rfl) (pe_bm0 PySem.F.plainAttrs_list PySem.F.slot_list_pop PySem.F.type_list_pop mt_pop (pv 3))) -- here = waiting.pop()
        (pss_one (ps_if (pt_cmpR (op_notInN hr.units) (pv 4) (pv 2) rfl) 
          (pss_cons (ps_putN hr.units (pv 2) (pv 4) (pe_callG (G_steps_from T) gd (hr.mono (by decide)) rfl T.steps_from.g T.steps_from.F.kp T.steps_from.b .nil pass0 (pa_cons (pv 0) (pa_cons (pv 4) pa_nil))) rfl) -- steps[here] = steps_from(pair, here)
          (pss_one (ps_expr (pe_bm PySem.F.plainAttrs_list PySem.F.slot_list_extend PySem.F.type_list_extend mt_extend (pv 3) (pa_cons (pe_lc (own := [("_", 5), ("_", 5), ("there", 6)]) (g := gTup K 3 (gCons (gName 5) (gCons (gName 5) (gCons (gName 6) gNil)))) rfl sc_steps_among.nd (pi_list (pe_getN hr.units (pv 2) (pv 4))) (blkOk_by (N := N_steps_among) (sc := defScope s_steps_among) (by decide +kernel)) (fun _ _ _ _ _ => (pg_tup rfl (pgs_cons (pg_name (i := 5) sc_steps_among.nd rfl (.inl rfl)) (pgs_cons (pg_name (i := 5) sc_steps_among.nd rfl (.inl rfl)) (pgs_cons (pg_name (i := 6) sc_steps_among.nd rfl (.inl rfl)) pgs_nil))))) (fun _ _ _ _ _ => pts_nil) (fun _ _ _ _ _ => (pv 6))) pa_nil)))) -- waiting.extend([there for _, _, there in steps[here]])
          ) pss_nil)) -- if here not in steps:
        )) -- while waiting:
      (pss_one (ps_ret (pv 2))) -- return steps
      ))) , ?_⟩
    have L5 : 4000000 ≤ sizeLine := by decide
    refine fun D nD => ⟨.ref l, rfl, l, vs, rfl, .inl (SqL.of (same_new nD _ _ hl)), fun wl nwl => ?_⟩
    have nwl0 := (upd_none nwl).2
    have nDw := (upd_none nwl).1
    have sA : Same H (upd (upd H D (NO P w D [])) wl (.lst vs)) := (same_new nD).trans (same_new nwl)
    refine ⟨AmV P w P1 P2 ss S H t l D wl, ⟨S.length * 1000 + ss.length, [], ss, none, none, none, rfl, ⟨sA, ⟨[], ⟨[], same_new nwl _ _ upd_same, .nil⟩, .nil⟩, ⟨vs, upd_same, hvs.mono (Tups.same sA)⟩, List.nodup_nil, (fun k hk => by cases hk), fun k hk => .base hk, fun s hs => .inr hs, (fun k hk => by cases hk), (by simp), (by simpa using lss)⟩⟩, fun m σ H' hW => ?_⟩
    obtain ⟨ks, ws, y4, y5, y6, rfl, hA⟩ := hW
    obtain ⟨kvs, hND, hSR⟩ := hA.st
    obtain ⟨wv, hwl, hwv⟩ := hA.wt
    have hks : ks.length ≤ S.length := nodup_le hA.nd fun k hk => hS k (hA.rk k hk)
    rcases List.eq_nil_or_concat ws with rfl | ⟨ws0, st, ews⟩
    · cases hwv
      refine ⟨.ref wl, rfl, false, .inl ⟨[], SqL.of hwl, rfl⟩, iteF ?_⟩
      refine ⟨.ref D, rfl, q D ks H' hA.sm nD ⟨kvs, wl, hND, hSR⟩ hA.nd fun k => ⟨hA.rk k, fun r => ?_⟩⟩
      induction r with
      | base hs =>
        rcases hA.base _ hs with h | h
        · exact h
        · cases h
      | step _ hx ih =>
        rcases hA.cl _ ih _ hx with h | h
        · exact h
        · cases h
    · rw [List.concat_eq_append] at ews
      subst ews
      rw [List.map_append, List.map_cons, List.map_nil] at hwv
      obtain ⟨v0, y, rfl, hv0, hy⟩ := tds_split hwv
      have rst : Rch P1 P2 ss st := hA.rw_ st (List.mem_append.mpr (.inr (List.mem_singleton.mpr rfl)))
      have ist := rst.in_ hp.w1.ok hp.w2.ok hin
      have lws := hA.ln
      have lme := hA.me
      rw [List.length_append, List.length_singleton] at lws lme
      refine ⟨.ref wl, rfl, true, .inl ⟨v0 ++ [y], SqL.of hwl, by simp⟩, iteT ?_⟩
      refine ⟨fun σ' H2 => ∃ m', m' < m ∧ AmV P w P1 P2 ss S H t l D wl m' σ' H2, fun σ' H2 h => h, ?_⟩
      refine ⟨.ref wl, rfl, .inl ⟨rfl, _, SqL.of hwl⟩, wl, v0 ++ [y], y, rfl, rfl, hwl, by simp, ?_⟩
      rw [List.dropLast_concat]
      have nl : NLx wl H' (upd H' wl (.lst v0)) := fun c o e n => by rw [upd_ne n]; exact e
      have tp : Tups H' (upd H' wl (.lst v0)) := Tups.lst hwl
      have sP : Same H (upd H' wl (.lst v0)) := same_at hA.sm nwl0
      have hND1 : NDict P w (upd H' wl (.lst v0)) D kvs := hND.keep tp fun o e => by rw [upd_ne nDw.symm]; exact e
      have hSR1 : StRel P1 P2 wl (upd H' wl (.lst v0)) kvs ks := hSR.but (fun c xs n e => by rw [upd_ne n]; exact e) tp
      have hy1 := TD.mono tp _ hy
      refine ⟨y, rfl, .ref D, rfl, D, sitK st, kvs, rfl, sit_key hy1, hND1, ?_⟩
      have hval := hSR1.val st
      by_cases hst : st ∈ ks
      · obtain ⟨l1, x1, e1, _, _⟩ := hval.2 hst
        rw [e1]
        refine ⟨false, rfl, iteF ?_⟩
        refine ⟨(S.length - ks.length) * 1000 + ws0.length, by omega, ks, ws0, _, y5, y6, rfl, sP, ⟨kvs, hND1, hSR1⟩, ⟨v0, upd_same, hv0.mono tp⟩, hA.nd, hA.rk, fun k hk => hA.rw_ k (List.mem_append.mpr (.inl hk)), fun s hs => ?_, fun k hk x hx => ?_, rfl, by omega⟩
        · rcases hA.base s hs with h | h
          · exact .inl h
          · rcases List.mem_append.mp h with h | h
            · exact .inr h
            · rw [List.mem_singleton.mp h]
              exact .inl hst
        · rcases hA.cl k hk x hx with h | h
          · exact .inl h
          · rcases List.mem_append.mp h with h | h
            · exact .inr h
            · rw [List.mem_singleton.mp h]
              exact .inl hst
      · have e1 := hval.1 hst
        rw [e1]
        refine ⟨true, rfl, iteT ?_⟩
        refine ⟨.ref t, rfl, y, rfl, t, y, a, b, P1, P2, st, rfl, hp.mono sP, hy1, ist, fun r xs H3 s3 nr hr3 hx3 => ⟨.ref D, rfl, y, rfl, D, sitK st, kvs, rfl, sit_key (TD.mono (Tups.same s3) _ hy1), hND1.mono s3, ?_, fun H4 k4 nd4 => ?_⟩⟩
        · have := congrArg List.length hSR.keys
          rw [List.length_map, List.length_map] at this
          omega
        have hND3 := hND1.mono s3
        obtain ⟨φ, eD⟩ := hND3.some
        have tp4 : Tups H3 H4 := fun c zs e => by
          rw [k4 c (fun q => by rw [q, eD] at e; cases e)]
          exact e
        have nrD : r ≠ D := fun e => by
          obtain ⟨φ1, eD1⟩ := hND1.some
          rw [e, eD1] at nr
          cases nr
        have nrw : r ≠ wl := fun e => by
          rw [e, upd_same] at nr
          cases nr
        have hr4 : H4 r = some (.lst xs) := by rw [k4 r nrD]; exact hr3
        have hwl4 : H4 wl = some (.lst v0) := by rw [k4 wl nDw]; exact s3 _ _ upd_same
        have hx4 := hx3.mono tp4
        have hy4 := TD.mono tp4 _ (TD.mono (Tups.same s3) _ hy1)
        have sm4 : Same H H4 := fun c o e => by
          rw [k4 c (fun q => by rw [q, nD] at e; cases e)]
          exact s3 _ _ (sP _ _ e)
        have hv04 := ((hv0.mono tp).mono (Tups.same s3)).mono tp4
        have hSR4 : StRel P1 P2 wl H4 kvs ks := hSR1.but (fun c zs n e => by
          rw [k4 c (fun q => by
            obtain ⟨φ1, eD1⟩ := hND1.some
            rw [q, eD1] at e
            cases e)]
          exact s3 _ _ e) (Tups.trans (Tups.same s3) tp4)
        have lxs : xs.length = (stepsM P1 P2 st).length := by
          have := hx3.len
          rwa [List.length_map] at this
        have l30 := stepsM_len hp.w1.ok hp.w2.ok ist
        refine ⟨.ref wl, rfl, .inl ⟨rfl, _, SqL.of hwl4⟩, .ref D, rfl, y, rfl, D, sitK st, _, .ref r, rfl, sit_key hy4, nd4, by rw [valV_put, if_pos rfl], r, rfl, ⟨xs, SqL.of hr4⟩, fun L nL => ?_⟩
        refine lc_list (xs := xs) (fun i H' => Same H4 H' ∧ ∃ zs, H' L = some (.lst zs) ∧ TDs H' zs (((stepsM P1 P2 st).take i).map fun x => sitD x.2.2)) ?_ ?_ ?_ ?_
        · exact ⟨same_at (Same.refl _) nL, [], upd_same, .nil⟩
        · exact fun i H' _ h => SqL.of (h.1 _ _ hr4)
        · rintro i xv H5 hxv ⟨s5, zs, hL, hzs⟩
          have hi : i < (stepsM P1 P2 st).length := by
            have := (List.getElem?_eq_some_iff.mp hxv).1
            omega
          obtain ⟨d, hd, hvd⟩ := hx4.get hxv
          rw [List.getElem?_map, List.getElem?_eq_getElem hi] at hd
          obtain rfl := (Option.some.inj hd)
          obtain ⟨ta, us, rfl, hta, hus⟩ := hvd.isTup
          cases hus with
          | @cons u1 d1 us1 ds1 g1 gr =>
            cases gr with
            | @cons u2 d2 us2 ds2 g2 gr =>
              cases gr with
              | @cons u3 d3 us3 ds3 g3 gr =>
                cases gr
                have tpL := Tups.lst (o := .lst (zs ++ [u3])) hL
                refine ⟨ta, _, rfl, SqT.of (s5 _ _ hta), rfl, u1, [u2, u3], rfl, u2, [u3], rfl, u3, [], rfl, rfl, rfl, u3, rfl, zs, hL, ?_, same_at s5 nL, _, upd_same, ?_⟩
                · have := hzs.len
                  rw [List.length_map, List.length_take] at this
                  omega
                · rw [List.take_add_one, List.getElem?_eq_getElem hi, Option.toList_some, List.map_append]
                  exact tds_snoc (hzs.mono tpL) (TD.mono tpL _ (TD.mono (Tups.same s5) _ g3))
        · rintro H5 ⟨s5, zs, hL, hzs⟩
          rw [lxs, List.take_length] at hzs
          have lzs : zs.length = (stepsM P1 P2 st).length := by
            have := hzs.len
            rwa [List.length_map] at this
          have lv0 : v0.length = ws0.length := by
            have := hv0.len
            rwa [List.length_map] at this
          have hwl5 := s5 _ _ hwl4
          have tpw := Tups.lst (o := .lst (v0 ++ zs)) hwl5
          have nd' : (ks ++ [st]).Nodup := List.nodup_append.mpr ⟨hA.nd, List.nodup_cons.mpr ⟨(fun z => by cases z), List.nodup_nil⟩, fun x hx z hz => by rw [List.mem_singleton.mp hz]; exact fun e => hst (e ▸ hx)⟩
          have rk' : ∀ k ∈ ks ++ [st], Rch P1 P2 ss k := fun k hk => by
            rcases List.mem_append.mp hk with h | h
            · exact hA.rk k h
            · rw [List.mem_singleton.mp h]
              exact rst
          have lk' : (ks ++ [st]).length ≤ S.length := nodup_le nd' fun k hk => hS k (rk' k hk)
          have lk2 : (ks ++ [st]).length = ks.length + 1 := by rw [List.length_append]; rfl
          rw [lk2] at lk'
          refine ⟨wl, L, v0, zs, rfl, rfl, hwl5, hL, by omega, (S.length - (ks.length + 1)) * 1000 + (ws0.length + (stepsM P1 P2 st).length), by omega, ks ++ [st], ws0 ++ (stepsM P1 P2 st).map (·.2.2), _, y5, y6, rfl, same_at (sm4.trans s5) nwl0, ⟨putK kvs (sitK st) (.ref r), ?_, ?_⟩, ⟨v0 ++ zs, upd_same, ?_⟩, nd', rk', ?_, ?_, ?_, ?_, ?_⟩
          · exact (nd4.mono s5).keep tpw fun o e => by rw [upd_ne nDw.symm]; exact e
          · rw [putK_new _ e1]
            refine Paired.snoc ((hSR4.but (fun c us n e => s5 _ _ e) (Tups.same s5)).but (fun c us n e => by rw [upd_ne n]; exact e) tpw) ⟨rfl, r, xs, rfl, nrw, by rw [upd_ne nrw]; exact s5 _ _ hr4, (hx4.mono (Tups.same s5)).mono tpw⟩
          · rw [List.map_append, List.map_map]
            exact ((hv04.mono (Tups.same s5)).mono tpw).app (hzs.mono tpw)
          · intro k hk
            rcases List.mem_append.mp hk with h | h
            · exact hA.rw_ k (List.mem_append.mpr (.inl h))
            · obtain ⟨x, hx, rfl⟩ := List.mem_map.mp h
              exact .step rst hx
          · intro s' hs
            rcases hA.base s' hs with h | h
            · exact .inl (List.mem_append.mpr (.inl h))
            · rcases List.mem_append.mp h with h | h
              · exact .inr (List.mem_append.mpr (.inl h))
              · exact .inl (List.mem_append.mpr (.inr h))
          · intro k hk x hx
            rcases List.mem_append.mp hk with h | h
            · rcases hA.cl k h x hx with h | h
              · exact .inl (List.mem_append.mpr (.inl h))
              · rcases List.mem_append.mp h with h | h
                · exact .inr (List.mem_append.mpr (.inl h))
                · exact .inl (List.mem_append.mpr (.inr h))
            · rw [List.mem_singleton.mp h] at hx
              exact .inr (List.mem_append.mpr (.inr (List.mem_map.mpr ⟨x, hx, rfl⟩)))
          · rw [lk2, List.length_append, List.length_map]
          · rw [lk2, List.length_append, List.length_map]
            omega
end

def ascN (ks : List Sit) : List NestedKey := srtN (ks.map sitK)
def sp_reached_situations (K : PySem.W.Frag) (C : Addr) : Sp := fun us H Q _ => ∃ (t : Addr) (v : V) (a b : WA) (P1 P2 : Plan) (s : Sit) (S : List Sit), us = [.ref t, v] ∧ PairAt K C H t a b P1 P2 ∧ TD H v (sitD s) ∧ SitIn P1 P2 s ∧
  (∀ k, Rch P1 P2 [s] k → k ∈ S) ∧ S.length ≤ 100000 ∧
  ∀ r ks H', Same H H' → TD H' (.ref r) (.tuple ((ascN ks).map nkD)) → ks.Nodup → (∀ k, k ∈ ks ↔ Rch P1 P2 [s] k) → Q (.ref r) H'
theorem sitK_alike (s s' : Sit) : PySem.W.alike (nkD (sitK s)) (nkD (sitK s')) = true := by
  rw [sitK_D, sitK_D]
  have h : ∀ l l' : List (Int × Int), PySem.W.alikeAll (l.map pairD) (l'.map pairD) = true := by
    intro l
    induction l with
    | nil => intro l'; simp [PySem.W.alikeAll]
    | cons x r ih =>
      intro l'
      cases l' with
      | nil => simp [PySem.W.alikeAll]
      | cons y r' =>
        simp only [List.map_cons, PySem.W.alikeAll, Bool.and_eq_true]
        exact ⟨by simp [pairD, PySem.W.alike, PySem.W.alikeAll], ih r'⟩
  unfold sitD pairsD
  simp only [PySem.W.alike, PySem.W.alikeAll, Bool.and_true, Bool.true_and]
  exact h _ _
section
variable {P : Program} {w : World} {K : PySem.W.Frag} {mg : Str → Option Value} {base : Heap}
abbrev N_reached_situations : List Str := ["pair", "situation"]
theorem sc_reached_situations : FnScope N_reached_situations ["pair", "situation"] (defScope s_reached_situations) := ⟨rfl, rfl, rfl, by decide +kernel, rfl, by decide +kernel, by decide +kernel⟩
theorem G_reached_situations (T : Tx K mg) : FnG P w K mg base CX0 6 T.reached_situations.f T.reached_situations.fd ["pair", "situation"] (sp_reached_situations K T.Watcher.C) := by
  refine okG T.reached_situations.F sc_reached_situations (fun vs H Q E h => ?_) (fun cdv A outer s H vs Q E gd hr h => ?_)
  · obtain ⟨t, v, a, b, P1, P2, s, S, rfl, _⟩ := h
    rfl
  · obtain ⟨t, v, a, b, P1, P2, st, S, rfl, hp, hv, hin, hS, lS, q⟩ := h
    refine ⟨_, 
      (pss_one (ps_ret (pe_callTy call_tuple_of (by rfl) T.m_tuple (by decide +kernel) (pa_cons (pe_callB (call_sortN rfl hr.units) (by rfl) T.m_sorted PyProof.Rows.boot_sorted (pa_cons (pe_callG (G_steps_among T) gd (hr.mono (by decide)) rfl T.steps_among.g T.steps_among.F.kp T.steps_among.b .nil pass0 (pa_cons (pv 0) (pa_cons (pe_lst (pa_cons (pv 1) pa_nil)) pa_nil))) pa_nil)) pa_nil)))) -- return tuple(sorted(steps_among(pair, [situation])))
       , ?_⟩
    have L5 : 4000000 ≤ sizeLine := by decide
    refine ⟨.ref t, rfl, v, rfl, by show 1 ≤ sizeLine; decide, fun l nl => ?_⟩
    have s1 := same_new (o := .lst [v]) nl
    refine ⟨t, l, [v], a, b, P1, P2, [st], S, rfl, hp.mono s1, upd_same, .cons (TD.mono (Tups.same s1) _ hv) .nil, fun s hs => by rw [List.mem_singleton.mp hs]; exact hin, by show 1 ≤ 1000; decide, hS, lS, fun D ks H2 s2 nD hD nd hk => ?_⟩
    obtain ⟨kvs, z, hND, hSR⟩ := hD
    refine ⟨D, kvs, rfl, hND, ?_, fun p bs np hbs => ?_⟩
    · rw [hSR.keys]
      refine ⟨fun x hx y hy => ?_, fun x hx => ?_⟩
      · obtain ⟨k1, _, rfl⟩ := List.mem_map.mp hx
        obtain ⟨k2, _, rfl⟩ := List.mem_map.mp hy
        exact sitK_alike k1 k2
      · obtain ⟨k1, _, rfl⟩ := List.mem_map.mp hx
        exact ⟨_, _, rfl⟩
    · rw [hSR.keys] at hbs
      have s3 := same_new (o := .lst (bs.map V.ref)) np
      refine ⟨p, _, rfl, .inl ⟨SqL.of upd_same, fun r nr => ?_⟩⟩
      have s4 := same_new (o := .tup (bs.map V.ref)) nr
      refine q r ks _ (((s1.trans s2).trans s3).trans s4) (.tup upd_same ?_) nd hk
      have hb2 := hbs.mono (Tups.same (s3.trans s4))
      generalize upd (upd H2 p (.lst (bs.map V.ref))) r (.tup (bs.map V.ref)) = H9 at hb2
      have all : ∀ {ks : List NestedKey} {bs : List Addr}, IsNK H9 ks bs → TDs H9 (bs.map V.ref) (ks.map nkD) := by
        intro ks bs h
        induction h with
        | nil => exact .nil
        | cons h1 _ ih => exact .cons h1.2.1 ih
      exact all hb2
end

/-! ### situations in order -/
theorem pairs_toks : ∀ {l l' : List (Int × Int)} {x y : List (Int ⊕ List Nat)}, PySem.W.keyToksAll (l.map pairD) ++ x = PySem.W.keyToksAll (l'.map pairD) ++ y → l = l'
  | [], [], _, _, _ => rfl
  | [], _ :: _, _, _, h => by
    simp [PySem.W.keyToksAll, PySem.W.keyToks, pairD] at h
  | _ :: _, [], _, _, h => by
    simp [PySem.W.keyToksAll, PySem.W.keyToks, pairD] at h
  | a :: l, b :: l', x, y, h => by
    simp only [List.map_cons, pairD, PySem.W.keyToksAll, PySem.W.keyToks, List.cons_append, List.nil_append, List.append_assoc, List.cons.injEq, Sum.inl.injEq, true_and] at h
    obtain ⟨h1, h2, h3⟩ := h
    rw [pairs_toks h3, Prod.ext h1 h2]
theorem sit_toks {s s' : Sit} (h : PySem.W.keyToks (sitD s) = PySem.W.keyToks (sitD s')) : s = s' := by
  obtain ⟨p, q, l⟩ := s
  obtain ⟨p', q', l'⟩ := s'
  simp only [sitD, pairsD, PySem.W.keyToksAll, PySem.W.keyToks, List.cons_append, List.nil_append, List.append_assoc, List.cons.injEq, Sum.inl.injEq, true_and] at h
  obtain ⟨h1, h2, h3⟩ := h
  rw [h1, h2, pairs_toks h3]
theorem sit_anti {a b : Sit} (h1 : PySem.W.dataLe false sitD a b = true) (h2 : PySem.W.dataLe false sitD b a = true) : a = b := by
  have e1 : (PyProof.Rows.listOrd PyProof.Rows.itemOrd).blt (PySem.W.keyToks (sitD b)) (PySem.W.keyToks (sitD a)) = false := by
    have : (!(PyProof.Rows.listOrd PyProof.Rows.itemOrd).blt (PySem.W.keyToks (sitD b)) (PySem.W.keyToks (sitD a))) = true := h1
    simpa using this
  have e2 : (PyProof.Rows.listOrd PyProof.Rows.itemOrd).blt (PySem.W.keyToks (sitD a)) (PySem.W.keyToks (sitD b)) = false := by
    have : (!(PyProof.Rows.listOrd PyProof.Rows.itemOrd).blt (PySem.W.keyToks (sitD a)) (PySem.W.keyToks (sitD b))) = true := h2
    simpa using this
  exact sit_toks ((PyProof.Rows.listOrd PyProof.Rows.itemOrd).total _ _ e2 e1)
def ascS (ks : List Sit) : List Sit := ks.mergeSort (PySem.W.dataLe false sitD)
theorem ascS_perm {k1 k2 : List Sit} (p : k1.Perm k2) : ascS k1 = ascS k2 := by
  have tot := PySem.W.sortLe_total (PyProof.Rows.listOrd PyProof.Rows.itemOrd) false fun s : Sit => PySem.W.keyToks (sitD s)
  have s1 := PySem.W.sort_pairwise tot k1
  have s2 := PySem.W.sort_pairwise tot k2
  refine List.Perm.eq_of_pairwise (le := fun a b => PySem.W.dataLe false sitD a b = true) (fun a b _ _ h1 h2 => sit_anti h1 h2) s1 s2 ?_
  exact ((List.mergeSort_perm k1 _).trans p).trans (List.mergeSort_perm k2 _).symm
theorem ascN_S (ks : List Sit) : (ascN ks).map nkD = (ascS ks).map sitD := by
  unfold ascN ascS srtN
  have e := PySem.W.sort_maps (r := PySem.W.dataLe false sitD) (s := PySem.W.dataLe false nkD) sitK (l := ks) (fun a _ b _ => by
    show PySem.W.dataLe false sitD a b = PySem.W.dataLe false nkD (sitK a) (sitK b)
    unfold PySem.W.dataLe PySem.W.sortLe
    dsimp only
    rw [sitK_D, sitK_D])
  rw [← e, List.map_map]
  refine List.map_congr_left fun x _ => sitK_D x

/-! ### the law's own -/
def wkK (many held : Nat) : List (Int × Int) := (0, 0) :: List.replicate many (0, (held : Int))
def wkS (held : Nat) : List Key := (List.range held).map fun i : Nat => (Sum.inl (i : Int) : Key)
def wkRow (many held : Nat) (word : Int) (fst : Bool) (i : Nat) : List PRule := ([Sum.inl ((i : Int) + 1), Sum.inl word, Sum.inr "new"], (((i : Int) + 1) % (many : Int) + 1, wkS held)) :: (if fst = true then [([Sum.inl ((i : Int) + 1), Sum.inl 2, Sum.inr "new"], ((i : Int) + 1, (Sum.inr ("value" : Str) : Key) :: wkS (held - 1)))] else [])
def wkR (many held : Nat) (word : Int) (fst : Bool) (n : Nat) : List PRule := (List.range n).flatMap (wkRow many held word fst)
def wkP (many held : Nat) (word : Int) (fst : Bool) : Plan := ⟨3, wkK many held, wkR many held word fst many⟩
theorem wkK_len (many held : Nat) : (wkK many held).length = many + 1 := by simp [wkK]
theorem wkK_ok {many held : Nat} (h3 : held ≤ 3) (m5 : many ≤ 5) : KindsOk (wkK many held) := by
  refine ⟨by rw [wkK_len]; omega, rfl, fun k hk => ?_⟩
  rcases List.mem_cons.mp hk with rfl | hk
  · decide
  · rw [List.eq_of_mem_replicate hk]
    exact ⟨Int.le_refl 0, by show (0 : Int) ≤ 3; decide, by show (0 : Int) ≤ held; omega, by show (held : Int) ≤ 3; omega⟩
theorem wk_held {many held : Nat} {i : Int} (h0 : 1 ≤ i) (h1 : i ≤ many) : heldAt (wkK many held) i = held := by
  obtain ⟨n, rfl⟩ : ∃ n : Nat, i = ((n + 1 : Nat) : Int) := ⟨i.toNat - 1, by omega⟩
  unfold heldAt wkK
  rw [Int.toNat_natCast, List.getElem?_cons_succ, List.getElem?_replicate, if_pos (by omega)]
  rfl
theorem wkS_src {held : Nat} {h : Int} {t : Key} (hh : held ≤ h) : ∀ k ∈ wkS held, SrcAt h t k := fun k hk => by
  obtain ⟨i, hi, rfl⟩ := List.mem_map.mp hk
  have := List.mem_range.mp hi
  exact .inl ⟨(i : Int), rfl, by omega, by omega⟩
theorem wkS_nd (held : Nat) : (wkS held).Nodup := by
  unfold wkS
  exact List.Pairwise.map _ (fun a b h e => h (by have := Sum.inl.inj e; omega)) List.nodup_range
theorem wkS_len (held : Nat) : (wkS held).length = held := by simp [wkS]
theorem wk_ruleA {many held : Nat} {word : Int} {i : Nat} (hi : i < many) (w0 : 0 ≤ word) (w2 : word < 3) : RuleOk 3 (wkK many held) ([Sum.inl ((i : Int) + 1), Sum.inl word, Sum.inr "new"], (((i : Int) + 1) % (many : Int) + 1, wkS held)) := by
  have m0 : (0 : Int) < many := by omega
  have e1 := Int.emod_nonneg ((i : Int) + 1) (Int.ne_of_gt m0)
  have e2 := Int.emod_lt_of_pos ((i : Int) + 1) m0
  refine ⟨(i : Int) + 1, word, .inr "new", rfl, by omega, by rw [wkK_len]; omega, w0, w2, .inr rfl, by show 0 ≤ ((i : Int) + 1) % (many : Int) + 1; omega, by rw [wkK_len]; show ((i : Int) + 1) % (many : Int) + 1 < _; omega, ?_⟩
  rw [wk_held (by omega) (by omega), wk_held (by show 1 ≤ ((i : Int) + 1) % (many : Int) + 1; omega) (by show ((i : Int) + 1) % (many : Int) + 1 ≤ _; omega)]
  exact ⟨by show (((wkS held).length : Nat) : Int) = held; rw [wkS_len], wkS_nd held, wkS_src (Int.le_refl _)⟩
theorem wk_ruleB {many held : Nat} {i : Nat} (hi : i < many) (h1 : 1 ≤ held) : RuleOk 3 (wkK many held) ([Sum.inl ((i : Int) + 1), Sum.inl 2, Sum.inr "new"], ((i : Int) + 1, (Sum.inr ("value" : Str) : Key) :: wkS (held - 1))) := by
  refine ⟨(i : Int) + 1, 2, .inr "new", rfl, by omega, by rw [wkK_len]; omega, by decide, by decide, .inr rfl, by show 0 ≤ (i : Int) + 1; omega, by rw [wkK_len]; show (i : Int) + 1 < _; omega, ?_⟩
  rw [wk_held (by omega) (by omega)]
  refine ⟨?_, ?_, fun k hk => ?_⟩
  · show ((((Sum.inr ("value" : Str) : Key) :: wkS (held - 1)).length : Nat) : Int) = held
    rw [List.length_cons, wkS_len]
    omega
  · refine List.nodup_cons.mpr ⟨fun h => ?_, wkS_nd _⟩
    obtain ⟨i, _, e⟩ := List.mem_map.mp h
    cases e
  · rcases List.mem_cons.mp hk with rfl | hk
    · exact .inr ⟨rfl, rfl⟩
    · exact wkS_src (by omega) k hk
theorem wkR_succ (many held : Nat) (word : Int) (fst : Bool) (n : Nat) : wkR many held word fst (n + 1) = wkR many held word fst n ++ wkRow many held word fst n := by
  unfold wkR
  rw [List.range_succ, List.flatMap_append]
  simp
theorem wkR_len (many held : Nat) (word : Int) (fst : Bool) : ∀ n : Nat, (wkR many held word fst n).length ≤ 2 * n
  | 0 => Nat.le_refl _
  | n + 1 => by
    have := wkR_len many held word fst n
    have h2 : (wkRow many held word fst n).length ≤ 2 := by
      unfold wkRow
      cases fst
      · show 1 ≤ 2
        omega
      · show 2 ≤ 2
        omega
    rw [wkR_succ, List.length_append]
    omega
theorem wk_keys {many held : Nat} {word : Int} {fst : Bool} {n : Nat} {k : List Key} (h : k ∈ (wkR many held word fst n).map (·.1)) : ∃ j : Nat, j < n ∧ (k = [Sum.inl ((j : Int) + 1), Sum.inl word, Sum.inr ("new" : Str)] ∨ k = [Sum.inl ((j : Int) + 1), Sum.inl 2, Sum.inr ("new" : Str)]) := by
  obtain ⟨r, hr, rfl⟩ := List.mem_map.mp h
  obtain ⟨j, hj, hr⟩ := List.mem_flatMap.mp hr
  refine ⟨j, List.mem_range.mp hj, ?_⟩
  rcases List.mem_cons.mp hr with rfl | hr
  · exact .inl rfl
  · cases fst with
    | false => cases hr
    | true =>
      have hr : r ∈ [([Sum.inl ((j : Int) + 1), Sum.inl 2, Sum.inr ("new" : Str)], ((j : Int) + 1, (Sum.inr ("value" : Str) : Key) :: wkS (held - 1)))] := hr
      rw [List.mem_singleton.mp hr]
      exact .inr rfl
theorem wkR_nd {many held : Nat} {word : Int} {fst : Bool} (w2 : word < 2) : ∀ n : Nat, ((wkR many held word fst n).map (·.1)).Nodup
  | 0 => List.nodup_nil
  | n + 1 => by
    have ih := wkR_nd (many := many) (held := held) (fst := fst) w2 n
    rw [wkR_succ, List.map_append]
    refine List.nodup_append.mpr ⟨ih, ?_, fun a ha b hb e => ?_⟩
    · unfold wkRow
      cases fst with
      | false => exact List.nodup_cons.mpr ⟨(fun z => by cases z), List.nodup_nil⟩
      | true =>
        refine List.nodup_cons.mpr ⟨fun z => ?_, List.nodup_cons.mpr ⟨(fun z => by cases z), List.nodup_nil⟩⟩
        have e := List.mem_singleton.mp z
        have := Sum.inl.inj (List.cons.inj (List.cons.inj e).2).1
        omega
    · subst e
      obtain ⟨j, hj, h1⟩ := wk_keys ha
      have h2 : a = [Sum.inl ((n : Int) + 1), Sum.inl word, Sum.inr ("new" : Str)] ∨ a = [Sum.inl ((n : Int) + 1), Sum.inl 2, Sum.inr ("new" : Str)] := by
        obtain ⟨r, hr, rfl⟩ := List.mem_map.mp hb
        rcases List.mem_cons.mp hr with rfl | hr
        · exact .inl rfl
        · cases fst with
          | false => cases hr
          | true =>
            have hr : r ∈ [([Sum.inl ((n : Int) + 1), Sum.inl 2, Sum.inr ("new" : Str)], ((n : Int) + 1, (Sum.inr ("value" : Str) : Key) :: wkS (held - 1)))] := hr
            rw [List.mem_singleton.mp hr]
            exact .inr rfl
      rcases h1 with h1 | h1 <;> rcases h2 with h2 | h2 <;> (rw [h1] at h2; have := Sum.inl.inj (List.cons.inj h2).1; omega)
theorem wkP_ok {many held : Nat} {word : Int} {fst : Bool} (h1 : 1 ≤ held) (h3 : held ≤ 3) (m1 : 1 ≤ many) (m5 : many ≤ 5) (w0 : 0 ≤ word) (w2 : word < 2) : PlanOk (wkP many held word fst) := by
  refine ⟨by show (1 : Int) ≤ 3 ∧ (3 : Int) ≤ 3; decide, wkK_ok h3 m5, fun r hr => ?_, wkR_nd w2 many, ?_⟩
  · obtain ⟨j, hj, hr⟩ := List.mem_flatMap.mp hr
    have hj' := List.mem_range.mp hj
    rcases List.mem_cons.mp hr with rfl | hr
    · exact wk_ruleA hj' w0 (by omega)
    · cases fst with
      | false => cases hr
      | true =>
        have hr : r ∈ [([Sum.inl ((j : Int) + 1), Sum.inl 2, Sum.inr ("new" : Str)], ((j : Int) + 1, (Sum.inr ("value" : Str) : Key) :: wkS (held - 1)))] := hr
        rw [List.mem_singleton.mp hr]
        exact wk_ruleB hj' h1
  · have := wkR_len many held word fst many
    show (wkR many held word fst many).length ≤ 100
    omega
def waysM : List Int → List Int → List (List (Int × Int))
  | [], _ => [[]]
  | l :: ls, rs => waysM ls rs ++ rs.flatMap fun r => (waysM ls (rs.filter fun x => decide (x ≠ r))).map fun p => (l, r) :: p
theorem waysM_len : ∀ (ls : List Int) {rs : List Int} {k : Nat}, rs.length ≤ k → (waysM ls rs).length ≤ (1 + k) ^ ls.length
  | [], _, _, _ => by simp [waysM]
  | l :: ls, rs, k, h => by
    have h1 := waysM_len ls h
    have h2 : ∀ (us : List Int), (us.flatMap fun r => (waysM ls (rs.filter fun x => decide (x ≠ r))).map fun p => (l, r) :: p).length ≤ us.length * (1 + k) ^ ls.length := by
      intro us
      induction us with
      | nil => simp
      | cons u us ih =>
        rw [List.flatMap_cons, List.length_append, List.length_map, List.length_cons, Nat.succ_mul]
        have := waysM_len ls (rs := rs.filter fun x => decide (x ≠ u)) (k := k) (Nat.le_trans (List.length_filter_le _ _) h)
        omega
    have h3 := h2 rs
    show (waysM ls rs ++ _).length ≤ (1 + k) ^ (ls.length + 1)
    rw [List.length_append, Nat.pow_succ]
    have h4 : rs.length * (1 + k) ^ ls.length ≤ k * (1 + k) ^ ls.length := Nat.mul_le_mul_right _ h
    have h5 : (1 + k) ^ ls.length * (1 + k) = (1 + k) ^ ls.length + k * (1 + k) ^ ls.length := by rw [Nat.mul_add, Nat.mul_one, Nat.mul_comm k]
    omega
def sp_law_walker (C : Addr) : Sp := fun us H Q _ => ∃ (many held : Nat) (word : Int) (fst : Bool), us = [.int (many : Int), .int (held : Int), .int word, .bl fst] ∧ 1 ≤ many ∧ many ≤ 5 ∧ 1 ≤ held ∧ held ≤ 3 ∧ 0 ≤ word ∧ word < 2 ∧
  ∀ (a : WA) H', Same H H' → WP C H' a.x a.lv a.lh a.d (wkP many held word fst) → Q (.ref a.x) H'
def sp_law_ways (n : Nat) : Sp := fun us H Q _ => ∃ (l r : Addr) (ls rs : List Int), us = [.ref l, .ref r] ∧ H l = some (.lst (ls.map V.int)) ∧ H r = some (.lst (rs.map V.int)) ∧ ls.length ≤ n ∧ ls.length ≤ 3 ∧ rs.length ≤ 3 ∧
  ∀ f xs H', Same H H' → H f = none → H' f = some (.lst xs) → TDs H' xs ((waysM ls rs).map pairsD) → Q (.ref f) H'
section
variable {P : Program} {w : World} {K : PySem.W.Frag} {mg : Str → Option Value} {base : Heap}
abbrev N_law_walker : List Str := ["many", "held", "word", "is_first", "found", "same", "state"]
theorem sc_law_walker : FnScope N_law_walker ["many", "held", "word", "is_first"] (defScope s_law_walker) := ⟨rfl, rfl, rfl, by decide +kernel, rfl, by decide +kernel, by decide +kernel⟩
theorem G_law_walker (T : Tx K mg) : FnG P w K mg base CX0 6 T.law_walker.f T.law_walker.fd ["many", "held", "word", "is_first"] (sp_law_walker T.Watcher.C) := by
  refine okG T.law_walker.F sc_law_walker (fun vs H Q E h => ?_) (fun cdv A outer s H vs Q E gd hr h => ?_)
  · obtain ⟨many, held, word, fst, rfl, _⟩ := h
    rfl
  · obtain ⟨many, held, word, fst, rfl, m1, m5, h1, h3, w0, w2, q⟩ := h
    refine ⟨_, 
      (pss_cons (ps_par (i := 4) (j := 5) rfl sc_law_walker.nd rfl rfl (by decide) rfl rfl (pa_cons (pe_makeG T.mk_Watcher (G_Watcher_init T) gd (hr.mono (by decide)) rfl T.Watcher.g T.Watcher_init.b .nil passNo (pa_cons pe_int pa_nil)) (pa_cons (pe_callTy call_tuple_of (by rfl) T.m_tuple (by decide +kernel) (pa_cons (pe_listRg rfl (by rfl) T.m_list (prg_1 (by rfl) T.m_range (pv 1))) pa_nil)) pa_nil)) rfl) -- found, same = (Watcher(3), tuple(list(range(held))))
      (C8.pss_cut (ps_for PassesOwn.never rfl (pi_range1 rfl T.m_range (pa_cons (pv 0) pa_nil)) (pg_name (i := 6) sc_law_walker.nd rfl (.inl rfl)) 
        (pss_one (ps_expr (pe_methG (pv 4) T.Watcher.cl T.Watcher_add_state.M (G_Watcher_add_state T) gd (hr.mono (by decide)) T.Watcher_add_state.b .nil passNo (pa_cons pe_int (pa_cons (pv 1) pa_nil))))) -- found.add_state(0, held)
        ) -- for state in range(many):
      (C8.pss_cut (ps_for PassesOwn.never rfl (pi_range2 rfl T.m_range (pa_cons pe_int (pa_cons (pe_op op_add (pv 0) pe_int) pa_nil))) (pg_name (i := 6) sc_law_walker.nd rfl (.inl rfl)) 
        (pss_cons (ps_expr (pe_methG (pv 4) T.Watcher.cl T.Watcher_add_rule.M (G_Watcher_add_rule T) gd (hr.mono (by decide)) T.Watcher_add_rule.b .nil passNo (pa_cons (pv 6) (pa_cons (pv 2) (pa_cons pe_str (pa_cons (pe_op op_add (pe_op op_mod (pv 6) (pv 0)) pe_int) (pa_cons (pv 5) pa_nil))))))) -- found.add_rule(state, word, 'new', state % many + 1, same)
        (pss_one (ps_if (pt_truth (pv 3) (by intro _; rfl)) 
          (pss_one (ps_expr (pe_methG (pv 4) T.Watcher.cl T.Watcher_add_rule.M (G_Watcher_add_rule T) gd (hr.mono (by decide)) T.Watcher_add_rule.b .nil passNo (pa_cons (pv 6) (pa_cons pe_int (pa_cons pe_str (pa_cons (pv 6) (pa_cons (pe_op op_catD (pe_tup (pa_cons pe_str pa_nil)) (pe_slice sl_D (pv 5) po_none (po_some (pe_un un_neg pe_int)))) pa_nil)))))))) -- found.add_rule(state, 2, 'new', state, ('value',) + same[:-1])
           pss_nil)) -- if is_first:
        )) -- for state in range(1, many + 1):
      (pss_one (ps_ret (pv 4))) -- return found
      ))) , ?_⟩
    have L5 : 4000000 ≤ sizeLine := by decide
    have eS : rgV 0 (held : Int) = (wkS held).map kV := by
      rw [← firstM_V]
      unfold firstM wkS
      rw [Int.toNat_natCast, List.map_map, List.map_map]
      rfl
    refine fun x dx hx hdx ndx => ⟨x, x, dx, .int 3, .int 3, rfl, upd_same, .int _, fun n en n1 n3 H1 lv lh dd bt hlv hlh hdd hW => ⟨rfl, ?_⟩, fun z => by cases z⟩
    obtain rfl := PyData.int.inj en
    have k1 : Same H (upd (upd H dx (.own x)) x (.ins T.Watcher.C dx [])) := (same_new hdx).trans (same_new (by rw [upd_ne ndx.symm]; exact hx))
    have kb : Same H H1 := fun c o z => bt _ _ (k1 _ _ z) (fun e => by rw [e, hx] at z; cases z)
    have nn : ∀ {y}, (upd (upd H dx (.own x)) x (.ins T.Watcher.C dx [])) y = none → H y = none := fun {y} z => by
      cases e : H y with
      | none => rfl
      | some o => rw [k1 _ _ e] at z; cases z
    refine ⟨.int (held : Int), rfl, (held : Int), rfl, RgOk.of_le (Int.le_refl 0) (by omega) (by omega) (by omega), fun l nl => ⟨l, _, rfl, .inl ⟨SqL.of upd_same, fun sa nsa => ?_⟩⟩⟩
    rw [eS] at nsa ⊢
    have s2 := (same_new (o := .lst ((wkS held).map kV)) nl).trans (same_new (o := .tup ((wkS held).map kV)) nsa)
    have hW2 := hW.mono s2
    have s12 := kb.trans s2
    have hsa : upd (upd H1 l (.lst ((wkS held).map kV))) sa (.tup ((wkS held).map kV)) sa = some (.tup ((wkS held).map kV)) := upd_same
    generalize upd (upd H1 l (.lst ((wkS held).map kV))) sa (.tup ((wkS held).map kV)) = H2 at hW2 s12 hsa
    have fr : ∀ {A B : Hp}, Same H A → (∀ c o, A c = some o → c ≠ lv → c ≠ lh → c ≠ dd → B c = some o) → Same H B := fun sA k c o e => k c o (sA c o e) (ne_of_none e (nn hlv)) (ne_of_none e (nn hlh)) (ne_of_none e (nn hdd))
    have tupk : ∀ {A B : Hp} {vs hs : List Int} {R : Rows}, WAt T.Watcher.C A x lv lh dd 3 vs hs R → (∀ c o, A c = some o → c ≠ lv → c ≠ lh → c ≠ dd → B c = some o) → A sa = some (.tup ((wkS held).map kV)) → B sa = some (.tup ((wkS held).map kV)) := fun hw k e => k _ _ e (fun q => by rw [q, hw.ver] at e; cases e) (fun q => by rw [q, hw.hel] at e; cases e) (fun q => by obtain ⟨kvs, hk, _⟩ := hw.rul; rw [q, hk] at e; cases e)
    refine ⟨.ref x, .ref sa, rfl, fun σ H' => ∃ y, σ = [some (.int (many : Int)), some (.int (held : Int)), some (.int word), some (.bl fst), some (.ref x), some (.ref sa), y] ∧ Same H H' ∧ WAt T.Watcher.C H' x lv lh dd 3 ((wkK many held).map (·.1)) ((wkK many held).map (·.2)) [] ∧ H' sa = some (.tup ((wkS held).map kV)), ?_, ?_⟩
    · clear q
      refine ⟨.int (many : Int), rfl, (many : Int), rfl, by omega, by omega, ?_⟩
      rw [Int.toNat_natCast]
      refine for_range (n := many) (fun i σ H' => ∃ y, σ = [some (.int (many : Int)), some (.int (held : Int)), some (.int word), some (.bl fst), some (.ref x), some (.ref sa), y] ∧ Same H H' ∧ WAt T.Watcher.C H' x lv lh dd 3 ((wkK i held).map (·.1)) ((wkK i held).map (·.2)) [] ∧ H' sa = some (.tup ((wkS held).map kV))) ?_ ?_ ?_
      · exact ⟨none, rfl, s12, hW2, hsa⟩
      · rintro i σ H5 hi ⟨y, rfl, s5, hw5, hsa5⟩
        obtain ⟨dx5, hx5⟩ := hw5.ins
        refine ⟨.ref x, rfl, x, dx5, _, rfl, hx5, rfl, .int (held : Int), rfl, ?_⟩
        dsimp only [L2.tCons, L2.tC, L2.tNil, List.cons_append, List.nil_append]
        refine do_add_state (ks := wkK i held) (a := 0) (b := (held : Int)) hw5 (by rw [wkK_len]; omega) (by decide) (by decide) (by omega) (by omega) fun H6 k6 hw6 => ⟨_, rfl, fr s5 (fun c o e n1 n2 _ => k6 c o e n1 n2), ?_, tupk hw5 (fun c o e n1 n2 _ => k6 c o e n1 n2) hsa5⟩
        have e : wkK i held ++ [(0, (held : Int))] = wkK (i + 1) held := by
          unfold wkK
          rw [List.cons_append, List.replicate_succ']
        rw [← e]
        exact hw6
      · rintro σ H5 ⟨y, rfl, s5, hw5, hsa5⟩
        exact ⟨y, rfl, s5, hw5, hsa5⟩
    rintro σ H3 ⟨y, rfl, s3, hw3, hsa3⟩
    refine ⟨fun σ H' => ∃ y, σ = [some (.int (many : Int)), some (.int (held : Int)), some (.int word), some (.bl fst), some (.ref x), some (.ref sa), y] ∧ Same H H' ∧ WAt T.Watcher.C H' x lv lh dd 3 ((wkK many held).map (·.1)) ((wkK many held).map (·.2)) (rowsOf (wkR many held word fst many)), ?_, ?_⟩
    · clear q
      refine ⟨.int (many : Int), rfl, _, _, rfl, rfl, 1, (many : Int) + 1, rfl, ⟨by omega, by omega, by omega, by omega⟩, ?_⟩
      rw [show ((many : Int) + 1 - 1).toNat = many by omega]
      refine for_range (n := many) (fun i σ H' => ∃ y, σ = [some (.int (many : Int)), some (.int (held : Int)), some (.int word), some (.bl fst), some (.ref x), some (.ref sa), y] ∧ Same H H' ∧ WAt T.Watcher.C H' x lv lh dd 3 ((wkK many held).map (·.1)) ((wkK many held).map (·.2)) (rowsOf (wkR many held word fst i)) ∧ H' sa = some (.tup ((wkS held).map kV))) ?_ ?_ ?_
      · exact ⟨y, rfl, s3, hw3, hsa3⟩
      · rintro i σ H5 hi ⟨y, rfl, s5, hw5, hsa5⟩
        obtain ⟨dx5, hx5⟩ := hw5.ins
        rw [show (1 : Int) + (i : Int) = (i : Int) + 1 by omega]
        have m0 : (0 : Int) < many := by omega
        have lR : (rowsOf (wkR many held word fst i)).length < 900 := by
          have := wkR_len many held word fst i
          unfold rowsOf
          rw [List.length_map]
          omega
        refine ⟨.ref x, rfl, x, dx5, _, rfl, hx5, rfl, .int ((i : Int) + 1), rfl, .int word, rfl, .int ((i : Int) + 1), rfl, .int (many : Int), rfl, _, _, rfl, rfl, m0, _, _, rfl, rfl, .ref sa, rfl, ?_⟩
        dsimp only [L2.tCons, L2.tC, L2.tNil, List.cons_append, List.nil_append]
        refine do_add_rule (ks := wkK many held) (t := .inr "new") (v := (((i : Int) + 1) % (many : Int) + 1, wkS held)) hw5 (wkK_ok h3 m5) (wk_ruleA hi w0 (by omega)) (fun z => ?_) (by omega) hsa5 fun H6 k6 hw6 => ?_
        · rw [rowsOf_keys] at z
          obtain ⟨j, hj, e | e⟩ := wk_keys z
          · have := Sum.inl.inj (List.cons.inj e).1
            omega
          · have := Sum.inl.inj (List.cons.inj e).1
            omega
        have s6 := fr s5 (fun c o e _ _ n => k6 c o e n)
        have hsa6 := tupk hw5 (fun c o e _ _ n => k6 c o e n) hsa5
        refine ⟨.bl fst, rfl, fst, rfl, ?_⟩
        cases fst with
        | false =>
          refine iteF ⟨_, rfl, s6, ?_, hsa6⟩
          have e : wkR many held word false (i + 1) = wkR many held word false i ++ [([Sum.inl ((i : Int) + 1), Sum.inl word, Sum.inr ("new" : Str)], (((i : Int) + 1) % (many : Int) + 1, wkS held))] := by
            rw [wkR_succ]
            rfl
          rw [e, rowsOf_snoc]
          exact hw6
        | true =>
          refine iteT ?_
          obtain ⟨dx6, hx6⟩ := hw6.ins
          refine ⟨.ref x, rfl, x, dx6, _, rfl, hx6, rfl, .int ((i : Int) + 1), rfl, .int ((i : Int) + 1), rfl, by show 1 ≤ sizeLine; decide, fun m nm => ?_⟩
          have s7 := same_new (o := .tup [.str "value"]) nm
          have hsa7 := s7 _ _ hsa6
          refine ⟨.ref sa, rfl, 1, rfl, -1, rfl, (wkS held).map kD, .tup hsa7 TDs.keys, fun c1 H8 s8 hc1 => ?_⟩
          have ec : cutA ((wkS held).map kD) none (some (-1)) = (wkS (held - 1)).map kD := by
            rcases (by omega : held = 1 ∨ held = 2 ∨ held = 3) with rfl | rfl | rfl <;> rfl
          rw [ec] at hc1
          refine ⟨[.str "value"], (wkS (held - 1)).map kD, .tup (s8 _ _ upd_same) (.cons (.str _) .nil), hc1, ?_, fun c2 H9 s9 hc2 => ?_⟩
          · rw [List.length_map, wkS_len, List.length_singleton]
            omega
          obtain ⟨c3, zs, ez, hc3, hzs⟩ := hc2.isTup
          obtain rfl := V.ref.inj ez
          have hzs2 : TDs H9 zs (((Sum.inr ("value" : Str) : Key) :: wkS (held - 1)).map kD) := hzs
          rw [hzs2.unkeys] at hc3
          have s79 := (s7.trans s8).trans s9
          have hw9 := hw6.mono s79
          dsimp only [L2.tCons, L2.tC, L2.tNil, List.cons_append, List.nil_append]
          refine do_add_rule (ks := wkK many held) (t := .inr "new") (v := ((i : Int) + 1, (Sum.inr ("value" : Str) : Key) :: wkS (held - 1))) hw9 (wkK_ok h3 m5) (wk_ruleB hi h1) (fun z => ?_) ?_ hc3 fun H10 k10 hw10 => ⟨_, rfl, fr (s6.trans s79) (fun c o e _ _ n => k10 c o e n), ?_, tupk hw9 (fun c o e _ _ n => k10 c o e n) (s79 _ _ hsa6)⟩
          · rw [List.map_append, rowsOf_keys] at z
            rcases List.mem_append.mp z with z | z
            · obtain ⟨j, hj, e | e⟩ := wk_keys z
              · have := Sum.inl.inj (List.cons.inj e).1
                omega
              · have := Sum.inl.inj (List.cons.inj e).1
                omega
            · have e := List.mem_singleton.mp z
              have := Sum.inl.inj (List.cons.inj (List.cons.inj e).2).1
              omega
          · rw [List.length_append, List.length_singleton]
            omega
          · have e : wkR many held word true (i + 1) = (wkR many held word true i ++ [([Sum.inl ((i : Int) + 1), Sum.inl word, Sum.inr ("new" : Str)], (((i : Int) + 1) % (many : Int) + 1, wkS held))]) ++ [([Sum.inl ((i : Int) + 1), Sum.inl 2, Sum.inr ("new" : Str)], ((i : Int) + 1, (Sum.inr ("value" : Str) : Key) :: wkS (held - 1)))] := by
              rw [wkR_succ, List.append_assoc]
              rfl
            rw [e, rowsOf_snoc, rowsOf_snoc]
            exact hw10
      · rintro σ H5 ⟨y, rfl, s5, hw5, _⟩
        exact ⟨y, rfl, s5, hw5⟩
    rintro σ H4 ⟨y, rfl, s4, hw4⟩
    exact ⟨.ref x, rfl, q ⟨x, lv, lh, dd⟩ H4 s4 ⟨hw4, wkP_ok h1 h3 m1 m5 w0 w2⟩⟩
end

theorem dec_intP {i j : Int} : decide (V.int i = V.int j) = decide (i = j) := by
  rw [Bool.eq_iff_iff]
  simp
theorem cutV_tail (x : V) (xs : List V) : cutV (x :: xs) (some 1) none = xs := by
  unfold cutV
  have e1 : HT.sIx (x :: xs).length 0 (some 1) = 1 := by
    simp only [HT.sIx]
    rw [if_neg (by decide), List.length_cons]
    show min 1 (xs.length + 1) = 1
    omega
  have e2 : HT.sIx (x :: xs).length (x :: xs).length none = (x :: xs).length := rfl
  show (((x :: xs).drop (HT.sIx (x :: xs).length 0 (some 1))).take (HT.sIx (x :: xs).length (x :: xs).length none - HT.sIx (x :: xs).length 0 (some 1))) = xs
  rw [e1, e2, List.drop_succ_cons, List.drop_zero, List.length_cons, Nat.add_sub_cancel, List.take_length]
theorem waysM_in : ∀ {ls rs : List Int} {p : List (Int × Int)}, p ∈ waysM ls rs → p.length ≤ ls.length
  | [], _, p, h => by
    rw [List.mem_singleton.mp h]
    exact Nat.le_refl _
  | l :: ls, rs, p, h => by
    rcases List.mem_append.mp h with h | h
    · exact Nat.le_succ_of_le (waysM_in h)
    · obtain ⟨r, _, h⟩ := List.mem_flatMap.mp h
      obtain ⟨q, hq, rfl⟩ := List.mem_map.mp h
      exact Nat.succ_le_succ (waysM_in hq)
def spWays : Nat → Sp
  | 0 => fun _ _ _ _ => False
  | n + 1 => sp_law_ways n
section
variable {P : Program} {w : World} {K : PySem.W.Frag} {mg : Str → Option Value} {base : Heap}
abbrev N_law_ways : List Str := ["lefts", "rights", "found", "right", "rest", "other", "pairs"]
theorem sc_law_ways : FnScope N_law_ways ["lefts", "rights"] (defScope s_law_ways) := ⟨rfl, rfl, rfl, by decide +kernel, rfl, by decide +kernel, by decide +kernel⟩
theorem G_law_ways (T : Tx K mg) : ∀ n : Nat, FnG P w K mg base CX0 n T.law_ways.f T.law_ways.fd ["lefts", "rights"] (spWays n)
  | 0 => ⟨fun _ _ _ _ h => h.elim, fun _ _ _ _ _ _ _ _ _ _ _ _ _ _ h => h.elim⟩
  | n + 1 => by
    have ih := G_law_ways T n
    refine okG T.law_ways.F sc_law_ways (fun vs H Q E h => ?_) (fun cdv A outer s H vs Q E gd hr h => ?_)
    · obtain ⟨l, r, ls, rs, rfl, _⟩ := h
      rfl
    · obtain ⟨l, r, ls, rs, rfl, hl, hrr, hn, l3, r3, q⟩ := h
      refine ⟨_, 
      (pss_cons (ps_if (pt_cmpR (op_eqL0 hr.units) (pv 0) (pe_lst pa_nil) (nomark _)) 
        (pss_one (ps_ret (pe_lst (pa_cons (pe_tup pa_nil) pa_nil)))) -- return [()]
         pss_nil) -- if lefts == []:
      (pss_cons (ps_set (i := 2) sc_law_ways.nd rfl (.inl rfl) (pe_callG ih gd (hr.mono (Nat.le_refl _)) rfl T.law_ways.g T.law_ways.F.kp T.law_ways.b .nil pass0 (pa_cons (pe_slice sl_list (pv 0) (po_some pe_int) po_none) (pa_cons (pv 1) pa_nil)))) -- found = _law_ways(lefts[1:], rights)
      (C8.pss_cut (ps_for PassesOwn.never rfl (pi_list (pv 1)) (pg_name (i := 3) sc_law_ways.nd rfl (.inr rfl)) 
        (C8.pss_cut (ps_setLc (i := 4) (own := [("other", 5)]) (g := gName 5) rfl sc_law_ways.nd rfl rfl (by rfl) (pi_list (pv 1)) (blkOk_by (N := N_law_ways) (sc := defScope s_law_ways) (by decide +kernel)) (fun _ _ _ _ _ => (pg_name (i := 5) sc_law_ways.nd rfl (.inl rfl))) (fun _ _ _ _ _ => (pts_one (pt_cmpR op_ne (pv 5) (pv 3) (nomark _)))) (fun _ _ _ _ _ => (pv 5))) -- rest = [other for other in rights if other != right]
        (pss_one (ps_set (i := 2) sc_law_ways.nd rfl (.inl rfl) (pe_op op_cat (pv 2) (pe_lc (own := [("pairs", 6)]) (g := gName 6) rfl sc_law_ways.nd (pi_list (pe_callG ih gd (hr.mono (Nat.le_refl _)) rfl T.law_ways.g T.law_ways.F.kp T.law_ways.b .nil pass0 (pa_cons (pe_slice sl_list (pv 0) (po_some pe_int) po_none) (pa_cons (pv 4) pa_nil)))) (blkOk_by (N := N_law_ways) (sc := defScope s_law_ways) (by decide +kernel)) (fun _ _ _ _ _ => (pg_name (i := 6) sc_law_ways.nd rfl (.inl rfl))) (fun _ _ _ _ _ => pts_nil) (fun _ _ _ _ _ => (pe_op op_catD (pe_tup (pa_cons (pe_tup (pa_cons (pe_ix (r := rIxL K) ix_list (pv 0) pe_int (fun _ _ => rfl)) (pa_cons (pv 3) pa_nil))) pa_nil)) (pv 6))))))) -- found = found + [((lefts[0], right),) + pairs for pairs in _law_ways(lefts[1:], rest)]
        )) -- for right in rights:
      (pss_one (ps_ret (pv 2))) -- return found
      ))) , ?_⟩
      have L5 : 4000000 ≤ sizeLine := by decide
      refine ⟨.ref l, rfl, by show 0 ≤ sizeLine; decide, fun e0 ne0 => ⟨l, e0, _, rfl, rfl, same_new ne0 _ _ hl, upd_same, ?_⟩⟩
      have s1 := same_new (o := .lst []) ne0
      cases ls with
      | nil =>
        refine ⟨true, rfl, iteT ?_⟩
        refine ⟨by show 0 ≤ sizeLine; decide, fun t0 nt0 => ⟨by show 1 ≤ sizeLine; decide, fun f nf => ?_⟩⟩
        have s2 := same_new (o := .tup []) nt0
        have s3 := same_new (o := .lst [.ref t0]) nf
        have nfH : H f = none := by
          cases e : H f with
          | none => rfl
          | some o => rw [(s1.trans s2) _ _ e] at nf; cases nf
        exact q f _ _ ((s1.trans s2).trans s3) nfH upd_same (.cons (.tup (s3 _ _ upd_same) .nil) .nil)
      | cons l0 ls =>
        refine ⟨false, rfl, iteF ?_⟩
        cases n with
        | zero => cases hn
        | succ n =>
          have hn' : ls.length ≤ n := by
            have := hn
            rw [List.length_cons] at this
            omega
          have l3' : ls.length ≤ 3 := by
            have := l3
            rw [List.length_cons] at this
            omega
          have hl1 := s1 _ _ hl
          have hr1 := s1 _ _ hrr
          refine ⟨.ref l, rfl, 1, rfl, l, _, rfl, SqL.of hl1, fun l1 nl1 => ?_⟩
          have ecut : cutV ((l0 :: ls).map V.int) (some 1) none = ls.map V.int := cutV_tail _ _
          rw [ecut]
          have s2 := same_new (o := .lst (ls.map V.int)) nl1
          refine ⟨.ref r, rfl, l1, r, ls, rs, rfl, upd_same, s2 _ _ hr1, hn', l3', r3, fun f0 x0 H2 s3 nf0 hf0 hx0 => ?_⟩
          have sH2 := (s1.trans s2).trans s3
          have nf0H : H f0 = none := by
            cases e : H f0 with
            | none => rfl
            | some o => rw [(s1.trans s2) _ _ e] at nf0; cases nf0
          refine ⟨fun σ H' => ∃ f y3 y4 xs, σ = [some (.ref l), some (.ref r), some (.ref f), y3, y4, none, none] ∧ Same H H' ∧ H f = none ∧ H' f = some (.lst xs) ∧ TDs H' xs ((waysM (l0 :: ls) rs).map pairsD), ?_, ?_⟩
          · clear q
            refine ⟨.ref r, rfl, r, rfl, ⟨_, SqL.of (sH2 _ _ hrr)⟩, ?_⟩
            refine for_list (xs := rs.map V.int) (fun i σ H' => ∃ f y3 y4 xs, σ = [some (.ref l), some (.ref r), some (.ref f), y3, y4, none, none] ∧ Same H H' ∧ H f = none ∧ H' f = some (.lst xs) ∧ TDs H' xs ((waysM ls rs ++ (rs.take i).flatMap fun r => (waysM ls (rs.filter fun x => decide (x ≠ r))).map fun p => (l0, r) :: p).map pairsD)) ?_ ?_ ?_ ?_
            · refine ⟨f0, none, none, x0, rfl, sH2, nf0H, hf0, ?_⟩
              rw [List.take_zero, List.flatMap_nil, List.append_nil]
              exact hx0
            · rintro i σ H' _ ⟨f, y3, y4, xs, rfl, s4, _⟩
              exact SqL.of (s4 _ _ hrr)
            · rintro i xv σ H4 hxv ⟨f, y3, y4, xs, rfl, s4, nf, hf, hx⟩
              rw [List.getElem?_map] at hxv
              obtain ⟨ri, hri, rfl⟩ := Option.map_eq_some_iff.mp hxv
              refine ⟨fun σ H' => ∃ rr, σ = [some (.ref l), some (.ref r), some (.ref f), some (.int ri), some (.ref rr), none, none] ∧ Same H4 H' ∧ H' rr = some (.lst ((rs.filter fun x => decide (x ≠ ri)).map V.int)), ?_, ?_⟩
              · refine ⟨.ref r, rfl, r, rfl, ⟨_, SqL.of (s4 _ _ hrr)⟩, fun D nD => ?_⟩
                refine lc_list (xs := rs.map V.int) (fun j H' => Same H4 H' ∧ H' D = some (.lst (((rs.take j).filter fun x => decide (x ≠ ri)).map V.int))) ?_ ?_ ?_ ?_
                · exact ⟨same_at (Same.refl _) nD, upd_same⟩
                · exact fun j H' _ h => SqL.of (h.1 _ _ (s4 _ _ hrr))
                · rintro j v H5 hv ⟨s5, hD⟩
                  rw [List.getElem?_map] at hv
                  obtain ⟨vi, hvi, rfl⟩ := Option.map_eq_some_iff.mp hv
                  have el : (rs.take (j + 1)).filter (fun x => decide (x ≠ ri)) = (rs.take j).filter (fun x => decide (x ≠ ri)) ++ (if vi = ri then [] else [vi]) := by
                    rw [List.take_add_one, hvi, Option.toList_some, List.filter_append]
                    congr 1
                    by_cases e : vi = ri <;> simp [e]
                  refine ⟨rfl, .int vi, rfl, .int ri, rfl, rfl, !decide (vi = ri), congrArg V.bl (congrArg (!·) dec_intP), ?_⟩
                  by_cases e : vi = ri
                  · rw [decide_eq_true e]
                    refine iteF ⟨s5, ?_⟩
                    rw [el, if_pos e, List.append_nil]
                    exact hD
                  · rw [decide_eq_false e]
                    refine iteT ⟨.int vi, rfl, _, hD, ?_, same_at s5 nD, ?_⟩
                    · rw [List.length_map]
                      have := List.length_filter_le (fun x => decide (x ≠ ri)) (rs.take j)
                      rw [List.length_take] at this
                      omega
                    · rw [upd_same, el, if_neg e, List.map_append]
                      rfl
                · rintro H5 ⟨s5, hD⟩
                  rw [List.length_map, List.take_length] at hD
                  exact ⟨D, rfl, s5, hD⟩
              rintro σ H5 ⟨rr, rfl, s5, hrr5⟩
              have hl5 := s5 _ _ (s4 _ _ hl)
              refine ⟨.ref f, rfl, .ref l, rfl, 1, rfl, l, _, rfl, SqL.of hl5, fun l2 nl2 => ?_⟩
              rw [ecut]
              have s6 := same_new (o := .lst (ls.map V.int)) nl2
              refine ⟨.ref rr, rfl, l2, rr, ls, rs.filter fun x => decide (x ≠ ri), rfl, upd_same, s6 _ _ hrr5, hn', l3', Nat.le_trans (List.length_filter_le _ _) r3, fun g ys H6 s7 ng hg hy => ?_⟩
              have lys : ys.length = (waysM ls (rs.filter fun x => decide (x ≠ ri))).length := by
                have := hy.len
                rwa [List.length_map] at this
              have l64 : (waysM ls (rs.filter fun x => decide (x ≠ ri))).length ≤ 64 := by
                have h1 := waysM_len ls (rs := rs.filter fun x => decide (x ≠ ri)) (k := 3) (Nat.le_trans (List.length_filter_le _ _) r3)
                have h2 : (1 + 3) ^ ls.length ≤ (1 + 3) ^ 3 := Nat.pow_le_pow_right (by decide) l3'
                have h3 : (1 + 3) ^ 3 = 64 := by decide
                omega
              have hl6 := (s6.trans s7) _ _ hl5
              refine ⟨g, rfl, ⟨ys, SqL.of hg⟩, fun D nD => ?_⟩
              refine lc_list (xs := ys) (fun j H' => Same H6 H' ∧ ∃ zs, H' D = some (.lst zs) ∧ TDs H' zs ((((waysM ls (rs.filter fun x => decide (x ≠ ri))).take j).map fun p => (l0, ri) :: p).map pairsD)) ?_ ?_ ?_ ?_
              · exact ⟨same_at (Same.refl _) nD, [], upd_same, .nil⟩
              · exact fun j H' _ h => SqL.of (h.1 _ _ hg)
              · rintro j pv H7 hpv ⟨s8, zs, hD, hz⟩
                have hj : j < (waysM ls (rs.filter fun x => decide (x ≠ ri))).length := by
                  have := (List.getElem?_eq_some_iff.mp hpv).1
                  omega
                obtain ⟨d, hd, hvd⟩ := hy.get hpv
                rw [List.getElem?_map, List.getElem?_eq_getElem hj] at hd
                obtain rfl := (Option.some.inj hd)
                have lp := waysM_in (List.getElem_mem hj)
                refine ⟨rfl, .ref l, rfl, l, _, 0, .int l0, rfl, rfl, SqL.of (s8 _ _ hl6), atI_nat (j := 0) rfl, .int ri, rfl, by show 2 ≤ sizeLine; decide, fun m1 nm1 => ⟨by show 1 ≤ sizeLine; decide, fun m2 nm2 => ?_⟩⟩
                have s9 := same_new (o := .tup [.int l0, .int ri]) nm1
                have s10 := same_new (o := .tup [.ref m1]) nm2
                refine ⟨pv, rfl, [pairD (l0, ri)], ((waysM ls (rs.filter fun x => decide (x ≠ ri)))[j]).map pairD, .tup upd_same (.cons (.tup (s10 _ _ upd_same) (.cons (.int _) (.cons (.int _) .nil))) .nil), TD.mono (Tups.same ((s8.trans s9).trans s10)) _ hvd, ?_, fun m3 H8 s11 hm3 => ?_⟩
                · rw [List.length_singleton, List.length_map]
                  omega
                have s911 := (s9.trans s10).trans s11
                have hD8 := s911 _ _ hD
                have tpD := Tups.lst (o := .lst (zs ++ [.ref m3])) hD8
                refine ⟨zs, hD8, ?_, same_at (s8.trans s911) nD, _, upd_same, ?_⟩
                · have := hz.len
                  rw [List.length_map, List.length_map, List.length_take] at this
                  omega
                · rw [List.take_add_one, List.getElem?_eq_getElem hj, Option.toList_some, List.map_append, List.map_append]
                  exact tds_snoc ((hz.mono (Tups.same s911)).mono tpD) (TD.mono tpD _ hm3)
              · rintro H7 ⟨s8, zs, hD, hz⟩
                rw [lys, List.take_length] at hz
                have hf7 := ((((s5.trans s6).trans s7).trans s8)) _ _ hf
                have s4x := (((s4.trans s5).trans s6).trans s7).trans s8
                have hx7 := hx.mono (Tups.same (((s5.trans s6).trans s7).trans s8))
                refine ⟨f, D, xs, zs, rfl, rfl, hf7, hD, ?_, fun p np => ?_⟩
                · have e1 := hx.len
                  have e2 := hz.len
                  rw [List.length_map] at e1
                  rw [List.length_map, List.length_map] at e2
                  have h1 := waysM_len (l0 :: ls) (rs := rs) (k := 3) r3
                  have h2 : (1 + 3) ^ (l0 :: ls).length ≤ (1 + 3) ^ 3 := Nat.pow_le_pow_right (by decide) l3
                  have h3 : (1 + 3) ^ 3 = 64 := by decide
                  have h4 : (waysM ls rs ++ (rs.take i).flatMap fun r => (waysM ls (rs.filter fun x => decide (x ≠ r))).map fun p => (l0, r) :: p).length ≤ (waysM (l0 :: ls) rs).length := by
                    show _ ≤ (waysM ls rs ++ rs.flatMap fun r => (waysM ls (rs.filter fun x => decide (x ≠ r))).map fun p => (l0, r) :: p).length
                    rw [List.length_append, List.length_append]
                    have : (rs.take i ++ rs.drop i) = rs := List.take_append_drop i rs
                    have h5 : (rs.flatMap fun r => (waysM ls (rs.filter fun x => decide (x ≠ r))).map fun p => (l0, r) :: p).length = ((rs.take i ++ rs.drop i).flatMap fun r => (waysM ls (rs.filter fun x => decide (x ≠ r))).map fun p => (l0, r) :: p).length := by rw [this]
                    rw [h5, List.flatMap_append, List.length_append]
                    omega
                  omega
                have s12 := same_new (o := .lst (xs ++ zs)) np
                have npH : H p = none := by
                  cases e : H p with
                  | none => rfl
                  | some o => rw [s4x _ _ e] at np; cases np
                refine ⟨p, _, _, xs ++ zs, rfl, s4x.trans s12, npH, upd_same, ?_⟩
                rw [List.take_add_one, hri, Option.toList_some, List.flatMap_append, List.flatMap_singleton, ← List.append_assoc, List.map_append]
                exact (hx7.mono (Tups.same s12)).app (hz.mono (Tups.same s12))
            · rintro σ H4 ⟨f, y3, y4, xs, rfl, s4, nf, hf, hx⟩
              rw [List.length_map, List.take_length] at hx
              exact ⟨f, _, _, xs, rfl, s4, nf, hf, hx⟩
          rintro σ H3 ⟨f, y3, y4, xs, rfl, s4, nf, hf, hx⟩
          exact ⟨.ref f, rfl, q f xs H3 s4 nf hf hx⟩
end

/-! ### what the law's watchers reach -/
def ways (held : Nat) : List (List (Int × Int)) := waysM (firstM held) (firstM held)
def dueM (many held : Nat) : List Sit := (List.range many).flatMap fun p : Nat => (List.range many).flatMap fun q : Nat => (waysM (firstM held) (firstM held)).map fun ps => ((p : Int) + 1, (q : Int) + 1, ps)
theorem mem_due {many held : Nat} {s : Sit} : s ∈ dueM many held ↔ ∃ i j : Nat, ∃ ps, i < many ∧ j < many ∧ ps ∈ ways held ∧ s = ((i : Int) + 1, (j : Int) + 1, ps) := by
  unfold dueM
  constructor
  · intro h
    obtain ⟨i, hi, h⟩ := List.mem_flatMap.mp h
    obtain ⟨j, hj, h⟩ := List.mem_flatMap.mp h
    obtain ⟨ps, hps, rfl⟩ := List.mem_map.mp h
    exact ⟨i, j, ps, List.mem_range.mp hi, List.mem_range.mp hj, hps, rfl⟩
  · rintro ⟨i, j, ps, hi, hj, hps, rfl⟩
    exact List.mem_flatMap.mpr ⟨i, List.mem_range.mpr hi, List.mem_flatMap.mpr ⟨j, List.mem_range.mpr hj, List.mem_map.mpr ⟨ps, hps, rfl⟩⟩⟩
theorem three {held : Nat} (h1 : 1 ≤ held) (h3 : held ≤ 3) : held = 1 ∨ held = 2 ∨ held = 3 := by omega
theorem mem_wkR {many held : Nat} {word : Int} {fst : Bool} {n : Nat} {k : List Key} {v : Int × List Key} (h : (k, v) ∈ wkR many held word fst n) : ∃ j : Nat, j < n ∧ ((k = [Sum.inl ((j : Int) + 1), Sum.inl word, Sum.inr ("new" : Str)] ∧ v = (((j : Int) + 1) % (many : Int) + 1, wkS held)) ∨ (fst = true ∧ k = [Sum.inl ((j : Int) + 1), Sum.inl 2, Sum.inr ("new" : Str)] ∧ v = ((j : Int) + 1, (Sum.inr ("value" : Str) : Key) :: wkS (held - 1)))) := by
  obtain ⟨j, hj, hr⟩ := List.mem_flatMap.mp h
  refine ⟨j, List.mem_range.mp hj, ?_⟩
  rcases List.mem_cons.mp hr with e | hr
  · exact .inl ⟨congrArg Prod.fst e, congrArg Prod.snd e⟩
  · cases fst with
    | false => cases hr
    | true =>
      have hr : (k, v) ∈ [([Sum.inl ((j : Int) + 1), Sum.inl 2, Sum.inr ("new" : Str)], ((j : Int) + 1, (Sum.inr ("value" : Str) : Key) :: wkS (held - 1)))] := hr
      have e := List.mem_singleton.mp hr
      exact .inr ⟨rfl, congrArg Prod.fst e, congrArg Prod.snd e⟩
theorem wkR_a {many held : Nat} {word : Int} {fst : Bool} {n j : Nat} (h : j < n) : ([Sum.inl ((j : Int) + 1), Sum.inl word, Sum.inr ("new" : Str)], (((j : Int) + 1) % (many : Int) + 1, wkS held)) ∈ wkR many held word fst n := List.mem_flatMap.mpr ⟨j, List.mem_range.mpr h, List.mem_cons_self⟩
theorem wkR_b {many held : Nat} {word : Int} {n j : Nat} (h : j < n) : ([Sum.inl ((j : Int) + 1), Sum.inl 2, Sum.inr ("new" : Str)], ((j : Int) + 1, (Sum.inr ("value" : Str) : Key) :: wkS (held - 1))) ∈ wkR many held word true n := List.mem_flatMap.mpr ⟨j, List.mem_range.mpr h, List.mem_cons_of_mem _ (List.mem_singleton.mpr rfl)⟩
theorem carry_S {f : List Int} {v : Int} {n : Nat} (h : n ≤ f.length) : carryK (wkS n) f v = f.take n := by
  unfold carryK wkS
  rw [List.map_map]
  apply List.ext_getElem
  · simp [h]
  · intro i h1 h2
    have hi : i < f.length := by
      rw [List.length_map, List.length_range] at h1
      omega
    simp [srcV, hi]
def wkStep (many held : Nat) (word : Int) (fst : Bool) (i : Nat) (f : List Int) (w v : Int) : Int × List Int :=
  if v ∈ f then ((i : Int) + 1, f) else if w = word then (((i : Int) + 1) % (many : Int) + 1, f) else if fst = true ∧ w = 2 then ((i : Int) + 1, v :: f.take (held - 1)) else ((i : Int) + 1, f)
theorem wk_step {many held : Nat} {word : Int} {fst : Bool} {i : Nat} {f : List Int} {w v : Int} (hi : i < many) (hf : f.length = held) (hw : word < 2) : stepM (wkP many held word fst).rules ((i : Int) + 1, f) (w, v) = wkStep many held word fst i f w v := by
  show stepM (wkR many held word fst many) ((i : Int) + 1, f) (w, v) = _
  unfold stepM wkStep
  dsimp only
  by_cases hv : v ∈ f
  · rw [if_pos hv]
    have et : testV f v = Sum.inl ((f.idxOf v : Nat) : Int) := by unfold testV; rw [if_pos hv]
    rw [et]
    cases e : lookP (wkR many held word fst many) [Sum.inl ((i : Int) + 1), Sum.inl w, Sum.inl ((f.idxOf v : Nat) : Int)] with
    | none => rfl
    | some r =>
      obtain ⟨j, _, ⟨h, _⟩ | ⟨_, h, _⟩⟩ := mem_wkR (lookP_some e).1 <;> (injection h with _ h; injection h with _ h; injection h with h _; cases h)
  · rw [if_neg hv]
    have et : testV f v = Sum.inr ("new" : Str) := by unfold testV; rw [if_neg hv]
    rw [et]
    cases e : lookP (wkR many held word fst many) [Sum.inl ((i : Int) + 1), Sum.inl w, Sum.inr ("new" : Str)] with
    | none =>
      have no := lookP_none e
      rw [rowsOf_keys] at no
      by_cases h1 : w = word
      · subst h1
        exact absurd (List.mem_map.mpr ⟨_, wkR_a hi, rfl⟩) no
      · rw [if_neg h1]
        by_cases h2 : fst = true ∧ w = 2
        · obtain ⟨rfl, rfl⟩ := h2
          exact absurd (List.mem_map.mpr ⟨_, wkR_b hi, rfl⟩) no
        · rw [if_neg h2]
    | some r =>
      obtain ⟨j, _, ⟨h, hr⟩ | ⟨hF, h, hr⟩⟩ := mem_wkR (lookP_some e).1
      · injection h with h1 h
        injection h with h2 _
        have e1 := Sum.inl.inj h1
        have e2 := Sum.inl.inj h2
        have ej : j = i := by omega
        subst ej hr
        rw [if_pos e2]
        show (_, carryK (wkS held) f v) = _
        rw [carry_S (by omega), ← hf, List.take_length]
      · injection h with h1 h
        injection h with h2 _
        have e1 := Sum.inl.inj h1
        have e2 := Sum.inl.inj h2
        have ej : j = i := by omega
        subst ej hr
        rw [if_neg (by omega), if_pos ⟨hF, e2⟩]
        show (_, v :: carryK (wkS (held - 1)) f v) = _
        rw [carry_S (by omega)]
def gM (held : Nat) (ps : List (Int × Int)) : List Int := secondM ps held held
/-- the pairs behind a message -/
def newPs (held : Nat) (ps : List (Int × Int)) (w : Int) (c : Cs) : List (Int × Int) :=
  eqM (if valueM c (firstM held) (gM held ps) ∈ firstM held then firstM held else if w = 0 then firstM held else if w = 2 then valueM c (firstM held) (gM held ps) :: (firstM held).take (held - 1) else firstM held) (gM held ps)
theorem wk_heldM {many held : Nat} {i j : Nat} {ps : List (Int × Int)} (hi : i < many) (hj : j < many) : heldM (wkP many held 0 true) (wkP many held 1 false) ((i : Int) + 1, (j : Int) + 1, ps) = (firstM held, gM held ps) := by
  unfold heldM gM
  show (firstM (heldAt (wkK many held) ((i : Int) + 1)), secondM ps (heldAt (wkK many held) ((i : Int) + 1)) (heldAt (wkK many held) ((j : Int) + 1))) = _
  rw [wk_held (by omega) (by omega), wk_held (by omega) (by omega)]
theorem gM_len (held : Nat) (ps : List (Int × Int)) : (gM held ps).length = held := by
  unfold gM secondM
  rw [secF_len, Int.toNat_natCast]
theorem wk_after {many held : Nat} {i j : Nat} {ps : List (Int × Int)} {w : Int} {c : Cs} (hi : i < many) (hj : j < many) : afterM (wkP many held 0 true) (wkP many held 1 false) ((i : Int) + 1, (j : Int) + 1, ps) (firstM held) (gM held ps) w c =
    ((wkStep many held 0 true i (firstM held) w (valueM c (firstM held) (gM held ps))).1, (wkStep many held 1 false j (gM held ps) w (valueM c (firstM held) (gM held ps))).1, newPs held ps w c) := by
  unfold afterM
  dsimp only
  rw [wk_step hi (by rw [firstM_len, Int.toNat_natCast]) (by decide), wk_step hj (gM_len held ps) (by decide)]
  have e1 : (wkStep many held 0 true i (firstM held) w (valueM c (firstM held) (gM held ps))).2 = (if valueM c (firstM held) (gM held ps) ∈ firstM held then firstM held else if w = 0 then firstM held else if w = 2 then valueM c (firstM held) (gM held ps) :: (firstM held).take (held - 1) else firstM held) := by
    unfold wkStep
    by_cases h1 : valueM c (firstM held) (gM held ps) ∈ firstM held
    · rw [if_pos h1, if_pos h1]
    · rw [if_neg h1, if_neg h1]
      by_cases h2 : w = 0
      · rw [if_pos h2, if_pos h2]
      · rw [if_neg h2, if_neg h2]
        by_cases h3 : w = 2
        · rw [if_pos ⟨rfl, h3⟩, if_pos h3]
        · rw [if_neg (fun z => h3 z.2), if_neg h3]
  have e2 : (wkStep many held 1 false j (gM held ps) w (valueM c (firstM held) (gM held ps))).2 = gM held ps := by
    unfold wkStep
    split
    · rfl
    · split
      · rfl
      · rw [if_neg (fun z => by cases z.1)]
  rw [e1, e2]
  rfl
def chkA (held : Nat) : Bool := (ways held).all fun ps => [0, 1, 2].all fun w => (casesM (firstM held) (gM held ps)).all fun c => decide (newPs held ps w c ∈ ways held)
theorem chkA_ok {held : Nat} (h1 : 1 ≤ held) (h3 : held ≤ 3) : chkA held = true := by
  rcases three h1 h3 with rfl | rfl | rfl <;> decide +kernel
def chkE (held : Nat) : Bool := (ways held).all fun ps => decide (eqM (firstM held) (gM held ps) = ps)
theorem chkE_ok {held : Nat} (h1 : 1 ≤ held) (h3 : held ≤ 3) : chkE held = true := by
  rcases three h1 h3 with rfl | rfl | rfl <;> decide +kernel
theorem ways_nil {held : Nat} (h1 : 1 ≤ held) (h3 : held ≤ 3) : [] ∈ ways held := by
  rcases three h1 h3 with rfl | rfl | rfl <;> decide +kernel
theorem ways_nd {held : Nat} (h3 : held ≤ 3) : (ways held).Nodup := by
  rcases (by omega : held = 0 ∨ held = 1 ∨ held = 2 ∨ held = 3) with rfl | rfl | rfl | rfl <;> decide +kernel
/-- pairs that words 2 lead to, by the numbers of a former one and of its case -/
def codes : Nat → List (Nat × Nat)
  | 1 => [(0, 1)]
  | 2 => [(0, 2), (0, 3), (1, 2), (1, 3), (2, 2), (2, 3)]
  | _ => [(0, 3), (0, 4), (0, 5), (1, 3), (1, 4), (1, 5), (2, 3), (2, 4), (2, 5), (3, 3), (3, 4), (3, 5), (4, 3), (4, 4), (5, 3), (5, 4), (6, 3), (6, 4), (6, 5), (7, 3), (7, 4), (8, 3), (8, 4), (9, 3), (9, 4), (9, 5), (10, 3), (10, 4), (11, 3), (11, 4), (12, 3), (12, 4), (12, 5)]
def goC (held : Nat) (acc : List (List (Int × Int))) (pk : Nat × Nat) : List (List (Int × Int)) :=
  match acc[pk.1]? with
  | none => acc
  | some ps => match (casesM (firstM held) (gM held ps))[pk.2]? with
    | none => acc
    | some c => acc ++ [newPs held ps 2 c]
def chkC (held : Nat) : Bool := (ways held).all fun ps => decide (ps ∈ (codes held).foldl (goC held) [[]])
theorem chkC_ok {held : Nat} (h1 : 1 ≤ held) (h3 : held ≤ 3) : chkC held = true := by
  rcases three h1 h3 with rfl | rfl | rfl <;> decide +kernel
theorem new_case (f g : List Int) : Cs.new ∈ casesM f g := by
  unfold casesM
  exact List.mem_append.mpr (.inr (List.mem_append.mpr (.inr (List.mem_append.mpr (.inr (List.mem_singleton.mpr rfl))))))
theorem new_out (f g : List Int) : valueM .new f g ∉ f ∧ valueM .new f g ∉ g := by
  have h := leastM_out (f ++ g)
  exact ⟨fun z => h (List.mem_append.mpr (.inl z)), fun z => h (List.mem_append.mpr (.inr z))⟩
section
variable {many held : Nat}
theorem wk_go {i j : Nat} {ps : List (Int × Int)} {w : Nat} {c : Cs} (hi : i < many) (hj : j < many) (hw : w < 3) (hc : c ∈ casesM (firstM held) (gM held ps)) {ss : List Sit} (r : Rch (wkP many held 0 true) (wkP many held 1 false) ss ((i : Int) + 1, (j : Int) + 1, ps)) :
    Rch (wkP many held 0 true) (wkP many held 1 false) ss ((wkStep many held 0 true i (firstM held) w (valueM c (firstM held) (gM held ps))).1, (wkStep many held 1 false j (gM held ps) w (valueM c (firstM held) (gM held ps))).1, newPs held ps w c) := by
  have hx : ((w : Int), c, afterM (wkP many held 0 true) (wkP many held 1 false) ((i : Int) + 1, (j : Int) + 1, ps) (firstM held) (gM held ps) w c) ∈ stepsM (wkP many held 0 true) (wkP many held 1 false) ((i : Int) + 1, (j : Int) + 1, ps) := by
    unfold stepsM
    rw [wk_heldM hi hj]
    exact List.mem_flatMap.mpr ⟨w, List.mem_range.mpr hw, List.mem_map.mpr ⟨c, hc, rfl⟩⟩
  have := Rch.step r hx
  rw [wk_after hi hj] at this
  exact this
theorem rch_pairs (h1 : 1 ≤ held) (h3 : held ≤ 3) (m1 : 1 ≤ many) {ps : List (Int × Int)} (hps : ps ∈ ways held) : Rch (wkP many held 0 true) (wkP many held 1 false) [(1, 1, [])] (1, 1, ps) := by
  have all : ∀ (cs : List (Nat × Nat)) (acc : List (List (Int × Int))), (∀ x ∈ acc, Rch (wkP many held 0 true) (wkP many held 1 false) [(1, 1, [])] (1, 1, x)) → ∀ x ∈ cs.foldl (goC held) acc, Rch (wkP many held 0 true) (wkP many held 1 false) [(1, 1, [])] (1, 1, x) := by
    intro cs
    induction cs with
    | nil => exact fun acc h => h
    | cons pk cs ih =>
      intro acc h
      refine ih _ ?_
      unfold goC
      split
      · exact h
      · rename_i ps0 e0
        split
        · exact h
        · rename_i c ec
          intro x hx
          rcases List.mem_append.mp hx with hx | hx
          · exact h x hx
          · rw [List.mem_singleton.mp hx]
            have r0 := h _ (List.mem_of_getElem? e0)
            have := wk_go (i := 0) (j := 0) (w := 2) (many := many) (held := held) (by omega) (by omega) (by decide) (List.mem_of_getElem? ec) r0
            have e1 : (wkStep many held 0 true 0 (firstM held) ((2 : Nat) : Int) (valueM c (firstM held) (gM held ps0))).1 = 1 := by
              unfold wkStep
              split
              · rfl
              · rw [if_neg (by decide), if_pos ⟨rfl, rfl⟩]
                rfl
            have e2 : (wkStep many held 1 false 0 (gM held ps0) ((2 : Nat) : Int) (valueM c (firstM held) (gM held ps0))).1 = 1 := by
              unfold wkStep
              split
              · rfl
              · rw [if_neg (by decide), if_neg (fun z => by cases z.1)]
                rfl
            rw [e1, e2] at this
            exact this
  have hc := List.all_eq_true.mp (chkC_ok h1 h3) ps hps
  exact all _ _ (fun x hx => by rw [List.mem_singleton.mp hx]; exact .base (List.mem_singleton.mpr rfl)) ps (of_decide_eq_true hc)
theorem mod_up {i : Nat} (h : i + 1 < many) : ((i : Int) + 1) % (many : Int) + 1 = ((i + 1 : Nat) : Int) + 1 := by
  rw [Int.emod_eq_of_lt (by omega) (by omega)]
  omega
theorem rch_first (h1 : 1 ≤ held) (h3 : held ≤ 3) (m1 : 1 ≤ many) {ps : List (Int × Int)} (hps : ps ∈ ways held) : ∀ i : Nat, i < many → Rch (wkP many held 0 true) (wkP many held 1 false) [(1, 1, [])] ((i : Int) + 1, 1, ps)
  | 0, _ => rch_pairs h1 h3 m1 hps
  | i + 1, hi => by
    have r0 := rch_first h1 h3 m1 hps i (by omega)
    have eE : eqM (firstM held) (gM held ps) = ps := of_decide_eq_true (List.all_eq_true.mp (chkE_ok h1 h3) ps hps)
    obtain ⟨o1, o2⟩ := new_out (firstM held) (gM held ps)
    have := wk_go (i := i) (j := 0) (w := 0) (many := many) (held := held) (by omega) (by omega) (by decide) (new_case _ _) r0
    have e1 : (wkStep many held 0 true i (firstM held) ((0 : Nat) : Int) (valueM .new (firstM held) (gM held ps))).1 = ((i + 1 : Nat) : Int) + 1 := by
      unfold wkStep
      rw [if_neg o1, if_pos (by decide)]
      exact mod_up hi
    have e2 : (wkStep many held 1 false 0 (gM held ps) ((0 : Nat) : Int) (valueM .new (firstM held) (gM held ps))).1 = 1 := by
      unfold wkStep
      rw [if_neg o2, if_neg (by decide), if_neg (fun z => by cases z.1)]
      rfl
    have e3 : newPs held ps ((0 : Nat) : Int) .new = ps := by
      unfold newPs
      rw [if_neg o1, if_pos (by decide)]
      exact eE
    rw [e1, e2, e3] at this
    exact this
theorem rch_both (h1 : 1 ≤ held) (h3 : held ≤ 3) (m1 : 1 ≤ many) {ps : List (Int × Int)} (hps : ps ∈ ways held) {i : Nat} (hi : i < many) : ∀ j : Nat, j < many → Rch (wkP many held 0 true) (wkP many held 1 false) [(1, 1, [])] ((i : Int) + 1, (j : Int) + 1, ps)
  | 0, _ => rch_first h1 h3 m1 hps i hi
  | j + 1, hj => by
    have r0 := rch_both h1 h3 m1 hps hi j (by omega)
    have eE : eqM (firstM held) (gM held ps) = ps := of_decide_eq_true (List.all_eq_true.mp (chkE_ok h1 h3) ps hps)
    obtain ⟨o1, o2⟩ := new_out (firstM held) (gM held ps)
    have := wk_go (i := i) (j := j) (w := 1) (many := many) (held := held) hi (by omega) (by decide) (new_case _ _) r0
    have e1 : (wkStep many held 0 true i (firstM held) ((1 : Nat) : Int) (valueM .new (firstM held) (gM held ps))).1 = (i : Int) + 1 := by
      unfold wkStep
      rw [if_neg o1, if_neg (by decide), if_neg (fun z => by have := z.2; omega)]
    have e2 : (wkStep many held 1 false j (gM held ps) ((1 : Nat) : Int) (valueM .new (firstM held) (gM held ps))).1 = ((j + 1 : Nat) : Int) + 1 := by
      unfold wkStep
      rw [if_neg o2, if_pos (by decide)]
      exact mod_up hj
    have e3 : newPs held ps ((1 : Nat) : Int) .new = ps := by
      unfold newPs
      rw [if_neg o1, if_neg (by decide), if_neg (by decide)]
      exact eE
    rw [e1, e2, e3] at this
    exact this
theorem due_rch (h1 : 1 ≤ held) (h3 : held ≤ 3) (m1 : 1 ≤ many) (m5 : many ≤ 6 - held) {k : Sit} (r : k ∈ dueM many held) : Rch (wkP many held 0 true) (wkP many held 1 false) [(1, 1, [])] k := by
  obtain ⟨i, j, ps, hi, hj, hps, rfl⟩ := mem_due.mp r
  exact rch_both h1 h3 m1 hps hi j hj
theorem step_st {word : Int} {fst : Bool} {i : Nat} {f : List Int} {w v : Int} (hi : i < many) : ∃ i' : Nat, i' < many ∧ (wkStep many held word fst i f w v).1 = (i' : Int) + 1 := by
  have m0 : (0 : Int) < many := by omega
  have e1 := Int.emod_nonneg ((i : Int) + 1) (Int.ne_of_gt m0)
  have e2 := Int.emod_lt_of_pos ((i : Int) + 1) m0
  unfold wkStep
  split
  · exact ⟨i, hi, rfl⟩
  · split
    · exact ⟨(((i : Int) + 1) % (many : Int)).toNat, by omega, by show ((i : Int) + 1) % (many : Int) + 1 = _; omega⟩
    · split
      · exact ⟨i, hi, rfl⟩
      · exact ⟨i, hi, rfl⟩
theorem due_in (h1 : 1 ≤ held) (h3 : held ≤ 3) (m1 : 1 ≤ many) (m5 : many ≤ 6 - held) {k : Sit} (r : Rch (wkP many held 0 true) (wkP many held 1 false) [(1, 1, [])] k) : k ∈ dueM many held := by
  induction r with
  | base hs =>
    rw [List.mem_singleton.mp hs]
    exact mem_due.mpr ⟨0, 0, [], by omega, by omega, ways_nil h1 h3, rfl⟩
  | @step s x _ hx ih =>
    obtain ⟨i, j, ps, hi, hj, hps, rfl⟩ := mem_due.mp ih
    unfold stepsM at hx
    rw [wk_heldM hi hj] at hx
    obtain ⟨w, hw, hx⟩ := List.mem_flatMap.mp hx
    obtain ⟨c, hc, rfl⟩ := List.mem_map.mp hx
    have hw3 : w < 3 := List.mem_range.mp hw
    have hA := of_decide_eq_true (List.all_eq_true.mp (List.all_eq_true.mp (List.all_eq_true.mp (chkA_ok h1 h3) ps hps) (w : Int) (by rcases (by omega : w = 0 ∨ w = 1 ∨ w = 2) with rfl | rfl | rfl <;> simp)) c hc)
    show afterM _ _ _ (firstM held) (gM held ps) w c ∈ _
    rw [wk_after hi hj]
    obtain ⟨i', hi', e1⟩ := step_st (held := held) (word := 0) (fst := true) (f := firstM held) (w := (w : Int)) (v := valueM c (firstM held) (gM held ps)) hi
    obtain ⟨j', hj', e2⟩ := step_st (held := held) (word := 1) (fst := false) (f := gM held ps) (w := (w : Int)) (v := valueM c (firstM held) (gM held ps)) hj
    exact mem_due.mpr ⟨i', j', _, hi', hj', hA, by rw [e1, e2]⟩
theorem due_nd (h3 : held ≤ 3) : (dueM many held).Nodup := by
  refine List.pairwise_flatMap.mpr ⟨fun p _ => List.pairwise_flatMap.mpr ⟨fun q _ => ?_, ?_⟩, ?_⟩
  · exact List.Pairwise.map _ (fun a b h e => h (congrArg (fun s : Sit => s.2.2) e)) (ways_nd h3)
  · refine List.nodup_range.imp fun {a b} hab x hx y hy e => ?_
    obtain ⟨u, _, rfl⟩ := List.mem_map.mp hx
    obtain ⟨v, _, rfl⟩ := List.mem_map.mp hy
    have := congrArg (fun s : Sit => s.2.1) e
    dsimp only at this
    omega
  · refine List.nodup_range.imp fun {a b} hab x hx y hy e => ?_
    obtain ⟨q, _, hx⟩ := List.mem_flatMap.mp hx
    obtain ⟨u, _, rfl⟩ := List.mem_map.mp hx
    obtain ⟨q', _, hy⟩ := List.mem_flatMap.mp hy
    obtain ⟨v, _, rfl⟩ := List.mem_map.mp hy
    have := congrArg (fun s : Sit => s.1) e
    dsimp only at this
    omega
end

/-! ### the law -/
theorem cutV_two (xs : List V) : cutV xs none (some 2) = xs.take 2 := by
  unfold cutV
  show (xs.drop 0).take (HT.sIx xs.length xs.length (some 2) - 0) = _
  rw [List.drop_zero, Nat.sub_zero]
  have e : HT.sIx xs.length xs.length (some 2) = min 2 xs.length := by
    simp only [HT.sIx]
    rw [if_neg (by decide)]
    rfl
  rw [e, List.take_eq_take_iff]
  omega
/-- all but lists stands -/
def NL (H H' : Hp) : Prop := ∀ a o, H a = some o → (∀ xs, o ≠ .lst xs) → H' a = some o
theorem NL.tups {H H' : Hp} (n : NL H H') : Tups H H' := fun a xs h => n _ _ h (fun _ z => nomatch z)
theorem NL.but {H H' : Hp} {a : Addr} {xs : List V} (h : H a = some (.lst xs)) (k : ∀ c o, H c = some o → c ≠ a → H' c = some o) : NL H H' := fun b o e n => k _ _ e fun q => by
  rw [q, h] at e
  exact n _ (Option.some.inj e).symm
theorem WAt.butL {C : Addr} {H H' : Hp} {x lv lh d tr : Addr} {n : Int} {vs hs : List Int} {R : Rows} {ys : List V} (h : WAt C H x lv lh d n vs hs R) (ht : H tr = some (.lst ys)) (k : ∀ c o, H c = some o → c ≠ tr → H' c = some o) (n3 : lv ≠ tr) (n4 : lh ≠ tr) : WAt C H' x lv lh d n vs hs R := by
  obtain ⟨⟨dx, hx⟩, hv, hh, ⟨kvs, hd, hk⟩, j1, j2, j3, j4⟩ := h
  have n := NL.but ht k
  exact ⟨⟨dx, n _ _ hx (fun _ z => nomatch z)⟩, k _ _ hv n3, k _ _ hh n4, ⟨kvs, n _ _ hd (fun _ z => nomatch z), hk.mono n.tups⟩, j1, j2, j3, j4⟩
/-- due, before (i, j) -/
def dueP (many held i j : Nat) : List Sit := ((List.range i).flatMap fun p : Nat => (List.range many).flatMap fun q : Nat => (waysM (firstM held) (firstM held)).map fun ps => ((p : Int) + 1, (q : Int) + 1, ps)) ++ ((List.range j).flatMap fun q : Nat => (waysM (firstM held) (firstM held)).map fun ps => ((i : Int) + 1, (q : Int) + 1, ps))
theorem dueP_row (many held i : Nat) : dueP many held i many = dueP many held (i + 1) 0 := by
  unfold dueP
  rw [List.range_succ, List.flatMap_append, List.range_zero, List.flatMap_nil, List.append_nil, List.flatMap_singleton]
theorem dueP_all (many held : Nat) : dueP many held many 0 = dueM many held := by
  unfold dueP dueM
  rw [List.range_zero, List.flatMap_nil, List.append_nil]
theorem dueP_len {many held i j : Nat} (h3 : held ≤ 3) (hi : i ≤ 5) (hm : many ≤ 5) (hj : j ≤ 5) : (dueP many held i j).length ≤ 2000 := by
  have hw : (waysM (firstM held) (firstM held)).length ≤ 64 := by
    have l1 : (firstM (held : Int)).length ≤ 3 := by rw [firstM_len, Int.toNat_natCast]; exact h3
    have h1 := waysM_len (firstM held) (rs := firstM held) (k := 3) l1
    have h2 : (1 + 3) ^ (firstM (held : Int)).length ≤ (1 + 3) ^ 3 := Nat.pow_le_pow_right (by decide) l1
    have h3 : (1 + 3) ^ 3 = 64 := by decide
    omega
  have hr : ∀ (n : Nat) (p : Int), ((List.range n).flatMap fun q : Nat => (waysM (firstM held) (firstM held)).map fun ps => ((p, (q : Int) + 1, ps) : Sit)).length ≤ n * 64 := by
    intro n p
    induction n with
    | zero => simp
    | succ n ih =>
      rw [List.range_succ, List.flatMap_append, List.length_append, List.flatMap_singleton, List.length_map, Nat.succ_mul]
      omega
  have ho : ∀ n : Nat, ((List.range n).flatMap fun p : Nat => (List.range many).flatMap fun q : Nat => (waysM (firstM held) (firstM held)).map fun ps => (((p : Int) + 1, (q : Int) + 1, ps) : Sit)).length ≤ n * 320 := by
    intro n
    induction n with
    | zero => simp
    | succ n ih =>
      rw [List.range_succ, List.flatMap_append, List.length_append, List.flatMap_singleton, Nat.succ_mul]
      have := hr many ((n : Int) + 1)
      omega
  have a := ho i
  have b := hr j ((i : Int) + 1)
  unfold dueP
  rw [List.length_append]
  omega
theorem zip_td {H : Hp} {α : Type} {enc : α → PyData} : ∀ {xs : List V} {ds : List α}, TDs H xs (ds.map enc) → (xs.zip ds).map (·.1) = xs ∧ (xs.zip ds).map (·.2) = ds ∧ ∀ b ∈ xs.zip ds, TD H b.1 (enc b.2)
  | _, [], h => by
    cases h
    exact ⟨rfl, rfl, fun b hb => by cases hb⟩
  | _, d :: ds, h => by
    cases h with
    | @cons x _ xs _ a r =>
      obtain ⟨h1, h2, h3⟩ := zip_td r
      refine ⟨by rw [List.zip_cons_cons, List.map_cons, h1], by rw [List.zip_cons_cons, List.map_cons, h2], fun b hb => ?_⟩
      rw [List.zip_cons_cons] at hb
      rcases List.mem_cons.mp hb with rfl | hb
      · exact a
      · exact h3 b hb
theorem td_of {H : Hp} {α : Type} {enc : α → PyData} : ∀ {bs : List (V × α)}, (∀ b ∈ bs, TD H b.1 (enc b.2)) → TDs H (bs.map (·.1)) ((bs.map (·.2)).map enc)
  | [], _ => .nil
  | b :: bs, h => .cons (h b List.mem_cons_self) (td_of fun x hx => h x (List.mem_cons_of_mem _ hx))
theorem lay_sits (l : List Sit) : PyData.canLayAll0 (l.map sitD) = true ∧ PyData.depthAll (l.map sitD) ≤ 3 := by
  have hp : ∀ ps : List (Int × Int), PyData.canLayAll0 (ps.map pairD) = true ∧ PyData.depthAll (ps.map pairD) ≤ 1 := by
    intro ps
    induction ps with
    | nil => exact ⟨rfl, Nat.zero_le _⟩
    | cons x r ih => exact ⟨by simp only [List.map_cons, PyData.canLayAll0, ih.1, Bool.and_true]; rfl, by simp only [List.map_cons, PyData.depthAll]; exact Nat.max_le.mpr ⟨Nat.le_refl _, ih.2⟩⟩
  induction l with
  | nil => exact ⟨rfl, Nat.zero_le _⟩
  | cons x r ih =>
    obtain ⟨h1, h2⟩ := hp x.2.2
    refine ⟨?_, ?_⟩
    · simp only [List.map_cons, PyData.canLayAll0, ih.1, Bool.and_true]
      simp only [sitD, pairsD, PyData.canLay0, PyData.canLayAll0, h1, Bool.and_true]
    · simp only [List.map_cons, PyData.depthAll, sitD, pairsD, PyData.depth]
      have := ih.2
      omega
theorem shaped_sits (l : List Sit) : SeqAt.shaped (.tuple (l.map sitD)) = true := by
  obtain ⟨h1, h2⟩ := lay_sits l
  refine Bool.and_eq_true_iff.mpr ⟨?_, decide_eq_true ?_⟩
  · simp only [PyData.canLay0, h1]
  · show PyData.depthAll (l.map sitD) + 1 ≤ 64
    omega
theorem eqv_sits (l : List Sit) : PyData.eqv (.tuple (l.map sitD)) (.tuple (l.map sitD)) = true := PySem.SeqAt.eqv_refl _ (SeqAt.canLay_of_shaped (shaped_sits l))
def sp_law (K : PySem.W.Frag) : Sp := fun vs H Q _ => ∃ (a : Addr) (ns : List Int), vs = [.ref a] ∧ SqL K H a (ns.map V.int) ∧ ns.length ≤ 63 ∧ ∀ H', Q (.bl true) H'
section
variable {P : Program} {w : World} {K : PySem.W.Frag} {mg : Str → Option Value} {base : Heap}
def natsV (cs : List Nat) : List V := cs.map fun (k : Nat) => V.int (k : Int)
abbrev N_law : List Str := ["script", "cells", "cell", "held", "many", "pair", "due", "p", "q", "pairs"]
theorem sc_law : FnScope N_law ["script"] (defScope s_law) := ⟨rfl, rfl, rfl, by decide +kernel, rfl, by decide +kernel, by decide +kernel⟩
theorem ok_law (T : Tx K mg) {f : Addr} {fd : FuncData} (F : Fun K "law" "law" s_law f fd) : FnG P w K mg base CX0 7 f fd ["script"] (sp_law K) := by
  refine okG F sc_law (fun vs H Q E h => ?_) (fun cdv A outer s H vs Q E gd hr h => ?_)
  · obtain ⟨a, ns, rfl, _⟩ := h
    rfl
  · obtain ⟨a, ns, rfl, hS, hl, q⟩ := h
    have L5 : 4000000 ≤ sizeLine := by decide
    refine ⟨_, 
      (C8.pss_cut (ps_set (i := 1) sc_law.nd rfl (.inl rfl) (pe_op op_cat (pe_lc (own := [("cell", 2)]) (g := gName 2) rfl sc_law.nd (pi_list (pe_slice sl_list (pv 0) po_none (po_some pe_int))) (blkOk_by (N := N_law) (sc := defScope s_law) (by decide +kernel)) (fun _ _ _ _ _ => (pg_name (i := 2) sc_law.nd rfl (.inl rfl))) (fun _ _ _ _ _ => pts_nil) (fun _ _ _ _ _ => (pe_callB call_abs (by rfl) T.m_abs (by decide +kernel) (pa_cons (pe_callTy call_int1 (by rfl) T.m_int (by decide +kernel) (pa_cons (pv 2) pa_nil)) pa_nil)))) (pe_lst (pa_cons pe_int (pa_cons pe_int pa_nil))))) -- cells = [abs(int(cell)) for cell in script[:2]] + [1, 1]
      (pss_cons (ps_set (i := 3) sc_law.nd rfl (.inl rfl) (pe_op op_add pe_int (pe_op op_mod (pe_ix ix_list (pv 1) pe_int (fun _ _ => rfl)) pe_int))) -- held = 1 + cells[1] % 3
      (pss_cons (ps_set (i := 4) sc_law.nd rfl (.inl rfl) (pe_op op_add pe_int (pe_op op_mod (pe_ix ix_list (pv 1) pe_int (fun _ _ => rfl)) (pe_op op_sub pe_int (pv 3))))) -- many = 1 + cells[0] % (6 - held)
      (C8.pss_cut (ps_par (i := 5) (j := 6) rfl sc_law.nd rfl rfl (by decide) rfl rfl (pa_cons (pe_tup (pa_cons (pe_callG (G_law_walker T) gd (hr.mono (by decide)) rfl T.law_walker.g T.law_walker.F.kp T.law_walker.b .nil pass0 (pa_cons (pv 4) (pa_cons (pv 3) (pa_cons pe_int (pa_cons pe_bl pa_nil))))) (pa_cons (pe_callG (G_law_walker T) gd (hr.mono (by decide)) rfl T.law_walker.g T.law_walker.F.kp T.law_walker.b .nil pass0 (pa_cons (pv 4) (pa_cons (pv 3) (pa_cons pe_int (pa_cons pe_bl pa_nil))))) pa_nil))) (pa_cons (pe_lst pa_nil) pa_nil)) rfl) -- pair, due = ((_law_walker(many, held, 0, True), _law_walker(many, held, 1, False)), [])
      (C8.pss_cut (ps_for PassesOwn.never rfl (pi_range2 rfl T.m_range (pa_cons pe_int (pa_cons (pe_op op_add (pv 4) pe_int) pa_nil))) (pg_name (i := 7) sc_law.nd rfl (.inr rfl)) 
        (pss_one (ps_for PassesOwn.never rfl (pi_range2 rfl T.m_range (pa_cons pe_int (pa_cons (pe_op op_add (pv 4) pe_int) pa_nil))) (pg_name (i := 8) sc_law.nd rfl (.inr rfl)) 
          (pss_one (ps_expr (pe_bm PySem.F.plainAttrs_list PySem.F.slot_list_extend PySem.F.type_list_extend mt_extend (pv 6) (pa_cons (pe_lc (own := [("pairs", 9)]) (g := gName 9) rfl sc_law.nd (pi_list (pe_callG (G_law_ways T 4) gd (hr.mono (by decide)) rfl T.law_ways.g T.law_ways.F.kp T.law_ways.b .nil pass0 (pa_cons (pe_listRg rfl (by rfl) T.m_list (prg_1 (by rfl) T.m_range (pv 3))) (pa_cons (pe_listRg rfl (by rfl) T.m_list (prg_1 (by rfl) T.m_range (pv 3))) pa_nil)))) (blkOk_by (N := N_law) (sc := defScope s_law) (by decide +kernel)) (fun _ _ _ _ _ => (pg_name (i := 9) sc_law.nd rfl (.inl rfl))) (fun _ _ _ _ _ => pts_nil) (fun _ _ _ _ _ => (pe_tup (pa_cons (pv 7) (pa_cons (pv 8) (pa_cons (pv 9) pa_nil)))))) pa_nil)))) -- due.extend([(p, q, pairs) for pairs in _law_ways(list(range(held)), list(range(held)))])
          )) -- for q in range(1, many + 1):
        ) -- for p in range(1, many + 1):
      (pss_one (ps_ret (pe_cmpR (op_eqT hr.units) (pe_callG (G_reached_situations T) gd (hr.mono (by decide)) rfl T.reached_situations.g T.reached_situations.F.kp T.reached_situations.b .nil pass0 (pa_cons (pv 5) (pa_cons (pe_tup (pa_cons pe_int (pa_cons pe_int (pa_cons (pe_tup pa_nil) pa_nil)))) pa_nil))) (pe_callTy call_tuple_of (by rfl) T.m_tuple (by decide +kernel) (pa_cons (pe_callB (call_sortDd (enc := sitD) hr.units) (by rfl) T.m_sorted PyProof.Rows.boot_sorted (pa_cons (pv 6) pa_nil)) pa_nil)) (nomark _)))) -- return reached_situations(pair, (1, 1, ())) == tuple(sorted(due))
      ))))) , ?_⟩
    refine ⟨fun σ H' => ∃ cl cs, σ = [some (.ref a), some (.ref cl), none, none, none, none, none, none, none, none] ∧ H' cl = some (.lst (natsV cs)) ∧ 2 ≤ cs.length, ?_, ?_⟩
    · clear q
      obtain ⟨fs, l4, ht4⟩ : ∃ fs : List Int, fs.length ≤ 2 ∧ cutV (ns.map V.int) none (some 2) = fs.map V.int := ⟨ns.take 2, List.length_take_le _ _, by rw [cutV_two, List.map_take]⟩
      refine ⟨.ref a, rfl, 2, rfl, a, _, rfl, hS, fun b nb => ⟨b, rfl, ⟨_, SqL.of upd_same⟩, fun D nD => ?_⟩⟩
      rw [ht4] at nD ⊢
      have ned : b ≠ D := fun e => by rw [e, upd_same] at nD; cases nD
      refine lc_list (xs := fs.map V.int) (fun i H' => H' b = some (.lst (fs.map V.int)) ∧ H' D = some (.lst (natsV ((fs.take i).map Int.natAbs)))) ?_ ?_ ?_ ?_
      · exact ⟨by rw [upd_ne ned, upd_same], upd_same⟩
      · exact fun i H' _ h => SqL.of h.1
      · rintro i x H' hx ⟨hb, hD⟩
        rw [List.getElem?_map] at hx
        obtain ⟨v, hv, rfl⟩ := Option.map_eq_some_iff.mp hx
        refine ⟨rfl, .int v, rfl, .inl ⟨v, rfl, v, rfl, _, hD, ?_, by rw [upd_ne ned, hb], ?_⟩⟩
        · rw [natsV, List.length_map, List.length_map, List.length_take]
          omega
        · rw [upd_same, List.take_add_one, hv]
          simp only [natsV, List.map_append, List.map_cons, List.map_nil, Option.toList_some]
          have e : (if v < 0 then -v else v) = ((v.natAbs : Nat) : Int) := by split <;> omega
          rw [e]
      · rintro H2 ⟨hb, hD⟩
        rw [List.length_map, List.take_length] at hD
        refine ⟨by show 2 ≤ sizeLine; decide, fun m nm => ⟨D, m, _, [.int 1, .int 1], rfl, rfl, same_new nm _ _ hD, upd_same, ?_, fun p np => ⟨p, fs.map Int.natAbs ++ [1, 1], rfl, ?_, ?_⟩⟩⟩
        · rw [natsV, List.length_map, List.length_map]
          show _ + 2 ≤ sizeLine
          omega
        · rw [upd_same]
          simp only [natsV, List.map_append]
          rfl
        · rw [List.length_append]
          exact Nat.le_add_left _ _
    rintro σ H1 ⟨cl, cs, rfl, hcl, lcs⟩
    obtain ⟨c0, c1, cr, rfl⟩ : ∃ c0 c1 cr, cs = c0 :: c1 :: cr := by
      match cs, lcs with
      | c0 :: c1 :: cr, _ => exact ⟨_, _, _, rfl⟩
    have at0 : atI (natsV (c0 :: c1 :: cr)) 0 = some (.int (c0 : Int)) := atI_nat (j := 0) rfl
    have at1 : atI (natsV (c0 :: c1 :: cr)) 1 = some (.int (c1 : Int)) := atI_nat (j := 1) rfl
    obtain ⟨held, eh, h1, h3⟩ : ∃ held : Nat, (1 : Int) + (c1 : Int) % 3 = held ∧ 1 ≤ held ∧ held ≤ 3 := ⟨1 + c1 % 3, by omega, by omega, by omega⟩
    have hpos : (0 : Int) < 6 - (held : Int) := by omega
    obtain ⟨many, em, m1, m5⟩ : ∃ many : Nat, (1 : Int) + (c0 : Int) % (6 - (held : Int)) = many ∧ 1 ≤ many ∧ many ≤ 6 - held := by
      have e1 := Int.emod_nonneg (c0 : Int) (Int.ne_of_gt hpos)
      have e2 := Int.emod_lt_of_pos (c0 : Int) hpos
      exact ⟨((1 : Int) + (c0 : Int) % (6 - (held : Int))).toNat, by omega, by omega, by omega⟩
    refine ⟨.ref cl, rfl, cl, _, 1, .int (c1 : Int), rfl, rfl, SqL.of hcl, at1, _, _, rfl, rfl, (by decide : (0 : Int) < 3), _, _, rfl, rfl, ?_⟩
    dsimp only
    rw [eh]
    refine ⟨.ref cl, rfl, cl, _, 0, .int (c0 : Int), rfl, rfl, SqL.of hcl, at0, .int (held : Int), rfl, _, _, rfl, rfl, _, _, rfl, rfl, hpos, _, _, rfl, rfl, ?_⟩
    dsimp only
    rw [em]
    refine ⟨fun σ H' => ∃ (A1 A2 : WA) (pr dl : Addr), σ = [some (.ref a), some (.ref cl), none, some (.int (held : Int)), some (.int (many : Int)), some (.ref pr), some (.ref dl), none, none, none] ∧ PairAt K T.Watcher.C H' pr A1 A2 (wkP many held 0 true) (wkP many held 1 false) ∧ (∃ ys, H' pr = some (.tup ys)) ∧ H' dl = some (.lst []) ∧ A1.lv ≠ dl ∧ A1.lh ≠ dl ∧ A2.lv ≠ dl ∧ A2.lh ≠ dl, ?_, ?_⟩
    · clear q
      refine ⟨.int (many : Int), rfl, .int (held : Int), rfl, many, held, 0, true, rfl, m1, by omega, h1, h3, by decide, by decide, fun A1 H2 s2 hw1 => ⟨.int (many : Int), rfl, .int (held : Int), rfl, many, held, 1, false, rfl, m1, by omega, h1, h3, by decide, by decide, fun A2 H3 s3 hw2 => ⟨by show 2 ≤ sizeLine; decide, fun pr npr => ⟨by show 0 ≤ sizeLine; decide, fun dl ndl => ?_⟩⟩⟩⟩
      have s4 := same_new (o := .tup [.ref A1.x, .ref A2.x]) npr
      have s5 := same_new (o := .lst []) ndl
      have hw1' := (hw1.mono s3).mono s4
      have hw2' := hw2.mono s4
      exact ⟨.ref pr, .ref dl, rfl, A1, A2, pr, dl, rfl, ⟨SqT.of (s5 _ _ upd_same), hw1'.mono s5, hw2'.mono s5⟩, ⟨_, s5 _ _ upd_same⟩, upd_same, ne_of_none hw1'.w.ver ndl, ne_of_none hw1'.w.hel ndl, ne_of_none hw2'.w.ver ndl, ne_of_none hw2'.w.hel ndl⟩
    rintro σ H3 ⟨A1, A2, pr, dl, rfl, hp, hpr, hdl, n1, n2, n3, n4⟩
    refine ⟨fun σ H' => ∃ y7 y8, σ = [some (.ref a), some (.ref cl), none, some (.int (held : Int)), some (.int (many : Int)), some (.ref pr), some (.ref dl), y7, y8, none] ∧ (∀ c o, H3 c = some o → c ≠ dl → H' c = some o) ∧ ∃ xs, H' dl = some (.lst xs) ∧ TDs H' xs ((dueM many held).map sitD), ?_, ?_⟩
    · clear q
      refine ⟨.int (many : Int), rfl, _, _, rfl, rfl, 1, (many : Int) + 1, rfl, ⟨by omega, by omega, by omega, by omega⟩, ?_⟩
      rw [show ((many : Int) + 1 - 1).toNat = many by omega]
      refine for_range (n := many) (fun i σ H' => ∃ y7 y8, σ = [some (.ref a), some (.ref cl), none, some (.int (held : Int)), some (.int (many : Int)), some (.ref pr), some (.ref dl), y7, y8, none] ∧ (∀ c o, H3 c = some o → c ≠ dl → H' c = some o) ∧ ∃ xs, H' dl = some (.lst xs) ∧ TDs H' xs ((dueP many held i 0).map sitD)) ?_ ?_ ?_
      · exact ⟨none, none, rfl, fun c o e _ => e, [], hdl, .nil⟩
      · rintro i σ H4 hi ⟨y7, y8, rfl, k4, hx4⟩
        rw [show (1 : Int) + (i : Int) = (i : Int) + 1 by omega]
        refine ⟨.int (many : Int), rfl, _, _, rfl, rfl, 1, (many : Int) + 1, rfl, ⟨by omega, by omega, by omega, by omega⟩, ?_⟩
        rw [show ((many : Int) + 1 - 1).toNat = many by omega]
        refine for_range (n := many) (fun j σ H' => ∃ y8, σ = [some (.ref a), some (.ref cl), none, some (.int (held : Int)), some (.int (many : Int)), some (.ref pr), some (.ref dl), some (.int ((i : Int) + 1)), y8, none] ∧ (∀ c o, H3 c = some o → c ≠ dl → H' c = some o) ∧ ∃ xs, H' dl = some (.lst xs) ∧ TDs H' xs ((dueP many held i j).map sitD)) ?_ ?_ ?_
        · exact ⟨y8, rfl, k4, hx4⟩
        · rintro j σ H5 hj ⟨y8, rfl, k5, xs, hdl5, hx5⟩
          rw [show (1 : Int) + (j : Int) = (j : Int) + 1 by omega]
          have lf : (firstM (held : Int)).length ≤ 3 := by rw [firstM_len, Int.toNat_natCast]; exact h3
          have rok : RgOk 0 (held : Int) := RgOk.of_le (Int.le_refl 0) (by omega) (by omega) (by omega)
          refine ⟨.ref dl, rfl, .inl ⟨rfl, _, SqL.of hdl5⟩, .int (held : Int), rfl, (held : Int), rfl, rok, fun l1 nl1 => ⟨.int (held : Int), rfl, (held : Int), rfl, rok, fun l2 nl2 => ?_⟩⟩
          rw [← firstM_V] at nl2 ⊢
          have s1 := same_new (o := .lst ((firstM (held : Int)).map V.int)) nl1
          have s2 := same_new (o := .lst ((firstM (held : Int)).map V.int)) nl2
          refine ⟨l1, l2, firstM held, firstM held, rfl, s2 _ _ upd_same, upd_same, lf, lf, lf, fun g ys H6 s6 ng hg hy => ?_⟩
          have s56 := (s1.trans s2).trans s6
          have lys : ys.length = (waysM (firstM held) (firstM held)).length := by
            have := hy.len
            rwa [List.length_map] at this
          have l64 : (waysM (firstM held) (firstM held)).length ≤ 64 := by
            have h1 := waysM_len (firstM held) (rs := firstM held) (k := 3) lf
            have h2 : (1 + 3) ^ (firstM (held : Int)).length ≤ (1 + 3) ^ 3 := Nat.pow_le_pow_right (by decide) lf
            have h3 : (1 + 3) ^ 3 = 64 := by decide
            omega
          refine ⟨g, rfl, ⟨ys, SqL.of hg⟩, fun D nD => ?_⟩
          refine lc_list (xs := ys) (fun k H' => Same H6 H' ∧ ∃ zs, H' D = some (.lst zs) ∧ TDs H' zs ((((waysM (firstM held) (firstM held)).take k).map fun ps => (((i : Int) + 1, (j : Int) + 1, ps) : Sit)).map sitD)) ?_ ?_ ?_ ?_
          · exact ⟨same_at (Same.refl _) nD, [], upd_same, .nil⟩
          · exact fun k H' _ h => SqL.of (h.1 _ _ hg)
          · rintro k pv H7 hpv ⟨s7, zs, hD, hz⟩
            have hk : k < (waysM (firstM held) (firstM held)).length := by
              have := (List.getElem?_eq_some_iff.mp hpv).1
              omega
            obtain ⟨d, hd, hvd⟩ := hy.get hpv
            rw [List.getElem?_map, List.getElem?_eq_getElem hk] at hd
            obtain rfl := (Option.some.inj hd)
            refine ⟨rfl, .int ((i : Int) + 1), rfl, .int ((j : Int) + 1), rfl, pv, rfl, by show 3 ≤ sizeLine; decide, fun m nm => ?_⟩
            have s8 := same_new (o := .tup [.int ((i : Int) + 1), .int ((j : Int) + 1), pv]) nm
            have hD8 := s8 _ _ hD
            have tpD := Tups.lst (o := .lst (zs ++ [.ref m])) hD8
            refine ⟨zs, hD8, ?_, same_at (s7.trans s8) nD, _, upd_same, ?_⟩
            · have := hz.len
              rw [List.length_map, List.length_map, List.length_take] at this
              omega
            · rw [List.take_add_one, List.getElem?_eq_getElem hk, Option.toList_some, List.map_append, List.map_append]
              exact tds_snoc ((hz.mono (Tups.same s8)).mono tpD) (.tup (tpD _ _ upd_same) (.cons (.int _) (.cons (.int _) (.cons (TD.mono tpD _ (TD.mono (Tups.same (s7.trans s8)) _ hvd)) .nil))))
          · rintro H7 ⟨s7, zs, hD, hz⟩
            rw [lys, List.take_length] at hz
            have s57 := s56.trans s7
            have hdl7 := s57 _ _ hdl5
            have tpd := Tups.lst (o := .lst (xs ++ zs)) hdl7
            refine ⟨dl, D, xs, zs, rfl, rfl, hdl7, hD, ?_, _, rfl, fun c o e n => ?_, xs ++ zs, upd_same, ?_⟩
            · have e1 := hx5.len
              have e2 := hz.len
              rw [List.length_map] at e1
              rw [List.length_map, List.length_map] at e2
              have := dueP_len (many := many) (held := held) (i := i) (j := j) h3 (by omega) (by omega) (by omega)
              omega
            · rw [upd_ne n]
              exact s57 _ _ (k5 c o e n)
            · have e : dueP many held i (j + 1) = dueP many held i j ++ (waysM (firstM held) (firstM held)).map fun ps => (((i : Int) + 1, (j : Int) + 1, ps) : Sit) := by
                unfold dueP
                rw [List.range_succ (n := j), List.flatMap_append, List.flatMap_singleton, List.append_assoc]
              rw [e, List.map_append]
              exact ((hx5.mono (Tups.same s57)).mono tpd).app (hz.mono tpd)
        · rintro σ H5 ⟨y8, rfl, k5, hx5⟩
          rw [dueP_row] at hx5
          exact ⟨_, y8, rfl, k5, hx5⟩
      · rintro σ H5 ⟨y7, y8, rfl, k5, hx5⟩
        rw [dueP_all] at hx5
        exact ⟨y7, y8, rfl, k5, hx5⟩
    rintro σ H4 ⟨y7, y8, rfl, k4, xs, hdl4, hx4⟩
    have nl := NL.but hdl k4
    have ls : (dueM many held).length ≤ 100000 := by
      rw [← dueP_all]
      have := dueP_len (many := many) (held := held) (i := many) (j := 0) h3 (by omega) (by omega) (by omega)
      omega
    obtain ⟨ysp, hysp⟩ := hpr
    have npr : pr ≠ dl := fun e => by rw [e, hdl] at hysp; cases hysp
    have hp4 : PairAt K T.Watcher.C H4 pr A1 A2 (wkP many held 0 true) (wkP many held 1 false) := by
      refine ⟨?_, ⟨hp.w1.w.butL hdl k4 n1 n2, hp.w1.ok⟩, ⟨hp.w2.w.butL hdl k4 n3 n4, hp.w2.ok⟩⟩
      have h4 := k4 _ _ hysp npr
      rcases hp.sq with (h1 | ⟨o, h1⟩) | h1
      · rw [hysp] at h1
        rw [Option.some.inj h1] at h4
        exact SqT.of h4
      · rw [hysp] at h1
        cases h1
      · exact .inr h1
    refine ⟨.ref pr, rfl, by show 0 ≤ sizeLine; decide, fun e0 ne0 => ⟨by show 3 ≤ sizeLine; decide, fun st nst => ?_⟩⟩
    have s1 := same_new (o := .tup []) ne0
    have s2 := same_new (o := .tup [.int 1, .int 1, .ref e0]) nst
    have s12 := s1.trans s2
    have lk2 : ∀ (w : Int) (b : Bool), (wkP many held w b).kinds.length = many + 1 := fun w b => wkK_len many held
    refine ⟨pr, .ref st, A1, A2, _, _, (1, 1, []), dueM many held, rfl, hp4.mono s12, .tup upd_same (.cons (.int _) (.cons (.int _) (.cons (.tup (s2 _ _ upd_same) .nil) .nil))), ⟨by decide, by rw [lk2]; show (1 : Int) < _; omega, by decide, by rw [lk2]; show (1 : Int) < _; omega, by show 0 ≤ 3; decide⟩, fun k r => due_in h1 h3 m1 m5 r, ls, fun r ks H5 s5 hr0 nd hk => ?_⟩
    have s45 := s12.trans s5
    have hdl5 := s45 _ _ hdl4
    have hx5 := hx4.mono (Tups.same s45)
    obtain ⟨z1, z2, z3⟩ := zip_td hx5
    have perm : ks.Perm (dueM many held) := by
      refine (List.perm_ext_iff_of_nodup nd (due_nd h3)).mpr fun k => ?_
      rw [hk k]
      exact ⟨due_in h1 h3 m1 m5, due_rch h1 h3 m1 m5⟩
    refine ⟨.ref dl, rfl, dl, xs.zip (dueM many held), rfl, by rw [z1]; exact SqL.of hdl5, fun b hb => TD.dp _ (z3 b hb), fun b b' => by rw [← sitK_D, ← sitK_D]; exact sitK_alike b b', fun b => ⟨_, _, rfl⟩, fun b hb => ?_, fun p np => ?_⟩
    · have := nkD_depth (sitK b.2)
      rw [sitK_D] at this
      have := sitK_depth b.2
      omega
    have em2 : ((xs.zip (dueM many held)).mergeSort (PySem.W.dataLe false fun b : V × Sit => sitD b.2)).map (·.2) = ascS (dueM many held) := by
      have e := PySem.W.sort_maps (r := PySem.W.dataLe false fun b : V × Sit => sitD b.2) (s := PySem.W.dataLe false sitD) (fun b : V × Sit => b.2) (l := xs.zip (dueM many held)) (fun a _ b _ => rfl)
      rw [e]
      unfold ascS
      rw [z2]
    have htd : TDs H5 (((xs.zip (dueM many held)).mergeSort (PySem.W.dataLe false fun b : V × Sit => sitD b.2)).map (·.1)) ((ascS (dueM many held)).map sitD) := by
      rw [← em2]
      exact td_of fun b hb => z3 b ((List.mergeSort_perm _ _).mem_iff.mp hb)
    generalize ((xs.zip (dueM many held)).mergeSort (PySem.W.dataLe false fun b : V × Sit => sitD b.2)).map (·.1) = us at np htd ⊢
    have s6 := same_new (o := .lst us) np
    refine ⟨p, us, rfl, .inl ⟨SqL.of upd_same, fun l nl => ?_⟩⟩
    have s7 := same_new (o := .tup us) nl
    rw [ascN_S] at hr0
    refine ⟨_, _, TD.mono (Tups.same (s6.trans s7)) _ hr0, .tup upd_same (htd.mono (Tups.same (s6.trans s7))), shaped_sits _, shaped_sits _, ?_⟩
    rw [ascS_perm perm, eqv_sits]
    exact q _
end

theorem all_mk {l : PySem.W.OpenLaw} {w : World} {K : PySem.W.Frag} {h : Heap} {mg : Str → Option Value} {fa f_is_integer f_is_between f_Watcher_init f_Watcher_add_state f_Watcher_add_rule f_Watcher_held_counts f_Watcher_rule_for f_Watcher_require_state f_Watcher_require_word f_require_verdict f_is_test f_are_sources f_is_source f_after_message f_carried f_reached_situations f_steps_from f_steps_among f_held_numbers f_equal_places f_cases_between f_situation_after f_value_of f_least_other f_law_walker f_law_ways f_law : Addr} (X : K.In h) (G : h.Ns mainGlobals mg) (hfa : mg "law" = some (.ref fa))
    {od0 an0 od1 an1 od2 an2 od3 an3 od4 an4 od5 an5 od6 an6 od7 an7 od8 an8 od9 an9 od10 an10 od11 an11 od12 an12 od13 an13 od14 an14 od15 an15 od16 an16 od17 an17 od18 an18 od19 an19 od20 an20 od21 an21 od22 an22 od23 an23 od24 an24 od25 an25 od26 an26 : Option Addr} {sl0 sl1 sl2 sl3 sl4 sl5 sl6 sl7 sl8 sl9 sl10 sl11 sl12 sl13 sl14 sl15 sl16 sl17 sl18 sl19 sl20 sl21 sl22 sl23 sl24 sl25 sl26 : Array (Option Value)} {oc0 kV0 dc0 pm0 cd0 ct0 oc1 kV1 dc1 pm1 cd1 ct1 oc2 kV2 dc2 pm2 cd2 ct2 oc3 kV3 dc3 pm3 cd3 ct3 oc4 kV4 dc4 pm4 cd4 ct4 oc5 kV5 dc5 pm5 cd5 ct5 oc6 kV6 dc6 pm6 cd6 ct6 oc7 kV7 dc7 pm7 cd7 ct7 oc8 kV8 dc8 pm8 cd8 ct8 oc9 kV9 dc9 pm9 cd9 ct9 oc10 kV10 dc10 pm10 cd10 ct10 oc11 kV11 dc11 pm11 cd11 ct11 oc12 kV12 dc12 pm12 cd12 ct12 oc13 kV13 dc13 pm13 cd13 ct13 oc14 kV14 dc14 pm14 cd14 ct14 oc15 kV15 dc15 pm15 cd15 ct15 oc16 kV16 dc16 pm16 cd16 ct16 oc17 kV17 dc17 pm17 cd17 ct17 oc18 kV18 dc18 pm18 cd18 ct18 oc19 kV19 dc19 pm19 cd19 ct19 oc20 kV20 dc20 pm20 cd20 ct20 oc21 kV21 dc21 pm21 cd21 ct21 oc22 kV22 dc22 pm22 cd22 ct22 oc23 kV23 dc23 pm23 cd23 ct23 oc24 kV24 dc24 pm24 cd24 ct24 oc25 kV25 dc25 pm25 cd25 ct25 oc26 kV26 dc26 pm26 cd26 ct26 : Value}
    {ck_MOST_WORDS ck_MOST_STATES ck_MOST_HELD ck_MOST_VERDICT ck_NEW ck_VALUE ck_BOTH ck_FIRST ck_SECOND : Tok}
    {C_Watcher : Addr}
    (a0 : PySem.W.nsIn K mainGlobals "is_integer" = some (some (.ref f_is_integer)))
    (l0 : K.lookup f_is_integer = some ⟨oc0, od0, .func (PySem.W.fnOf "is_integer" "is_integer" (defArgs s_is_integer) (defBody s_is_integer) (defScope s_is_integer) .none kV0 dc0 pm0 an0 cd0 ct0), sl0⟩) (c0 : PySem.W.codeIn K cd0 "is_integer" = true) (k0 : PySem.W.keepIn K (.ref f_is_integer) = true)
    (a1 : PySem.W.nsIn K mainGlobals "is_between" = some (some (.ref f_is_between)))
    (l1 : K.lookup f_is_between = some ⟨oc1, od1, .func (PySem.W.fnOf "is_between" "is_between" (defArgs s_is_between) (defBody s_is_between) (defScope s_is_between) .none kV1 dc1 pm1 an1 cd1 ct1), sl1⟩) (c1 : PySem.W.codeIn K cd1 "is_between" = true) (k1 : PySem.W.keepIn K (.ref f_is_between) = true)
    (a2 : PySem.W.findIn K (.ref C_Watcher) "__init__" = some (some (.ref f_Watcher_init))) (i2 : PySem.W.isFn K (.ref f_Watcher_init) = true)
    (l2 : K.lookup f_Watcher_init = some ⟨oc2, od2, .func (PySem.W.fnOf "__init__" "Watcher.__init__" (defArgs s_Watcher_init) (defBody s_Watcher_init) (defScope s_Watcher_init) .none kV2 dc2 pm2 an2 cd2 ct2), sl2⟩) (c2 : PySem.W.codeIn K cd2 "Watcher.__init__" = true) (k2 : PySem.W.keepIn K (.ref f_Watcher_init) = true)
    (a3 : PySem.W.findIn K (.ref C_Watcher) "add_state" = some (some (.ref f_Watcher_add_state))) (i3 : PySem.W.isFn K (.ref f_Watcher_add_state) = true)
    (l3 : K.lookup f_Watcher_add_state = some ⟨oc3, od3, .func (PySem.W.fnOf "add_state" "Watcher.add_state" (defArgs s_Watcher_add_state) (defBody s_Watcher_add_state) (defScope s_Watcher_add_state) .none kV3 dc3 pm3 an3 cd3 ct3), sl3⟩) (c3 : PySem.W.codeIn K cd3 "Watcher.add_state" = true) (k3 : PySem.W.keepIn K (.ref f_Watcher_add_state) = true)
    (a4 : PySem.W.findIn K (.ref C_Watcher) "add_rule" = some (some (.ref f_Watcher_add_rule))) (i4 : PySem.W.isFn K (.ref f_Watcher_add_rule) = true)
    (l4 : K.lookup f_Watcher_add_rule = some ⟨oc4, od4, .func (PySem.W.fnOf "add_rule" "Watcher.add_rule" (defArgs s_Watcher_add_rule) (defBody s_Watcher_add_rule) (defScope s_Watcher_add_rule) .none kV4 dc4 pm4 an4 cd4 ct4), sl4⟩) (c4 : PySem.W.codeIn K cd4 "Watcher.add_rule" = true) (k4 : PySem.W.keepIn K (.ref f_Watcher_add_rule) = true)
    (a5 : PySem.W.findIn K (.ref C_Watcher) "held_counts" = some (some (.ref f_Watcher_held_counts))) (i5 : PySem.W.isFn K (.ref f_Watcher_held_counts) = true)
    (l5 : K.lookup f_Watcher_held_counts = some ⟨oc5, od5, .func (PySem.W.fnOf "held_counts" "Watcher.held_counts" (defArgs s_Watcher_held_counts) (defBody s_Watcher_held_counts) (defScope s_Watcher_held_counts) .none kV5 dc5 pm5 an5 cd5 ct5), sl5⟩) (c5 : PySem.W.codeIn K cd5 "Watcher.held_counts" = true) (k5 : PySem.W.keepIn K (.ref f_Watcher_held_counts) = true)
    (a6 : PySem.W.findIn K (.ref C_Watcher) "rule_for" = some (some (.ref f_Watcher_rule_for))) (i6 : PySem.W.isFn K (.ref f_Watcher_rule_for) = true)
    (l6 : K.lookup f_Watcher_rule_for = some ⟨oc6, od6, .func (PySem.W.fnOf "rule_for" "Watcher.rule_for" (defArgs s_Watcher_rule_for) (defBody s_Watcher_rule_for) (defScope s_Watcher_rule_for) .none kV6 dc6 pm6 an6 cd6 ct6), sl6⟩) (c6 : PySem.W.codeIn K cd6 "Watcher.rule_for" = true) (k6 : PySem.W.keepIn K (.ref f_Watcher_rule_for) = true)
    (a7 : PySem.W.findIn K (.ref C_Watcher) "require_state" = some (some (.ref f_Watcher_require_state))) (i7 : PySem.W.isFn K (.ref f_Watcher_require_state) = true)
    (l7 : K.lookup f_Watcher_require_state = some ⟨oc7, od7, .func (PySem.W.fnOf "require_state" "Watcher.require_state" (defArgs s_Watcher_require_state) (defBody s_Watcher_require_state) (defScope s_Watcher_require_state) .none kV7 dc7 pm7 an7 cd7 ct7), sl7⟩) (c7 : PySem.W.codeIn K cd7 "Watcher.require_state" = true) (k7 : PySem.W.keepIn K (.ref f_Watcher_require_state) = true)
    (a8 : PySem.W.findIn K (.ref C_Watcher) "require_word" = some (some (.ref f_Watcher_require_word))) (i8 : PySem.W.isFn K (.ref f_Watcher_require_word) = true)
    (l8 : K.lookup f_Watcher_require_word = some ⟨oc8, od8, .func (PySem.W.fnOf "require_word" "Watcher.require_word" (defArgs s_Watcher_require_word) (defBody s_Watcher_require_word) (defScope s_Watcher_require_word) .none kV8 dc8 pm8 an8 cd8 ct8), sl8⟩) (c8 : PySem.W.codeIn K cd8 "Watcher.require_word" = true) (k8 : PySem.W.keepIn K (.ref f_Watcher_require_word) = true)
    (a9 : PySem.W.nsIn K mainGlobals "require_verdict" = some (some (.ref f_require_verdict)))
    (l9 : K.lookup f_require_verdict = some ⟨oc9, od9, .func (PySem.W.fnOf "require_verdict" "require_verdict" (defArgs s_require_verdict) (defBody s_require_verdict) (defScope s_require_verdict) .none kV9 dc9 pm9 an9 cd9 ct9), sl9⟩) (c9 : PySem.W.codeIn K cd9 "require_verdict" = true) (k9 : PySem.W.keepIn K (.ref f_require_verdict) = true)
    (a10 : PySem.W.nsIn K mainGlobals "is_test" = some (some (.ref f_is_test)))
    (l10 : K.lookup f_is_test = some ⟨oc10, od10, .func (PySem.W.fnOf "is_test" "is_test" (defArgs s_is_test) (defBody s_is_test) (defScope s_is_test) .none kV10 dc10 pm10 an10 cd10 ct10), sl10⟩) (c10 : PySem.W.codeIn K cd10 "is_test" = true) (k10 : PySem.W.keepIn K (.ref f_is_test) = true)
    (a11 : PySem.W.nsIn K mainGlobals "are_sources" = some (some (.ref f_are_sources)))
    (l11 : K.lookup f_are_sources = some ⟨oc11, od11, .func (PySem.W.fnOf "are_sources" "are_sources" (defArgs s_are_sources) (defBody s_are_sources) (defScope s_are_sources) .none kV11 dc11 pm11 an11 cd11 ct11), sl11⟩) (c11 : PySem.W.codeIn K cd11 "are_sources" = true) (k11 : PySem.W.keepIn K (.ref f_are_sources) = true)
    (a12 : PySem.W.nsIn K mainGlobals "is_source" = some (some (.ref f_is_source)))
    (l12 : K.lookup f_is_source = some ⟨oc12, od12, .func (PySem.W.fnOf "is_source" "is_source" (defArgs s_is_source) (defBody s_is_source) (defScope s_is_source) .none kV12 dc12 pm12 an12 cd12 ct12), sl12⟩) (c12 : PySem.W.codeIn K cd12 "is_source" = true) (k12 : PySem.W.keepIn K (.ref f_is_source) = true)
    (a13 : PySem.W.nsIn K mainGlobals "after_message" = some (some (.ref f_after_message)))
    (l13 : K.lookup f_after_message = some ⟨oc13, od13, .func (PySem.W.fnOf "after_message" "after_message" (defArgs s_after_message) (defBody s_after_message) (defScope s_after_message) .none kV13 dc13 pm13 an13 cd13 ct13), sl13⟩) (c13 : PySem.W.codeIn K cd13 "after_message" = true) (k13 : PySem.W.keepIn K (.ref f_after_message) = true)
    (a14 : PySem.W.nsIn K mainGlobals "carried" = some (some (.ref f_carried)))
    (l14 : K.lookup f_carried = some ⟨oc14, od14, .func (PySem.W.fnOf "carried" "carried" (defArgs s_carried) (defBody s_carried) (defScope s_carried) .none kV14 dc14 pm14 an14 cd14 ct14), sl14⟩) (c14 : PySem.W.codeIn K cd14 "carried" = true) (k14 : PySem.W.keepIn K (.ref f_carried) = true)
    (a15 : PySem.W.nsIn K mainGlobals "reached_situations" = some (some (.ref f_reached_situations)))
    (l15 : K.lookup f_reached_situations = some ⟨oc15, od15, .func (PySem.W.fnOf "reached_situations" "reached_situations" (defArgs s_reached_situations) (defBody s_reached_situations) (defScope s_reached_situations) .none kV15 dc15 pm15 an15 cd15 ct15), sl15⟩) (c15 : PySem.W.codeIn K cd15 "reached_situations" = true) (k15 : PySem.W.keepIn K (.ref f_reached_situations) = true)
    (a16 : PySem.W.nsIn K mainGlobals "steps_from" = some (some (.ref f_steps_from)))
    (l16 : K.lookup f_steps_from = some ⟨oc16, od16, .func (PySem.W.fnOf "steps_from" "steps_from" (defArgs s_steps_from) (defBody s_steps_from) (defScope s_steps_from) .none kV16 dc16 pm16 an16 cd16 ct16), sl16⟩) (c16 : PySem.W.codeIn K cd16 "steps_from" = true) (k16 : PySem.W.keepIn K (.ref f_steps_from) = true)
    (a17 : PySem.W.nsIn K mainGlobals "steps_among" = some (some (.ref f_steps_among)))
    (l17 : K.lookup f_steps_among = some ⟨oc17, od17, .func (PySem.W.fnOf "steps_among" "steps_among" (defArgs s_steps_among) (defBody s_steps_among) (defScope s_steps_among) .none kV17 dc17 pm17 an17 cd17 ct17), sl17⟩) (c17 : PySem.W.codeIn K cd17 "steps_among" = true) (k17 : PySem.W.keepIn K (.ref f_steps_among) = true)
    (a18 : PySem.W.nsIn K mainGlobals "held_numbers" = some (some (.ref f_held_numbers)))
    (l18 : K.lookup f_held_numbers = some ⟨oc18, od18, .func (PySem.W.fnOf "held_numbers" "held_numbers" (defArgs s_held_numbers) (defBody s_held_numbers) (defScope s_held_numbers) .none kV18 dc18 pm18 an18 cd18 ct18), sl18⟩) (c18 : PySem.W.codeIn K cd18 "held_numbers" = true) (k18 : PySem.W.keepIn K (.ref f_held_numbers) = true)
    (a19 : PySem.W.nsIn K mainGlobals "equal_places" = some (some (.ref f_equal_places)))
    (l19 : K.lookup f_equal_places = some ⟨oc19, od19, .func (PySem.W.fnOf "equal_places" "equal_places" (defArgs s_equal_places) (defBody s_equal_places) (defScope s_equal_places) .none kV19 dc19 pm19 an19 cd19 ct19), sl19⟩) (c19 : PySem.W.codeIn K cd19 "equal_places" = true) (k19 : PySem.W.keepIn K (.ref f_equal_places) = true)
    (a20 : PySem.W.nsIn K mainGlobals "cases_between" = some (some (.ref f_cases_between)))
    (l20 : K.lookup f_cases_between = some ⟨oc20, od20, .func (PySem.W.fnOf "cases_between" "cases_between" (defArgs s_cases_between) (defBody s_cases_between) (defScope s_cases_between) .none kV20 dc20 pm20 an20 cd20 ct20), sl20⟩) (c20 : PySem.W.codeIn K cd20 "cases_between" = true) (k20 : PySem.W.keepIn K (.ref f_cases_between) = true)
    (a21 : PySem.W.nsIn K mainGlobals "situation_after" = some (some (.ref f_situation_after)))
    (l21 : K.lookup f_situation_after = some ⟨oc21, od21, .func (PySem.W.fnOf "situation_after" "situation_after" (defArgs s_situation_after) (defBody s_situation_after) (defScope s_situation_after) .none kV21 dc21 pm21 an21 cd21 ct21), sl21⟩) (c21 : PySem.W.codeIn K cd21 "situation_after" = true) (k21 : PySem.W.keepIn K (.ref f_situation_after) = true)
    (a22 : PySem.W.nsIn K mainGlobals "value_of" = some (some (.ref f_value_of)))
    (l22 : K.lookup f_value_of = some ⟨oc22, od22, .func (PySem.W.fnOf "value_of" "value_of" (defArgs s_value_of) (defBody s_value_of) (defScope s_value_of) .none kV22 dc22 pm22 an22 cd22 ct22), sl22⟩) (c22 : PySem.W.codeIn K cd22 "value_of" = true) (k22 : PySem.W.keepIn K (.ref f_value_of) = true)
    (a23 : PySem.W.nsIn K mainGlobals "least_other" = some (some (.ref f_least_other)))
    (l23 : K.lookup f_least_other = some ⟨oc23, od23, .func (PySem.W.fnOf "least_other" "least_other" (defArgs s_least_other) (defBody s_least_other) (defScope s_least_other) .none kV23 dc23 pm23 an23 cd23 ct23), sl23⟩) (c23 : PySem.W.codeIn K cd23 "least_other" = true) (k23 : PySem.W.keepIn K (.ref f_least_other) = true)
    (a24 : PySem.W.nsIn K mainGlobals "_law_walker" = some (some (.ref f_law_walker)))
    (l24 : K.lookup f_law_walker = some ⟨oc24, od24, .func (PySem.W.fnOf "_law_walker" "_law_walker" (defArgs s_law_walker) (defBody s_law_walker) (defScope s_law_walker) .none kV24 dc24 pm24 an24 cd24 ct24), sl24⟩) (c24 : PySem.W.codeIn K cd24 "_law_walker" = true) (k24 : PySem.W.keepIn K (.ref f_law_walker) = true)
    (a25 : PySem.W.nsIn K mainGlobals "_law_ways" = some (some (.ref f_law_ways)))
    (l25 : K.lookup f_law_ways = some ⟨oc25, od25, .func (PySem.W.fnOf "_law_ways" "_law_ways" (defArgs s_law_ways) (defBody s_law_ways) (defScope s_law_ways) .none kV25 dc25 pm25 an25 cd25 ct25), sl25⟩) (c25 : PySem.W.codeIn K cd25 "_law_ways" = true) (k25 : PySem.W.keepIn K (.ref f_law_ways) = true)
    (a26 : PySem.W.nsIn K mainGlobals "law" = some (some (.ref f_law)))
    (l26 : K.lookup f_law = some ⟨oc26, od26, .func (PySem.W.fnOf "law" "law" (defArgs s_law) (defBody s_law) (defScope s_law) .none kV26 dc26 pm26 an26 cd26 ct26), sl26⟩) (c26 : PySem.W.codeIn K cd26 "law" = true) (k26 : PySem.W.keepIn K (.ref f_law) = true)
    (wC_Watcher : PySem.W.nsIn K mainGlobals "Watcher" = some (some (.ref C_Watcher))) (pg_Watcher : PySem.W.plainGet K C_Watcher Str.empty = true) (hd_Watcher : PySem.W.hasDictIn K C_Watcher = true) (po_Watcher : PySem.W.plainOver K C_Watcher = true) (sa_Watcher : PySem.W.findIn K (.ref C_Watcher) "__setattr__" = some (some (.builtin "object.__setattr__"))) (mk_Watcher : PySem.W.makesIn K C_Watcher = true) (kc_Watcher : PySem.W.keepIn K (.ref C_Watcher) = true)
    (nf_Watcherwords : PySem.W.findIn K (.ref C_Watcher) "words" = some none)
    (nf_Watcher_verdicts : PySem.W.findIn K (.ref C_Watcher) "_verdicts" = some none)
    (nf_Watcher_held : PySem.W.findIn K (.ref C_Watcher) "_held" = some none)
    (nf_Watcher_rules : PySem.W.findIn K (.ref C_Watcher) "_rules" = some none)
    {eC0 ei0 : Addr} {nm0 eq0 : Str} {eN0 : Addr} {bs0 : List Value} {sn0 : List Str} {sub0 : List Value} {ab0 : Bool} {col0 : Option Bool} {dd0 : Option Addr} {m00 m10 m20 m30 m50 : Option Value} {eod0 ean0 : Option Addr} {esl0 : Array (Option Value)} {eoc0 edc0 epm0 ecd0 ect0 : Value}
    (eaC0 : PySem.W.nsIn K mainGlobals "NotAWord" = some (some (.ref eC0))) (exL0 : K.lookup eC0 = some (excClassObj nm0 eq0 eC0 eN0 bs0 [.type "ValueError", .type "Exception", .type "BaseException", .type "object"] true sn0 sub0 ab0 col0 dd0 m00 m10 m20 m30 m50 "ValueError.__new__"))
    (esa0 : PySem.W.findIn K (.ref eC0) "__setattr__" = some (some (.builtin "object.__setattr__"))) (ega0 : PySem.W.findIn K (.ref eC0) "__getattribute__" = some (some (.builtin "BaseException.__getattribute__"))) (egg0 : PySem.W.findIn K (.ref eC0) "__getattr__" = some none) (enb0 : PySem.W.findIn K (.ref eC0) "word" = some none)
    (ea10 : PySem.W.findIn K (.ref eC0) "__init__" = some (some (.ref ei0))) (et10 : PySem.W.typeIn K (.ref ei0) = some (.type "function"))
    (el10 : K.lookup ei0 = some ⟨eoc0, eod0, .func (PySem.W.fnOf "__init__" "NotAWord.__init__" (defArgs s_NotAWord_init) (defBody s_NotAWord_init) (defScope s_NotAWord_init) .none .none edc0 epm0 ean0 ecd0 ect0), esl0⟩) (ec10 : PySem.W.codeIn K ecd0 "NotAWord.__init__" = true)
    (ekC0 : PySem.W.keepIn K (.ref eC0) = true) (eeC0 : PySem.W.subIn K (.ref eC0) (.type "BaseException") = some true) (etC0 : PySem.W.typeIn K (.ref eC0) = some (.type "type")) (ehC0 : PySem.W.hasDictIn K eC0 = true) (eiC0 : PySem.W.isClsIn K eC0 = true) (esC0 : PySem.W.subIn K (.ref eC0) (.ref eC0) = some true)
    {eC1 ei1 : Addr} {nm1 eq1 : Str} {eN1 : Addr} {bs1 : List Value} {sn1 : List Str} {sub1 : List Value} {ab1 : Bool} {col1 : Option Bool} {dd1 : Option Addr} {m01 m11 m21 m31 m51 : Option Value} {eod1 ean1 : Option Addr} {esl1 : Array (Option Value)} {eoc1 edc1 epm1 ecd1 ect1 : Value}
    (eaC1 : PySem.W.nsIn K mainGlobals "NotAVerdict" = some (some (.ref eC1))) (exL1 : K.lookup eC1 = some (excClassObj nm1 eq1 eC1 eN1 bs1 [.type "ValueError", .type "Exception", .type "BaseException", .type "object"] true sn1 sub1 ab1 col1 dd1 m01 m11 m21 m31 m51 "ValueError.__new__"))
    (esa1 : PySem.W.findIn K (.ref eC1) "__setattr__" = some (some (.builtin "object.__setattr__"))) (ega1 : PySem.W.findIn K (.ref eC1) "__getattribute__" = some (some (.builtin "BaseException.__getattribute__"))) (egg1 : PySem.W.findIn K (.ref eC1) "__getattr__" = some none) (enb1 : PySem.W.findIn K (.ref eC1) "verdict" = some none)
    (ea11 : PySem.W.findIn K (.ref eC1) "__init__" = some (some (.ref ei1))) (et11 : PySem.W.typeIn K (.ref ei1) = some (.type "function"))
    (el11 : K.lookup ei1 = some ⟨eoc1, eod1, .func (PySem.W.fnOf "__init__" "NotAVerdict.__init__" (defArgs s_NotAVerdict_init) (defBody s_NotAVerdict_init) (defScope s_NotAVerdict_init) .none .none edc1 epm1 ean1 ecd1 ect1), esl1⟩) (ec11 : PySem.W.codeIn K ecd1 "NotAVerdict.__init__" = true)
    (ekC1 : PySem.W.keepIn K (.ref eC1) = true) (eeC1 : PySem.W.subIn K (.ref eC1) (.type "BaseException") = some true) (etC1 : PySem.W.typeIn K (.ref eC1) = some (.type "type")) (ehC1 : PySem.W.hasDictIn K eC1 = true) (eiC1 : PySem.W.isClsIn K eC1 = true) (esC1 : PySem.W.subIn K (.ref eC1) (.ref eC1) = some true)
    {eC2 ei2 : Addr} {nm2 eq2 : Str} {eN2 : Addr} {bs2 : List Value} {sn2 : List Str} {sub2 : List Value} {ab2 : Bool} {col2 : Option Bool} {dd2 : Option Addr} {m02 m12 m22 m32 m52 : Option Value} {eod2 ean2 : Option Addr} {esl2 : Array (Option Value)} {eoc2 edc2 epm2 ecd2 ect2 : Value}
    (eaC2 : PySem.W.nsIn K mainGlobals "InvalidTest" = some (some (.ref eC2))) (exL2 : K.lookup eC2 = some (excClassObj nm2 eq2 eC2 eN2 bs2 [.type "ValueError", .type "Exception", .type "BaseException", .type "object"] true sn2 sub2 ab2 col2 dd2 m02 m12 m22 m32 m52 "ValueError.__new__"))
    (esa2 : PySem.W.findIn K (.ref eC2) "__setattr__" = some (some (.builtin "object.__setattr__"))) (ega2 : PySem.W.findIn K (.ref eC2) "__getattribute__" = some (some (.builtin "BaseException.__getattribute__"))) (egg2 : PySem.W.findIn K (.ref eC2) "__getattr__" = some none) (enb2 : PySem.W.findIn K (.ref eC2) "test" = some none)
    (ea12 : PySem.W.findIn K (.ref eC2) "__init__" = some (some (.ref ei2))) (et12 : PySem.W.typeIn K (.ref ei2) = some (.type "function"))
    (el12 : K.lookup ei2 = some ⟨eoc2, eod2, .func (PySem.W.fnOf "__init__" "InvalidTest.__init__" (defArgs s_InvalidTest_init) (defBody s_InvalidTest_init) (defScope s_InvalidTest_init) .none .none edc2 epm2 ean2 ecd2 ect2), esl2⟩) (ec12 : PySem.W.codeIn K ecd2 "InvalidTest.__init__" = true)
    (ekC2 : PySem.W.keepIn K (.ref eC2) = true) (eeC2 : PySem.W.subIn K (.ref eC2) (.type "BaseException") = some true) (etC2 : PySem.W.typeIn K (.ref eC2) = some (.type "type")) (ehC2 : PySem.W.hasDictIn K eC2 = true) (eiC2 : PySem.W.isClsIn K eC2 = true) (esC2 : PySem.W.subIn K (.ref eC2) (.ref eC2) = some true)
    {eC3 ei3 : Addr} {nm3 eq3 : Str} {eN3 : Addr} {bs3 : List Value} {sn3 : List Str} {sub3 : List Value} {ab3 : Bool} {col3 : Option Bool} {dd3 : Option Addr} {m03 m13 m23 m33 m53 : Option Value} {eod3 ean3 : Option Addr} {esl3 : Array (Option Value)} {eoc3 edc3 epm3 ecd3 ect3 : Value}
    (eaC3 : PySem.W.nsIn K mainGlobals "InvalidSources" = some (some (.ref eC3))) (exL3 : K.lookup eC3 = some (excClassObj nm3 eq3 eC3 eN3 bs3 [.type "ValueError", .type "Exception", .type "BaseException", .type "object"] true sn3 sub3 ab3 col3 dd3 m03 m13 m23 m33 m53 "ValueError.__new__"))
    (esa3 : PySem.W.findIn K (.ref eC3) "__setattr__" = some (some (.builtin "object.__setattr__"))) (ega3 : PySem.W.findIn K (.ref eC3) "__getattribute__" = some (some (.builtin "BaseException.__getattribute__"))) (egg3 : PySem.W.findIn K (.ref eC3) "__getattr__" = some none) (enb3 : PySem.W.findIn K (.ref eC3) "sources" = some none)
    (ea13 : PySem.W.findIn K (.ref eC3) "__init__" = some (some (.ref ei3))) (et13 : PySem.W.typeIn K (.ref ei3) = some (.type "function"))
    (el13 : K.lookup ei3 = some ⟨eoc3, eod3, .func (PySem.W.fnOf "__init__" "InvalidSources.__init__" (defArgs s_InvalidSources_init) (defBody s_InvalidSources_init) (defScope s_InvalidSources_init) .none .none edc3 epm3 ean3 ecd3 ect3), esl3⟩) (ec13 : PySem.W.codeIn K ecd3 "InvalidSources.__init__" = true)
    (ekC3 : PySem.W.keepIn K (.ref eC3) = true) (eeC3 : PySem.W.subIn K (.ref eC3) (.type "BaseException") = some true) (etC3 : PySem.W.typeIn K (.ref eC3) = some (.type "type")) (ehC3 : PySem.W.hasDictIn K eC3 = true) (eiC3 : PySem.W.isClsIn K eC3 = true) (esC3 : PySem.W.subIn K (.ref eC3) (.ref eC3) = some true)
    {eC4 ei4 : Addr} {nm4 eq4 : Str} {eN4 : Addr} {bs4 : List Value} {sn4 : List Str} {sub4 : List Value} {ab4 : Bool} {col4 : Option Bool} {dd4 : Option Addr} {m04 m14 m24 m34 m54 : Option Value} {eod4 ean4 : Option Addr} {esl4 : Array (Option Value)} {eoc4 edc4 epm4 ecd4 ect4 : Value}
    (eaC4 : PySem.W.nsIn K mainGlobals "UnknownState" = some (some (.ref eC4))) (exL4 : K.lookup eC4 = some (excClassObj nm4 eq4 eC4 eN4 bs4 [.type "LookupError", .type "Exception", .type "BaseException", .type "object"] true sn4 sub4 ab4 col4 dd4 m04 m14 m24 m34 m54 "LookupError.__new__"))
    (esa4 : PySem.W.findIn K (.ref eC4) "__setattr__" = some (some (.builtin "object.__setattr__"))) (ega4 : PySem.W.findIn K (.ref eC4) "__getattribute__" = some (some (.builtin "BaseException.__getattribute__"))) (egg4 : PySem.W.findIn K (.ref eC4) "__getattr__" = some none) (enb4 : PySem.W.findIn K (.ref eC4) "state" = some none)
    (ea14 : PySem.W.findIn K (.ref eC4) "__init__" = some (some (.ref ei4))) (et14 : PySem.W.typeIn K (.ref ei4) = some (.type "function"))
    (el14 : K.lookup ei4 = some ⟨eoc4, eod4, .func (PySem.W.fnOf "__init__" "UnknownState.__init__" (defArgs s_UnknownState_init) (defBody s_UnknownState_init) (defScope s_UnknownState_init) .none .none edc4 epm4 ean4 ecd4 ect4), esl4⟩) (ec14 : PySem.W.codeIn K ecd4 "UnknownState.__init__" = true)
    (ekC4 : PySem.W.keepIn K (.ref eC4) = true) (eeC4 : PySem.W.subIn K (.ref eC4) (.type "BaseException") = some true) (etC4 : PySem.W.typeIn K (.ref eC4) = some (.type "type")) (ehC4 : PySem.W.hasDictIn K eC4 = true) (eiC4 : PySem.W.isClsIn K eC4 = true) (esC4 : PySem.W.subIn K (.ref eC4) (.ref eC4) = some true)
    {eC5 ei5 : Addr} {nm5 eq5 : Str} {eN5 : Addr} {bs5 : List Value} {sn5 : List Str} {sub5 : List Value} {ab5 : Bool} {col5 : Option Bool} {dd5 : Option Addr} {m05 m15 m25 m35 m55 : Option Value} {eod5 ean5 : Option Addr} {esl5 : Array (Option Value)} {eoc5 edc5 epm5 ecd5 ect5 : Value}
    (eaC5 : PySem.W.nsIn K mainGlobals "RuleExists" = some (some (.ref eC5))) (exL5 : K.lookup eC5 = some (excClassObj nm5 eq5 eC5 eN5 bs5 [.type "RuntimeError", .type "Exception", .type "BaseException", .type "object"] true sn5 sub5 ab5 col5 dd5 m05 m15 m25 m35 m55 "RuntimeError.__new__"))
    (esa5 : PySem.W.findIn K (.ref eC5) "__setattr__" = some (some (.builtin "object.__setattr__"))) (ega5 : PySem.W.findIn K (.ref eC5) "__getattribute__" = some (some (.builtin "BaseException.__getattribute__"))) (egg5 : PySem.W.findIn K (.ref eC5) "__getattr__" = some none) (enb5 : PySem.W.findIn K (.ref eC5) "rule" = some none)
    (ea15 : PySem.W.findIn K (.ref eC5) "__init__" = some (some (.ref ei5))) (et15 : PySem.W.typeIn K (.ref ei5) = some (.type "function"))
    (el15 : K.lookup ei5 = some ⟨eoc5, eod5, .func (PySem.W.fnOf "__init__" "RuleExists.__init__" (defArgs s_RuleExists_init) (defBody s_RuleExists_init) (defScope s_RuleExists_init) .none .none edc5 epm5 ean5 ecd5 ect5), esl5⟩) (ec15 : PySem.W.codeIn K ecd5 "RuleExists.__init__" = true)
    (ekC5 : PySem.W.keepIn K (.ref eC5) = true) (eeC5 : PySem.W.subIn K (.ref eC5) (.type "BaseException") = some true) (etC5 : PySem.W.typeIn K (.ref eC5) = some (.type "type")) (ehC5 : PySem.W.hasDictIn K eC5 = true) (eiC5 : PySem.W.isClsIn K eC5 = true) (esC5 : PySem.W.subIn K (.ref eC5) (.ref eC5) = some true)
    {eC6 ei6 : Addr} {nm6 eq6 : Str} {eN6 : Addr} {bs6 : List Value} {sn6 : List Str} {sub6 : List Value} {ab6 : Bool} {col6 : Option Bool} {dd6 : Option Addr} {m06 m16 m26 m36 m56 : Option Value} {eod6 ean6 : Option Addr} {esl6 : Array (Option Value)} {eoc6 edc6 epm6 ecd6 ect6 : Value}
    (eaC6 : PySem.W.nsIn K mainGlobals "LimitExceeded" = some (some (.ref eC6))) (exL6 : K.lookup eC6 = some (excClassObj nm6 eq6 eC6 eN6 bs6 [.type "OverflowError", .type "ArithmeticError", .type "Exception", .type "BaseException", .type "object"] true sn6 sub6 ab6 col6 dd6 m06 m16 m26 m36 m56 "OverflowError.__new__"))
    (esa6 : PySem.W.findIn K (.ref eC6) "__setattr__" = some (some (.builtin "object.__setattr__"))) (ega6 : PySem.W.findIn K (.ref eC6) "__getattribute__" = some (some (.builtin "BaseException.__getattribute__"))) (egg6 : PySem.W.findIn K (.ref eC6) "__getattr__" = some none) (enb6 : PySem.W.findIn K (.ref eC6) "limit" = some none)
    (ea16 : PySem.W.findIn K (.ref eC6) "__init__" = some (some (.ref ei6))) (et16 : PySem.W.typeIn K (.ref ei6) = some (.type "function"))
    (el16 : K.lookup ei6 = some ⟨eoc6, eod6, .func (PySem.W.fnOf "__init__" "LimitExceeded.__init__" (defArgs s_LimitExceeded_init) (defBody s_LimitExceeded_init) (defScope s_LimitExceeded_init) .none .none edc6 epm6 ean6 ecd6 ect6), esl6⟩) (ec16 : PySem.W.codeIn K ecd6 "LimitExceeded.__init__" = true)
    (ekC6 : PySem.W.keepIn K (.ref eC6) = true) (eeC6 : PySem.W.subIn K (.ref eC6) (.type "BaseException") = some true) (etC6 : PySem.W.typeIn K (.ref eC6) = some (.type "type")) (ehC6 : PySem.W.hasDictIn K eC6 = true) (eiC6 : PySem.W.isClsIn K eC6 = true) (esC6 : PySem.W.subIn K (.ref eC6) (.ref eC6) = some true)
    (ka_MOST_WORDS : PySem.W.nsIn K mainGlobals "MOST_WORDS" = some (some (.int 3 ck_MOST_WORDS)))
    (ka_MOST_STATES : PySem.W.nsIn K mainGlobals "MOST_STATES" = some (some (.int 6 ck_MOST_STATES)))
    (ka_MOST_HELD : PySem.W.nsIn K mainGlobals "MOST_HELD" = some (some (.int 3 ck_MOST_HELD)))
    (ka_MOST_VERDICT : PySem.W.nsIn K mainGlobals "MOST_VERDICT" = some (some (.int 3 ck_MOST_VERDICT)))
    (ka_NEW : PySem.W.nsIn K mainGlobals "NEW" = some (some (.str "new" ck_NEW)))
    (ka_VALUE : PySem.W.nsIn K mainGlobals "VALUE" = some (some (.str "value" ck_VALUE)))
    (ka_BOTH : PySem.W.nsIn K mainGlobals "BOTH" = some (some (.str "both" ck_BOTH)))
    (ka_FIRST : PySem.W.nsIn K mainGlobals "FIRST" = some (some (.str "first" ck_FIRST)))
    (ka_SECOND : PySem.W.nsIn K mainGlobals "SECOND" = some (some (.str "second" ck_SECOND)))
    (z0 : PySem.W.nsIn K mainGlobals "abs" = some none)
    (z1 : PySem.W.nsIn K mainGlobals "enumerate" = some none)
    (z2 : PySem.W.nsIn K mainGlobals "list" = some none)
    (z3 : PySem.W.nsIn K mainGlobals "len" = some none)
    (z4 : PySem.W.nsIn K mainGlobals "range" = some none)
    (z5 : PySem.W.nsIn K mainGlobals "tuple" = some none)
    (z6 : PySem.W.nsIn K mainGlobals "isinstance" = some none)
    (z7 : PySem.W.nsIn K mainGlobals "bool" = some none)
    (z8 : PySem.W.nsIn K mainGlobals "int" = some none)
    (z9 : PySem.W.nsIn K mainGlobals "sorted" = some none)
    (z10 : PySem.W.nsIn K mainGlobals "set" = some none)
    : ∃ fd : FuncData, (∀ (s : Shared) (v : Value), BindsTo s fd ⟨[v], []⟩ [("script", v)]) ∧ ∀ base : Heap, K.In base → base.Ns mainGlobals mg → FnG l.prog w K mg base CX0 7 fa fd ["script"] (sp_law K) := by
  have e := hfa.symm.trans (PySem.W.mg_of X G a26)
  cases e
  have F_is_integer := fun_mk (st := s_is_integer) l0 c0 k0
  have b_is_integer := F_is_integer.binds (ps := ["value"]) fun _ _ _ _ _ _ us hl => match us, hl with | [_], _ => rfl
  have F_is_between := fun_mk (st := s_is_between) l1 c1 k1
  have b_is_between := F_is_between.binds (ps := ["value", "low", "high"]) fun _ _ _ _ _ _ us hl => match us, hl with | [_, _, _], _ => rfl
  have F_Watcher_init := fun_mk (st := s_Watcher_init) l2 c2 k2
  have b_Watcher_init := F_Watcher_init.binds (ps := ["self", "words"]) fun _ _ _ _ _ _ us hl => match us, hl with | [_, _], _ => rfl
  have F_Watcher_add_state := fun_mk (st := s_Watcher_add_state) l3 c3 k3
  have b_Watcher_add_state := F_Watcher_add_state.binds (ps := ["self", "verdict", "held"]) fun _ _ _ _ _ _ us hl => match us, hl with | [_, _, _], _ => rfl
  have F_Watcher_add_rule := fun_mk (st := s_Watcher_add_rule) l4 c4 k4
  have b_Watcher_add_rule := F_Watcher_add_rule.binds (ps := ["self", "state", "word", "test", "target", "sources"]) fun _ _ _ _ _ _ us hl => match us, hl with | [_, _, _, _, _, _], _ => rfl
  have F_Watcher_held_counts := fun_mk (st := s_Watcher_held_counts) l5 c5 k5
  have b_Watcher_held_counts := F_Watcher_held_counts.binds (ps := ["self"]) fun _ _ _ _ _ _ us hl => match us, hl with | [_], _ => rfl
  have F_Watcher_rule_for := fun_mk (st := s_Watcher_rule_for) l6 c6 k6
  have b_Watcher_rule_for := F_Watcher_rule_for.binds (ps := ["self", "state", "word", "test"]) fun _ _ _ _ _ _ us hl => match us, hl with | [_, _, _, _], _ => rfl
  have F_Watcher_require_state := fun_mk (st := s_Watcher_require_state) l7 c7 k7
  have b_Watcher_require_state := F_Watcher_require_state.binds (ps := ["self", "state"]) fun _ _ _ _ _ _ us hl => match us, hl with | [_, _], _ => rfl
  have F_Watcher_require_word := fun_mk (st := s_Watcher_require_word) l8 c8 k8
  have b_Watcher_require_word := F_Watcher_require_word.binds (ps := ["self", "word"]) fun _ _ _ _ _ _ us hl => match us, hl with | [_, _], _ => rfl
  have F_require_verdict := fun_mk (st := s_require_verdict) l9 c9 k9
  have b_require_verdict := F_require_verdict.binds (ps := ["verdict"]) fun _ _ _ _ _ _ us hl => match us, hl with | [_], _ => rfl
  have F_is_test := fun_mk (st := s_is_test) l10 c10 k10
  have b_is_test := F_is_test.binds (ps := ["test", "held"]) fun _ _ _ _ _ _ us hl => match us, hl with | [_, _], _ => rfl
  have F_are_sources := fun_mk (st := s_are_sources) l11 c11 k11
  have b_are_sources := F_are_sources.binds (ps := ["sources", "wanted", "held", "test"]) fun _ _ _ _ _ _ us hl => match us, hl with | [_, _, _, _], _ => rfl
  have F_is_source := fun_mk (st := s_is_source) l12 c12 k12
  have b_is_source := F_is_source.binds (ps := ["source", "held", "test"]) fun _ _ _ _ _ _ us hl => match us, hl with | [_, _, _], _ => rfl
  have F_after_message := fun_mk (st := s_after_message) l13 c13 k13
  have b_after_message := F_after_message.binds (ps := ["watcher", "state", "held", "word", "value"]) fun _ _ _ _ _ _ us hl => match us, hl with | [_, _, _, _, _], _ => rfl
  have F_carried := fun_mk (st := s_carried) l14 c14 k14
  have b_carried := F_carried.binds (ps := ["sources", "held", "value"]) fun _ _ _ _ _ _ us hl => match us, hl with | [_, _, _], _ => rfl
  have F_reached_situations := fun_mk (st := s_reached_situations) l15 c15 k15
  have b_reached_situations := F_reached_situations.binds (ps := ["pair", "situation"]) fun _ _ _ _ _ _ us hl => match us, hl with | [_, _], _ => rfl
  have F_steps_from := fun_mk (st := s_steps_from) l16 c16 k16
  have b_steps_from := F_steps_from.binds (ps := ["pair", "situation"]) fun _ _ _ _ _ _ us hl => match us, hl with | [_, _], _ => rfl
  have F_steps_among := fun_mk (st := s_steps_among) l17 c17 k17
  have b_steps_among := F_steps_among.binds (ps := ["pair", "situations"]) fun _ _ _ _ _ _ us hl => match us, hl with | [_, _], _ => rfl
  have F_held_numbers := fun_mk (st := s_held_numbers) l18 c18 k18
  have b_held_numbers := F_held_numbers.binds (ps := ["pair", "situation"]) fun _ _ _ _ _ _ us hl => match us, hl with | [_, _], _ => rfl
  have F_equal_places := fun_mk (st := s_equal_places) l19 c19 k19
  have b_equal_places := F_equal_places.binds (ps := ["first", "second"]) fun _ _ _ _ _ _ us hl => match us, hl with | [_, _], _ => rfl
  have F_cases_between := fun_mk (st := s_cases_between) l20 c20 k20
  have b_cases_between := F_cases_between.binds (ps := ["first", "second"]) fun _ _ _ _ _ _ us hl => match us, hl with | [_, _], _ => rfl
  have F_situation_after := fun_mk (st := s_situation_after) l21 c21 k21
  have b_situation_after := F_situation_after.binds (ps := ["pair", "situation", "held", "word", "case"]) fun _ _ _ _ _ _ us hl => match us, hl with | [_, _, _, _, _], _ => rfl
  have F_value_of := fun_mk (st := s_value_of) l22 c22 k22
  have b_value_of := F_value_of.binds (ps := ["case", "first", "second"]) fun _ _ _ _ _ _ us hl => match us, hl with | [_, _, _], _ => rfl
  have F_least_other := fun_mk (st := s_least_other) l23 c23 k23
  have b_least_other := F_least_other.binds (ps := ["values"]) fun _ _ _ _ _ _ us hl => match us, hl with | [_], _ => rfl
  have F_law_walker := fun_mk (st := s_law_walker) l24 c24 k24
  have b_law_walker := F_law_walker.binds (ps := ["many", "held", "word", "is_first"]) fun _ _ _ _ _ _ us hl => match us, hl with | [_, _, _, _], _ => rfl
  have F_law_ways := fun_mk (st := s_law_ways) l25 c25 k25
  have b_law_ways := F_law_ways.binds (ps := ["lefts", "rights"]) fun _ _ _ _ _ _ us hl => match us, hl with | [_, _], _ => rfl
  have F_law := fun_mk (st := s_law) l26 c26 k26
  have T_NotAWord : L2.ErrOk OwnE.bVE "NotAWord" "word" "NotAWord.__init__" K mg eC0 ei0 := ⟨OwnE.bVE_ok, { gC := PySem.W.mg_of X G eaC0, cls := ⟨nm0, eq0, eN0, bs0, _, sn0, sub0, ab0, col0, dd0, m00, m10, m20, m30, m50, exL0, by decide +kernel⟩, sa := esa0, ga := ega0, gg := egg0, noN := enb0, iC := ea10, tC := et10, kC := ekC0, exC := eeC0, tyC := etC0, hdC := ehC0, te := OwnE.exm_own eeC0 eiC0 etC0 esC0, fn := ⟨eoc0, eod0, edc0, epm0, ean0, ecd0, ect0, esl0, _, _, _, _, _, _, defScope s_NotAWord_init, el10, ec10, rfl, by decide +kernel, by decide +kernel, rfl, rfl⟩ }, by decide, by decide, fun _ _ _ _ _ _ _ _ _ _ _ _ _ _ _ _ => by first | rfl | with_unfolding_all rfl⟩
  have T_NotAVerdict : L2.ErrOk OwnE.bVE "NotAVerdict" "verdict" "NotAVerdict.__init__" K mg eC1 ei1 := ⟨OwnE.bVE_ok, { gC := PySem.W.mg_of X G eaC1, cls := ⟨nm1, eq1, eN1, bs1, _, sn1, sub1, ab1, col1, dd1, m01, m11, m21, m31, m51, exL1, by decide +kernel⟩, sa := esa1, ga := ega1, gg := egg1, noN := enb1, iC := ea11, tC := et11, kC := ekC1, exC := eeC1, tyC := etC1, hdC := ehC1, te := OwnE.exm_own eeC1 eiC1 etC1 esC1, fn := ⟨eoc1, eod1, edc1, epm1, ean1, ecd1, ect1, esl1, _, _, _, _, _, _, defScope s_NotAVerdict_init, el11, ec11, rfl, by decide +kernel, by decide +kernel, rfl, rfl⟩ }, by decide, by decide, fun _ _ _ _ _ _ _ _ _ _ _ _ _ _ _ _ => by first | rfl | with_unfolding_all rfl⟩
  have T_InvalidTest : L2.ErrOk OwnE.bVE "InvalidTest" "test" "InvalidTest.__init__" K mg eC2 ei2 := ⟨OwnE.bVE_ok, { gC := PySem.W.mg_of X G eaC2, cls := ⟨nm2, eq2, eN2, bs2, _, sn2, sub2, ab2, col2, dd2, m02, m12, m22, m32, m52, exL2, by decide +kernel⟩, sa := esa2, ga := ega2, gg := egg2, noN := enb2, iC := ea12, tC := et12, kC := ekC2, exC := eeC2, tyC := etC2, hdC := ehC2, te := OwnE.exm_own eeC2 eiC2 etC2 esC2, fn := ⟨eoc2, eod2, edc2, epm2, ean2, ecd2, ect2, esl2, _, _, _, _, _, _, defScope s_InvalidTest_init, el12, ec12, rfl, by decide +kernel, by decide +kernel, rfl, rfl⟩ }, by decide, by decide, fun _ _ _ _ _ _ _ _ _ _ _ _ _ _ _ _ => by first | rfl | with_unfolding_all rfl⟩
  have T_InvalidSources : L2.ErrOk OwnE.bVE "InvalidSources" "sources" "InvalidSources.__init__" K mg eC3 ei3 := ⟨OwnE.bVE_ok, { gC := PySem.W.mg_of X G eaC3, cls := ⟨nm3, eq3, eN3, bs3, _, sn3, sub3, ab3, col3, dd3, m03, m13, m23, m33, m53, exL3, by decide +kernel⟩, sa := esa3, ga := ega3, gg := egg3, noN := enb3, iC := ea13, tC := et13, kC := ekC3, exC := eeC3, tyC := etC3, hdC := ehC3, te := OwnE.exm_own eeC3 eiC3 etC3 esC3, fn := ⟨eoc3, eod3, edc3, epm3, ean3, ecd3, ect3, esl3, _, _, _, _, _, _, defScope s_InvalidSources_init, el13, ec13, rfl, by decide +kernel, by decide +kernel, rfl, rfl⟩ }, by decide, by decide, fun _ _ _ _ _ _ _ _ _ _ _ _ _ _ _ _ => by first | rfl | with_unfolding_all rfl⟩
  have T_UnknownState : L2.ErrOk OwnE.bLE "UnknownState" "state" "UnknownState.__init__" K mg eC4 ei4 := ⟨OwnE.bLE_ok, { gC := PySem.W.mg_of X G eaC4, cls := ⟨nm4, eq4, eN4, bs4, _, sn4, sub4, ab4, col4, dd4, m04, m14, m24, m34, m54, exL4, by decide +kernel⟩, sa := esa4, ga := ega4, gg := egg4, noN := enb4, iC := ea14, tC := et14, kC := ekC4, exC := eeC4, tyC := etC4, hdC := ehC4, te := OwnE.exm_own eeC4 eiC4 etC4 esC4, fn := ⟨eoc4, eod4, edc4, epm4, ean4, ecd4, ect4, esl4, _, _, _, _, _, _, defScope s_UnknownState_init, el14, ec14, rfl, by decide +kernel, by decide +kernel, rfl, rfl⟩ }, by decide, by decide, fun _ _ _ _ _ _ _ _ _ _ _ _ _ _ _ _ => by first | rfl | with_unfolding_all rfl⟩
  have T_RuleExists : L2.ErrOk OwnE.bRE "RuleExists" "rule" "RuleExists.__init__" K mg eC5 ei5 := ⟨OwnE.bRE_ok, { gC := PySem.W.mg_of X G eaC5, cls := ⟨nm5, eq5, eN5, bs5, _, sn5, sub5, ab5, col5, dd5, m05, m15, m25, m35, m55, exL5, by decide +kernel⟩, sa := esa5, ga := ega5, gg := egg5, noN := enb5, iC := ea15, tC := et15, kC := ekC5, exC := eeC5, tyC := etC5, hdC := ehC5, te := OwnE.exm_own eeC5 eiC5 etC5 esC5, fn := ⟨eoc5, eod5, edc5, epm5, ean5, ecd5, ect5, esl5, _, _, _, _, _, _, defScope s_RuleExists_init, el15, ec15, rfl, by decide +kernel, by decide +kernel, rfl, rfl⟩ }, by decide, by decide, fun _ _ _ _ _ _ _ _ _ _ _ _ _ _ _ _ => by first | rfl | with_unfolding_all rfl⟩
  have T_LimitExceeded : L2.ErrOk OwnE.bOE "LimitExceeded" "limit" "LimitExceeded.__init__" K mg eC6 ei6 := ⟨OwnE.bOE_ok, { gC := PySem.W.mg_of X G eaC6, cls := ⟨nm6, eq6, eN6, bs6, _, sn6, sub6, ab6, col6, dd6, m06, m16, m26, m36, m56, exL6, by decide +kernel⟩, sa := esa6, ga := ega6, gg := egg6, noN := enb6, iC := ea16, tC := et16, kC := ekC6, exC := eeC6, tyC := etC6, hdC := ehC6, te := OwnE.exm_own eeC6 eiC6 etC6 esC6, fn := ⟨eoc6, eod6, edc6, epm6, ean6, ecd6, ect6, esl6, _, _, _, _, _, _, defScope s_LimitExceeded_init, el16, ec16, rfl, by decide +kernel, by decide +kernel, rfl, rfl⟩ }, by decide, by decide, fun _ _ _ _ _ _ _ _ _ _ _ _ _ _ _ _ => by first | rfl | with_unfolding_all rfl⟩
  have T : Tx K mg := {
    Watcher := ⟨C_Watcher, ⟨pg_Watcher, hd_Watcher, po_Watcher, sa_Watcher⟩, PySem.W.mg_of X G wC_Watcher⟩
    nf_Watcherwords := nf_Watcherwords
    nf_Watcher_verdicts := nf_Watcher_verdicts
    nf_Watcher_held := nf_Watcher_held
    nf_Watcher_rules := nf_Watcher_rules
    is_integer := ⟨f_is_integer, _, F_is_integer, b_is_integer, PySem.W.mg_of X G a0⟩
    is_between := ⟨f_is_between, _, F_is_between, b_is_between, PySem.W.mg_of X G a1⟩
    Watcher_init := ⟨f_Watcher_init, _, F_Watcher_init, b_Watcher_init, ⟨a2, i2, k2⟩⟩
    Watcher_add_state := ⟨f_Watcher_add_state, _, F_Watcher_add_state, b_Watcher_add_state, ⟨a3, i3, k3⟩⟩
    Watcher_add_rule := ⟨f_Watcher_add_rule, _, F_Watcher_add_rule, b_Watcher_add_rule, ⟨a4, i4, k4⟩⟩
    Watcher_held_counts := ⟨f_Watcher_held_counts, _, F_Watcher_held_counts, b_Watcher_held_counts, ⟨a5, i5, k5⟩⟩
    Watcher_rule_for := ⟨f_Watcher_rule_for, _, F_Watcher_rule_for, b_Watcher_rule_for, ⟨a6, i6, k6⟩⟩
    Watcher_require_state := ⟨f_Watcher_require_state, _, F_Watcher_require_state, b_Watcher_require_state, ⟨a7, i7, k7⟩⟩
    Watcher_require_word := ⟨f_Watcher_require_word, _, F_Watcher_require_word, b_Watcher_require_word, ⟨a8, i8, k8⟩⟩
    require_verdict := ⟨f_require_verdict, _, F_require_verdict, b_require_verdict, PySem.W.mg_of X G a9⟩
    is_test := ⟨f_is_test, _, F_is_test, b_is_test, PySem.W.mg_of X G a10⟩
    are_sources := ⟨f_are_sources, _, F_are_sources, b_are_sources, PySem.W.mg_of X G a11⟩
    is_source := ⟨f_is_source, _, F_is_source, b_is_source, PySem.W.mg_of X G a12⟩
    after_message := ⟨f_after_message, _, F_after_message, b_after_message, PySem.W.mg_of X G a13⟩
    carried := ⟨f_carried, _, F_carried, b_carried, PySem.W.mg_of X G a14⟩
    reached_situations := ⟨f_reached_situations, _, F_reached_situations, b_reached_situations, PySem.W.mg_of X G a15⟩
    steps_from := ⟨f_steps_from, _, F_steps_from, b_steps_from, PySem.W.mg_of X G a16⟩
    steps_among := ⟨f_steps_among, _, F_steps_among, b_steps_among, PySem.W.mg_of X G a17⟩
    held_numbers := ⟨f_held_numbers, _, F_held_numbers, b_held_numbers, PySem.W.mg_of X G a18⟩
    equal_places := ⟨f_equal_places, _, F_equal_places, b_equal_places, PySem.W.mg_of X G a19⟩
    cases_between := ⟨f_cases_between, _, F_cases_between, b_cases_between, PySem.W.mg_of X G a20⟩
    situation_after := ⟨f_situation_after, _, F_situation_after, b_situation_after, PySem.W.mg_of X G a21⟩
    value_of := ⟨f_value_of, _, F_value_of, b_value_of, PySem.W.mg_of X G a22⟩
    least_other := ⟨f_least_other, _, F_least_other, b_least_other, PySem.W.mg_of X G a23⟩
    law_walker := ⟨f_law_walker, _, F_law_walker, b_law_walker, PySem.W.mg_of X G a24⟩
    law_ways := ⟨f_law_ways, _, F_law_ways, b_law_ways, PySem.W.mg_of X G a25⟩
    mk_Watcher := ⟨mk_Watcher, a2, i2, kc_Watcher⟩
    NotAWord := ⟨eC0, ei0, T_NotAWord⟩
    NotAVerdict := ⟨eC1, ei1, T_NotAVerdict⟩
    InvalidTest := ⟨eC2, ei2, T_InvalidTest⟩
    InvalidSources := ⟨eC3, ei3, T_InvalidSources⟩
    UnknownState := ⟨eC4, ei4, T_UnknownState⟩
    RuleExists := ⟨eC5, ei5, T_RuleExists⟩
    LimitExceeded := ⟨eC6, ei6, T_LimitExceeded⟩
    ck_MOST_WORDS := ck_MOST_WORDS
    g_MOST_WORDS := PySem.W.mg_of X G ka_MOST_WORDS
    ck_MOST_STATES := ck_MOST_STATES
    g_MOST_STATES := PySem.W.mg_of X G ka_MOST_STATES
    ck_MOST_HELD := ck_MOST_HELD
    g_MOST_HELD := PySem.W.mg_of X G ka_MOST_HELD
    ck_MOST_VERDICT := ck_MOST_VERDICT
    g_MOST_VERDICT := PySem.W.mg_of X G ka_MOST_VERDICT
    ck_NEW := ck_NEW
    g_NEW := PySem.W.mg_of X G ka_NEW
    ck_VALUE := ck_VALUE
    g_VALUE := PySem.W.mg_of X G ka_VALUE
    ck_BOTH := ck_BOTH
    g_BOTH := PySem.W.mg_of X G ka_BOTH
    ck_FIRST := ck_FIRST
    g_FIRST := PySem.W.mg_of X G ka_FIRST
    ck_SECOND := ck_SECOND
    g_SECOND := PySem.W.mg_of X G ka_SECOND
    m_abs := PySem.W.mg_none_of X G z0
    m_enumerate := PySem.W.mg_none_of X G z1
    m_list := PySem.W.mg_none_of X G z2
    m_len := PySem.W.mg_none_of X G z3
    m_range := PySem.W.mg_none_of X G z4
    m_tuple := PySem.W.mg_none_of X G z5
    m_isinstance := PySem.W.mg_none_of X G z6
    m_bool := PySem.W.mg_none_of X G z7
    m_int := PySem.W.mg_none_of X G z8
    m_sorted := PySem.W.mg_none_of X G z9
    m_set := PySem.W.mg_none_of X G z10 }
  exact ⟨PySem.W.fnOf "law" "law" (defArgs s_law) (defBody s_law) (defScope s_law) .none kV26 dc26 pm26 an26 cd26 ct26, fun s v => .of_eq rfl, fun base _ _ => ok_law T F_law⟩
theorem walk {l : PySem.W.OpenLaw} {q : Program} {loose : List Str} {XP : (Str → Option Value) → Heap → Prop} {YP : World → Heap → Prop} {d : DefRec} {K : Params → PySem.W.Frag} (hn : l.most = some 63) (hdf : d.params.defaults = [])
    (hY : ∀ (w : World) (h : Heap), YP w h → (K w.params).In h)
    (F : ∀ (w : World) (mg : Str → Option Value) (fa : Addr) (h : Heap), (K w.params).In h → h.Ns mainGlobals mg → mg d.name = some (.ref fa) →
      ∃ fd : FuncData, (∀ (s : Shared) (u : Value), BindsTo s fd ⟨[u], []⟩ [("script", u)]) ∧ ∀ base : Heap, (K w.params).In base → base.Ns mainGlobals mg → FnG l.prog w (K w.params) mg base CX0 7 fa fd ["script"] (sp_law (K w.params))) :
    PySem.W.WalkO q loose XP YP l.row.toRowW d [] (fun f vs => PySem.call f vs) :=
  walk_ofG (n := 63) (k := 7) (x := "script") (sp := sp_law) hn (by decide) hdf ⟨rfl, by decide, by decide⟩ hY F fun _ _ a ns hl hb _ hS => ⟨a, ns, rfl, hS, hl, fun _ => rfl⟩
end Sb
open PySem PySem.W PyProof.Rows
set_option maxRecDepth 100000 in
set_option maxHeartbeats 0 in
theorem PySem.Challenge.cw_seenbefore_k96_many_situations_by_hand_holds : PySem.Challenge.rw_seenbefore_k96_many_situations_by_hand.Holds := by
  w_on; o_law; k_head; (case hw => w_witness2)
  k_fill
  refine Sb.walk (l := PySem.Challenge.rw_seenbefore_k96_many_situations_by_hand) rfl rfl (fun w h Y => PySem.W.kIn_of Y) ?F
  case F =>
    intro w mg fa h KX G hmg
    refine' Sb.all_mk KX G hmg ?a0 ?l0 ?c0 ?k0 ?a1 ?l1 ?c1 ?k1 ?a2 ?i2 ?l2 ?c2 ?k2 ?a3 ?i3 ?l3 ?c3 ?k3 ?a4 ?i4 ?l4 ?c4 ?k4 ?a5 ?i5 ?l5 ?c5 ?k5 ?a6 ?i6 ?l6 ?c6 ?k6 ?a7 ?i7 ?l7 ?c7 ?k7 ?a8 ?i8 ?l8 ?c8 ?k8 ?a9 ?l9 ?c9 ?k9 ?a10 ?l10 ?c10 ?k10 ?a11 ?l11 ?c11 ?k11 ?a12 ?l12 ?c12 ?k12 ?a13 ?l13 ?c13 ?k13 ?a14 ?l14 ?c14 ?k14 ?a15 ?l15 ?c15 ?k15 ?a16 ?l16 ?c16 ?k16 ?a17 ?l17 ?c17 ?k17 ?a18 ?l18 ?c18 ?k18 ?a19 ?l19 ?c19 ?k19 ?a20 ?l20 ?c20 ?k20 ?a21 ?l21 ?c21 ?k21 ?a22 ?l22 ?c22 ?k22 ?a23 ?l23 ?c23 ?k23 ?a24 ?l24 ?c24 ?k24 ?a25 ?l25 ?c25 ?k25 ?a26 ?l26 ?c26 ?k26 ?wC_Watcher ?pg_Watcher ?hd_Watcher ?po_Watcher ?sa_Watcher ?mk_Watcher ?kc_Watcher ?nf_Watcherwords ?nf_Watcher_verdicts ?nf_Watcher_held ?nf_Watcher_rules ?eaC0 ?exL0 ?esa0 ?ega0 ?egg0 ?enb0 ?ea10 ?et10 ?el10 ?ec10 ?ekC0 ?eeC0 ?etC0 ?ehC0 ?eiC0 ?esC0 ?eaC1 ?exL1 ?esa1 ?ega1 ?egg1 ?enb1 ?ea11 ?et11 ?el11 ?ec11 ?ekC1 ?eeC1 ?etC1 ?ehC1 ?eiC1 ?esC1 ?eaC2 ?exL2 ?esa2 ?ega2 ?egg2 ?enb2 ?ea12 ?et12 ?el12 ?ec12 ?ekC2 ?eeC2 ?etC2 ?ehC2 ?eiC2 ?esC2 ?eaC3 ?exL3 ?esa3 ?ega3 ?egg3 ?enb3 ?ea13 ?et13 ?el13 ?ec13 ?ekC3 ?eeC3 ?etC3 ?ehC3 ?eiC3 ?esC3 ?eaC4 ?exL4 ?esa4 ?ega4 ?egg4 ?enb4 ?ea14 ?et14 ?el14 ?ec14 ?ekC4 ?eeC4 ?etC4 ?ehC4 ?eiC4 ?esC4 ?eaC5 ?exL5 ?esa5 ?ega5 ?egg5 ?enb5 ?ea15 ?et15 ?el15 ?ec15 ?ekC5 ?eeC5 ?etC5 ?ehC5 ?eiC5 ?esC5 ?eaC6 ?exL6 ?esa6 ?ega6 ?egg6 ?enb6 ?ea16 ?et16 ?el16 ?ec16 ?ekC6 ?eeC6 ?etC6 ?ehC6 ?eiC6 ?esC6 ?ka_MOST_WORDS ?ka_MOST_STATES ?ka_MOST_HELD ?ka_MOST_VERDICT ?ka_NEW ?ka_VALUE ?ka_BOTH ?ka_FIRST ?ka_SECOND ?z0 ?z1 ?z2 ?z3 ?z4 ?z5 ?z6 ?z7 ?z8 ?z9 ?z10
    case wC_Watcher => k_is
    case a0 => k_is
    case l0 => k_is
    case c0 => k_is
    case k0 => k_is
    case a1 => k_is
    case l1 => k_is
    case c1 => k_is
    case k1 => k_is
    case a2 => k_is
    case i2 => k_is
    case l2 => k_is
    case c2 => k_is
    case k2 => k_is
    case a3 => k_is
    case i3 => k_is
    case l3 => k_is
    case c3 => k_is
    case k3 => k_is
    case a4 => k_is
    case i4 => k_is
    case l4 => k_is
    case c4 => k_is
    case k4 => k_is
    case a5 => k_is
    case i5 => k_is
    case l5 => k_is
    case c5 => k_is
    case k5 => k_is
    case a6 => k_is
    case i6 => k_is
    case l6 => k_is
    case c6 => k_is
    case k6 => k_is
    case a7 => k_is
    case i7 => k_is
    case l7 => k_is
    case c7 => k_is
    case k7 => k_is
    case a8 => k_is
    case i8 => k_is
    case l8 => k_is
    case c8 => k_is
    case k8 => k_is
    case a9 => k_is
    case l9 => k_is
    case c9 => k_is
    case k9 => k_is
    case a10 => k_is
    case l10 => k_is
    case c10 => k_is
    case k10 => k_is
    case a11 => k_is
    case l11 => k_is
    case c11 => k_is
    case k11 => k_is
    case a12 => k_is
    case l12 => k_is
    case c12 => k_is
    case k12 => k_is
    case a13 => k_is
    case l13 => k_is
    case c13 => k_is
    case k13 => k_is
    case a14 => k_is
    case l14 => k_is
    case c14 => k_is
    case k14 => k_is
    case a15 => k_is
    case l15 => k_is
    case c15 => k_is
    case k15 => k_is
    case a16 => k_is
    case l16 => k_is
    case c16 => k_is
    case k16 => k_is
    case a17 => k_is
    case l17 => k_is
    case c17 => k_is
    case k17 => k_is
    case a18 => k_is
    case l18 => k_is
    case c18 => k_is
    case k18 => k_is
    case a19 => k_is
    case l19 => k_is
    case c19 => k_is
    case k19 => k_is
    case a20 => k_is
    case l20 => k_is
    case c20 => k_is
    case k20 => k_is
    case a21 => k_is
    case l21 => k_is
    case c21 => k_is
    case k21 => k_is
    case a22 => k_is
    case l22 => k_is
    case c22 => k_is
    case k22 => k_is
    case a23 => k_is
    case l23 => k_is
    case c23 => k_is
    case k23 => k_is
    case a24 => k_is
    case l24 => k_is
    case c24 => k_is
    case k24 => k_is
    case a25 => k_is
    case l25 => k_is
    case c25 => k_is
    case k25 => k_is
    case a26 => k_is
    case l26 => k_is
    case c26 => k_is
    case k26 => k_is
    case pg_Watcher => k_is
    case hd_Watcher => k_is
    case po_Watcher => k_is
    case sa_Watcher => k_is
    case mk_Watcher => k_is
    case kc_Watcher => k_is
    case nf_Watcherwords => k_is
    case nf_Watcher_verdicts => k_is
    case nf_Watcher_held => k_is
    case nf_Watcher_rules => k_is
    case eaC0 => k_is
    case exL0 => k_is
    case esa0 => k_is
    case ega0 => k_is
    case egg0 => k_is
    case enb0 => k_is
    case ea10 => k_is
    case et10 => k_is
    case el10 => k_is
    case ec10 => k_is
    case ekC0 => k_is
    case eeC0 => k_is
    case etC0 => k_is
    case ehC0 => k_is
    case eiC0 => k_is
    case esC0 => first | rfl | k_is
    case eaC1 => k_is
    case exL1 => k_is
    case esa1 => k_is
    case ega1 => k_is
    case egg1 => k_is
    case enb1 => k_is
    case ea11 => k_is
    case et11 => k_is
    case el11 => k_is
    case ec11 => k_is
    case ekC1 => k_is
    case eeC1 => k_is
    case etC1 => k_is
    case ehC1 => k_is
    case eiC1 => k_is
    case esC1 => first | rfl | k_is
    case eaC2 => k_is
    case exL2 => k_is
    case esa2 => k_is
    case ega2 => k_is
    case egg2 => k_is
    case enb2 => k_is
    case ea12 => k_is
    case et12 => k_is
    case el12 => k_is
    case ec12 => k_is
    case ekC2 => k_is
    case eeC2 => k_is
    case etC2 => k_is
    case ehC2 => k_is
    case eiC2 => k_is
    case esC2 => first | rfl | k_is
    case eaC3 => k_is
    case exL3 => k_is
    case esa3 => k_is
    case ega3 => k_is
    case egg3 => k_is
    case enb3 => k_is
    case ea13 => k_is
    case et13 => k_is
    case el13 => k_is
    case ec13 => k_is
    case ekC3 => k_is
    case eeC3 => k_is
    case etC3 => k_is
    case ehC3 => k_is
    case eiC3 => k_is
    case esC3 => first | rfl | k_is
    case eaC4 => k_is
    case exL4 => k_is
    case esa4 => k_is
    case ega4 => k_is
    case egg4 => k_is
    case enb4 => k_is
    case ea14 => k_is
    case et14 => k_is
    case el14 => k_is
    case ec14 => k_is
    case ekC4 => k_is
    case eeC4 => k_is
    case etC4 => k_is
    case ehC4 => k_is
    case eiC4 => k_is
    case esC4 => first | rfl | k_is
    case eaC5 => k_is
    case exL5 => k_is
    case esa5 => k_is
    case ega5 => k_is
    case egg5 => k_is
    case enb5 => k_is
    case ea15 => k_is
    case et15 => k_is
    case el15 => k_is
    case ec15 => k_is
    case ekC5 => k_is
    case eeC5 => k_is
    case etC5 => k_is
    case ehC5 => k_is
    case eiC5 => k_is
    case esC5 => first | rfl | k_is
    case eaC6 => k_is
    case exL6 => k_is
    case esa6 => k_is
    case ega6 => k_is
    case egg6 => k_is
    case enb6 => k_is
    case ea16 => k_is
    case et16 => k_is
    case el16 => k_is
    case ec16 => k_is
    case ekC6 => k_is
    case eeC6 => k_is
    case etC6 => k_is
    case ehC6 => k_is
    case eiC6 => k_is
    case esC6 => first | rfl | k_is
    case ka_MOST_WORDS => k_is
    case ka_MOST_STATES => k_is
    case ka_MOST_HELD => k_is
    case ka_MOST_VERDICT => k_is
    case ka_NEW => k_is
    case ka_VALUE => k_is
    case ka_BOTH => k_is
    case ka_FIRST => k_is
    case ka_SECOND => k_is
    case z0 => k_is
    case z1 => k_is
    case z2 => k_is
    case z3 => k_is
    case z4 => k_is
    case z5 => k_is
    case z6 => k_is
    case z7 => k_is
    case z8 => k_is
    case z9 => k_is
    case z10 => k_is
