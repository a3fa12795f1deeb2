import PyProof.Rows.All
import Wide.All
import OpenK.AllK
import Wide.FinOn
import HandS.ForMost
import HandS.ExcOwn
import HandS.EndBits
import HandS.Codes
import HandS.Wide
import HandS.TupAny
import HandS.ForExc
import HandS.IsInst
import HandS.Strs
import HandS.SetKeys
import HandS.TupMul
import HandS.TryMany
import HandS.DictComp
import HandS.Conv
import HandS.SortKw
import KE.KExcInit
import KE.SortKeyHeap
import KE.KDictSum
import PyProof.NeData
import PyProof.EqKinds
import OpenK.KMake
import HandS.TupLen
import HandS.Walk
import HandS.Iter
import KE.KDictDisplayH
import HandS.DictTup
import HandS.ListItems
import KE.KDictItemsList
import HandS.SortInts
import HandS.More
import HandS.Lambda
import KE.SortData
import PyProof.Rows.SortWalk
import KE.KNestM
import HandS.Zip
import KE.GoesMore
import KE.GoesEnum
import HandS.Style
import PySem.Challenge.RW_seenbefore_k06_watchers_edited
set_option Elab.async false
set_option linter.all false
set_option maxRecDepth 100000
set_option maxHeartbeats 4000000

/-! Promises of defs where no repr is under way (guards = []): so the repr of made data is known to the sign. -/
namespace Sb
open PySem PySem.Spec PyProof.Rows L2
/-- as FnOk, for calls around which no repr is under way -/
structure FnG (P : Program) (w : World) (K : PySem.W.Frag) (mg : Str → Option Value) (base : Heap) (CX : CXT) (k : Nat) (f : Addr)
    (fd : FuncData) (ps : List Str) (sp : Sp) : Prop where
  len : ∀ vs H Q E, sp vs H Q E → vs.length = ps.length
  run : ∀ (A : Around) (outer : List Env) (s : Shared) (H : Hp) (args : Args) (us : List Value) (vs : List V) (Q : VK) (E : XK),
    A.guards = some [] → Room k A → Env0 P w K mg base A outer s H → BindsTo s fd args (ps.zip us) → Vals vs us → sp vs H Q E →
    codeAny (model P w) A (.call (.ref f) args) (CR CX outer P w H s Q E) s
section
variable {P : Program} {w : World} {K : PySem.W.Frag} {mg : Str → Option Value} {base : Heap} {CX : CXT} {k : Nat} {f : Addr}
theorem FnG.mono {j : Nat} {fd : FuncData} {ps : List Str} {sp : Sp} (F : FnG P w K mg base CX j f fd ps sp) (h : j ≤ k) : FnG P w K mg base CX k f fd ps sp :=
  { len := F.len, run := fun A o s H a us vs Q E g r => F.run A o s H a us vs Q E g (r.mono h) }
theorem FnG.imp {fd : FuncData} {ps : List Str} {sp sp' : Sp} (F : FnG P w K mg base CX k f fd ps sp) (h : ∀ vs H Q E, sp' vs H Q E → sp vs H Q E) :
    FnG P w K mg base CX k f fd ps sp' :=
  { len := fun vs H Q E z => F.len vs H Q E (h _ _ _ _ z), run := fun A o s H a us vs Q E g r e b v z => F.run A o s H a us vs Q E g r e b v (h _ _ _ _ z) }
theorem FnG.of {fd : FuncData} {ps : List Str} {sp : Sp} (F : FnOk P w K mg base CX k f fd ps sp) : FnG P w K mg base CX k f fd ps sp :=
  { len := F.len, run := fun A o s H a us vs Q E _ r => F.run A o s H a us vs Q E r }
/-- from a body to its def -/
theorem fnG_body {name qual : Str} {params : Arguments} {body : List Stmt} {sc : Scope} {dV kV doc pm cdv ct oc : Value} {an od : Option Addr} {osl : Array (Option Value)} {N ps : List Str} {sp : Sp}
    (lk : K.lookup f = some ⟨oc, od, .func (PySem.W.fnOf name qual params body sc dV kV doc pm an cdv ct), osl⟩) (hcd : PySem.W.codeIn K cdv qual = true) (S : FnScope N ps sc)
    (len : ∀ vs H Q E, sp vs H Q E → vs.length = ps.length)
    (walk : ∀ (A : Around) (outer : List Env) (s : Shared) (H : Hp) (vs : List V) (Q : VK) (E : XK), A.guards = some [] →
      Room k (A.deeper (envOfC qual sc s.heap.objs.size f cdv)) → sp vs H Q E →
      ∃ t, PSs (cxOf CX P w K mg base N qual sc f cdv A outer s H E) body t ∧ t { nx := fun _ H' => Q .non H', rt := Q } (start N vs) H) :
    FnG P w K mg base CX (k + 1) f (PySem.W.fnOf name qual params body sc dV kV doc pm an cdv ct) ps sp := by
  constructor
  · exact len
  intro A outer s H args us vs Q E gd room e0 bd rv want
  have inK : K.In s.heap := e0.mod.kin.keeps fun b o q => (e0.bs b o q).1
  have noLim : s.heap.NoLimit := e0.mod.nolimit.keeps fun b o q => (e0.bs b o q).1
  have kinds : ∀ y ∈ ps.zip us, sc.names.lookup y.1 = some .local ∨
      (sc.names.lookup y.1 = some .cell ∧ ((cellsFrom (s.heap.objs.size + 1) sc.names []).lookup y.1).isSome = true) := by
    rintro ⟨n, v⟩ hy
    cases S.par n (List.of_mem_zip hy).1 with
    | inl q => exact Or.inl q
    | inr q => exact Or.inr ⟨q, PySem.W.cellsFrom_some _ _ _ (Or.inl q)⟩
  apply codeAny_call_function room.depth (inK _ _ lk) rfl S.co S.gen rfl (PySem.W.codeRec_of inK hcd)
  apply bd
  apply wpAny_newFunctionEnv_cells S.kind kinds
  intro env he s1 x
  subst he
  refine ⟨noLim.keeps x.toInCall.keep, ?_⟩
  apply codeAny_func
  obtain ⟨t, ht, hq⟩ := walk A outer s H vs Q E gd (room.deeper _) want
  have I := inv_start (CX := CX) (E := E) S room.hd e0 (len _ _ _ _ want) rv x
  refine wpAny_mono (ht.run [] s1 (start N vs) H _ I hq) (fun fl s' hs => ?_) (fun _ _ hs => hs)
  match fl, hs with
  | .ret u, ⟨v, σ', H', J, r', q⟩ => exact ⟨v, H', J.os, J.bare, J.base, J.hok, r', q⟩
  | .next, ⟨σ', H', J, q⟩ => exact ⟨V.non, H', J.os, J.bare, J.base, J.hok, rfl, q⟩
  | .brk, ⟨_, _, _, q⟩ => exact q.elim
  | .cont, ⟨_, _, _, q⟩ => exact q.elim
/-- a def of the text; its walk may use that no repr is under way -/
theorem okG {x qual : Str} {st : Stmt} {fd : FuncData} {N ps : List Str} {sp : Sp} (F : Fun K x qual st f fd) (S : FnScope N ps (defScope st)) (len : ∀ vs H Q E, sp vs H Q E → vs.length = ps.length)
    (walk : ∀ (cdv : Value) (A : Around) (outer : List Env) (s : Shared) (H : Hp) (vs : List V) (Q : VK) (E : XK), A.guards = some [] →
      Room k (A.deeper (envOfC qual (defScope st) s.heap.objs.size f cdv)) → sp vs H Q E →
      ∃ t, PSs (cxOf CX0 P w K mg base N qual (defScope st) f cdv A outer s H E).nox (defBody st) t ∧ t { nx := fun _ H' => Q .non H', rt := Q } (start N vs) H) :
    FnG P w K mg base CX0 (k + 1) f fd ps sp := by
  obtain ⟨oc, od, kV, doc, pm, an, cdv, ct, osl, e, lk, hcd⟩ := F.ex
  subst e
  apply fnG_body lk hcd S len
  intro A outer s H vs Q E gd room want
  obtain ⟨t, h, q⟩ := walk cdv A outer s H vs Q E gd room want
  exact ⟨t, h.nox, q⟩
/-- the same for a def that may raise -/
theorem okGX {x qual : Str} {st : Stmt} {fd : FuncData} {N ps : List Str} {sp : Sp} (F : Fun K x qual st f fd) (S : FnScope N ps (defScope st)) (len : ∀ vs H Q E, sp vs H Q E → vs.length = ps.length)
    (walk : ∀ (cdv : Value) (A : Around) (outer : List Env) (s : Shared) (H : Hp) (vs : List V) (Q : VK) (E : XK), A.guards = some [] →
      Room k (A.deeper (envOfC qual (defScope st) s.heap.objs.size f cdv)) → sp vs H Q E →
      ∃ t, PSs (cxOf (L2.CX P w) P w K mg base N qual (defScope st) f cdv A outer s H E) (defBody st) t ∧ t { nx := fun _ H' => Q .non H', rt := Q } (start N vs) H) :
    FnG P w K mg base (L2.CX P w) (k + 1) f fd ps sp := by
  obtain ⟨oc, od, kV, doc, pm, an, cdv, ct, osl, e, lk, hcd⟩ := F.ex
  subst e
  exact fnG_body lk hcd S len fun A outer s H vs Q E gd room want => walk cdv A outer s H vs Q E gd room want
end

section
variable {X : Cx} {CX : CXT} {k : Nat} {f C : Addr} {fd : FuncData} {ps : List Str} {sp : Sp} {dvs : List V} {ds : List Value} {x m : Str} {p pos apos : Pos} {e o : Expr} {es : List Expr} {ta : TE} {t : TA}
/-- the callee runs; E hangs on the slots -/
theorem runG {pins : List (Addr × Obj)} {σ : L2.St} {H : Hp} {s : Shared} {Q : VK} {E : XK} {us : List Value} {vs : List V} (F : FnG X.prog X.w X.K X.mg X.base CX k f fd ps sp) (gd : X.A.guards = some []) (hr : Room k X.A)
    (hb : Binds X.K fd ps ds) (hd : Vals dvs ds) (hx : ∀ (e : Value) (s' : Shared), CX X.stack H s E e s' → X.xe e s') (I : Inv X pins σ H s) (r : Vals vs us) (h : sp (vs ++ dvs) H Q E) :
    wpAny (model X.prog X.w) X.A (call (.ref f) us) (EP X pins σ Q) X.xe s := by
  have rr := r.append hd
  have nl : (us ++ ds).length = ps.length := rr.length ▸ F.len _ _ _ _ h
  apply wpAny_call
  refine codeAny_mono (F.run X.A X.stack s H ⟨us, []⟩ _ _ Q E gd hr I.env0 (hb s us I.kIn nl) rr h) ?_
  intro res s' hres
  match res, hres with
  | .error er, z => exact hx er s' z
  | .ok (.ret u), z => exact I.after z
  | .ok .next, z => exact z.elim
  | .ok .brk, z => exact z.elim
  | .ok .cont, z => exact z.elim
/-- f(e, ..) -/
theorem pe_callG {E : XK} (F : FnG X.prog X.w X.K X.mg X.base CX k f fd ps sp) (gd : X.A.guards = some []) (hr : Room k X.A) (hg : Gl X x) (hm : X.mg x = some (.ref f)) (hk : PySem.W.keepIn X.K (.ref f) = true)
    (hb : Binds X.K fd ps ds) (hd : Vals dvs ds) (hx : Passes CX X E) (ha : PA X (e :: es) t) (hdb : (x == ("__debug__" : Str)) = false := by decide)
    (he : starEach (e :: es) X.env = (false, eval e X.env) :: starEach es X.env := by rfl)
    (hpl : (backTo pos (starEach es X.env)).any (·.1) = false := by rfl) : PE X (.Call (.Name x p) (e :: es) [] pos) (tCall sp dvs E t) := by
  constructor
  intro pins s σ H Q I h
  apply wpAny_Call_Name_kw
  apply ld_glob I hg hm _ hdb
  apply PySem.W.callWith_K (h₀ := X.base) I.ok.mod.kin hk _ he hpl
  refine thn (ha.run pos pins s σ H _ I h) ?_
  rintro us s1 ⟨vs, H1, I1, r, q⟩
  exact ⟨I1.kIn, runG F gd hr hb hd (fun er s' z => hx pins σ H1 s1 er s' I1 z) I1 r q⟩
/-- f(e, ..), what is raised wished for at the slots -/
theorem pe_callGS {E : L2.St → XK} (F : FnG X.prog X.w X.K X.mg X.base CX k f fd ps sp) (gd : X.A.guards = some []) (hr : Room k X.A) (hg : Gl X x) (hm : X.mg x = some (.ref f)) (hk : PySem.W.keepIn X.K (.ref f) = true)
    (hb : Binds X.K fd ps []) (hx : ∀ σ, PassesAt CX X σ (E σ)) (ha : PA X (e :: es) t) (hdb : (x == ("__debug__" : Str)) = false := by decide)
    (he : starEach (e :: es) X.env = (false, eval e X.env) :: starEach es X.env := by rfl)
    (hpl : (backTo pos (starEach es X.env)).any (·.1) = false := by rfl) : PE X (.Call (.Name x p) (e :: es) [] pos) (tCallS sp E t) := by
  constructor
  intro pins s σ H Q I h
  apply wpAny_Call_Name_kw
  apply ld_glob I hg hm _ hdb
  apply PySem.W.callWith_K (h₀ := X.base) I.ok.mod.kin hk _ he hpl
  refine thn (ha.run pos pins s σ H _ I h) ?_
  rintro us s1 ⟨vs, H1, I1, r, q⟩
  have q' : sp (vs ++ []) H1 Q (E σ) := by rw [List.append_nil]; exact q
  exact ⟨I1.kIn, runG F gd hr hb .nil (fun er s' z => hx σ pins H1 s1 er s' I1 z) I1 r q'⟩
/-- repr of data -/
theorem call_reprD (gd : X.A.guards = some []) (hu : X.A.units + 64 < cLine) : CallR X (.builtin "repr") (fun xs H Q => ∃ v d, xs = [v] ∧ Dp X.K H v d ∧ d.showable = true ∧ d.hasDict = false ∧ d.depth ≤ 60 ∧ d.shown.length ≤ sizeLine ∧ Q (.str d.shown) H) := by
  rintro pins s σ H xs us Q I r ⟨v, d, rfl, hd, hs, hnd, hdp, hz, q⟩
  obtain ⟨u, rfl, ru⟩ := vals1 r
  obtain ⟨as, rd⟩ := Dp.reads I d v u hd ru
  cases v with
  | ref a =>
    obtain rfl : u = Value.ref a := ru
    refine repr_of_reads' rd hs (PyData.noDict_hsm hnd) gd (by omega) (fun _ _ z => z) (fun h' u' tk hk => ?_) hz
    exact ⟨.str d.shown, H, I.kept (fun b o z => hk b o z), ⟨_, rfl⟩, q⟩
  | non =>
    cases hd
    obtain rfl : u = Value.none := ru
    exact PySem.P.repr_of_none ⟨.str _, H, I.tok _, ⟨_, rfl⟩, q⟩
  | bl b =>
    cases hd
    obtain rfl : u = Value.bool b := ru
    exact PySem.P.repr_of_bool ⟨.str _, H, I.tok _, ⟨_, rfl⟩, q⟩
  | int i =>
    cases hd
    obtain ⟨tk, rfl⟩ := ru
    have hi : i.natAbs.log2 < 1920 := by simpa [PyData.showable] using hs
    exact PySem.P.repr_of_int hi ⟨.str _, H, I.tok _, ⟨_, rfl⟩, q⟩
  | str z =>
    cases hd
    obtain ⟨tk, rfl⟩ := ru
    exact PySem.P.repr_of_str (hsz := by simpa only [PyData.shown] using hz) ⟨.str _, H, I.tok _, ⟨_, rfl⟩, q⟩
  | byt b => cases hd
  | flt b => cases hd
  | ty n => cases hd
end
end Sb

namespace Sb
open PySem PySem.Spec PyProof.Rows L2
section
variable {P : Program} {w : World} {K : PySem.W.Frag} {mg mb : Str → Option Value} {k : Nat} {fa a : Addr} {fd : FuncData} {x : Str} {sp : Sp} {s1 : Shared} {vs : List Value} {ns : List Int}
/-- what the row asks of the law's call -/
abbrev Done (P : Program) (w : World) (fa a : Addr) (s1 : Shared) : Prop := codeAny (model P w) callerA (.call (.ref fa) ⟨[.ref a], []⟩)
  (fun r s' => r = .ok (.ret (.bool true)) ∧ OldK s1.heap s'.heap ∧ s'.os = s1.os ∧ AllBare s'.gens) s1
/-- the law's call over an abstract heap that tracks the script at most -/
theorem overH {H : Hp} (KX : K.In s1.heap) (hns : s1.heap.Ns mainGlobals mg) (hb : s1.heap.Ns builtinsNs mb) (hbb : ∀ x : Str, x ≠ "__name__" → mb x = bootBuiltins x) (hlim : s1.heap.NoLimit) (hg : s1.gens = #[])
    (ha : s1.heap.get? a = some { cls := .type "list", data := .seq vs.toArray }) (hr : Room k callerA)
    (F : ∀ base : Heap, K.In base → base.Ns mainGlobals mg → FnG P w K mg base CX0 k fa fd [x] sp) (bd : ∀ (s : Shared) (u : Value), BindsTo s fd ⟨[u], []⟩ [(x, u)])
    (hO : Only H) (ok : HOk P w H s1.heap) (onlyA : ∀ b, H b ≠ none → b = a) (notK : H a ≠ none → K.lookup a = none)
    (want : sp [.ref a] H (fun v _ => v = .bl true) fun _ _ _ => False) : Done P w fa a s1 := by
  have free : ∀ {b : Addr} {o : Obj}, s1.heap.get? b = some o → (b = a → H b = none) → H b = none := by
    intro b o _ z
    cases q : H b with
    | none => rfl
    | some u =>
      have e : b = a := onlyA b (by simp [q])
      rw [z e] at q
      cases q
  have dict : ∀ {b : Addr} {o : Obj} {es : Array DictEntry} {ep : Nat}, s1.heap.get? b = some o → o.data = .dict es ep → H b = none := by
    intro b o es ep e d
    apply free e
    intro z
    subst z
    rw [ha] at e
    cases e
    cases (show Data.seq vs.toArray _ = Data.dict es ep from d)
  have spaces : ∀ {b : Addr} {m : Str → Option Value}, s1.heap.Ns b m → (hidT s1.heap H).Ns b m := by
    rintro b m ⟨o, es, ep, e, d, r⟩
    exact ⟨o, es, ep, hidT_get e (dict e d), d, r⟩
  have inB : K.In (hidT s1.heap H) := by
    intro b o e
    refine hidT_get (KX b o e) (free (KX b o e) fun z => ?_)
    subst z
    cases q : H b with
    | none => rfl
    | some u =>
      rw [notK (by simp [q])] at e
      cases e
  obtain ⟨mc, c1, c2⟩ := hlim
  have md : Mod K mg (hidT s1.heap H) := ⟨inB, spaces hns, ⟨mb, spaces hb, hbb⟩, ⟨mc, spaces c1, c2⟩⟩
  have e0 : Env0 P w K mg (hidT s1.heap H) callerA [] s1 H :=
    { frames := rfl, mod := md, bs := fun b o e => of_hidT e, bsz := Nat.le_of_eq (hidT_size _ _), funs := trivial, frf := (fun b z => (by cases z)), hok := ok, bare := .of_eq hg }
  have run := (F _ inB (spaces hns)).run callerA [] s1 H ⟨[.ref a], []⟩ [.ref a] [.ref a] _ _ rfl hr e0 (bd s1 (.ref a)) (.cons rfl .nil) want
  refine codeAny_mono run ?_
  intro r s' z
  match r, z with
  | .error e, z =>
    exact False.elim z
  | .ok .next, z => exact False.elim z
  | .ok .brk, z => exact False.elim z
  | .ok .cont, z => exact False.elim z
  | .ok (.ret u), ⟨v, H', os, bare, un, ok', rel, q⟩ =>
    subst q
    obtain rfl : u = Value.bool true := rel
    refine ⟨rfl, OldK.of_keep ?_, os, bare⟩
    intro b o e
    cases q : H b with
    | none => exact un.keep b o e q (fun z => by cases z) (fun z => by cases z)
    | some u =>
      cases hO b with
      | inl z =>
        rw [q] at z
        cases z
      | inr z =>
        obtain ⟨ob, xs, z⟩ := z
        have e1 := (ok b _ z).1
        have e2 := (ok' b _ (un.frzs b ob _ z)).1
        rw [e] at e1
        cases e1
        exact e2
/-- the law's call -/
theorem law_callG (KX : K.In s1.heap) (hns : s1.heap.Ns mainGlobals mg) (hb : s1.heap.Ns builtinsNs mb) (hbb : ∀ x : Str, x ≠ "__name__" → mb x = bootBuiltins x) (hlim : s1.heap.NoLimit) (hg : s1.gens = #[])
    (ha : s1.heap.get? a = some { cls := .type "list", data := .seq vs.toArray }) (hi : IntsAre vs ns) (hl : ns.length ≤ sizeLine) (hr : Room k callerA)
    (F : ∀ base : Heap, K.In base → base.Ns mainGlobals mg → FnG P w K mg base CX0 k fa fd [x] sp) (bd : ∀ (s : Shared) (u : Value), BindsTo s fd ⟨[u], []⟩ [(x, u)])
    (want : ∀ H : Hp, Only H → SqL K H a (ns.map V.int) → sp [.ref a] H (fun v _ => v = .bl true) fun _ _ _ => False) : Done P w fa a s1 := by
  have rv := vals_ints hi
  have nv := hi.length
  by_cases hk : K.lookup a = none
  · let H : Hp := fun b => if b = a then some (.frz { cls := .type "list", data := .seq vs.toArray } (.lst (ns.map V.int))) else none
    have at_a : H a = some (.frz { cls := .type "list", data := .seq vs.toArray } (.lst (ns.map V.int))) := if_pos rfl
    have off : ∀ b, b ≠ a → H b = none := fun b z => if_neg z
    have hO : Only H := by
      intro b
      by_cases e : b = a
      · subst e
        exact Or.inr ⟨_, _, at_a⟩
      · exact Or.inl (off b e)
    refine overH (H := H) KX hns hb hbb hlim hg ha hr F bd hO ?_ ?_ (fun _ => hk) (want H hO (Or.inl (Or.inr ⟨_, at_a⟩)))
    · intro b u z
      by_cases e : b = a
      · subst e
        rw [at_a] at z
        cases z
        exact ⟨ha, by rw [List.length_map]; exact hl, vs, _, rv, ha⟩
      · rw [off b e] at z
        cases z
    · intro b z
      by_cases e : b = a
      · exact e
      · exact absurd (off b e) z
  · cases q : K.lookup a with
    | none => exact absurd q hk
    | some o =>
      have e := KX a o q
      rw [ha] at e
      cases e
      have hO : Only fun _ => none := fun _ => Or.inl rfl
      refine overH (H := fun _ => none) KX hns hb hbb hlim hg ha hr F bd hO (fun b u z => by cases z) (fun b z => absurd rfl z) (fun z => absurd rfl z) (want _ hO (Or.inr ?_))
      exact ⟨_, vs.toArray, _, q, rfl, rfl, rfl, by rw [List.size_toArray, nv]; exact hl, by simpa using rv⟩
end
/-- the row's end, from the law's promise -/
theorem walk_ofG {l : PySem.W.OpenLaw} {n k : Nat} {q : Program} {loose : List Str} {XP : (Str → Option Value) → Heap → Prop} {YP : World → Heap → Prop} {d : DefRec} {K : Params → PySem.W.Frag} {sp : PySem.W.Frag → Sp} {x : Str}
    (hn : l.most = some n) (hn2 : n ≤ sizeLine) (hdf : d.params.defaults = []) (hr : Room k callerA) (hY : ∀ (w : World) (h : Heap), YP w h → (K w.params).In h)
    (F : ∀ (w : World) (mg : Str → Option Value) (fa : Addr) (h : Heap), (K w.params).In h → h.Ns mainGlobals mg → mg d.name = some (.ref fa) →
      ∃ fd : FuncData, (∀ (s : Shared) (u : Value), BindsTo s fd ⟨[u], []⟩ [(x, u)]) ∧
        ∀ base : Heap, (K w.params).In base → base.Ns mainGlobals mg → FnG l.prog w (K w.params) mg base CX0 k fa fd [x] (sp (K w.params)))
    (want : ∀ (K : PySem.W.Frag) (H : Hp) (a : Addr) (ns : List Int), ns.length ≤ n → (∀ z ∈ ns, Builtin.Int.intBits z ≤ 1048576) → Only H → SqL K H a (ns.map V.int) →
      sp K [.ref a] H (fun v _ => v = .bl true) fun _ _ _ => False) : PySem.W.WalkO q loose XP YP l.row.toRowW d [] (fun f vs => PySem.call f vs) := by
  apply Att.attach_callB hn hdf
  intro w s0 s1 mg mb fa o pm cd doc a vs ns G Y ho hd hcd hmg hobj hints hlen hbits hg
  obtain ⟨fd, bd, hF⟩ := F w mg fa _ (hY w _ Y) G.T.g hmg
  exact law_callG (hY w _ Y) G.T.g G.T.b G.T.builtins G.T.nolimit hg hobj hints (Nat.le_trans hlen hn2) hr hF bd (fun H hO hS => want _ H a ns hlen hbits hO hS)
end Sb

/-! Data that is small enough to be shown and compared. -/
namespace Sb
open PySem PySem.Spec PyProof.Rows L2
structure Nice (n m : Nat) (d : PyData) : Prop where
  lay : d.canLay0 = true
  dep : d.depth ≤ n
  sho : d.showable = true
  nod : d.hasDict = false
  len : d.shown.length ≤ m
theorem Nice.mono {n m n' m' : Nat} {d : PyData} (h : Nice n m d) (hn : n ≤ n') (hm : m ≤ m') : Nice n' m' d :=
  { h with dep := Nat.le_trans h.dep hn, len := Nat.le_trans h.len hm }
theorem Nice.shaped {n m : Nat} {d : PyData} (h : Nice n m d) (hn : n ≤ 64) : SeqAt.shaped d = true := by
  unfold SeqAt.shaped
  rw [h.lay, decide_eq_true (Nat.le_trans h.dep hn)]
  rfl
theorem log_small {i : Int} (h : i.natAbs < 10 ^ 99) : i.natAbs.log2 < 400 :=
  PySem.Flt.log2_lt_of (by decide) (Nat.lt_of_lt_of_le h (by decide +kernel))
theorem Nice.int {i : Int} (h : i.natAbs < 10 ^ 99) : Nice 0 100 (.int i) := by
  refine ⟨rfl, Nat.le_refl _, ?_, rfl, ?_⟩
  · have := log_small h
    simp only [PyData.showable, decide_eq_true_eq]
    omega
  · have e := int_text_length_le10 (k := 99) (by decide) h
    show (Str.ofString (toString i)).length ≤ 100
    rw [PySem.ofString_length]
    exact e
theorem Nice.bool (b : Bool) : Nice 0 5 (.bool b) := by
  refine ⟨rfl, Nat.le_refl _, rfl, rfl, ?_⟩
  cases b <;> decide
theorem Nice.none : Nice 0 4 .none := ⟨rfl, Nat.le_refl _, rfl, rfl, by decide⟩
theorem niceAll {n m : Nat} : ∀ {ds : List PyData}, (∀ d ∈ ds, Nice n m d) → PyData.canLayAll0 ds = true ∧ PyData.depthAll ds ≤ n ∧ PyData.showableAll ds = true ∧ PyData.hasDictAll ds = false ∧
    ((PyData.shownAll ds).map (·.length)).sum ≤ ds.length * m ∧ (PyData.shownAll ds).length = ds.length
  | [], _ => ⟨rfl, Nat.zero_le _, rfl, rfl, by simp [PyData.shownAll], rfl⟩
  | d :: ds, h => by
    have hd := h d List.mem_cons_self
    obtain ⟨a, b, c, e, f, g⟩ := niceAll (ds := ds) fun x hx => h x (List.mem_cons_of_mem _ hx)
    refine ⟨?_, ?_, ?_, ?_, ?_, ?_⟩
    · simp only [PyData.canLayAll0, hd.lay, a, Bool.and_self]
    · simp only [PyData.depthAll]
      exact Nat.max_le.mpr ⟨hd.dep, b⟩
    · simp only [PyData.showableAll, hd.sho, c, Bool.and_self]
    · simp only [PyData.hasDictAll, hd.nod, e, Bool.or_self]
    · simp only [PyData.shownAll, List.map_cons, List.sum_cons, List.length_cons]
      have := hd.len
      rw [Nat.succ_mul]
      omega
    · simp only [PyData.shownAll, List.length_cons, g]
theorem Nice.tuple {n m k : Nat} {ds : List PyData} (h : ∀ d ∈ ds, Nice n m d) (hk : ds.length ≤ k) : Nice (n + 1) (k * m + 2 * k + 3) (.tuple ds) := by
  obtain ⟨a, b, c, e, f, g⟩ := niceAll h
  refine ⟨a, by simp only [PyData.depth]; omega, c, e, ?_⟩
  have l := tupleText_len_le (PyData.shownAll ds)
  simp only [PyData.shown]
  rw [g] at l
  have l2 : ds.length * m ≤ k * m := Nat.mul_le_mul_right _ hk
  omega
theorem Nice.list {n m k : Nat} {ds : List PyData} (h : ∀ d ∈ ds, Nice n m d) (hk : ds.length ≤ k) : Nice (n + 1) (k * m + 2 * k + 3) (.list ds) := by
  obtain ⟨a, b, c, e, f, g⟩ := niceAll h
  refine ⟨a, by simp only [PyData.depth]; omega, c, e, ?_⟩
  have l := listText_len_le (PyData.shownAll ds)
  simp only [PyData.shown]
  rw [g] at l
  have l2 : ds.length * m ≤ k * m := Nat.mul_le_mul_right _ hk
  omega
theorem shaped_ints (l : List Int) : SeqAt.shaped (.list (l.map PyData.int)) = true := by
  unfold SeqAt.shaped
  have h : PyData.canLayAll0 (l.map PyData.int) = true ∧ PyData.depthAll (l.map PyData.int) = 0 := by
    induction l with
    | nil => exact ⟨rfl, rfl⟩
    | cons x r ih => exact ⟨by simp only [List.map_cons, PyData.canLayAll0, PyData.canLay0, ih.1, Bool.and_self], by simp only [List.map_cons, PyData.depthAll, PyData.depth, ih.2, Nat.max_self]⟩
  simp only [PyData.canLay0, PyData.depth, h.1, h.2, Bool.true_and, decide_eq_true_eq]
  decide
theorem dp_ints (K : PySem.W.Frag) (H : Hp) : ∀ l : List Int, DpAll K H (l.map V.int) (l.map PyData.int)
  | [] => .nil
  | x :: r => .cons (.int x) (dp_ints K H r)
theorem eqv_ints : ∀ l m : List Int, PyData.eqvAll (l.map PyData.int) (m.map PyData.int) = decide (l = m)
  | [], [] => rfl
  | [], _ :: _ => rfl
  | _ :: _, [] => rfl
  | x :: r, y :: t => by
    simp only [List.map_cons, PyData.eqvAll, PyData.eqv, eqv_ints r t, List.cons.injEq]
    by_cases h : x = y <;> simp [h]
theorem div_wide {i j : Int} (h : 0 < j) (h2 : j < 2 ^ 100) : CDivW i j := wide_div (b := 100) h (by omega) (by decide) (by decide)
end Sb

/-! Data that never changes: scalars and tuples of them, at any depth. -/
namespace Sb
open PySem PySem.Spec PyProof.Rows L2
mutual
inductive TD (H : Hp) : V → PyData → Prop
  | non : TD H .non .none
  | bl (b : Bool) : TD H (.bl b) (.bool b)
  | int (i : Int) : TD H (.int i) (.int i)
  | str (x : Str) : TD H (.str x) (.str x)
  | tup {a : Addr} {xs : List V} {ds : List PyData} : H a = some (.tup xs) → TDs H xs ds → TD H (.ref a) (.tuple ds)
inductive TDs (H : Hp) : List V → List PyData → Prop
  | nil : TDs H [] []
  | cons {v : V} {vs : List V} {d : PyData} {ds : List PyData} : TD H v d → TDs H vs ds → TDs H (v :: vs) (d :: ds)
end
/-- tuples stay -/
def Tups (H H' : Hp) : Prop := ∀ a xs, H a = some (.tup xs) → H' a = some (.tup xs)
theorem Tups.refl {H : Hp} : Tups H H := fun _ _ h => h
theorem Tups.trans {H H1 H2 : Hp} (a : Tups H H1) (b : Tups H1 H2) : Tups H H2 := fun x y h => b x y (a x y h)
theorem Tups.same {H H' : Hp} (h : Same H H') : Tups H H' := fun a xs e => h a _ e
theorem Tups.new {H : Hp} {a : Addr} {o : HO} (h : H a = none) : Tups H (upd H a o) := fun b xs e => by
  rw [upd_ne (ne_of_none e h)]
  exact e
theorem Tups.put {H : Hp} {a : Addr} {o u : HO} (h : H a = some u) (hu : ∀ xs, u ≠ .tup xs) : Tups H (upd H a o) := fun b xs e => by
  rw [upd_ne (ne_of e h (hu xs).symm)]
  exact e
theorem Tups.lst {H : Hp} {a : Addr} {o : HO} {l : List V} (h : H a = some (.lst l)) : Tups H (upd H a o) := Tups.put h (fun _ z => by cases z)
mutual
theorem TD.mono {H H' : Hp} (t : Tups H H') : ∀ {v : V} (d : PyData), TD H v d → TD H' v d
  | _, .none, h => by cases h; exact .non
  | _, .bool b, h => by cases h; exact .bl b
  | _, .int i, h => by cases h; exact .int i
  | _, .str x, h => by cases h; exact .str x
  | _, .tuple ds, h => by
    cases h with
    | tup e r => exact .tup (t _ _ e) (TDs.mono t ds r)
  | _, .list _, h => by cases h
  | _, .dict _, h => by cases h
theorem TDs.mono {H H' : Hp} (t : Tups H H') : ∀ {vs : List V} (ds : List PyData), TDs H vs ds → TDs H' vs ds
  | _, [], h => by cases h; exact .nil
  | _, d :: ds, h => by
    cases h with
    | cons a r => exact .cons (TD.mono t d a) (TDs.mono t ds r)
end
mutual
theorem TD.dp {K : PySem.W.Frag} {H : Hp} : ∀ {v : V} (d : PyData), TD H v d → Dp K H v d
  | _, .none, h => by cases h; exact .non
  | _, .bool b, h => by cases h; exact .bl b
  | _, .int i, h => by cases h; exact .int i
  | _, .str x, h => by cases h; exact .str x
  | _, .tuple ds, h => by
    cases h with
    | tup e r => exact .tup (SqT.of e) (TDs.dp ds r)
  | _, .list _, h => by cases h
  | _, .dict _, h => by cases h
theorem TDs.dp {K : PySem.W.Frag} {H : Hp} : ∀ {vs : List V} (ds : List PyData), TDs H vs ds → DpAll K H vs ds
  | _, [], h => by cases h; exact .nil
  | _, d :: ds, h => by
    cases h with
    | cons a r => exact .cons (TD.dp d a) (TDs.dp ds r)
end
theorem TDs.length {H : Hp} : ∀ {vs : List V} {ds : List PyData}, TDs H vs ds → vs.length = ds.length
  | _, _, .nil => rfl
  | _, _, .cons _ r => congrArg (· + 1) r.length
theorem TDs.get {H : Hp} : ∀ {vs : List V} {ds : List PyData} {i : Nat} {v : V}, TDs H vs ds → vs[i]? = some v → ∃ d, ds[i]? = some d ∧ TD H v d
  | _, _, _, _, .nil, e => by simp at e
  | _, _, 0, _, .cons a _, e => by
    simp at e
    subst e
    exact ⟨_, rfl, a⟩
  | _, _, i + 1, v, .cons _ r, e => by
    obtain ⟨d, h1, h2⟩ := TDs.get (i := i) (v := v) r (by simpa using e)
    exact ⟨d, by simpa using h1, h2⟩
theorem TDs.at {H : Hp} : ∀ {vs : List V} {ds : List PyData} {i : Nat} {d : PyData}, TDs H vs ds → ds[i]? = some d → ∃ v, vs[i]? = some v ∧ TD H v d
  | _, _, _, _, .nil, e => by simp at e
  | _, _, 0, _, .cons a _, e => by
    simp at e
    subst e
    exact ⟨_, rfl, a⟩
  | _, _, i + 1, v, .cons _ r, e => by
    obtain ⟨d, h1, h2⟩ := TDs.at (i := i) (d := v) r (by simpa using e)
    exact ⟨d, by simpa using h1, h2⟩
theorem TDs.app {H : Hp} : ∀ {vs us : List V} {ds es : List PyData}, TDs H vs ds → TDs H us es → TDs H (vs ++ us) (ds ++ es)
  | _, _, _, _, .nil, s => s
  | _, _, _, _, .cons a r, s => .cons a (r.app s)
theorem TDs.take {H : Hp} : ∀ {vs : List V} {ds : List PyData} (n : Nat), TDs H vs ds → TDs H (vs.take n) (ds.take n)
  | _, _, 0, _ => .nil
  | _, _, _ + 1, .nil => .nil
  | _, _, n + 1, .cons a r => .cons a (r.take n)
theorem TDs.drop {H : Hp} : ∀ {vs : List V} {ds : List PyData} (n : Nat), TDs H vs ds → TDs H (vs.drop n) (ds.drop n)
  | _, _, 0, r => r
  | _, _, _ + 1, .nil => .nil
  | _, _, n + 1, .cons _ r => r.drop n
theorem TDs.ints {H : Hp} : ∀ {vs : List V} {ns : List Int}, TDs H vs (ns.map PyData.int) → vs = ns.map V.int
  | _, [], h => by cases h; rfl
  | _, n :: ns, h => by
    cases h with
    | cons a r =>
      cases a
      rw [List.map_cons, r.ints]
theorem TDs.ofInts {H : Hp} : ∀ {ns : List Int}, TDs H (ns.map V.int) (ns.map PyData.int)
  | [] => .nil
  | n :: ns => .cons (.int n) TDs.ofInts
/-- a tuple at v -/
theorem TD.isTup {H : Hp} {v : V} {ds : List PyData} (h : TD H v (.tuple ds)) : ∃ a xs, v = .ref a ∧ H a = some (.tup xs) ∧ TDs H xs ds := by
  cases h with
  | tup e r => exact ⟨_, _, rfl, e, r⟩
theorem TD.isInt {H : Hp} {v : V} {i : Int} (h : TD H v (.int i)) : v = .int i := by cases h; rfl
/-- a pair of ints -/
theorem TD.pair {H : Hp} {v : V} {i j : Int} (h : TD H v (.tuple [.int i, .int j])) : ∃ a, v = .ref a ∧ H a = some (.tup [.int i, .int j]) := by
  obtain ⟨a, xs, rfl, e, r⟩ := h.isTup
  cases r with
  | cons h1 r =>
    cases r with
    | cons h2 r =>
      cases r
      cases h1
      cases h2
      exact ⟨a, rfl, e⟩
theorem TD.ofPair {H : Hp} {a : Addr} {i j : Int} (h : H a = some (.tup [.int i, .int j])) : TD H (.ref a) (.tuple [.int i, .int j]) := .tup h (.cons (.int i) (.cons (.int j) .nil))

/-! ### streams -/
def msgD (m : Int × Int) : PyData := .tuple [.int m.1, .int m.2]
def strmD (ms : List (Int × Int)) : PyData := .tuple (ms.map msgD)
theorem msgD_inj {a b : Int × Int} (h : PyData.eqv (msgD a) (msgD b) = true) : a = b := by
  obtain ⟨a1, a2⟩ := a
  obtain ⟨b1, b2⟩ := b
  simp only [msgD, PyData.eqv, PyData.eqvAll, Bool.and_true, Bool.and_eq_true, beq_iff_eq] at h
  rw [h.1, h.2]
theorem eqv_msgs : ∀ a b : List (Int × Int), PyData.eqvAll (a.map msgD) (b.map msgD) = decide (a = b)
  | [], [] => rfl
  | [], _ :: _ => rfl
  | _ :: _, [] => rfl
  | x :: r, y :: t => by
    have ih := eqv_msgs r t
    by_cases h : x = y
    · subst h
      have e : PyData.eqv (msgD x) (msgD x) = true := by simp [msgD, PyData.eqv, PyData.eqvAll]
      simp only [List.map_cons, PyData.eqvAll, e, ih, Bool.true_and, List.cons.injEq, true_and]
    · have e : PyData.eqv (msgD x) (msgD y) = false := by
        cases q : PyData.eqv (msgD x) (msgD y) with
        | false => rfl
        | true => exact absurd (msgD_inj q) h
      simp only [List.map_cons, PyData.eqvAll, e, Bool.false_and, List.cons.injEq, h, false_and, decide_false]
theorem eqv_strm (a b : List (Int × Int)) : PyData.eqv (strmD a) (strmD b) = decide (a = b) := by
  simp only [strmD, PyData.eqv]
  exact eqv_msgs a b
/-- a stream of ints that are not too long -/
def Short (ms : List (Int × Int)) : Prop := ∀ m ∈ ms, m.1.natAbs < 10 ^ 99 ∧ m.2.natAbs < 10 ^ 99
theorem nice_msg {m : Int × Int} (h : m.1.natAbs < 10 ^ 99 ∧ m.2.natAbs < 10 ^ 99) : Nice 1 207 (msgD m) := by
  refine Nice.tuple (n := 0) (m := 100) (k := 2) (fun d hd => ?_) (Nat.le_refl 2)
  simp only [List.mem_cons, List.not_mem_nil, or_false] at hd
  rcases hd with rfl | rfl
  · exact Nice.int h.1
  · exact Nice.int h.2
theorem nice_strm {ms : List (Int × Int)} {k : Nat} (h : Short ms) (hk : ms.length ≤ k) : Nice 2 (k * 207 + 2 * k + 3) (strmD ms) := by
  refine Nice.tuple (n := 1) (m := 207) (k := k) (fun d hd => ?_) (by rw [List.length_map]; exact hk)
  obtain ⟨m, hm, rfl⟩ := List.mem_map.mp hd
  exact nice_msg (h m hm)
theorem TDs.msg {H : Hp} {vs : List V} {ms : List (Int × Int)} {i : Nat} {v : V} (r : TDs H vs (ms.map msgD)) (h : vs[i]? = some v) : ∃ m a, ms[i]? = some m ∧ v = .ref a ∧ H a = some (.tup [.int m.1, .int m.2]) := by
  obtain ⟨d, h1, h2⟩ := r.get h
  rw [List.getElem?_map] at h1
  cases e : ms[i]? with
  | none => rw [e] at h1; cases h1
  | some m =>
    rw [e] at h1
    cases h1
    obtain ⟨a, h3, h4⟩ := TD.pair h2
    exact ⟨m, a, rfl, h3, h4⟩
theorem TDs.msgs_len {H : Hp} {vs : List V} {ms : List (Int × Int)} (r : TDs H vs (ms.map msgD)) : vs.length = ms.length := by
  rw [r.length, List.length_map]
end Sb

/-! Operators over data that never changes. -/
namespace Sb
open PySem PySem.Spec PyProof.Rows L2
theorem same_new {H : Hp} {p : Addr} {o : HO} (h : H p = none) : Same H (upd H p o) := fun b u e => by
  rw [upd_ne (ne_of_none e h)]
  exact e
section
variable {X : Cx}
theorem opImp {f : Value → Value → Sem Value} {r r' : R2} (h : OpR X f r) (i : ∀ x y H Q, r' x y H Q → r x y H Q) : OpR X f r' :=
  fun pins s σ H x y v u Q I rx ry z => h pins s σ H x y v u Q I rx ry (i x y H Q z)
/-- t + u -/
def rCatD : R2 := fun x y H Q => ∃ ds es, TD H x (.tuple ds) ∧ TD H y (.tuple es) ∧ ds.length + es.length ≤ 100000 ∧
  ∀ p H', Same H H' → TD H' (.ref p) (.tuple (ds ++ es)) → Q (.ref p) H'
theorem op_catD : OpR X (binaryOp .Add) rCatD := opImp op_catA fun x y H Q h => by
  obtain ⟨ds, es, h1, h2, hl, q⟩ := h
  obtain ⟨a, xs, rfl, ha, hx⟩ := h1.isTup
  obtain ⟨b, ys, rfl, hb, hy⟩ := h2.isTup
  have lx := hx.length
  have ly := hy.length
  refine ⟨a, b, xs, ys, rfl, rfl, SqT.of ha, SqT.of hb, ?_, ?_, ?_, ?_⟩
  · rw [lx, ly]
    exact Nat.le_trans hl (by decide)
  · intro e
    subst e
    cases hx
    exact q b H (Same.refl H) h2
  · intro _ e
    subst e
    cases hy
    exact q a H (Same.refl H) (by rw [List.append_nil]; exact h1)
  · intro _ _ p np
    exact q p _ (same_new np) (.tup upd_same (TDs.mono (Tups.new np) _ (hx.app hy)))
/-- a part of a list, by its bounds -/
def cutA {α : Type} (xs : List α) (lo hi : Option Int) : List α := (xs.drop (HT.sIx xs.length 0 lo)).take (HT.sIx xs.length xs.length hi - HT.sIx xs.length 0 lo)
theorem cutA_to {α : Type} (xs : List α) {k : Nat} (h : k ≤ xs.length) : cutA xs none (some (k : Int)) = xs.take k := by
  unfold cutA
  rw [HT.sIx_none, HT.sIx_nat, List.drop_zero, Nat.sub_zero, Nat.min_eq_left h]
theorem cutA_from {α : Type} (xs : List α) {k : Nat} (h : k ≤ xs.length) : cutA xs (some (k : Int)) none = xs.drop k := by
  unfold cutA
  rw [HT.sIx_none, HT.sIx_nat, Nat.min_eq_left h]
  exact List.take_of_length_le (by rw [List.length_drop]; exact Nat.le_refl _)
theorem TDs.cut {H : Hp} {xs : List V} {ds : List PyData} (h : TDs H xs ds) (lo hi : Option Int) : TDs H (cutV xs lo hi) (cutA ds lo hi) := by
  unfold cutV cutA
  rw [h.length]
  exact (h.drop _).take _
/-- t[lo:hi] -/
def rSlD : V → Option Int → Option Int → Hp → VK → Prop := fun x lo hi H Q => ∃ ds, TD H x (.tuple ds) ∧ ∀ p H', Same H H' → TD H' (.ref p) (.tuple (cutA ds lo hi)) → Q (.ref p) H'
theorem sl_D : SlR X rSlD := by
  intro pins s σ H x v vl vu lo hi sl Q I rx hs pl pu h
  refine sl_tupA pins s σ H x v vl vu lo hi sl Q I rx hs pl pu ?_
  obtain ⟨ds, hT, q⟩ := h
  obtain ⟨a, xs, rfl, ha, hx⟩ := hT.isTup
  refine ⟨a, xs, rfl, SqT.of ha, ?_, ?_⟩
  · rintro ⟨e1, e2⟩
    refine q a H (Same.refl H) ?_
    have e : cutA ds lo hi = ds := by
      unfold cutA
      rw [← hx.length, e1, e2, List.drop_zero, Nat.sub_zero]
      exact List.take_of_length_le (by rw [hx.length]; exact Nat.le_refl _)
    rw [e]
    exact hT
  · intro _ p np
    exact q p _ (same_new np) (.tup upd_same (TDs.mono (Tups.new np) _ (hx.cut lo hi)))
/-- x == y, x != y over data that never changes -/
def rEqT : R2 := fun x y H Q => ∃ d e, TD H x d ∧ TD H y e ∧ SeqAt.shaped d = true ∧ SeqAt.shaped e = true ∧ Q (.bl (PyData.eqv d e)) H
def rNeT : R2 := fun x y H Q => ∃ d e, TD H x d ∧ TD H y e ∧ SeqAt.shaped d = true ∧ SeqAt.shaped e = true ∧ Q (.bl (!PyData.eqv d e)) H
theorem op_eqT (hu : X.A.units + 64 < cLine) : OpR X (compareOp .Eq) rEqT := opImp (op_eqD hu) fun x y H Q ⟨d, e, h1, h2, r⟩ => ⟨d, e, h1.dp _, h2.dp _, r⟩
theorem op_neT (hu : X.A.units + 64 < cLine) : OpR X (compareOp .NotEq) rNeT := opImp (op_neD hu) fun x y H Q ⟨d, e, h1, h2, r⟩ => ⟨d, e, h1.dp _, h2.dp _, r⟩
end
theorem shaped_strm (ms : List (Int × Int)) : SeqAt.shaped (strmD ms) = true := by
  have h : PyData.canLayAll0 (ms.map msgD) = true ∧ PyData.depthAll (ms.map msgD) ≤ 1 := by
    induction ms with
    | nil => exact ⟨rfl, Nat.zero_le _⟩
    | cons x r ih => exact ⟨by simp only [List.map_cons, PyData.canLayAll0, ih.1, Bool.and_true]; rfl, by simp only [List.map_cons, PyData.depthAll]; exact Nat.max_le.mpr ⟨Nat.le_refl _, ih.2⟩⟩
  unfold SeqAt.shaped
  simp only [strmD, PyData.canLay0, PyData.depth, h.1, Bool.true_and, decide_eq_true_eq]
  have := h.2
  omega
end Sb

/-! An own error class over a built-in one, its __init__ storing its one argument under the argument's name. -/
namespace PySem
namespace OwnE
open PySem.W PySem.Calls PyProof.Rows PySem.HandSPX Builtin Builtin.ObjectAttr
/-- the base: its name, its __new__, its __init__, its mro -/
structure Base where
  B : String
  newId : String
  initId : String
  bm : List Value
structure Base.Ok (b : Base) : Prop where
  fb : ExcBaseFacts b.B b.newId b.initId b.bm
  sb : StoreFacts b.B b.bm "object.__setattr__" "object"
  ne : b.bm.isEmpty = false
section
variable {prog : Program} {w : World} {A : Around} {R : Result → Shared → Prop} {hp : Heap} {g : Array GenState} {d : Drawn} {t : Nat} {os : OsState}
theorem tail_some {b : Base} (ok : b.Ok) : ∀ l : List Value, excTail b.bm l = true → l.isEmpty = false
  | [], e => by
    have z : b.bm = [] := (beq_iff_eq.mp e).symm
    have n := ok.ne
    rw [z] at n
    exact absurd n (by decide)
  | _ :: _, _ => rfl
/-- x.name = v, x a new error -/
theorem stored {b : Base} (ok : b.Ok) {K : W.Frag} {name : Str} {tk : Tok} {v : Value} {x C : Addr} {fv : Array Value} {cd : ClassData} (inK : K.In hp)
    (at_x : hp.get? x = some { cls := .ref C, data := .fields fv }) (at_C : W.clsIn K C = some cd) (tail : excTail b.bm cd.mro = true) (own : cd.hasDict = true) (free : W.findIn K (.ref C) name = some none)
    (want : ∀ h' tk' dx, (∀ c o, c ≠ x → hp.get? c = some o → h'.get? c = some o) → hp.objs.size ≤ dx → dx ≠ x →
      h'.get? x = some { cls := .ref C, dict := some dx, data := .fields fv } → h'.Ns1 dx (fun y => if y = name then some v else none) →
      R (.ok (.ret .none)) ⟨h', g, d, tk', os⟩) :
    codeAny (model prog w) A (.call (.builtin "object.__setattr__") ⟨[.ref x, .str name tk, v], []⟩) R ⟨hp, g, d, t, os⟩ := by
  have inst : W.InstAt hp x { cls := .ref C, data := .fields fv } C none := ⟨at_x, rfl, rfl, trivial⟩
  have so := F.store_object
  have some_ := tail_some ok _ tail
  have object : cd.mro.contains (.type "object") = true := by rw [excTail_contains "object" _ tail]; exact ok.sb.hasOwner
  have apart : x ≠ hp.objs.size := Nat.ne_of_lt (Heap.lt_size at_x)
  have under : W.Looks (model prog w) hp (isInstance (.ref x) (.type "object")) true := by
    refine inst.type.andThen (W.looks_mroIn inK ?_)
    unfold W.mroIn
    rw [at_C, Option.bind_some, if_neg (by rw [some_]; decide), object]
  have data : W.Looks (model prog w) hp (classData C) cd := W.looks_clsIn inK at_C
  have order : W.Looks (model prog w) hp (mroOf (.ref C)) cd.mro := data.andThen .now
  have nobody : W.Looks (model prog w) hp (storeTaker? none) none := .now
  apply codeAny_call_builtin so.slot.plain so.entry
  apply @W.check_slot (model prog w) _ _ ⟨hp, g, d, t, os⟩ "object.__setattr__" "object" "__setattr__" (.ref x) [.str name tk, v] [] _ so.kind so.split under (so.args (.ref x) (.str name tk) v)
  rw [W.osa_eq, refuse_eq]
  apply wpAny_bind
  apply wpAny_bind
  apply inst.type.at
  apply wpAny_bind
  apply order.at
  rw [excTail_pass _ (ok.sb.passes _) _ tail]
  apply wpAny_pure
  apply wpAny_bind
  apply inst.type.at
  apply wpAny_bind
  apply (W.looks_findIn inK free).at
  apply wpAny_bind
  apply nobody.at
  show wpAny _ _ (storeInOwnDict (.ref x) (.ref C) (.str name tk) name v false) _ _ _
  obtain ⟨nm, bs, mro, ns, qn, hd, sn, sb, ab, col, del⟩ := cd
  dsimp only at own
  subst own
  unfold storeInOwnDict ownDictForStores
  repeat (first
    | with_reducible refine store_in_new ?_ ?_
    | with_reducible refine wpAny_loadPart_at at_x ?_
    | with_reducible refine data.at ?_
    | wp_step)
  · exact ⟨_, #[], _, (Heap.get?_update_ne _ _ _ _ apart.symm).trans (Heap.get?_push_at rfl rfl), rfl, (fun e he => absurd he (by simp)), (fun _ => rfl)⟩
  · intro h' tk' ns1 but
    have still : (hp.push { cls := .type "dict", data := .dict #[] }).get? x = some { cls := .ref C, data := .fields fv } := Heap.get?_push_of_some _ at_x
    refine want h' tk' hp.objs.size ?_ (Nat.le_refl _) apart.symm ?_ ns1
    · intro c o hc ho
      rw [but.2 c (Nat.ne_of_lt (Heap.lt_size ho)), Heap.get?_update_ne _ _ _ _ hc]
      exact Heap.get?_push_of_some _ ho
    · rw [but.2 x apart]
      exact Heap.get?_update_self _ still rfl
end
/-! the text of __init__ -/
def iA (f : Str) (p1 p2 : Pos) : Arguments := { posonlyargs := [], args := [{ arg := "self", annotation := none, pos := p1 }, { arg := f, annotation := none, pos := p2 }], vararg := none, kwonlyargs := [], kw_defaults := [], kwarg := none, defaults := [] }
def iB (f : Str) (q1 q2 q3 q4 : Pos) : List Stmt := [.Assign [.Attribute (.Name "self" q1) f q2] (.Name f q3) q4]
/-- what the written part says of the class x, at C, and of its __init__, at fI -/
structure ErrTxt (b : Base) (x f qual : Str) (K : Frag) (mg : Str → Option Value) (C fI : Addr) : Prop where
  gC : mg x = some (.ref C)
  cls : ∃ nm q N bs bm sn sub ab col dd k0 k1 k2 k3 k5, K.lookup C = some (excClassObj nm q C N bs bm true sn sub ab col dd k0 k1 k2 k3 k5 b.newId) ∧ excTail b.bm bm = true
  sa : findIn K (.ref C) "__setattr__" = some (some (.builtin "object.__setattr__"))
  ga : findIn K (.ref C) "__getattribute__" = some (some (.builtin "BaseException.__getattribute__"))
  gg : findIn K (.ref C) "__getattr__" = some none
  noN : findIn K (.ref C) f = some none
  iC : findIn K (.ref C) "__init__" = some (some (.ref fI))
  tC : typeIn K (.ref fI) = some (.type "function")
  kC : keepIn K (.ref C) = true
  exC : subIn K (.ref C) (.type "BaseException") = some true
  tyC : typeIn K (.ref C) = some (.type "type")
  hdC : hasDictIn K C = true
  te : exmOne K (.ref C) (.ref C) = some true
  fn : ∃ (oc : Value) (od : Option Addr) (doc pm : Value) (an : Option Addr) (cdv ct : Value) (osl : Array (Option Value)) (p1 p2 q1 q2 q3 q4 : Pos) (iS : Scope),
    K.lookup fI = some ⟨oc, od, .func (fnOf "__init__" qual (iA f p1 p2) (iB f q1 q2 q3 q4) iS .none .none doc pm an cdv ct), osl⟩ ∧ codeIn K cdv qual = true ∧
    iS.kind = .function ∧ iS.names.lookup ("self" : Str) = some .local ∧ iS.names.lookup f = some .local ∧ iS.isCoroutine = false ∧ iS.isGenerator = false
theorem one_le_line (v : Value) : [v].length ≤ sizeLine := by
  show 1 ≤ sizeLine
  decide
theorem ldE {M : Model} {s : Shared} {name : Str} {scope : Scope} {L a : Addr} {cd : Value} {m : Str → Option Value} {x : Str} {pos : Pos} {v : Value} {Q : Value → Shared → Prop} {A : Around} {E : Value → Shared → Prop} (hn : s.heap.Ns L m) (hv : m x = some v) (h : Q v s)
    (hk : scope.kind = .function) (hl : scope.names.lookup x = some .local) (hd : (x == ("__debug__" : Str)) = false) :
    wpAny M A (eval (.Name x pos) (envOfC name scope L a cd)) Q E s := wpAny_Name (wpAny_loadName_local hk hl hn hv h) hd
/-- what __init__ leaves of a fresh exception at x -/
structure Left (h h' : Heap) (x C dx t1 : Addr) (f : Str) (v : Value) : Prop where
  keep : ∀ b o, b ≠ x → h.get? b = some o → h'.get? b = some o
  obj : h'.get? x = some { cls := .ref C, dict := some dx, data := .fields #[.ref t1, .none, .none, .none, .bool false, .none] }
  dbig : h.objs.size ≤ dx
  dne : dx ≠ x
  ns : h'.Ns1 dx (fun y => if y = f then some v else none)
/-- a made error -/
structure Made1 (h h' : Heap) (e C d : Addr) (f : Str) (v : Value) : Prop where
  keep : ∀ b o, h.get? b = some o → h'.get? b = some o
  new : h.objs.size ≤ e
  obj : ∃ oe vs, h'.get? e = some oe ∧ oe.cls = .ref C ∧ oe.dict = some d ∧ oe.data = .fields vs ∧ vs[1]? = some .none
  dbig : h.objs.size ≤ d
  dne : d ≠ e
  ns : h'.Ns1 d (fun y => if y = f then some v else none)
section
variable {prog : Program} {w : World} {A : Around} {E : Value → Shared → Prop} {R : Result → Shared → Prop} {s : Shared} {b : Base} {x f qual : Str} {K : Frag} {mg : Str → Option Value} {C fI : Addr}
theorem run_init (ok : b.Ok) (T : ErrTxt b x f qual K mg C fI) (hf1 : ¬ f = ("self" : Str)) (hf2 : (f == ("__debug__" : Str)) = false)
    (bind : ∀ (oc : Value) (od : Option Addr) (doc pm : Value) (an : Option Addr) (cdv ct : Value) (p1 p2 q1 q2 q3 q4 : Pos) (iS : Scope) (u v : Value),
      bindArgs (fnOf "__init__" qual (iA f p1 p2) (iB f q1 q2 q3 q4) iS .none .none doc pm an cdv ct) ⟨[u, v], []⟩ = pure [(("self" : Str), u), (f, v)])
    {e t0 : Addr} {v : Value} (X : K.In s.heap) (hlim : s.heap.NoLimit) (he : s.heap.get? e = some (excO C t0)) (hnx : K.lookup e = none) (hroom : A.depth < recursionLimit)
    (want : ∀ h' tk dx, Left s.heap h' e C dx t0 f v → R (.ok (.ret .none)) { s with heap := h', toks := tk }) :
    codeAny (model prog w) A (.call (.ref fI) ⟨[.ref e, v], []⟩) R s := by
  obtain ⟨oc, od, doc, pm, an, cdv, ct, osl, p1, p2, q1, q2, q3, q4, iS, ho, hcd, sk, s1, s2, s3, s4⟩ := T.fn
  obtain ⟨nm, q, N, bs, bm, sn, sub, ab, col, dd, k0, k1, k2, k3, k5, hC, hbm⟩ := T.cls
  have hcl : clsIn K C = some { name := nm, bases := bs, mro := .ref C :: bm, ns := N, qualname := q, hasDict := true, slotNames := sn, subclasses := sub, abstract := ab, collection := col, hasDel := false } := by
    unfold clsIn
    rw [hC] <;> rfl
  refine Att.call_fn (binds := [(("self" : Str), .ref e), (f, v)]) X hlim ho hcd hroom (BindsTo.of_eq (bind oc od doc pm an cdv ct p1 p2 q1 q2 q3 q4 iS _ _)) ?_ (fun z IC => ?_) s3 s4 sk
  · simp [s1, s2]
  obtain ⟨hh, tk1, rfl⟩ := IC.toInCall.same
  have keep := IC.toInCall.keep
  have ns := IC.toInCall.ns
  have X1 : K.In hh := X.keeps keep
  have at_e := keep _ _ he
  have of_f : bindL (envOfC qual iS s.heap.objs.size fI cdv).kindOf [(("self" : Str), .ref e), (f, v)] (fun _ => none) f = some v := by
    have a1 : (envOfC qual iS s.heap.objs.size fI cdv).kindOf f = some .local := s2
    simp only [bindL, a1, if_true]
  have of_s : bindL (envOfC qual iS s.heap.objs.size fI cdv).kindOf [(("self" : Str), .ref e), (f, v)] (fun _ => none) ("self" : Str) = some (.ref e) := by
    have a1 : (envOfC qual iS s.heap.objs.size fI cdv).kindOf f = some .local := s2
    have a2 : (envOfC qual iS s.heap.objs.size fI cdv).kindOf ("self" : Str) = some .local := s1
    simp only [bindL, a1, a2, if_true]
    rw [if_neg (fun z => hf1 z.symm)]
  show wpAny _ _ (execs _ _) _ _ _
  refine wpAny_execs_cons (plainObj_wpAny_Assign_Attribute ?_)
  apply ldE (v := v) ns of_f _ sk s2 hf2
  apply ldE (v := .ref e) ns of_s _ sk s1 (by decide)
  refine set_plain X1 (ox := excO C t0) (od := none) ⟨at_e, rfl, rfl, trivial⟩ T.sa ?_
  refine stored ok X1 at_e hcl (show excTail b.bm (.ref C :: bm) = true from hbm) rfl T.noN ?_
  intro h3 tk3 dx keep3 dn dne at3 ns3
  show wpAny _ _ (execs _ _) _ _ _
  have z : s.heap.objs.size < hh.objs.size := ns.lt
  refine wpAny_execs_nil (want h3 tk3 dx ?_)
  exact { keep := fun c o hc q => keep3 c o hc (keep c o q), obj := at3, dbig := Nat.le_of_lt (Nat.lt_of_lt_of_le z dn), dne := dne, ns := ns3 }
theorem run_made (ok : b.Ok) (T : ErrTxt b x f qual K mg C fI) (hf1 : ¬ f = ("self" : Str)) (hf2 : (f == ("__debug__" : Str)) = false)
    (bind : ∀ (oc : Value) (od : Option Addr) (doc pm : Value) (an : Option Addr) (cdv ct : Value) (p1 p2 q1 q2 q3 q4 : Pos) (iS : Scope) (u v : Value),
      bindArgs (fnOf "__init__" qual (iA f p1 p2) (iB f q1 q2 q3 q4) iS .none .none doc pm an cdv ct) ⟨[u, v], []⟩ = pure [(("self" : Str), u), (f, v)])
    {v : Value} (X : K.In s.heap) (hlim : s.heap.NoLimit) (hroom : A.depth + 1 < recursionLimit)
    (want : ∀ h' tk e d, Made1 s.heap h' e C d f v → R (.ok (.ret (.ref e))) { s with heap := h', toks := tk }) :
    codeAny (model prog w) A (.call (.ref C) ⟨[v], []⟩) R s := by
  obtain ⟨nm, q, N, bs, bm, sn, sub, ab, col, dd, k0, k1, k2, k3, k5, hC, hbm⟩ := T.cls
  obtain ⟨hp, g, dr, tk, os⟩ := s
  have keep : ∀ c o, hp.get? c = some o → ((hp.push (kdv_tup [v])).push (excO C hp.objs.size)).get? c = some o := by
    intro c o z
    exact Heap.get?_push_of_some _ (Heap.get?_push_of_some _ z)
  have there : ((hp.push (kdv_tup [v])).push (excO C hp.objs.size)).get? (hp.objs.size + 1) = some (excO C hp.objs.size) := by heap_get
  have new : K.lookup (hp.objs.size + 1) = none := by
    cases e : K.lookup (hp.objs.size + 1) with
    | none => rfl
    | some o => exact absurd (Nat.lt_of_succ_lt (Heap.lt_size (X _ _ e))) (Nat.lt_irrefl _)
  apply call_own ok.fb (fun X => excTail_contains X bm hbm) (X _ _ hC) (looks_findIn X T.iC) (fun self => bind_fn X self T.tC) (one_le_line v)
  refine run_init (s := ⟨(hp.push (kdv_tup [v])).push (excO C hp.objs.size), g, dr, tk, os⟩) ok T hf1 hf2 bind (X.keeps keep) (hlim.keeps keep) there new hroom ?_
  rintro h' tk' dx ⟨keep2, at2, dn, dne, ns2⟩
  have z : hp.objs.size + 1 + 1 ≤ dx := by
    have q := dn
    rw [Heap.size_push, Heap.size_push] at q
    exact q
  refine ⟨rfl, want h' tk' (hp.objs.size + 1) dx ?_⟩
  refine { keep := fun c o q => keep2 c o ?_ (keep c o q), new := Nat.le_succ _, obj := ⟨_, _, at2, rfl, rfl, rfl, rfl⟩, dbig := (by show hp.objs.size ≤ dx; omega), dne := dne, ns := ns2 }
  exact Nat.ne_of_lt (Nat.lt_succ_of_lt (Heap.lt_size q))
end
end OwnE
end PySem
namespace L2
open PySem PySem.Spec PyProof.Rows
theorem relO_one {f : Str} {v : V} {v' : Value} (r : RelV v v') (y : Str) : RelO (List.lookup y [(f, v)]) (if y = f then some v' else none) := by
  by_cases h : y = f
  · subst h
    rw [if_pos rfl]
    have q : List.lookup y [(y, v)] = some v := by simp [List.lookup]
    rw [q]
    exact r
  · rw [if_neg h]
    have q1 : (y == f) = false := by simpa using h
    have q : List.lookup y [(f, v)] = none := by simp [List.lookup, q1]
    rw [q]
    trivial
section
variable {X : Cx} {b : OwnE.Base} {x f qual : Str} {C fI : Addr}
/-- what an error class's text gives, at any state -/
structure ErrOk (b : OwnE.Base) (x f qual : Str) (K : PySem.W.Frag) (mg : Str → Option Value) (C fI : Addr) : Prop where
  ok : b.Ok
  T : PySem.OwnE.ErrTxt b x f qual K mg C fI
  hf1 : ¬ f = ("self" : Str)
  hf2 : (f == ("__debug__" : Str)) = false
  bind : ∀ (oc : Value) (od : Option Addr) (doc pm : Value) (an : Option Addr) (cdv ct : Value) (p1 p2 q1 q2 q3 q4 : Pos) (iS : Scope) (u v : Value),
      bindArgs (PySem.W.fnOf "__init__" qual (OwnE.iA f p1 p2) (OwnE.iB f q1 q2 q3 q4) iS .none .none doc pm an cdv ct) ⟨[u, v], []⟩ = pure [(("self" : Str), u), (f, v)]
/-- x(e) -/
def tMkE (C : Addr) (f : Str) (ta : TA) : St → Hp → XK → Prop := fun σ H Q => ta σ H fun vs H1 => ∃ v, vs = [v] ∧ ∀ d, H1 d = none → Q (.ref C) (some d) (upd H1 d (.xd [(f, v)]))
theorem pmk_E {a : Expr} {ta : TA} {p pos : Pos} {k : Nat} (T : ErrOk b x f qual X.K X.mg C fI) (hr : Room k X.A) (ha : PA X [a] ta) (hg : Gl X x := by rfl) (hdb : (x == ("__debug__" : Str)) = false := by decide)
    (he : starEach (a :: []) X.env = (false, eval a X.env) :: starEach [] X.env := by rfl) (hpl : (backTo pos (starEach [] X.env)).any (·.1) = false := by rfl) :
    PMk X (.Call (.Name x p) [a] [] pos) (tMkE C f ta) := by
  intro pins s σ H Q I h
  apply wpAny_Call_Name_kw
  apply ld_glob I hg T.T.gC _ hdb
  apply PySem.W.callWith_K (h₀ := X.base) I.ok.mod.kin T.T.kC _ he hpl
  refine thn (ha.run pos pins s σ H _ I h) ?_
  rintro us s1 ⟨vs, H1, I1, r1, v, ev, q1⟩
  subst ev
  refine ⟨I1.kIn, ?_⟩
  match us, r1 with
  | [v'], .cons rv .nil =>
    show wpAny _ _ (call (.ref C) [v']) _ _ _
    have hlim := I1.nolimit
    obtain ⟨hp, g, dr, tk, os⟩ := s1
    apply wpAny_call
    refine PySem.OwnE.run_made T.ok T.T T.hf1 T.hf2 T.bind I1.kIn hlim (by have := hr.dp; omega) ?_
    intro h' tk' e d M
    show MkP X pins σ Q (.ref e) ⟨h', g, dr, tk', os⟩
    obtain ⟨oe, fv, hoe, hc, hd, hdat, h1⟩ := M.obj
    have hns := M.ns
    obtain ⟨G', g1, g2⟩ := restrict h' fun c => decide (c ≠ e)
    have gk : ∀ c, c ≠ e → G'.get? c = h'.get? c := fun c hc => g1 c (decide_eq_true hc)
    have ge : G'.get? e = none := g2 e (by simp)
    have old : ∀ c o, hp.get? c = some o → G'.get? c = some o := by
      intro c o q
      rw [gk c (Nat.ne_of_lt (Nat.lt_of_lt_of_le (Heap.lt_size q) M.new))]
      exact M.keep c o q
    have ob : ObjOk X.prog X.w (upd H1 d (.xd [(f, v)])) G' d (.xd [(f, v)]) := ⟨_, hns.at (fun o q => (gk d M.dne).trans q), fun y => relO_one rv y⟩
    have J : Inv X pins σ (upd H1 d (.xd [(f, v)])) ⟨G', g, dr, tk', os⟩ := I1.laid (t' := tk') old M.dbig ob
    refine ⟨e, oe, fv, ⟨G', g, dr, tk', os⟩, _, .ref C, some d, rfl, J, ?_, ge, hoe, ⟨hc, hd⟩, hdat, h1, ?_, rfl, I1.bare, raises_own T.T.exC T.T.tyC, q1 d (I1.hok.fresh M.dbig)⟩
    · intro c o q
      by_cases hc : c = e
      · have q' : G'.get? c = some o := q
        rw [hc, ge] at q'
        cases q'
      · exact (gk c hc).symm.trans q
    · rw [upd_ne (Ne.symm M.dne)]
      exact I1.hok.fresh M.new
/-- raise x(e) -/
def tRaiseE (C : Addr) (f : Str) (W : WX) (ta : TA) : TS := fun _ σ H => tMkE C f ta σ H fun cls d H' => W cls d σ H'
theorem ps_raiseE {a : Expr} {ta : TA} {W : WX} {p pos pos2 : Pos} {k : Nat} (hc : X.calm = true) (T : ErrOk b x f qual X.K X.mg C fI) (hr : Room k X.A) (tk : Takes X W) (ha : PA X [a] ta) (hg : Gl X x := by rfl) (hdb : (x == ("__debug__" : Str)) = false := by decide)
    (he : starEach (a :: []) X.env = (false, eval a X.env) :: starEach [] X.env := by rfl) (hpl : (backTo pos (starEach [] X.env)).any (·.1) = false := by rfl) :
    PS X (.Raise (some (.Call (.Name x p) [a] [] pos)) none pos2) (tRaiseE C f W ta) := ps_raise hc tk (pmk_E T hr ha hg hdb he hpl)
/-- e.f, e the error that the suite holds (at a; its class cls, its dict d) -/
def tByE (C : Addr) (f : Str) (a : Addr) (cls : Value) (d : Option Addr) (te : TE) : TE := fun σ H Q => te σ H fun y H1 => y = .ref a ∧ cls = .ref C ∧ ∃ (dd : Addr) (v : V), d = some dd ∧ H1 dd = some (.xd [(f, v)]) ∧ Q v H1
theorem pe_byE {a : Addr} {oe : Obj} {cls : Value} {d : Option Addr} {pn : List (Addr × Obj)} {e : Expr} {te : TE} {pos : Pos} (T : ErrOk b x f qual X.K X.mg C fI) (hz : Zc cls d oe) (hf : ∃ vs, oe.data = .fields vs) (he : PE (X.suite a ((a, oe) :: pn)) e te)
    (hb : attributeBase e f X.env (eval e X.env) = eval e X.env := by rfl) :
    PE (X.suite a ((a, oe) :: pn)) (.Attribute e f pos) (tByE C f a cls d te) := by
  constructor
  intro pins s σ H Q I h
  refine attr_of hb (thn (he.run pins s σ H _ I h) ?_)
  rintro u s1 ⟨y, H1, I1, ry, ey, ec, dd, v, ed, ea, q⟩
  subst ey ec ed
  obtain rfl : u = Value.ref a := ry
  have ha := (I1.pin (a, oe) (List.mem_append_left _ List.mem_cons_self)).1
  obtain ⟨vs, hd⟩ := hf
  obtain ⟨mA, hns, hr⟩ := (I1.hok dd _ ea : ObjOk X.prog X.w H1 s1.heap dd (.xd [(f, v)]))
  obtain ⟨od, ho, hl⟩ := lookIn_ns hns
  have l : List.lookup f [(f, v)] = some v := by simp [List.lookup]
  obtain ⟨u, hu, ru⟩ := RelO.some_of (v := v) (o := mA f) (by rw [← l]; exact hr f)
  have J : PySem.W.InstAt s1.heap a oe C (some od) := by
    refine ⟨ha, hz.1, ?_, ?_⟩
    · unfold PySem.W.notCls
      rw [hd] <;> rfl
    · rw [hz.2]
      exact ho
  exact HandSPX.exc_get I1.kIn J T.T.ga T.T.gg T.T.exC (PySem.W.findObj_own T.T.hdC T.T.noN rfl (by rw [hl, hu])) (handed_of ru) ⟨v, H1, I1.tok _, ru, q⟩
end
end L2
namespace PySem.OwnE
def bVE : Base := ⟨"ValueError", "ValueError.__new__", "ValueError.__init__", [Value.type "ValueError", Value.type "Exception", Value.type "BaseException", Value.type "object"]⟩
def bLE : Base := ⟨"LookupError", "LookupError.__new__", "LookupError.__init__", [Value.type "LookupError", Value.type "Exception", Value.type "BaseException", Value.type "object"]⟩
def bRE : Base := ⟨"RuntimeError", "RuntimeError.__new__", "RuntimeError.__init__", [Value.type "RuntimeError", Value.type "Exception", Value.type "BaseException", Value.type "object"]⟩
def bOE : Base := ⟨"OverflowError", "OverflowError.__new__", "OverflowError.__init__", [Value.type "OverflowError", Value.type "ArithmeticError", Value.type "Exception", Value.type "BaseException", Value.type "object"]⟩
theorem bVE_ok : bVE.Ok := ⟨F.excBase_ValueError, F.store_ValueError, rfl⟩
theorem bLE_ok : bLE.Ok := ⟨F.excBase_LookupError, F.store_LookupError, rfl⟩
theorem bRE_ok : bRE.Ok := ⟨F.excBase_RuntimeError, F.store_RuntimeError, rfl⟩
theorem bOE_ok : bOE.Ok := ⟨F.excBase_OverflowError, F.store_OverflowError, rfl⟩
/-- an error of its own class is what the class's clause names -/
theorem exm_own {K : W.Frag} {S : Addr} (h1 : W.subIn K (.ref S) (.type "BaseException") = some true) (h2 : W.isClsIn K S = true) (h3 : W.typeIn K (.ref S) = some (.type "type")) (h4 : W.subIn K (.ref S) (.ref S) = some true) : W.exmOne K (.ref S) (.ref S) = some true := by
  have e1 : (W.subIn K (.ref S) (.type "BaseException") == some true) = true := by
    rw [h1]
    rfl
  have e2 : ((W.clsIn K S).isSome && W.typeIn K (.ref S) == some (.type "type")) = true := by
    rw [show (W.clsIn K S).isSome = true from h2, h3]
    rfl
  unfold W.exmOne
  rw [if_pos e1]
  show (if ((W.clsIn K S).isSome && W.typeIn K (.ref S) == some (.type "type")) = true then W.subIn K (.ref S) (.ref S) else none) = some true
  rw [if_pos e2]
  exact h4
/-- what a clause of the class S says of an error of the class R -/
theorem exm_to {K : W.Frag} {R S : Addr} {b : Bool} (h1 : W.subIn K (.ref S) (.type "BaseException") = some true) (h2 : W.isClsIn K S = true) (h3 : W.typeIn K (.ref S) = some (.type "type")) (h4 : W.subIn K (.ref R) (.ref S) = some b) : W.exmOne K (.ref R) (.ref S) = some b := by
  have e1 : (W.subIn K (.ref S) (.type "BaseException") == some true) = true := by
    rw [h1]
    rfl
  have e2 : ((W.clsIn K S).isSome && W.typeIn K (.ref S) == some (.type "type")) = true := by
    rw [show (W.clsIn K S).isSome = true from h2, h3]
    rfl
  unfold W.exmOne
  rw [if_pos e1]
  show (if ((W.clsIn K S).isSome && W.typeIn K (.ref S) == some (.type "type")) = true then W.subIn K (.ref R) (.ref S) else none) = some b
  rw [if_pos e2]
  exact h4
end PySem.OwnE

/-! Where the text's defs, methods, classes and errors stand. -/
namespace Sb
open PySem PySem.Spec PyProof.Rows L2
structure Dn (K : PySem.W.Frag) (mg : Str → Option Value) (nm : Str) (st : Stmt) (ps : List Str) where
  f : Addr
  fd : FuncData
  F : Fun K nm nm st f fd
  b : Binds K fd ps []
  g : mg nm = some (.ref f)
structure Mn (K : PySem.W.Frag) (C : Addr) (nm qual : Str) (st : Stmt) (ps : List Str) where
  f : Addr
  fd : FuncData
  F : Fun K nm qual st f fd
  b : Binds K fd ps []
  M : Meth K C nm f
structure Cn (K : PySem.W.Frag) (mg : Str → Option Value) (nm : Str) where
  C : Addr
  cl : Cls K C
  g : mg nm = some (.ref C)
structure En (K : PySem.W.Frag) (mg : Str → Option Value) (bs : OwnE.Base) (nm fld qual : Str) where
  C : Addr
  i : Addr
  e : L2.ErrOk bs nm fld qual K mg C i
end Sb

/-! Data of any kind: scalars, tuples, lists, the empty dict; none of it lies at p. -/
namespace Sb
open PySem PySem.Spec PyProof.Rows L2
mutual
inductive LD (p : Addr) (H : Hp) : V → PyData → Prop
  | non : LD p H .non .none
  | bl (b : Bool) : LD p H (.bl b) (.bool b)
  | int (i : Int) : LD p H (.int i) (.int i)
  | str (x : Str) : LD p H (.str x) (.str x)
  | tup {a : Addr} {xs : List V} {ds : List PyData} : a ≠ p → H a = some (.tup xs) → LDs p H xs ds → LD p H (.ref a) (.tuple ds)
  | lst {a : Addr} {xs : List V} {ds : List PyData} : a ≠ p → a ≠ sysModules → H a = some (.lst xs) → LDs p H xs ds → LD p H (.ref a) (.list ds)
  | dic {a : Addr} : a ≠ p → H a = some (.dK []) → LD p H (.ref a) (.dict [])
  | dct {a : Addr} : a ≠ p → H a = some (.dT []) → LD p H (.ref a) (.dict [])
inductive LDs (p : Addr) (H : Hp) : List V → List PyData → Prop
  | nil : LDs p H [] []
  | cons {v : V} {vs : List V} {d : PyData} {ds : List PyData} : LD p H v d → LDs p H vs ds → LDs p H (v :: vs) (d :: ds)
end
/-- all but p stands -/
abbrev But (p : Addr) (H H' : Hp) : Prop := ∀ b o, H b = some o → b ≠ p → H' b = some o
theorem But.same {p : Addr} {H H' : Hp} (h : Same H H') : But p H H' := fun b o e _ => h b o e
mutual
theorem LD.mono {p : Addr} {H H' : Hp} (t : But p H H') : ∀ {v : V} (d : PyData), LD p H v d → LD p H' v d
  | _, .none, h => by cases h; exact .non
  | _, .bool b, h => by cases h; exact .bl b
  | _, .int i, h => by cases h; exact .int i
  | _, .str x, h => by cases h; exact .str x
  | _, .tuple ds, h => by
    cases h with
    | tup n e r => exact .tup n (t _ _ e n) (LDs.mono t ds r)
  | _, .list ds, h => by
    cases h with
    | lst n m e r => exact .lst n m (t _ _ e n) (LDs.mono t ds r)
  | _, .dict _, h => by
    cases h with
    | dic n e => exact .dic n (t _ _ e n)
    | dct n e => exact .dct n (t _ _ e n)
theorem LDs.mono {p : Addr} {H H' : Hp} (t : But p H H') : ∀ {vs : List V} (ds : List PyData), LDs p H vs ds → LDs p H' vs ds
  | _, [], h => by cases h; exact .nil
  | _, d :: ds, h => by
    cases h with
    | cons a r => exact .cons (LD.mono t d a) (LDs.mono t ds r)
end
theorem LDs.length {p : Addr} {H : Hp} : ∀ {vs : List V} {ds : List PyData}, LDs p H vs ds → vs.length = ds.length
  | _, _, .nil => rfl
  | _, _, .cons _ r => congrArg (· + 1) r.length
theorem LDs.get {p : Addr} {H : Hp} : ∀ {vs : List V} {ds : List PyData} {i : Nat} {v : V}, LDs p H vs ds → vs[i]? = some v → ∃ d, ds[i]? = some d ∧ LD p H v d
  | _, _, _, _, .nil, e => by simp at e
  | _, _, 0, _, .cons a _, e => by
    simp at e
    subst e
    exact ⟨_, rfl, a⟩
  | _, _, i + 1, v, .cons _ r, e => by
    obtain ⟨d, h1, h2⟩ := LDs.get (i := i) (v := v) r (by simpa using e)
    exact ⟨d, by simpa using h1, h2⟩
theorem LDs.at {p : Addr} {H : Hp} : ∀ {vs : List V} {ds : List PyData} {i : Nat} {d : PyData}, LDs p H vs ds → ds[i]? = some d → ∃ v, vs[i]? = some v ∧ LD p H v d
  | _, _, _, _, .nil, e => by simp at e
  | _, _, 0, _, .cons a _, e => by
    simp at e
    subst e
    exact ⟨_, rfl, a⟩
  | _, _, i + 1, v, .cons _ r, e => by
    obtain ⟨d, h1, h2⟩ := LDs.at (i := i) (d := v) r (by simpa using e)
    exact ⟨d, by simpa using h1, h2⟩
theorem LDs.app {p : Addr} {H : Hp} : ∀ {vs us : List V} {ds es : List PyData}, LDs p H vs ds → LDs p H us es → LDs p H (vs ++ us) (ds ++ es)
  | _, _, _, _, .nil, s => s
  | _, _, _, _, .cons a r, s => .cons a (r.app s)
theorem LDs.take {p : Addr} {H : Hp} : ∀ {vs : List V} {ds : List PyData} (n : Nat), LDs p H vs ds → LDs p H (vs.take n) (ds.take n)
  | _, _, 0, _ => .nil
  | _, _, _ + 1, .nil => .nil
  | _, _, n + 1, .cons a r => .cons a (r.take n)
theorem LDs.drop {p : Addr} {H : Hp} : ∀ {vs : List V} {ds : List PyData} (n : Nat), LDs p H vs ds → LDs p H (vs.drop n) (ds.drop n)
  | _, _, 0, r => r
  | _, _, _ + 1, .nil => .nil
  | _, _, n + 1, .cons _ r => r.drop n
mutual
theorem TD.ld {p : Addr} {H : Hp} (hp : ∀ xs, H p ≠ some (.tup xs)) : ∀ {v : V} (d : PyData), TD H v d → LD p H v d
  | _, .none, h => by cases h; exact .non
  | _, .bool b, h => by cases h; exact .bl b
  | _, .int i, h => by cases h; exact .int i
  | _, .str x, h => by cases h; exact .str x
  | _, .tuple ds, h => by
    cases h with
    | tup e r => exact .tup (fun z => hp _ (z ▸ e)) e (TDs.ld hp ds r)
  | _, .list _, h => by cases h
  | _, .dict _, h => by cases h
theorem TDs.ld {p : Addr} {H : Hp} (hp : ∀ xs, H p ≠ some (.tup xs)) : ∀ {vs : List V} (ds : List PyData), TDs H vs ds → LDs p H vs ds
  | _, [], h => by cases h; exact .nil
  | _, d :: ds, h => by
    cases h with
    | cons a r => exact .cons (TD.ld hp d a) (TDs.ld hp ds r)
end
/-! it is read off the heap -/
section
variable {X : Cx} {pins : List (Addr × Obj)} {σ : L2.St} {H : Hp} {s : Shared} {p : Addr}
mutual
theorem LD.reads (I : L2.Inv X pins σ H s) : ∀ (d : PyData) (v : V) (u : Value), LD p H v d → RelV v u → ∃ as, Reads s.heap u d as ∧ sysModules ∉ as
  | .none, _, _, h, r => by cases h; cases r; exact ⟨_, Reads.none, List.not_mem_nil⟩
  | .bool b, _, _, h, r => by cases h; cases r; exact ⟨_, Reads.bool b, List.not_mem_nil⟩
  | .int i, _, _, h, r => by cases h; obtain ⟨t, rfl⟩ := r; exact ⟨_, Reads.int i t, List.not_mem_nil⟩
  | .str x, _, _, h, r => by cases h; obtain ⟨t, rfl⟩ := r; exact ⟨_, Reads.str x t, List.not_mem_nil⟩
  | .list ds, _, _, h, r => by
    cases h with
    | lst n m e hs =>
      cases r
      obtain ⟨its, rv, ⟨o, k, ho, hc, _, hd⟩, _⟩ := I.list (SqL.of e)
      obtain ⟨as, hr, hn⟩ := LDs.reads I ds _ its hs rv
      refine ⟨_, Reads.list ho hc hd hr, fun z => ?_⟩
      rcases List.mem_cons.mp z with z | z
      · exact m z.symm
      · exact hn z
  | .tuple ds, _, _, h, r => by
    cases h with
    | tup n e hs =>
      cases r
      obtain ⟨its, rv, ⟨o, ho, hc, k, hd⟩, _⟩ := I.tuple (SqT.of e)
      obtain ⟨as, hr, hn⟩ := LDs.reads I ds _ its hs rv
      exact ⟨_, Reads.tuple ho hc hd hr, hn⟩
  | .dict _, _, _, h, r => by
    cases h with
    | @dic a n e =>
      cases r
      obtain ⟨_, low, vs, rel, o, es, ep, ho, ex, hd, _, pr, _⟩ := dk_of I.hok e
      cases rel
      have hes : es.toList = [] := List.eq_nil_of_length_eq_zero (Pairs.length pr)
      refine ⟨_, Reads.dict (kvs := []) ho ex.1 hd (by rw [hes]; exact .nil) (by rw [hes]; exact .nil), fun z => ?_⟩
      have z' : sysModules = a := by simpa using z
      rw [← z'] at low
      simp at low
    | @dct a n e =>
      cases r
      obtain ⟨_, low, xs, rel, o, es, ep, ho, ex, hd, pr, _⟩ := dt_of I.hok e
      cases rel
      have hes : es.toList = [] := pr
      refine ⟨_, Reads.dict (kvs := []) ho ex.1 hd (by rw [hes]; exact .nil) (by rw [hes]; exact .nil), fun z => ?_⟩
      have z' : sysModules = a := by simpa using z
      rw [← z'] at low
      simp at low
theorem LDs.reads (I : L2.Inv X pins σ H s) : ∀ (ds : List PyData) (vs : List V) (us : List Value), LDs p H vs ds → Vals vs us → ∃ as, ReadsAll s.heap us ds as ∧ sysModules ∉ as
  | [], _, _, h, r => by cases h; cases r; exact ⟨_, ReadsAll.nil, List.not_mem_nil⟩
  | d :: ds, _, _, h, r => by
    cases h with
    | cons h1 h2 =>
      cases r with
      | cons r1 r2 =>
        obtain ⟨as, q1, n1⟩ := LD.reads I d _ _ h1 r1
        obtain ⟨bs, q2, n2⟩ := LDs.reads I ds _ _ h2 r2
        refine ⟨_, ReadsAll.cons q1 q2, fun z => ?_⟩
        rcases List.mem_append.mp z with z | z
        · exact n1 z
        · exact n2 z
end
end
/-- its type -/
def tyN : PyData → String
  | .none => "NoneType"
  | .bool _ => "bool"
  | .int _ => "int"
  | .str _ => "str"
  | .list _ => "list"
  | .tuple _ => "tuple"
  | .dict _ => "dict"
theorem LD.ty {K : PySem.W.Frag} {p : Addr} {H : Hp} {v : V} {d : PyData} (h : LD p H v d) : TyX K H v (.type (tyN d)) := by
  cases h with
  | non => exact .base .non
  | bl b => exact .base (.bl b)
  | int i => exact .base (.int i)
  | str x => exact .base (.str x)
  | tup n e r => exact .base (.tup e)
  | lst n m e r => exact .base (.lst e)
  | dic n e => exact .base (.dK e)
  | dct n e => exact .base (.dT e)
def isIntD : PyData → Bool
  | .int _ => true
  | .bool _ => true
  | _ => false
def isBoolD : PyData → Bool
  | .bool _ => true
  | _ => false
def isTupD : PyData → Bool
  | .tuple _ => true
  | _ => false
theorem kit_int (K : PySem.W.Frag) (d : PyData) : PySem.W.kitOne K (.type (tyN d)) (.type "int") = some (isIntD d) := by
  cases d <;> first | rfl | decide +kernel | kernel_rfl
theorem kit_bool (K : PySem.W.Frag) (d : PyData) : PySem.W.kitOne K (.type (tyN d)) (.type "bool") = some (isBoolD d) := by
  cases d <;> first | rfl | decide +kernel | kernel_rfl
theorem kit_tup (K : PySem.W.Frag) (d : PyData) : PySem.W.kitOne K (.type (tyN d)) (.type "tuple") = some (isTupD d) := by
  cases d <;> first | rfl | decide +kernel | kernel_rfl
section
variable {X : Cx}
/-- isinstance(x, T) -/
def rIsL (T : String) (f : PyData → Bool) : List V → Hp → VK → Prop := fun xs H Q => ∃ p v d, xs = [v, .ty T] ∧ LD p H v d ∧ Q (.bl (f d)) H
theorem call_isL {T : String} {f : PyData → Bool} (hf : ∀ K d, PySem.W.kitOne K (.type (tyN d)) (.type T) = some (f d)) : CallR X (.builtin "isinstance") (rIsL T f) := by
  intro pins s σ H xs us Q I r h
  obtain ⟨p, v, d, rfl, hv, q⟩ := h
  exact call_isi pins s σ H _ us Q I r ⟨v, .ty T, _, _, _, rfl, .ty T, hv.ty, hf _ d, q⟩
/-- repr -/
def rReprL : List V → Hp → VK → Prop := fun xs H Q => ∃ p v d, xs = [v] ∧ LD p H v d ∧ d.showable = true ∧ d.depth ≤ 60 ∧ d.shown.length ≤ sizeLine ∧ Q (.str d.shown) H
theorem call_reprL (gd : X.A.guards = some []) (hu : X.A.units + 64 < cLine) : CallR X (.builtin "repr") rReprL := by
  intro pins s σ H xs us Q I r h
  obtain ⟨p, v, d, rfl, hv, hs, hd, hz, q⟩ := h
  by_cases hn : d.hasDict = false ∧ ∀ a, v ≠ .ref a
  · have dp : Dp X.K H v d := by
      cases hv with
      | non => exact .non
      | bl b => exact .bl b
      | int i => exact .int i
      | str x => exact .str x
      | tup n e r => exact absurd rfl (hn.2 _)
      | lst n m e r => exact absurd rfl (hn.2 _)
      | dic n e => exact absurd rfl (hn.2 _)
      | dct n e => exact absurd rfl (hn.2 _)
    exact call_reprD gd hu pins s σ H _ us Q I r ⟨v, d, rfl, dp, hs, hn.1, hd, hz, q⟩
  · obtain ⟨a, rfl⟩ : ∃ a, v = .ref a := by
      cases hv with
      | non => exact absurd ⟨rfl, fun _ z => by cases z⟩ hn
      | bl b => exact absurd ⟨rfl, fun _ z => by cases z⟩ hn
      | int i => exact absurd ⟨rfl, fun _ z => by cases z⟩ hn
      | str x => exact absurd ⟨rfl, fun _ z => by cases z⟩ hn
      | tup n e r => exact ⟨_, rfl⟩
      | lst n m e r => exact ⟨_, rfl⟩
      | dic n e => exact ⟨_, rfl⟩
      | dct n e => exact ⟨_, rfl⟩
    obtain ⟨u, rfl, ru⟩ := vals1 r
    obtain rfl : u = Value.ref a := ru
    obtain ⟨as, rd, low⟩ := LD.reads I d _ _ hv rfl
    exact repr_of_reads' rd hs (fun _ => low) gd (by omega) (fun _ _ z => z) (fun h' u' tk hk => ⟨.str d.shown, H, I.kept (fun b o z => hk b o z), ⟨_, rfl⟩, q⟩) hz
/-- list(t), where it lies -/
def rLstL : List V → Hp → VK → Prop := fun xs H Q => ∃ a ys, xs = [.ref a] ∧ H a = some (.tup ys) ∧ ∀ l, H l = none → l ≠ sysModules → Q (.ref l) (upd H l (.lst ys))
theorem call_lstL : CallR X (.type "list") rLstL := by
  intro pins s σ H xs us Q I r h
  obtain ⟨a, ys, rfl, ha, q⟩ := h
  obtain ⟨u, rfl, rx⟩ := vals1 r
  obtain rfl : u = Value.ref a := rx
  obtain ⟨its, rv, ⟨o, ho, hc, n, hd⟩, hz⟩ := I.tuple (SqT.of ha)
  have hl := rv.length
  refine call_list_seq a (.inr rfl) ho hc hd (fun h' c' kp e => ?_) (by simp only [List.size_toArray] <;> omega)
  exact ⟨.ref s.heap.objs.size, _, I.laid (t' := s.toks) kp (Nat.le_refl _) (show ObjOk X.prog X.w _ h' _ (.lst ys) from ⟨hz, its, c', rv, e⟩), rfl, q _ (I.hok.fresh (Nat.le_refl _)) (Nat.ne_of_gt I.big)⟩
/-- t != () -/
def rNe0 : R2 := fun x y H Q => ∃ a b xs, x = .ref a ∧ y = .ref b ∧ H a = some (.tup xs) ∧ H b = some (.tup []) ∧ Q (.bl (!xs.isEmpty)) H
theorem op_ne0 (hu : X.A.units + 64 < cLine) : OpR X (compareOp .NotEq) rNe0 := by
  intro pins s σ H x y v u Q I rx ry h
  obtain ⟨a, b, xs, rfl, rfl, ha, hb, q⟩ := h
  cases rx
  cases ry
  obtain ⟨its, r1, t1, _⟩ := I.tuple (SqT.of ha)
  obtain ⟨its2, r2, t2, _⟩ := I.tuple (SqT.of hb)
  cases r2
  have l1 := r1.length
  refine SeqAt.RcNeAt.tuples (e := fun _ => true) t1 t2 (by omega) (fun j _ h2 => absurd h2 (Nat.not_lt_zero _)) X.prog X.w X.xe (EP X pins σ Q) ⟨.bl _, H, I, rfl, ?_⟩
  have e : (!((List.range (min its.toArray.size ([] : List Value).toArray.size)).all (fun _ => true) && its.toArray.size == ([] : List Value).toArray.size)) = !xs.isEmpty := by
    cases xs with
    | nil => cases r1; rfl
    | cons z zs => cases r1; simp
  rw [e]
  exact q
/-- two pairs of texts, != -/
def rNeS : R2 := fun x y H Q => ∃ a b s1 s2 t1 t2, x = .ref a ∧ y = .ref b ∧ H a = some (.tup [.str s1, .str s2]) ∧ H b = some (.tup [.str t1, .str t2]) ∧ Q (.bl (!(s1 == t1 && s2 == t2))) H
theorem op_neS (hu : X.A.units + 64 < cLine) : OpR X (compareOp .NotEq) rNeS := by
  intro pins s σ H x y v u Q I rx ry h
  obtain ⟨a, b, s1, s2, t1, t2, rfl, rfl, ha, hb, q⟩ := h
  cases rx
  cases ry
  obtain ⟨its, r1, T1, _⟩ := I.tuple (SqT.of ha)
  obtain ⟨its2, r2, T2, _⟩ := I.tuple (SqT.of hb)
  obtain ⟨a1, a2, rfl, ra1, ra2⟩ := vals2 r1
  obtain ⟨b1, b2, rfl, rb1, rb2⟩ := vals2 r2
  obtain ⟨k1, rfl⟩ := ra1
  obtain ⟨k2, rfl⟩ := ra2
  obtain ⟨k3, rfl⟩ := rb1
  obtain ⟨k4, rfl⟩ := rb2
  refine SeqAt.RcNeAt.tuples (e := fun j => if j = 0 then s1 == t1 else s2 == t2) T1 T2 (by omega) (fun j h1 h2 => ?_) X.prog X.w X.xe (EP X pins σ Q) ⟨.bl _, H, I, rfl, ?_⟩
  · match j, h1, h2 with
    | 0, _, _ => exact SeqAt.EqAt.str_str _ _ _ _
    | 1, _, _ => exact SeqAt.EqAt.str_str _ _ _ _
  · have e : ((List.range (min 2 2)).all (fun j => if j = 0 then s1 == t1 else s2 == t2) && (2 == 2 : Bool)) = (s1 == t1 && s2 == t2) := by
      simp [List.range, List.range.loop]
    show Q (.bl (!((List.range (min 2 2)).all (fun j => if j = 0 then s1 == t1 else s2 == t2) && (2 == 2 : Bool)))) H
    rw [e]
    exact q
/-- t[lo:hi], t + u -/
def rSlL (p : Addr) : V → Option Int → Option Int → Hp → VK → Prop := fun x lo hi H Q => ∃ ds, LD p H x (.tuple ds) ∧ H p ≠ none ∧ ∀ a H', Same H H' → LD p H' (.ref a) (.tuple (cutA ds lo hi)) → Q (.ref a) H'
theorem LDs.cut {p : Addr} {H : Hp} {xs : List V} {ds : List PyData} (h : LDs p H xs ds) (lo hi : Option Int) : LDs p H (cutV xs lo hi) (cutA ds lo hi) := by
  unfold cutV cutA
  rw [h.length]
  exact (h.drop _).take _
theorem LD.isTup {p : Addr} {H : Hp} {v : V} {ds : List PyData} (h : LD p H v (.tuple ds)) : ∃ a xs, v = .ref a ∧ a ≠ p ∧ H a = some (.tup xs) ∧ LDs p H xs ds := by
  cases h with
  | tup n e r => exact ⟨_, _, rfl, n, e, r⟩
theorem ne_at {p q : Addr} {H : Hp} (hp : H p ≠ none) (hq : H q = none) : q ≠ p := fun e => hp (e ▸ hq)
theorem sl_L {p : Addr} : SlR X (rSlL p) := by
  intro pins s σ H x v vl vu lo hi sl Q I rx hs pl pu h
  refine sl_tupA pins s σ H x v vl vu lo hi sl Q I rx hs pl pu ?_
  obtain ⟨ds, hT, hp, q⟩ := h
  obtain ⟨a, xs, rfl, n, ha, hx⟩ := hT.isTup
  refine ⟨a, xs, rfl, SqT.of ha, ?_, ?_⟩
  · rintro ⟨e1, e2⟩
    refine q a H (Same.refl H) ?_
    have e : cutA ds lo hi = ds := by
      unfold cutA
      rw [← hx.length, e1, e2, List.drop_zero, Nat.sub_zero]
      exact List.take_of_length_le (by rw [hx.length]; exact Nat.le_refl _)
    rw [e]
    exact hT
  · intro _ t nt
    exact q t _ (same_new nt) (.tup (ne_at hp nt) upd_same (LDs.mono (But.same (same_new nt)) _ (hx.cut lo hi)))
def rCatL (p : Addr) : R2 := fun x y H Q => ∃ ds es, LD p H x (.tuple ds) ∧ LD p H y (.tuple es) ∧ H p ≠ none ∧ ds.length + es.length ≤ 100000 ∧ ∀ a H', Same H H' → LD p H' (.ref a) (.tuple (ds ++ es)) → Q (.ref a) H'
theorem op_catL {p : Addr} : OpR X (binaryOp .Add) (rCatL p) := opImp op_catA fun x y H Q h => by
  obtain ⟨ds, es, h1, h2, hp, hl, q⟩ := h
  obtain ⟨a, xs, rfl, n1, ha, hx⟩ := h1.isTup
  obtain ⟨b, ys, rfl, n2, hb, hy⟩ := h2.isTup
  have lx := hx.length
  have ly := hy.length
  refine ⟨a, b, xs, ys, rfl, rfl, SqT.of ha, SqT.of hb, ?_, ?_, ?_, ?_⟩
  · rw [lx, ly]
    exact Nat.le_trans hl (by decide)
  · intro e
    subst e
    cases hx
    exact q b H (Same.refl H) h2
  · intro _ e
    subst e
    cases hy
    exact q a H (Same.refl H) (by rw [List.append_nil]; exact h1)
  · intro _ _ t nt
    exact q t _ (same_new nt) (.tup (ne_at hp nt) upd_same (LDs.mono (But.same (same_new nt)) _ (hx.app hy)))
end
/-! small enough to be shown -/
mutual
def wt : PyData → Nat
  | .list xs => wts xs + 1
  | .tuple xs => wts xs + 1
  | .dict _ => 1
  | _ => 1
def wts : List PyData → Nat
  | [] => 0
  | x :: r => wt x + wts r
end
mutual
def Sm : PyData → Prop
  | .int i => i.natAbs < 10 ^ 99
  | .str x => (reprText x).length ≤ 100
  | .list xs => Sms xs
  | .tuple xs => Sms xs
  | .dict kvs => kvs = []
  | _ => True
def Sms : List PyData → Prop
  | [] => True
  | x :: r => Sm x ∧ Sms r
end
theorem Sms.get : ∀ {ds : List PyData} {i : Nat} {d : PyData}, Sms ds → ds[i]? = some d → Sm d
  | _ :: _, 0, _, h, e => by simp at e; exact e ▸ h.1
  | _ :: r, i + 1, _, h, e => Sms.get (ds := r) (i := i) h.2 (by simpa using e)
theorem Sms.app : ∀ {ds es : List PyData}, Sms ds → Sms es → Sms (ds ++ es)
  | [], _, _, h => h
  | _ :: _, _, h, g => ⟨h.1, Sms.app h.2 g⟩
theorem Sms.take : ∀ {ds : List PyData} (n : Nat), Sms ds → Sms (ds.take n)
  | _, 0, _ => trivial
  | [], _ + 1, _ => trivial
  | _ :: _, n + 1, h => ⟨h.1, Sms.take n h.2⟩
theorem Sms.drop : ∀ {ds : List PyData} (n : Nat), Sms ds → Sms (ds.drop n)
  | _, 0, h => h
  | [], _ + 1, _ => trivial
  | _ :: _, n + 1, h => Sms.drop n h.2
theorem wts_app : ∀ (ds es : List PyData), wts (ds ++ es) = wts ds + wts es
  | [], es => by simp [wts]
  | d :: r, es => by
    simp only [List.cons_append, wts, wts_app r es]
    omega
theorem wts_take_drop (ds : List PyData) (n : Nat) : wts (ds.take n) + wts (ds.drop n) = wts ds := by
  rw [← wts_app, List.take_append_drop]
theorem wts_get : ∀ {ds : List PyData} {i : Nat} {d : PyData}, ds[i]? = some d → wt d ≤ wts ds
  | _ :: _, 0, _, e => by
    simp at e
    subst e
    simp only [wts]
    omega
  | _ :: r, i + 1, _, e => by
    have := wts_get (ds := r) (i := i) (by simpa using e)
    simp only [wts]
    omega
theorem depthAll_app : ∀ (ds es : List PyData), PyData.depthAll (ds ++ es) = max (PyData.depthAll ds) (PyData.depthAll es)
  | [], es => by simp [PyData.depthAll]
  | d :: r, es => by
    simp only [List.cons_append, PyData.depthAll, depthAll_app r es]
    omega
theorem depth_get : ∀ {ds : List PyData} {i : Nat} {d : PyData}, ds[i]? = some d → d.depth ≤ PyData.depthAll ds
  | _ :: _, 0, _, e => by
    simp at e
    subst e
    simp only [PyData.depthAll]
    omega
  | _ :: r, i + 1, _, e => by
    have := depth_get (ds := r) (i := i) (by simpa using e)
    simp only [PyData.depthAll]
    omega
theorem depth_cut (ds : List PyData) (n : Nat) : PyData.depthAll (ds.take n) ≤ PyData.depthAll ds ∧ PyData.depthAll (ds.drop n) ≤ PyData.depthAll ds := by
  have h := depthAll_app (ds.take n) (ds.drop n)
  rw [List.take_append_drop] at h
  omega
mutual
theorem sm_shown : ∀ d : PyData, Sm d → d.showable = true ∧ d.shown.length + 2 ≤ 110 * wt d
  | .none, _ => ⟨rfl, by decide⟩
  | .bool b, _ => ⟨rfl, by cases b <;> decide⟩
  | .int i, h => by
    have n := Nice.int h
    refine ⟨n.sho, ?_⟩
    have := n.len
    show _ ≤ 110 * 1
    omega
  | .str x, h => by
    refine ⟨rfl, ?_⟩
    have h' : (reprText x).length ≤ 100 := h
    show (reprText x).length + 2 ≤ 110 * 1
    omega
  | .list xs, h => by
    obtain ⟨a, b, c⟩ := sms_shown xs h
    refine ⟨a, ?_⟩
    have l := listText_len_le (PyData.shownAll xs)
    simp only [PyData.shown, wt]
    omega
  | .tuple xs, h => by
    obtain ⟨a, b, c⟩ := sms_shown xs h
    refine ⟨a, ?_⟩
    have l := tupleText_len_le (PyData.shownAll xs)
    simp only [PyData.shown, wt]
    omega
  | .dict kvs, h => by
    have h' : kvs = [] := h
    subst h'
    exact ⟨rfl, by decide⟩
theorem sms_shown : ∀ ds : List PyData, Sms ds → PyData.showableAll ds = true ∧ ((PyData.shownAll ds).map (·.length)).sum + 2 * (PyData.shownAll ds).length ≤ 110 * wts ds ∧ (PyData.shownAll ds).length = ds.length
  | [], _ => ⟨rfl, by decide, rfl⟩
  | d :: ds, h => by
    obtain ⟨a, b⟩ := sm_shown d h.1
    obtain ⟨c, e, f⟩ := sms_shown ds h.2
    refine ⟨by simp only [PyData.showableAll, a, c, Bool.and_self], ?_, by simp only [PyData.shownAll, List.length_cons, f]⟩
    simp only [PyData.shownAll, List.map_cons, List.sum_cons, List.length_cons, wts]
    omega
end
end Sb

/-! o.m(..), C(..): calls of promises that know that no repr is under way. -/
namespace Sb
open PySem PySem.Spec PyProof.Rows L2
/-- how a method's call is read -/
abbrev MethForm (X : Cx) (o : Expr) (m : Str) (es : List Expr) (pos apos : Pos) (pl : Sem Bool) : Prop :=
  eval (.Call (.Attribute o m apos) es [] pos) X.env = (do let ov ← eval o X.env; standAt apos.atName; let (f, first) ← holding [ov] (getMethod ov m pl); callWith pos f first (backTo pos (starEach es X.env)) (backToKw pos (keywordEach [] X.env)))
section
variable {X : Cx} {CX : CXT} {k : Nat} {f C : Addr} {fd : FuncData} {ps : List Str} {sp : Sp} {dvs : List V} {ds : List Value} {x m : Str} {p pos apos : Pos} {e o : Expr} {es : List Expr} {ta : TE} {t : TA} {E : XK}
/-- o.m(e, ..) -/
theorem pe_methG {pl : Sem Bool} (ho : PE X o ta) (c : Cls X.K C) (hm : Meth X.K C m f) (F : FnG X.prog X.w X.K X.mg X.base CX k f fd ps sp) (gd : X.A.guards = some []) (hr : Room k X.A) (hb : Binds X.K fd ps ds) (hd : Vals dvs ds) (hx : Passes CX X E) (ha : PA X (e :: es) t)
    (hst : starEach (e :: es) X.env = (false, eval e X.env) :: starEach es X.env := by rfl) (hpl : (backTo pos (starEach es X.env)).any (·.1) = false := by rfl)
    (ht : MethForm X o m (e :: es) pos apos pl := by rfl) : PE X (.Call (.Attribute o m apos) (e :: es) [] pos) (tMeth C m sp dvs E ta t) := by
  constructor
  intro pins s σ H Q I h
  refine PySem.W.methodCall_KW (pl := pl) (thn (ho.run pins s σ H _ I h) ?_) ht
  rintro u s1 ⟨y, H1, I1, ry, a, dx, fs, rfl, ea, l, q⟩
  obtain rfl : u = Value.ref a := ry
  refine getmeth_ok I1 ea c hm l ?_
  refine PySem.W.callWith_K (first := [.ref a]) (h₀ := X.base) I.ok.mod.kin hm.kp (thn (ha.run pos pins s1 σ H1 _ I1 q) ?_) hst hpl
  rintro us s2 ⟨vs, H2, I2, r, q2⟩
  exact ⟨I2.kIn, runG (us := .ref a :: us) (vs := .ref a :: vs) F gd hr hb hd (fun er s' z => hx pins σ H2 s2 er s' I2 z) I2 (.cons rfl r) q2⟩
/-- o.m() -/
theorem pe_meth0G {pl : Sem Bool} (ho : PE X o ta) (c : Cls X.K C) (hm : Meth X.K C m f) (F : FnG X.prog X.w X.K X.mg X.base CX k f fd ps sp) (gd : X.A.guards = some []) (hr : Room k X.A) (hb : Binds X.K fd ps ds) (hd : Vals dvs ds) (hx : Passes CX X E)
    (ht : MethForm X o m [] pos apos pl := by rfl) : PE X (.Call (.Attribute o m apos) [] [] pos) (tMeth C m sp dvs E ta tNil) := by
  constructor
  intro pins s σ H Q I h
  refine PySem.W.methodCall_KW (pl := pl) (thn (ho.run pins s σ H _ I h) ?_) ht
  rintro u s1 ⟨y, H1, I1, ry, a, dx, fs, rfl, ea, l, q⟩
  obtain rfl : u = Value.ref a := ry
  refine getmeth_ok I1 ea c hm l ?_
  exact PySem.W.callWith_K0 (first := [.ref a]) I1.kIn hm.kp (runG (us := [.ref a]) (vs := [.ref a]) F gd hr hb hd (fun er s' z => hx pins σ H1 s1 er s' I1 z) I1 (.cons rfl .nil) q)
/-- the same, what is raised wished for at the slots -/
theorem pe_methGS {pl : Sem Bool} {E : L2.St → XK} (ho : PE X o ta) (c : Cls X.K C) (hm : Meth X.K C m f) (F : FnG X.prog X.w X.K X.mg X.base CX k f fd ps sp) (gd : X.A.guards = some []) (hr : Room k X.A) (hb : Binds X.K fd ps []) (hx : ∀ σ, PassesAt CX X σ (E σ)) (ha : PA X (e :: es) t)
    (hst : starEach (e :: es) X.env = (false, eval e X.env) :: starEach es X.env := by rfl) (hpl : (backTo pos (starEach es X.env)).any (·.1) = false := by rfl)
    (ht : MethForm X o m (e :: es) pos apos pl := by rfl) : PE X (.Call (.Attribute o m apos) (e :: es) [] pos) (fun σ H Q => tMeth C m sp [] (E σ) ta t σ H Q) := by
  constructor
  intro pins s σ H Q I h
  refine PySem.W.methodCall_KW (pl := pl) (thn (ho.run pins s σ H _ I h) ?_) ht
  rintro u s1 ⟨y, H1, I1, ry, a, dx, fs, rfl, ea, l, q⟩
  obtain rfl : u = Value.ref a := ry
  refine getmeth_ok I1 ea c hm l ?_
  refine PySem.W.callWith_K (first := [.ref a]) (h₀ := X.base) I.ok.mod.kin hm.kp (thn (ha.run pos pins s1 σ H1 _ I1 q) ?_) hst hpl
  rintro us s2 ⟨vs, H2, I2, r, q2⟩
  exact ⟨I2.kIn, runG (us := .ref a :: us) (vs := .ref a :: vs) F gd hr hb .nil (fun er s' z => hx σ pins H2 s2 er s' I2 z) I2 (.cons rfl r) q2⟩
/-- C(e, ..) -/
theorem make_runG {pins : List (Addr × Obj)} {σ : L2.St} {H : Hp} {s : Shared} {Q : VK} {us : List Value} {vs : List V} (M : Mk X.K C f) (F : FnG X.prog X.w X.K X.mg X.base CX k f fd ps sp) (gd : X.A.guards = some []) (hr : Room (k + 1) X.A) (hb : Binds X.K fd ps ds) (hd : Vals dvs ds)
    (hx : ∀ (e : Value) (s' : Shared) (H0 : Hp) (s0 : Shared), L2.Inv X pins σ H0 s0 → CX X.stack H0 s0 E e s' → X.xe e s') (I : L2.Inv X pins σ H s) (r : Vals vs us)
    (h : ∀ x dx, H x = none → H dx = none → dx ≠ x → sp (.ref x :: (vs ++ dvs)) (upd (upd H dx (.own x)) x (.ins C dx [])) (fun v H2 => v = .non ∧ Q (.ref x) H2) E) : wpAny (model X.prog X.w) X.A (call (.ref C) us) (EP X pins σ Q) X.xe s := by
  have q := h (s.heap.objs.size + 1) s.heap.objs.size (I.hok.fresh (Nat.le_succ _)) (I.hok.fresh (Nat.le_refl _)) (Nat.ne_of_lt (Nat.lt_succ_self _))
  have J := Inv.made (C := C) I
  have rr : Vals (V.ref (s.heap.objs.size + 1) :: (vs ++ dvs)) (Value.ref (s.heap.objs.size + 1) :: (us ++ ds)) := .cons rfl (r.append hd)
  have nl : (Value.ref (s.heap.objs.size + 1) :: us ++ ds).length = ps.length := rr.length ▸ F.len _ _ _ _ q
  apply wpAny_call
  refine make_map (f := f) I.kIn M.makes M.init (beq_iff_eq.mp M.fn) ?_
  refine codeAny_mono (F.run _ X.stack _ _ ⟨Value.ref (s.heap.objs.size + 1) :: us, []⟩ (Value.ref (s.heap.objs.size + 1) :: (us ++ ds)) _ _ E gd (hr.make C us []) (J.env0.make C us []) (hb _ (Value.ref (s.heap.objs.size + 1) :: us) J.kIn nl) rr q) ?_
  intro res s' z
  match res, z with
  | .error er, z => exact hx er s' _ _ J z
  | .ok (.ret u), z =>
    obtain ⟨v, H', J', rv, rfl, q'⟩ := J.after z
    exact ⟨rv, V.ref (s.heap.objs.size + 1), H', J', rfl, q'⟩
  | .ok .next, z => exact z.elim
  | .ok .brk, z => exact z.elim
  | .ok .cont, z => exact z.elim
theorem pe_makeG (M : Mk X.K C f) (F : FnG X.prog X.w X.K X.mg X.base CX k f fd ps sp) (gd : X.A.guards = some []) (hr : Room (k + 1) X.A) (hg : Gl X x) (hm : X.mg x = some (.ref C)) (hb : Binds X.K fd ps ds) (hd : Vals dvs ds) (hx : Passes CX X E) (ha : PA X (e :: es) t)
    (hdb : (x == ("__debug__" : Str)) = false := by decide) (he : starEach (e :: es) X.env = (false, eval e X.env) :: starEach es X.env := by rfl) (hpl : (backTo pos (starEach es X.env)).any (·.1) = false := by rfl) : PE X (.Call (.Name x p) (e :: es) [] pos) (tMake C sp dvs E t) := by
  constructor
  intro pins s σ H Q I h
  apply wpAny_Call_Name_kw
  apply ld_glob I hg hm _ hdb
  apply PySem.W.callWith_K (h₀ := X.base) I.ok.mod.kin M.kp _ he hpl
  refine thn (ha.run pos pins s σ H _ I h) ?_
  rintro us s1 ⟨vs, H1, I1, r, q⟩
  exact ⟨I1.kIn, make_runG M F gd hr hb hd (fun er s' H0 s0 J z => hx pins σ H0 s0 er s' J z) I1 r q⟩
/-- the same, what is raised wished for at the slots -/
def tMakeS (C : Addr) (sp : Sp) (E : L2.St → XK) (t : TA) : TE := fun σ H Q => tMake C sp [] (E σ) t σ H Q
theorem pe_makeGS {E : L2.St → XK} (M : Mk X.K C f) (F : FnG X.prog X.w X.K X.mg X.base CX k f fd ps sp) (gd : X.A.guards = some []) (hr : Room (k + 1) X.A) (hg : Gl X x) (hm : X.mg x = some (.ref C)) (hb : Binds X.K fd ps []) (hx : ∀ σ, PassesAt CX X σ (E σ)) (ha : PA X (e :: es) t)
    (hdb : (x == ("__debug__" : Str)) = false := by decide) (he : starEach (e :: es) X.env = (false, eval e X.env) :: starEach es X.env := by rfl) (hpl : (backTo pos (starEach es X.env)).any (·.1) = false := by rfl) : PE X (.Call (.Name x p) (e :: es) [] pos) (tMakeS C sp E t) := by
  constructor
  intro pins s σ H Q I h
  apply wpAny_Call_Name_kw
  apply ld_glob I hg hm _ hdb
  apply PySem.W.callWith_K (h₀ := X.base) I.ok.mod.kin M.kp _ he hpl
  refine thn (ha.run pos pins s σ H _ I h) ?_
  rintro us s1 ⟨vs, H1, I1, r, q⟩
  exact ⟨I1.kIn, make_runG M F gd hr hb .nil (fun er s' H0 s0 J z => hx σ pins H0 s0 er s' J z) I1 r q⟩
/-- len(x), x's class has its own __len__ -/
def rLenG (C : Addr) (sp : Sp) : List V → Hp → VK → Prop := fun xs H Q => ∃ (a dx : Addr) (fs : List (Str × V)), xs = [.ref a] ∧ H a = some (.ins C dx fs) ∧
  sp [.ref a] H (fun v H2 => ∃ n : Nat, v = .int n ∧ n ≤ 1000 ∧ Q (.int n) H2) fun _ _ _ => False
theorem call_lenG {sp : Sp} (at_ : PySem.W.findIn X.K (.ref C) "__len__" = some (some (.ref f))) (tf : PySem.W.typeIn X.K (.ref f) = some (.type "function")) (F : FnG X.prog X.w X.K X.mg X.base CX0 k f fd ps sp) (gd : X.A.guards = some []) (hr : Room (k + 1) X.A) (hb : Binds X.K fd ps []) :
    CallR X (.builtin "len") (rLenG C sp) := by
  intro pins s σ H xs us Q I r h
  obtain ⟨a, dx, fs, rfl, ha, want⟩ := h
  obtain ⟨u, rfl, ru⟩ := vals1 r
  obtain rfl : u = Value.ref a := ru
  obtain ⟨mA, O, _⟩ := ins_get I.hok ha
  obtain ⟨od, J, _⟩ := O.look
  refine PySem.Calls.call_function_entry kind_len plain_len entry_len (args_len1 _) ?_
  unfold Builtin.«len»
  refine wpAny_bind (m := oneArg "len" _) ?_
  apply wpAny_pure
  have nl : ([.ref a] : List Value).length = ps.length := by
    have z := F.len _ _ _ _ want
    exact z
  have run := F.run X.A.in1 X.stack s H ⟨[.ref a], []⟩ [.ref a] [.ref a] _ _ gd hr.in1 I.env0.in1 (hb s [.ref a] I.kIn (by rw [List.append_nil]; exact nl)) (.cons rfl .nil) want
  refine wpAny_bind (m := callSpecial? (.ref a) (Str.ofString "__len__")) (PySem.W.special_fn I.kIn J at_ tf (wpAny_call (codeAny_mono run ?_)))
  intro res s' z
  match res, z with
  | .error er, z => exact z.elim
  | .ok .next, z => exact z.elim
  | .ok .brk, z => exact z.elim
  | .ok .cont, z => exact z.elim
  | .ok (.ret u), z =>
    obtain ⟨v, H', J', rv, n, rfl, hn, q⟩ := I.after z
    obtain ⟨t, rfl⟩ := rv
    show wpAny _ _ (holding [Value.int (n : Int) t] (asIndex (Value.int (n : Int) t)) >>= _) _ _ s'
    refine wpAny_bind (wpAny_holding (wpAny_pure ?_))
    refine wpAny_bind (wpAny_letGo ?_)
    have e1 : ¬ ((n : Nat) : Int) < 0 := by omega
    have e2 : ¬ ((n : Nat) : Int) ≥ 2 ^ 63 := by omega
    show wpAny _ _ (if ((n : Nat) : Int) < 0 then _ else _) _ _ _
    rw [if_neg e1]
    show wpAny _ _ (if ((n : Nat) : Int) ≥ 2 ^ 63 then _ else _) _ _ _
    rw [if_neg e2]
    refine wpAny_bind (wpAny_mkInt ?_)
    apply wpAny_pure
    exact ⟨_, rfl, .int n, H', J'.tok _, ⟨_, rfl⟩, q⟩
end
end Sb

/-! try with several clauses, each with a name or without. -/
namespace Sb
open PySem PySem.Spec PyProof.Rows L2
abbrev TSx := Addr → Value → Option Addr → TS
/-- behind a named clause its name is gone -/
def gone (i : Nat) (D : Ends) : Ends := { nx := fun σ H => D.nx (σ.set i none) H, rt := D.rt, bk := fun σ H => D.bk (σ.set i none) H, ct := fun σ H => D.ct (σ.set i none) H }
/-- what a clause asks once it is the one -/
def onCl (nm : Option Nat) (ts : TSx) (D : Ends) : WX := fun cls d σ H => match nm with
  | none => ∀ a, H a = none → ts a cls d D σ H
  | some i => ∀ a, H a = none → ts a cls d (gone i D) (σ.set i (some (.ref a))) H
def wMix (K : PySem.W.Frag) (Wout : WX) (D : Ends) : List (Value × Option Nat × TSx) → WX
  | [] => Wout
  | (c, nm, ts) :: r => fun cls d σ H => ∃ b, PySem.W.exmOne K cls c = some b ∧ (b = true → onCl nm ts D cls d σ H) ∧ (b = false → wMix K Wout D r cls d σ H)
/-- a clause's suite, read in the suite's context -/
abbrev Suite (X : Cx) (b : List Stmt) (ts : TSx) : Prop := ∀ (a : Addr) (oe : Obj) (cls : Value) (d : Option Addr) (pn : List (Addr × Obj)), Zc cls d oe → (∃ vs, oe.data = .fields vs) → PSs (X.suite a ((a, oe) :: pn)) b (ts a cls d)
inductive MixOk (X : Cx) : List ExceptHandler → List (Value × Option Nat × TSx) → Prop
  | nil : MixOk X [] []
  | plain {x : Str} {c : Value} {ts : TSx} {b0 : Stmt} {b : List Stmt} {np p : Pos} {hds : List ExceptHandler} {l : List (Value × Option Nat × TSx)} (hc : Names X x c) (hsu : Suite X (b0 :: b) ts) (r : MixOk X hds l) :
      MixOk X (.ExceptHandler (some (.Name x np)) none (b0 :: b) p :: hds) ((c, none, ts) :: l)
  | named {x n : Str} {i : Nat} {c : Value} {ts : TSx} {b0 : Stmt} {b : List Stmt} {np p : Pos} {hds : List ExceptHandler} {l : List (Value × Option Nat × TSx)} (hi : X.N[i]? = some n) (hln : X.env.kindOf n = some .local) (hc : Names X x c) (hsu : Suite X (b0 :: b) ts) (r : MixOk X hds l) :
      MixOk X (.ExceptHandler (some (.Name x np)) (some n) (b0 :: b) p :: hds) ((c, some i, ts) :: l)
section
variable {X : Cx} {body : List Stmt} {h0 : ExceptHandler} {hds : List ExceptHandler} {l : List (Value × Option Nat × TSx)} {pos : Pos} {tb : WX → TS} {Wout : WX}
theorem ps_try_mix (hs : X.stack = X.env :: X.outer) (hf : X.env.frame = some X.env.locals) (hN : X.N.Nodup) (tk : L2.Takes X Wout)
    (hb : ∀ (W : WX) (pn : List (Addr × Obj)) (xe : Value → Shared → Prop), L2.Takes (X.tr pn xe) W → PassesOwn (model X.prog X.w) X.A X.env xe → PSs (X.tr pn xe) body (tb W)) (hh : MixOk X (h0 :: hds) l) :
    PS X (.Try body (h0 :: hds) [] [] pos) (fun D σ H => tb (wMix X.K Wout D l) D σ H) := by
  constructor
  intro pins s σ H D I h
  have ok := I.ok
  have hfr : X.A.frames = some (X.env :: X.outer) := hs ▸ ok.frames
  let XE : Value → Shared → Prop := fun e s1 => wpAny (model X.prog X.w) X.A (noteFrame e X.env) (fun _ s2 => wpAny (model X.prog X.w) X.A (setFlight e none) (fun _ s3 => wpAny (model X.prog X.w) X.A (handleBy e X.env (h0 :: hds)) (SP X pins D) X.xe s3) X.xe s2) X.xe s1
  have takes : L2.Takes (X.tr (X.pn ++ pins) XE) (wMix X.K Wout D l) := by
    rintro u s' ⟨a, B, sI, pins', σ', H', cls, d, rfl, J', nb, up, sky, na, os, ag, w⟩
    have J : L2.Inv X pins σ' H' sI := J'.ofTry ok
    replace sky : Sky B (X.env :: X.outer) a (Zc cls d) X.env.locals s'.heap := hs ▸ sky
    show wpAny (model X.prog X.w) X.A (noteFrame (.ref a) X.env) _ _ _
    refine Sky.land Zc.steady hfr hf sky fun h3 fl3 up3 => ?_
    have J3 : L2.Inv X pins σ' H' { s' with heap := h3 } := J.landed nb fl3.1 (up.trans up3) os ag
    obtain ⟨oe3, vs3, he3, hz3, hd3⟩ := fl3.there
    have off : a ∉ frs (X.env :: X.outer) := fun hm => by
      obtain ⟨_, o', e', hn⟩ := fl3.2.2.1.mem hm
      rw [he3] at e'
      cases e'
      exact hn _ hd3
    have nL : a ≠ X.env.locals := fun z => off (List.mem_filterMap.mpr ⟨X.env, List.mem_cons_self, z ▸ hf⟩)
    have nF : a ∉ X.fs := fun hm => by
      obtain ⟨e, he, q⟩ := List.mem_filterMap.mp hm
      exact off (List.mem_filterMap.mpr ⟨e, List.mem_cons_of_mem _ he, q⟩)
    have S3 := J3.suite he3 hd3 na nL nF
    have LT : PySem.W.Looks (model X.prog X.w) h3 (typeOf (.ref a)) cls := fun A Q E s k q => wpAny_typeOf_ref (k _ _ he3) (hz3.1 ▸ q)
    -- the clause's class is read
    have test : ∀ {x : Str} {c : Value} {np : Pos} {Q : Value → Shared → Prop} {E : Value → Shared → Prop}, Names X x c → Q c { s' with heap := h3 } → wpAny (model X.prog X.w) (X.A.mark (some (.ref a))) (eval (.Name x np) X.env) Q E { s' with heap := h3 } := by
      rintro x c np Q E ⟨hg, hdb, hm | ⟨hm, hv, hnn⟩⟩ q
      · exact ld_glob (X := X.suite a ((a, oe3) :: (X.pn ++ pins))) S3 hg hm q hdb
      · exact ld_blt (X := X.suite a ((a, oe3) :: (X.pn ++ pins))) S3 hg hm hv q hnn hdb
    have go : ∀ {hds' : List ExceptHandler} {l' : List (Value × Option Nat × TSx)}, MixOk X hds' l' → wMix X.K Wout D l' cls d σ' H' → wpAny (model X.prog X.w) X.A (handleBy (.ref a) X.env hds') (SP X pins D) X.xe { s' with heap := h3 } := by
      intro hds' l' hk
      induction hk with
      | nil =>
        intro w
        apply wpAny_handleBy_nil
        obtain ⟨k1, k2, k3, oe, vs, T, oT, ts', he, hz, hd, h1, hr⟩ := id fl3
        unfold PySem.passOn
        refine wpAny_bind (wpAny_field he hd h1 ?_)
        rw [if_neg (show ¬ ((Value.ref T == Value.none) = true) by simp)]
        have out : wpAny (model X.prog X.w) X.A (setFlight (.ref a) X.env.frame) (fun _ s4 => wpAny (model X.prog X.w) X.A (throw (.ref a) : Sem Flow) (SP X pins D) X.xe s4) X.xe { s' with heap := h3 } := by
          rw [hf]
          refine HandSPX.setFlight_upZ fl3 fun h4 hh4 up4 => wpAny_throw (tk _ _ ⟨a, B, sI, pins, σ', H', cls, d, rfl, J, nb, (up.trans up3).trans up4, .inr (.inr ?_), na, os, ag, w⟩)
          rw [hs]
          exact hh4
        first | exact wpAny_bind (wpAny_pure (wpAny_bind out)) | exact wpAny_bind out
      | @plain x c ts b0 b np p hds2 l2 hc hsu r ih =>
        rintro ⟨k, hk1, yes, no⟩
        refine wpAny_handleBy_cons (codeAny_handlers_test ?_) (fun q => by cases q)
        refine test hc ((PySem.W.exm_one (M := model X.prog X.w) J3.kIn LT hk1).here ?_)
        cases k with
        | false => exact ih (no rfl)
        | true =>
          refine codeAny_handlers_suite (HandSPX.lands_againZ fl3 fun h4 fl4 up4 => ?_)
          have J4 : L2.Inv X pins σ' H' { s' with heap := h4 } := J.landed nb fl4.1 ((up.trans up3).trans up4) os ag
          obtain ⟨oe4, vs4, he4, hz4, hd4⟩ := fl4.there
          refine wpAny_mono ((hsu a oe4 cls d (X.pn ++ pins) hz4 ⟨_, hd4⟩).run [] _ _ H' _ (J4.suite he4 hd4 na nL nF) (yes rfl a na)) ?_ (fun _ _ z => z.elim)
          intro f s6 hsp
          match f, hsp with
          | .next, ⟨σ6, H6, S6, q6⟩ => exact ⟨_, _, S6.unsuite ok, q6⟩
          | .brk, ⟨σ6, H6, S6, q6⟩ => exact ⟨_, _, S6.unsuite ok, q6⟩
          | .cont, ⟨σ6, H6, S6, q6⟩ => exact ⟨_, _, S6.unsuite ok, q6⟩
          | .ret u, ⟨v6, σ6, H6, S6, r6, q6⟩ => exact ⟨_, _, _, S6.unsuite ok, r6, q6⟩
      | @named x n i c ts b0 b np p hds2 l2 hi hln hc hsu r ih =>
        rintro ⟨k, hk1, yes, no⟩
        refine wpAny_handleBy_cons (codeAny_handlers_test ?_) (fun q => by cases q)
        refine test hc ((PySem.W.exm_one (M := model X.prog X.w) J3.kIn LT hk1).here ?_)
        cases k with
        | false => exact ih (no rfl)
        | true =>
          refine codeAny_handlers_suite_as (HandSPX.lands_againZ fl3 fun h4 fl4 up4 => ?_)
          have J4 : L2.Inv X pins σ' H' { s' with heap := h4 } := J.landed nb fl4.1 ((up.trans up3).trans up4) os ag
          obtain ⟨oe4, vs4, he4, hz4, hd4⟩ := fl4.there
          refine store_ok (X := X.suite a ((a, oe4) :: (X.pn ++ pins))) (v := .ref a) (J4.suite he4 hd4 na nL nF) hN hi (.inl hln) rfl (fun s5 S5 => ?_) (.inr hln)
          refine wpAny_mono ((hsu a oe4 cls d (X.pn ++ pins) hz4 ⟨_, hd4⟩).run [] s5 _ H' _ S5 (yes rfl a na)) ?_ (fun _ _ z => z.elim)
          intro f s6 hsp
          match f, hsp with
          | .next, ⟨σ6, H6, S6, q6⟩ => exact gone_ok (S6.unsuite ok) hN hi hln fun s7 J7 => ⟨_, _, J7, q6⟩
          | .brk, ⟨σ6, H6, S6, q6⟩ => exact gone_ok (S6.unsuite ok) hN hi hln fun s7 J7 => ⟨_, _, J7, q6⟩
          | .cont, ⟨σ6, H6, S6, q6⟩ => exact gone_ok (S6.unsuite ok) hN hi hln fun s7 J7 => ⟨_, _, J7, q6⟩
          | .ret u, ⟨v6, σ6, H6, S6, r6, q6⟩ => exact gone_ok (S6.unsuite ok) hN hi hln fun s7 J7 => ⟨_, _, _, J7, r6, q6⟩
    exact go hh w
  refine wpAny_Try_except (wpAny_mono ((hb (wMix X.K Wout D l) (X.pn ++ pins) XE takes PassesOwn.looking).run [] s σ H D (I.toTry _) h) ?_ (fun e s1 he => he))
  intro f s1 hsp
  match f, hsp with
  | .next, ⟨σ', H', J', q⟩ => exact wpAny_execs_nil ⟨σ', H', J'.ofTry ok, q⟩
  | .brk, ⟨σ', H', J', q⟩ => exact ⟨σ', H', J'.ofTry ok, q⟩
  | .cont, ⟨σ', H', J', q⟩ => exact ⟨σ', H', J'.ofTry ok, q⟩
  | .ret u, ⟨v, σ', H', J', r, q⟩ => exact ⟨v, σ', H', J'.ofTry ok, r, q⟩
end
end Sb

/-! sorted(d, key=f) over a dict whose keys are tuples; f gives rows of ints. -/
namespace Sb
open PySem PySem.Spec PyProof.Rows L2
open PySem.W (EachIs KeyPure KeepsBut dataLe AllAlike Sortable)
abbrev KRow := List Key × Addr × Value
/-- the keys in the order of their ranks -/
def srt (rank : List Key → List Int) (ks : List (List Key)) : List (List Key) := ks.mergeSort fun a b => decide (rank a ≤ rank b)
/-- key tuples, at these addresses -/
def IsKs (H : Hp) (ks : List (List Key)) (bs : List Addr) : Prop := Paired (fun k b => H b = some (.tup (k.map kV))) ks bs
/-- f is a function that gives a key tuple its rank -/
structure KeyFn (X : Cx) (f : Addr) (rank : List Key → List Int) (ok : List Key → Prop) : Prop where
  run : ∀ (s : Shared) (A : Around) (a : Addr) (its : List Value) (k : List Key), X.K.In s.heap → s.heap.Ns mainGlobals X.mg → s.heap.NoLimit → A.depth + 1 < recursionLimit → A.handled = none → ok k → Vals (k.map kV) its →
    IsTup s.heap a its.toArray → wpAny (model X.prog X.w) A (call (.ref f) [.ref a]) (KeyPure (.tuple ((rank k).map .int)) s) (fun _ _ => False) s
  some_ : ∀ k, ∃ x r, rank k = x :: r
  same : ∀ a b, (rank a).length = (rank b).length
theorem each_refs : ∀ ks : List KRow, EachIs (fun (v : Value) (x : KRow) => v = .ref x.2.1) (ks.map fun x => Value.ref x.2.1) ks
  | [] => .nil
  | _ :: r => .cons rfl (each_refs r)
theorem refs_each : ∀ {out : List Value} {ks : List KRow}, EachIs (fun (v : Value) (x : KRow) => v = .ref x.2.1) out ks → out = (ks.map fun x => x.2.1).map Value.ref
  | _, _, .nil => rfl
  | _, _, .cons h t => by
    rw [List.map_cons, List.map_cons, ← refs_each t, h]
theorem isKs_of {H : Hp} : ∀ {ks : List KRow}, (∀ x ∈ ks, H x.2.1 = some (.tup (x.1.map kV))) → IsKs H (ks.map (·.1)) (ks.map fun x => x.2.1)
  | [], _ => .nil
  | x :: r, h => .cons (h x List.mem_cons_self) (isKs_of fun y hy => h y (List.mem_cons_of_mem _ hy))
theorem kt_mem {H : Hp} {kvs : List (List Key × V)} {xs : List KRow} (r : KT H kvs xs) : kvs.map (·.1) = xs.map (·.1) ∧ ∀ x ∈ xs, H x.2.1 = some (.tup (x.1.map kV)) := by
  induction r with
  | nil => exact ⟨rfl, fun _ h => by cases h⟩
  | @cons a b l1 l2 h t ih =>
    refine ⟨by rw [List.map_cons, List.map_cons, h.1, ih.1], fun x hx => ?_⟩
    rcases List.mem_cons.mp hx with rfl | hx
    · rw [← h.1]
      exact h.2.1
    · exact ih.2 x hx
theorem alike_rows : ∀ (xs ys : List Int), PySem.W.alike (.tuple (xs.map .int)) (.tuple (ys.map .int)) = true := fun xs ys => PySem.W.alike_ints xs ys
theorem le_rows (rank : List Key → List Int) : dataLe false (fun x : KRow => PyData.tuple ((rank x.1).map .int)) = fun p q => decide (rank p.1 ≤ rank q.1) := by
  have e := PySem.W.dataLe_rows (β := KRow) (fun x => rank x.1)
  rw [← e]
  funext p q
  rfl
/-- sorted(d, key=f) -/
def rSortT (f : Addr) (rank : List Key → List Int) (ok : List Key → Prop) : List V → List V → Hp → VK → Prop := fun xs zs H Q => ∃ (d : Addr) (kvs : List (List Key × V)), xs = [.ref d] ∧ zs = [.ref f] ∧ H d = some (.dT kvs) ∧ (∀ k ∈ kvs.map (·.1), ok k) ∧
  ∀ p bs, H p = none → IsKs H (srt rank (kvs.map (·.1))) bs → Q (.ref p) (upd H p (.lst (bs.map V.ref)))
theorem call_sortT {X : Cx} {f : Addr} {rank : List Key → List Int} {ok : List Key → Prop} {k0 : Nat} (hc : X.calm = true) (hr : Room (k0 + 1) X.A) (F : KeyFn X f rank ok) : CallRK X (.builtin "sorted") ["key"] (rSortT f rank ok) := by
  intro pins s σ H xs zs us ws Q I r rz h
  obtain ⟨d, kvs, rfl, rfl, hd, hok, q⟩ := h
  obtain ⟨u, rfl, rx⟩ := vals1 r
  obtain ⟨u2, rfl, rx2⟩ := vals1 rz
  obtain rfl : u = Value.ref d := rx
  obtain rfl : u2 = Value.ref f := rx2
  obtain ⟨z, lo, ks, pr, o, es, ep, ho, hx, hdt, he, hn⟩ := (show ObjOk X.prog X.w H s.heap d (.dT kvs) from I.hok d _ hd)
  have l1 : es.size = ks.length := size_of_entries he
  obtain ⟨ek, hks⟩ := kt_mem pr
  have l2 : kvs.length = ks.length := Paired.length pr
  show wpAny _ _ (call (.builtin "sorted") [.ref d] [(Str.ofString "key", .ref f)]) _ _ _
  refine PyProof.Rows.call_function_entry_kw PyProof.Rows.kind_sorted PyProof.Rows.plain_sorted PyProof.Rows.entry_sorted (PyProof.Rows.ksk_s1 _ _) ?_
  unfold Builtin.«sorted»
  refine wpAny_bind (m := checkCount "sorted" 1 1 _) ?_
  apply wpAny_pure
  refine wpAny_bind (PySem.W.kdu_collect (A := X.A.in1) (kdl_raw lo hx hdt) (I.ok.hd hc) ho (by omega) fun h' tk acc kp it => ?_)
  have ea : acc.toList = ks.map fun x => Value.ref x.2.1 := by
    apply List.ext_getElem?
    intro j
    have la : acc.toList.length = ks.length := by
      rw [Array.length_toList, it.1, l1]
    rw [List.getElem?_map]
    by_cases hj : j < ks.length
    · have e1 : acc.toList[j]? = some acc.toList[j] := List.getElem?_eq_getElem (by omega)
      obtain ⟨en, hen, hv⟩ := it.2 j _ ((Array.getElem?_toList).symm.trans e1)
      have e2 := entry_at he j
      rw [hen, List.getElem?_eq_getElem hj] at e2
      have e3 : en = entryOfKey (tupleKind (mixKind X.prog X.w)) ks[j] := Option.some.inj e2
      rw [e1, hv, e3, List.getElem?_eq_getElem hj]
      rfl
    · rw [List.getElem?_eq_none (by omega), List.getElem?_eq_none (by omega)]
      rfl
  have la : acc.toList.length = ks.length := by rw [ea, List.length_map]
  have I1 : Inv X pins σ H { s with heap := h', toks := tk } := I.kept kp
  refine wpAny_bind (wpAny_newList ?_ (by omega))
  have hoL : (h'.push (seqObj "list" acc.toList.toArray 0)).get? h'.objs.size = some (seqObj "list" acc.toList.toArray 0) := Heap.get?_push_size _ rfl
  have up : ∀ c o, h'.get? c = some o → (h'.push (seqObj "list" acc.toList.toArray 0)).get? c = some o := fun c o e => Heap.get?_push_of_some _ e
  show wpAny _ _ _ _ _ { s with heap := h'.push (seqObj "list" acc.toList.toArray 0), toks := tk }
  refine wpAny_bind (wpAny_holding (wpAny_call_entry_kw PyProof.Rows.slot_list_sort ⟨_, hoL, rfl⟩ PyProof.Rows.entry_list_sort ?body (PyProof.Rows.ksk_l1 _ _)))
  rw [PyProof.Rows.ksk_t1]
  have each : EachIs (fun (v : Value) (x : KRow) => v = .ref x.2.1) acc.toList ks := by rw [ea]; exact each_refs ks
  have ne : ∀ {c : Addr} {o : Obj}, h'.get? c = some o → c ≠ h'.objs.size := fun e => Nat.ne_of_lt (Heap.lt_size e)
  refine PySem.W.keyH_tree (kz := ks.map fun x => PyData.tuple ((rank x.1).map .int)) (s := { s with heap := h'.push (seqObj "list" acc.toList.toArray 0), toks := tk }) hoL (by rw [List.length_map, la]) (by omega)
    (AllAlike.of fun a b => alike_rows _ _) (Sortable.tuples fun b => ?_) ?_ (PySem.W.keyH_turns (s := { s with heap := h'.push (seqObj "list" acc.toList.toArray 0), toks := tk }) each fun v x hR hxk h2 tk2 kp2 => ?_) fun h3 tk3 out c kp3 hD ko => ?_
  · obtain ⟨x, r, e⟩ := F.some_ b.1
    exact ⟨_, _, by rw [e]; rfl⟩
  · intro dd hdd
    obtain ⟨x, _, rfl⟩ := List.mem_map.mp hdd
    have dp : PyData.depth (.tuple ((rank x.1).map PyData.int)) = 1 := by
      show PyData.depthAll _ + 1 = 1
      rw [PySem.W.depth_ints]
    rw [dp]
    have := hr.un
    show X.A.units + 1 + 1 + 1 < cLine
    omega
  · rw [hR]
    obtain ⟨_, its, rv, it1⟩ := (show ObjOk X.prog X.w H h' x.2.1 (.tup (x.1.map kV)) from I1.hok _ _ (hks x hxk))
    have k2 : ∀ c o, h'.get? c = some o → h2.get? c = some o := fun c o e => kp2 c o (ne e) (up c o e)
    refine F.run { s with heap := h2, toks := tk2 } _ x.2.1 its x.1 (I1.kIn.keeps k2) ((I1.mod.glob.keeps I1.bk).keeps k2) (I1.nolimit.keeps k2) ?_ ?_ (hok _ (by rw [ek]; exact List.mem_map.mpr ⟨x, hxk, rfl⟩)) rv ?_
    · have := hr.dp
      show X.A.depth + 1 < recursionLimit
      omega
    · exact I.ok.hd hc
    · obtain ⟨ob, h1, r⟩ := it1
      exact ⟨ob, k2 _ _ h1, r⟩
  · have eo := PySem.W.keyedOut_each (fun x : KRow => PyData.tuple ((rank x.1).map .int)) ko each
    have lo2 := ko.length (by rw [List.length_map, la])
    rw [le_rows] at eo
    have er := refs_each eo
    have hmem : ∀ x ∈ ks.mergeSort (fun p q => decide (rank p.1 ≤ rank q.1)), H x.2.1 = some (.tup (x.1.map kV)) := fun x hx => hks x ((List.mergeSort_perm ks _).mem_iff.mp hx)
    have em : (ks.mergeSort (fun p q => decide (rank p.1 ≤ rank q.1))).map (·.1) = srt rank (kvs.map (·.1)) := by
      unfold srt
      rw [ek]
      exact List.map_mergeSort fun a _ b _ => rfl
    have isk := isKs_of hmem
    rw [em] at isk
    have keep3 : ∀ b o, h'.get? b = some o → h3.get? b = some o := fun b o e => kp3 b o (ne e) (up b o e)
    have rv : Vals (((ks.mergeSort (fun p q => decide (rank p.1 ≤ rank q.1))).map fun x => x.2.1).map V.ref) out := by
      rw [er]
      exact vals_refs _
    have hz : (((ks.mergeSort (fun p q => decide (rank p.1 ≤ rank q.1))).map fun x => x.2.1).map V.ref).length ≤ sizeLine := by
      rw [rv.length]
      omega
    refine ⟨_, rfl, ?_⟩
    apply wpAny_pure
    refine ⟨_, rfl, .ref h'.objs.size, _, I1.laid (t' := tk3) (o := .lst (((ks.mergeSort (fun p q => decide (rank p.1 ≤ rank q.1))).map fun x => x.2.1).map V.ref)) keep3 (Nat.le_refl _) ⟨hz, out, c, rv, hD⟩, rfl, q _ _ (I1.hok.fresh (Nat.le_refl _)) isk⟩
end Sb

/-! {k: v for x in ..} with tuples for keys. -/
namespace Sb
open PySem PySem.Spec PyProof.Rows L2
section
variable {X : Cx} {pins : List (Addr × Obj)} {σ : L2.St} {H : Hp}
/-- D[k] = v, k the tuple at b -/
theorem putT_ok {s : Shared} {E : Value → Shared → Prop} {D b : Addr} {kvs : List (List Key × V)} {k : List Key} {v : V} {r : Value} {Q : Unit → Shared → Prop} (hu : X.A.units + 1 < cLine) (I : L2.Inv X pins σ H s) (hD : H D = some (.dT kvs)) (hb : H b = some (.tup (k.map kV))) (hz : kvs.length < sizeLine)
    (rv : RelV v r) (want : ∀ s', L2.Inv X pins σ (upd H D (.dT (putK kvs k v))) s' → Q () s') : wpAny (model X.prog X.w) X.A (dictSet D (.ref b) r) Q E s := by
  obtain ⟨z, low, xs, rel, dd⟩ := dt_of I.hok hD
  have l1 : xs.length ≤ sizeLine := Paired.length rel ▸ z
  have l2 := length_putK kvs k v
  refine wpAny_dictSet_heap (hsz := l1) ?room (key_of I.hok hb) dd fun h' dd' but => want _ ?_
  case room => show X.A.units < cLine; omega
  obtain ⟨q, es, ep, g1, g2, g3, g4, _, g5⟩ := dd'
  refine d_write I (by rw [hD]; trivial) but ⟨q, g1⟩ ⟨by omega, low, _, (rel.put k hb rv).keeps fun c ys ec => ?_, q, es, ep, g1, g2, g3, g4, g5⟩
  rw [upd_ne (ne_of ec hD fun z => nomatch z)]
  exact ec
end
/-- what the turns are to show; D: the new dict -/
def DcW (J : It) (g : TG) (tt : TT) (tk tv : TE) (vs : List Nat) (σ : L2.St) (D : Addr) (Qd : Hp → Prop) (H0 : Hp) : Prop := ∃ W : Nat → Nat → Hp → Prop, (∃ m, W 0 m H0) ∧ ∀ i m H, W i m H →
  (J.stop i H ∧ Qd H) ∨ (J.go i H ∧ ∃ Nx : Hp → Prop, (∀ H', Nx H' → ∃ m', m' < m ∧ W (i + 1) m' H') ∧ ∀ x H', J.yld i H x H' → g x (wipe σ vs) H' fun σ2 H2 => wipe σ2 vs = wipe σ vs ∧ tt σ2 H2 fun b H3 =>
    if b = true then tk σ2 H3 fun y H4 => tv σ2 H4 fun z H5 => ∃ kvs k t, y = .ref t ∧ H5 t = some (.tup (k.map kV)) ∧ H5 D = some (.dT kvs) ∧ kvs.length < sizeLine ∧ Nx (upd H5 D (.dT (putK kvs k z))) else Nx H3)
def tDcT (wi : TI) (g : TG) (tt : TT) (tk tv : TE) (vs : List Nat) : TE := fun σ H Q => wi σ H fun J H1 => ∀ D, H1 D = none → DcW J g tt tk tv vs σ D (Q (.ref D)) (upd H1 D (.dT []))
section
variable {X : Cx} {kx vx tg iter : Expr} {ifs : List Expr} {scope : Scope} {own : List (Str × Nat)} {pos : Pos} {wi : TI} {g : TG} {tt : TT} {tk tv : TE}
theorem pe_dcT (hc : X.calm = true) (hN : X.N.Nodup) (hu : X.A.units + 1 < cLine) (hi : PI X tg iter wi) (ok : BlkOk X.N X.env.scope scope own) (hg : ∀ (s : Shared) (H : Hp) (C : Addr) (cl : List (Str × Addr)) (fp : List Addr), PG (X.blk s H scope (compEnvC scope cl C X.env) fp) tg g) (ht : ∀ (s : Shared) (H : Hp) (C : Addr) (cl : List (Str × Addr)) (fp : List Addr), PTs (X.blk s H scope (compEnvC scope cl C X.env) fp) ifs tt) (hk : ∀ (s : Shared) (H : Hp) (C : Addr) (cl : List (Str × Addr)) (fp : List Addr), PE (X.blk s H scope (compEnvC scope cl C X.env) fp) kx tk)
    (hv : ∀ (s : Shared) (H : Hp) (C : Addr) (cl : List (Str × Addr)) (fp : List Addr), PE (X.blk s H scope (compEnvC scope cl C X.env) fp) vx tv) (hs : ∀ x, foldedSetIterable iter X.env x = pure x := by intro _; rfl) : PE X (.DictComp kx vx [⟨tg, iter, ifs, 0⟩] scope pos) (tDcT wi g tt tk tv (own.map (·.2))) := by
  constructor
  intro pins s σ H Q I h
  rw [arm_eval_DictComp]
  have closed : ∀ y ∈ scope.names, y.2 = .free → ∃ c, X.env.cells.lookup y.1 = some c := by
    intro y hy e
    exact (ok.free y hy e).elim (fun k => I.ok.has _ (.inl k)) (fun k => I.ok.has _ (.inr k))
  refine wpAny_comprehension_free rfl hs (closure_ok closed) ok.kind (fun y hy e => by rw [ok.uniq y hy, e]) ?_
  refine thn (hi.run pins s σ H _ I h) fun xv s1 hx => thn hx ?_
  rintro itv s2 ⟨it, fp, tn, J, H2, rfl, I2, T, st2, f2, q⟩
  refine wpAny_newObj_type (newEnv_comp ?_)
  generalize eD : s2.heap.objs.size = D
  have nD : H2 D = none := I2.hok.fresh (Nat.le_of_eq eD)
  obtain ⟨W, ⟨m0, w0⟩, turn⟩ := q D nD
  -- D is laid
  generalize es3 : ({ s2 with heap := s2.heap.push { cls := .type "dict", data := .dict #[] } } : Shared) = s3
  have h3 : s3.heap = s2.heap.push { cls := .type "dict", data := .dict #[] } := by
    rw [← es3]
  generalize eH3 : upd H2 D (.dT []) = H3 at w0
  have I3 : L2.Inv X pins σ H3 s3 := by
    have lay := I2.laid (t' := s2.toks) (h' := s2.heap.push { cls := .type "dict", data := .dict #[] }) (fun b o e => Heap.get?_push_of_some _ e) (Nat.le_of_eq eD) (eD ▸ dt_empty s2.heap I2.big)
    rw [← es3, ← eH3]
    exact lay
  have small : ∀ b ∈ fp, b < s2.heap.objs.size := by
    intro b hb
    obtain ⟨o, e, _⟩ := T.obj _ _ st2 b hb
    exact Heap.lt_size e
  have f3 : ∀ b ∈ fp, FpOk X pins H3 b ∧ b < s3.heap.objs.size := by
    intro b hb
    have lt := small b hb
    constructor
    · refine ⟨?_, (f2 b hb).2⟩
      rw [← eH3, upd_ne (eD ▸ Nat.ne_of_lt lt)]
      exact (f2 b hb).1
    · rw [h3, Heap.size_push]
      exact Nat.lt_succ_of_lt lt
  have n3 : ∀ b ∈ fp, H3 b = none := fun b hb => (f3 b hb).1.1
  have st3 : tn 0 s3.heap := by
    refine T.keep _ _ _ st2 ?_
    rw [h3]
    exact fun b _ o e => Heap.get?_push_of_some _ e
  have I4 := block_start I3 ok hN f3
  show codeAny _ _ (.compStart (.DictComp kx vx [⟨tg, iter, ifs, 0⟩] scope pos) 0 (.ref it) (.ref D) (compEnvC scope (cellsFrom (s3.heap.objs.size + 1) scope.names (cloFrom X.env.cells scope.names [])) s3.heap.objs.size X.env)) (compPost (model X.prog X.w) X.A X.xe none _ (.ref D) s3.heap.objs.size) { s3 with heap := pushCells (s3.heap.push { cls := .type "dict", data := .dict #[] }) scope.names }
  have bg := hg s3 H3 s3.heap.objs.size (cellsFrom (s3.heap.objs.size + 1) scope.names (cloFrom X.env.cells scope.names [])) fp
  have bt := ht s3 H3 s3.heap.objs.size (cellsFrom (s3.heap.objs.size + 1) scope.names (cloFrom X.env.cells scope.names [])) fp
  have bk := hk s3 H3 s3.heap.objs.size (cellsFrom (s3.heap.objs.size + 1) scope.names (cloFrom X.env.cells scope.names [])) fp
  have bv := hv s3 H3 s3.heap.objs.size (cellsFrom (s3.heap.objs.size + 1) scope.names (cloFrom X.env.cells scope.names [])) fp
  generalize ece : compEnvC scope (cellsFrom (s3.heap.objs.size + 1) scope.names (cloFrom X.env.cells scope.names [])) s3.heap.objs.size X.env = ce at I4 bg bt bk bv ⊢
  have cL : ce.locals = s3.heap.objs.size := ece ▸ rfl
  generalize es4 : ({ s3 with heap := pushCells (s3.heap.push { cls := .type "dict", data := .dict #[] }) scope.names } : Shared) = s4 at I4 ⊢
  have st4 : tn 0 s4.heap := by
    refine T.keep _ _ _ st3 fun b _ o e => ?_
    rw [← es4]
    exact pushCells_keeps _ _ _ _ (Heap.get?_push_of_some _ e)
  have stat : ∀ {σ' : L2.St} {H' : Hp} {s' : Shared}, L2.Inv (X.blk s3 H3 scope ce fp) [] σ' H' s' → (∀ b ∈ fp, H' b = none) → ∀ b ∈ fp, FpOk (X.blk s3 H3 scope ce fp) [] H' b := by
    intro σ' H' s' J' hn b hb
    refine ⟨hn b hb, (J'.ok.exf b hb).1, J'.ok.exfs b hb, .inl hb, (J'.ok.exf b hb).2, fun p hp => ?_⟩
    have z : p ∈ ([] : List (Addr × Obj)) ++ [] := hp
    simp at z
  -- the loop's state
  let At : Nat → Shared → Prop := fun n s' => ∃ i H', L2.Inv (X.blk s3 H3 scope ce fp) [] (wipe σ (own.map (·.2))) H' s' ∧ tn i s'.heap ∧ (∀ b ∈ fp, H' b = none) ∧ W i n H'
  have loop : codeAny (model X.prog X.w) X.A (.compLoop (.DictComp kx vx [⟨tg, iter, ifs, 0⟩] scope pos) 0 (.ref it) (.ref D) ce) (compPost (model X.prog X.w) X.A X.xe none (EP X pins σ Q) (.ref D) s3.heap.objs.size) s4 := by
    refine compLoop_anyD At ?_ m0 ⟨0, H3, I4, st4, n3, w0⟩
    rintro n s5 ⟨i, H5, I5, st5, n5, w5⟩
    rcases turn i n H5 w5 with ⟨stop, done⟩ | ⟨go, Nx, hNx, step⟩
    · refine thnF (T.done (X.blk s3 H3 scope ce fp) rfl rfl rfl hc i [] s5 _ H5 (fun _ _ => False) I5 (stat I5 n5) st5 stop) ?_
      rintro r s6 ⟨rfl, I6⟩
      have I7 : L2.Inv X pins σ H5 s6 := by
        refine I3.call' (ch := fp) I6.os I6.base I6.hok I6.bare fun b hb => ?_
        have z := (f3 b hb).1.2
        exact ⟨z.2.2.1, z.1, z.2.2.2.1, z.2.2.2.2⟩
      have free := I6.free
      rw [show (X.blk s3 H3 scope ce fp).env.locals = s3.heap.objs.size from cL] at free
      obtain ⟨m, hn, _⟩ := I6.loc
      have hn : s6.heap.Ns ce.locals m := hn
      rw [cL] at hn
      refine ⟨m, hn, fun h'' sb => ?_⟩
      obtain ⟨g0, g1, g2, g3, g4, g5⟩ := I3.fpOk (Nat.le_refl _) free
      exact ⟨.ref D, H5, I7.turned (t' := s6.toks) (fun b o hb e => (sb.2 b hb).trans e) g0 g1 g3 g4 g5, rfl, done⟩
    · refine thnF (T.item (X.blk s3 H3 scope ce fp) rfl rfl rfl hc i [] s5 _ H5 (fun _ _ => False) I5 (stat I5 n5) st5 go) ?_
      rintro r s6 ⟨u, rfl, go6⟩
      refine thnF go6 ?_
      rintro _ s7 ⟨x, H7, I7, r7, y7, st7, n7⟩
      refine thnF (bg.run _ s7 _ H7 x u _ (I7.pinned (stat I7 n7) (T.obj _ _ st7)) r7 (step x H7 y7)) ?_
      rintro _ s8 ⟨σ8, H8, I8, hw8, q8⟩
      refine thnF (bt.run _ s8 σ8 H8 _ I8 q8) ?_
      rintro b s9 ⟨H9, I9, q9⟩
      have next : ∀ {s' : Shared} {H' : Hp}, L2.Inv (X.blk s3 H3 scope ce fp) ([] ++ pinsAt fp s7.heap) σ8 H' s' → Nx H' → ∃ m, m < n ∧ At m s' := by
        intro s' H' J' nx
        obtain ⟨m', lt, w'⟩ := hNx H' nx
        have pinned : ∀ b ∈ fp, ∀ o, s7.heap.get? b = some o → s'.heap.get? b = some o ∧ H' b = none := by
          intro b hb o e
          have z := J'.pin (b, o) (List.mem_append_right _ (List.mem_append_right _ (mem_pinsAt hb e)))
          exact ⟨z.1, z.2.1⟩
        refine ⟨m', lt, i + 1, H', (J'.unpinned (pins := [])).weak ?_ ?_, T.keep _ _ _ st7 fun b hb o e => (pinned b hb o e).1, ?_, w'⟩
        · rw [← hw8, wipe_length]
        · intro j v e
          rw [← hw8] at e
          exact (wipe_some e).1
        · intro b hb
          obtain ⟨o, e, _⟩ := T.obj _ _ st7 b hb
          exact (pinned b hb o e).2
      cases b with
      | false => exact next I9 q9
      | true =>
        refine thnF (bk.run _ s9 σ8 H9 _ I9 q9) ?_
        rintro z1 s10 ⟨yk, H10, I10, r10, q10⟩
        refine thnF (bv.run _ s10 σ8 H10 _ I10 q10) ?_
        rintro z2 s11 ⟨yv, H11, I11, r11, kvs, k, t, rfl, ht11, hD11, lt11, nx⟩
        obtain rfl : z1 = Value.ref t := r10
        exact putT_ok (X := X.blk s3 H3 scope ce fp) hu I11 hD11 ht11 lt11 r11 fun s12 I12 => next I12 nx
  exact codeAny_compStart_dict loop (T.self X.A 0 _ _ _ st4 loop)
end
theorem dcT_list {K : PySem.W.Frag} {a : Addr} {xs : List V} {g : TG} {tt : TT} {tk tv : TE} {vs : List Nat} {σ : L2.St} {H0 : Hp} {D : Addr} {Qd : Hp → Prop} (Pv : Nat → Hp → Prop) (h0 : Pv 0 H0) (hl : ∀ i H, Pv i H → SqL K H a xs)
    (hs : ∀ i x H, xs[i]? = some x → Pv i H → g x (wipe σ vs) H fun σ2 H2 => wipe σ2 vs = wipe σ vs ∧ tt σ2 H2 fun b H3 =>
      if b = true then tk σ2 H3 fun y H4 => tv σ2 H4 fun z H5 => ∃ kvs k t, y = .ref t ∧ H5 t = some (.tup (k.map kV)) ∧ H5 D = some (.dT kvs) ∧ kvs.length < sizeLine ∧ Pv (i + 1) (upd H5 D (.dT (putK kvs k z))) else Pv (i + 1) H3) (hd : ∀ H, Pv xs.length H → Qd H) :
    DcW (Itl K a) g tt tk tv vs σ D Qd H0 := by
  refine ⟨fun i m H => m + i = xs.length ∧ Pv i H, ⟨xs.length, rfl, h0⟩, fun i m H ⟨hm, p⟩ => ?_⟩
  have q := hl i H p
  cases m with
  | zero =>
    have e : i = xs.length := by omega
    subst e
    exact .inl ⟨⟨xs, q, Nat.le_refl _⟩, hd H p⟩
  | succ m =>
    have h1 : i < xs.length := by omega
    have hx := List.getElem?_eq_getElem h1
    refine .inr ⟨⟨xs, _, q, hx⟩, Pv (i + 1), fun H' p' => ⟨m, Nat.lt_succ_self m, by omega, p'⟩, ?_⟩
    rintro v H' ⟨rfl, f1⟩
    exact hs i v _ (f1 xs q) p
end Sb

/-! x == text, x of any kind but a dict. -/
namespace Sb
open PySem PySem.Spec PyProof.Rows L2
def isStrD (d : PyData) (z : Str) : Bool := match d with
  | .str y => y == z
  | _ => false
def isDctD : PyData → Bool
  | .dict _ => true
  | _ => false
def rEqS : R2 := fun x y H Q => ∃ p d z, LD p H x d ∧ isDctD d = false ∧ y = .str z ∧ Q (.bl (isStrD d z)) H
theorem op_eqS {X : Cx} (hu : X.A.units + 64 < cLine) : OpR X (compareOp .Eq) rEqS := by
  intro pins s σ H x y v u Q I rx ry h
  obtain ⟨p, d, z, hx, hd, rfl, q⟩ := h
  obtain ⟨tz, rfl⟩ := ry
  have fin : ∀ {b : Bool}, SeqAt.RcAt X.A s v (.str z tz) b → Q (.bl b) H → wpAny (model X.prog X.w) X.A (compareOp .Eq v (.str z tz)) (EP X pins σ Q) X.xe s := fun r g => r X.prog X.w X.xe _ ⟨.bl _, H, I, rfl, g⟩
  cases hx with
  | non =>
    cases rx
    exact fin (SeqAt.RcAt.none_str _ _) q
  | bl b =>
    cases rx
    exact fin (SeqAt.RcAt.bool_str _ _ _) q
  | int i =>
    obtain ⟨t, rfl⟩ := rx
    exact fin (SeqAt.RcAt.int_str _ _ _ _) q
  | str y =>
    obtain ⟨t, rfl⟩ := rx
    exact fin (SeqAt.RcAt.str_str _ _ _ _) q
  | tup n e r =>
    cases rx
    obtain ⟨its, rv, pl, _⟩ := I.tuple (SqT.of e)
    exact fin (SeqAt.RcAt.tuple_str _ _ pl (by omega)) q
  | lst n m e r =>
    cases rx
    obtain ⟨its, rv, pl, _⟩ := I.list (SqL.of e)
    exact fin (SeqAt.RcAt.list_str _ _ pl.isList (by omega)) q
  | dic n e => cases hd
  | dct n e => cases hd
/-- [e, ..], where it lies -/
def tLstB (t : TA) : TE := fun σ H Q => t σ H fun xs H1 => xs.length ≤ sizeLine ∧ ∀ p, H1 p = none → p ≠ sysModules → Q (.ref p) (upd H1 p (.lst xs))
theorem pe_lstB {X : Cx} {es : List Expr} {pos : Pos} {t : TA} (h : PA X es t) : PE X (.List es pos) (tLstB t) := by
  constructor
  intro pins s σ H Q I hq
  refine wpAny_List_spliced (thn (h.run pos pins s σ H _ I hq) ?_)
  rintro us s1 ⟨xs, H1, I1, r, z, q⟩
  refine ⟨r.length ▸ z, .ref s1.heap.objs.size, _, I1.laid (t' := s1.toks) (o := .lst xs) (fun b u e => Heap.get?_push_of_some _ e) (Nat.le_refl _) ⟨z, us, 0, r, Heap.get?_push_size _ rfl⟩, rfl, q _ (I1.hok.fresh (Nat.le_refl _)) (Nat.ne_of_gt I1.big)⟩
end Sb

/-! len(set(t)), t a tuple of ints and texts; t.index(n), t a tuple of ints. -/
namespace Sb
open PySem PySem.Spec PyProof.Rows L2
instance memKey (k : Key) (l : List Key) : Decidable (k ∈ l) := @List.instDecidableMemOfLawfulBEq Key instBEqOfDecidableEq inferInstance k l
theorem setOfK_congr {prog : Program} {w : World} {h : Heap} {a : Addr} {S S' : Key → Bool} {n n' : Nat} (hS : h.SetOf (mixKind prog w) a S n) (e : ∀ k, S k = S' k) (en : n = n') : h.SetOf (mixKind prog w) a S' n' := by
  have : S = S' := funext e
  subst this
  subst en
  exact hS
def uniqK (l : List Key) : List Key := l.foldl (fun acc k => if k ∈ acc then acc else acc ++ [k]) []
theorem uniqK_snoc (l : List Key) (x : Key) : uniqK (l ++ [x]) = if x ∈ uniqK l then uniqK l else uniqK l ++ [x] := by
  unfold uniqK
  rw [List.foldl_append]
  rfl
theorem uniqK_len : ∀ (n : Nat) (l : List Key), l.length = n → (uniqK l).length ≤ l.length ∧ (∀ k, k ∈ uniqK l ↔ k ∈ l) ∧ (l.Nodup → uniqK l = l) ∧ ((uniqK l).length = l.length → l.Nodup)
  | 0, l, h => by
    obtain rfl := List.eq_nil_of_length_eq_zero h
    exact ⟨Nat.le_refl _, fun k => Iff.rfl, fun _ => rfl, fun _ => List.nodup_nil⟩
  | n + 1, l, h => by
    have hl : l ≠ [] := by intro e; subst e; cases h
    obtain ⟨r, x, rfl⟩ : ∃ r x, l = r ++ [x] := ⟨l.dropLast, l.getLast hl, (List.dropLast_concat_getLast hl).symm⟩
    have hr : r.length = n := by rw [List.length_append] at h; simpa using h
    obtain ⟨a, b, c, d⟩ := uniqK_len n r hr
    rw [uniqK_snoc]
    by_cases hx : x ∈ uniqK r
    · rw [if_pos hx]
      have hx' := (b x).mp hx
      refine ⟨by rw [List.length_append]; exact Nat.le_trans a (Nat.le_add_right _ _), fun k => ?_, fun nd => ?_, fun e => ?_⟩
      · rw [b k, List.mem_append]
        constructor
        · exact .inl
        · rintro (z | z)
          · exact z
          · rw [List.mem_singleton] at z
            exact z ▸ hx'
      · exact absurd hx' (fun z => (List.nodup_append.mp nd).2.2 x z x List.mem_cons_self rfl)
      · rw [List.length_append, List.length_singleton] at e
        omega
    · rw [if_neg hx]
      have hx' : x ∉ r := fun z => hx ((b x).mpr z)
      refine ⟨by rw [List.length_append, List.length_append]; exact Nat.add_le_add_right a _, fun k => ?_, fun nd => ?_, fun e => ?_⟩
      · rw [List.mem_append, List.mem_append, b k]
      · rw [c (List.nodup_append.mp nd).1]
      · rw [List.length_append, List.length_append] at e
        have nd := d (Nat.add_right_cancel e)
        refine List.nodup_append.mpr ⟨nd, by simp, fun a ha b hb => ?_⟩
        rw [List.mem_singleton] at hb
        subst hb
        rintro rfl
        exact hx' ha
section
variable {prog : Program} {w : World} {A : Around} {R : Result → Shared → Prop} {I : Addr} {fp wr : List Addr} {G : Array GenState → Array GenState → Prop} {n : Nat} {P : Nat → Value → Prop} {St : Nat → Shared → Prop}
theorem loopMix (W : WalksS prog w A.in1 I fp wr G n P St) (S : Addr) (hSf : S ∉ fp) (xs : List Key) (hsz : xs.length = n) (hn1 : n ≤ 50)
    (hval : ∀ i v, P i v → ∃ k, xs[i]? = some k ∧ RelV (kV k) v) :
    ∀ (k i : Nat) (s : Shared), n - i = k → i ≤ n → St i s →
      s.heap.SetOf (mixKind prog w) S (fun k' => decide (k' ∈ uniqK (xs.take i))) (uniqK (xs.take i)).length →
      (∀ s', Moved (S :: wr) G s s' → s'.heap.SetOf (mixKind prog w) S (fun k' => decide (k' ∈ uniqK (xs.take n))) (uniqK (xs.take n)).length → R (.ok (.ret .none)) s') →
      codeAny (model prog w) A (.builtin "set.update.loop" ⟨[.ref S, .ref I], []⟩) R s := by
  have hSw : S ∉ wr := fun h => hSf (W.sub _ h)
  have hsub : ∀ b ∈ wr, b ∈ S :: wr := fun b hb => List.mem_cons_of_mem _ hb
  intro k
  induction k with
  | zero =>
    intro i s hk hi hst hS hR
    have hin : i = n := by omega
    subst hin
    refine codeAny_builtin PyProof.Rows.F.entry_set_update_loop ?_
    rw [Around.under_plainId PyProof.Rows.F.plain_set_update_loop _]
    show wpAny _ A.in1 (pyNext (.ref I) >>= _) _ _ s
    refine wpAny_bind (W.done s _ _ hst fun s' hm => ?_)
    show wpAny _ A.in1 (ret Value.none) _ _ s'
    exact wpAny_pure (hR s' (hm.mono hsub) (by
      obtain ⟨o, es, ep, t, ho, rest⟩ := hS
      exact ⟨o, es, ep, t, hm.heap S _ hSw ho, rest⟩))
  | succ k ih =>
    intro i s hk hi hst hS hR
    have hlt : i < n := by omega
    refine codeAny_builtin PyProof.Rows.F.entry_set_update_loop ?_
    rw [Around.under_plainId PyProof.Rows.F.plain_set_update_loop _]
    show wpAny _ A.in1 (pyNext (.ref I) >>= _) _ _ s
    refine wpAny_bind (W.item i s _ _ hlt hst fun v s' hP hst' hm => ?_)
    obtain ⟨x, hx, rv⟩ := hval i v hP
    have hS' : s'.heap.SetOf (mixKind prog w) S (fun k' => decide (k' ∈ uniqK (xs.take i))) (uniqK (xs.take i)).length := by
      obtain ⟨o, es, ep, tb, ho, rest⟩ := hS
      exact ⟨o, es, ep, tb, hm.heap S _ hSw ho, rest⟩
    show wpAny _ A.in1 (holding [v] (setAdd S v) >>= _) _ _ s'
    refine wpAny_bind (wpAny_holding ?_)
    unfold setAdd
    refine wpAny_holding ?_
    refine wpAny_bind ((mixKind prog w).pyHash (k := x) (kV_is rv) ?_)
    have lu : (uniqK (xs.take i)).length ≤ i := Nat.le_trans (uniqK_len _ _ rfl).1 (by rw [List.length_take]; exact Nat.min_le_left _ _)
    refine wpAny_setAddHashed_of (knd := mixKind prog w) (s := { s' with toks := s'.toks + 1 }) (kV_is rv) (key_scan rv) hS' (by unfold scanBound; omega) fun h' hsb hS2 => ?_
    have hSi : h'.SetOf (mixKind prog w) S (fun k' => decide (k' ∈ uniqK (xs.take (i + 1)))) (uniqK (xs.take (i + 1))).length := by
      have e : xs.take (i + 1) = xs.take i ++ [x] := by rw [List.take_add_one, hx]; rfl
      rw [e, uniqK_snoc]
      refine setOfK_congr hS2 (fun k' => ?_) ?_
      · by_cases h : x ∈ uniqK (xs.take i)
        · rw [if_pos h]
          by_cases e2 : k' = x
          · subst e2; simp [h]
          · simp [e2]
        · rw [if_neg h]
          simp [List.mem_append]
      · by_cases h : x ∈ uniqK (xs.take i)
        · rw [if_pos h, decide_eq_true h]; rfl
        · rw [if_neg h, decide_eq_false h, List.length_append]; rfl
    refine wpAny_pure ⟨plainId_quiet PyProof.Rows.F.plain_set_update_loop _, ih (i + 1) _ (by omega) hlt (W.frame _ s' _ _ hst' (Nat.le_succ _) fun b hb o e => ?_) hSi fun s'' hm'' hS'' => ?_⟩
    · rw [hsb.2 b (fun h : b = S => hSf (by rw [← h]; exact hb))]; exact e
    · refine hR s'' (Moved.trans W.gtrans ((hm.mono hsub).then_heap (Nat.le_succ _) fun b o hb e => ?_) hm'') hS''
      rw [hsb.2 b (fun h : b = S => hb (by rw [h]; exact List.mem_cons_self))]; exact e
end
section
variable {prog : Program} {w : World} {A : Around} {E : Value → Shared → Prop} {s : Shared}
theorem call_set_tupleM {l : Addr} {items : Array Value} {xs : List Key} {Q : Value → Shared → Prop}
    (hh : A.handled = none) (hl : s.heap.IsTuple l items) (hi : Vals (xs.map kV) items.toList) (hn1 : xs.length ≤ 50)
    (h : ∀ (h' : Heap) (tk : Nat), h'.SetOf (mixKind prog w) s.heap.objs.size (fun k' => decide (k' ∈ uniqK (xs.take items.size))) (uniqK (xs.take items.size)).length →
      (∀ b o, b < s.heap.objs.size → s.heap.get? b = some o → h'.get? b = some o) → Q (.ref s.heap.objs.size) { s with heap := h', toks := tk }) :
    wpAny (model prog w) A (call (.type "set") [.ref l]) Q E s := by
  obtain ⟨c, tl, hmro⟩ := PySem.F.called_set.mro
  have hmade := PySem.F.called_set.made
  have hsub := PySem.F.called_set.sub
  refine wpAny_call (codeAny_of_tree ?_)
  show wpAny _ _ (callAny (.type "set") _) _ _ _
  refine wpAny_pure ⟨Code.quiet_builtin _ (by decide +kernel), codeAny_builtin PySem.F.entry_type_call ?_⟩
  rw [Around.under_plain (weight_type_call_type "set" [.ref l] []) rfl]
  have h1 := PySem.F.called_set.notType
  have h2 := PySem.F.called_set.canCreate
  have hct := PySem.F.typeCall_set_1 (.ref l)
  repeat (any_goals (first | assumption | wp_step))
  refine codeAny_mono (code_set_new_1 (.ref l) (E := E) (Q₁ := fun obj s₁ => ∃ led : Bool, obj = .ref s.heap.objs.size ∧ s₁ = { s with heap := s.heap.push { cls := .type "set", dict := none, data := .set #[] 0 (.fresh 0 0 led) } }) fun led => ⟨led, rfl, rfl⟩) fun r s₁ hr => ?_
  cases r with
  | error e => exact hr
  | ok fl =>
    cases fl with
    | ret obj =>
      obtain ⟨led, rfl, rfl⟩ := hr
      have hS : (s.heap.push { cls := .type "set", dict := none, data := .set #[] 0 (.fresh 0 0 led) }).get? s.heap.objs.size = some { cls := .type "set", dict := none, data := .set #[] 0 (.fresh 0 0 led) } := Heap.get?_push_size _ rfl
      have hT : Shared.TypeIs { s with heap := s.heap.push { cls := .type "set", dict := none, data := .set #[] 0 (.fresh 0 0 led) } } (.ref s.heap.objs.size) "set" := ⟨_, hS, rfl⟩
      have hli := PySem.F.called_set.init.lookup
      have hbi := PySem.F.called_set.init.bind (.ref s.heap.objs.size)
      repeat (any_goals (first | assumption | wp_step))
      refine codeAny_mono (codeAny_call_builtin (R := wants (fun r s₂ => r = .none ∧ ∃ h' tk, s₂ = { s with heap := h', toks := tk } ∧
          h'.SetOf (mixKind prog w) s.heap.objs.size (fun k' => decide (k' ∈ uniqK (xs.take items.size))) (uniqK (xs.take items.size)).length ∧
          (∀ b o, b < s.heap.objs.size → s.heap.get? b = some o → h'.get? b = some o)) E) PySem.F.called_set.init.plain PySem.F.entry_set_init (check_set_init_1 hT ?_)) fun r₂ s₂ hr₂ => ?_
      · obtain ⟨ol, hol, hcl, nl, hdl⟩ := hl
        obtain ⟨ocls, odict, odata, oslots⟩ := ol
        simp only at hcl hdl
        subst hcl; subst hdl
        have hol' : (s.heap.push { cls := .type "set", dict := none, data := .set #[] 0 (.fresh 0 0 led) }).get? l = some { cls := .type "tuple", dict := odict, data := .seq items nl, slots := oslots } := Heap.get?_push_of_some _ hol
        have hsls := PySem.F.sub_tuple_set
        have hslf := PySem.F.sub_tuple_frozenset
        have hne : (Value.type "tuple" == Value.type "dict") = false := by decide
        have hl1 : (s.heap.push { cls := .type "set", dict := none, data := .set #[] 0 (.fresh 0 0 led) }).IsTuple l items := ⟨_, hol', rfl, nl, rfl⟩
        unfold Builtin.«set.__init__» noKeywords Builtin.Frozenset.updateFrom
        generalize hPI : pyIter = PI
        wp_walk
        subst hPI
        refine wpAny_pyIter_tuple hl1 ?_
        refine wpAny_bind (wpAny_runValue ?_)
        have hlS : l < s.heap.objs.size := Heap.lt_size hol
        have hh3 : A.in1.in1.in1.handled = none := by simp [hh]
        have hneI : l ≠ (s.heap.push { cls := .type "set", dict := none, data := .set #[] 0 (.fresh 0 0 led) }).objs.size := by
          rw [Heap.size_push]; exact Nat.ne_of_lt (Nat.lt_succ_of_lt hlS)
        have hSf : s.heap.objs.size ∉ [(s.heap.push { cls := .type "set", dict := none, data := .set #[] 0 (.fresh 0 0 led) }).objs.size, l] := by
          rw [Heap.size_push]; simp only [List.mem_cons, List.mem_singleton, List.not_mem_nil, or_false, not_or]
          exact ⟨Nat.ne_of_lt (Nat.lt_succ_self _), Nat.ne_of_gt hlS⟩
        have hsz : xs.length = items.size := by rw [← Array.length_toList, ← hi.length, List.length_map]
        have hval : ∀ (i : Nat) (v : Value), items[i]? = some v → ∃ k, xs[i]? = some k ∧ RelV (kV k) v := fun i v hv => by
          have hlt : i < items.size := (Array.getElem?_eq_some_iff.mp hv).1
          have hlx : i < xs.length := by omega
          refine ⟨xs[i], List.getElem?_eq_getElem hlx, ?_⟩
          obtain ⟨w', hw, rw'⟩ := hi.get (i := i) (x := kV xs[i]) (by rw [List.getElem?_map, List.getElem?_eq_getElem hlx]; rfl)
          rw [Array.getElem?_toList] at hw
          rw [hv] at hw
          cases hw
          exact rw'
        refine loopMix ((Walks.tuple hh3 _ l hneI items).toS) s.heap.objs.size
          hSf xs hsz (by rw [← hsz]; exact hn1) hval (items.size - 0) 0 _ (by omega) (Nat.zero_le _)
          ⟨⟨_, Heap.get?_push_size _ rfl, rfl, rfl⟩, (hl1.push _)⟩ ?hS0 ?hR
        case hS0 =>
          have hget : ((s.heap.push { cls := .type "set", dict := none, data := .set #[] 0 (.fresh 0 0 led) }).push { cls := .type "tuple_iterator", data := .fields #[.ref l, .int 0 0] }).get? s.heap.objs.size
              = some { cls := .type "set", dict := none, data := .set #[] 0 (.fresh 0 0 led) } := Heap.get?_push_of_some _ hS
          exact ⟨_, #[], 0, _, hget, ⟨rfl, rfl, rfl⟩, rfl, (fun e he => by simp at he), (fun k => by simp [uniqK]), (by decide), (by rfl), rfl⟩
        case hR =>
          intro s' hm hS'
          obtain ⟨h', g', d', tk', os'⟩ := s'
          have eg : g' = s.gens := hm.gens
          have ed : d' = s.drawn := hm.drawn
          have eo : os' = s.os := hm.os
          subst eg; subst ed; subst eo
          show wpAny _ _ _ _ _ _
          refine wpAny_pure ?_
          show wpAny _ _ (ret Value.none) _ _ _
          refine wpAny_pure ⟨rfl, h', tk', rfl, hS', fun b o hb e => ?_⟩
          have hb1 : b ≠ s.heap.objs.size := Nat.ne_of_lt hb
          have hb2 : b ≠ (s.heap.push { cls := .type "set", dict := none, data := .set #[] 0 (.fresh 0 0 led) }).objs.size := by
            rw [Heap.size_push]; exact Nat.ne_of_lt (Nat.lt_succ_of_lt hb)
          exact hm.heap b o (by simp only [List.mem_cons, List.mem_singleton, List.not_mem_nil, or_false, not_or]; exact ⟨hb1, hb2⟩) (Heap.get?_push_of_some _ (Heap.get?_push_of_some _ e))
      · cases r₂ with
        | error e => exact hr₂
        | ok fl₂ =>
          cases fl₂ with
          | ret r =>
            obtain ⟨rfl, h', tk, rfl, hS', hk'⟩ := hr₂
            repeat (any_goals (first | assumption | wp_step))
            exact h _ _ hS' hk'
          | _ => exact hr₂.elim
    | _ => exact hr.elim
end
section
variable {X : Cx}
def tLenSetM (ta : TE) : TE := fun σ H Q => ta σ H fun x H1 => ∃ (l : Addr) (xs : List Key), x = .ref l ∧ H1 l = some (.tup (xs.map kV)) ∧ xs.length ≤ 50 ∧ Q (.int (uniqK xs).length) H1
theorem pe_lenSetM {a : Expr} {ta : TE} {p p2 q pos : Pos} (hc : X.calm = true) (hg : Gl X "len") (hm : X.mg "len" = none) (hg2 : Gl X "set") (hm2 : X.mg "set" = none) (ha : PE X a ta)
    (na : starEach [a] X.env = (false, eval a X.env) :: starEach [] X.env := by rfl) : PE X (.Call (.Name "len" p) [.Call (.Name "set" p2) [a] [] q] [] pos) (tLenSetM ta) := by
  refine ⟨fun pins s σ H Q I h => ?_⟩
  refine Call_ (ld_blt I hg hm boot_len ?_)
  refine PyProof.Rows.callWith_builtin1 (PyProof.Rows.args_cons ?_ rfl) rfl rfl
  refine Call_ (ld_blt I hg2 hm2 boot_set ?_)
  refine PyProof.Rows.callWith_type1 (PyProof.Rows.args_cons (thn (ha.run pins s σ H _ I h) fun v s1 ⟨x, H1, I1, r1, q1⟩ => PyProof.Rows.args_nil ?_) na) na rfl
  obtain ⟨l, xs, rfl, hq, h1, q1⟩ := q1
  cases r1
  obtain ⟨its, r, pl, hz⟩ := I1.tuple (SqT.of hq)
  refine call_set_tupleM (I1.ok.hd hc) pl (by simpa using r) h1 fun h' tk hS hk => ?_
  refine PyProof.Rows.args_nil ?_
  have hl : its.toArray.size = xs.length := by rw [List.size_toArray, ← r.length, List.length_map]
  rw [hl, List.take_length] at hS
  obtain ⟨o, es, ep, t, ho, hex, hd, _, _, _, hf, hn⟩ := hS
  have I2 : L2.Inv X pins σ H1 { s1 with heap := h', toks := tk } := I1.kept fun b o e => hk b o (Heap.lt_size e) e
  have lu := (uniqK_len _ xs rfl).1
  refine call_len_set ho hex hd hf (by rw [hn] <;> omega) ⟨.int (uniqK xs).length, H1, I2.tok _, ⟨_, by rw [hn]⟩, q1⟩
/-- t.index(n), the first place -/
def rIdxI (K : PySem.W.Frag) : V → List V → Hp → VK → Prop := fun x xs H Q => ∃ (p : Addr) (ys : List Int) (z : Int) (j : Nat), x = .ref p ∧ xs = [.int z] ∧ SqT K H p (ys.map V.int) ∧ ys[j]? = some z ∧ (∀ m, m < j → ys[m]? ≠ some z) ∧ Q (.int (j : Nat)) H
theorem flat_ints (ys : List Int) : (ys.map V.int).all flatV = true := by
  rw [List.all_map]
  exact List.all_eq_true.mpr fun _ _ => rfl
theorem mt_tup_indexI : MtR X "tuple.index" (rIdxI X.K) := by
  intro pins s σ H x xs v us Q I rx rs h
  obtain ⟨p, ys, z, j, rfl, rfl, hq, hy, hno, q⟩ := h
  cases rx
  obtain ⟨u, rfl, t, rfl⟩ := vals1 rs
  obtain ⟨its, r, pl, hz⟩ := I.tuple hq
  obtain ⟨⟨cls, dd, dt, sl⟩, ho, hc, n, hd⟩ := pl
  simp only at hc hd
  subst hc
  subst hd
  have hl : its.toArray.size = ys.length := by rw [List.size_toArray, ← r.length, List.length_map]
  have hj : j < its.toArray.size := by rw [hl]; exact (List.getElem?_eq_some_iff.mp hy).1
  have at' : ∀ (m : Nat) (hm : m < its.toArray.size), ∃ y t', ys[m]? = some y ∧ its.toArray[m] = Value.int y t' := fun m hm => by
    have hm' : m < ys.length := by rw [← hl]; exact hm
    obtain ⟨w, hw, t', hw'⟩ := r.get (i := m) (x := .int ys[m]) (by simp [hm'])
    refine ⟨ys[m], t', List.getElem?_eq_getElem hm', ?_⟩
    have e := (List.getElem?_eq_some_iff.mp hw).2
    rw [← hw', ← e]
    simp
  refine call_meets PySem.F.slot_tuple_index ⟨_, ho, rfl⟩ PySem.F.entry_tuple_index (PySem.F.args_tuple_index_2 _ _) (TI.tuple_indexAt p its.toArray n dd sl (.int z t) (eqU (.int z)) j hj ?_ ?_)
    ⟨ho, fun w hw => mem_eqAt (x := .int z) ⟨t, rfl⟩ rfl r (flat_ints ys) w (by simpa using hw), ⟨.int (j : Nat), H, I.tok _, ⟨_, rfl⟩, q⟩⟩
  · obtain ⟨y, t', h1, h2⟩ := at' j hj
    rw [hy] at h1
    cases h1
    rw [h2]
    show (z == z) = true
    exact beq_self_eq_true z
  · intro m hm hmj
    obtain ⟨y, t', h1, h2⟩ := at' m hm
    rw [h2]
    show (y == z) = false
    have : y ≠ z := fun e => hno m hmj (by rw [h1, e])
    exact beq_eq_false_iff_ne.mpr this
end
end Sb

/-! t * k for tuples of data, the empty one too. -/
namespace Sb
open PySem PySem.Spec PyProof.Rows L2
theorem tuple_mul0 (l : Addr) (n : Nat) (dd : Option Addr) (sl : Array (Option Value)) (x : Int) (u : Tok) (hx : -(2 ^ 63) ≤ x ∧ x < 2 ^ 63) :
    Meets (Builtin.«tuple.__mul__» ⟨[.ref l, .int x u], []⟩) (fun _ R s => s.heap.get? l = some { cls := .type "tuple", dict := dd, data := .seq #[] n, slots := sl } ∧ R (.ok (.ret (Value.ref l))) s) :=
  .of_wp fun P w A R s h => by
    obtain ⟨hp, g, d, tk, os⟩ := s
    obtain ⟨hl, h⟩ := h
    have f1 := AutoSeq1.idx_int
    have c0 : (decide (x < -(2 ^ 63)) || decide (x ≥ 2 ^ 63)) = false := by
      rw [decide_eq_false (by omega), decide_eq_false (by omega)] <;> rfl
    wp_walk using wpAny_loadPart' hl
    refine wpAny_ite_false (decide_eq_false (by rw [c0]; exact Bool.false_ne_true)) ?_
    wp_walk using wpAny_loadPart' hl
    exact ⟨_, rfl, h⟩
theorem TDs.flat {H : Hp} {xs : List V} {ds : List PyData} (h : TDs H xs ds) : ∀ k, TDs H (List.replicate k xs).flatten (List.replicate k ds).flatten
  | 0 => .nil
  | k + 1 => h.app (h.flat k)
def rMulD : R2 := fun x y H Q => ∃ ds k, TD H x (.tuple ds) ∧ y = .int k ∧ 2 ≤ k ∧ k ≤ 1000 ∧ ds.length ≤ 1000 ∧ ∀ p H', Same H H' → TD H' (.ref p) (.tuple (List.replicate k.toNat ds).flatten) → Q (.ref p) H'
section
variable {X : Cx}
theorem op_mulD : OpR X (binaryOp .Mult) rMulD := by
  intro pins s σ H x y v u Q I rx ry h
  obtain ⟨ds, k, hT, rfl, h1, h2, hz, q⟩ := h
  obtain ⟨l, xs, rfl, hl, hx⟩ := hT.isTup
  have lx := hx.length
  by_cases hne : xs = []
  · subst hne
    cases hx
    cases rx
    obtain ⟨t, rfl⟩ := ry
    obtain ⟨its, r, ⟨⟨cls, dd, data, sl⟩, ho, hc, n, hd⟩, hs⟩ := I.tuple (SqT.of hl)
    cases r
    simp only at hc hd
    subst hc hd
    refine wpAny_binaryOp_repeat_ref (T := "tuple") (U := "int") (by decide) ⟨_, ho, rfl⟩ (fun s' => typeIs_int s' k t) noFill_tuple_mul PySem.F.fills_int_mul PySem.F.slot_int_rmul repeat_tuple PySem.F.slot_int_index.lookup
      (call_meets PySem.F.slot_int_rmul (typeIs_int s k t) PySem.F.entry_int_rmul (PySem.F.args_int_rmul_2 _ _) (int_rmul_tuple k t l #[] n dd sl)
        ⟨ho, rfl, ⟨_, ho, rfl⟩, call_meets PySem.F.slot_tuple_mul ⟨_, ho, rfl⟩ PySem.F.entry_tuple_mul (PySem.F.args_tuple_mul_2 _ _) (tuple_mul0 l n dd sl k t (by omega)) ⟨ho, ?_⟩⟩)
    refine ⟨.ref l, H, I, rfl, q l H (Same.refl H) ?_⟩
    have e : (List.replicate k.toNat ([] : List PyData)).flatten = [] := by simp
    rw [e]
    exact hT
  · exact op_repT pins s σ H _ _ v u Q I rx ry ⟨l, k, xs, rfl, rfl, SqT.of hl, hne, h1, h2, by omega, fun p np => q p _ (same_new np) (.tup upd_same (TDs.mono (Tups.new np) _ (hx.flat k.toNat)))⟩
end
end Sb

/-! Tuples whose object is known to have no dict: their methods may be called. -/
namespace Sb
open PySem PySem.Spec PyProof.Rows L2
section
variable {X : Cx}
/-- (e, ..), its object known -/
def tTupF (t : TA) : TE := fun σ H Q => t σ H fun xs H1 => xs.length ≤ sizeLine ∧ ∀ p ob, H1 p = none → ob.dict = none → Q (.ref p) (upd H1 p (.frz ob (.tup xs)))
theorem pe_tupF {es : List Expr} {x1} {pos : Pos} {t : TA} (h : PA X es t) : PE X (.Tuple es x1 pos) (tTupF t) := by
  refine ⟨fun pins s σ H Q I hq => ?_⟩
  refine wpAny_Tuple_spliced (thn (h.run pos pins s σ H _ I hq) fun us s1 ⟨xs, H1, I1, r, z, q⟩ => ⟨by rw [← r.length]; exact z, ?_⟩)
  have hf : H1 s1.heap.objs.size = none := I1.hok.fresh (Nat.le_refl _)
  refine ⟨.ref s1.heap.objs.size, upd H1 s1.heap.objs.size (.frz { cls := .type "tuple", data := .seq us.toArray } (.tup xs)), I1.laid (t' := s1.toks) (fun b u e => Heap.get?_push_of_some _ e) (Nat.le_refl _) ?_, rfl, q _ _ hf rfl⟩
  exact ⟨Heap.get?_push_size _ rfl, z, us, r, ⟨_, Heap.get?_push_size _ rfl, rfl, _, rfl⟩⟩
/-- tuple(xs) -/
def rTupF (K : PySem.W.Frag) : List V → Hp → VK → Prop := fun xs H Q => ∃ p ys, xs = [.ref p] ∧ SqL K H p ys ∧ ∀ l ob, H l = none → ob.dict = none → Q (.ref l) (upd H l (.frz ob (.tup ys)))
theorem call_tupleF : CallR X (.type "tuple") (rTupF X.K) := by
  intro pins s σ H xs us Q I r h
  obtain ⟨p, ys, rfl, hq, q⟩ := h
  obtain ⟨u, rfl, rx⟩ := vals1 r
  cases rx
  obtain ⟨its, r', pl, hz⟩ := I.list hq
  have hlen := r'.length
  refine call_tuple_list pl.isList (fun h' kp => ?_) (by simp only [List.size_toArray] <;> omega)
  have I1 : L2.Inv X pins σ H { s with heap := h' } := I.kept (t' := s.toks) kp
  have I2 : L2.Inv X pins σ (upd H h'.objs.size (.frz { cls := .type "tuple", data := .seq its.toArray } (.tup ys))) { s with heap := h'.push { cls := .type "tuple", data := .seq its.toArray } } :=
    I1.laid (t' := s.toks) (fun b o e => Heap.get?_push_of_some _ e) (Nat.le_refl _) (show ObjOk X.prog X.w _ _ _ (.frz _ (.tup ys)) from ⟨Heap.get?_push_size _ rfl, hz, its, r', IsTup.new _ _⟩)
  exact ⟨.ref h'.objs.size, _, I2, rfl, q _ _ (I1.hok.fresh (Nat.le_refl _)) rfl⟩
/-- t.m(e, ..) -/
def tBMT (r : V → List V → Hp → VK → Prop) (to : TE) (t : TA) : TE := fun σ H Q => to σ H fun x H1 => (∃ p ob xs, x = V.ref p ∧ H1 p = some (.frz ob (.tup xs)) ∧ ob.dict = none) ∧ t σ H1 fun xs H2 => r x xs H2 Q
variable {o e : Expr} {es : List Expr} {to : TE} {t : TA} {name : Str} {apos cpos : Pos} {id : String} {r : V → List V → Hp → VK → Prop}
theorem pe_bmT (pa : PlainAttrs "tuple") (slot : Slot "tuple" name id) (hty : typeOf (.builtin id) = pure (.type "method_descriptor")) (hm : MtR X id r) (ho : PE X o to) (ha : PA X (e :: es) t)
    (hbase : attributeBase o name X.env (eval o X.env) = eval o X.env := by rfl)
    (hfew : ((backTo cpos (starEach (e :: es) X.env)).all (fun x => !x.1) && (backToKw cpos (keywordEach [] X.env)).all (fun x => x.1.isSome)
      && decide ((e :: es).length + ([] : List Keyword).length + (if ([] : List Keyword).isEmpty then 0 else 1) < 30)) = true := by rfl)
    (hline : (apos.endLine == cpos.line) = true := by rfl) (hs : starEach (e :: es) X.env = (false, eval e X.env) :: starEach es X.env := by rfl) (hplain : (backTo cpos (starEach es X.env)).any (·.1) = false := by rfl) :
    PE X (.Call (.Attribute o name apos) (e :: es) [] cpos) (tBMT r to t) := by
  refine ⟨fun pins s σ H Q I h => ?_⟩
  refine wpAny_Call_method_late hbase hfew hline rfl (thn (ho.run pins s σ H _ I h) fun v s1 ⟨x, H1, I1, r1, ⟨p, ob, xs, ex, hp, hd⟩, q1⟩ => ?_)
  subst ex
  obtain rfl : v = Value.ref p := r1
  obtain ⟨g, z, its, rv, o', ho', hc, n, hdat⟩ := (show ObjOk X.prog X.w H1 s1.heap p (.frz ob (.tup xs)) from I1.hok p _ hp)
  have eo : o' = ob := by
    rw [g] at ho'
    exact (Option.some.inj ho').symm
  subst eo
  refine ⟨"tuple", id, pa, slot, hty, ⟨o', g, hc⟩, fun a e2 => ?_, ?_⟩
  · cases e2
    exact ⟨o', g, hd⟩
  have hA := ha.run cpos pins s1 σ H1 _ I1 q1
  rw [hs] at hA ⊢
  refine Calls.callWith_builtin (by show (false || (backTo cpos (starEach es X.env)).any (·.1)) = false; rw [hplain] <;> rfl) (Calls.evalArgs_plain ?_)
  exact thn hA fun us s2 ⟨vs, H2, I2, r2, q2⟩ => hm pins s2 σ H2 (.ref p) vs (.ref p) us Q I2 rfl r2 q2
end
/-- held values, in order, at a -/
def HT (H : Hp) (a : Addr) (ns : List Int) : Prop := ∃ ob, H a = some (.frz ob (.tup (ns.map V.int))) ∧ ob.dict = none
theorem HT.sq {K : PySem.W.Frag} {H : Hp} {a : Addr} {ns : List Int} (h : HT H a ns) : SqT K H a (ns.map V.int) := by
  obtain ⟨ob, e, _⟩ := h
  exact .inl (.inr ⟨ob, e⟩)
theorem HT.mono {H H' : Hp} {a : Addr} {ns : List Int} (h : HT H a ns) (s : Same H H') : HT H' a ns := by
  obtain ⟨ob, e, d⟩ := h
  exact ⟨ob, s _ _ e, d⟩
theorem HT.ty {H : Hp} {a : Addr} {ns : List Int} (h : HT H a ns) : ∃ p ob xs, V.ref a = V.ref p ∧ H p = some (.frz ob (.tup xs)) ∧ ob.dict = none := by
  obtain ⟨ob, e, d⟩ := h
  exact ⟨a, ob, _, rfl, e, d⟩
theorem inV_ints (v : Int) : ∀ ns : List Int, inV (.int v) (ns.map V.int) = decide (v ∈ ns)
  | [] => rfl
  | n :: r => by
    have ih := inV_ints v r
    unfold inV at ih ⊢
    rw [List.map_cons, List.any_cons, ih]
    by_cases h : n = v
    · subst h
      simp [eqV]
    · have h' : ¬ v = n := fun e => h e.symm
      simp [eqV, h, h', List.mem_cons]
end Sb

/-! Numbered streams: the mathematics. -/
namespace Sb
open PySem PySem.Spec PyProof.Rows L2
def grow (names : List Int) (v : Int) : List Int := if v ∈ names then names else names ++ [v]
def numGo : List Int → List (Int × Int) → List (Int × Int)
  | _, [] => []
  | names, m :: r => (m.1, ((grow names m.2).idxOf m.2 : Nat)) :: numGo (grow names m.2) r
def numb (ms : List (Int × Int)) : List (Int × Int) := numGo [] ms
def seen (names : List Int) (ms : List (Int × Int)) : List Int := ms.foldl (fun n m => grow n m.2) names
theorem numGo_len : ∀ (ms : List (Int × Int)) (names : List Int), (numGo names ms).length = ms.length
  | [], _ => rfl
  | m :: r, names => by simp only [numGo, List.length_cons, numGo_len r]
theorem numb_len (ms : List (Int × Int)) : (numb ms).length = ms.length := numGo_len ms []
theorem numGo_snoc : ∀ (ms : List (Int × Int)) (names : List Int) (m : Int × Int), numGo names (ms ++ [m]) = numGo names ms ++ [(m.1, (((grow (seen names ms) m.2).idxOf m.2 : Nat) : Int))]
  | [], _, _ => rfl
  | x :: r, names, m => by
    simp only [List.cons_append, numGo, numGo_snoc r (grow names x.2) m]
    rfl
theorem numGo_take : ∀ (ms : List (Int × Int)) (names : List Int) (n : Nat), numGo names (ms.take n) = (numGo names ms).take n
  | [], _, n => by simp [numGo]
  | x :: r, names, 0 => by simp [numGo]
  | x :: r, names, n + 1 => by simp only [List.take_succ_cons, numGo, numGo_take r]
theorem numb_take (ms : List (Int × Int)) (n : Nat) : numb (ms.take n) = (numb ms).take n := numGo_take ms [] n
theorem seen_snoc (ms : List (Int × Int)) (names : List Int) (m : Int × Int) : seen names (ms ++ [m]) = grow (seen names ms) m.2 := by
  unfold seen
  rw [List.foldl_append]
  rfl
theorem grow_len (names : List Int) (v : Int) : (grow names v).length ≤ names.length + 1 := by
  unfold grow
  split
  · omega
  · simp
theorem seen_len : ∀ (ms : List (Int × Int)) (names : List Int), (seen names ms).length ≤ names.length + ms.length
  | [], names => Nat.le_refl _
  | m :: r, names => by
    have h := seen_len r (grow names m.2)
    have g := grow_len names m.2
    show (seen (grow names m.2) r).length ≤ _
    rw [List.length_cons]
    omega
theorem mem_grow (names : List Int) (v : Int) : v ∈ grow names v := by
  unfold grow
  split
  · assumption
  · simp
theorem idx_append {names : List Int} {v : Int} (h : v ∈ names) (t : List Int) : (names ++ t).idxOf v = names.idxOf v := by
  induction names with
  | nil => cases h
  | cons x r ih =>
    simp only [List.cons_append, List.idxOf_cons]
    by_cases e : x == v
    · simp [e]
    · rcases List.mem_cons.mp h with rfl | h
      · simp at e
      · simp [e, ih h]
theorem idx_new {names : List Int} {v : Int} (h : v ∉ names) : (names ++ [v]).idxOf v = names.length := by
  induction names with
  | nil => simp
  | cons x r ih =>
    have hx : ¬ x = v := fun e => h (by rw [e]; exact List.mem_cons_self)
    have hr : v ∉ r := fun e => h (List.mem_cons_of_mem _ e)
    simp only [List.cons_append, List.idxOf_cons, List.length_cons]
    rw [ih hr]
    have e1 : (x == v) = false := by simpa using hx
    rw [e1]
    rfl
theorem idx_lt {names : List Int} {v : Int} (h : v ∈ names) : names.idxOf v < names.length := List.idxOf_lt_length_iff.mpr h
/-! renaming -/
theorem idx_map {f : Int → Int} (hf : ∀ x y, f x = f y → x = y) (v : Int) : ∀ names : List Int, (names.map f).idxOf (f v) = names.idxOf v
  | [] => by simp
  | x :: r => by
    simp only [List.map_cons, List.idxOf_cons, idx_map hf v r]
    by_cases e : x = v
    · subst e; simp
    · have : ¬ f x = f v := fun z => e (hf _ _ z)
      have e1 : (x == v) = false := by simpa using e
      have e2 : (f x == f v) = false := by simpa using this
      rw [e1, e2]
theorem mem_map_inj {f : Int → Int} (hf : ∀ x y, f x = f y → x = y) {v : Int} {names : List Int} : f v ∈ names.map f ↔ v ∈ names := by
  constructor
  · intro h
    obtain ⟨u, hu, e⟩ := List.mem_map.mp h
    rw [← hf _ _ e]
    exact hu
  · intro h
    exact List.mem_map.mpr ⟨v, h, rfl⟩
theorem grow_map {f : Int → Int} (hf : ∀ x y, f x = f y → x = y) (names : List Int) (v : Int) : grow (names.map f) (f v) = (grow names v).map f := by
  unfold grow
  by_cases h : v ∈ names
  · rw [if_pos h, if_pos ((mem_map_inj hf).mpr h)]
  · rw [if_neg h, if_neg (fun z => h ((mem_map_inj hf).mp z)), List.map_append]
    rfl
theorem numGo_map {f : Int → Int} (hf : ∀ x y, f x = f y → x = y) : ∀ (ms : List (Int × Int)) (names : List Int), numGo (names.map f) (ms.map fun m => (m.1, f m.2)) = numGo names ms
  | [], _ => rfl
  | m :: r, names => by
    simp only [List.map_cons, numGo, grow_map hf, idx_map hf, numGo_map hf r]
theorem numb_map {f : Int → Int} (hf : ∀ x y, f x = f y → x = y) (ms : List (Int × Int)) : numb (ms.map fun m => (m.1, f m.2)) = numb ms := numGo_map hf ms []
/-! numbered twice -/
def iot (k : Nat) : List Int := (List.range k).map (fun i : Nat => (i : Int))
theorem iot_succ (k : Nat) : iot (k + 1) = iot k ++ [(k : Int)] := by
  unfold iot
  rw [List.range_succ, List.map_append]
  rfl
theorem mem_iot {j k : Nat} : (j : Int) ∈ iot k ↔ j < k := by
  unfold iot
  rw [List.mem_map]
  constructor
  · rintro ⟨a, ha, e⟩
    have := List.mem_range.mp ha
    omega
  · intro h
    exact ⟨j, List.mem_range.mpr h, rfl⟩
theorem idx_iot : ∀ {k j : Nat}, j < k → (iot k).idxOf (j : Int) = j
  | 0, _, h => absurd h (Nat.not_lt_zero _)
  | k + 1, j, h => by
    rw [iot_succ]
    by_cases e : j < k
    · rw [idx_append (mem_iot.mpr e), idx_iot e]
    · have : j = k := by omega
      subst this
      rw [idx_new (fun z => Nat.lt_irrefl _ (mem_iot.mp z))]
      simp [iot]
theorem iot_len (k : Nat) : (iot k).length = k := by simp [iot]
theorem numGo_idem : ∀ (ms : List (Int × Int)) (names : List Int), numGo (iot names.length) (numGo names ms) = numGo names ms
  | [], _ => rfl
  | m :: r, names => by
    by_cases h : m.2 ∈ names
    · have e : grow names m.2 = names := if_pos h
      have hl := idx_lt h
      have g : grow (iot names.length) (names.idxOf m.2 : Nat) = iot names.length := if_pos (mem_iot.mpr hl)
      simp only [numGo, e, g, idx_iot hl, numGo_idem r names]
    · have e : grow names m.2 = names ++ [m.2] := if_neg h
      have g : grow (iot names.length) ((names.length : Nat) : Int) = iot (names.length + 1) := by
        rw [iot_succ]
        exact if_neg (fun z => Nat.lt_irrefl _ (mem_iot.mp z))
      have ih := numGo_idem r (names ++ [m.2])
      rw [List.length_append] at ih
      simp only [numGo, e, idx_new h, g, idx_iot (Nat.lt_succ_self _)]
      exact congrArg _ ih
theorem numb_idem (ms : List (Int × Int)) : numb (numb ms) = numb ms := by
  have h := numGo_idem ms []
  exact h
theorem numGo_mem : ∀ (ms : List (Int × Int)) (names : List Int) (m : Int × Int), m ∈ numGo names ms → 0 ≤ m.2 ∧ m.2 < names.length + ms.length ∧ ∃ x ∈ ms, x.1 = m.1
  | [], _, _, h => by cases h
  | x :: r, names, m, h => by
    rcases List.mem_cons.mp h with rfl | h
    · refine ⟨by omega, ?_, x, List.mem_cons_self, rfl⟩
      have := idx_lt (mem_grow names x.2)
      have := grow_len names x.2
      rw [List.length_cons]
      show ((List.idxOf x.2 (grow names x.2) : Nat) : Int) < _
      omega
    · obtain ⟨a, b, y, hy, e⟩ := numGo_mem r (grow names x.2) m h
      have := grow_len names x.2
      refine ⟨a, ?_, y, List.mem_cons_of_mem _ hy, e⟩
      rw [List.length_cons]
      omega
theorem numb_short {ms : List (Int × Int)} (h : Short ms) (hl : ms.length ≤ 100000) : Short (numb ms) := by
  intro m hm
  obtain ⟨a, b, x, hx, e⟩ := numGo_mem ms [] m hm
  refine ⟨?_, ?_⟩
  · rw [← e]
    exact (h x hx).1
  · have : m.2 < 100000 + 1 := by simp at b; omega
    omega
/-! the dict of numbers -/
def DN (kvs : List (Key × V)) (names : List Int) : Prop := kvs.length = names.length ∧ ∀ v : Int, valV kvs (Sum.inl v : Key) = if v ∈ names then some (.int (names.idxOf v : Nat)) else none
theorem DN.nil : DN [] [] := ⟨rfl, fun v => by rw [if_neg (by simp)]; rfl⟩
theorem DN.in {kvs : List (Key × V)} {names : List Int} (h : DN kvs names) {v : Int} (hv : v ∈ names) : valV kvs (Sum.inl v : Key) = some (.int (names.idxOf v : Nat)) := by rw [h.2, if_pos hv]
theorem DN.out {kvs : List (Key × V)} {names : List Int} (h : DN kvs names) {v : Int} (hv : v ∉ names) : valV kvs (Sum.inl v : Key) = none := by rw [h.2, if_neg hv]
theorem DN.put {kvs : List (Key × V)} {names : List Int} (h : DN kvs names) {v : Int} (hv : v ∉ names) : DN (putK kvs (Sum.inl v : Key) (.int (kvs.length : Nat))) (names ++ [v]) := by
  refine ⟨?_, fun u => ?_⟩
  · rw [putK_new _ (h.out hv), List.length_append, List.length_append, h.1]
    rfl
  · rw [valV_put]
    by_cases e : u = v
    · subst e
      rw [if_pos rfl, if_pos (by simp), idx_new hv, h.1]
    · rw [if_neg (fun z => e (Sum.inl.inj z)), h.2]
      by_cases hu : u ∈ names
      · rw [if_pos hu, if_pos (List.mem_append_left _ hu), idx_append hu]
      · rw [if_neg hu, if_neg]
        intro z
        rcases List.mem_append.mp z with z | z
        · exact hu z
        · simp at z
          exact e z
end Sb

/-! len(set(xs)), xs a list of ints and texts. -/
namespace Sb
open PySem PySem.Spec PyProof.Rows L2
section
variable {prog : Program} {w : World} {A : Around} {E : Value → Shared → Prop} {s : Shared}
theorem call_set_listM {l : Addr} {items : Array Value} {xs : List Key} {Q : Value → Shared → Prop}
    (hh : A.handled = none) (hl : s.heap.IsList l items) (hi : Vals (xs.map kV) items.toList) (hn1 : xs.length ≤ 50)
    (h : ∀ (h' : Heap) (tk : Nat), h'.SetOf (mixKind prog w) s.heap.objs.size (fun k' => decide (k' ∈ uniqK (xs.take items.size))) (uniqK (xs.take items.size)).length →
      (∀ b o, b < s.heap.objs.size → s.heap.get? b = some o → h'.get? b = some o) → Q (.ref s.heap.objs.size) { s with heap := h', toks := tk }) :
    wpAny (model prog w) A (call (.type "set") [.ref l]) Q E s := by
  obtain ⟨c, tl, hmro⟩ := PySem.F.called_set.mro
  have hmade := PySem.F.called_set.made
  have hsub := PySem.F.called_set.sub
  refine wpAny_call (codeAny_of_tree ?_)
  show wpAny _ _ (callAny (.type "set") _) _ _ _
  refine wpAny_pure ⟨Code.quiet_builtin _ (by decide +kernel), codeAny_builtin PySem.F.entry_type_call ?_⟩
  rw [Around.under_plain (weight_type_call_type "set" [.ref l] []) rfl]
  have h1 := PySem.F.called_set.notType
  have h2 := PySem.F.called_set.canCreate
  have hct := PySem.F.typeCall_set_1 (.ref l)
  repeat (any_goals (first | assumption | wp_step))
  refine codeAny_mono (code_set_new_1 (.ref l) (E := E) (Q₁ := fun obj s₁ => ∃ led : Bool, obj = .ref s.heap.objs.size ∧ s₁ = { s with heap := s.heap.push { cls := .type "set", dict := none, data := .set #[] 0 (.fresh 0 0 led) } }) fun led => ⟨led, rfl, rfl⟩) fun r s₁ hr => ?_
  cases r with
  | error e => exact hr
  | ok fl =>
    cases fl with
    | ret obj =>
      obtain ⟨led, rfl, rfl⟩ := hr
      have hS : (s.heap.push { cls := .type "set", dict := none, data := .set #[] 0 (.fresh 0 0 led) }).get? s.heap.objs.size = some { cls := .type "set", dict := none, data := .set #[] 0 (.fresh 0 0 led) } := Heap.get?_push_size _ rfl
      have hT : Shared.TypeIs { s with heap := s.heap.push { cls := .type "set", dict := none, data := .set #[] 0 (.fresh 0 0 led) } } (.ref s.heap.objs.size) "set" := ⟨_, hS, rfl⟩
      have hli := PySem.F.called_set.init.lookup
      have hbi := PySem.F.called_set.init.bind (.ref s.heap.objs.size)
      repeat (any_goals (first | assumption | wp_step))
      refine codeAny_mono (codeAny_call_builtin (R := wants (fun r s₂ => r = .none ∧ ∃ h' tk, s₂ = { s with heap := h', toks := tk } ∧
          h'.SetOf (mixKind prog w) s.heap.objs.size (fun k' => decide (k' ∈ uniqK (xs.take items.size))) (uniqK (xs.take items.size)).length ∧
          (∀ b o, b < s.heap.objs.size → s.heap.get? b = some o → h'.get? b = some o)) E) PySem.F.called_set.init.plain PySem.F.entry_set_init (check_set_init_1 hT ?_)) fun r₂ s₂ hr₂ => ?_
      · obtain ⟨ol, hol, hcl, nl, hdl⟩ := hl
        obtain ⟨ocls, odict, odata, oslots⟩ := ol
        simp only at hcl hdl
        subst hcl; subst hdl
        have hol' : (s.heap.push { cls := .type "set", dict := none, data := .set #[] 0 (.fresh 0 0 led) }).get? l = some { cls := .type "list", dict := odict, data := .seq items nl, slots := oslots } := Heap.get?_push_of_some _ hol
        have hsls := PySem.F.sub_list_set
        have hslf := PySem.F.sub_list_frozenset
        have hne : (Value.type "list" == Value.type "dict") = false := by decide
        have hl1 : (s.heap.push { cls := .type "set", dict := none, data := .set #[] 0 (.fresh 0 0 led) }).IsList l items := ⟨_, hol', rfl, nl, rfl⟩
        unfold Builtin.«set.__init__» noKeywords Builtin.Frozenset.updateFrom
        generalize hPI : pyIter = PI
        wp_walk
        subst hPI
        refine wpAny_pyIter_list hl1 ?_
        refine wpAny_bind (wpAny_runValue ?_)
        have hlS : l < s.heap.objs.size := Heap.lt_size hol
        have hh3 : A.in1.in1.in1.handled = none := by simp [hh]
        have hneI : l ≠ (s.heap.push { cls := .type "set", dict := none, data := .set #[] 0 (.fresh 0 0 led) }).objs.size := by
          rw [Heap.size_push]; exact Nat.ne_of_lt (Nat.lt_succ_of_lt hlS)
        have hSf : s.heap.objs.size ∉ [(s.heap.push { cls := .type "set", dict := none, data := .set #[] 0 (.fresh 0 0 led) }).objs.size, l] := by
          rw [Heap.size_push]; simp only [List.mem_cons, List.mem_singleton, List.not_mem_nil, or_false, not_or]
          exact ⟨Nat.ne_of_lt (Nat.lt_succ_self _), Nat.ne_of_gt hlS⟩
        have hsz : xs.length = items.size := by rw [← Array.length_toList, ← hi.length, List.length_map]
        have hval : ∀ (i : Nat) (v : Value), items[i]? = some v → ∃ k, xs[i]? = some k ∧ RelV (kV k) v := fun i v hv => by
          have hlt : i < items.size := (Array.getElem?_eq_some_iff.mp hv).1
          have hlx : i < xs.length := by omega
          refine ⟨xs[i], List.getElem?_eq_getElem hlx, ?_⟩
          obtain ⟨w', hw, rw'⟩ := hi.get (i := i) (x := kV xs[i]) (by rw [List.getElem?_map, List.getElem?_eq_getElem hlx]; rfl)
          rw [Array.getElem?_toList] at hw
          rw [hv] at hw
          cases hw
          exact rw'
        refine loopMix ((Walks.list hh3 _ l hneI items).toS) s.heap.objs.size
          hSf xs hsz (by rw [← hsz]; exact hn1) hval (items.size - 0) 0 _ (by omega) (Nat.zero_le _)
          ⟨⟨_, Heap.get?_push_size _ rfl, rfl, rfl⟩, (hl1.push _)⟩ ?hS0 ?hR
        case hS0 =>
          have hget : ((s.heap.push { cls := .type "set", dict := none, data := .set #[] 0 (.fresh 0 0 led) }).push { cls := .type "list_iterator", data := .fields #[.ref l, .int 0 0] }).get? s.heap.objs.size
              = some { cls := .type "set", dict := none, data := .set #[] 0 (.fresh 0 0 led) } := Heap.get?_push_of_some _ hS
          exact ⟨_, #[], 0, _, hget, ⟨rfl, rfl, rfl⟩, rfl, (fun e he => by simp at he), (fun k => by simp [uniqK]), (by decide), (by rfl), rfl⟩
        case hR =>
          intro s' hm hS'
          obtain ⟨h', g', d', tk', os'⟩ := s'
          have eg : g' = s.gens := hm.gens
          have ed : d' = s.drawn := hm.drawn
          have eo : os' = s.os := hm.os
          subst eg; subst ed; subst eo
          show wpAny _ _ _ _ _ _
          refine wpAny_pure ?_
          show wpAny _ _ (ret Value.none) _ _ _
          refine wpAny_pure ⟨rfl, h', tk', rfl, hS', fun b o hb e => ?_⟩
          have hb1 : b ≠ s.heap.objs.size := Nat.ne_of_lt hb
          have hb2 : b ≠ (s.heap.push { cls := .type "set", dict := none, data := .set #[] 0 (.fresh 0 0 led) }).objs.size := by
            rw [Heap.size_push]; exact Nat.ne_of_lt (Nat.lt_succ_of_lt hb)
          exact hm.heap b o (by simp only [List.mem_cons, List.mem_singleton, List.not_mem_nil, or_false, not_or]; exact ⟨hb1, hb2⟩) (Heap.get?_push_of_some _ (Heap.get?_push_of_some _ e))
      · cases r₂ with
        | error e => exact hr₂
        | ok fl₂ =>
          cases fl₂ with
          | ret r =>
            obtain ⟨rfl, h', tk, rfl, hS', hk'⟩ := hr₂
            repeat (any_goals (first | assumption | wp_step))
            exact h _ _ hS' hk'
          | _ => exact hr₂.elim
    | _ => exact hr.elim
end
section
variable {X : Cx}
def tLenSetL (K : PySem.W.Frag) (ta : TE) : TE := fun σ H Q => ta σ H fun x H1 => ∃ (l : Addr) (xs : List Key), x = .ref l ∧ SqL K H1 l (xs.map kV) ∧ xs.length ≤ 50 ∧ Q (.int (uniqK xs).length) H1
theorem pe_lenSetL {a : Expr} {ta : TE} {p p2 q pos : Pos} (hc : X.calm = true) (hg : Gl X "len") (hm : X.mg "len" = none) (hg2 : Gl X "set") (hm2 : X.mg "set" = none) (ha : PE X a ta)
    (na : starEach [a] X.env = (false, eval a X.env) :: starEach [] X.env := by rfl) : PE X (.Call (.Name "len" p) [.Call (.Name "set" p2) [a] [] q] [] pos) (tLenSetL X.K ta) := by
  refine ⟨fun pins s σ H Q I h => ?_⟩
  refine Call_ (ld_blt I hg hm boot_len ?_)
  refine PyProof.Rows.callWith_builtin1 (PyProof.Rows.args_cons ?_ rfl) rfl rfl
  refine Call_ (ld_blt I hg2 hm2 boot_set ?_)
  refine PyProof.Rows.callWith_type1 (PyProof.Rows.args_cons (thn (ha.run pins s σ H _ I h) fun v s1 ⟨x, H1, I1, r1, q1⟩ => PyProof.Rows.args_nil ?_) na) na rfl
  obtain ⟨l, xs, rfl, hq, h1, q1⟩ := q1
  cases r1
  obtain ⟨its, r, pl, hz⟩ := I1.list hq
  refine call_set_listM (I1.ok.hd hc) pl.isList (by simpa using r) h1 fun h' tk hS hk => ?_
  refine PyProof.Rows.args_nil ?_
  have hl : its.toArray.size = xs.length := by rw [List.size_toArray, ← r.length, List.length_map]
  rw [hl, List.take_length] at hS
  obtain ⟨o, es, ep, t, ho, hex, hd, _, _, _, hf, hn⟩ := hS
  have I2 : L2.Inv X pins σ H1 { s1 with heap := h', toks := tk } := I1.kept fun b o e => hk b o (Heap.lt_size e) e
  have lu := (uniqK_len _ xs rfl).1
  refine call_len_set ho hex hd hf (by rw [hn] <;> omega) ⟨.int (uniqK xs).length, H1, I2.tok _, ⟨_, by rw [hn]⟩, q1⟩
end
end Sb

/-! Dicts with tuple keys: against the empty one, shown, displayed; a dict against a text. -/
namespace Sb
open PySem PySem.Spec PyProof.Rows L2
section
variable {prog : Program} {w : World} {A : Around} {E : Value → Shared → Prop} {s : Shared}
theorem samePairs_empty {nm : String} {a b : Addr} {oa ob : Obj} {es es' : Array DictEntry} {ep ep' : Nat} {Q : Bool → Shared → Prop} (ha : (a == sysModules) = false) (hb : (b == sysModules) = false)
    (hoa : s.heap.get? a = some oa) (hda : oa.data = .dict es ep) (hob : s.heap.get? b = some ob) (hdb : ob.data = .dict es' ep') (h0 : es'.size = 0) (h : Q (decide (es.size = 0)) s) :
    wpAny (model prog w) A (Builtin.Dict.samePairs nm a b) Q E s := by
  unfold Builtin.Dict.samePairs Builtin.Dict.showsAll
  rw [if_neg (show ¬ (a == sysModules) = true by rw [ha]; exact Bool.false_ne_true), if_neg (show ¬ (b == sysModules) = true by rw [hb]; exact Bool.false_ne_true)]
  refine wpAny_bind (wpAny_pure (wpAny_bind (wpAny_pure ?_)))
  refine wpAny_bind (wpAny_dictEntries hoa hda ?_)
  dsimp only
  refine wpAny_bind (wpAny_dictEntries hob hdb ?_)
  by_cases hsz : es.size = 0
  case neg =>
    rw [if_pos (by simp [h0, hsz])]
    rw [decide_eq_false hsz] at h
    exact wpAny_bind (wpAny_rule (wpAny_pure h))
  case pos =>
    rw [decide_eq_true hsz] at h
    rw [if_neg (by rw [hsz, h0]; simp)]
    refine wpAny_bind (wpAny_dictEpoch hoa hda ?_)
    refine wpAny_bind ?_
    rw [Std.Legacy.Range.forIn_eq_forIn_range']
    simp only [Std.Legacy.Range.size, Nat.sub_zero, Nat.add_sub_cancel, Nat.div_one]
    rw [hsz]
    exact wpAny_pure (wpAny_pure h)
theorem rc_dictE {neg : Bool} {a b : Addr} {oa ob : Obj} {es es' : Array DictEntry} {ep ep' : Nat} {Q : Value → Shared → Prop} (ha : (a == sysModules) = false) (hb : (b == sysModules) = false)
    (hoa : s.heap.get? a = some oa) (hca : oa.ExactDict) (hda : oa.data = .dict es ep) (hob : s.heap.get? b = some ob) (hcb : ob.ExactDict) (hdb : ob.data = .dict es' ep') (h0 : es'.size = 0) (hu : A.units < cLine) (h : Q (.bool (if neg then !decide (es.size = 0) else decide (es.size = 0))) s) :
    wpAny (model prog w) A (compareOp (if neg then .NotEq else .Eq) (.ref a) (.ref b)) Q E s := by
  have ta : s.TypeIs (.ref a) "dict" := ⟨oa, hoa, hca.1⟩
  have tb : s.TypeIs (.ref b) "dict" := ⟨ob, hob, hcb.1⟩
  cases neg with
  | false =>
    refine wpAny_richCompare_same_room (op := .Eq) ta tb PySem.F.slot_dict_eq (wpAny_call_entry PySem.F.slot_dict_eq ta PySem.F.entry_dict_eq ?_ (PySem.F.args_dict_eq_2 _ _)) hu
    show wpAny _ _ (Builtin.Dict.dictSlotArgs "__eq__" ⟨[.ref a, .ref b], []⟩ >>= _) _ _ s
    refine wpAny_bind ?_
    unfold Builtin.Dict.dictSlotArgs
    refine wpAny_bind (wpAny_notOrdered_dict ta ?_)
    show wpAny _ _ (pure (Value.ref a, Value.ref b)) _ _ s
    refine wpAny_pure ?_
    refine wpAny_bind (wpAny_isInstance (T := "dict") tb PySem.F.sub_dict_dict ?_)
    simp only [Bool.not_true, Bool.false_eq_true, if_false]
    refine wpAny_bind (wpAny_pure (wpAny_bind (wpAny_pure ?_)))
    refine wpAny_bind (samePairs_empty ha hb hoa hda hob hdb h0 ?_)
    refine wpAny_pure ⟨_, rfl, ?_, ?_⟩
    · exact fun x => nomatch x
    · simpa using h
  | true =>
    refine wpAny_richCompare_same_room (op := .NotEq) ta tb PySem.F.slot_dict_ne (wpAny_call_entry PySem.F.slot_dict_ne ta PySem.F.entry_dict_ne ?_ (PySem.F.args_dict_ne_2 _ _)) hu
    show wpAny _ _ (Builtin.Dict.dictSlotArgs "__ne__" ⟨[.ref a, .ref b], []⟩ >>= _) _ _ s
    refine wpAny_bind ?_
    unfold Builtin.Dict.dictSlotArgs
    refine wpAny_bind (wpAny_notOrdered_dict ta ?_)
    show wpAny _ _ (pure (Value.ref a, Value.ref b)) _ _ s
    refine wpAny_pure ?_
    refine wpAny_bind (wpAny_isInstance (T := "dict") tb PySem.F.sub_dict_dict ?_)
    simp only [Bool.not_true, Bool.false_eq_true, if_false]
    refine wpAny_bind (wpAny_pure (wpAny_bind (wpAny_pure ?_)))
    refine wpAny_bind (samePairs_empty ha hb hoa hda hob hdb h0 ?_)
    refine wpAny_pure ⟨_, rfl, ?_, ?_⟩
    · exact fun x => nomatch x
    · simpa using h
theorem dict_eq_str (l : Addr) (o : Obj) (b : Str) (u : Tok) {Q : Value → Shared → Prop} (ho : s.heap.get? l = some o) (hc : o.ExactDict) (hq : Q .notImplemented s) : wpAny (model prog w) A (call (.builtin "dict.__eq__") [.ref l, .str b u]) Q E s := by
  have ta : s.TypeIs (.ref l) "dict" := ⟨o, ho, hc.1⟩
  refine wpAny_call_entry PySem.F.slot_dict_eq ta PySem.F.entry_dict_eq ?_ (PySem.F.args_dict_eq_2 _ _)
  show wpAny _ _ (Builtin.Dict.dictSlotArgs "__eq__" ⟨[.ref l, .str b u], []⟩ >>= _) _ _ s
  refine wpAny_bind ?_
  unfold Builtin.Dict.dictSlotArgs
  refine wpAny_bind (wpAny_notOrdered_dict ta ?_)
  show wpAny _ _ (pure (Value.ref l, Value.str b u)) _ _ s
  refine wpAny_pure ?_
  refine wpAny_bind (wpAny_isInstance (T := "str") (typeIs_str s b u) PySem.F.sub_str_dict ?_)
  exact wpAny_bind (wpAny_rule (wpAny_pure ⟨_, rfl, hq⟩))
theorem str_eq_obj (b : Str) (u : Tok) (l : Addr) (c : Value) (es : Array DictEntry) (ep : Nat) (dd : Option Addr) (sl : Array (Option Value)) :
    Meets (Builtin.«str.__eq__» ⟨[.str b u, .ref l], []⟩) (fun _ R s => s.heap.get? l = some { cls := c, dict := dd, data := .dict es ep, slots := sl } ∧ R (.ok (.ret .notImplemented)) s) :=
  .of_wp fun prog w A R s h => by obtain ⟨hp, g, d, tk, os⟩ := s; obtain ⟨hl, h⟩ := h; wp_walk using wpAny_loadPart' hl, wpAny_load hl; exact ⟨_, rfl, h⟩
theorem rc_dict_str {l : Addr} {o : Obj} {es : Array DictEntry} {ep : Nat} (b : Str) (u : Tok) (ho : s.heap.get? l = some o) (hc : o.ExactDict) (hd : o.data = .dict es ep) (hu : A.units < cLine) {Q : Value → Shared → Prop} (h : Q (.bool false) s) : wpAny (model prog w) A (compareOp .Eq (.ref l) (.str b u)) Q E s := by
  obtain ⟨cls, dd, data, sl⟩ := o
  simp only at hd
  subst hd
  exact SeqAt.rc_eq_decline_or (k := false) ⟨_, ho, hc.1⟩ (typeIs_str s b u) (by decide) PySem.F.sub_str_dict PySem.F.slot_dict_eq PySem.F.slot_str_eq_refl
    (fun _ hq => dict_eq_str l _ b u ho hc hq)
    (fun _ hq => call_meets PySem.F.slot_str_eq_refl (typeIs_str s b u) PySem.F.entry_str_eq (PySem.F.args_str_eq_2 _ _) (str_eq_obj b u l cls es ep dd sl) ⟨ho, hq⟩)
    (fun _ hq => wpAny_of_eq (rfl : isSame (.ref l) (.str b u) = pure false) hq) (.inr hu) h
end
section
variable {X : Cx}
/-- x == {}, x != {} -/
def rDE (neg : Bool) : R2 := fun x y H Q => ∃ a b kvs, x = .ref a ∧ y = .ref b ∧ H a = some (.dT kvs) ∧ (H b = some (.dK []) ∨ H b = some (.dT [])) ∧ Q (.bl (if neg then !decide (kvs.length = 0) else decide (kvs.length = 0))) H
theorem op_dE {neg : Bool} (hu : X.A.units + 64 < cLine) : OpR X (compareOp (if neg then .NotEq else .Eq)) (rDE neg) := by
  intro pins s σ H x y v u Q I rx ry h
  obtain ⟨a, b, kvs, rfl, rfl, ha, hb, q⟩ := h
  cases rx
  cases ry
  obtain ⟨z, low, xs, rel, o, es, ep, ho, ex, hd, pr, _⟩ := dt_of I.hok ha
  have l1 : es.size = kvs.length := by
    have : es.toList.length = xs.length := by rw [pr, List.length_map]
    rw [Array.length_toList] at this
    rw [this, ← Paired.length rel]
  obtain ⟨lowb, ob, es', ep', hob, exb, hdb, l2⟩ : (b == sysModules) = false ∧ ∃ ob es' ep', s.heap.get? b = some ob ∧ ob.ExactDict ∧ ob.data = .dict es' ep' ∧ es'.size = 0 := by
    rcases hb with hb | hb
    · obtain ⟨_, low, vs, rel, o, es, ep, ho, ex, hd, _, pr, _⟩ := dk_of I.hok hb
      cases rel
      have hes : es.toList = [] := List.eq_nil_of_length_eq_zero (Pairs.length pr)
      exact ⟨low, o, es, ep, ho, ex, hd, by rw [← Array.length_toList, hes]; rfl⟩
    · obtain ⟨_, low, xs, rel, o, es, ep, ho, ex, hd, pr, _⟩ := dt_of I.hok hb
      cases rel
      have hes : es.toList = [] := pr
      exact ⟨low, o, es, ep, ho, ex, hd, by rw [← Array.length_toList, hes]; rfl⟩
  refine rc_dictE low lowb ho ex hd hob exb hdb l2 (by omega) ⟨.bl _, H, I, rfl, ?_⟩
  rw [l1]
  exact q
/-- x == text, x of any kind -/
def rEqS' : R2 := fun x y H Q => ∃ p d z, LD p H x d ∧ y = .str z ∧ Q (.bl (isStrD d z)) H
theorem op_eqS' (hu : X.A.units + 64 < cLine) : OpR X (compareOp .Eq) rEqS' := by
  intro pins s σ H x y v u Q I rx ry h
  obtain ⟨p, d, z, hx, rfl, q⟩ := h
  by_cases hd : isDctD d = false
  · exact op_eqS hu pins s σ H _ _ v u Q I rx ry ⟨p, d, z, hx, hd, rfl, q⟩
  · obtain ⟨tz, rfl⟩ := ry
    cases hx with
    | @dic a n e =>
      cases rx
      obtain ⟨_, low, vs, rel, o, es, ep, ho, ex, hdt, _⟩ := dk_of I.hok e
      exact rc_dict_str z tz ho ex hdt (by omega) ⟨.bl _, H, I, rfl, q⟩
    | @dct a n e =>
      cases rx
      obtain ⟨_, low, xs, rel, o, es, ep, ho, ex, hdt, _⟩ := dt_of I.hok e
      exact rc_dict_str z tz ho ex hdt (by omega) ⟨.bl _, H, I, rfl, q⟩
    | _ => exact absurd rfl hd
end
end Sb

/-! Dicts with tuple keys: shown; a display of one pair. -/
namespace Sb
open PySem PySem.Spec PyProof.Rows L2
def keyD : Key → PyData
  | .inl n => .int n
  | .inr s => .str s
theorem ld_keys {p : Addr} {H : Hp} : ∀ ks : List Key, LDs p H (ks.map kV) (ks.map keyD)
  | [] => .nil
  | .inl n :: r => .cons (.int n) (ld_keys r)
  | .inr s :: r => .cons (.str s) (ld_keys r)
def rowsD (R : List (List Key × PyData)) : List (PyData × PyData) := R.map fun p => (.tuple (p.1.map keyD), p.2)
section
variable {X : Cx} {pins : List (Addr × Obj)} {σ : L2.St} {H : Hp} {s : Shared}
theorem reads_rows (I : L2.Inv X pins σ H s) {p : Addr} (hp : ∀ xs, H p ≠ some (.tup xs)) : ∀ {kvs : List (List Key × V)} {R : List (List Key × PyData)} {xs : List KRow}, Paired (fun p q => p.1 = q.1 ∧ TD H p.2 q.2) kvs R → KT H kvs xs →
    (∃ as, ReadsAll s.heap (xs.map fun x => Value.ref x.2.1) ((rowsD R).map (·.1)) as ∧ sysModules ∉ as) ∧ ∃ bs, ReadsAll s.heap (xs.map fun x => x.2.2) ((rowsD R).map (·.2)) bs ∧ sysModules ∉ bs
  | _, _, _, .nil, h => by
    cases h
    exact ⟨⟨_, .nil, List.not_mem_nil⟩, ⟨_, .nil, List.not_mem_nil⟩⟩
  | _, _, _, .cons (a := u) (b := w) ab r, h => by
    cases h with
    | @cons _ x _ _ c t =>
      obtain ⟨⟨as, h1, n1⟩, ⟨bs, h2, n2⟩⟩ := reads_rows I hp r t
      have hx : H x.2.1 = some (.tup (u.1.map kV)) := c.2.1
      have nx : x.2.1 ≠ p := fun e => hp _ (e ▸ hx)
      obtain ⟨as', q1, m1⟩ := LD.reads I (.tuple (u.1.map keyD)) (.ref x.2.1) (.ref x.2.1) (.tup nx hx (ld_keys u.1)) rfl
      obtain ⟨bs', q2, m2⟩ := LD.reads I w.2 u.2 x.2.2 (TD.ld hp _ ab.2) c.2.2
      rw [ab.1] at q1
      refine ⟨⟨_, .cons q1 h1, fun z => ?_⟩, ⟨_, .cons q2 h2, fun z => ?_⟩⟩
      · rcases List.mem_append.mp z with z | z
        · exact m1 z
        · exact n1 z
      · rcases List.mem_append.mp z with z | z
        · exact m2 z
        · exact n2 z
theorem reads_dT (I : L2.Inv X pins σ H s) {a : Addr} {kvs : List (List Key × V)} {R : List (List Key × PyData)} (hd : H a = some (.dT kvs)) (hk : Paired (fun p q => p.1 = q.1 ∧ TD H p.2 q.2) kvs R) : ∃ as, Reads s.heap (.ref a) (.dict (rowsD R)) as ∧ sysModules ∉ as := by
  obtain ⟨_, low, xs, rel, o, es, ep, ho, ex, hdt, pr, _⟩ := dt_of I.hok hd
  obtain ⟨⟨as, h1, n1⟩, ⟨bs, h2, n2⟩⟩ := reads_rows I (p := a) (fun xs z => by rw [hd] at z; cases z) hk rel
  refine ⟨_, Reads.dict ho ex.1 hdt (as := as) (bs := bs) ?_ ?_, fun z => ?_⟩
  · rw [pr, List.map_map]
    exact h1
  · rw [pr, List.map_map]
    exact h2
  · have z' : sysModules = a ∨ sysModules ∈ as ∨ sysModules ∈ bs := by simpa using z
    rcases z' with z' | z' | z'
    · rw [← z'] at low
      simp at low
    · exact n1 z'
    · exact n2 z'
end
section
variable {X : Cx}
/-- repr of a dict with tuple keys -/
def rReprT : List V → Hp → VK → Prop := fun xs H Q => ∃ (a : Addr) (kvs : List (List Key × V)) (R : List (List Key × PyData)), xs = [.ref a] ∧ H a = some (.dT kvs) ∧ Paired (fun p q => p.1 = q.1 ∧ TD H p.2 q.2) kvs R ∧
  (PyData.dict (rowsD R)).showable = true ∧ (PyData.dict (rowsD R)).depth ≤ 60 ∧ (PyData.dict (rowsD R)).shown.length ≤ sizeLine ∧ Q (.str (PyData.dict (rowsD R)).shown) H
theorem call_reprT (gd : X.A.guards = some []) (hu : X.A.units + 64 < cLine) : CallR X (.builtin "repr") rReprT := by
  intro pins s σ H xs us Q I r h
  obtain ⟨a, kvs, R, rfl, ha, hk, hs, hd, hz, q⟩ := h
  obtain ⟨u, rfl, ru⟩ := vals1 r
  obtain rfl : u = Value.ref a := ru
  obtain ⟨as, rd, low⟩ := reads_dT I ha hk
  exact repr_of_reads' rd hs (fun _ => low) gd (by omega) (fun _ _ z => z) (fun h' u' tk hk => ⟨.str _, H, I.kept (fun b o z => hk b o z), ⟨_, rfl⟩, q⟩) hz
/-- {k: v}, k a tuple -/
def tDispT (tk tv : TE) : TE := fun σ H Q => ∀ p, H p = none → tk σ (upd H p (.dT [])) fun x H1 => tv σ H1 fun y H2 => ∃ k b, x = .ref b ∧ H2 b = some (.tup (k.map kV)) ∧ H2 p = some (.dT []) ∧ Q (.ref p) (upd H2 p (.dT [(k, y)]))
theorem pe_dispT {k v : Expr} {pos : Pos} {tk tv : TE} (hu : X.A.units + 1 < cLine) (hk : PE X k tk) (hv : PE X v tv) : PE X (.Dict [some k] [v] pos) (tDispT tk tv) := by
  refine ⟨fun pins s σ H Q I q => ?_⟩
  have hn := I.hok.fresh (Nat.le_refl s.heap.objs.size)
  have I1 := I.laid (a := s.heap.objs.size) (o := .dT []) (h' := s.heap.push { cls := .type "dict", data := .dict #[] }) (t' := s.toks) (fun _ _ q => Heap.get?_push_of_some _ q) (Nat.le_refl _) (dt_empty s.heap I.big)
  rw [arm_eval_Dict, zip_pairTrees [some k] [v] X.env pos rfl rfl, dictDisplay_pairs (pairTrees [some k] [v] X.env pos) (by intro z; cases z) (by rw [pairTrees_length [some k] [v] X.env pos rfl rfl]; show 1 < 17; decide)]
  refine wpAny_bind (wpAny_standAt (wpAny_bind (wpAny_subDictH (knd := tupleKind (mixKind X.prog X.w)) (Q := fun d s' => wpAny (model X.prog X.w) X.A (pure (Value.ref d)) _ _ s') (show X.A.units < cLine by omega) (by rw [pairTrees_length [some k] [v] X.env pos rfl rfl]; show 1 ≤ 15; decide) ?_)))
  refine pairTrees_cons_walk (thn (hk.run pins _ σ _ _ I1 (q _ hn)) fun u s1 ⟨x, H1, I2, rx, q1⟩ => thn (hv.run pins s1 σ H1 _ I2 q1) fun w2 s2 ⟨y, H2, I3, ry, kk, b, ex, hb, hd, q2⟩ => pairTrees_nil_walk ?_)
  subst ex
  obtain rfl : u = Value.ref b := rx
  obtain ⟨z, low, xs, rel, dd⟩ := dt_of I3.hok hd
  cases rel
  refine ⟨[(kk, b, w2)], ⟨rfl, rfl, key_of I3.hok hb, trivial⟩, dd, fun h' tk' dd' hs => wpAny_pure ⟨.ref s.heap.objs.size, _, ?_, rfl, q2⟩⟩
  obtain ⟨qo, es, ep, g1, g2, g3, g4, _, g5⟩ := dd'
  refine d_write I3 (by rw [hd]; trivial) hs ⟨qo, g1⟩ ⟨by show 1 ≤ sizeLine; decide, low, [(kk, b, w2)], .cons ⟨rfl, ?_, ry⟩ .nil, qo, es, ep, g1, g2, g3, g4, g5⟩
  rw [upd_ne (ne_of hb hd fun z => nomatch z)]
  exact hb
end
end Sb

/-! A list's display whose list is no module's table. -/
namespace Sb
open PySem PySem.Spec PyProof.Rows L2
section
variable {X : Cx}
def tLstS (t : TA) : TE := fun σ H Q => t σ H fun xs H1 => xs.length ≤ sizeLine ∧ ∀ (p : Addr), H1 p = none → p ≠ sysModules → Q (V.ref p) (upd H1 p (HO.lst xs))
theorem pe_lstS {es : List Expr} {t : TA} {pos : Pos} (h : PA X es t) : PE X (.List es pos) (tLstS t) := by
  refine ⟨fun pins s σ H Q I q => ?_⟩
  rw [arm_eval_List]
  refine wpAny_bind (wpAny_standAt (wpAny_bind (thn (h.run pos pins s σ H _ I q) fun vs s1 ⟨xs, H1, I1, r1, hz, q1⟩ => ?_)))
  have lv : vs.toArray.size = xs.length := by rw [List.size_toArray, r1.length]
  show wpAny _ _ (if vs.toArray.size > sizeLine then _ else newObjAsIs (Value.type "list") (Data.seq vs.toArray)) _ _ _
  rw [if_neg (by rw [lv]; omega)]
  unfold newObjAsIs
  refine wpAny_bind (wpAny_alloc ?_)
  refine wpAny_pure ?_
  have kp : ∀ b o, s1.heap.get? b = some o → (s1.heap.push { cls := .type "list", data := .seq vs.toArray }).get? b = some o := fun _ _ e => Heap.get?_push_of_some _ e
  exact ⟨.ref s1.heap.objs.size, _, I1.laid (t' := s1.toks) kp (Nat.le_refl _) (show ObjOk X.prog X.w _ _ _ (.lst xs) from ⟨hz, vs, _, r1, by first | rfl | exact Heap.get?_push_size _ rfl⟩), rfl, q1 _ (I1.hok.fresh (Nat.le_refl _)) (Nat.ne_of_gt I1.big)⟩
/-- l != [] -/
def rNeL0 : R2 := fun x y H Q => ∃ a b xs, x = .ref a ∧ y = .ref b ∧ H a = some (.lst xs) ∧ H b = some (.lst []) ∧ Q (.bl (!xs.isEmpty)) H
theorem op_neL0 (hu : X.A.units + 64 < cLine) : OpR X (compareOp .NotEq) rNeL0 := by
  intro pins s σ H x y v u Q I rx ry h
  obtain ⟨a, b, xs, rfl, rfl, ha, hb, q⟩ := h
  cases rx
  cases ry
  obtain ⟨its, r1, t1, _⟩ := I.list (SqL.of (K := X.K) ha)
  obtain ⟨its2, r2, t2, _⟩ := I.list (SqL.of (K := X.K) hb)
  cases r2
  cases xs with
  | nil =>
    cases r1
    refine SeqAt.RcNeAt.lists (e := fun _ => true) t1.isList t2.isList rfl (by omega) (fun j _ h2 => absurd h2 (Nat.not_lt_zero _)) X.prog X.w X.xe (EP X pins σ Q) ⟨.bl _, H, I, rfl, q⟩
  | cons z zs =>
    cases r1
    refine SeqAt.RcNeAt.lists_lengths t1.isList t2.isList (by rfl) (by omega) X.prog X.w X.xe (EP X pins σ Q) ⟨.bl _, H, I, rfl, q⟩
end
end Sb

/-! Dicts with tuple keys: del, pop, clear. -/
namespace Sb
open PySem PySem.Spec PyProof.Rows L2
theorem meetsDelT {K : Type} [DecidableEq K] {prog : Program} {w : World} {knd : HeapKind prog w K} {d b : Addr} {k : K} :
    MeetsIn prog w (Builtin.«dict.__delitem__» ⟨[.ref d, .ref b], []⟩) fun A R s => ∃ xs p, knd.room A.in1 ∧ knd.is s.heap k b ∧ Heap.DictOfH knd s.heap d xs ∧ xs.length ≤ sizeLine ∧ atKey xs k = some p ∧
      ∀ (h' : Heap) (tk : Nat), Heap.DictOfH knd h' d (DT.dropH xs k) → Heap.SameBut d s.heap h' → R (.ok (.ret .none)) { s with heap := h', toks := tk } :=
  MeetsIn.of_wp fun A R s ⟨xs, p, hu, hk, hm, hz, hp, q⟩ => by
    show wpAny _ _ (Builtin.Dict.dictSlotArgs "__delitem__" ⟨[.ref d, .ref b], []⟩ >>= _) _ _ s
    refine wpAny_bind ?_
    unfold Builtin.Dict.dictSlotArgs
    refine wpAny_bind (wpAny_notOrdered_dict (Heap.DictOfH.typeIs hm) ?_)
    show wpAny _ _ (pure (Value.ref d, Value.ref b)) _ _ s
    refine wpAny_pure ?_
    refine wpAny_bind (wpAny_pure ?_)
    refine wpAny_bind (DT.takeH hu hk hm hz (fun z => by rw [hp] at z; cases z) fun p' e hp' ev h' dd sb => ?_)
    refine wpAny_bind (wpAny_letGo ?_)
    exact wpAny_pure ⟨_, rfl, q _ _ dd sb⟩
theorem meetsPop1 {K : Type} [DecidableEq K] {prog : Program} {w : World} {knd : HeapKind prog w K} {d b : Addr} {k : K} :
    MeetsIn prog w (Builtin.«dict.pop» ⟨[.ref d, .ref b], []⟩) fun A R s => ∃ xs p, (d == sysModules) = false ∧ knd.room A.in1 ∧ knd.is s.heap k b ∧ Heap.DictOfH knd s.heap d xs ∧ xs.length ≤ sizeLine ∧ atKey xs k = some p ∧
      ∀ (h' : Heap) (tk : Nat), Heap.DictOfH knd h' d (DT.dropH xs k) → Heap.SameBut d s.heap h' → R (.ok (.ret p.2)) { s with heap := h', toks := tk } :=
  MeetsIn.of_wp fun A R s ⟨xs, p, hd, hu, hk, hm, hz, hp, q⟩ => by
    show wpAny _ _ (Builtin.Dict.keyAndDefault "pop" ⟨[.ref d, .ref b], []⟩ >>= _) _ _ s
    refine wpAny_bind ?_
    unfold Builtin.Dict.keyAndDefault
    refine wpAny_bind (wpAny_notOrdered_dict (Heap.DictOfH.typeIs hm) ?_)
    show wpAny _ _ (pure (d, Value.ref b, none)) _ _ s
    refine wpAny_pure ?_
    have hm2 := hm
    obtain ⟨o, es, ep, ho, hc, hdat, he, _, hn⟩ := hm2
    have hes := size_of_entries he
    have hx : xs ≠ [] := fun z => by
      rw [z] at hp
      cases hp
    have hne : es.isEmpty = false := by
      have : 0 < xs.length := List.length_pos_iff.mpr hx
      rw [Array.isEmpty_eq_false_iff]
      intro z
      rw [z] at hes
      simp at hes
      omega
    show wpAny _ _ (dictEntries d >>= _) _ _ s
    refine wpAny_bind (wpAny_dictEntries ho hdat (wpAny_bind (wpAny_pure ?_)))
    simp only [hne, Bool.false_eq_true, if_false]
    refine wpAny_bind (DT.takeH hu hk hm hz (fun z => by rw [hp] at z; cases z) fun p' e hp' ev h' dd sb => ?_)
    have ep' : p = p' := Option.some.inj (hp.symm.trans hp')
    subst ep'
    simp only [Option.isNone_some, Bool.false_eq_true, if_false]
    refine wpAny_bind (wpAny_letGo ?_)
    exact wpAny_pure ⟨_, rfl, by rw [ev]; exact q _ _ dd sb⟩
theorem meetsClearT {K : Type} [DecidableEq K] {prog : Program} {w : World} {knd : HeapKind prog w K} {d : Addr} :
    MeetsIn prog w (Builtin.«dict.clear» ⟨[.ref d], []⟩) fun A R s => ∃ xs, Heap.DictOfH knd s.heap d xs ∧
      ∀ (h' : Heap), Heap.DictOfH knd h' d [] → Heap.SameBut d s.heap h' → R (.ok (.ret .none)) { s with heap := h' } :=
  MeetsIn.of_wp fun A R s ⟨xs, hm, q⟩ => by
    show wpAny _ _ (Builtin.Dict.noArgs "clear" ⟨[.ref d], []⟩ >>= _) _ _ s
    refine wpAny_bind ?_
    unfold Builtin.Dict.noArgs
    refine wpAny_bind (wpAny_notOrdered_dict (Heap.DictOfH.typeIs hm) ?_)
    show wpAny _ _ (pure d) _ _ s
    refine wpAny_pure ?_
    obtain ⟨o, es, ep, ho, hc, hdat, he, hk, hn⟩ := hm
    refine wpAny_bind (wpAny_dictEntries ho hdat ?_)
    unfold bearsInstanceDictMark
    refine wpAny_bind (wpAny_bind (wpAny_load ho (wpAny_pure ?_)))
    refine wpAny_bind (wpAny_updateDictKeysTo ho hdat ?_ (Nat.zero_le _))
    have fin : R (.ok (.ret .none)) { s with heap := s.heap.update d (Obj.mapDictKeys fun _ => #[]) } := by
      obtain ⟨cls, dd, data, sl⟩ := o
      have e : data = .dict es ep := hdat
      subst e
      refine q _ ⟨Obj.mapDictKeys (fun _ => #[]) ⟨cls, dd, .dict es ep, sl⟩, #[], ep + 1, Heap.get?_update_self _ ho rfl, hc, rfl, rfl, (fun x z => by cases z), List.nodup_nil⟩ ⟨?_, fun b nb => Heap.get?_update_other _ _ (fun e => nb e.symm)⟩
      exact Heap.size_update _ _ _
    dsimp only
    split
    · exact wpAny_bind (wpAny_letGo (wpAny_pure ⟨_, rfl, fin⟩))
    · exact wpAny_pure ⟨_, rfl, fin⟩
section
variable {X : Cx}
/-- del d[k], k a tuple -/
def sDDelT (td ty : TE) : TS := fun D σ H => td σ H fun x H1 => ty σ H1 fun y H2 => ∃ a kvs k b, x = .ref a ∧ H2 a = some (.dT kvs) ∧ y = .ref b ∧ H2 b = some (.tup (k.map kV)) ∧ (valV kvs k).isSome = true ∧ D.nx σ (upd H2 a (.dT (dropK kvs k)))
theorem dt_drop {pins : List (Addr × Obj)} {σ : L2.St} {H : Hp} {s : Shared} {a : Addr} {kvs : List (List Key × V)} {k : List Key} {xs : List KRow} {h' : Heap} {tk : Nat} (I : L2.Inv X pins σ H s) (e : H a = some (.dT kvs)) (rel : KT H kvs xs) (dd : Heap.DictOfH (tupleKind (mixKind X.prog X.w)) h' a (DT.dropH xs k)) (hs : Heap.SameBut a s.heap h') :
    L2.Inv X pins σ (upd H a (.dT (dropK kvs k))) { s with heap := h', toks := tk } := by
  obtain ⟨z, hd, _, _, _⟩ := dt_of I.hok e
  have hq := dd
  obtain ⟨o, es, ep, h1, h2, h3, h4, h5, h6⟩ := hq
  refine d_write I (by rw [e]; trivial) hs ⟨o, h1⟩ ⟨Nat.le_trans (dropK_le kvs k) z, hd, DT.dropH xs k, KT.keeps (DX.KT_drop k rel) fun c ys ec => ?_, o, es, ep, h1, h2, h3, h4, h6⟩
  rw [upd_ne (ne_of ec e fun z => nomatch z)]
  exact ec
theorem at_of {H : Hp} {kvs : List (List Key × V)} {k : List Key} {xs : List KRow} (rel : KT H kvs xs) (h : (valV kvs k).isSome = true) : ∃ p v, atKey xs k = some p ∧ valV kvs k = some v ∧ L2.RelV v p.2 := by
  have r := KT.val rel k
  cases ev : valV kvs k with
  | none => rw [ev] at h; cases h
  | some v =>
    rw [ev] at r
    cases hp : atKey xs k with
    | none => rw [hp] at r; exact r.elim
    | some p =>
      rw [hp] at r
      exact ⟨p, v, rfl, rfl, r⟩
theorem ps_ddelT {o i : Expr} {pos tpos : Pos} {td ty : TE} (hu : X.A.units + 1 < cLine) (ho : PE X o td) (hi : PE X i ty) : PS X (.Delete [.Subscript o i tpos] pos) (sDDelT td ty) := by
  refine ⟨fun pins s σ H D I h => ?_⟩
  refine wpAny_Delete (wpAny_deleteEach_cons (wpAny_delete_Subscript (thn (ho.run pins s σ H _ I h) fun u s1 ⟨x, H1, I1, rx, q1⟩ => thn (hi.run pins s1 σ H1 _ I1 q1) fun iv s2 ⟨y, H2, I2, ry, a, kvs, k, b, ex, e, ey, eb, l, q2⟩ => ?_)))
  subst ex ey
  obtain rfl : u = Value.ref a := rx
  obtain rfl : iv = Value.ref b := ry
  obtain ⟨z, hd, xs, rel, dd⟩ := dt_of I2.hok e
  obtain ⟨p, v, hp, ev, rv⟩ := at_of rel l
  refine wpAny_delItem_slot (Heap.DictOfH.typeIs dd) (by decide) PySem.F.slot_dict_delitem (call_meetsIn PySem.F.slot_dict_delitem (Heap.DictOfH.typeIs dd) PySem.F.entry_dict_delitem (PySem.F.args_dict_delitem_2 _ _) meetsDelT ⟨xs, p, tupleKind_room_in1 hu, key_of I2.hok eb, dd, by rw [← Paired.length rel]; exact z, hp, fun h' tk dd' hs => ?_⟩)
  exact wpAny_deleteEach_nil ⟨σ, _, dt_drop I2 e rel dd' hs, q2⟩
/-- d.pop(k), k a tuple that is there -/
def rPop1 : V → List V → Hp → VK → Prop := fun x xs H Q => ∃ (a : Addr) (kvs : List (List Key × V)) (k : List Key) (b : Addr) (v : V), x = .ref a ∧ xs = [.ref b] ∧ H a = some (.dT kvs) ∧ H b = some (.tup (k.map kV)) ∧ valV kvs k = some v ∧ Q v (upd H a (.dT (dropK kvs k)))
theorem mt_pop1T (hu : X.A.units + 1 < cLine) : MtR X "dict.pop" rPop1 := by
  intro pins s σ H x xs v us Q I rx rxs h
  obtain ⟨a, kvs, k, b, v0, rfl, rfl, ha, hb, ev, q⟩ := h
  obtain ⟨u, rfl, ru⟩ := vals1 rxs
  obtain rfl : u = Value.ref b := ru
  obtain rfl : v = Value.ref a := rx
  obtain ⟨z, hd, xs', rel, dd⟩ := dt_of I.hok ha
  obtain ⟨p, v1, hp, ev1, rv⟩ := at_of rel (by rw [ev]; rfl)
  rw [ev] at ev1
  obtain rfl : v0 = v1 := Option.some.inj ev1
  refine call_meetsIn PySem.F.slot_dict_pop (Heap.DictOfH.typeIs dd) PySem.F.entry_dict_pop (PySem.F.args_dict_pop_2 _ _) meetsPop1 ⟨xs', p, hd, tupleKind_room_in1 hu, key_of I.hok hb, dd, by rw [← Paired.length rel]; exact z, hp, fun h' tk dd' hs => ?_⟩
  exact ⟨v0, _, dt_drop I ha rel dd' hs, rv, q⟩
/-- d.clear() -/
def rClearT : V → List V → Hp → VK → Prop := fun x xs H Q => ∃ (a : Addr) (kvs : List (List Key × V)), x = .ref a ∧ xs = [] ∧ H a = some (.dT kvs) ∧ Q .non (upd H a (.dT []))
theorem mtd_clearT : MtR X "dict.clear" rClearT := by
  intro pins s σ H x xs v us Q I rx rxs h
  obtain ⟨a, kvs, rfl, rfl, ha, q⟩ := h
  cases rxs
  obtain rfl : v = Value.ref a := rx
  obtain ⟨z, hd, xs', rel, dd⟩ := dt_of I.hok ha
  refine call_meetsIn PySem.F.slot_dict_clear (Heap.DictOfH.typeIs dd) PySem.F.entry_dict_clear (PySem.F.args_dict_clear_1 _) meetsClearT ⟨xs', dd, fun h' dd' hs => ?_⟩
  obtain ⟨o, es, ep, h1, h2, h3, h4, _, h6⟩ := dd'
  exact ⟨.non, _, d_write (ob := .dT []) I (by rw [ha]; trivial) hs ⟨o, h1⟩ ⟨Nat.zero_le _, hd, [], .nil, o, es, ep, h1, h2, h3, h4, h6⟩, rfl, q⟩
end
end Sb

/-! sorted(keys, key=f), the keys tuples in a list. -/
namespace Sb
open PySem PySem.Spec PyProof.Rows L2
open PySem.W (EachIs KeyPure KeepsBut dataLe AllAlike Sortable)
theorem vals_refs' : ∀ {bs : List Addr} {its : List Value}, Vals (bs.map V.ref) its → its = bs.map Value.ref
  | [], _, h => by cases h; rfl
  | b :: r, _, h => by
    cases h with
    | cons a t =>
      rw [vals_refs' t]
      have : _ = Value.ref b := a
      rw [this]
      rfl
theorem ks_rows {H : Hp} : ∀ {kk : List (List Key)} {bs : List Addr}, IsKs H kk bs → ∃ ks : List KRow, ks.map (·.1) = kk ∧ (ks.map fun x => x.2.1) = bs ∧ ∀ x ∈ ks, H x.2.1 = some (.tup (x.1.map kV))
  | _, _, .nil => ⟨[], rfl, rfl, fun _ z => by cases z⟩
  | _, _, .cons (a := k) (b := b) h r => by
    obtain ⟨ks, e1, e2, e3⟩ := ks_rows r
    refine ⟨(k, b, Value.none) :: ks, by rw [List.map_cons, e1], by rw [List.map_cons, e2], fun x hx => ?_⟩
    rcases List.mem_cons.mp hx with rfl | hx
    · exact h
    · exact e3 x hx
def rSortTL (f : Addr) (rank : List Key → List Int) (ok : List Key → Prop) : List V → List V → Hp → VK → Prop := fun xs zs H Q => ∃ (l : Addr) (kk : List (List Key)) (bs : List Addr), xs = [.ref l] ∧ zs = [.ref f] ∧ H l = some (.lst (bs.map V.ref)) ∧ IsKs H kk bs ∧ (∀ k ∈ kk, ok k) ∧
  ∀ p cs, H p = none → IsKs H (srt rank kk) cs → Q (.ref p) (upd H p (.lst (cs.map V.ref)))
theorem call_sortTL {X : Cx} {f : Addr} {rank : List Key → List Int} {ok : List Key → Prop} {k0 : Nat} (hc : X.calm = true) (hr : Room (k0 + 1) X.A) (F : KeyFn X f rank ok) : CallRK X (.builtin "sorted") ["key"] (rSortTL f rank ok) := by
  intro pins s σ H xs zs us ws Q I r rz h
  obtain ⟨d, kk, bs, rfl, rfl, hd, hik, hok, q⟩ := h
  obtain ⟨u, rfl, rx⟩ := vals1 r
  obtain ⟨u2, rfl, rx2⟩ := vals1 rz
  obtain rfl : u = Value.ref d := rx
  obtain rfl : u2 = Value.ref f := rx2
  obtain ⟨ks, ek, eb, hks⟩ := ks_rows hik
  obtain ⟨its, rv0, pl, hz⟩ := I.list (SqL.of (K := X.K) hd)
  have lk : ks.length = bs.length := by rw [← eb, List.length_map]
  have hz0 : bs.length ≤ sizeLine := by
    rw [List.length_map] at hz
    exact hz
  have hz1 : ks.length ≤ sizeLine := lk ▸ hz0
  show wpAny _ _ (call (.builtin "sorted") [.ref d] [(Str.ofString "key", .ref f)]) _ _ _
  refine PyProof.Rows.call_function_entry_kw PyProof.Rows.kind_sorted PyProof.Rows.plain_sorted PyProof.Rows.entry_sorted (PyProof.Rows.ksk_s1 _ _) ?_
  unfold Builtin.«sorted»
  refine wpAny_bind (m := checkCount "sorted" 1 1 _) ?_
  apply wpAny_pure
  have ea : its.toArray.toList = ks.map fun x => Value.ref x.2.1 := by
    have : its = bs.map Value.ref := vals_refs' rv0
    rw [this, ← eb, List.map_map]
    rfl
  obtain ⟨o, ho, hcl, n, hdt⟩ := pl.isList
  refine wpAny_bind (wpAny_collect_seq (A := X.A.in1) d (.inl rfl) ho hcl hdt (fun h' kp => ?_) (by rw [← Array.length_toList, ea, List.length_map, lk]; exact hz0))
  generalize its.toArray = acc at ea ⊢
  generalize s.toks = tk
  have la : acc.toList.length = ks.length := by rw [ea, List.length_map]
  have I1 : Inv X pins σ H { s with heap := h', toks := tk } := I.kept kp
  refine wpAny_bind (wpAny_newList ?_ (by omega))
  have hoL : (h'.push (seqObj "list" acc.toList.toArray 0)).get? h'.objs.size = some (seqObj "list" acc.toList.toArray 0) := Heap.get?_push_size _ rfl
  have up : ∀ c o, h'.get? c = some o → (h'.push (seqObj "list" acc.toList.toArray 0)).get? c = some o := fun c o e => Heap.get?_push_of_some _ e
  show wpAny _ _ _ _ _ { s with heap := h'.push (seqObj "list" acc.toList.toArray 0), toks := tk }
  refine wpAny_bind (wpAny_holding (wpAny_call_entry_kw PyProof.Rows.slot_list_sort ⟨_, hoL, rfl⟩ PyProof.Rows.entry_list_sort ?body (PyProof.Rows.ksk_l1 _ _)))
  rw [PyProof.Rows.ksk_t1]
  have each : EachIs (fun (v : Value) (x : KRow) => v = .ref x.2.1) acc.toList ks := by rw [ea]; exact each_refs ks
  have ne : ∀ {c : Addr} {o : Obj}, h'.get? c = some o → c ≠ h'.objs.size := fun e => Nat.ne_of_lt (Heap.lt_size e)
  refine PySem.W.keyH_tree (kz := ks.map fun x => PyData.tuple ((rank x.1).map .int)) (s := { s with heap := h'.push (seqObj "list" acc.toList.toArray 0), toks := tk }) hoL (by rw [List.length_map, la]) (by omega)
    (AllAlike.of fun a b => alike_rows _ _) (Sortable.tuples fun b => ?_) ?_ (PySem.W.keyH_turns (s := { s with heap := h'.push (seqObj "list" acc.toList.toArray 0), toks := tk }) each fun v x hR hxk h2 tk2 kp2 => ?_) fun h3 tk3 out c kp3 hD ko => ?_
  · obtain ⟨x, r, e⟩ := F.some_ b.1
    exact ⟨_, _, by rw [e]; rfl⟩
  · intro dd hdd
    obtain ⟨x, _, rfl⟩ := List.mem_map.mp hdd
    have dp : PyData.depth (.tuple ((rank x.1).map PyData.int)) = 1 := by
      show PyData.depthAll _ + 1 = 1
      rw [PySem.W.depth_ints]
    rw [dp]
    have := hr.un
    show X.A.units + 1 + 1 + 1 < cLine
    omega
  · rw [hR]
    obtain ⟨_, its, rv, it1⟩ := (show ObjOk X.prog X.w H h' x.2.1 (.tup (x.1.map kV)) from I1.hok _ _ (hks x hxk))
    have k2 : ∀ c o, h'.get? c = some o → h2.get? c = some o := fun c o e => kp2 c o (ne e) (up c o e)
    refine F.run { s with heap := h2, toks := tk2 } _ x.2.1 its x.1 (I1.kIn.keeps k2) ((I1.mod.glob.keeps I1.bk).keeps k2) (I1.nolimit.keeps k2) ?_ ?_ (hok _ (by rw [← ek]; exact List.mem_map.mpr ⟨x, hxk, rfl⟩)) rv ?_
    · have := hr.dp
      show X.A.depth + 1 < recursionLimit
      omega
    · exact I.ok.hd hc
    · obtain ⟨ob, h1, r⟩ := it1
      exact ⟨ob, k2 _ _ h1, r⟩
  · have eo := PySem.W.keyedOut_each (fun x : KRow => PyData.tuple ((rank x.1).map .int)) ko each
    have lo2 := ko.length (by rw [List.length_map, la])
    rw [le_rows] at eo
    have er := refs_each eo
    have hmem : ∀ x ∈ ks.mergeSort (fun p q => decide (rank p.1 ≤ rank q.1)), H x.2.1 = some (.tup (x.1.map kV)) := fun x hx => hks x ((List.mergeSort_perm ks _).mem_iff.mp hx)
    have em : (ks.mergeSort (fun p q => decide (rank p.1 ≤ rank q.1))).map (·.1) = srt rank kk := by
      unfold srt
      rw [← ek]
      exact List.map_mergeSort fun a _ b _ => rfl
    have isk := isKs_of hmem
    rw [em] at isk
    have keep3 : ∀ b o, h'.get? b = some o → h3.get? b = some o := fun b o e => kp3 b o (ne e) (up b o e)
    have rv : Vals (((ks.mergeSort (fun p q => decide (rank p.1 ≤ rank q.1))).map fun x => x.2.1).map V.ref) out := by
      rw [er]
      exact vals_refs _
    have hz : (((ks.mergeSort (fun p q => decide (rank p.1 ≤ rank q.1))).map fun x => x.2.1).map V.ref).length ≤ sizeLine := by
      rw [rv.length]
      omega
    refine ⟨_, rfl, ?_⟩
    apply wpAny_pure
    refine ⟨_, rfl, .ref h'.objs.size, _, I1.laid (t' := tk3) (o := .lst (((ks.mergeSort (fun p q => decide (rank p.1 ≤ rank q.1))).map fun x => x.2.1).map V.ref)) keep3 (Nat.le_refl _) ⟨hz, out, c, rv, hD⟩, rfl, q _ _ (I1.hok.fresh (Nat.le_refl _)) isk⟩
end Sb

/-! list(d.items()), the keys tuples. -/
namespace Sb
open PySem PySem.Spec PyProof.Rows L2
theorem tds_get {H : Hp} : ∀ {as : List Addr} {R : List PyData}, as.length = R.length → (∀ (j : Nat) (a : Addr) (d : PyData), as[j]? = some a → R[j]? = some d → TD H (.ref a) d) → TDs H (as.map V.ref) R
  | [], [], _, _ => .nil
  | [], _ :: _, h, _ => by cases h
  | _ :: _, [], h, _ => by cases h
  | a :: as, d :: R, h, g => .cons (g 0 a d rfl rfl) (tds_get (Nat.succ.inj h) fun j a d h1 h2 => g (j + 1) a d h1 h2)
theorem tds_keys {H : Hp} : ∀ ks : List Key, TDs H (ks.map kV) (ks.map keyD)
  | [] => .nil
  | .inl n :: r => .cons (.int n) (tds_keys r)
  | .inr s :: r => .cons (.str s) (tds_keys r)
def itemD (r : List Key × PyData) : PyData := .tuple [.tuple (r.1.map keyD), r.2]
section
variable {X : Cx}
def rListItT : List V → Hp → VK → Prop := fun xs H Q => ∃ (p a : Addr) (kvs : List (List Key × V)) (R : List (List Key × PyData)), xs = [.ref p] ∧ H p = some (DX.itemsO p a) ∧ H a = some (.dT kvs) ∧ Paired (fun p q => p.1 = q.1 ∧ TD H p.2 q.2) kvs R ∧
  ∀ (l : Addr) (as : List Addr) H', Same H H' → H l = none → H' l = some (.lst (as.map V.ref)) → TDs H' (as.map V.ref) (R.map itemD) → Q (.ref l) H'
theorem call_listItT (hc : X.calm = true) : CallR X (.type "list") rListItT := by
  intro pins s σ H xs us Q I r h
  obtain ⟨p, a, kvs, R, rfl, hp, ha, hkv, q⟩ := h
  obtain ⟨u, rfl, ru⟩ := vals1 r
  obtain rfl : u = Value.ref p := ru
  have view : s.heap.IsItemsView p a := (show ObjOk X.prog X.w H s.heap p (DX.itemsO p a) from I.hok p _ hp).1
  obtain ⟨z, hd, xs', rel, o, es, ep, ho, hx, hdat, hes, his, hn⟩ := dt_of I.hok ha
  have l1 : kvs.length = xs'.length := Paired.length rel
  have l2 : es.size = xs'.length := size_of_entries hes
  have l3 : kvs.length = R.length := Paired.length hkv
  refine PySem.W.dil_call (I.ok.hd hc) view ⟨o, ho, hx, hdat⟩ (by rw [l2, ← l1]; exact z) fun h' tk acc c as hk hl las G eacc => ?_
  have lak : as.length = kvs.length := by omega
  have nd : as.Nodup := G.rise.imp fun h => Nat.ne_of_lt h
  have hz : (as.map V.ref).length ≤ sizeLine := by rw [List.length_map, lak]; exact z
  have I1 : L2.Inv X pins σ (upd H s.heap.objs.size (.lst (as.map V.ref))) { s with heap := h', toks := tk } := I.laid (t' := tk) hk (Nat.le_refl _) (show ObjOk X.prog X.w _ h' _ (.lst (as.map V.ref)) from ⟨hz, as.map Value.ref, c, vals_refs _, by
    rw [hl]
    have : acc = (as.map Value.ref).toArray := by
      apply Array.ext'
      rw [eacc]
    rw [this]⟩)
  have nS : H s.heap.objs.size = none := I.hok.fresh (Nat.le_refl _)
  have row : ∀ (j : Nat) (b : Addr), as[j]? = some b → ∃ (kv : List Key × V) (r : List Key × PyData) (x : KRow), kvs[j]? = some kv ∧ R[j]? = some r ∧ xs'[j]? = some x ∧ kv.1 = r.1 ∧ TD H kv.2 r.2 ∧ kv.1 = x.1 ∧ H x.2.1 = some (.tup (kv.1.map kV)) ∧ L2.RelV kv.2 x.2.2 ∧ h'.get? b = some { cls := .type "tuple", data := .seq #[.ref x.2.1, x.2.2] } := by
    intro j b hj
    obtain ⟨hj1, hg⟩ := G.pairs j b hj
    have hx1 : j < xs'.length := by omega
    have hxj := List.getElem?_eq_getElem hx1
    obtain ⟨kv, hkj, e1, e2, e3⟩ := DX.pget rel hxj
    have hrj : j < R.length := by omega
    have hR := List.getElem?_eq_getElem hrj
    obtain ⟨kv', hkj', e4, e5⟩ := DX.pget hkv hR
    have : kv' = kv := Option.some.inj (hkj'.symm.trans hkj)
    subst this
    have e6 := entry_at hes j
    rw [hxj, Array.getElem?_eq_getElem hj1] at e6
    have e7 : es[j] = entryOfKey (tupleKind (mixKind X.prog X.w)) xs'[j] := Option.some.inj e6
    rw [e7] at hg
    exact ⟨kv', R[j], xs'[j], hkj, hR, hxj, e4, e5, e1, e2, e3, hg⟩
  obtain ⟨H2, I2, k2, t2⟩ := DX.takeT (P := fun b vs => ∃ (j : Nat) (kv : List Key × V) (r : List Key × PyData) (x : Addr), as[j]? = some b ∧ kvs[j]? = some kv ∧ R[j]? = some r ∧ kv.1 = r.1 ∧ TD H kv.2 r.2 ∧ H x = some (.tup (kv.1.map kV)) ∧ vs = [V.ref x, kv.2]) I as _ I1 nd (fun b hb => by
    obtain ⟨j, hj⟩ := List.mem_iff_getElem?.mp hb
    have lt : s.heap.objs.size < b := G.above b hb
    obtain ⟨kv, r, x, e1, e2, e3, e4, e5, e6, e7, e8, e9⟩ := row j b hj
    refine ⟨Nat.le_of_lt lt, ?_, [V.ref x.2.1, kv.2], ⟨j, kv, r, x.2.1, hj, e1, e2, e4, e5, e7, rfl⟩, fun H2 => ⟨by show 2 ≤ sizeLine; decide, [.ref x.2.1, x.2.2], .cons rfl (.cons e8 .nil), _, e9, rfl, _, rfl⟩⟩
    rw [upd_ne (Nat.ne_of_gt lt)]
    exact I.hok.fresh (Nat.le_of_lt lt))
  have sm : Same H H2 := fun b o e => k2 b o (by rw [upd_ne (ne_of_none e nS)]; exact e)
  refine ⟨.ref s.heap.objs.size, H2, I2, rfl, q _ as H2 sm nS (k2 _ _ upd_same) (tds_get (by rw [List.length_map, lak, l3]) fun j b d hj hd => ?_)⟩
  obtain ⟨vs, ⟨j', kv, r, x, f1, f2, f3, f4, f5, f6, rfl⟩, hb2⟩ := t2 b (List.mem_of_getElem? hj)
  have ej : j' = j := by
    have h1 := (List.getElem?_eq_some_iff.mp f1)
    have h2 := (List.getElem?_eq_some_iff.mp hj)
    obtain ⟨a1, a2⟩ := h1
    obtain ⟨b1, b2⟩ := h2
    exact (List.getElem_inj nd).mp (a2.trans b2.symm)
  subst ej
  rw [List.getElem?_map, f3] at hd
  obtain rfl : itemD r = d := Option.some.inj hd
  refine .tup hb2 (.cons (.tup (sm _ _ f6) ?_) (.cons (f5.mono (Tups.same sm)) .nil))
  rw [f4]
  exact tds_keys _
end
end Sb

/-! for k, v in d.items(), the keys tuples. -/
namespace Sb
open PySem PySem.Spec PyProof.Rows L2
def Itit (d : Addr) (o : Obj) (kvs : List (List Key × V)) : It where
  go i H := H d = some (.frz o (.dT kvs)) ∧ i < kvs.length
  yld i H x H' := ∃ T k v q, kvs[i]? = some (k, v) ∧ x = V.ref T ∧ H q = some (.tup (k.map kV)) ∧ H T = none ∧ H' = upd H T (.tup [.ref q, v])
  stop i H := H d = some (.frz o (.dT kvs)) ∧ kvs.length ≤ i
theorem frzT' {X : Cx} {pins : List (Addr × Obj)} {σ : L2.St} {H : Hp} {s : Shared} {d : Addr} {o : Obj} {kvs : List (List Key × V)} (I : L2.Inv X pins σ H s) (hd : H d = some (.frz o (.dT kvs))) :
    s.heap.get? d = some o ∧ o.ExactDict ∧ (d == sysModules) = false ∧ ∃ es ep, o.data = .dict es ep ∧ es.size = kvs.length ∧ ∀ (i : Nat) (k : List Key) (v : V), kvs[i]? = some (k, v) → ∃ en q, es[i]? = some en ∧ en.key = Value.ref q ∧ H q = some (.tup (k.map kV)) ∧ L2.RelV v en.val := by
  have x : ObjOk X.prog X.w H s.heap d (.frz o (.dT kvs)) := I.hok d _ hd
  simp only [ObjOk] at x
  obtain ⟨h1, z, h2, xs, rel, o', es, ep, h3, h4, h5, h6, h7⟩ := x
  have eo : o' = o := Option.some.inj (h3.symm.trans h1)
  subst eo
  have l1 : kvs.length = xs.length := Paired.length rel
  refine ⟨h1, h4, h2, es, ep, h5, by rw [size_of_entries h6, l1], fun i k v hi => ?_⟩
  have lt : i < xs.length := by
    have := (List.getElem?_eq_some_iff.mp hi).1
    omega
  have hx := List.getElem?_eq_getElem lt
  obtain ⟨kv, hk, e1, e2, e3⟩ := DX.pget rel hx
  have ek : kv = (k, v) := Option.some.inj (hk.symm.trans hi)
  subst ek
  have e6 := entry_at h6 i
  rw [hx] at e6
  exact ⟨_, xs[i].2.1, e6, rfl, e2, e3⟩
theorem turn_itemsT {P : Program} {w : World} {K : PySem.W.Frag} {d : Addr} {o : Obj} {es : Array DictEntry} {ep : Nat} {kvs : List (List Key × V)} {elts : List Expr} {kk : Nat} {tpos : Pos} (it : Addr) (hod : o.data = .dict es ep) :
    Turn P w K (.Tuple elts kk tpos) (Itit d o kvs) [it] it fun i h => ∃ ok ov, IsItemIter h it d i kvs.length ep ok ov where
  mem := List.mem_cons_self
  obj := fun i h ⟨ok, ov, e⟩ b hb => by
    obtain rfl : b = it := by simpa using hb
    exact ⟨_, e, fun v z => nomatch z⟩
  keep := fun i h h' ⟨ok, ov, e⟩ k => ⟨ok, ov, k it List.mem_cons_self _ e⟩
  item := by
    intro X hP hw hK hc i pins s σ H E I hf st hg
    subst hP hw
    obtain ⟨hd, hi⟩ := hg
    obtain ⟨hgd, hx, hs, es', ep', hdt, hsz, ent⟩ := frzT' I hd
    obtain ⟨e1, e2⟩ := dict_ep hod hdt
    subst e1 e2
    obtain ⟨⟨k, v⟩, hkv⟩ : ∃ p, kvs[i]? = some p := ⟨_, List.getElem?_eq_getElem hi⟩
    obtain ⟨en, q, hen, hkey, hq, rv⟩ := ent i k v hkv
    obtain ⟨ok, ov, he⟩ := st
    rw [← hsz] at he
    have hlt := Heap.lt_size he
    have hlt' : i < es'.size := by omega
    have een : es'[i] = en := Option.some.inj ((Array.getElem?_eq_getElem hlt').symm.trans hen)
    refine wpAny_pyNext_items_item_raw he ⟨o, hgd, hx, hdt⟩ hlt' fun h' ho hT hz hk => ⟨_, rfl, ?_⟩
    rw [een] at ho hT
    refine wpAny_letOwnedTupleGo_items ho fun h'' he' sb => ?_
    have hT2 : h''.get? s.heap.objs.size = some { cls := .type "tuple", data := .seq #[en.key, en.val] } := (sb.2 _ (Nat.ne_of_gt hlt)).trans hT
    have new : ObjOk X.prog X.w (upd H s.heap.objs.size (.tup [.ref q, v])) h'' s.heap.objs.size (.tup [.ref q, v]) := ⟨by show 2 ≤ sizeLine; decide, [en.key, en.val], .cons hkey (.cons rv .nil), _, hT2, rfl, _, rfl⟩
    have I1 := Inv.turnedNew (t' := s.toks) I (ch := [it]) (fun b ob hb e => by
      have nb : b ≠ it := fun z => hb (z ▸ List.mem_cons_self)
      exact (sb.2 b nb).trans (hk b ob nb e)) hf (Nat.le_refl _) new
    refine ⟨.ref s.heap.objs.size, _, I1, rfl, ⟨_, k, v, q, hkv, rfl, hq, I.hok.fresh (Nat.le_refl _), rfl⟩, ⟨_, _, by rw [hsz] at he'; exact he'⟩, fun b hb => ?_⟩
    obtain rfl : b = it := by simpa using hb
    rw [upd_ne (Nat.ne_of_lt hlt)]
    exact (hf b List.mem_cons_self).1
  done := by
    intro X hP hw hK hc i pins s σ H E I hf st hg
    subst hP hw
    obtain ⟨hd, hi⟩ := hg
    obtain ⟨hgd, hx, hs, es', ep', hdt, hsz, ent⟩ := frzT' I hd
    obtain ⟨e1, e2⟩ := dict_ep hod hdt
    subst e1 e2
    obtain ⟨f0, f1, f2, f3, f4, f5⟩ := hf it List.mem_cons_self
    obtain ⟨ok, ov, he⟩ := st
    rw [← hsz] at he
    exact wpAny_pyNext_items_end_raw (I.ok.hd hc) he ⟨o, hgd, hx, hdt⟩ (by omega) fun h' eb => ⟨rfl, Inv.turned I (fun b ob hb e => eb b ob hb e) f0 f1 f3 f4 f5⟩
  self := fun A i s Q E ⟨_, _, e⟩ h => PySem.W.kcp_self e h
section
variable {X : Cx}
def iItemsT (td : TE) : TI := fun σ H R => td σ H fun x H1 => ∃ d o kvs, x = V.ref d ∧ H1 d = some (.frz o (.dT kvs)) ∧ R (Itit d o kvs) H1
theorem pi_itemsT {e : Expr} {td : TE} {apos cpos : Pos} {elts : List Expr} {kk : Nat} {tpos : Pos} (he : PE X e td) (hbase : attributeBase e (Str.ofString "items") X.env (eval e X.env) = eval e X.env := by rfl) (hline : (apos.endLine == cpos.line) = true := by rfl) :
    PI X (.Tuple elts kk tpos) (.Call (.Attribute e (Str.ofString "items") apos) [] [] cpos) (iItemsT td) := by
  refine ⟨fun pins s σ H R I h => ?_⟩
  refine wpAny_Call_method hbase rfl hline PySem.F.plainAttrs_dict PySem.F.slot_dict_items PySem.F.type_dict_items (thn (he.run pins s σ H _ I h) fun u s1 ⟨x, H1, I1, rx, d, o, kvs, ex, hd, q⟩ => ?_)
  subst ex
  obtain rfl : u = Value.ref d := rx
  obtain ⟨hgd, hx, hs, es, ep, hdt, hsz, ent⟩ := frzT' I1 hd
  have raw : DT.Raw s1.heap d es ep := ⟨o, hgd, hx, hdt⟩
  refine ⟨DT.Raw.typeIs raw, fun a e => by cases e; exact ⟨o, hgd, hx.2.1⟩, ?_⟩
  have I2 : L2.Inv X pins σ H1 { s1 with heap := s1.heap.push { cls := .type "dict_items", data := .fields #[.ref d] } } := Inv.kept I1 fun b ob q => Heap.get?_push_of_some _ q
  have fin := DT.iterI (prog := X.prog) (w := X.w) (A := X.A) (E := X.xe) (Q := PIE X pins σ (.Tuple elts kk tpos) R) (s := { s1 with heap := s1.heap.push { cls := .type "dict_items", data := .fields #[.ref d] } }) (v := s1.heap.objs.size) ⟨_, Heap.get?_push_size _ rfl, rfl, rfl⟩ (DT.Raw.push raw _) (pi_one I2 _ (turn_itemsT _ hdt) ⟨.none, .none, by rw [← hsz]; exact Heap.get?_push_size _ rfl⟩ q)
  refine method_meetsIn PySem.F.slot_dict_items PySem.F.entry_dict_items rfl (PySem.evalArgs_none ⟨rfl, DT.Raw.typeIs raw, PySem.F.args_dict_items_1 _, _, DT.meetsItems hs, raw, fin⟩)
end
theorem walk_itemsT {d : Addr} {o : Obj} {kvs : List (List Key × V)} : Walk (Itit d o kvs) kvs.length (fun H => H d = some (.frz o (.dT kvs))) (fun i H x H' => ∃ T k v q, kvs[i]? = some (k, v) ∧ x = V.ref T ∧ H q = some (.tup (k.map kV)) ∧ H T = none ∧ H' = upd H T (.tup [.ref q, v])) where
  goes := fun _ _ hi q => ⟨q, hi⟩
  stops := fun _ q => ⟨q, Nat.le_refl _⟩
  yields := fun _ _ _ _ _ _ y => y
end Sb

/-! sorted(a list of data), by the data's own order. -/
namespace Sb
open PySem PySem.Spec PyProof.Rows L2
open PySem.W (EachIs dataLe AllAlike Sortable)
/-- an item beside what it stands for -/
def rSortDd (K : PySem.W.Frag) {δ : Type} (enc : δ → PyData) : List V → Hp → VK → Prop := fun xs H Q => ∃ (l : Addr) (bs : List (V × δ)), xs = [.ref l] ∧ SqL K H l (bs.map (·.1)) ∧ (∀ b ∈ bs, Dp K H b.1 (enc b.2)) ∧ (∀ b b' : δ, PySem.W.alike (enc b) (enc b') = true) ∧ (∀ b : δ, ∃ x r, enc b = .tuple (x :: r)) ∧ (∀ b ∈ bs, (enc b.2).depth ≤ 8) ∧
  ∀ p, H p = none → Q (.ref p) (upd H p (.lst ((bs.mergeSort (dataLe false fun b => enc b.2)).map (·.1))))
theorem each_vals {δ : Type} : ∀ {bs : List (V × δ)} {us : List Value}, Vals (bs.map (·.1)) us → EachIs (fun u b => RelV b.1 u) us bs
  | [], _, h => by cases h; exact .nil
  | b :: bs, _, h => by
    cases h with
    | cons a t => exact .cons a (each_vals t)
theorem vals_each {δ : Type} : ∀ {bs : List (V × δ)} {us : List Value}, EachIs (fun u b => RelV b.1 u) us bs → Vals (bs.map (·.1)) us
  | [], _, h => by cases h; exact .nil
  | b :: bs, _, h => by
    cases h with
    | cons a t => exact .cons a (vals_each t)
theorem call_sortDd {X : Cx} {δ : Type} {enc : δ → PyData} (hu : X.A.units + 64 < cLine) : CallR X (.builtin "sorted") (rSortDd X.K enc) := by
  intro pins s σ H xs us Q I r h
  obtain ⟨l, bs, rfl, hl, hD, hal, hk, hdp, q⟩ := h
  obtain ⟨u, rfl, rx⟩ := vals1 r
  obtain rfl : u = Value.ref l := rx
  obtain ⟨its, rv, pl, hz⟩ := I.list hl
  have each := each_vals rv
  have le : its.length = bs.length := each.length
  have reads : EachIs (fun v b => ∃ as, Reads s.heap v (enc b.2) as) its bs := by
    have : ∀ {bs : List (V × δ)} {us : List Value}, (∀ b ∈ bs, Dp X.K H b.1 (enc b.2)) → EachIs (fun u b => RelV b.1 u) us bs → EachIs (fun v b => ∃ as, Reads s.heap v (enc b.2) as) us bs := by
      intro bs
      induction bs with
      | nil => intro us _ h; cases h; exact .nil
      | cons b bs ih =>
        intro us hd h
        cases h with
        | cons a t => exact .cons (Dp.reads I _ _ _ (hd b List.mem_cons_self) a) (ih (fun x hx => hd x (List.mem_cons_of_mem _ hx)) t)
    exact this hD each
  rw [List.length_map] at hz
  refine PySem.W.sorted_data (R := fun u b => RelV b.1 u) (enc := fun b : V × δ => enc b.2) pl.isList each reads (AllAlike.of fun a b => hal _ _) (Sortable.tuples fun b => hk _) hz (fun b hb => ?_) fun out lo ho => ?_
  · have := hdp b hb
    omega
  · obtain ⟨e, ee⟩ := sortedAll_at s.heap its (List.toArray out)
    have vo := vals_each ho
    have k : ∀ c o, s.heap.get? c = some o → (sortedAll s.heap its (List.toArray out)).get? c = some o := fun c o hc => sortedAll_old hc
    have hz2 : ((bs.mergeSort (dataLe false fun b => enc b.2)).map (·.1)).length ≤ sizeLine := by
      rw [List.length_map, (List.mergeSort_perm _ _).length_eq]
      exact hz
    exact ⟨.ref (s.heap.objs.size + 1), _, I.laid (o := .lst ((bs.mergeSort (dataLe false fun b => enc b.2)).map (·.1))) (t' := s.toks) k (Nat.le_succ _) ⟨hz2, out, e, vo, ee⟩, rfl, q _ (I.hok.fresh (Nat.le_succ _))⟩
end Sb

/-! Promises that hold whatever is under way around the call: the words of the other kind, with a place left empty. -/
namespace Sb
open PySem PySem.Spec PyProof.Rows L2
section
variable {P : Program} {w : World} {K : PySem.W.Frag} {mg : Str → Option Value} {base : Heap} {k : Nat} {f : Addr}
theorem okO {x qual : Str} {st : Stmt} {fd : FuncData} {N ps : List Str} {sp : Sp} (F : Fun K x qual st f fd) (S : FnScope N ps (defScope st)) (len : ∀ vs H Q E, sp vs H Q E → vs.length = ps.length)
    (walk : ∀ (cdv : Value) (A : Around) (outer : List Env) (s : Shared) (H : Hp) (vs : List V) (Q : VK) (E : XK), True →
      Room k (A.deeper (envOfC qual (defScope st) s.heap.objs.size f cdv)) → sp vs H Q E →
      ∃ t, PSs (cxOf CX0 P w K mg base N qual (defScope st) f cdv A outer s H E).nox (defBody st) t ∧ t { nx := fun _ H' => Q .non H', rt := Q } (start N vs) H) :
    FnOk P w K mg base CX0 (k + 1) f fd ps sp := F.ok S len fun cdv A outer s H vs Q E hr h => walk cdv A outer s H vs Q E trivial hr h
theorem okOX {x qual : Str} {st : Stmt} {fd : FuncData} {N ps : List Str} {sp : Sp} (F : Fun K x qual st f fd) (S : FnScope N ps (defScope st)) (len : ∀ vs H Q E, sp vs H Q E → vs.length = ps.length)
    (walk : ∀ (cdv : Value) (A : Around) (outer : List Env) (s : Shared) (H : Hp) (vs : List V) (Q : VK) (E : XK), True →
      Room k (A.deeper (envOfC qual (defScope st) s.heap.objs.size f cdv)) → sp vs H Q E →
      ∃ t, PSs (cxOf (L2.CX P w) P w K mg base N qual (defScope st) f cdv A outer s H E) (defBody st) t ∧ t { nx := fun _ H' => Q .non H', rt := Q } (start N vs) H) :
    FnOk P w K mg base (L2.CX P w) (k + 1) f fd ps sp := F.okX S len fun cdv A outer s H vs Q E hr h => walk cdv A outer s H vs Q E trivial hr h
end
section
variable {X : Cx} {CX : CXT} {k : Nat} {f C : Addr} {fd : FuncData} {ps : List Str} {sp : Sp} {dvs : List V} {ds : List Value} {x m : Str} {p pos apos : Pos} {e o : Expr} {es : List Expr} {ta : TE} {t : TA} {E : XK}
theorem pe_callO (F : FnOk X.prog X.w X.K X.mg X.base CX k f fd ps sp) (_ : True) (hr : Room k X.A) (hg : Gl X x) (hm : X.mg x = some (.ref f)) (hk : PySem.W.keepIn X.K (.ref f) = true)
    (hb : Binds X.K fd ps ds) (hd : Vals dvs ds) (hx : Passes CX X E) (ha : PA X (e :: es) t) (hdb : (x == ("__debug__" : Str)) = false := by decide)
    (he : starEach (e :: es) X.env = (false, eval e X.env) :: starEach es X.env := by rfl)
    (hpl : (backTo pos (starEach es X.env)).any (·.1) = false := by rfl) : PE X (.Call (.Name x p) (e :: es) [] pos) (tCall sp dvs E t) := pe_call F hr hg hm hk hb hd hx ha hdb he hpl
theorem pe_methO {pl : Sem Bool} (ho : PE X o ta) (c : Cls X.K C) (hm : Meth X.K C m f) (F : FnOk X.prog X.w X.K X.mg X.base CX k f fd ps sp) (_ : True) (hr : Room k X.A) (hb : Binds X.K fd ps ds) (hd : Vals dvs ds) (hx : Passes CX X E) (ha : PA X (e :: es) t)
    (hst : starEach (e :: es) X.env = (false, eval e X.env) :: starEach es X.env := by rfl) (hpl : (backTo pos (starEach es X.env)).any (·.1) = false := by rfl)
    (ht : MethForm X o m (e :: es) pos apos pl := by rfl) : PE X (.Call (.Attribute o m apos) (e :: es) [] pos) (tMeth C m sp dvs E ta t) := pe_meth ho c hm F hr hb hd hx ha hst hpl ht
end
end Sb

/-! The row's end for a law that makes lambdas: its code's table is tracked. -/
namespace Sb
open PySem PySem.Spec PyProof.Rows L2
section
variable {P : Program} {w : World} {K : PySem.W.Frag} {mg mb : Str → Option Value} {k : Nat} {fa a cC cT : Addr} {fd : FuncData} {x : Str} {sp : Sp} {s1 : Shared} {vs : List Value} {ns : List Int}
/-- over an abstract heap that tracks the table, and the script at most -/
theorem overHT {H : Hp} (KX : K.In s1.heap) (hns : s1.heap.Ns mainGlobals mg) (hb : s1.heap.Ns builtinsNs mb) (hbb : ∀ x : Str, x ≠ "__name__" → mb x = bootBuiltins x) (hlim : s1.heap.NoLimit) (hg : s1.gens = #[])
    (hT : s1.heap.get? cT = some { cls := .none, data := .fields #[] }) (nT : K.lookup cT = none) (cd : PySem.W.CodeHd s1.heap cC cT)
    (hbm : ∃ (bm : Addr) (ob : Obj), mg "__builtins__" = some (.ref bm) ∧ bm ≠ builtinsNs ∧ s1.heap.get? bm = some ob ∧ ob.cls = .type "module" ∧ ob.dict = some builtinsNs ∧ ob.data = .plain)
    (ha : s1.heap.get? a = some { cls := .type "list", data := .seq vs.toArray }) (hr : Room k callerA)
    (F : ∀ base : Heap, K.In base → base.Ns mainGlobals mg → LamX.TabB base mg cC cT → FnG P w K mg base CX0 k fa fd [x] sp) (bd : ∀ (s : Shared) (u : Value), BindsTo s fd ⟨[u], []⟩ [(x, u)])
    (hHT : H cT = some (.tbl #[])) (hO : ∀ b, b ≠ cT → H b = none ∨ ∃ o xs, H b = some (.frz o (.lst xs))) (ok : HOk P w H s1.heap) (onlyA : ∀ b, H b ≠ none → b = a ∨ b = cT) (notK : H a ≠ none → K.lookup a = none)
    (want : sp [.ref a] H (fun v _ => v = .bl true) fun _ _ _ => False) : Done P w fa a s1 := by
  have plain : ∀ {b : Addr} {o : Obj}, s1.heap.get? b = some o → (∀ us n, o.data ≠ .seq us n) → (o.data ≠ .fields #[]) → H b = none := by
    intro b o e n1 n2
    cases q : H b with
    | none => rfl
    | some u =>
      rcases onlyA b (by simp [q]) with z | z
      · subst z
        rw [ha] at e
        cases e
        exact absurd rfl (n1 _ _)
      · subst z
        rw [hT] at e
        cases e
        exact absurd rfl n2
  have dict : ∀ {b : Addr} {o : Obj} {es : Array DictEntry} {ep : Nat}, s1.heap.get? b = some o → o.data = .dict es ep → H b = none := by
    intro b o es ep e d
    apply plain e
    · intro us n z
      rw [d] at z
      cases z
    · intro z
      rw [d] at z
      cases z
  have spaces : ∀ {b : Addr} {m : Str → Option Value}, s1.heap.Ns b m → (hidT s1.heap H).Ns b m := by
    rintro b m ⟨o, es, ep, e, d, r⟩
    exact ⟨o, es, ep, hidT_get e (dict e d), d, r⟩
  have inB : K.In (hidT s1.heap H) := by
    intro b o e
    refine hidT_get (KX b o e) ?_
    cases q : H b with
    | none => rfl
    | some u =>
      rcases onlyA b (by simp [q]) with z | z
      · subst z
        rw [notK (by simp [q])] at e
        cases e
      · subst z
        rw [nT] at e
        cases e
  obtain ⟨mc, c1, c2⟩ := hlim
  have md : Mod K mg (hidT s1.heap H) := ⟨inB, spaces hns, ⟨mb, spaces hb, hbb⟩, ⟨mc, spaces c1, c2⟩⟩
  have neG : mainGlobals ≠ cT := by
    obtain ⟨o, es, ep, e, d, _⟩ := hns
    intro z
    rw [z, hT] at e
    cases e
    cases d
  have tb : LamX.TabB (hidT s1.heap H) mg cC cT := by
    constructor
    · obtain ⟨o, us, fi, tf, fl, tg, inF, tx, tt, g1, g2, g3, g4, rest⟩ := cd
      refine ⟨o, us, fi, tf, fl, tg, inF, tx, tt, hidT_get g1 (plain g1 ?_ ?_), g2, g3, g4, rest⟩
      · intro us' n z
        rw [g3] at z
        cases z
      · intro z
        rw [g3] at z
        cases z
        simp at g4
    · obtain ⟨bm, ob, b1, b2, b3, b4, b5, b6⟩ := hbm
      refine ⟨bm, ob, b1, b2, ?_, ?_, hidT_get b3 (plain b3 ?_ ?_), b4, b5, b6⟩
      · intro z
        obtain ⟨o, es, ep, e, d, _⟩ := hns
        rw [z, e] at b3
        cases b3
        rw [d] at b6
        cases b6
      · intro z
        rw [z, hT] at b3
        cases b3
        cases b6
      · intro us n z
        rw [b6] at z
        cases z
      · intro z
        rw [b6] at z
        cases z
    · exact neG
  have e0 : Env0 P w K mg (hidT s1.heap H) callerA [] s1 H :=
    { frames := rfl, mod := md, bs := fun b o e => of_hidT e, bsz := Nat.le_of_eq (hidT_size _ _), funs := trivial, frf := (fun b z => (by cases z)), hok := ok, bare := .of_eq hg }
  have run := (F _ inB (spaces hns) tb).run callerA [] s1 H ⟨[.ref a], []⟩ [.ref a] [.ref a] _ _ rfl hr e0 (bd s1 (.ref a)) (.cons rfl .nil) want
  refine codeAny_mono run ?_
  intro r s' z
  match r, z with
  | .error e, z => exact False.elim z
  | .ok .next, z => exact False.elim z
  | .ok .brk, z => exact False.elim z
  | .ok .cont, z => exact False.elim z
  | .ok (.ret u), ⟨v, H', os, bare, un, ok', rel, q⟩ =>
    subst q
    obtain rfl : u = Value.bool true := rel
    have off : ∀ b o, b ≠ cT → s1.heap.get? b = some o → s'.heap.get? b = some o := by
      intro b o nb e
      cases q : H b with
      | none => exact un.keep b o e q (fun z => by cases z) (fun z => by cases z)
      | some u =>
        rcases hO b nb with z | ⟨ob, xs, z⟩
        · rw [q] at z
          cases z
        · have e1 := (ok b _ z).1
          have e2 := (ok' b _ (un.frzs b ob _ z)).1
          rw [e] at e1
          cases e1
          exact e2
    obtain ⟨more, hm⟩ : ∃ more : Array Value, s'.heap.get? cT = some { cls := .none, data := .fields more } := by
      obtain ⟨more, z⟩ := un.tbls cT #[] hHT
      exact ⟨_, ok' cT _ z⟩
    refine ⟨rfl, ⟨fun b o e => ?_, fun b o e => ?_⟩, os, bare⟩
    · by_cases nb : b = cT
      · subst nb
        rw [hT] at e
        cases e
        exact .inr (.inl ⟨(cd.tab hT).isCodeTable, rfl, #[], more, rfl, by rw [Array.empty_append]; exact hm⟩)
      · exact .inl (off b o nb e)
    · by_cases nb : b = cT
      · subst nb
        exact ⟨_, hm⟩
      · exact ⟨o, off b o nb e⟩
theorem law_callGT (KX : K.In s1.heap) (hns : s1.heap.Ns mainGlobals mg) (hb : s1.heap.Ns builtinsNs mb) (hbb : ∀ x : Str, x ≠ "__name__" → mb x = bootBuiltins x) (hlim : s1.heap.NoLimit) (hg : s1.gens = #[])
    (hT : s1.heap.get? cT = some { cls := .none, data := .fields #[] }) (nT : K.lookup cT = none) (cd : PySem.W.CodeHd s1.heap cC cT)
    (hbm : ∃ (bm : Addr) (ob : Obj), mg "__builtins__" = some (.ref bm) ∧ bm ≠ builtinsNs ∧ s1.heap.get? bm = some ob ∧ ob.cls = .type "module" ∧ ob.dict = some builtinsNs ∧ ob.data = .plain)
    (ha : s1.heap.get? a = some { cls := .type "list", data := .seq vs.toArray }) (hi : IntsAre vs ns) (hl : ns.length ≤ sizeLine) (hr : Room k callerA)
    (F : ∀ base : Heap, K.In base → base.Ns mainGlobals mg → LamX.TabB base mg cC cT → FnG P w K mg base CX0 k fa fd [x] sp) (bd : ∀ (s : Shared) (u : Value), BindsTo s fd ⟨[u], []⟩ [(x, u)])
    (want : ∀ H : Hp, H cT = some (.tbl #[]) → SqL K H a (ns.map V.int) → sp [.ref a] H (fun v _ => v = .bl true) fun _ _ _ => False) : Done P w fa a s1 := by
  have rv := vals_ints hi
  have nv := hi.length
  have neA : a ≠ cT := by
    intro z
    rw [z, hT] at ha
    cases ha
  by_cases hk : K.lookup a = none
  · let H : Hp := fun b => if b = a then some (.frz { cls := .type "list", data := .seq vs.toArray } (.lst (ns.map V.int))) else if b = cT then some (.tbl #[]) else none
    have at_a : H a = some (.frz { cls := .type "list", data := .seq vs.toArray } (.lst (ns.map V.int))) := if_pos rfl
    have at_t : H cT = some (.tbl #[]) := (if_neg neA.symm).trans (if_pos rfl)
    have off : ∀ b, b ≠ a → b ≠ cT → H b = none := fun b z y => (if_neg z).trans (if_neg y)
    refine overHT (H := H) KX hns hb hbb hlim hg hT nT cd hbm ha hr F bd at_t ?_ ?_ ?_ (fun _ => hk) (want H at_t (Or.inl (Or.inr ⟨_, at_a⟩)))
    · intro b nb
      by_cases e : b = a
      · subst e
        exact Or.inr ⟨_, _, at_a⟩
      · exact Or.inl (off b e nb)
    · intro b u z
      by_cases e : b = a
      · subst e
        rw [at_a] at z
        cases z
        exact ⟨ha, by rw [List.length_map]; exact hl, vs, _, rv, ha⟩
      · by_cases e2 : b = cT
        · subst e2
          rw [at_t] at z
          cases z
          exact hT
        · rw [off b e e2] at z
          cases z
    · intro b z
      by_cases e : b = a
      · exact Or.inl e
      · by_cases e2 : b = cT
        · exact Or.inr e2
        · exact absurd (off b e e2) z
  · cases q : K.lookup a with
    | none => exact absurd q hk
    | some o =>
      have e := KX a o q
      rw [ha] at e
      cases e
      let H : Hp := fun b => if b = cT then some (.tbl #[]) else none
      have at_t : H cT = some (.tbl #[]) := if_pos rfl
      have off : ∀ b, b ≠ cT → H b = none := fun b z => if_neg z
      refine overHT (H := H) KX hns hb hbb hlim hg hT nT cd hbm ha hr F bd at_t (fun b nb => Or.inl (off b nb)) ?_ ?_ (fun z => absurd (off a neA) z) (want H at_t (Or.inr ?_))
      · intro b u z
        by_cases e2 : b = cT
        · subst e2
          rw [at_t] at z
          cases z
          exact hT
        · rw [off b e2] at z
          cases z
      · intro b z
        by_cases e2 : b = cT
        · exact Or.inr e2
        · exact absurd (off b e2) z
      · exact ⟨_, vs.toArray, _, q, rfl, rfl, rfl, by rw [List.size_toArray, nv]; exact hl, by simpa using rv⟩
end
theorem tab_by {K : PySem.W.Frag} {x : Str} {f c P : Addr} {oc oc' : Value} {od od' : Option Addr} {fd : FuncData} {sl sl' : Array (Option Value)} {vs : Array Value} (h1 : PySem.W.nsIn K mainGlobals x = some (some (.ref f))) (h2 : K.lookup f = some ⟨oc, od, .func fd, sl⟩) (h3 : fd.code = .ref c)
    (h4 : K.lookup c = some ⟨oc', od', .fields vs, sl'⟩) (h5 : vs[11]? = some (.ref P)) : PySem.W.tabIn K x = some (c, P) := by
  unfold PySem.W.tabIn
  rw [h1]
  show (match K.lookup f with | some ⟨_, _, .func fd, _⟩ => _ | _ => none) = _
  rw [h2]
  show (match fd.code with | .ref c => _ | _ => none) = _
  rw [h3]
  show (match K.lookup c with | some ⟨_, _, .fields vs, _⟩ => _ | _ => none) = _
  rw [h4]
  show (match (vs[11]? : Option Value) with | some (.ref P) => some (c, P) | _ => none) = _
  rw [h5]
/-- the row's end, from the law's promise -/
theorem walk_ofGT {l : PySem.W.OpenLaw} {n k : Nat} {q : Program} {loose : List Str} {XP : (Str → Option Value) → Heap → Prop} {YP : World → Heap → Prop} {d : DefRec} {K : Params → PySem.W.Frag} {sp : PySem.W.Frag → Addr → Addr → Sp} {x : Str}
    (hn : l.most = some n) (hn2 : n ≤ sizeLine) (hdf : d.params.defaults = []) (hr : Room k callerA) (hY : ∀ (w : World) (h : Heap), YP w h → (K w.params).In h)
    (hrec : (recsOf q).find? (fun e => e.name == d.name) = some d)
    (F : ∀ (w : World) (mg : Str → Option Value) (fa : Addr) (h : Heap), (K w.params).In h → h.Ns mainGlobals mg → mg d.name = some (.ref fa) →
      ∃ (fd : FuncData) (cC cT : Addr), PySem.W.tabIn (K w.params) d.name = some (cC, cT) ∧ (K w.params).lookup cT = none ∧ (∀ (s : Shared) (u : Value), BindsTo s fd ⟨[u], []⟩ [(x, u)]) ∧
        ∀ base : Heap, (K w.params).In base → base.Ns mainGlobals mg → LamX.TabB base mg cC cT → FnG l.prog w (K w.params) mg base CX0 k fa fd [x] (sp (K w.params) cC cT))
    (want : ∀ (K : PySem.W.Frag) (cC cT : Addr) (H : Hp) (a : Addr) (ns : List Int), ns.length ≤ n → H cT = some (.tbl #[]) → SqL K H a (ns.map V.int) →
      sp K cC cT [.ref a] H (fun v _ => v = .bl true) fun _ _ _ => False) : PySem.W.WalkO q loose XP YP l.row.toRowW d [] (fun f vs => PySem.call f vs) := by
  apply Att.attach_callB hn hdf
  intro w s0 s1 mg mb fa o pm cd doc a vs ns G Y ho hd hcd hmg hobj hints hlen hbits hg
  obtain ⟨fd, cC, cT, ht, nT, bd, hF⟩ := F w mg fa _ (hY w _ Y) G.T.g hmg
  obtain ⟨ch, hT⟩ := PySem.W.tab_of G.T (hY w _ Y) hrec ht
  exact law_callGT (hY w _ Y) G.T.g G.T.b G.T.builtins G.T.nolimit hg hT nT ch G.T.bmain hobj hints (Nat.le_trans hlen hn2) hr hF bd (fun H hHT hS => want _ _ _ H a ns hlen hHT hS)
end Sb

/-! for i, x in enumerate(tuple). -/
namespace Sb
open PySem PySem.Spec PyProof.Rows L2
theorem meets_enumT (a : Addr) (items : Array Value) :
    Meets (Builtin.«enumerate.__new__» ⟨[.type "enumerate", .ref a], []⟩) (fun _ R s => s.heap.IsTuple a items ∧
      R (.ok (.ret (.ref (s.heap.push { cls := .type "tuple_iterator", data := .fields #[.ref a, .int 0 0] }).objs.size)))
        { s with heap := (s.heap.push { cls := .type "tuple_iterator", data := .fields #[.ref a, .int 0 0] }).push { cls := .type "enumerate", data := .fields #[.none, .bool false, .ref s.heap.objs.size, rawInt 0, .none, .none] } }) :=
  .of_wp fun prog w A R s h => by
    obtain ⟨hp, g, d, tk, os⟩ := s
    obtain ⟨h1, h⟩ := h
    have hsub := sub_enumerate
    obtain ⟨⟨c, dct, dt, sl⟩, hl, hc, n, hd⟩ := id h1
    replace hc : c = .type "tuple" := hc
    replace hd : dt = .seq items n := hd
    subst hc hd
    have q1 : ∀ {A' : Around} {E : Value → Shared → Prop} {Q : Value → Shared → Prop}, Q (.ref hp.objs.size) ⟨hp.push { cls := .type "tuple_iterator", data := .fields #[.ref a, .int 0 0] }, g, d, tk, os⟩ → wpAny (model prog w) A' (pyIter (.ref a)) Q E ⟨hp, g, d, tk, os⟩ :=
      fun q => wpAny_pyIter_tuple h1 q
    wp_walk using AutoSeq1.wpAny_loadPart' hl, q1
    refine wpAny_stack_any fun st => wpAny_pure ?_
    split
    · rename_i c _ _ _ _ _
      cases (c == Value.type "enumerate")
      · wp_walk using AutoSeq1.wpAny_loadPart' hl, q1
        exact ⟨_, rfl, h⟩
      · wp_walk using AutoSeq1.wpAny_loadPart' hl, q1
        exact ⟨_, rfl, h⟩
    · wp_walk using AutoSeq1.wpAny_loadPart' hl, q1
      exact ⟨_, rfl, h⟩
section
variable {prog : Program} {w : World} {A : Around} {E : Value → Shared → Prop} {s : Shared}
theorem call_enumT {l : Addr} {items : Array Value} {Q : Value → Shared → Prop} (hL : s.heap.IsTuple l items)
    (h : ∀ h', IsEnum h' (s.heap.objs.size + 1) s.heap.objs.size 0 .none → h'.IsTupleIter s.heap.objs.size l 0 → h'.objs.size = s.heap.objs.size + 2 →
      (∀ b o, s.heap.get? b = some o → h'.get? b = some o) → Q (.ref (s.heap.objs.size + 1)) { s with heap := h' }) :
    wpAny (model prog w) A (call (.type "enumerate") [.ref l]) Q E s := by
  refine callType_new F.called_enumerate (by decide) (F.typeCall_enumerate_1 _) (F.newCall_enumerate_1 _) (fun obj => F.args_object_init_2 obj _) F.entry_enumerate_new
    (meets_enumT l items) ⟨hL, ?_⟩
  have hz : (s.heap.push { cls := .type "tuple_iterator", data := .fields #[.ref l, .int 0 0] }).objs.size = s.heap.objs.size + 1 := Heap.size_push ..
  show _ ∧ _
  rw [hz]
  have he : IsEnum ((s.heap.push { cls := .type "tuple_iterator", data := .fields #[.ref l, .int 0 0] }).push
      { cls := .type "enumerate", data := .fields #[.none, .bool false, .ref s.heap.objs.size, rawInt 0, .none, .none] }) (s.heap.objs.size + 1) s.heap.objs.size 0 .none := by
    have := Heap.get?_push_size (s.heap.push { cls := .type "tuple_iterator", data := .fields #[.ref l, .int 0 0] })
      (o := { cls := .type "enumerate", data := .fields #[.none, .bool false, .ref s.heap.objs.size, rawInt 0, .none, .none] }) rfl
    rw [hz] at this; exact this
  exact ⟨⟨_, he, rfl⟩, h _ he ⟨_, Heap.get?_push_of_some _ (Heap.get?_push_size _ rfl), rfl, rfl⟩ (by rw [Heap.size_push, hz]) fun b o x => Heap.get?_push_of_some _ (Heap.get?_push_of_some _ x)⟩
theorem enumT_end {e it l : Addr} {i : Nat} {items : Array Value} {old : Value} {Q : Option Value → Shared → Prop} (hh : A.handled = none)
    (he : IsEnum s.heap e it i old) (hit : s.heap.IsTupleIter it l i) (hl : s.heap.IsTuple l items) (hx : items[i]? = none)
    (hQ : ∀ h', Heap.ExtBut it s.heap h' → Q none { s with heap := h' }) : wpAny (model prog w) A (pyNext (.ref e)) Q E s := by
  have hT : s.TypeIs (.ref e) "enumerate" := ⟨_, he, rfl⟩
  unfold pyNext
  refine wpAny_bind (wpAny_attempt (wpAny_callSpecial?_slot (name := Str.ofString "__next__") hT F.slot_enumerate_next
    (wpAny_call_entry F.slot_enumerate_next hT F.entry_enumerate_next ?_ (F.args_enumerate_next_1 _))))
  show wpAny _ _ (field (.ref e) 2 >>= _) _ _ _
  refine wpAny_bind (wpAny_field he rfl (x := .ref it) rfl ?_)
  refine wpAny_bind (RZ.nextOf_tuple_end hh hit hl hx fun h' x he' hx' => ?_)
  obtain ⟨o, ho, hc⟩ := hx'
  refine wpAny_bind (wpAny_isInstance (T := "StopIteration") (b := true) ⟨o, ho, hc⟩ isSubtype_stop ?_)
  exact wpAny_pure (hQ _ he')
end
/-- the tuple at a, each item in a new pair -/
def Itet (K : PySem.W.Frag) (a : Addr) : It :=
  ⟨fun i H => ∃ (xs : List V) (x : V), SqT K H a xs ∧ xs[i]? = some x, fun i H v H' => ∃ T x, v = .ref T ∧ H T = none ∧ H' = upd H T (.tup [.int (i : Nat), x]) ∧ ∀ xs, SqT K H a xs → xs[i]? = some x, fun i H => ∃ xs : List V, SqT K H a xs ∧ xs.length ≤ i⟩
theorem turn_enumT {P : Program} {w : World} {K : PySem.W.Frag} {elts : List Expr} {kk : Nat} {tpos : Pos} (a e it : Addr) (nea : e ≠ a) (nia : it ≠ a) :
    Turn P w K (.Tuple elts kk tpos) (Itet K a) [e, it] e (fun i h => (∃ old, IsEnum h e it ((i : Nat) : Int) old) ∧ h.IsTupleIter it a i ∧ e ≠ it) where
  mem := by simp
  obj := fun i h st b hb => by
    obtain ⟨⟨old, he⟩, ⟨o, ho, hc, hd⟩, _⟩ := st
    have e' : b = e ∨ b = it := by simpa using hb
    rcases e' with z | z
    · rw [z]; exact ⟨_, he, fun v q => nomatch q⟩
    · rw [z]; exact ⟨o, ho, fun v q => by rw [hd] at q; cases q⟩
  keep := fun i h h' st k => let ⟨⟨old, he⟩, hi, hne⟩ := st; ⟨⟨old, k e (by simp) _ he⟩, hi.at fun o q => k it (by simp) o q, hne⟩
  item := by
    intro X hP hw hK hc i pins s σ H E I hf st hg
    subst hP hw hK
    obtain ⟨⟨old, he⟩, hit, hne⟩ := st
    obtain ⟨xs, x, hq, hx⟩ := hg
    obtain ⟨its, rv, p, hz⟩ := I.tuple hq
    obtain ⟨u, hu, ru⟩ := rv.get hx
    have hel : e < s.heap.objs.size := Heap.lt_size he
    have hil : it < s.heap.objs.size := by obtain ⟨_, q, _⟩ := hit; exact Heap.lt_size q
    have hlt : i < its.toArray.size := by
      have := (List.getElem?_eq_some_iff.mp hu).1
      simpa using this
    have D := Draws.tuple (prog := X.prog) (w := X.w) (A := X.A.in1) (I.ok.hd hc) it a (Ne.symm nia) its.toArray
    refine wpAny_pyNext_enum_itemD D he ⟨hit, p⟩ hlt hne (by simp [hne, nea]) fun x' h' tk hx' ho hit' hT hsz hk => ?_
    have ex : x' = u := by
      have e1 : its.toArray[i]? = some u := by simpa using hu
      exact Option.some.inj (hx'.symm.trans e1)
    subst ex
    refine ⟨_, rfl, wpAny_letOwnedTupleGo_enum (s := { s with heap := h', toks := tk + 1 }) ho fun h'' he' sb => ?_⟩
    have hT2 : h''.get? s.heap.objs.size = some { cls := .type "tuple", data := .seq #[.int i tk, x'] } := (sb.2 _ (Nat.ne_of_gt hel)).trans hT
    have new : ObjOk X.prog X.w (upd H s.heap.objs.size (.tup [.int (i : Nat), x])) h'' s.heap.objs.size (.tup [.int (i : Nat), x]) :=
      ⟨by show 2 ≤ sizeLine; decide, [.int i tk, x'], .cons ⟨_, rfl⟩ (.cons ru .nil), ⟨_, hT2, rfl, _, rfl⟩⟩
    have I1 : Inv X pins σ (upd H s.heap.objs.size (.tup [.int (i : Nat), x])) { s with heap := h'', toks := tk + 1 } :=
      I.turnedNew (ch := [e, it]) (fun b ob hb q => (sb.2 b (fun z => hb (by simp [z]))).trans (hk b ob (fun z => hb (by simp [z])) (fun z => hb (by simp [z])) q)) hf (Nat.le_refl _) new
    refine ⟨.ref s.heap.objs.size, _, I1, rfl, ⟨_, x, rfl, I.hok.fresh (Nat.le_refl _), rfl, fun ys hy => by rw [I.tuple_inj hy hq]; exact hx⟩, ⟨⟨x', ?_⟩, hit'.1.at fun o q => (sb.2 it (Ne.symm hne)).trans q, hne⟩, fun b hb => ?_⟩
    · have e1 : ((i + 1 : Nat) : Int) = (i : Int) + 1 := by omega
      rw [e1]; exact he'
    · have hb' : b < s.heap.objs.size := by
        have e' : b = e ∨ b = it := by simpa using hb
        rcases e' with z | z
        · rw [z]; exact hel
        · rw [z]; exact hil
      rw [upd_ne (Nat.ne_of_lt hb')]
      exact (hf b hb).1
  done := by
    intro X hP hw hK hc i pins s σ H E I hf st hg
    subst hP hw hK
    obtain ⟨⟨old, he⟩, hit, hne⟩ := st
    obtain ⟨xs, hq, hx⟩ := hg
    obtain ⟨its, rv, p, hz⟩ := I.tuple hq
    obtain ⟨f0, f1, f2, f3, f4, f5⟩ := hf it (by simp)
    have hl := rv.length
    exact enumT_end (I.ok.hd hc) he hit p (by simp; omega) fun h' eb => ⟨rfl, I.turned (t' := s.toks) (fun b o hb q => eb b o hb q) f0 f1 f3 f4 f5⟩
  self := fun A i s Q E st h => let ⟨⟨_, he⟩, _⟩ := st; wpAny_pyIter_enum he h
def iEnumT (K : PySem.W.Frag) (ta : TA) : TI := fun σ H R => ta σ H fun vs H1 => ∃ a xs, vs = [.ref a] ∧ SqT K H1 a xs ∧ R (Itet K a) H1
theorem pi_enumT {X : Cx} {e : Expr} {ta : TA} {p pos tpos : Pos} {elts : List Expr} {kk : Nat} (hg : Gl X "enumerate") (hm : X.mg "enumerate" = none) (ha : PA X [e] ta) (hs : starEach [e] X.env = [(false, eval e X.env)] := by rfl) :
    PI X (.Tuple elts kk tpos) (.Call (.Name "enumerate" p) [e] [] pos) (iEnumT X.K ta) := by
  refine ⟨fun pins s σ H R I h => ?_⟩
  refine Call_ (ld_blt I hg hm boot_enumerate (PyProof.Rows.callWith_type1 (thn (ha.run pos pins s σ H _ I h) fun us s1 ⟨vs, H1, I1, r1, q1⟩ => ?_) hs rfl))
  obtain ⟨a, xs, ex, hq, q⟩ := q1
  subst ex
  cases r1 with
  | cons r rr =>
    cases rr
    cases r
    obtain ⟨its, rv, p', hz⟩ := I1.tuple hq
    refine call_enumT p' fun h' he hit hsz hk => wpAny_pyIter_enum he ?_
    have I2 : Inv X pins σ H1 { s1 with heap := h' } := I1.kept (t' := s1.toks) hk
    have ha : a < s1.heap.objs.size := by obtain ⟨_, z, _⟩ := p'; exact Heap.lt_size z
    refine ⟨s1.heap.objs.size + 1, [s1.heap.objs.size + 1, s1.heap.objs.size], _, _, H1, rfl, I2, turn_enumT a (s1.heap.objs.size + 1) s1.heap.objs.size (Nat.ne_of_gt (Nat.lt_succ_of_lt ha)) (Nat.ne_of_gt ha), ⟨⟨.none, he⟩, hit, Nat.succ_ne_self _⟩, fun b hb => ?_, q⟩
    have e' : b = s1.heap.objs.size + 1 ∨ b = s1.heap.objs.size := by simpa using hb
    have hle : s1.heap.objs.size ≤ b := by
      rcases e' with z | z
      · rw [z]; exact Nat.le_add_right _ _
      · rw [z]; exact Nat.le_refl _
    exact I1.fpOk hle (I1.hok.fresh hle)
theorem walk_enumT {K : PySem.W.Frag} {a : Addr} {xs : List V} : Walk (Itet K a) xs.length (fun H => SqT K H a xs) (YPair (fun i => some (.int (i : Nat))) (fun i => xs[i]?)) := by
  refine ⟨fun i _ hi q => ⟨xs, xs[i], q, by simp [hi]⟩, fun _ q => ⟨xs, q, Nat.le_refl _⟩, fun i H v H' _ q y => ?_⟩
  obtain ⟨T, x, h1, h2, h3, h4⟩ := y
  exact ⟨T, .int (i : Nat), x, h1, h2, h3, rfl, h4 xs q⟩
end Sb

namespace Sb
open PySem PySem.Spec PyProof.Rows L2
theorem ne_fr {H : Hp} {a b : Addr} {o : HO} (n : H b = none) (h : H a = some o) : a ≠ b := ne_of_none h n
theorem ne_fr' {H : Hp} {a b : Addr} {o : HO} (n : H b = none) (h : H a = some o) : b ≠ a := (ne_of_none h n).symm
theorem upd_off {H : Hp} {a b : Addr} {o u : HO} (n : b ≠ a) (h : H b = some u) : upd H a o b = some u := by rw [upd_ne n]; exact h
theorem upd_offN {H : Hp} {a b : Addr} {o : HO} (n : b ≠ a) (h : H b = none) : upd H a o b = none := by rw [upd_ne n]; exact h
theorem upd_none {H : Hp} {a b : Addr} {o : HO} (h : upd H a o b = none) : b ≠ a ∧ H b = none := by
  by_cases e : b = a
  · subst e
    rw [upd_same] at h
    cases h
  · rw [upd_ne e] at h
    exact ⟨e, h⟩
local macro_rules | `(tactic| walk_at "ne") => `(tactic| first
  | assumption
  | exact Ne.symm (by assumption)
  | exact ne_fr (by assumption) (by walk_at "hp")
  | exact ne_fr' (by assumption) (by walk_at "hp"))
local macro_rules | `(tactic| walk_at "hp") => `(tactic| first
  | assumption
  | exact upd_same
  | exact upd_off (by walk_at "ne") (by walk_at "hp"))

def top (i : Nat) : Stmt := PySem.Challenge.pw_seenbefore_k06_watchers_edited.main.body.getD i (.Pass ⟨0, 0, 0, 0⟩)
abbrev s_is_integer : Stmt := top 11
abbrev s_is_between : Stmt := top 12
abbrev s_Watcher_init : Stmt := inClass (top 20) 0
abbrev s_Watcher_len : Stmt := inClass (top 20) 1
abbrev s_Watcher_add_state : Stmt := inClass (top 20) 3
abbrev s_Watcher_set_verdict : Stmt := inClass (top 20) 4
abbrev s_Watcher_add_rule : Stmt := inClass (top 20) 5
abbrev s_Watcher_remove_rule : Stmt := inClass (top 20) 6
abbrev s_Watcher_verdicts : Stmt := inClass (top 20) 7
abbrev s_Watcher_held_counts : Stmt := inClass (top 20) 8
abbrev s_Watcher_rules : Stmt := inClass (top 20) 9
abbrev s_Watcher_require_state : Stmt := inClass (top 20) 12
abbrev s_Watcher_require_word : Stmt := inClass (top 20) 13
abbrev s_require_verdict : Stmt := top 21
abbrev s_is_test : Stmt := top 22
abbrev s_are_sources : Stmt := top 23
abbrev s_is_source : Stmt := top 24
abbrev s_may_be_rule : Stmt := top 25
abbrev s_rule_order : Stmt := top 26
abbrev s_part_order : Stmt := top 27
abbrev s_law_pen : Stmt := top 29
abbrev s_law_fresh : Stmt := top 30
abbrev s_law_draw : Stmt := top 31
abbrev s_law_some_sources : Stmt := top 32
abbrev s_law_rank : Stmt := top 33
abbrev s_law_outcome : Stmt := top 34
abbrev s_law_in : Stmt := top 35
abbrev s_law_state_due : Stmt := top 36
abbrev s_law_sources_fit : Stmt := top 37
abbrev s_law_rule_due : Stmt := top 38
abbrev s_law_gone_due : Stmt := top 39
abbrev s_law_odd : Stmt := top 40
abbrev s_law_verdict_due : Stmt := top 41
abbrev s_law_rule_parts : Stmt := top 42
abbrev s_law : Stmt := top 43
abbrev s_NotAWord_init : Stmt := inClass (top 2) 0
abbrev s_NotAVerdict_init : Stmt := inClass (top 3) 0
abbrev s_InvalidTest_init : Stmt := inClass (top 4) 0
abbrev s_InvalidSources_init : Stmt := inClass (top 5) 0
abbrev s_UnknownState_init : Stmt := inClass (top 6) 0
abbrev s_RuleExists_init : Stmt := inClass (top 8) 0
abbrev s_LimitExceeded_init : Stmt := inClass (top 9) 0
abbrev s_UnknownRule_init : Stmt := inClass (top 7) 0
/-- where all stands -/
structure Tx (K : PySem.W.Frag) (mg : Str → Option Value) where
  Watcher : Cn K mg "Watcher"
  nf_Watcherwords : NoAttr K Watcher.C "words"
  nf_Watcher_verdicts : NoAttr K Watcher.C "_verdicts"
  nf_Watcher_held : NoAttr K Watcher.C "_held"
  nf_Watcher_rules : NoAttr K Watcher.C "_rules"
  is_integer : Dn K mg "is_integer" s_is_integer ["value"]
  is_between : Dn K mg "is_between" s_is_between ["value", "low", "high"]
  Watcher_init : Mn K Watcher.C "__init__" "Watcher.__init__" s_Watcher_init ["self", "words"]
  Watcher_len : Mn K Watcher.C "__len__" "Watcher.__len__" s_Watcher_len ["self"]
  Watcher_add_state : Mn K Watcher.C "add_state" "Watcher.add_state" s_Watcher_add_state ["self", "verdict", "held"]
  Watcher_set_verdict : Mn K Watcher.C "set_verdict" "Watcher.set_verdict" s_Watcher_set_verdict ["self", "state", "verdict"]
  Watcher_add_rule : Mn K Watcher.C "add_rule" "Watcher.add_rule" s_Watcher_add_rule ["self", "state", "word", "test", "target", "sources"]
  Watcher_remove_rule : Mn K Watcher.C "remove_rule" "Watcher.remove_rule" s_Watcher_remove_rule ["self", "state", "word", "test"]
  Watcher_verdicts : Mn K Watcher.C "verdicts" "Watcher.verdicts" s_Watcher_verdicts ["self"]
  Watcher_held_counts : Mn K Watcher.C "held_counts" "Watcher.held_counts" s_Watcher_held_counts ["self"]
  Watcher_rules : Mn K Watcher.C "rules" "Watcher.rules" s_Watcher_rules ["self"]
  Watcher_require_state : Mn K Watcher.C "require_state" "Watcher.require_state" s_Watcher_require_state ["self", "state"]
  Watcher_require_word : Mn K Watcher.C "require_word" "Watcher.require_word" s_Watcher_require_word ["self", "word"]
  require_verdict : Dn K mg "require_verdict" s_require_verdict ["verdict"]
  is_test : Dn K mg "is_test" s_is_test ["test", "held"]
  are_sources : Dn K mg "are_sources" s_are_sources ["sources", "wanted", "held", "test"]
  is_source : Dn K mg "is_source" s_is_source ["source", "held", "test"]
  may_be_rule : Dn K mg "may_be_rule" s_may_be_rule ["rule"]
  rule_order : Dn K mg "rule_order" s_rule_order ["rule"]
  part_order : Dn K mg "part_order" s_part_order ["part"]
  law_pen : Dn K mg "_law_pen" s_law_pen ["script"]
  law_fresh : Dn K mg "_law_fresh" s_law_fresh ["pen"]
  law_draw : Dn K mg "_law_draw" s_law_draw ["pen", "many"]
  law_some_sources : Dn K mg "_law_some_sources" s_law_some_sources ["pen", "held", "test", "many"]
  law_rank : Dn K mg "_law_rank" s_law_rank ["rule"]
  law_outcome : Dn K mg "_law_outcome" s_law_outcome ["asked"]
  law_in : Dn K mg "_law_in" s_law_in ["value", "most"]
  law_state_due : Dn K mg "_law_state_due" s_law_state_due ["kinds", "verdict", "held"]
  law_sources_fit : Dn K mg "_law_sources_fit" s_law_sources_fit ["kinds", "state", "test", "target", "sources"]
  law_rule_due : Dn K mg "_law_rule_due" s_law_rule_due ["words", "kinds", "rules", "parts"]
  law_gone_due : Dn K mg "_law_gone_due" s_law_gone_due ["rules", "rule"]
  law_odd : Dn K mg "_law_odd" s_law_odd ["pen", "value"]
  law_verdict_due : Dn K mg "_law_verdict_due" s_law_verdict_due ["kinds", "state", "verdict"]
  law_rule_parts : Dn K mg "_law_rule_parts" s_law_rule_parts ["pen", "words", "kinds"]
  mk_Watcher : Mk K Watcher.C Watcher_init.f
  bt_rule_order : ∀ (s : Shared) (v : Value), BindsTo s rule_order.fd ⟨[v], []⟩ [("rule", v)]
  bt_part_order : ∀ (s : Shared) (v : Value), BindsTo s part_order.fd ⟨[v], []⟩ [("part", v)]
  tf_Watcher_len : PySem.W.typeIn K (.ref Watcher_len.f) = some (.type "function")
  NotAWord : En K mg OwnE.bVE "NotAWord" "word" "NotAWord.__init__"
  NotAVerdict : En K mg OwnE.bVE "NotAVerdict" "verdict" "NotAVerdict.__init__"
  InvalidTest : En K mg OwnE.bVE "InvalidTest" "test" "InvalidTest.__init__"
  InvalidSources : En K mg OwnE.bVE "InvalidSources" "sources" "InvalidSources.__init__"
  UnknownState : En K mg OwnE.bLE "UnknownState" "state" "UnknownState.__init__"
  RuleExists : En K mg OwnE.bRE "RuleExists" "rule" "RuleExists.__init__"
  LimitExceeded : En K mg OwnE.bOE "LimitExceeded" "limit" "LimitExceeded.__init__"
  UnknownRule : En K mg OwnE.bLE "UnknownRule" "rule" "UnknownRule.__init__"
  ap_LimitExceeded_NotAVerdict : PySem.W.subIn K (.ref LimitExceeded.C) (.ref NotAVerdict.C) = some false
  ap_UnknownState_NotAVerdict : PySem.W.subIn K (.ref UnknownState.C) (.ref NotAVerdict.C) = some false
  ap_UnknownState_LimitExceeded : PySem.W.subIn K (.ref UnknownState.C) (.ref LimitExceeded.C) = some false
  ap_NotAWord_NotAVerdict : PySem.W.subIn K (.ref NotAWord.C) (.ref NotAVerdict.C) = some false
  ap_NotAWord_LimitExceeded : PySem.W.subIn K (.ref NotAWord.C) (.ref LimitExceeded.C) = some false
  ap_NotAWord_UnknownState : PySem.W.subIn K (.ref NotAWord.C) (.ref UnknownState.C) = some false
  ap_InvalidTest_NotAVerdict : PySem.W.subIn K (.ref InvalidTest.C) (.ref NotAVerdict.C) = some false
  ap_InvalidTest_LimitExceeded : PySem.W.subIn K (.ref InvalidTest.C) (.ref LimitExceeded.C) = some false
  ap_InvalidTest_UnknownState : PySem.W.subIn K (.ref InvalidTest.C) (.ref UnknownState.C) = some false
  ap_InvalidTest_NotAWord : PySem.W.subIn K (.ref InvalidTest.C) (.ref NotAWord.C) = some false
  ap_InvalidSources_NotAVerdict : PySem.W.subIn K (.ref InvalidSources.C) (.ref NotAVerdict.C) = some false
  ap_InvalidSources_LimitExceeded : PySem.W.subIn K (.ref InvalidSources.C) (.ref LimitExceeded.C) = some false
  ap_InvalidSources_UnknownState : PySem.W.subIn K (.ref InvalidSources.C) (.ref UnknownState.C) = some false
  ap_InvalidSources_NotAWord : PySem.W.subIn K (.ref InvalidSources.C) (.ref NotAWord.C) = some false
  ap_InvalidSources_InvalidTest : PySem.W.subIn K (.ref InvalidSources.C) (.ref InvalidTest.C) = some false
  ap_RuleExists_NotAVerdict : PySem.W.subIn K (.ref RuleExists.C) (.ref NotAVerdict.C) = some false
  ap_RuleExists_LimitExceeded : PySem.W.subIn K (.ref RuleExists.C) (.ref LimitExceeded.C) = some false
  ap_RuleExists_UnknownState : PySem.W.subIn K (.ref RuleExists.C) (.ref UnknownState.C) = some false
  ap_RuleExists_NotAWord : PySem.W.subIn K (.ref RuleExists.C) (.ref NotAWord.C) = some false
  ap_RuleExists_InvalidTest : PySem.W.subIn K (.ref RuleExists.C) (.ref InvalidTest.C) = some false
  ap_RuleExists_InvalidSources : PySem.W.subIn K (.ref RuleExists.C) (.ref InvalidSources.C) = some false
  ap_UnknownRule_NotAVerdict : PySem.W.subIn K (.ref UnknownRule.C) (.ref NotAVerdict.C) = some false
  ap_UnknownRule_LimitExceeded : PySem.W.subIn K (.ref UnknownRule.C) (.ref LimitExceeded.C) = some false
  ap_UnknownRule_UnknownState : PySem.W.subIn K (.ref UnknownRule.C) (.ref UnknownState.C) = some false
  ap_UnknownRule_NotAWord : PySem.W.subIn K (.ref UnknownRule.C) (.ref NotAWord.C) = some false
  ap_UnknownRule_InvalidTest : PySem.W.subIn K (.ref UnknownRule.C) (.ref InvalidTest.C) = some false
  ap_UnknownRule_InvalidSources : PySem.W.subIn K (.ref UnknownRule.C) (.ref InvalidSources.C) = some false
  ap_UnknownRule_RuleExists : PySem.W.subIn K (.ref UnknownRule.C) (.ref RuleExists.C) = some false
  ck_MOST_WORDS : Tok
  g_MOST_WORDS : mg "MOST_WORDS" = some (.int 3 ck_MOST_WORDS)
  ck_MOST_STATES : Tok
  g_MOST_STATES : mg "MOST_STATES" = some (.int 6 ck_MOST_STATES)
  ck_MOST_HELD : Tok
  g_MOST_HELD : mg "MOST_HELD" = some (.int 3 ck_MOST_HELD)
  ck_MOST_VERDICT : Tok
  g_MOST_VERDICT : mg "MOST_VERDICT" = some (.int 3 ck_MOST_VERDICT)
  ck_NEW : Tok
  g_NEW : mg "NEW" = some (.str "new" ck_NEW)
  ck_VALUE : Tok
  g_VALUE : mg "VALUE" = some (.str "value" ck_VALUE)
  m_list : mg "list" = none
  m_len : mg "len" = none
  m_range : mg "range" = none
  m_tuple : mg "tuple" = none
  m_isinstance : mg "isinstance" = none
  m_bool : mg "bool" = none
  m_int : mg "int" = none
  m_sorted : mg "sorted" = none
  m_set : mg "set" = none
  m_repr : mg "repr" = none
  m_enumerate : mg "enumerate" = none
  m_str : mg "str" = none
/-! ### the pen: cells of the script, drawn one by one -/
def cutAll (ns : List Int) (h : ns.length ≤ 63) : cutV (ns.map V.int) none (some 63) = ns.map V.int := by
  unfold cutV
  rw [show HT.sIx (ns.map V.int).length 0 none = 0 from HT.sIx_none _ _, show HT.sIx (ns.map V.int).length (ns.map V.int).length (some 63) = min 63 (ns.map V.int).length from HT.sIx_nat _ _ 63]
  rw [List.drop_zero, Nat.sub_zero, List.length_map, Nat.min_eq_right h]
  exact List.take_of_length_le (by rw [List.length_map]; exact Nat.le_refl _)
/-- but at p, what was tracked is as it was -/
def Keep (p : Addr) (H H' : Hp) : Prop := ∀ b o, H b = some o → b ≠ p → H' b = some o
theorem Keep.refl {p : Addr} {H : Hp} : Keep p H H := fun _ _ h _ => h
theorem Keep.trans {p : Addr} {H H1 H2 : Hp} (a : Keep p H H1) (b : Keep p H1 H2) : Keep p H H2 := fun c o h n => b c o (a c o h n) n
theorem Keep.new {p q : Addr} {H : Hp} {o : HO} (h : H q = none) : Keep p H (upd H q o) := fun b u e _ => by rw [upd_ne (ne_of_none e h)]; exact e
theorem Keep.at {p : Addr} {H H1 : Hp} {o : HO} (a : Keep p H H1) : Keep p H (upd H1 p o) := fun b u e n => by rw [upd_ne n]; exact a b u e n
theorem Keep.same {p : Addr} {H H1 : Hp} (h : Same H H1) : Keep p H H1 := fun b o e _ => h b o e
/-- the pen stands at p, its cells at c -/
def PenIs (H : Hp) (p c : Addr) (ns : List Int) (at_ st : Int) : Prop := H p = some (.lst [.ref c, .int at_, .int st]) ∧ H c = some (.lst (ns.map V.int))
def Pen (H : Hp) (p c : Addr) : Prop := ∃ ns at_ st, PenIs H p c ns at_ st ∧ 0 ≤ at_ ∧ 0 ≤ st ∧ ns.length ≤ 63
theorem PenIs.ne {H : Hp} {p c : Addr} {ns : List Int} {a z : Int} (h : PenIs H p c ns a z) : p ≠ c := by
  refine ne_of h.1 h.2 ?_
  intro e
  cases ns with
  | nil => cases e
  | cons x r => cases e
theorem Pen.ne {H : Hp} {p c : Addr} (h : Pen H p c) : p ≠ c := by
  obtain ⟨_, _, _, h, _⟩ := h
  exact h.ne
theorem Pen.mono {H H' : Hp} {p c : Addr} (h : Pen H p c) (e : Same H H') : Pen H' p c := by
  obtain ⟨ns, a, z, h, r⟩ := h
  exact ⟨ns, a, z, ⟨e _ _ h.1, e _ _ h.2⟩, r⟩
theorem Pen.free {H : Hp} {p c q : Addr} (h : Pen H p c) (e : H q = none) : p ≠ q ∧ c ≠ q := by
  obtain ⟨ns, a, z, h, r⟩ := h
  exact ⟨ne_of_none h.1 e, ne_of_none h.2 e⟩
theorem Pen.tups {H H' : Hp} {p c : Addr} (h : Pen H p c) (k : Keep p H H') : Tups H H' := fun a xs e => by
  obtain ⟨ns, x, z, ⟨h1, _⟩, _⟩ := h
  exact k a _ e (ne_of e h1 (fun z => by cases z))
theorem Pen.at {H : Hp} {p c : Addr} (h : Pen H p c) : ∃ l, H p = some (.lst l) := by
  obtain ⟨ns, x, z, ⟨h1, _⟩, _⟩ := h
  exact ⟨_, h1⟩
theorem Pen.put {H : Hp} {p c a : Addr} {o : HO} (h : Pen H p c) (n1 : a ≠ p) (n2 : a ≠ c) : Pen (upd H a o) p c := by
  obtain ⟨ns, x, z, ⟨h1, h2⟩, r⟩ := h
  exact ⟨ns, x, z, ⟨by rw [upd_ne n1.symm]; exact h1, by rw [upd_ne n2.symm]; exact h2⟩, r⟩
def sp_law_pen (K : PySem.W.Frag) : Sp := fun vs H Q _ => ∃ (a : Addr) (ns : List Int), vs = [.ref a] ∧ SqL K H a (ns.map V.int) ∧ ns.length ≤ 63 ∧
  ∀ p c H', Same H H' → H p = none → H c = none → Pen H' p c → Q (.ref p) H'
def sp_law_fresh : Sp := fun vs H Q _ => ∃ (p c : Addr) (ns : List Int) (a z : Int), vs = [.ref p] ∧ PenIs H p c ns a z ∧ 0 ≤ a ∧ ns.length ≤ 63 ∧
  ∀ r H', 0 ≤ r → Keep p H H' → PenIs H' p c ns (a + 1) z → Q (.int r) H'
def sp_law_draw : Sp := fun vs H Q _ => ∃ (p c : Addr) (many : Int), vs = [.ref p, .int many] ∧ Pen H p c ∧ 0 < many ∧ many < 2 ^ 100 ∧
  ∀ d H', 0 ≤ d → d < many → Keep p H H' → Pen H' p c → Q (.int d) H'
section
variable {P : Program} {w : World} {K : PySem.W.Frag} {mg : Str → Option Value} {base : Heap}
abbrev N_law_pen : List Str := ["script"]
theorem sc_law_pen : FnScope N_law_pen ["script"] (defScope s_law_pen) := ⟨rfl, rfl, rfl, by decide +kernel, rfl, by decide +kernel, by decide +kernel⟩
theorem ok_law_pen {f : Addr} {fd : FuncData} {k : Nat} (F : Fun K "_law_pen" "_law_pen" s_law_pen f fd) (m_list : mg "list" = none) : FnG P w K mg base CX0 (k + 1) f fd ["script"] (sp_law_pen K) := by
  refine okG F sc_law_pen (fun vs H Q E h => ?_) (fun cdv A outer s H vs Q E gd hr h => ?_)
  · obtain ⟨a, ns, rfl, _⟩ := h
    rfl
  · obtain ⟨a, ns, rfl, hS, hl, q⟩ := h
    refine ⟨_,
      (pss_one (ps_ret (pe_lst (pa_cons (pe_callTy call_list_of (by rfl) m_list (by decide +kernel) (pa_cons (pe_slice sl_list (pv 0) po_none (po_some pe_int)) pa_nil)) (pa_cons pe_int (pa_cons pe_int pa_nil))))))
       , ?_⟩
    refine ⟨.ref a, rfl, 63, rfl, a, ns.map V.int, rfl, hS, fun b nb => ?_⟩
    rw [cutAll ns hl]
    refine ⟨b, ns.map V.int, rfl, .inl (.inl (.inl upd_same)), fun c nc => ?_⟩
    refine ⟨(by show 3 ≤ sizeLine; decide), fun p np => ?_⟩
    have s1 : Same H (upd H b (.lst (ns.map V.int))) := fun x o e => by walk_at "hp"
    have nc0 : H c = none := s1.free nc
    have s2 : Same H (upd (upd H b (.lst (ns.map V.int))) c (.lst (ns.map V.int))) := fun x o e => (by walk_at "hp")
    have np0 : H p = none := s2.free np
    have npc : c ≠ p := ne_of_none upd_same np
    refine q p c _ (fun x o e => ?_) np0 nc0 ⟨ns, 0, 0, ⟨upd_same, ?_⟩, by decide, by decide, hl⟩
    · have := s2 x o e
      walk_at "hp"
    · walk_at "hp"
abbrev N_law_fresh : List Str := ["pen", "at", "cell", "p", "state", "found", "turn"]
theorem sc_law_fresh : FnScope N_law_fresh ["pen"] (defScope s_law_fresh) := ⟨rfl, rfl, rfl, by decide +kernel, rfl, by decide +kernel, by decide +kernel⟩
theorem ok_law_fresh {f : Addr} {fd : FuncData} {k : Nat} (F : Fun K "_law_fresh" "_law_fresh" s_law_fresh f fd) (m_len : mg "len" = none) (m_range : mg "range" = none) : FnG P w K mg base CX0 (k + 1) f fd ["pen"] sp_law_fresh := by
  refine okG F sc_law_fresh (fun vs H Q E h => ?_) (fun cdv A outer s H vs Q E gd hr h => ?_)
  · obtain ⟨p, c, ns, a, z, rfl, _⟩ := h
    rfl
  · obtain ⟨p, c, ns, a, z, rfl, hP, ha, hl, q⟩ := h
    obtain ⟨hp, hc⟩ := id hP
    have npc := hP.ne
    refine ⟨_,
      (pss_cons (ps_set (i := 1) sc_law_fresh.nd rfl (.inl rfl) (pe_ix ix_list (pv 0) pe_int (fun _ _ => rfl))) -- at = pen[1]
      (pss_cons (ps_asg (pe_op op_add (pv 1) pe_int) (pg_sub (pv 0) pe_int set_list)) -- pen[1] = at + 1
      (pss_cons (ps_set (i := 2) sc_law_fresh.nd rfl (.inl rfl) pe_int) -- cell = 0
      (C8.pss_cut (ps_if (pt_cmpR (op_neD hr.units) (pe_ix ix_list (pv 0) pe_int (fun _ _ => rfl)) (pe_lst pa_nil) (nomark _)) 
        (pss_one (ps_set (i := 2) sc_law_fresh.nd rfl (.inl rfl) (pe_ix ix_list (pe_ix ix_list (pv 0) pe_int (fun _ _ => rfl)) (pe_op op_mod (pv 1) (pe_callB call_len_seq (by rfl) m_len PySem.boot_len (pa_cons (pe_ix ix_list (pv 0) pe_int (fun _ _ => rfl)) pa_nil))) (fun _ _ => rfl)))) -- cell = pen[0][at % len(pen[0])]
         pss_nil) -- if pen[0] != []:
      (C8.pss_cut (ps_if (PW.pt (pw_and (pt_cmpR op_lt (pv 1) (pe_callB call_len_seq (by rfl) m_len PySem.boot_len (pa_cons (pe_ix ix_list (pv 0) pe_int (fun _ _ => rfl)) pa_nil)) (nomark _)) (pw_and1 (pt_cmpR op_ge (pv 2) (pe_op op_pow pe_int pe_int) (nomark _))))) 
        (pss_one (ps_ret (pe_op op_sub (pv 2) (pe_op op_pow pe_int pe_int)))) -- return cell - 10 ** 18
         pss_nil) -- if at < len(pen[0]) and cell >= 10 ** 18:
      (pss_cons (ps_set (i := 3) sc_law_fresh.nd rfl (.inl rfl) pe_int) -- p = 2305843009213693951
      (pss_cons (ps_set (i := 4) sc_law_fresh.nd rfl (.inl rfl) (pe_op op_mod (pe_op op_add (pe_op op_add (pe_op op_mul (pv 2) pe_int) (pe_op op_mul pe_int (pv 1))) pe_int) (pv 3))) -- state = (cell * 48271 + 40692 * at + 31) % p
      (pss_cons (ps_set (i := 5) sc_law_fresh.nd rfl (.inl rfl) (pv 4)) -- found = state
      (pss_cons (ps_for PassesOwn.never rfl (pi_range1 rfl m_range (pa_cons pe_int pa_nil)) (pg_name (i := 6) sc_law_fresh.nd rfl (.inl rfl)) 
        (pss_cons (ps_set (i := 4) sc_law_fresh.nd rfl (.inl rfl) (pe_op op_mod (pe_op op_add (pe_op op_add (pe_op op_mul (pv 4) (pv 4)) (pe_op op_mul (pe_op op_mul pe_int (pe_op op_add (pv 6) pe_int)) (pe_op op_add (pv 1) pe_int))) (pv 2)) (pv 3))) -- state = (state * state + 69621 * (turn + 1) * (at + 1) + cell) % p
        (pss_one (ps_set (i := 5) sc_law_fresh.nd rfl (.inl rfl) (pe_op op_add (pe_op op_mul (pv 5) (pv 3)) (pv 4)))) -- found = found * p + state
        )) -- for turn in range(6):
      (pss_one (ps_ret (pv 5))) -- return found
      ))))))))) , ?_⟩
    -- at = pen[1]; pen[1] = at + 1; cell = 0
    refine ⟨.ref p, rfl, p, _, 1, .int a, rfl, rfl, .inl (.inl hp), rfl, ?_⟩
    refine ⟨.int a, rfl, a, 1, rfl, rfl, .ref p, rfl, p, _, 1, 1, rfl, rfl, hp, rfl, ?_⟩
    generalize hH1 : upd H p (.lst ([V.ref c, V.int a, V.int z].set 1 (V.int (a + 1)))) = H1
    have hp1 : H1 p = some (.lst [.ref c, .int (a + 1), .int z]) := by rw [← hH1]; exact upd_same
    have hc1 : H1 c = some (.lst (ns.map V.int)) := by rw [← hH1, upd_ne npc.symm]; exact hc
    have kp1 : Keep p H H1 := by rw [← hH1]; exact Keep.refl.at
    clear hH1
    -- if pen[0] != []: cell = ..
    refine ⟨fun σ H' => ∃ cell : Int, σ = [some (.ref p), some (.int a), some (.int cell), none, none, none, none] ∧ Keep p H H' ∧ H' p = some (.lst [.ref c, .int (a + 1), .int z]) ∧ H' c = some (.lst (ns.map V.int)), ?_, ?_⟩
    · refine ⟨.ref p, rfl, p, _, 0, .ref c, rfl, rfl, .inl (.inl hp1), rfl, by show 0 ≤ sizeLine; decide, fun e ne => ?_⟩
      have hc2 : (upd H1 e (.lst [])) c = some (.lst (ns.map V.int)) := by walk_at "hp"
      have hp2 : (upd H1 e (.lst [])) p = some (.lst [.ref c, .int (a + 1), .int z]) := by walk_at "hp"
      have kp2 : Keep p H (upd H1 e (.lst [])) := kp1.trans (Keep.new ne)
      have he2 : (upd H1 e (.lst [])) e = some (.lst []) := upd_same
      generalize upd H1 e (.lst []) = H2 at hc2 hp2 kp2 he2 ⊢
      refine ⟨.list (ns.map PyData.int), .list [], .lst (.inl (.inl hc2)) (dp_ints _ _ ns), .lst (.inl (.inl he2)) .nil, shaped_ints ns, rfl, _, rfl, ite2 (fun hb => ?_) (fun hb => ?_)⟩
      · have hn : 0 < ns.length := by
          cases ns with
          | nil => cases hb
          | cons x r => exact Nat.succ_pos _
        obtain ⟨j, hj, ej⟩ : ∃ j : Nat, j < ns.length ∧ a % (ns.length : Int) = j := by
          refine ⟨(a % (ns.length : Int)).toNat, ?_, ?_⟩
          · have := Int.emod_lt_of_pos a (show (0 : Int) < ns.length by omega)
            have := Int.emod_nonneg a (show (ns.length : Int) ≠ 0 by omega)
            omega
          · have := Int.emod_nonneg a (show (ns.length : Int) ≠ 0 by omega)
            omega
        refine ⟨.ref p, rfl, p, _, 0, .ref c, rfl, rfl, .inl (.inl hp2), rfl, .int a, rfl, .ref p, rfl, p, _, 0, .ref c, rfl, rfl, .inl (.inl hp2), rfl, c, _, rfl, .inl (.inl (.inl hc2)), a, _, rfl, rfl, (by rw [List.length_map]; show (0 : Int) < ns.length; omega), c, _, _, .int ns[j], rfl, rfl, .inl (.inl hc2), ?_, ?_⟩
        · rw [List.length_map, ej]
          exact atI_nat (by rw [List.getElem?_map, List.getElem?_eq_getElem hj]; rfl)
        · exact ⟨ns[j], rfl, kp2, hp2, hc2⟩
      · exact ⟨0, rfl, kp2, hp2, hc2⟩
    · rintro σ H2 ⟨cell, rfl, kp2, hp2, hc2⟩
      have done : ∀ r : Int, 0 ≤ r → Q (.int r) H2 := fun r h0 => q r H2 h0 kp2 ⟨hp2, hc2⟩
      -- if at < len(pen[0]) and cell >= 10 ** 18: return cell - 10 ** 18
      refine ⟨fun σ H' => σ = [some (.ref p), some (.int a), some (.int cell), none, none, none, none] ∧ H' = H2, ?_, ?_⟩
      · refine ⟨.int a, rfl, .ref p, rfl, p, _, 0, .ref c, rfl, rfl, .inl (.inl hp2), rfl, c, _, rfl, .inl (.inl (.inl hc2)), a, _, rfl, rfl, _, rfl, ite2 (fun h1 => ?_) (fun h1 => ?_)⟩
        · refine ⟨.int cell, rfl, 10, 18, rfl, rfl, ⟨by decide, by decide, by decide⟩, cell, _, rfl, rfl, _, rfl, ite2 (fun h2 => ?_) (fun h2 => ?_)⟩
          · refine ⟨.int cell, rfl, 10, 18, rfl, rfl, ⟨by decide, by decide, by decide⟩, cell, _, rfl, rfl, done _ ?_⟩
            have := of_decide_eq_true h2
            omega
          · exact ⟨rfl, rfl⟩
        · exact ⟨rfl, rfl⟩
      · rintro σ H3 ⟨rfl, rfl⟩
        -- p = ..; state = (cell * 48271 + 40692 * at + 31) % p; found = state
        refine ⟨.int cell, rfl, cell, 48271, rfl, rfl, .inr ⟨by decide, by decide⟩, .int a, rfl, 40692, a, rfl, rfl, .inl ⟨by decide, by decide⟩, _, _, rfl, rfl, _, _, rfl, rfl, .int 2305843009213693951, rfl, _, _, rfl, rfl, (by show (0 : Int) < 2305843009213693951; decide), ?_⟩
        dsimp only
        generalize hst : (cell * 48271 + 40692 * a + 31) % 2305843009213693951 = st
        have h0 : 0 ≤ st := by rw [← hst]; exact Int.emod_nonneg _ (by decide)
        have h1 : st < 2305843009213693951 := by rw [← hst]; exact Int.emod_lt_of_pos _ (by decide)
        clear hst
        refine ⟨.int st, rfl, 6, rfl, by decide, by decide, ?_⟩
        refine for_range (n := 6) (fun _ σ H' => ∃ st fd tn, σ = [some (.ref p), some (.int a), some (.int cell), some (.int 2305843009213693951), some (.int st), some (.int fd), tn] ∧ H' = H3 ∧ 0 ≤ st ∧ st < 2305843009213693951 ∧ 0 ≤ fd) ?_ ?_ ?_
        · exact ⟨st, st, none, rfl, rfl, h0, h1, h0⟩
        · rintro i σ H4 hi ⟨st, fd, tn, rfl, rfl, h0, h1, h2⟩
          have hi' : (i : Int) < 6 := by omega
          refine ⟨.int st, rfl, .int st, rfl, st, st, rfl, rfl, .inl ⟨by omega, by omega⟩, .int (0 + (i : Int)), rfl, 0 + (i : Int), 1, rfl, rfl, 69621, _, rfl, rfl, .inl ⟨by decide, by decide⟩, .int a, rfl, a, 1, rfl, rfl, 69621 * (0 + (i : Int) + 1), a + 1, rfl, rfl, .inl ⟨by omega, by omega⟩, _, _, rfl, rfl, .int cell, rfl, _, _, rfl, rfl, .int 2305843009213693951, rfl, _, _, rfl, rfl, (by show (0 : Int) < 2305843009213693951; decide), ?_⟩
          dsimp only
          generalize hst : (st * st + 69621 * (0 + (i : Int) + 1) * (a + 1) + cell) % 2305843009213693951 = st'
          have h0' : 0 ≤ st' := by rw [← hst]; exact Int.emod_nonneg _ (by decide)
          have h1' : st' < 2305843009213693951 := by rw [← hst]; exact Int.emod_lt_of_pos _ (by decide)
          refine ⟨.int fd, rfl, .int 2305843009213693951, rfl, fd, 2305843009213693951, rfl, rfl, .inr ⟨by decide, by decide⟩, .int st', rfl, _, _, rfl, rfl, ?_⟩
          exact ⟨st', fd * 2305843009213693951 + st', _, rfl, rfl, h0', h1', by omega⟩
        · rintro σ H4 ⟨st, fd, tn, rfl, rfl, h0, h1, h2⟩
          exact ⟨.int fd, rfl, done fd h2⟩
abbrev N_law_draw : List Str := ["pen", "many", "digit"]
theorem sc_law_draw : FnScope N_law_draw ["pen", "many"] (defScope s_law_draw) := ⟨rfl, rfl, rfl, by decide +kernel, rfl, by decide +kernel, by decide +kernel⟩
theorem ok_law_draw {f f_law_fresh : Addr} {fd fd_law_fresh : FuncData} (F : Fun K "_law_draw" "_law_draw" s_law_draw f fd) (F_law_fresh : Fun K "_law_fresh" "_law_fresh" s_law_fresh f_law_fresh fd_law_fresh) (b_law_fresh : Binds K fd_law_fresh ["pen"] []) (g_law_fresh : mg "_law_fresh" = some (.ref f_law_fresh))
    (m_len : mg "len" = none) (m_range : mg "range" = none) : FnG P w K mg base CX0 2 f fd ["pen", "many"] sp_law_draw := by
  have G_law_fresh : FnG P w K mg base CX0 1 f_law_fresh fd_law_fresh ["pen"] sp_law_fresh := ok_law_fresh F_law_fresh m_len m_range
  refine okG F sc_law_draw (fun vs H Q E h => ?_) (fun cdv A outer s H vs Q E gd hr h => ?_)
  · obtain ⟨p, c, m, rfl, _⟩ := h
    rfl
  · obtain ⟨p, c, m, rfl, hP, m0, m1, q⟩ := h
    obtain ⟨ns, a, z, hI, ha, hz, hl⟩ := id hP
    refine ⟨_,
      (C8.pss_cut (ps_if (pt_cmpR op_lt (pe_ix ix_list (pv 0) pe_int (fun _ _ => rfl)) (pv 1) (nomark _)) 
        (pss_one (ps_asg (pe_callG G_law_fresh gd (hr.mono (by decide)) rfl g_law_fresh F_law_fresh.kp b_law_fresh .nil pass0 (pa_cons (pv 0) pa_nil)) (pg_sub (pv 0) pe_int set_list))) -- pen[2] = _law_fresh(pen)
         pss_nil) -- if pen[2] < many:
      (pss_cons (ps_set (i := 2) sc_law_draw.nd rfl (.inl rfl) (pe_op op_mod (pe_ix ix_list (pv 0) pe_int (fun _ _ => rfl)) (pv 1))) -- digit = pen[2] % many
      (pss_cons (ps_asg (pe_op op_fdivW (pe_ix ix_list (pv 0) pe_int (fun _ _ => rfl)) (pv 1)) (pg_sub (pv 0) pe_int set_list)) -- pen[2] = pen[2] // many
      (pss_one (ps_ret (pv 2))) -- return digit
      ))) , ?_⟩
    refine ⟨fun σ H' => σ = [some (.ref p), some (.int m), none] ∧ Keep p H H' ∧ ∃ a z : Int, PenIs H' p c ns a z ∧ 0 ≤ a ∧ 0 ≤ z, ?_, ?_⟩
    · refine ⟨.ref p, rfl, p, _, 2, .int z, rfl, rfl, .inl (.inl hI.1), rfl, .int m, rfl, z, m, rfl, rfl, _, rfl, ite2 (fun h1 => ?_) (fun h1 => ?_)⟩
      · refine ⟨.ref p, rfl, p, c, ns, a, z, rfl, hI, ha, hl, fun r H1 hr0 kp hI1 => ?_⟩
        have ne := hI1.ne
        refine ⟨.ref p, rfl, p, _, 2, 2, rfl, rfl, hI1.1, rfl, rfl, kp.at, a + 1, r, ⟨upd_same, ?_⟩, by omega, hr0⟩
        rw [upd_ne ne.symm]
        exact hI1.2
      · exact ⟨rfl, Keep.refl, a, z, hI, ha, hz⟩
    · rintro σ H1 ⟨rfl, kp, a, z, hI, ha, hz⟩
      have ne := hI.ne
      refine ⟨.ref p, rfl, p, _, 2, .int z, rfl, rfl, .inl (.inl hI.1), rfl, .int m, rfl, z, m, rfl, rfl, m0, ?_⟩
      refine ⟨.ref p, rfl, p, _, 2, .int z, rfl, rfl, .inl (.inl hI.1), rfl, .int m, rfl, z, m, rfl, rfl, div_wide m0 m1, .ref p, rfl, p, _, 2, 2, rfl, rfl, hI.1, rfl, ?_⟩
      refine ⟨.int (z % m), rfl, q _ _ (Int.emod_nonneg _ (by omega)) (Int.emod_lt_of_pos _ m0) kp.at ⟨ns, a, z / m, ⟨upd_same, ?_⟩, ha, Int.ediv_nonneg hz (by omega), hl⟩⟩
      rw [upd_ne ne.symm]
      exact hI.2
end

/-! ### integers -/
/-- an integer from lo to hi -/
def btw (d : PyData) (lo hi : Int) : Bool := match d with
  | .int n => decide (lo ≤ n) && decide (n ≤ hi)
  | _ => false
def isI (d : PyData) : Bool := isIntD d && !isBoolD d
def sp_is_integer : Sp := fun vs H Q _ => ∃ (p : Addr) (v : V) (d : PyData), vs = [v] ∧ LD p H v d ∧ Q (.bl (isI d)) H
def sp_is_between : Sp := fun vs H Q _ => ∃ (p : Addr) (v : V) (d : PyData) (lo hi : Int), vs = [v, .int lo, .int hi] ∧ LD p H v d ∧ Q (.bl (btw d lo hi)) H
section
variable {P : Program} {w : World} {K : PySem.W.Frag} {mg : Str → Option Value} {base : Heap}
abbrev N_is_integer : List Str := ["value"]
theorem sc_is_integer : FnScope N_is_integer ["value"] (defScope s_is_integer) := ⟨rfl, rfl, rfl, by decide +kernel, rfl, by decide +kernel, by decide +kernel⟩
theorem ok_is_integer {f : Addr} {fd : FuncData} {k : Nat} (F : Fun K "is_integer" "is_integer" s_is_integer f fd) (m_isinstance : mg "isinstance" = none) (m_int : mg "int" = none) (m_bool : mg "bool" = none) : FnOk P w K mg base CX0 (k + 1) f fd ["value"] sp_is_integer := by
  refine okO F sc_is_integer (fun vs H Q E h => ?_) (fun cdv A outer s H vs Q E gd hr h => ?_)
  · obtain ⟨p, v, d, rfl, _⟩ := h
    rfl
  · obtain ⟨p, v, d, rfl, hv, q⟩ := h
    refine ⟨_, 
      (pss_one (ps_ret (pe_and (pe_callB (call_isL kit_int) (by rfl) m_isinstance (by decide +kernel) (pa_cons (pv 0) (pa_cons (pe_bltn (v := .ty "int") (by rfl) m_int (by decide +kernel) (show RelV (.ty "int") (.type "int") from rfl)) pa_nil))) (pe_one (pe_not (pe_callB (call_isL kit_bool) (by rfl) m_isinstance (by decide +kernel) (pa_cons (pv 0) (pa_cons (pe_bltn (v := .ty "bool") (by rfl) m_bool (by decide +kernel) (show RelV (.ty "bool") (.type "bool") from rfl)) pa_nil)))))))) -- return isinstance(value, int) and (not isinstance(value, bool))
       , ?_⟩
    refine ⟨v, rfl, p, v, d, rfl, hv, _, rfl, ?_⟩
    unfold isI at q
    cases hi : isIntD d with
    | false =>
      rw [hi] at q
      exact q
    | true =>
      rw [hi] at q
      exact ⟨v, rfl, p, v, d, rfl, hv, _, rfl, q⟩
abbrev N_is_between : List Str := ["value", "low", "high"]
theorem sc_is_between : FnScope N_is_between ["value", "low", "high"] (defScope s_is_between) := ⟨rfl, rfl, rfl, by decide +kernel, rfl, by decide +kernel, by decide +kernel⟩
theorem ok_is_between {f f_is_integer : Addr} {fd fd_is_integer : FuncData} (F : Fun K "is_between" "is_between" s_is_between f fd) (F_is_integer : Fun K "is_integer" "is_integer" s_is_integer f_is_integer fd_is_integer) (b_is_integer : Binds K fd_is_integer ["value"] [])
    (g_is_integer : mg "is_integer" = some (.ref f_is_integer)) (m_isinstance : mg "isinstance" = none) (m_int : mg "int" = none) (m_bool : mg "bool" = none) : FnOk P w K mg base CX0 2 f fd ["value", "low", "high"] sp_is_between := by
  have O_is_integer : FnOk P w K mg base CX0 1 f_is_integer fd_is_integer ["value"] sp_is_integer := ok_is_integer F_is_integer m_isinstance m_int m_bool
  refine okO F sc_is_between (fun vs H Q E h => ?_) (fun cdv A outer s H vs Q E gd hr h => ?_)
  · obtain ⟨p, v, d, lo, hi, rfl, _⟩ := h
    rfl
  · obtain ⟨p, v, d, lo, hi, rfl, hv, q⟩ := h
    refine ⟨_, 
      (pss_one (ps_ret (pe_and (pe_callO O_is_integer gd (hr.mono (by decide)) rfl g_is_integer F_is_integer.kp b_is_integer .nil pass0 (pa_cons (pv 0) pa_nil)) (pe_one (pe_chain op_le op_le (pv 1) (pv 0) (pv 2)))))) -- return is_integer(value) and low <= value <= high
       , ?_⟩
    refine ⟨v, rfl, p, v, d, rfl, hv, _, rfl, ?_⟩
    cases hv with
    | int n => 
      refine ⟨.int lo, rfl, .int n, rfl, lo, n, rfl, rfl, _, rfl, ite2 (fun h1 => ?_) (fun h1 => ?_)⟩
      · refine ⟨.int hi, rfl, n, hi, rfl, rfl, ?_⟩
        have q' : Q (.bl (decide (lo ≤ n) && decide (n ≤ hi))) H := q
        rw [h1] at q'
        exact q'
      · have q' : Q (.bl (decide (lo ≤ n) && decide (n ≤ hi))) H := q
        rw [Bool.eq_false_iff.mpr h1] at q'
        exact q'
    | _ => exact q
end

/-! ### rule_order: called by sorted, so at the library's level -/
section
open PySem.W PySem.Calls
variable {P : Program} {w : World} {K : PySem.W.Frag} {mg : Str → Option Value} {A : Around} {E : Value → Shared → Prop} {s : Shared}
theorem asg_all {env : Env} {elts : List Expr} {k : Nat} {pos : Pos} {v : Value} {Q : Unit → Shared → Prop} (h : wpAny (model P w) A (assign (.Tuple elts k pos) env v) Q E s) :
    wpAny (model P w) A (assignAll v ((assignEach [.Tuple elts k pos] env).map (·.2))) Q E s := h
theorem spl_cons {env : Env} {e : Expr} {es : List Expr} {pos : Pos} {Q : List Value → Shared → Prop} (hs : starEach (e :: es) env = (false, eval e env) :: starEach es env)
    (h : wpAny (model P w) A (eval e env) (fun v s1 => wpAny (model P w) A (spliced (backTo pos (starEach es env))) (fun vs s2 => Q (v :: vs) s2) E s1) E s) :
    wpAny (model P w) A (spliced (backTo pos (starEach (e :: es) env))) Q E s := by
  rw [hs]
  exact Calls.spliced_cons h
theorem spl_nil {env : Env} {pos : Pos} {Q : List Value → Shared → Prop} (h : Q [] s) : wpAny (model P w) A (spliced (backTo pos (starEach [] env))) Q E s := Calls.spliced_nil h
theorem ldL {q : Str} {sc : Scope} {L f : Addr} {cd : Value} {m : Str → Option Value} {x : Str} {pos : Pos} {v : Value} {Q : Value → Shared → Prop} (hk : sc.kind = .function) (hn : s.heap.Ns L m) (hv : m x = some v) (h : Q v s)
    (hl : (envOfC q sc L f cd).kindOf x = some .local := by rfl) (hd : (x == ("__debug__" : Str)) = false := by decide) :
    wpAny (model P w) A (eval (.Name x pos) (envOfC q sc L f cd)) Q E s := wpAny_Name (wpAny_loadName_local hk hl hn hv h) hd
theorem ldG {q : Str} {sc : Scope} {L f : Addr} {cd : Value} {x : Str} {pos : Pos} {v : Value} {Q : Value → Shared → Prop} (hk : sc.kind = .function) (G : s.heap.Ns mainGlobals mg) (hv : mg x = some v) (h : Q v s)
    (hl : (envOfC q sc L f cd).kindOf x = some .globalImplicit := by rfl) (hd : (x == ("__debug__" : Str)) = false := by decide) :
    wpAny (model P w) A (eval (.Name x pos) (envOfC q sc L f cd)) Q E s :=
  Calls.Name_function_global hk hl (Calls.loadGlobal_global (show s.heap.Ns mainGlobals mg from G) hv h) hd
/-- what a test is sorted by -/
theorem part_key {f : Addr} {fd : FuncData} {tN tV tM : Tok} {u : Value} {r : Int} (F : Fun K "part_order" "part_order" s_part_order f fd) (b : ∀ (s : Shared) (v : Value), BindsTo s fd ⟨[v], []⟩ [("part", v)])
    (gN : mg "NEW" = some (.str "new" tN)) (gV : mg "VALUE" = some (.str "value" tV)) (gM : mg "MOST_HELD" = some (.int 3 tM)) (X : K.In s.heap) (G : s.heap.Ns mainGlobals mg) (hlim : s.heap.NoLimit) (hroom : A.depth < recursionLimit)
    (hu : (∃ t, u = .int r t) ∨ ((∃ t, u = .str "new" t) ∧ r = 3)) :
    wpAny (model P w) A (call (.ref f) [u]) (fun v s' => (∃ t, v = .int r t) ∧ ∃ h tk, s' = { s with heap := h, toks := tk } ∧ ∀ c o, s.heap.get? c = some o → h.get? c = some o) (fun _ _ => False) s := by
  obtain ⟨oc, od, kV, doc, pm, an, cdv, ct, osl, e, lk, hcd⟩ := F.ex
  subst e
  apply wpAny_call
  refine Att.call_fn (binds := [("part", u)]) X hlim lk hcd hroom (b s u) (by rfl) (fun s1 IC => ?_) rfl rfl rfl
  obtain ⟨h1, tk1, rfl⟩ := IC.toInCall.same
  have k1 : ∀ c o, s.heap.get? c = some o → h1.get? c = some o := IC.toInCall.keep
  have n1 := IC.toInCall.ns
  have G1 : h1.Ns mainGlobals mg := G.keeps k1
  have x1 : ∀ c o, s.heap.get? c = some o → (h1.push { cls := .type "tuple", data := .seq [Value.str "new" tN, Value.str "value" tV].toArray }).get? c = some o := fun c o z => Heap.get?_push_of_some _ (k1 c o z)
  have y1 : ∀ c o, h1.get? c = some o → (h1.push { cls := .type "tuple", data := .seq [Value.str "new" tN, Value.str "value" tV].toArray }).get? c = some o := fun c o z => Heap.get?_push_of_some _ z
  have G2 := G1.keeps y1
  have n2 := n1.keeps y1
  have tu : (h1.push { cls := .type "tuple", data := .seq [Value.str "new" tN, Value.str "value" tV].toArray }).IsTuple h1.objs.size [Value.str "new" tN, Value.str "value" tV].toArray := ⟨_, Heap.get?_push_size _ rfl, rfl, _, rfl⟩
  have vs2 : Vals [V.str "new", V.str "value"] [Value.str "new" tN, Value.str "value" tV] := .cons ⟨tN, rfl⟩ (.cons ⟨tV, rfl⟩ .nil)
  have mm : ∀ {x : V} {v : Value} {A : Around} {s : Shared}, RelV x v → flatV x = true → ∀ y, y ∈ [Value.str "new" tN, Value.str "value" tV].toArray → SeqAt.EqAt A s y v (eqU x y) := fun rx fx y hy => mem_eqAt rx fx vs2 rfl y (by simpa using hy)
  show wpAny _ _ (execs (_ :: []) _) _ _ _
  refine wpAny_execs_cons (wpAny_Return_some (wpAny_IfExp (wpAny_isTrue_Compare1 ?_ rfl)))
  refine ldL rfl n1 (v := u) (by rfl) ?_
  refine wpAny_Tuple_spliced ?_
  refine spl_cons (by rfl) (ldG (s := { s with heap := h1, toks := tk1 }) (mg := mg) rfl G1 gN ?_)
  refine spl_cons (by rfl) (ldG (s := { s with heap := h1, toks := tk1 }) (mg := mg) rfl G1 gV ?_)
  refine spl_nil ⟨by show 2 ≤ sizeLine; decide, ?_⟩
  rcases hu with ⟨t, rfl⟩ | ⟨⟨t, rfl⟩, rfl⟩
  · have e0 : ([Value.str "new" tN, Value.str "value" tV].toArray).any (eqU (.int r)) = false := by
      rw [show ([Value.str "new" tN, Value.str "value" tV].toArray).any (eqU (.int r)) = [Value.str "new" tN, Value.str "value" tV].any (eqU (.int r)) by simp, any_eqU vs2 rfl]
      rfl
    refine SeqAt.in_tupleAt (eqU (.int r)) tu (mm (x := .int r) ⟨t, rfl⟩ rfl) ?_
    rw [e0]
    refine wpAny_truthy_bool ?_
    refine ldL (s := { s with heap := _, toks := tk1 }) rfl n2 (v := .int r t) (by rfl) ?_
    exact ⟨⟨_, rfl⟩, _, _, rfl, x1⟩
  · have e0 : ([Value.str "new" tN, Value.str "value" tV].toArray).any (eqU (.str "new")) = true := by
      rw [show ([Value.str "new" tN, Value.str "value" tV].toArray).any (eqU (.str "new")) = [Value.str "new" tN, Value.str "value" tV].any (eqU (.str "new")) by simp, any_eqU vs2 rfl]
      rfl
    refine SeqAt.in_tupleAt (eqU (.str "new")) tu (mm (x := .str "new") ⟨t, rfl⟩ rfl) ?_
    rw [e0]
    refine wpAny_truthy_bool ?_
    refine ldG (s := { s with heap := _, toks := tk1 }) (mg := mg) rfl G2 gM ?_
    exact ⟨⟨_, rfl⟩, _, _, rfl, x1⟩
/-- part_order and what it reads -/
def PartOk (K : PySem.W.Frag) (mg : Str → Option Value) : Prop := ∃ (fp : Addr) (fdp : FuncData) (tN tV tM : Tok), Fun K "part_order" "part_order" s_part_order fp fdp ∧ (∀ (s : Shared) (v : Value), BindsTo s fdp ⟨[v], []⟩ [("part", v)]) ∧
  mg "part_order" = some (.ref fp) ∧ mg "NEW" = some (.str "new" tN) ∧ mg "VALUE" = some (.str "value" tV) ∧ mg "MOST_HELD" = some (.int 3 tM)
theorem order_key {f a : Addr} {fd : FuncData} {t0 t1 : Tok} {i j : Int} {u : Value} {r : Int} (F : Fun K "rule_order" "rule_order" s_rule_order f fd) (b : ∀ (s : Shared) (v : Value), BindsTo s fd ⟨[v], []⟩ [("rule", v)])
    (pk : PartOk K mg) (X : K.In s.heap) (G : s.heap.Ns mainGlobals mg) (hlim : s.heap.NoLimit) (hroom : A.depth + 1 < recursionLimit) (hh : A.handled = none)
    (ht : IsTup s.heap a #[.int i t0, .int j t1, u]) (hu : (∃ t, u = .int r t) ∨ ((∃ t, u = .str "new" t) ∧ r = 3)) :
    wpAny (model P w) A (call (.ref f) [.ref a]) (KeyPure (.tuple [.int i, .int j, .int r]) s) (fun _ _ => False) s := by
  obtain ⟨fp, fdp, tN, tV, tM, Fp, bp, gp, gN, gV, gM⟩ := pk
  obtain ⟨oc, od, kV, doc, pm, an, cdv, ct, osl, e, lk, hcd⟩ := F.ex
  subst e
  apply wpAny_call
  refine Att.call_fn (binds := [("rule", .ref a)]) X hlim lk hcd (by omega) (b s (.ref a)) (by rfl) (fun s1 IC => ?_) rfl rfl rfl
  obtain ⟨h1, tk1, rfl⟩ := IC.toInCall.same
  have k1 : ∀ c o, s.heap.get? c = some o → h1.get? c = some o := IC.toInCall.keep
  have n1 := IC.toInCall.ns
  have L0 : s.heap.get? s.heap.objs.size = none := Heap.get?_none_of_le (Nat.le_refl _)
  have kL : ∀ {h' : Heap} c o, (∀ c o, c ≠ s.heap.objs.size → h1.get? c = some o → h'.get? c = some o) → s.heap.get? c = some o → h'.get? c = some o := fun {h'} c o k z => k c o (fun q => by rw [q, L0] at z; cases z) (k1 c o z)
  have ht1 : IsTup h1 a #[.int i t0, .int j t1, u] := by
    obtain ⟨o, ho, r⟩ := ht
    exact ⟨o, k1 _ _ ho, r⟩
  show wpAny _ _ (execs _ _) _ _ _
  refine wpAny_execs_cons (wpAny_Assign_stores ?_ rfl rfl)
  refine ldL rfl n1 (by rfl) ?_
  refine asg_all ?_
  refine assign_Tuple_tuple hh ht1 (by rfl) (by rfl) fun h2 x2 => ?_
  have e2 : ∀ c o, h1.get? c = some o → h2.get? c = some o := fun c o z => x2 c o (Nat.ne_of_lt (Heap.lt_size z)) z
  have n2 := n1.keeps e2
  show wpAny _ _ (assignInOrder (_ :: _ :: _ :: []) [Value.int i t0, Value.int j t1, u]) _ _ _
  refine assignInOrder_cons (wpAny_assign_Name (wpAny_storeName_local (by rfl) n2 (fun h3 n3 s3 => ?_)))
  refine assignInOrder_cons (wpAny_assign_Name (wpAny_storeName_local (by rfl) n3 (fun h4 n4 s4 => ?_)))
  refine assignInOrder_cons (wpAny_assign_Name (wpAny_storeName_local (by rfl) n4 (fun h5 n5 s5 => ?_)))
  refine assignInOrder_nil ?_
  have k5 : ∀ c o, s.heap.get? c = some o → h5.get? c = some o := fun c o z => by
    have ne : c ≠ s.heap.objs.size := Nat.ne_of_lt (Heap.lt_size z)
    exact (s5.2 c ne).trans ((s4.2 c ne).trans ((s3.2 c ne).trans (e2 c o (k1 c o z))))
  have vu : ∀ h' : Heap, (∀ c o, h5.get? c = some o → h'.get? c = some o) → ∀ (x y z : Value) (tk : Nat), (∃ t, x = .int i t) → (∃ t, y = .int j t) → (∃ t, z = .int r t) → [x, y, z].length ≤ sizeLine ∧
      KeyPure (.tuple [.int i, .int j, .int r]) s (.ref h'.objs.size) { s with heap := h'.push { cls := .type "tuple", data := .seq [x, y, z].toArray }, toks := tk } := by
    rintro h' kp x y z tk ⟨tx, rfl⟩ ⟨ty, rfl⟩ ⟨tz, rfl⟩
    refine ⟨by show 3 ≤ sizeLine; decide, _, tk, rfl, fun c o q => Heap.get?_push_of_some _ (kp c o (k5 c o q)), ?_⟩
    exact Reads.tuple (Heap.get?_push_size _ rfl) rfl rfl (.cons (.int i tx) (.cons (.int j ty) (.cons (.int r tz) .nil)))
  have G5 : h5.Ns mainGlobals mg := G.keeps k5
  show wpAny _ _ (execs (_ :: []) _) _ _ _
  refine wpAny_execs_cons (wpAny_Return_some (wpAny_Tuple_spliced ?_))
  refine spl_cons (by rfl) (ldL rfl n5 (v := .int i t0) (by rfl) ?_)
  refine spl_cons (by rfl) (ldL rfl n5 (v := .int j t1) (by rfl) ?_)
  refine spl_cons (by rfl) ?_
  apply wpAny_Call_Name_kw
  refine ldG (s := { s with heap := h5, toks := _ }) (mg := mg) rfl G5 gp ?_
  refine PySem.W.callWith_K (h₀ := s.heap) X Fp.kp ?_ rfl rfl
  refine spl_cons (by rfl) (ldL rfl n5 (v := u) (by rfl) ?_)
  refine spl_nil ⟨X.keeps k5, ?_⟩
  refine wpAny_mono (part_key (s := { s with heap := h5, toks := _ }) Fp bp gN gV gM (X.keeps k5) G5 (hlim.keeps k5) hroom hu) ?_ (fun _ _ z => z.elim)
  rintro v s6 ⟨⟨t, rfl⟩, h6, tk6, rfl, k6⟩
  refine spl_nil ?_
  exact vu h6 k6 _ _ _ _ ⟨_, rfl⟩ ⟨_, rfl⟩ ⟨_, rfl⟩
end

/-! ### watchers -/
def wf (n : Int) (lv lh d : Addr) : List (Str × V) := [("words", .int n), ("_verdicts", .ref lv), ("_held", .ref lh), ("_rules", .ref d)]
/-- a rule's name: state, word, test -/
def RK (k : List Key) : Prop := ∃ (i j : Int) (t : Key), k = [Sum.inl i, Sum.inl j, t] ∧ ((∃ r, t = Sum.inl r) ∨ t = Sum.inr ("new" : Str))
abbrev Rows := List (List Key × PyData)
abbrev KvD (H : Hp) : List (List Key × V) → Rows → Prop := Paired fun p q => p.1 = q.1 ∧ TD H p.2 q.2
theorem KvD.mono {H H' : Hp} {kvs : List (List Key × V)} {R : Rows} (t : Tups H H') (h : KvD H kvs R) : KvD H' kvs R := Paired.mapP h fun _ _ z => ⟨z.1, TD.mono t _ z.2⟩
theorem KvD.keys {H : Hp} {kvs : List (List Key × V)} {R : Rows} (h : KvD H kvs R) : kvs.map (·.1) = R.map (·.1) := by
  induction h with
  | nil => rfl
  | cons a _ ih => rw [List.map_cons, List.map_cons, a.1, ih]
structure WAt (C : Addr) (H : Hp) (x lv lh d : Addr) (n : Int) (vs hs : List Int) (R : Rows) : Prop where
  ins : ∃ dx, H x = some (.ins C dx (wf n lv lh d))
  ver : H lv = some (.lst (vs.map V.int))
  hel : H lh = some (.lst (hs.map V.int))
  rul : ∃ kvs, H d = some (.dT kvs) ∧ KvD H kvs R
  ne : lv ≠ lh
  rk : ∀ k ∈ R.map (·.1), RK k
  nd : (R.map (·.1)).Nodup
  len : vs.length = hs.length ∧ vs.length ≤ 6 ∧ R.length ≤ 1000
theorem WAt.mono {C : Addr} {H H' : Hp} {x lv lh d : Addr} {n : Int} {vs hs : List Int} {R : Rows} (h : WAt C H x lv lh d n vs hs R) (s : Same H H') : WAt C H' x lv lh d n vs hs R := by
  obtain ⟨⟨dx, a⟩, b, c, ⟨kvs, e, f⟩, g, i, j, l⟩ := h
  exact ⟨⟨dx, s _ _ a⟩, s _ _ b, s _ _ c, ⟨kvs, s _ _ e, f.mono (Tups.same s)⟩, g, i, j, l⟩
theorem btw_int {d : PyData} {lo hi : Int} (h : btw d lo hi = true) : ∃ n, d = .int n ∧ lo ≤ n ∧ n ≤ hi := by
  cases d with
  | int n =>
    have h' : (decide (lo ≤ n) && decide (n ≤ hi)) = true := h
    simp only [Bool.and_eq_true, decide_eq_true_eq] at h'
    exact ⟨n, rfl, h'.1, h'.2⟩
  | _ => cases h
abbrev w1 (n : Int) : List (Str × V) := [("words", .int n)]
abbrev w2 (n : Int) (lv : Addr) : List (Str × V) := [("words", .int n), ("_verdicts", .ref lv)]
abbrev w3 (n : Int) (lv lh : Addr) : List (Str × V) := [("words", .int n), ("_verdicts", .ref lv), ("_held", .ref lh)]
theorem wf2 (n : Int) (lv : Addr) : putF "_verdicts" (.ref lv) (w1 n) = (w2 n lv) := by
  unfold putF
  rw [if_neg (by decide)]
  rfl
theorem wf3 (n : Int) (lv lh : Addr) : putF "_held" (.ref lh) (w2 n lv) = (w3 n lv lh) := by
  unfold putF
  rw [if_neg (by decide)]
  unfold putF
  rw [if_neg (by decide)]
  rfl
theorem wf4 (n : Int) (lv lh d : Addr) : putF "_rules" (.ref d) (w3 n lv lh) = wf n lv lh d := by
  unfold putF
  rw [if_neg (by decide)]
  unfold putF
  rw [if_neg (by decide)]
  unfold putF
  rw [if_neg (by decide)]
  rfl
def sp_W_init (C CL : Addr) : Sp := fun vs H Q E => ∃ (p x dx : Addr) (v : V) (d : PyData), vs = [.ref x, v] ∧ H x = some (.ins C dx []) ∧ LD p H v d ∧
  (∀ n, d = .int n → 1 ≤ n → n ≤ 3 → ∀ H' lv lh dd, But x H H' → H lv = none → H lh = none → H dd = none → WAt C H' x lv lh dd n [0] [0] [] → Q .non H') ∧
  (btw d 1 3 = false → ∀ e, H e = none → E (.ref CL) (some e) (upd H e (.xd [(("limit" : Str), .int 3)])))
/-- the fields' names are no names of the class -/
structure WCls (K : PySem.W.Frag) (C : Addr) : Prop where
  cl : Cls K C
  n1 : NoAttr K C "words"
  n2 : NoAttr K C "_verdicts"
  n3 : NoAttr K C "_held"
  n4 : NoAttr K C "_rules"
section
variable {P : Program} {w : World} {K : PySem.W.Frag} {mg : Str → Option Value} {base : Heap}
abbrev N_Watcher_init : List Str := ["self", "words"]
theorem sc_Watcher_init : FnScope N_Watcher_init ["self", "words"] (defScope s_Watcher_init) := ⟨rfl, rfl, rfl, by decide +kernel, rfl, by decide +kernel, by decide +kernel⟩
theorem ok_Watcher_init {f f_is_between C CL iL : Addr} {fd fd_is_between : FuncData} {t3 : Tok} (F : Fun K "__init__" "Watcher.__init__" s_Watcher_init f fd) (F_is_between : Fun K "is_between" "is_between" s_is_between f_is_between fd_is_between) (b_is_between : Binds K fd_is_between ["value", "low", "high"] [])
    (g_is_between : mg "is_between" = some (.ref f_is_between)) (G_is_between : FnG P w K mg base CX0 2 f_is_between fd_is_between ["value", "low", "high"] sp_is_between) (T_LimitExceeded : L2.ErrOk OwnE.bOE "LimitExceeded" "limit" "LimitExceeded.__init__" K mg CL iL) (g_MOST_WORDS : mg "MOST_WORDS" = some (.int 3 t3)) (W : WCls K C) :
    FnG P w K mg base (L2.CX P w) 3 f fd ["self", "words"] (sp_W_init C CL) := by
  refine okGX F sc_Watcher_init (fun vs H Q E h => ?_) (fun cdv A outer s H vs Q E gd hr h => ?_)
  · obtain ⟨p, x, dx, v, d, rfl, _⟩ := h
    rfl
  · obtain ⟨p, x, dx, v, d, rfl, hx, hv, q1, q2⟩ := h
    have hr1 : Room 1 _ := hr.mono (by decide)
    refine ⟨_, 
      (pss_cons (ps_if (pt_not (pt_val (pe_callG G_is_between gd (hr.mono (by decide)) rfl g_is_between F_is_between.kp b_is_between .nil pass0 (pa_cons (pv 1) (pa_cons pe_int (pa_cons (pe_glob (v := .int 3) rfl g_MOST_WORDS ⟨_, rfl⟩) pa_nil)))))) 
        (pss_one (L2.ps_raiseE (W := fun cls d _ H => E cls d H) rfl T_LimitExceeded hr1 (takes_of rfl rfl rfl rfl) (by exact (pa_cons (pe_glob (v := .int 3) rfl g_MOST_WORDS ⟨_, rfl⟩) pa_nil)))) -- raise LimitExceeded(MOST_WORDS)
         pss_nil) -- if not is_between(words, 1, MOST_WORDS):
      (pss_cons (ps_fld (pv 0) (pv 1) rfl) -- self.words = words
      (pss_cons (ps_fld (pv 0) (pe_lst (pa_cons pe_int pa_nil)) rfl) -- self._verdicts = [0]
      (pss_cons (ps_fld (pv 0) (pe_lst (pa_cons pe_int pa_nil)) rfl) -- self._held = [0]
      (pss_one (ps_fld (pv 0) pe_dnewT rfl)) -- self._rules = {}
      )))) , ?_⟩
    refine ⟨v, rfl, p, v, d, 1, 3, rfl, hv, _, rfl, ?_⟩
    cases hb : btw d 1 3 with
    | false => exact ⟨.int 3, rfl, fun e he => q2 hb e he⟩
    | true =>
      obtain ⟨n, rfl, n0, n1⟩ := btw_int hb
      cases hv
      -- self.words = words
      refine ⟨.int n, rfl, .ref x, rfl, x, C, dx, [], rfl, hx, W.cl, W.n1, (by show 0 < 1000; decide), ?_⟩
      rw [show putF "words" (.int n) [] = (w1 n) from rfl]
      have b1 : But x H (upd H x (.ins C dx (w1 n))) := fun b o e ne => by rw [upd_ne ne]; exact e
      have hx1 : upd H x (.ins C dx (w1 n)) x = some (.ins C dx (w1 n)) := upd_same
      have nn : ∀ a, upd H x (.ins C dx (w1 n)) a = none → H a = none ∧ a ≠ x := fun a e => ⟨(upd_none e).2, (upd_none e).1⟩
      generalize upd H x (.ins C dx (w1 n)) = H1 at b1 hx1 nn
      -- self._verdicts = [0]
      refine ⟨by show 1 ≤ sizeLine; decide, fun lv nv => ?_⟩
      have xv : x ≠ lv := ne_of_none hx1 nv
      have hx2 : upd H1 lv (.lst [.int 0]) x = some (.ins C dx (w1 n)) := by rw [upd_ne xv]; exact hx1
      refine ⟨.ref x, rfl, x, C, dx, _, rfl, hx2, W.cl, W.n2, (by show 1 < 1000; decide), ?_⟩
      rw [wf2]
      have hv3 : upd (upd H1 lv (.lst [.int 0])) x (.ins C dx (w2 n lv)) lv = some (.lst [.int 0]) := by rw [upd_ne xv.symm]; exact upd_same
      have hx3 : upd (upd H1 lv (.lst [.int 0])) x (.ins C dx (w2 n lv)) x = some (.ins C dx (w2 n lv)) := upd_same
      have b3 : But x H (upd (upd H1 lv (.lst [.int 0])) x (.ins C dx (w2 n lv))) := fun b o e ne => by
        rw [upd_ne ne, upd_ne (ne_of_none (b1 b o e ne) nv)]
        exact b1 b o e ne
      have nv0 := (nn lv nv).1
      have nn3 : ∀ a, upd (upd H1 lv (.lst [.int 0])) x (.ins C dx (w2 n lv)) a = none → H a = none := fun a e => (nn a (upd_none (upd_none e).2).2).1
      generalize upd (upd H1 lv (.lst [.int 0])) x (.ins C dx (w2 n lv)) = H3 at hv3 hx3 b3 nn3
      -- self._held = [0]
      refine ⟨by show 1 ≤ sizeLine; decide, fun lh nh => ?_⟩
      have xh : x ≠ lh := ne_of_none hx3 nh
      have vh : lv ≠ lh := ne_of_none hv3 nh
      have hx4 : upd H3 lh (.lst [.int 0]) x = some (.ins C dx (w2 n lv)) := by rw [upd_ne xh]; exact hx3
      refine ⟨.ref x, rfl, x, C, dx, _, rfl, hx4, W.cl, W.n3, (by show 2 < 1000; decide), ?_⟩
      rw [wf3]
      have xv3 : x ≠ lv := ne_of hx3 hv3 (fun z => nomatch z)
      have hv5 : upd (upd H3 lh (.lst [.int 0])) x (.ins C dx (w3 n lv lh)) lv = some (.lst [.int 0]) := by rw [upd_ne xv3.symm, upd_ne vh]; exact hv3
      have hh5 : upd (upd H3 lh (.lst [.int 0])) x (.ins C dx (w3 n lv lh)) lh = some (.lst [.int 0]) := by rw [upd_ne xh.symm]; exact upd_same
      have hx5 : upd (upd H3 lh (.lst [.int 0])) x (.ins C dx (w3 n lv lh)) x = some (.ins C dx (w3 n lv lh)) := upd_same
      have b5 : But x H (upd (upd H3 lh (.lst [.int 0])) x (.ins C dx (w3 n lv lh))) := fun b o e ne => by
        rw [upd_ne ne, upd_ne (ne_of_none (b3 b o e ne) nh)]
        exact b3 b o e ne
      have nh0 := nn3 lh nh
      have nn5 : ∀ a, upd (upd H3 lh (.lst [.int 0])) x (.ins C dx (w3 n lv lh)) a = none → H a = none := fun a e => nn3 a (upd_none (upd_none e).2).2
      generalize upd (upd H3 lh (.lst [.int 0])) x (.ins C dx (w3 n lv lh)) = H5 at hv5 hh5 hx5 b5 nn5
      -- self._rules = {}
      intro dd ndd
      have xd : x ≠ dd := ne_of_none hx5 ndd
      have hx6 : upd H5 dd (.dT []) x = some (.ins C dx (w3 n lv lh)) := by rw [upd_ne xd]; exact hx5
      refine ⟨.ref x, rfl, x, C, dx, _, rfl, hx6, W.cl, W.n4, (by show 3 < 1000; decide), ?_⟩
      rw [wf4]
      have xv5 : x ≠ lv := ne_of hx5 hv5 (fun z => nomatch z)
      have xh5 : x ≠ lh := ne_of hx5 hh5 (fun z => nomatch z)
      refine q1 n rfl n0 n1 _ lv lh dd (fun b o e ne => ?_) nv0 nh0 (nn5 dd ndd) { ins := ⟨dx, upd_same⟩, ver := ?_, hel := ?_, rul := ⟨[], ?_, .nil⟩, ne := vh, rk := (fun _ z => by cases z), nd := List.nodup_nil, len := ⟨rfl, by decide, by decide⟩ }
      · rw [upd_ne ne, upd_ne (ne_of_none (b5 b o e ne) ndd)]
        exact b5 b o e ne
      · rw [upd_ne xv5.symm, upd_ne (ne_of_none hv5 ndd)]
        exact hv5
      · rw [upd_ne xh5.symm, upd_ne (ne_of_none hh5 ndd)]
        exact hh5
      · rw [upd_ne xd.symm]
        exact upd_same
end

/-! ### plans -/
def kD : Key → PyData
  | .inl n => .int n
  | .inr s => .str s
theorem TDs.keys {H : Hp} : ∀ {ks : List Key}, TDs H (ks.map kV) (ks.map kD)
  | [] => .nil
  | .inl n :: r => .cons (.int n) TDs.keys
  | .inr s :: r => .cons (.str s) TDs.keys
abbrev PRule := List Key × (Int × List Key)
def ruleD (r : Int × List Key) : PyData := .tuple [.int r.1, .tuple (r.2.map kD)]
def rowsOf (R : List PRule) : Rows := R.map fun p => (p.1, ruleD p.2)
theorem rowsOf_keys (R : List PRule) : (rowsOf R).map (·.1) = R.map (·.1) := by
  unfold rowsOf
  rw [List.map_map]
  rfl
theorem rowsOf_snoc (R : List PRule) (r : PRule) : rowsOf (R ++ [r]) = rowsOf R ++ [(r.1, ruleD r.2)] := by
  unfold rowsOf
  rw [List.map_append]
  rfl
def heldAt (ks : List (Int × Int)) (i : Int) : Int := ((ks[i.toNat]?).getD (0, 0)).2
def TestOk (h : Int) (t : Key) : Prop := (∃ n : Int, t = Sum.inl n ∧ 0 ≤ n ∧ n < h) ∨ t = Sum.inr ("new" : Str)
def SrcAt (h : Int) (t : Key) (k : Key) : Prop := (∃ n : Int, k = Sum.inl n ∧ 0 ≤ n ∧ n < h) ∨ (k = Sum.inr ("value" : Str) ∧ t = Sum.inr ("new" : Str))
structure SrcOk (h : Int) (t : Key) (m : Int) (ks : List Key) : Prop where
  len : (ks.length : Int) = m
  nd : ks.Nodup
  all : ∀ k ∈ ks, SrcAt h t k
def RuleOk (w : Int) (kinds : List (Int × Int)) (r : PRule) : Prop := ∃ (i j : Int) (t : Key), r.1 = [Sum.inl i, Sum.inl j, t] ∧ 0 ≤ i ∧ i < kinds.length ∧ 0 ≤ j ∧ j < w ∧ TestOk (heldAt kinds i) t ∧ 0 ≤ r.2.1 ∧ r.2.1 < kinds.length ∧ SrcOk (heldAt kinds i) t (heldAt kinds r.2.1) r.2.2
structure KindsOk (kinds : List (Int × Int)) : Prop where
  len : 1 ≤ kinds.length ∧ kinds.length ≤ 6
  zero : heldAt kinds 0 = 0
  all : ∀ k ∈ kinds, 0 ≤ k.1 ∧ k.1 ≤ 3 ∧ 0 ≤ k.2 ∧ k.2 ≤ 3
structure Plan where
  words : Int
  kinds : List (Int × Int)
  rules : List PRule
structure PlanOk (P : Plan) : Prop where
  w : 1 ≤ P.words ∧ P.words ≤ 3
  k : KindsOk P.kinds
  r : ∀ r ∈ P.rules, RuleOk P.words P.kinds r
  nd : (P.rules.map (·.1)).Nodup
  len : P.rules.length ≤ 100
structure PlanAt (H : Hp) (l kl rl : Addr) (P : Plan) : Prop where
  at_ : H l = some (.lst [.int P.words, .ref kl, .ref rl])
  kin : ∃ vs, H kl = some (.lst vs) ∧ TDs H vs (P.kinds.map msgD)
  rul : ∃ kvs, H rl = some (.dT kvs) ∧ KvD H kvs (rowsOf P.rules)
theorem PlanAt.mono {H H' : Hp} {l kl rl : Addr} {P : Plan} (h : PlanAt H l kl rl P) (s : Same H H') : PlanAt H' l kl rl P := by
  obtain ⟨a, ⟨vs, b, c⟩, ⟨kvs, d, e⟩⟩ := h
  exact ⟨s _ _ a, ⟨vs, s _ _ b, c.mono (Tups.same s)⟩, ⟨kvs, s _ _ d, e.mono (Tups.same s)⟩⟩
theorem Keep.put {p a : Addr} {H H1 : Hp} {o : HO} (k : Keep p H H1) (n : H a = none) : Keep p H (upd H1 a o) := fun b u e nb => by
  rw [upd_ne (ne_of_none e n)]
  exact k b u e nb
theorem Keep.free {p a : Addr} {H H1 : Hp} (k : Keep p H H1) (hp : H1 p ≠ none) (n : H1 a = none) : H a = none := by
  cases e : H a with
  | none => rfl
  | some o =>
    by_cases q : a = p
    · subst q
      exact absurd n hp
    · rw [k a o e q] at n
      cases n
theorem Pen.some' {H : Hp} {p c : Addr} (h : Pen H p c) : H p ≠ none := by
  obtain ⟨l, e⟩ := h.at
  rw [e]
  exact fun z => nomatch z
/-- the plan stands, but for what the pen does -/
theorem PlanAt.but {H H' : Hp} {p c l kl rl : Addr} {P : Plan} (h : PlanAt H l kl rl P) (hP : Pen H p c) (b : Keep p H H') (n1 : l ≠ p) (n2 : kl ≠ p) : PlanAt H' l kl rl P := by
  obtain ⟨u, hp⟩ := hP.at
  obtain ⟨a, ⟨vs, e, f⟩, ⟨kvs, g, i⟩⟩ := h
  exact ⟨b _ _ a n1, ⟨vs, b _ _ e n2, f.mono (hP.tups b)⟩, ⟨kvs, b _ _ g (ne_of g hp (fun z => nomatch z)), i.mono (hP.tups b)⟩⟩
theorem ixN_at {n j : Nat} (hj : j < n) : ixN n (j : Int) = some j := by
  unfold ixN
  rw [if_pos (by omega), if_pos (by omega)]
  simp
theorem seqIx {n k : Nat} (h : k < n) : seqIndex? (k : Int) n = some k := (ixN_seq (ixN_at h)).1
theorem erase_perm {α : Type} : ∀ (l : List α) (k : Nat) (h : k < l.length), (l[k] :: l.eraseIdx k).Perm l
  | x :: r, 0, _ => List.Perm.refl _
  | x :: r, k + 1, h => (List.Perm.swap x (r[k]'(Nat.lt_of_succ_lt_succ h)) _).trans (List.Perm.cons x (erase_perm r k (Nat.lt_of_succ_lt_succ h)))
theorem erase_map {α β : Type} (f : α → β) : ∀ (l : List α) (k : Nat), (l.map f).eraseIdx k = (l.eraseIdx k).map f
  | [], k => by cases k <;> rfl
  | x :: r, 0 => rfl
  | x :: r, k + 1 => by simp only [List.map_cons, List.eraseIdx_cons_succ, erase_map f r k]
def sp_law_some_sources : Sp := fun vs H Q _ => ∃ (p c : Addr) (h m : Int) (t : Key), vs = [.ref p, .int h, kV t, .int m] ∧ Pen H p c ∧ 0 ≤ h ∧ h ≤ 3 ∧ 0 ≤ m ∧ m ≤ 3 ∧ TestOk h t ∧
  ∀ v H', Keep p H H' → Pen H' p c → (v = .non ∨ ∃ a ks, v = .ref a ∧ H' a = some (.tup (ks.map kV)) ∧ SrcOk h t m ks) → Q v H'
def pick (rs fs : List Key) (h : Int) (t : Key) : Prop := (rs ++ fs).Nodup ∧ ∀ k ∈ rs ++ fs, SrcAt h t k
theorem pick_step {rs fs : List Key} {h : Int} {t : Key} (hp : pick rs fs h t) {k : Nat} (hk : k < rs.length) : pick (rs.eraseIdx k) (fs ++ [rs[k]]) h t := by
  have e : (rs.eraseIdx k ++ (fs ++ [rs[k]])).Perm (rs ++ fs) := by
    have e1 : (rs.eraseIdx k ++ (fs ++ [rs[k]])).Perm ((fs ++ [rs[k]]) ++ rs.eraseIdx k) := List.perm_append_comm
    have e2 : ((fs ++ [rs[k]]) ++ rs.eraseIdx k) = fs ++ (rs[k] :: rs.eraseIdx k) := by rw [List.append_assoc]; rfl
    have e3 : (rs[k] :: rs.eraseIdx k).Perm rs := erase_perm rs k hk
    rw [e2] at e1
    exact e1.trans ((List.Perm.append_left fs e3).trans List.perm_append_comm)
  exact ⟨e.nodup_iff.mpr hp.1, fun x hx => hp.2 x (e.mem_iff.mp hx)⟩
theorem rgV_keys {h : Int} : rgV 0 h = ((List.range h.toNat).map fun i : Nat => (Sum.inl (i : Int) : Key)).map kV := by
  unfold rgV
  rw [List.map_map]
  simp only [Int.sub_zero]
  refine List.map_congr_left fun i _ => ?_
  show V.int (0 + (i : Int)) = V.int i
  rw [Int.zero_add]
theorem pick_rg {h : Int} {t : Key} (h0 : 0 ≤ h) : pick ((List.range h.toNat).map fun i : Nat => (Sum.inl (i : Int) : Key)) [] h t := by
  refine ⟨?_, fun k hk => ?_⟩
  · rw [List.append_nil]
    refine List.Pairwise.map _ (fun a b hab e => ?_) List.nodup_range
    have := Sum.inl.inj e
    omega
  · rw [List.append_nil] at hk
    obtain ⟨i, hi, rfl⟩ := List.mem_map.mp hk
    have := List.mem_range.mp hi
    exact .inl ⟨i, rfl, by omega, by omega⟩
theorem map_set_erase {rs : List Key} (k : Nat) : (rs.map kV).eraseIdx k = (rs.eraseIdx k).map kV := erase_map _ _ _
section
variable {P : Program} {w : World} {K : PySem.W.Frag} {mg : Str → Option Value} {base : Heap}
theorem G_law_draw (T : Tx K mg) : FnG P w K mg base CX0 2 T.law_draw.f T.law_draw.fd ["pen", "many"] sp_law_draw := ok_law_draw T.law_draw.F T.law_fresh.F T.law_fresh.b T.law_fresh.g T.m_len T.m_range
theorem G_law_pen (T : Tx K mg) : FnG P w K mg base CX0 1 T.law_pen.f T.law_pen.fd ["script"] (sp_law_pen K) := ok_law_pen T.law_pen.F T.m_list
abbrev N_law_some_sources : List Str := ["pen", "held", "test", "many", "rest", "found", "lap"]
theorem sc_law_some_sources : FnScope N_law_some_sources ["pen", "held", "test", "many"] (defScope s_law_some_sources) := ⟨rfl, rfl, rfl, by decide +kernel, rfl, by decide +kernel, by decide +kernel⟩
theorem G_law_some_sources (T : Tx K mg) : FnG P w K mg base CX0 3 T.law_some_sources.f T.law_some_sources.fd ["pen", "held", "test", "many"] sp_law_some_sources := by
  refine okG T.law_some_sources.F sc_law_some_sources (fun vs H Q E h => ?_) (fun cdv A outer s H vs Q E gd hr h => ?_)
  · obtain ⟨p, c, h', m, t, rfl, _⟩ := h
    rfl
  · obtain ⟨p, c, h', m, t, rfl, hP, h0, h3, m0, m3, ht, q⟩ := h
    refine ⟨_, 
      (pss_cons (ps_par (i := 4) (j := 5) rfl sc_law_some_sources.nd rfl rfl (by decide) rfl rfl (pa_cons (pe_listRg rfl (by rfl) T.m_list (prg_1 (by rfl) T.m_range (pv 1))) (pa_cons (pe_lst pa_nil) pa_nil)) rfl) -- rest, found = (list(range(held)), [])
      (C8.pss_cut (ps_if (pt_cmpR op_eq (pv 2) pe_str (nomark _)) 
        (pss_one (ps_expr (pe_bm PySem.F.plainAttrs_list PySem.F.slot_list_append PySem.F.type_list_append mt_append (pv 4) (pa_cons pe_str pa_nil)))) -- rest.append('value')
         pss_nil) -- if test == 'new':
      (pss_cons (ps_if (pt_cmpR op_gt (pv 3) (pe_callB call_len_seq (by rfl) T.m_len PySem.boot_len (pa_cons (pv 4) pa_nil)) (nomark _)) 
        (pss_one (ps_ret pe_non)) -- return None
         pss_nil) -- if many > len(rest):
      (pss_cons (ps_for PassesOwn.never rfl (pi_range1 rfl T.m_range (pa_cons (pv 3) pa_nil)) (pg_name (i := 6) sc_law_some_sources.nd rfl (.inl rfl)) 
        (pss_one (ps_expr (pe_bm PySem.F.plainAttrs_list PySem.F.slot_list_append PySem.F.type_list_append mt_append (pv 5) (pa_cons (pe_bm PySem.F.plainAttrs_list PySem.F.slot_list_pop PySem.F.type_list_pop mt_popAt (pv 4) (pa_cons (pe_callG (G_law_draw T) gd (hr.mono (by decide)) rfl T.law_draw.g T.law_draw.F.kp T.law_draw.b .nil pass0 (pa_cons (pv 0) (pa_cons (pe_callB call_len_seq (by rfl) T.m_len PySem.boot_len (pa_cons (pv 4) pa_nil)) pa_nil))) pa_nil)) pa_nil)))) -- found.append(rest.pop(_law_draw(pen, len(rest))))
        ) -- for lap in range(many):
      (pss_one (ps_ret (pe_callTy call_tuple_of (by rfl) T.m_tuple (by decide +kernel) (pa_cons (pv 5) pa_nil)))) -- return tuple(found)
      )))) , ?_⟩
    refine ⟨.int h', rfl, h', rfl, RgOk.of_le (by decide) (by omega) (by decide) h0, fun l nl => ⟨by show 0 ≤ sizeLine; decide, fun f nf => ⟨_, _, rfl, ?_⟩⟩⟩
    rw [rgV_keys] at nf ⊢
    have hl0 : (upd H l (.lst (((List.range h'.toNat).map fun i : Nat => (Sum.inl (i : Int) : Key)).map kV))) l = some (.lst (((List.range h'.toNat).map fun i : Nat => (Sum.inl (i : Int) : Key)).map kV)) := upd_same
    have nlp := hP.free nl
    have hP1 := hP.mono (same_new nl (o := .lst (((List.range h'.toNat).map fun i : Nat => (Sum.inl (i : Int) : Key)).map kV)))
    have k1 : Keep p H (upd H l (.lst (((List.range h'.toNat).map fun i : Nat => (Sum.inl (i : Int) : Key)).map kV))) := Keep.new nl
    have pk := pick_rg (h := h') (t := t) h0
    have lk : ((List.range h'.toNat).map fun i : Nat => (Sum.inl (i : Int) : Key)).length = h'.toNat := by rw [List.length_map, List.length_range]
    have ai : ∀ k ∈ ((List.range h'.toNat).map fun i : Nat => (Sum.inl (i : Int) : Key)), k ≠ Sum.inr ("value" : Str) := fun k hk e => by
      obtain ⟨i, _, rfl⟩ := List.mem_map.mp hk
      cases e
    generalize ((List.range h'.toNat).map fun i : Nat => (Sum.inl (i : Int) : Key)) = r0 at *
    generalize upd H l (.lst (r0.map kV)) = H1 at *
    have nfp := hP1.free nf
    have nfl := ne_of_none hl0 nf
    have hP2 := hP1.mono (same_new nf (o := .lst []))
    have nfH : H f = none := k1.free hP1.some' nf
    have k2 : Keep p H (upd H1 f (.lst [])) := k1.put nfH
    have hl2 : (upd H1 f (.lst [])) l = some (.lst (r0.map kV)) := by rw [upd_ne nfl]; exact hl0
    have hf2 : (upd H1 f (.lst [])) f = some (.lst []) := upd_same
    generalize upd H1 f (.lst []) = H2 at *
    refine ⟨fun σ H' => ∃ rs : List Key, σ = [some (.ref p), some (.int h'), some (kV t), some (.int m), some (.ref l), some (.ref f), none] ∧ Keep p H H' ∧ Pen H' p c ∧ H' l = some (.lst (rs.map kV)) ∧ H' f = some (.lst []) ∧ pick rs [] h' t ∧ rs.length ≤ 4, ?_, ?_⟩
    · rcases ht with ⟨n, rfl, n0, n1⟩ | rfl
      · refine ⟨.int n, rfl, rfl, _, rfl, ?_⟩
        exact ⟨r0, rfl, k2, hP2, hl2, hf2, pk, by omega⟩
      · refine ⟨.str "new", rfl, rfl, _, rfl, ?_⟩
        refine ⟨.ref l, rfl, .inl ⟨rfl, _, SqL.of hl2⟩, l, _, .str "value", rfl, rfl, hl2, by rw [List.length_map, lk]; exact small1000 (by omega), ?_⟩
        refine ⟨r0 ++ [Sum.inr ("value" : Str)], rfl, k2.put nl, hP2.put nlp.1.symm nlp.2.symm, ?_, ?_, ⟨?_, ?_⟩, ?_⟩
        · rw [upd_same, List.map_append]
          rfl
        · rw [upd_ne nfl.symm]
          exact hf2
        · rw [List.append_nil]
          have nd := pk.1
          rw [List.append_nil] at nd
          refine List.nodup_append.mpr ⟨nd, by simp, fun a ha b hb => ?_⟩
          rw [List.mem_singleton] at hb
          subst hb
          exact ai a ha
        · intro k hk
          rw [List.append_nil] at hk
          rcases List.mem_append.mp hk with z | z
          · exact pk.2 k (List.mem_append_left _ z)
          · rw [List.mem_singleton] at z
            exact .inr ⟨z, rfl⟩
        · rw [List.length_append, lk]
          show h'.toNat + 1 ≤ 4
          omega
    · rintro σ H3 ⟨rs, rfl, k3, hP3, hl3, hf3, pk, lr⟩
      refine ⟨.int m, rfl, .ref l, rfl, l, _, rfl, .inl (SqL.of hl3), _, _, rfl, rfl, _, rfl, ite2 (fun hb => ?_) (fun hb => ?_)⟩
      · exact q .non H3 k3 hP3 (.inl rfl)
      · have hm : m ≤ rs.length := by
          have z : ¬ (m > ((List.map kV rs).length : Int)) := fun e => hb (decide_eq_true e)
          rw [List.length_map] at z
          omega
        obtain ⟨m', rfl⟩ : ∃ m' : Nat, m = m' := ⟨m.toNat, by omega⟩
        refine ⟨.int (m' : Int), rfl, (m' : Int), rfl, by omega, by omega, ?_⟩
        rw [Int.toNat_natCast]
        refine for_range (n := m') (fun i σ H' => ∃ (y : Option V) (rs fs : List Key), σ = [some (.ref p), some (.int h'), some (kV t), some (.int m'), some (.ref l), some (.ref f), y] ∧ Keep p H H' ∧ Pen H' p c ∧ H' l = some (.lst (rs.map kV)) ∧ H' f = some (.lst (fs.map kV)) ∧ pick rs fs h' t ∧ fs.length = i ∧ m' ≤ rs.length + i ∧ rs.length ≤ 4) ?_ ?_ ?_
        · exact ⟨none, rs, [], rfl, k3, hP3, hl3, hf3, pk, rfl, by omega, lr⟩
        · rintro i σ H4 hi ⟨y, rs, fs, rfl, k4, hP4, hl4, hf4, pk, lf, lm, lr⟩
          refine ⟨.ref f, rfl, .inl ⟨rfl, _, SqL.of hf4⟩, .ref l, rfl, .inl ⟨rfl, _, SqL.of hl4⟩, .ref p, rfl, .ref l, rfl, l, _, rfl, .inl (SqL.of hl4), p, c, _, rfl, hP4, ?_, ?_, fun d H5 d0 d1 k5 hP5 => ?_⟩
          · rw [List.length_map]; omega
          · rw [List.length_map]; omega
          rw [List.length_map] at d1
          obtain ⟨d', rfl⟩ : ∃ d' : Nat, d = d' := ⟨d.toNat, by omega⟩
          have hd : d' < rs.length := by omega
          have hl5 := k5 _ _ hl4 nlp.1.symm
          have hf5 := k5 _ _ hf4 nfp.1.symm
          refine ⟨l, rs.map kV, d', d', kV rs[d'], rfl, rfl, hl5, by omega, by omega, seqIx (by rw [List.length_map]; exact hd), by rw [List.getElem?_map, List.getElem?_eq_getElem hd]; rfl, ?_⟩
          refine ⟨f, fs.map kV, kV rs[d'], rfl, rfl, by rw [upd_ne nfl.symm]; exact hf5, by rw [List.length_map]; exact small1000 (by omega), ?_⟩
          refine ⟨_, rs.eraseIdx d', fs ++ [rs[d']], rfl, ((k4.trans k5).put nl).put nfH, (hP5.put nlp.1.symm nlp.2.symm).put nfp.1.symm nfp.2.symm, ?_, ?_, pick_step pk hd, ?_, ?_, ?_⟩
          · rw [upd_ne nfl, upd_same, map_set_erase]
          · rw [upd_same, List.map_append]
            rfl
          · rw [List.length_append, lf]
            rfl
          · rw [List.length_eraseIdx_of_lt hd]
            omega
          · rw [List.length_eraseIdx_of_lt hd]
            omega
        · rintro σ H4 ⟨y, rs, fs, rfl, k4, hP4, hl4, hf4, pk, lf, lm, lr⟩
          refine ⟨.ref f, rfl, f, _, rfl, .inl ⟨SqL.of hf4, fun a na => ?_⟩⟩
          refine q (.ref a) _ (k4.put (k4.free hP4.some' na)) (hP4.mono (same_new na)) (.inr ⟨a, fs, rfl, upd_same, ?_⟩)
          exact ⟨by omega, (List.nodup_append.mp pk.1).2.1, fun k hk => pk.2 k (List.mem_append_right _ hk)⟩
end

/-! ### rules in order -/
def lookR (R : Rows) (k : List Key) : PyData := ((R.find? fun p => decide (p.1 = k)).map (·.2)).getD .none
def rankK : List Key → List Int
  | [Sum.inl i, Sum.inl j, Sum.inl r] => [i, j, r]
  | [Sum.inl i, Sum.inl j, Sum.inr _] => [i, j, 3]
  | _ => [0, 0, 0]
theorem rankK_cons (k : List Key) : ∃ x r, rankK k = x :: r := by
  unfold rankK
  split <;> exact ⟨_, _, rfl⟩
theorem rankK_len (k : List Key) : (rankK k).length = 3 := by
  unfold rankK
  split <;> rfl
def sortR (R : Rows) : Rows := (srt rankK (R.map (·.1))).map fun k => (k, lookR R k)
theorem KvD.val {H : Hp} {kvs : List (List Key × V)} {R : Rows} {k : List Key} (h : KvD H kvs R) (hk : k ∈ R.map (·.1)) : ∃ v, valV kvs k = some v ∧ TD H v (lookR R k) := by
  induction h with
  | nil => cases hk
  | @cons a b l1 l2 ab _ ih =>
    unfold valV lookR
    by_cases e : a.1 = k
    · have e2 : b.1 = k := ab.1 ▸ e
      refine ⟨a.2, ?_, ?_⟩
      · rw [List.find?_cons_of_pos (by simpa using e)]
        rfl
      · rw [List.find?_cons_of_pos (by simpa using e2)]
        exact ab.2
    · have e2 : ¬ b.1 = k := ab.1 ▸ e
      rw [List.find?_cons_of_neg (by simpa using e), List.find?_cons_of_neg (by simpa using e2)]
      refine ih ?_
      rcases List.mem_cons.mp hk with z | z
      · exact absurd z.symm e2
      · exact z
theorem kvd_of {H : Hp} {kvs : List (List Key × V)} {R : Rows} (h : KvD H kvs R) : ∀ {ks : List (List Key)}, (∀ k ∈ ks, k ∈ R.map (·.1)) → KvD H (ks.map fun k => (k, (valV kvs k).getD .non)) (ks.map fun k => (k, lookR R k))
  | [], _ => .nil
  | k :: r, hk => by
    obtain ⟨v, e, t⟩ := h.val (hk k List.mem_cons_self)
    refine .cons ⟨rfl, ?_⟩ (kvd_of h fun x hx => hk x (List.mem_cons_of_mem _ hx))
    show TD H ((valV kvs k).getD .non) _
    rw [e]
    exact t
theorem srt_mem {rank : List Key → List Int} {ks : List (List Key)} {k : List Key} : k ∈ srt rank ks ↔ k ∈ ks := (List.mergeSort_perm ks _).mem_iff
theorem srt_nodup {rank : List Key → List Int} {ks : List (List Key)} (h : ks.Nodup) : (srt rank ks).Nodup := (List.mergeSort_perm ks _).nodup_iff.mpr h
theorem srt_len {rank : List Key → List Int} {ks : List (List Key)} : (srt rank ks).length = ks.length := (List.mergeSort_perm ks _).length_eq
theorem isKs_at {H : Hp} {ks : List (List Key)} {bs : List Addr} (h : IsKs H ks bs) : ∀ {i : Nat} {b : Addr}, bs[i]? = some b → ∃ k, ks[i]? = some k ∧ H b = some (.tup (k.map kV)) := by
  induction h with
  | nil => intro i b e; simp at e
  | cons a _ ih =>
    intro i b e
    cases i with
    | zero =>
      simp at e
      subst e
      exact ⟨_, rfl, a⟩
    | succ i =>
      obtain ⟨k, h1, h2⟩ := ih (i := i) (b := b) (by simpa using e)
      exact ⟨k, by simpa using h1, h2⟩
theorem valV_map_none {f : List Key → V} {ks : List (List Key)} {k : List Key} (h : k ∉ ks) : valV (ks.map fun k => (k, f k)) k = none := by
  unfold valV
  rw [List.find?_eq_none.mpr]
  · rfl
  · intro x hx
    obtain ⟨y, hy, rfl⟩ := List.mem_map.mp hx
    simp only [decide_eq_true_eq]
    rintro rfl
    exact h hy
/-- a watcher is asked -/
def sp_W_len (C : Addr) : Sp := fun us H Q _ => ∃ (x lv lh d : Addr) (n : Int) (vs hs : List Int) (R : Rows), us = [.ref x] ∧ WAt C H x lv lh d n vs hs R ∧ Q (.int vs.length) H
def sp_W_ver (C : Addr) : Sp := fun us H Q _ => ∃ (x lv lh d : Addr) (n : Int) (vs hs : List Int) (R : Rows), us = [.ref x] ∧ WAt C H x lv lh d n vs hs R ∧ ∀ t, H t = none → Q (.ref t) (upd H t (.tup (vs.map V.int)))
def sp_W_hel (C : Addr) : Sp := fun us H Q _ => ∃ (x lv lh d : Addr) (n : Int) (vs hs : List Int) (R : Rows), us = [.ref x] ∧ WAt C H x lv lh d n vs hs R ∧ ∀ t, H t = none → Q (.ref t) (upd H t (.tup (hs.map V.int)))
def sp_W_rules (C : Addr) : Sp := fun us H Q _ => ∃ (x lv lh d : Addr) (n : Int) (vs hs : List Int) (R : Rows), us = [.ref x] ∧ WAt C H x lv lh d n vs hs R ∧
  ∀ t H' kvs, Same H H' → H t = none → H' t = some (.dT kvs) → KvD H' kvs (sortR R) → Q (.ref t) H'

theorem kf_of {X : Cx} {f : Addr} {fd : FuncData} (F : Fun X.K "rule_order" "rule_order" s_rule_order f fd) (b : ∀ (s : Shared) (v : Value), BindsTo s fd ⟨[v], []⟩ [("rule", v)]) (pk : PartOk X.K X.mg) : KeyFn X f rankK RK := by
  refine ⟨fun s A a its k kin ns nl dp hd hk hv it => ?_, rankK_cons, fun a b => by rw [rankK_len, rankK_len]⟩
  obtain ⟨i, j, t, rfl, ht⟩ := hk
  obtain ⟨u0, us, rfl, r0, hv⟩ : ∃ u0 us, its = u0 :: us ∧ RelV (.int i) u0 ∧ Vals [.int j, kV t] us := by
    cases hv with
    | cons r rr => exact ⟨_, _, rfl, r, rr⟩
  obtain ⟨u1, u2, rfl, r1, r2⟩ := vals2 hv
  obtain ⟨t0, rfl⟩ := r0
  obtain ⟨t1, rfl⟩ := r1
  rcases ht with ⟨r, rfl⟩ | rfl
  · obtain ⟨t2, rfl⟩ := r2
    exact order_key F b pk kin ns nl dp hd it (.inl ⟨t2, rfl⟩)
  · obtain ⟨t2, rfl⟩ := r2
    exact order_key F b pk kin ns nl dp hd it (.inr ⟨⟨t2, rfl⟩, rfl⟩)

section
variable {P : Program} {w : World} {K : PySem.W.Frag} {mg : Str → Option Value} {base : Heap}
abbrev N_Watcher_len : List Str := ["self"]
theorem sc_Watcher_len : FnScope N_Watcher_len ["self"] (defScope s_Watcher_len) := ⟨rfl, rfl, rfl, by decide +kernel, rfl, by decide +kernel, by decide +kernel⟩
theorem ok_Watcher_len {f C : Addr} {fd : FuncData} {k : Nat} (F : Fun K "__len__" "Watcher.__len__" s_Watcher_len f fd) (W : WCls K C) (m_len : mg "len" = none) : FnG P w K mg base CX0 (k + 1) f fd ["self"] (sp_W_len C) := by
  refine okG F sc_Watcher_len (fun vs H Q E h => ?_) (fun cdv A outer s H vs Q E gd hr h => ?_)
  · obtain ⟨x, lv, lh, d, n, vs, hs, R, rfl, _⟩ := h
    rfl
  · obtain ⟨x, lv, lh, d, n, vs, hs, R, rfl, hW, q⟩ := h
    refine ⟨_, 
      (pss_one (ps_ret (pe_callB call_len_seq (by rfl) m_len PySem.boot_len (pa_cons (pe_fld (pv 0) rfl) pa_nil)))) -- return len(self._verdicts)
       , ?_⟩
    obtain ⟨dx, hx⟩ := hW.ins
    refine ⟨.ref x, rfl, x, C, dx, _, .ref lv, rfl, hx, W.cl, W.n2, rfl, lv, _, rfl, .inl (SqL.of hW.ver), ?_⟩
    rw [List.length_map]
    exact q
end

section
variable {P : Program} {w : World} {K : PySem.W.Frag} {mg : Str → Option Value} {base : Heap}
abbrev N_Watcher_verdicts : List Str := ["self"]
theorem sc_Watcher_verdicts : FnScope N_Watcher_verdicts ["self"] (defScope s_Watcher_verdicts) := ⟨rfl, rfl, rfl, by decide +kernel, rfl, by decide +kernel, by decide +kernel⟩
theorem ok_Watcher_verdicts {f C : Addr} {fd : FuncData} {k : Nat} (F : Fun K "verdicts" "Watcher.verdicts" s_Watcher_verdicts f fd) (W : WCls K C) (m_tuple : mg "tuple" = none) : FnG P w K mg base CX0 (k + 1) f fd ["self"] (sp_W_ver C) := by
  refine okG F sc_Watcher_verdicts (fun vs H Q E h => ?_) (fun cdv A outer s H vs Q E gd hr h => ?_)
  · obtain ⟨x, lv, lh, d, n, vs, hs, R, rfl, _⟩ := h
    rfl
  · obtain ⟨x, lv, lh, d, n, vs, hs, R, rfl, hW, q⟩ := h
    refine ⟨_, 
      (pss_one (ps_ret (pe_callTy call_tuple_of (by rfl) m_tuple (by decide +kernel) (pa_cons (pe_fld (pv 0) rfl) pa_nil)))) -- return tuple(self._verdicts)
       , ?_⟩
    obtain ⟨dx, hx⟩ := hW.ins
    exact ⟨.ref x, rfl, x, C, dx, _, .ref lv, rfl, hx, W.cl, W.n2, rfl, lv, _, rfl, .inl ⟨SqL.of hW.ver, q⟩⟩
end

section
variable {P : Program} {w : World} {K : PySem.W.Frag} {mg : Str → Option Value} {base : Heap}
abbrev N_Watcher_held_counts : List Str := ["self"]
theorem sc_Watcher_held_counts : FnScope N_Watcher_held_counts ["self"] (defScope s_Watcher_held_counts) := ⟨rfl, rfl, rfl, by decide +kernel, rfl, by decide +kernel, by decide +kernel⟩
theorem ok_Watcher_held_counts {f C : Addr} {fd : FuncData} {k : Nat} (F : Fun K "held_counts" "Watcher.held_counts" s_Watcher_held_counts f fd) (W : WCls K C) (m_tuple : mg "tuple" = none) : FnG P w K mg base CX0 (k + 1) f fd ["self"] (sp_W_hel C) := by
  refine okG F sc_Watcher_held_counts (fun vs H Q E h => ?_) (fun cdv A outer s H vs Q E gd hr h => ?_)
  · obtain ⟨x, lv, lh, d, n, vs, hs, R, rfl, _⟩ := h
    rfl
  · obtain ⟨x, lv, lh, d, n, vs, hs, R, rfl, hW, q⟩ := h
    refine ⟨_, 
      (pss_one (ps_ret (pe_callTy call_tuple_of (by rfl) m_tuple (by decide +kernel) (pa_cons (pe_fld (pv 0) rfl) pa_nil)))) -- return tuple(self._held)
       , ?_⟩
    obtain ⟨dx, hx⟩ := hW.ins
    exact ⟨.ref x, rfl, x, C, dx, _, .ref lh, rfl, hx, W.cl, W.n3, rfl, lh, _, rfl, .inl ⟨SqL.of hW.hel, q⟩⟩
end

section
variable {P : Program} {w : World} {K : PySem.W.Frag} {mg : Str → Option Value} {base : Heap}
abbrev N_Watcher_rules : List Str := ["self", "rule"]
theorem sc_Watcher_rules : FnScope N_Watcher_rules ["self"] (defScope s_Watcher_rules) := ⟨rfl, rfl, rfl, by decide +kernel, rfl, by decide +kernel, by decide +kernel⟩
theorem ok_Watcher_rules {f C f_rule_order : Addr} {fd fd_rule_order : FuncData} (F : Fun K "rules" "Watcher.rules" s_Watcher_rules f fd) (F_rule_order : Fun K "rule_order" "rule_order" s_rule_order f_rule_order fd_rule_order) (b_rule_order : ∀ (s : Shared) (v : Value), BindsTo s fd_rule_order ⟨[v], []⟩ [("rule", v)])
    (g_rule_order : mg "rule_order" = some (.ref f_rule_order)) (pk : PartOk K mg) (W : WCls K C) (m_sorted : mg "sorted" = none) : FnG P w K mg base CX0 2 f fd ["self"] (sp_W_rules C) := by
  refine okG F sc_Watcher_rules (fun vs H Q E h => ?_) (fun cdv A outer s H vs Q E gd hr h => ?_)
  · obtain ⟨x, lv, lh, d, n, vs, hs, R, rfl, _⟩ := h
    rfl
  · obtain ⟨x, lv, lh, d, n, vs, hs, R, rfl, hW, q⟩ := h
    have KF : KeyFn (cxOf CX0 P w K mg base N_Watcher_rules "Watcher.rules" (defScope s_Watcher_rules) f cdv A outer s H E).nox f_rule_order rankK RK := kf_of F_rule_order b_rule_order pk
    refine ⟨_, 
      (pss_one (ps_ret (pe_dcT (own := [("rule", 1)]) (g := gName 1) rfl sc_Watcher_rules.nd (hu_of hr) (pi_list (pe_callBK (call_sortT rfl hr KF) (by rfl) m_sorted PyProof.Rows.boot_sorted (pa_cons (pe_fld (pv 0) rfl) pa_nil) (pk_cons (pe_glob (v := .ref f_rule_order) rfl g_rule_order rfl) pk_nil))) (blkOk_by (N := N_Watcher_rules) (sc := defScope s_Watcher_rules) (by decide +kernel)) (fun _ _ _ _ _ => (pg_name (i := 1) sc_Watcher_rules.nd rfl (.inl rfl))) (fun _ _ _ _ _ => pts_nil) (fun _ _ _ _ _ => (pv 1)) (fun _ _ _ _ _ => (show PE _ _ (tDGet (tFld K (tVar 0) "_rules") (tVar 1)) from (pe_dget (hu_of hr) (pe_fld (pv 0) rfl) (pv 1) (fun _ _ => rfl))))))) -- return {rule: self._rules[rule] for rule in sorted(self._rules, key=rule_order)}
       , ?_⟩
    obtain ⟨dx, hx⟩ := hW.ins
    obtain ⟨kvs, hd, hkv⟩ := hW.rul
    have ek := hkv.keys
    refine ⟨.ref x, rfl, x, C, dx, _, .ref d, rfl, hx, W.cl, W.n4, rfl, d, kvs, rfl, rfl, hd, by rw [ek]; exact hW.rk, fun p bs np isk => ?_⟩
    rw [ek] at isk
    refine ⟨p, rfl, ⟨_, SqL.of upd_same⟩, fun D nD => ?_⟩
    have sp_ : Same H (upd H p (.lst (bs.map V.ref))) := same_new np
    have hp0 : upd H p (.lst (bs.map V.ref)) p = some (.lst (bs.map V.ref)) := upd_same
    have nDH := sp_.free nD
    generalize upd H p (.lst (bs.map V.ref)) = H0 at sp_ hp0 nD
    have nds := srt_nodup (rank := rankK) hW.nd
    have lk : (srt rankK (R.map (·.1))).length ≤ 1000 := by rw [srt_len, List.length_map]; exact hW.len.2.2
    refine dcT_list (K := K) (a := p) (xs := bs.map V.ref) (fun i H' => Same H0 H' ∧ H' D = some (.dT (((srt rankK (R.map (·.1))).take i).map fun k => (k, (valV kvs k).getD .non)))) ?_ ?_ ?_ ?_
    · exact ⟨same_new nD, upd_same⟩
    · rintro i H' ⟨sm, hD⟩
      exact SqL.of (sm _ _ hp0)
    · rintro i y H' hi ⟨sm, hD⟩
      rw [List.getElem?_map] at hi
      obtain ⟨b, hb, rfl⟩ := Option.map_eq_some_iff.mp hi
      obtain ⟨k, ek2, hbk⟩ := isKs_at isk hb
      have hkR : k ∈ R.map (·.1) := srt_mem.mp (List.mem_of_getElem? ek2)
      obtain ⟨v, ev, tv⟩ := hkv.val hkR
      have hb' := sm _ _ (sp_ _ _ hbk)
      refine ⟨rfl, .ref b, rfl, .ref x, rfl, x, C, dx, _, .ref d, rfl, sm _ _ (sp_ _ _ hx), W.cl, W.n4, rfl, .ref b, rfl, d, v, rfl, ?_, ?_⟩
      · have g := DGet.t (k := k) (sm _ _ (sp_ _ _ hd)) hb'
        rw [ev] at g
        exact g
      · have kn : k ∉ (srt rankK (R.map (·.1))).take i := by
          intro z
          obtain ⟨j, hj, e⟩ := List.getElem_of_mem z
          rw [List.length_take] at hj
          rw [List.getElem_take] at e
          have hii := (List.getElem?_eq_some_iff.mp ek2).1
          have e2 := (List.getElem?_eq_some_iff.mp ek2).2
          exact absurd (e.trans e2.symm) (List.pairwise_iff_getElem.mp nds j i (by omega) hii (by omega))
        refine ⟨_, k, b, rfl, hb', hD, by rw [List.length_map, List.length_take]; exact small1000 (by omega), fun c o e => ?_, ?_⟩
        · have : c ≠ D := ne_of_none e nD
          rw [upd_ne this]
          exact sm _ _ e
        · rw [upd_same, putK_new _ (valV_map_none kn), List.take_add_one, ek2, List.map_append]
          show some (HO.dT (_ ++ [(k, v)])) = some (HO.dT (_ ++ [(k, (valV kvs k).getD .non)]))
          rw [ev]
          rfl
    · rintro H' ⟨sm, hD⟩
      have lb : (bs.map V.ref).length = (srt rankK (R.map (·.1))).length := by rw [List.length_map]; exact (Paired.length isk).symm
      rw [lb, List.take_length] at hD
      refine q D H' _ (fun b o e => sm _ _ (sp_ _ _ e)) nDH hD ?_
      exact kvd_of (KvD.mono (Tups.same fun b o e => sm _ _ (sp_ _ _ e)) hkv) fun k hk => srt_mem.mp hk
end

/-! ### the parts of rules; states are added -/
theorem passNo {X : Cx} : Passes (L2.CX X.prog X.w) X fun _ _ _ => False := L2.passes_call (W := fun _ _ _ _ => False) L2.takes_none5 (fun _ _ _ _ h => h)
def sp_require_verdict (C : Addr) : Sp := fun us H Q E => ∃ (p : Addr) (v : V) (d : PyData), us = [v] ∧ LD p H v d ∧ (btw d 0 3 = true → Q .non H) ∧ (btw d 0 3 = false → ∀ e, H e = none → E (.ref C) (some e) (upd H e (.xd [(("verdict" : Str), v)])))
def sp_require_state (C CU : Addr) : Sp := fun us H Q E => ∃ (x lv lh d : Addr) (n : Int) (vs hs : List Int) (R : Rows) (p : Addr) (v : V) (dd : PyData), us = [.ref x, v] ∧ WAt C H x lv lh d n vs hs R ∧ LD p H v dd ∧
  (btw dd 0 ((vs.length : Int) - 1) = true → Q .non H) ∧ (btw dd 0 ((vs.length : Int) - 1) = false → ∀ e, H e = none → E (.ref CU) (some e) (upd H e (.xd [(("state" : Str), v)])))
def isTest (d : PyData) (h : Int) : Bool := isStrD d "new" || btw d 0 (h - 1)
def sp_is_test : Sp := fun us H Q _ => ∃ (p : Addr) (v : V) (d : PyData) (h : Int), us = [v, .int h] ∧ LD p H v d ∧ isDctD d = false ∧ Q (.bl (isTest d h)) H
def sp_no_sources : Sp := fun us H Q _ => ∃ (a : Addr) (wn h : Int) (t : V), us = [.ref a, .int wn, .int h, t] ∧ H a = some (.tup []) ∧ Q (.bl (decide (wn = 0))) H
def sp_add_state (C CV CL : Addr) : Sp := fun us H Q E => ∃ (x lv lh d : Addr) (n : Int) (vs hs : List Int) (R : Rows) (p : Addr) (v1 v2 : V) (d1 d2 : PyData), us = [.ref x, v1, v2] ∧ WAt C H x lv lh d n vs hs R ∧ LD p H v1 d1 ∧ LD p H v2 d2 ∧
  (btw d1 0 3 = false → ∀ e, H e = none → E (.ref CV) (some e) (upd H e (.xd [(("verdict" : Str), v1)]))) ∧
  (btw d1 0 3 = true → btw d2 0 3 = false → ∀ e, H e = none → E (.ref CL) (some e) (upd H e (.xd [(("limit" : Str), .int 3)]))) ∧
  (btw d1 0 3 = true → btw d2 0 3 = true → vs.length = 6 → ∀ e, H e = none → E (.ref CL) (some e) (upd H e (.xd [(("limit" : Str), .int 6)]))) ∧
  (∀ a b, d1 = .int a → d2 = .int b → btw d1 0 3 = true → btw d2 0 3 = true → vs.length < 6 → ∀ H', (∀ c o, H c = some o → c ≠ lv → c ≠ lh → H' c = some o) → WAt C H' x lv lh d n (vs ++ [a]) (hs ++ [b]) R → Q (.int vs.length) H')

section
variable {P : Program} {w : World} {K : PySem.W.Frag} {mg : Str → Option Value} {base : Heap}
abbrev N_require_verdict : List Str := ["verdict"]
theorem sc_require_verdict : FnScope N_require_verdict ["verdict"] (defScope s_require_verdict) := ⟨rfl, rfl, rfl, by decide +kernel, rfl, by decide +kernel, by decide +kernel⟩
theorem ok_require_verdict {f f_is_between C iC : Addr} {fd fd_is_between : FuncData} {t3 : Tok} (F : Fun K "require_verdict" "require_verdict" s_require_verdict f fd) (F_is_between : Fun K "is_between" "is_between" s_is_between f_is_between fd_is_between) (b_is_between : Binds K fd_is_between ["value", "low", "high"] [])
    (g_is_between : mg "is_between" = some (.ref f_is_between)) (O_is_between : FnOk P w K mg base CX0 2 f_is_between fd_is_between ["value", "low", "high"] sp_is_between) (T_NotAVerdict : L2.ErrOk OwnE.bVE "NotAVerdict" "verdict" "NotAVerdict.__init__" K mg C iC) (g_MOST_VERDICT : mg "MOST_VERDICT" = some (.int 3 t3)) :
    FnOk P w K mg base (L2.CX P w) 3 f fd ["verdict"] (sp_require_verdict C) := by
  refine okOX F sc_require_verdict (fun vs H Q E h => ?_) (fun cdv A outer s H vs Q E gd hr h => ?_)
  · obtain ⟨p, v, d, rfl, _⟩ := h
    rfl
  · obtain ⟨p, v, d, rfl, hv, q1, q2⟩ := h
    have hr1 : Room 1 _ := hr.mono (by decide)
    refine ⟨_, 
      (pss_one (ps_if (pt_not (pt_val (pe_callO O_is_between gd (hr.mono (by decide)) rfl g_is_between F_is_between.kp b_is_between .nil pass0 (pa_cons (pv 0) (pa_cons pe_int (pa_cons (pe_glob (v := .int 3) rfl g_MOST_VERDICT ⟨_, rfl⟩) pa_nil)))))) 
        (pss_one (L2.ps_raiseE (W := fun cls d _ H => E cls d H) rfl T_NotAVerdict hr1 (takes_of rfl rfl rfl rfl) (by exact (pa_cons (pv 0) pa_nil)))) -- raise NotAVerdict(verdict)
         pss_nil)) -- if not is_between(verdict, 0, MOST_VERDICT):
       , ?_⟩
    refine ⟨v, rfl, p, v, d, 0, 3, rfl, hv, _, rfl, ?_⟩
    cases hb : btw d 0 3 with
    | false => exact ⟨v, rfl, v, rfl, fun e he => q2 hb e he⟩
    | true => exact q1 hb
end

section
variable {P : Program} {w : World} {K : PySem.W.Frag} {mg : Str → Option Value} {base : Heap}
abbrev N_Watcher_require_state : List Str := ["self", "state"]
theorem sc_Watcher_require_state : FnScope N_Watcher_require_state ["self", "state"] (defScope s_Watcher_require_state) := ⟨rfl, rfl, rfl, by decide +kernel, rfl, by decide +kernel, by decide +kernel⟩
theorem ok_require_state {f f_is_between C CU iU : Addr} {fd fd_is_between : FuncData} (F : Fun K "require_state" "Watcher.require_state" s_Watcher_require_state f fd) (F_is_between : Fun K "is_between" "is_between" s_is_between f_is_between fd_is_between) (b_is_between : Binds K fd_is_between ["value", "low", "high"] [])
    (g_is_between : mg "is_between" = some (.ref f_is_between)) (O_is_between : FnOk P w K mg base CX0 2 f_is_between fd_is_between ["value", "low", "high"] sp_is_between) (T_UnknownState : L2.ErrOk OwnE.bLE "UnknownState" "state" "UnknownState.__init__" K mg CU iU) (W : WCls K C) (m_len : mg "len" = none) :
    FnOk P w K mg base (L2.CX P w) 3 f fd ["self", "state"] (sp_require_state C CU) := by
  refine okOX F sc_Watcher_require_state (fun vs H Q E h => ?_) (fun cdv A outer s H vs Q E gd hr h => ?_)
  · obtain ⟨x, lv, lh, d, n, vs, hs, R, p, v, dd, rfl, _⟩ := h
    rfl
  · obtain ⟨x, lv, lh, d, n, vs, hs, R, p, v, dd, rfl, hW, hv, q1, q2⟩ := h
    have hr1 : Room 1 _ := hr.mono (by decide)
    refine ⟨_, 
      (pss_one (ps_if (pt_not (pt_val (pe_callO O_is_between gd (hr.mono (by decide)) rfl g_is_between F_is_between.kp b_is_between .nil pass0 (pa_cons (pv 1) (pa_cons pe_int (pa_cons (pe_op op_sub (pe_callB call_len_seq (by rfl) m_len PySem.boot_len (pa_cons (pe_fld (pv 0) rfl) pa_nil)) pe_int) pa_nil)))))) 
        (pss_one (L2.ps_raiseE (W := fun cls d _ H => E cls d H) rfl T_UnknownState hr1 (takes_of rfl rfl rfl rfl) (by exact (pa_cons (pv 1) pa_nil)))) -- raise UnknownState(state)
         pss_nil)) -- if not is_between(state, 0, len(self._verdicts) - 1):
       , ?_⟩
    obtain ⟨dx, hx⟩ := hW.ins
    refine ⟨v, rfl, .ref x, rfl, x, C, dx, _, .ref lv, rfl, hx, W.cl, W.n2, rfl, lv, _, rfl, .inl (SqL.of hW.ver), _, 1, rfl, rfl, p, v, dd, 0, _, rfl, hv, _, rfl, ?_⟩
    rw [List.length_map]
    cases hb : btw dd 0 ((vs.length : Int) - 1) with
    | false => exact ⟨v, rfl, v, rfl, fun e he => q2 hb e he⟩
    | true => exact q1 hb
end

section
variable {P : Program} {w : World} {K : PySem.W.Frag} {mg : Str → Option Value} {base : Heap}
abbrev N_is_test : List Str := ["test", "held"]
theorem sc_is_test : FnScope N_is_test ["test", "held"] (defScope s_is_test) := ⟨rfl, rfl, rfl, by decide +kernel, rfl, by decide +kernel, by decide +kernel⟩
theorem ok_is_test {f f_is_between : Addr} {fd fd_is_between : FuncData} {tN : Tok} (F : Fun K "is_test" "is_test" s_is_test f fd) (F_is_between : Fun K "is_between" "is_between" s_is_between f_is_between fd_is_between) (b_is_between : Binds K fd_is_between ["value", "low", "high"] [])
    (g_is_between : mg "is_between" = some (.ref f_is_between)) (O_is_between : FnOk P w K mg base CX0 2 f_is_between fd_is_between ["value", "low", "high"] sp_is_between) (g_NEW : mg "NEW" = some (.str "new" tN)) : FnOk P w K mg base CX0 3 f fd ["test", "held"] sp_is_test := by
  refine okO F sc_is_test (fun vs H Q E h => ?_) (fun cdv A outer s H vs Q E gd hr h => ?_)
  · obtain ⟨p, v, d, h', rfl, _⟩ := h
    rfl
  · obtain ⟨p, v, d, h', rfl, hv, nd, q⟩ := h
    refine ⟨_, 
      (pss_one (ps_ret (pe_or (pe_cmpR (op_eqS hr.units) (pv 0) (pe_glob (v := .str "new") rfl g_NEW ⟨_, rfl⟩) (nomark _)) (pe_one (pe_callO O_is_between gd (hr.mono (by decide)) rfl g_is_between F_is_between.kp b_is_between .nil pass0 (pa_cons (pv 0) (pa_cons pe_int (pa_cons (pe_op op_sub (pv 1) pe_int) pa_nil)))))))) -- return test == NEW or is_between(test, 0, held - 1)
       , ?_⟩
    refine ⟨v, rfl, p, d, "new", hv, nd, rfl, _, rfl, ?_⟩
    unfold isTest at q
    cases hb : isStrD d "new" with
    | true =>
      rw [hb] at q
      exact q
    | false =>
      rw [hb] at q
      exact ⟨v, rfl, .int h', rfl, h', 1, rfl, rfl, p, v, d, 0, h' - 1, rfl, hv, q⟩
end

section
variable {P : Program} {w : World} {K : PySem.W.Frag} {mg : Str → Option Value} {base : Heap}
abbrev N_Watcher_add_state : List Str := ["self", "verdict", "held"]
theorem sc_Watcher_add_state : FnScope N_Watcher_add_state ["self", "verdict", "held"] (defScope s_Watcher_add_state) := ⟨rfl, rfl, rfl, by decide +kernel, rfl, by decide +kernel, by decide +kernel⟩
theorem ok_Watcher_add_state {f f_is_between f_require_verdict C CV CL iL : Addr} {fd fd_is_between fd_require_verdict : FuncData} {t3 t6 : Tok} (F : Fun K "add_state" "Watcher.add_state" s_Watcher_add_state f fd) (F_is_between : Fun K "is_between" "is_between" s_is_between f_is_between fd_is_between) (b_is_between : Binds K fd_is_between ["value", "low", "high"] [])
    (g_is_between : mg "is_between" = some (.ref f_is_between)) (O_is_between : FnOk P w K mg base CX0 2 f_is_between fd_is_between ["value", "low", "high"] sp_is_between) (F_require_verdict : Fun K "require_verdict" "require_verdict" s_require_verdict f_require_verdict fd_require_verdict) (b_require_verdict : Binds K fd_require_verdict ["verdict"] [])
    (g_require_verdict : mg "require_verdict" = some (.ref f_require_verdict)) (O_require_verdict : FnOk P w K mg base (L2.CX P w) 3 f_require_verdict fd_require_verdict ["verdict"] (sp_require_verdict CV)) (T_LimitExceeded : L2.ErrOk OwnE.bOE "LimitExceeded" "limit" "LimitExceeded.__init__" K mg CL iL)
    (g_MOST_HELD : mg "MOST_HELD" = some (.int 3 t3)) (g_MOST_STATES : mg "MOST_STATES" = some (.int 6 t6)) (W : WCls K C) (m_len : mg "len" = none) : FnOk P w K mg base (L2.CX P w) 4 f fd ["self", "verdict", "held"] (sp_add_state C CV CL) := by
  refine okOX F sc_Watcher_add_state (fun vs H Q E h => ?_) (fun cdv A outer s H vs Q E gd hr h => ?_)
  · obtain ⟨x, lv, lh, d, n, vs, hs, R, p, v1, v2, d1, d2, rfl, _⟩ := h
    rfl
  · obtain ⟨x, lv, lh, d, n, vs, hs, R, p, v1, v2, d1, d2, rfl, hW, h1, h2, q1, q2, q3, q4⟩ := h
    have hr1 : Room 1 _ := hr.mono (by decide)
    refine ⟨_, 
      (pss_cons (ps_expr (pe_callO O_require_verdict gd (hr.mono (by decide)) rfl g_require_verdict F_require_verdict.kp b_require_verdict .nil (L2.passes_call (W := fun cls d _ H => E cls d H) (takes_of rfl rfl rfl rfl) (fun _ _ _ _ h => h)) (pa_cons (pv 1) pa_nil))) -- require_verdict(verdict)
      (pss_cons (ps_if (pt_not (pt_val (pe_callO O_is_between gd (hr.mono (by decide)) rfl g_is_between F_is_between.kp b_is_between .nil pass0 (pa_cons (pv 2) (pa_cons pe_int (pa_cons (pe_glob (v := .int 3) rfl g_MOST_HELD ⟨_, rfl⟩) pa_nil)))))) 
        (pss_one (L2.ps_raiseE (W := fun cls d _ H => E cls d H) rfl T_LimitExceeded hr1 (takes_of rfl rfl rfl rfl) (by exact (pa_cons (pe_glob (v := .int 3) rfl g_MOST_HELD ⟨_, rfl⟩) pa_nil)))) -- raise LimitExceeded(MOST_HELD)
         pss_nil) -- if not is_between(held, 0, MOST_HELD):
      (pss_cons (ps_if (pt_cmpR op_eq (pe_callB call_len_seq (by rfl) m_len PySem.boot_len (pa_cons (pe_fld (pv 0) rfl) pa_nil)) (pe_glob (v := .int 6) rfl g_MOST_STATES ⟨_, rfl⟩) (nomark _)) 
        (pss_one (L2.ps_raiseE (W := fun cls d _ H => E cls d H) rfl T_LimitExceeded hr1 (takes_of rfl rfl rfl rfl) (by exact (pa_cons (pe_glob (v := .int 6) rfl g_MOST_STATES ⟨_, rfl⟩) pa_nil)))) -- raise LimitExceeded(MOST_STATES)
         pss_nil) -- if len(self._verdicts) == MOST_STATES:
      (pss_cons (ps_expr (pe_bm PySem.F.plainAttrs_list PySem.F.slot_list_append PySem.F.type_list_append mt_append (pe_fld (pv 0) rfl) (pa_cons (pv 1) pa_nil))) -- self._verdicts.append(verdict)
      (pss_cons (ps_expr (pe_bm PySem.F.plainAttrs_list PySem.F.slot_list_append PySem.F.type_list_append mt_append (pe_fld (pv 0) rfl) (pa_cons (pv 2) pa_nil))) -- self._held.append(held)
      (pss_one (ps_ret (pe_op op_sub (pe_callB call_len_seq (by rfl) m_len PySem.boot_len (pa_cons (pe_fld (pv 0) rfl) pa_nil)) pe_int))) -- return len(self._verdicts) - 1
      ))))) , ?_⟩
    obtain ⟨dx, hx⟩ := hW.ins
    have hv := hW.ver
    have hh := hW.hel
    have ne := hW.ne
    have ll := hW.len
    refine ⟨v1, rfl, p, v1, d1, rfl, h1, fun o1 => ?_, q1⟩
    refine ⟨v2, rfl, p, v2, d2, 0, 3, rfl, h2, _, rfl, ?_⟩
    cases hb : btw d2 0 3 with
    | false => exact ⟨.int 3, rfl, fun e he => q2 o1 hb e he⟩
    | true =>
      refine ⟨.ref x, rfl, x, C, dx, _, .ref lv, rfl, hx, W.cl, W.n2, rfl, lv, _, rfl, .inl (SqL.of hv), rfl, _, rfl, ?_⟩
      rw [List.length_map]
      by_cases h6 : vs.length = 6
      · rw [h6]
        exact ⟨.int 6, rfl, fun e he => q3 o1 hb h6 e he⟩
      · have h6' : ¬ (V.int ((vs.length : Nat) : Int)) = V.int 6 := fun z => h6 (by have := V.int.inj z; omega)
        rw [decide_eq_false h6']
        obtain ⟨a, rfl, _⟩ := btw_int o1
        obtain ⟨b, rfl, _⟩ := btw_int hb
        cases h1
        cases h2
        have xv : x ≠ lv := ne_of hx hv (fun z => nomatch z)
        have xh : x ≠ lh := ne_of hx hh (fun z => nomatch z)
        refine ⟨.ref x, rfl, x, C, dx, _, .ref lv, rfl, hx, W.cl, W.n2, rfl, .inl ⟨rfl, _, SqL.of hv⟩, .int a, rfl, lv, _, .int a, rfl, rfl, hv, by rw [List.length_map]; exact small1000 (by omega), ?_⟩
        have hx1 : upd H lv (.lst (vs.map V.int ++ [V.int a])) x = some (.ins C dx (wf n lv lh d)) := by rw [upd_ne xv]; exact hx
        have hh1 : upd H lv (.lst (vs.map V.int ++ [V.int a])) lh = some (.lst (hs.map V.int)) := by rw [upd_ne ne.symm]; exact hh
        refine ⟨.ref x, rfl, x, C, dx, _, .ref lh, rfl, hx1, W.cl, W.n3, rfl, .inl ⟨rfl, _, SqL.of hh1⟩, .int b, rfl, lh, _, .int b, rfl, rfl, hh1, by rw [List.length_map]; exact small1000 (by omega), ?_⟩
        have hx2 : upd (upd H lv (.lst (vs.map V.int ++ [V.int a]))) lh (.lst (hs.map V.int ++ [V.int b])) x = some (.ins C dx (wf n lv lh d)) := by rw [upd_ne xh]; exact hx1
        have hv2 : upd (upd H lv (.lst (vs.map V.int ++ [V.int a]))) lh (.lst (hs.map V.int ++ [V.int b])) lv = some (.lst (vs.map V.int ++ [V.int a])) := by rw [upd_ne ne]; exact upd_same
        refine ⟨.ref x, rfl, x, C, dx, _, .ref lv, rfl, hx2, W.cl, W.n2, rfl, lv, _, rfl, .inl (SqL.of hv2), _, 1, rfl, rfl, ?_⟩
        have el : (((vs.map V.int ++ [V.int a]).length : Nat) : Int) - 1 = (vs.length : Int) := by
          rw [List.length_append, List.length_map]
          show ((vs.length + 1 : Nat) : Int) - 1 = _
          omega
        dsimp only
        rw [el]
        obtain ⟨kvs, hd, hkv⟩ := hW.rul
        have dv : d ≠ lv := ne_of hd hv (fun z => nomatch z)
        have dh : d ≠ lh := ne_of hd hh (fun z => nomatch z)
        have tp : Tups H (upd (upd H lv (.lst (vs.map V.int ++ [V.int a]))) lh (.lst (hs.map V.int ++ [V.int b]))) := (Tups.lst hv).trans (Tups.lst hh1)
        refine q4 a b rfl rfl o1 hb (by omega) _ (fun c o e n1 n2 => ?_) { ins := ⟨dx, hx2⟩, ver := ?_, hel := ?_, rul := ⟨kvs, ?_, hkv.mono tp⟩, ne := ne, rk := hW.rk, nd := hW.nd, len := ⟨by rw [List.length_append, List.length_append, ll.1]; rfl, by rw [List.length_append]; show vs.length + 1 ≤ 6; omega, ll.2.2⟩ }
        · rw [upd_ne n2, upd_ne n1]
          exact e
        · rw [hv2, List.map_append]
          rfl
        · rw [upd_same, List.map_append]
          rfl
        · rw [upd_ne dh, upd_ne dv]
          exact hd
end

/-! ### sources, words, rules -/
theorem Tx.W {K : PySem.W.Frag} {mg : Str → Option Value} (T : Tx K mg) : WCls K T.Watcher.C := ⟨T.Watcher.cl, T.nf_Watcherwords, T.nf_Watcher_verdicts, T.nf_Watcher_held, T.nf_Watcher_rules⟩
theorem ldK {p : Addr} {H : Hp} : ∀ t : Key, LD p H (kV t) (kD t)
  | .inl n => .int n
  | .inr s => .str s
theorem kD_nd : ∀ t : Key, isDctD (kD t) = false
  | .inl _ => rfl
  | .inr _ => rfl
def isSrc (d : PyData) (h : Int) (t : Key) : Bool := if isStrD d "value" = true then isStrD (kD t) "new" else btw d 0 (h - 1)
/-- the data are sources of a rule -/
structure AreSrc (d : PyData) (wn h : Int) (t : Key) (ks : List Key) : Prop where
  d : d = .tuple (ks.map kD)
  len : (ks.length : Int) = wn
  all : ∀ k ∈ ks, isSrc (kD k) h t = true
  nd : ks.Nodup
def SmallT : PyData → Prop
  | .tuple ds => ds.length ≤ 50
  | _ => True
theorem isSrc_key {p : Addr} {H : Hp} {v : V} {d : PyData} {h : Int} {t : Key} (hv : LD p H v d) (hs : isSrc d h t = true) : ∃ k : Key, d = kD k ∧ v = kV k := by
  unfold isSrc at hs
  cases hv with
  | int i => exact ⟨.inl i, rfl, rfl⟩
  | str x => exact ⟨.inr x, rfl, rfl⟩
  | _ => cases hs
theorem srcs_of {p : Addr} {H : Hp} {h : Int} {t : Key} : ∀ {xs : List V} {ds : List PyData}, LDs p H xs ds → (∀ e ∈ ds, isSrc e h t = true) → ∃ ks : List Key, ds = ks.map kD ∧ xs = ks.map kV
  | _, _, .nil, _ => ⟨[], rfl, rfl⟩
  | _, _, .cons a r, hs => by
    obtain ⟨k, rfl, rfl⟩ := isSrc_key a (hs _ List.mem_cons_self)
    obtain ⟨ks, rfl, rfl⟩ := srcs_of r fun e he => hs e (List.mem_cons_of_mem _ he)
    exact ⟨k :: ks, rfl, rfl⟩
theorem kD_inj {a b : Key} (h : kD a = kD b) : a = b := by
  cases a <;> cases b <;> simp_all [kD]
theorem map_kD_inj : ∀ {a b : List Key}, a.map kD = b.map kD → a = b
  | [], [], _ => rfl
  | [], _ :: _, h => by cases h
  | _ :: _, [], h => by cases h
  | x :: a, y :: b, h => by
    simp only [List.map_cons, List.cons.injEq] at h
    rw [kD_inj h.1, map_kD_inj h.2]
def sp_is_source : Sp := fun us H Q _ => ∃ (p : Addr) (v : V) (d : PyData) (h : Int) (t : Key), us = [v, .int h, kV t] ∧ LD p H v d ∧ Q (.bl (isSrc d h t)) H
def sp_are_sources : Sp := fun us H Q _ => ∃ (p : Addr) (v : V) (d : PyData) (wn h : Int) (t : Key), us = [v, .int wn, .int h, kV t] ∧ LD p H v d ∧ SmallT d ∧ ((∃ ks, AreSrc d wn h t ks) → Q (.bl true) H) ∧ ((¬ ∃ ks, AreSrc d wn h t ks) → Q (.bl false) H)
def sp_require_word (C CW : Addr) : Sp := fun us H Q E => ∃ (x lv lh d : Addr) (n : Int) (vs hs : List Int) (R : Rows) (p : Addr) (v : V) (dd : PyData), us = [.ref x, v] ∧ WAt C H x lv lh d n vs hs R ∧ LD p H v dd ∧
  (btw dd 0 (n - 1) = true → Q .non H) ∧ (btw dd 0 (n - 1) = false → ∀ e, H e = none → E (.ref CW) (some e) (upd H e (.xd [(("word" : Str), v)])))
def sp_set_verdict (C CU CV : Addr) : Sp := fun us H Q E => ∃ (x lv lh d : Addr) (n : Int) (vs hs : List Int) (R : Rows) (p : Addr) (v1 v2 : V) (d1 d2 : PyData), us = [.ref x, v1, v2] ∧ WAt C H x lv lh d n vs hs R ∧ LD p H v1 d1 ∧ LD p H v2 d2 ∧
  (btw d1 0 ((vs.length : Int) - 1) = false → ∀ e, H e = none → E (.ref CU) (some e) (upd H e (.xd [(("state" : Str), v1)]))) ∧
  (btw d1 0 ((vs.length : Int) - 1) = true → btw d2 0 3 = false → ∀ e, H e = none → E (.ref CV) (some e) (upd H e (.xd [(("verdict" : Str), v2)]))) ∧
  (∀ s v : Int, d1 = .int s → d2 = .int v → 0 ≤ s → s < vs.length → 0 ≤ v → v ≤ 3 → ∀ H', (∀ c o, H c = some o → c ≠ lv → H' c = some o) → WAt C H' x lv lh d n (vs.set s.toNat v) hs R → Q .non H')
def sp_rule_for (C : Addr) : Sp := fun us H Q _ => ∃ (x lv lh d : Addr) (n : Int) (vs hs : List Int) (R : Rows) (s w : Int) (t : Key), us = [.ref x, .int s, .int w, kV t] ∧ WAt C H x lv lh d n vs hs R ∧
  ([Sum.inl s, Sum.inl w, t] ∉ R.map (·.1) → ∀ H', Same H H' → Q .non H') ∧ ([Sum.inl s, Sum.inl w, t] ∈ R.map (·.1) → ∀ v H', Same H H' → TD H' v (lookR R [Sum.inl s, Sum.inl w, t]) → Q v H')
def hAt (hs : List Int) (i : Int) : Int := (hs[i.toNat]?).getD 0
structure ErrA where
  (U W T S R : Addr)
def sp_add_rule (C : Addr) (X : ErrA) : Sp := fun us H Q E => ∃ (x lv lh d : Addr) (n : Int) (vs hs : List Int) (R : Rows) (p : Addr) (v1 v2 v3 v4 v5 : V) (d1 d2 d3 d4 d5 : PyData), us = [.ref x, v1, v2, v3, v4, v5] ∧
  WAt C H x lv lh d n vs hs R ∧ LD p H v1 d1 ∧ LD p H v2 d2 ∧ LD p H v3 d3 ∧ LD p H v4 d4 ∧ LD p H v5 d5 ∧ isDctD d3 = false ∧ SmallT d5 ∧ R.length < 1000 ∧
  (btw d1 0 ((vs.length : Int) - 1) = false → ∀ e, H e = none → E (.ref X.U) (some e) (upd H e (.xd [(("state" : Str), v1)]))) ∧
  (btw d1 0 ((vs.length : Int) - 1) = true → btw d4 0 ((vs.length : Int) - 1) = false → ∀ e, H e = none → E (.ref X.U) (some e) (upd H e (.xd [(("state" : Str), v4)]))) ∧
  (btw d1 0 ((vs.length : Int) - 1) = true → btw d4 0 ((vs.length : Int) - 1) = true → btw d2 0 (n - 1) = false → ∀ e, H e = none → E (.ref X.W) (some e) (upd H e (.xd [(("word" : Str), v2)]))) ∧
  ∀ s tg w : Int, d1 = .int s → d4 = .int tg → d2 = .int w → 0 ≤ s → s < vs.length → 0 ≤ tg → tg < vs.length → 0 ≤ w → w < n →
    (isTest d3 (hAt hs s) = false → ∀ e, H e = none → E (.ref X.T) (some e) (upd H e (.xd [(("test" : Str), v3)]))) ∧
    ∀ t : Key, v3 = kV t → d3 = kD t → isTest (kD t) (hAt hs s) = true →
      ((¬ ∃ ks, AreSrc d5 (hAt hs tg) (hAt hs s) t ks) → ∀ e, H e = none → E (.ref X.S) (some e) (upd H e (.xd [(("sources" : Str), v5)]))) ∧
      ∀ ks, AreSrc d5 (hAt hs tg) (hAt hs s) t ks →
        ([Sum.inl s, Sum.inl w, t] ∈ R.map (·.1) → ∀ T, H T = none → ∀ e, upd H T (.tup [.int s, .int w, v3]) e = none → E (.ref X.R) (some e) (upd (upd H T (.tup [.int s, .int w, v3])) e (.xd [(("rule" : Str), .ref T)]))) ∧
        ([Sum.inl s, Sum.inl w, t] ∉ R.map (·.1) → ∀ H', (∀ c o, H c = some o → c ≠ d → H' c = some o) → WAt C H' x lv lh d n vs hs (R ++ [([Sum.inl s, Sum.inl w, t], ruleD (tg, ks))]) → Q .non H')
theorem test_key' {p : Addr} {H : Hp} {v : V} {d : PyData} {h : Int} (hv : LD p H v d) (ht : isTest d h = true) : ∃ t : Key, v = kV t ∧ d = kD t ∧ ((∃ r, t = Sum.inl r) ∨ t = Sum.inr ("new" : Str)) := by
  cases hv with
  | int i => exact ⟨Sum.inl i, rfl, rfl, .inl ⟨i, rfl⟩⟩
  | str x =>
    have e : (x == ("new" : Str)) = true := by
      have z : ((x == ("new" : Str)) || false) = true := ht
      rwa [Bool.or_false] at z
    exact ⟨Sum.inr x, rfl, rfl, .inr (by rw [beq_iff_eq.mp e])⟩
  | _ => cases ht
theorem hs_at {hs : List Int} {i : Int} (h0 : 0 ≤ i) (h1 : i < hs.length) : atI (hs.map V.int) i = some (.int (hAt hs i)) := by
  obtain ⟨j, rfl⟩ : ∃ j : Nat, i = j := ⟨i.toNat, by omega⟩
  have hj : j < hs.length := by omega
  refine atI_nat ?_
  unfold hAt
  rw [Int.toNat_natCast, List.getElem?_map, List.getElem?_eq_getElem hj]
  rfl
theorem btw_true {n lo hi : Int} (h0 : lo ≤ n) (h1 : n ≤ hi) : btw (.int n) lo hi = true := by
  show (decide (lo ≤ n) && decide (n ≤ hi)) = true
  rw [decide_eq_true h0, decide_eq_true h1]
  rfl
section
variable {P : Program} {w : World} {K : PySem.W.Frag} {mg : Str → Option Value} {base : Heap}
theorem O_is_between (T : Tx K mg) : FnOk P w K mg base CX0 2 T.is_between.f T.is_between.fd ["value", "low", "high"] sp_is_between := ok_is_between T.is_between.F T.is_integer.F T.is_integer.b T.is_integer.g T.m_isinstance T.m_int T.m_bool
theorem O_require_verdict (T : Tx K mg) : FnOk P w K mg base (L2.CX P w) 3 T.require_verdict.f T.require_verdict.fd ["verdict"] (sp_require_verdict T.NotAVerdict.C) := ok_require_verdict T.require_verdict.F T.is_between.F T.is_between.b T.is_between.g (O_is_between T) T.NotAVerdict.e T.g_MOST_VERDICT
theorem O_Watcher_require_state (T : Tx K mg) : FnOk P w K mg base (L2.CX P w) 3 T.Watcher_require_state.f T.Watcher_require_state.fd ["self", "state"] (sp_require_state T.Watcher.C T.UnknownState.C) := ok_require_state T.Watcher_require_state.F T.is_between.F T.is_between.b T.is_between.g (O_is_between T) T.UnknownState.e T.W T.m_len
theorem O_is_test (T : Tx K mg) : FnOk P w K mg base CX0 3 T.is_test.f T.is_test.fd ["test", "held"] sp_is_test := ok_is_test T.is_test.F T.is_between.F T.is_between.b T.is_between.g (O_is_between T) T.g_NEW
theorem O_Watcher_add_state (T : Tx K mg) : FnOk P w K mg base (L2.CX P w) 4 T.Watcher_add_state.f T.Watcher_add_state.fd ["self", "verdict", "held"] (sp_add_state T.Watcher.C T.NotAVerdict.C T.LimitExceeded.C) :=
  ok_Watcher_add_state T.Watcher_add_state.F T.is_between.F T.is_between.b T.is_between.g (O_is_between T) T.require_verdict.F T.require_verdict.b T.require_verdict.g (O_require_verdict T) T.LimitExceeded.e T.g_MOST_HELD T.g_MOST_STATES T.W T.m_len
end

section
variable {P : Program} {w : World} {K : PySem.W.Frag} {mg : Str → Option Value} {base : Heap}
abbrev N_is_source : List Str := ["source", "held", "test"]
theorem sc_is_source : FnScope N_is_source ["source", "held", "test"] (defScope s_is_source) := ⟨rfl, rfl, rfl, by decide +kernel, rfl, by decide +kernel, by decide +kernel⟩
theorem O_is_source (T : Tx K mg) : FnOk P w K mg base CX0 3 T.is_source.f T.is_source.fd ["source", "held", "test"] sp_is_source := by
  refine okO T.is_source.F sc_is_source (fun vs H Q E h => ?_) (fun cdv A outer s H vs Q E gd hr h => ?_)
  · obtain ⟨p, v, d, h', t, rfl, _⟩ := h
    rfl
  · obtain ⟨p, v, d, h', t, rfl, hv, q⟩ := h
    refine ⟨_, 
      (pss_cons (ps_if (pt_cmpR (op_eqS' hr.units) (pv 0) (pe_glob (v := .str "value") rfl T.g_VALUE ⟨_, rfl⟩) (nomark _)) 
        (pss_one (ps_ret (pe_cmpR (op_eqS hr.units) (pv 2) (pe_glob (v := .str "new") rfl T.g_NEW ⟨_, rfl⟩) (nomark _)))) -- return test == NEW
         pss_nil) -- if source == VALUE:
      (pss_one (ps_ret (pe_callO (O_is_between T) gd (hr.mono (by decide)) rfl T.is_between.g T.is_between.F.kp T.is_between.b .nil pass0 (pa_cons (pv 0) (pa_cons pe_int (pa_cons (pe_op op_sub (pv 1) pe_int) pa_nil)))))) -- return is_between(source, 0, held - 1)
      ) , ?_⟩
    refine ⟨v, rfl, p, d, "value", hv, rfl, _, rfl, ?_⟩
    unfold isSrc at q
    cases hb : isStrD d "value" with
    | true =>
      rw [hb, if_pos rfl] at q
      exact iteT ⟨kV t, rfl, p, kD t, "new", ldK t, kD_nd t, rfl, q⟩
    | false =>
      rw [hb, if_neg Bool.false_ne_true] at q
      exact iteF ⟨v, rfl, .int h', rfl, h', 1, rfl, rfl, p, v, d, 0, h' - 1, rfl, hv, q⟩
end

section
variable {P : Program} {w : World} {K : PySem.W.Frag} {mg : Str → Option Value} {base : Heap}
abbrev N_are_sources : List Str := ["sources", "wanted", "held", "test", "source"]
theorem sc_are_sources : FnScope N_are_sources ["sources", "wanted", "held", "test"] (defScope s_are_sources) := ⟨rfl, rfl, rfl, by decide +kernel, rfl, by decide +kernel, by decide +kernel⟩
theorem O_are_sources (T : Tx K mg) : FnOk P w K mg base CX0 4 T.are_sources.f T.are_sources.fd ["sources", "wanted", "held", "test"] sp_are_sources := by
  refine okO T.are_sources.F sc_are_sources (fun vs H Q E h => ?_) (fun cdv A outer s H vs Q E gd hr h => ?_)
  · obtain ⟨p, v, d, wn, h', t, rfl, _⟩ := h
    rfl
  · obtain ⟨p, v, d, wn, h', t, rfl, hv, sm, q1, q2⟩ := h
    refine ⟨_, 
      (pss_cons (ps_if (PW.pt (pw_or (pt_not (pt_val (pe_callB (call_isL kit_tup) (by rfl) T.m_isinstance (by decide +kernel) (pa_cons (pv 0) (pa_cons (pe_bltn (v := .ty "tuple") (by rfl) T.m_tuple (by decide +kernel) (show RelV (.ty "tuple") (.type "tuple") from rfl)) pa_nil))))) (pw_or1 (pt_cmpR op_ne (pe_callB call_len_seq (by rfl) T.m_len PySem.boot_len (pa_cons (pv 0) pa_nil)) (pv 1) (nomark _))))) 
        (pss_one (ps_ret pe_bl)) -- return False
         pss_nil) -- if not isinstance(sources, tuple) or len(sources) != wanted:
      (pss_cons (ps_for PassesOwn.never rfl (pi_tup (pv 0)) (pg_name (i := 4) sc_are_sources.nd rfl (.inl rfl)) 
        (pss_one (ps_if (pt_not (pt_val (pe_callO (O_is_source T) gd (hr.mono (by decide)) rfl T.is_source.g T.is_source.F.kp T.is_source.b .nil pass0 (pa_cons (pv 4) (pa_cons (pv 2) (pa_cons (pv 3) pa_nil)))))) 
          (pss_one (ps_ret pe_bl)) -- return False
           pss_nil)) -- if not is_source(source, held, test):
        ) -- for source in sources:
      (pss_one (ps_ret (pe_cmpR op_eq (pe_lenSetM rfl (by rfl) T.m_len (by rfl) T.m_set (pv 0)) (pe_callB call_len_seq (by rfl) T.m_len PySem.boot_len (pa_cons (pv 0) pa_nil)) (nomark _)))) -- return len(set(sources)) == len(sources)
      )) , ?_⟩
    refine ⟨v, rfl, p, v, d, rfl, hv, _, rfl, ?_⟩
    cases hb : isTupD d with
    | false =>
      refine q2 ?_
      rintro ⟨ks, e⟩
      rw [e.d] at hb
      cases hb
    | true =>
      cases hv with
      | @tup a xs ds na ha hs =>
        have lx := hs.length
        refine ⟨.ref a, rfl, a, xs, rfl, .inr (SqT.of ha), .int wn, rfl, rfl, _, rfl, ?_⟩
        by_cases hw : (xs.length : Int) = wn
        · subst hw
          refine iteNS rfl ?_
          refine ⟨.ref a, rfl, a, rfl, ⟨_, SqT.of ha⟩, ?_⟩
          refine for_tup (K := K) (a := a) (xs := xs) (fun i σ H' => ∃ y, σ = [some (.ref a), some (.int (xs.length : Int)), some (.int h'), some (kV t), y] ∧ H' = H ∧ ∀ e ∈ ds.take i, isSrc e h' t = true) ?_ ?_ ?_ ?_
          · exact ⟨none, rfl, rfl, fun e he => by cases he⟩
          · rintro i σ H' hi ⟨y, rfl, rfl, _⟩
            exact SqT.of ha
          · rintro i x σ H' hi ⟨y, rfl, rfl, all⟩
            obtain ⟨e, he, hx⟩ := hs.get hi
            refine ⟨x, rfl, .int h', rfl, kV t, rfl, p, x, e, h', t, rfl, hx, _, rfl, ?_⟩
            cases hb2 : isSrc e h' t with
            | false =>
              refine iteT (q2 ?_)
              rintro ⟨ks, z⟩
              have z1 := PyData.tuple.inj z.d
              rw [z1, List.getElem?_map] at he
              obtain ⟨k, hk, rfl⟩ := Option.map_eq_some_iff.mp he
              rw [z.all k (List.mem_of_getElem? hk)] at hb2
              cases hb2
            | true =>
              refine iteF ⟨_, rfl, rfl, fun e' he' => ?_⟩
              rw [List.take_add_one, he] at he'
              rcases List.mem_append.mp he' with z | z
              · exact all e' z
              · have : e' = e := by simpa using z
                rw [this]
                exact hb2
          · rintro σ H' ⟨y, rfl, rfl, all⟩
            rw [lx, List.take_length] at all
            obtain ⟨ks, rfl, rfl⟩ := srcs_of hs all
            have sl : _ ≤ 50 := sm
            rw [List.length_map] at sl
            refine ⟨.ref a, rfl, a, ks, rfl, ha, sl, .ref a, rfl, a, _, rfl, .inr (SqT.of ha), rfl, ?_⟩
            rw [List.length_map]
            obtain ⟨u1, u2, u3, u4⟩ := uniqK_len _ ks rfl
            by_cases hn : ks.Nodup
            · rw [u3 hn, decide_eq_true rfl]
              refine q1 ⟨ks, rfl, by rw [List.length_map], fun k hk => all _ (List.mem_map.mpr ⟨k, hk, rfl⟩), hn⟩
            · have ne : ¬ (V.int ((uniqK ks).length : Nat) = V.int (ks.length : Nat)) := fun z => hn (u4 (by have := V.int.inj z; omega))
              rw [decide_eq_false ne]
              refine q2 ?_
              rintro ⟨ks', z⟩
              have := map_kD_inj (PyData.tuple.inj z.d)
              exact hn (this ▸ z.nd)
        · have ne : (V.int ((xs.length : Nat) : Int)) ≠ V.int wn := fun z => hw (V.int.inj z)
          rw [decide_eq_false ne]
          refine iteT (q2 ?_)
          rintro ⟨ks, z⟩
          have z1 := PyData.tuple.inj z.d
          have z2 := z.len
          rw [z1, List.length_map] at lx
          exact hw (by omega)
      | _ => cases hb
end

section
variable {P : Program} {w : World} {K : PySem.W.Frag} {mg : Str → Option Value} {base : Heap}
abbrev N_Watcher_require_word : List Str := ["self", "word"]
theorem sc_Watcher_require_word : FnScope N_Watcher_require_word ["self", "word"] (defScope s_Watcher_require_word) := ⟨rfl, rfl, rfl, by decide +kernel, rfl, by decide +kernel, by decide +kernel⟩
theorem O_Watcher_require_word (T : Tx K mg) : FnOk P w K mg base (L2.CX P w) 3 T.Watcher_require_word.f T.Watcher_require_word.fd ["self", "word"] (sp_require_word T.Watcher.C T.NotAWord.C) := by
  refine okOX T.Watcher_require_word.F sc_Watcher_require_word (fun vs H Q E h => ?_) (fun cdv A outer s H vs Q E gd hr h => ?_)
  · obtain ⟨x, lv, lh, d, n, vs, hs, R, p, v, dd, rfl, _⟩ := h
    rfl
  · obtain ⟨x, lv, lh, d, n, vs, hs, R, p, v, dd, rfl, hW, hv, q1, q2⟩ := h
    refine ⟨_, 
      (pss_one (ps_if (pt_not (pt_val (pe_callO (O_is_between T) gd (hr.mono (by decide)) rfl T.is_between.g T.is_between.F.kp T.is_between.b .nil pass0 (pa_cons (pv 1) (pa_cons pe_int (pa_cons (pe_op op_sub (pe_fld (pv 0) rfl) pe_int) pa_nil)))))) 
        (pss_one (L2.ps_raiseE (W := fun cls d _ H => E cls d H) rfl T.NotAWord.e (show Room 1 _ from hr.mono (by decide)) (takes_of rfl rfl rfl rfl) (by exact (pa_cons (pv 1) pa_nil)))) -- raise NotAWord(word)
         pss_nil)) -- if not is_between(word, 0, self.words - 1):
       , ?_⟩
    obtain ⟨dx, hx⟩ := hW.ins
    refine ⟨v, rfl, .ref x, rfl, x, T.Watcher.C, dx, _, .int n, rfl, hx, T.Watcher.cl, T.W.n1, rfl, n, 1, rfl, rfl, p, v, dd, 0, _, rfl, hv, _, rfl, ?_⟩
    cases hb : btw dd 0 (n - 1) with
    | false => exact ⟨v, rfl, v, rfl, fun e he => q2 hb e he⟩
    | true => exact q1 hb
end

section
variable {P : Program} {w : World} {K : PySem.W.Frag} {mg : Str → Option Value} {base : Heap}
abbrev N_Watcher_set_verdict : List Str := ["self", "state", "verdict"]
theorem sc_Watcher_set_verdict : FnScope N_Watcher_set_verdict ["self", "state", "verdict"] (defScope s_Watcher_set_verdict) := ⟨rfl, rfl, rfl, by decide +kernel, rfl, by decide +kernel, by decide +kernel⟩
theorem O_Watcher_set_verdict (T : Tx K mg) : FnOk P w K mg base (L2.CX P w) 4 T.Watcher_set_verdict.f T.Watcher_set_verdict.fd ["self", "state", "verdict"] (sp_set_verdict T.Watcher.C T.UnknownState.C T.NotAVerdict.C) := by
  refine okOX T.Watcher_set_verdict.F sc_Watcher_set_verdict (fun vs H Q E h => ?_) (fun cdv A outer s H vs Q E gd hr h => ?_)
  · obtain ⟨x, lv, lh, d, n, vs, hs, R, p, v1, v2, d1, d2, rfl, _⟩ := h
    rfl
  · obtain ⟨x, lv, lh, d, n, vs, hs, R, p, v1, v2, d1, d2, rfl, hW, h1, h2, q1, q2, q3⟩ := h
    refine ⟨_, 
      (pss_cons (ps_expr (pe_methO (pv 0) T.Watcher.cl T.Watcher_require_state.M (O_Watcher_require_state T) gd (hr.mono (by decide)) T.Watcher_require_state.b .nil (L2.passes_call (W := fun cls d _ H => E cls d H) (takes_of rfl rfl rfl rfl) (fun _ _ _ _ h => h)) (pa_cons (pv 1) pa_nil))) -- self.require_state(state)
      (pss_cons (ps_expr (pe_callO (O_require_verdict T) gd (hr.mono (by decide)) rfl T.require_verdict.g T.require_verdict.F.kp T.require_verdict.b .nil (L2.passes_call (W := fun cls d _ H => E cls d H) (takes_of rfl rfl rfl rfl) (fun _ _ _ _ h => h)) (pa_cons (pv 2) pa_nil))) -- require_verdict(verdict)
      (pss_one (ps_asg (pv 2) (pg_sub (pe_fld (pv 0) rfl) (pv 1) set_list))) -- self._verdicts[state] = verdict
      )) , ?_⟩
    obtain ⟨dx, hx⟩ := hW.ins
    refine ⟨.ref x, rfl, x, dx, _, rfl, hx, rfl, v1, rfl, x, lv, lh, d, n, vs, hs, R, p, v1, d1, rfl, hW, h1, fun o1 => ?_, q1⟩
    refine ⟨v2, rfl, p, v2, d2, rfl, h2, fun o2 => ?_, q2 o1⟩
    obtain ⟨s, rfl, s0, s1⟩ := btw_int o1
    obtain ⟨v, rfl, v0, v3⟩ := btw_int o2
    cases h1
    cases h2
    obtain ⟨j, rfl⟩ : ∃ j : Nat, s = j := ⟨s.toNat, by omega⟩
    have hj : j < vs.length := by omega
    have hv := hW.ver
    refine ⟨.int v, rfl, .ref x, rfl, x, T.Watcher.C, dx, _, .ref lv, rfl, hx, T.Watcher.cl, T.W.n2, rfl, .int (j : Int), rfl, lv, _, (j : Int), j, rfl, rfl, hv, ixN_at (by rw [List.length_map]; exact hj), ?_⟩
    have tp : Tups H (upd H lv (.lst ((vs.map V.int).set j (.int v)))) := Tups.lst hv
    obtain ⟨kvs, hd, hkv⟩ := hW.rul
    refine q3 (j : Int) v rfl rfl s0 (by omega) v0 v3 _ (fun c o e n1 => by rw [upd_ne n1]; exact e) { ins := ⟨dx, by rw [upd_ne (ne_of hx hv (fun z => nomatch z))]; exact hx⟩, ver := ?_, hel := by rw [upd_ne hW.ne.symm]; exact hW.hel, rul := ⟨kvs, by rw [upd_ne (ne_of hd hv (fun z => nomatch z))]; exact hd, hkv.mono tp⟩, ne := hW.ne, rk := hW.rk, nd := hW.nd, len := ⟨by rw [List.length_set]; exact hW.len.1, by rw [List.length_set]; exact hW.len.2.1, hW.len.2.2⟩ }
    rw [upd_same, Int.toNat_natCast, List.map_set]
end

section
variable {P : Program} {w : World} {K : PySem.W.Frag} {mg : Str → Option Value} {base : Heap}
abbrev N_Watcher_add_rule : List Str := ["self", "state", "word", "test", "target", "sources", "rule"]
theorem sc_Watcher_add_rule : FnScope N_Watcher_add_rule ["self", "state", "word", "test", "target", "sources"] (defScope s_Watcher_add_rule) := ⟨rfl, rfl, rfl, by decide +kernel, rfl, by decide +kernel, by decide +kernel⟩
theorem O_Watcher_add_rule (T : Tx K mg) : FnOk P w K mg base (L2.CX P w) 5 T.Watcher_add_rule.f T.Watcher_add_rule.fd ["self", "state", "word", "test", "target", "sources"] (sp_add_rule T.Watcher.C ⟨T.UnknownState.C, T.NotAWord.C, T.InvalidTest.C, T.InvalidSources.C, T.RuleExists.C⟩) := by
  refine okOX T.Watcher_add_rule.F sc_Watcher_add_rule (fun vs H Q E h => ?_) (fun cdv A outer s H vs Q E gd hr h => ?_)
  · obtain ⟨x, lv, lh, d, n, vs, hs, R, p, v1, v2, v3, v4, v5, d1, d2, d3, d4, d5, rfl, _⟩ := h
    rfl
  · obtain ⟨x, lv, lh, d, n, vs, hs, R, p, v1, v2, v3, v4, v5, d1, d2, d3, d4, d5, rfl, hW, h1, h2, h3, h4, h5, n3, sm5, lR, q1, q2, q3, q4⟩ := h
    refine ⟨_, 
      (pss_cons (ps_expr (pe_methO (pv 0) T.Watcher.cl T.Watcher_require_state.M (O_Watcher_require_state T) gd (hr.mono (by decide)) T.Watcher_require_state.b .nil (L2.passes_call (W := fun cls d _ H => E cls d H) (takes_of rfl rfl rfl rfl) (fun _ _ _ _ h => h)) (pa_cons (pv 1) pa_nil))) -- self.require_state(state)
      (pss_cons (ps_expr (pe_methO (pv 0) T.Watcher.cl T.Watcher_require_state.M (O_Watcher_require_state T) gd (hr.mono (by decide)) T.Watcher_require_state.b .nil (L2.passes_call (W := fun cls d _ H => E cls d H) (takes_of rfl rfl rfl rfl) (fun _ _ _ _ h => h)) (pa_cons (pv 4) pa_nil))) -- self.require_state(target)
      (pss_cons (ps_expr (pe_methO (pv 0) T.Watcher.cl T.Watcher_require_word.M (O_Watcher_require_word T) gd (hr.mono (by decide)) T.Watcher_require_word.b .nil (L2.passes_call (W := fun cls d _ H => E cls d H) (takes_of rfl rfl rfl rfl) (fun _ _ _ _ h => h)) (pa_cons (pv 2) pa_nil))) -- self.require_word(word)
      (pss_cons (ps_if (pt_not (pt_val (pe_callO (O_is_test T) gd (hr.mono (by decide)) rfl T.is_test.g T.is_test.F.kp T.is_test.b .nil pass0 (pa_cons (pv 3) (pa_cons (pe_ix ix_list (pe_fld (pv 0) rfl) (pv 1) (fun _ _ => rfl)) pa_nil))))) 
        (pss_one (L2.ps_raiseE (W := fun cls d _ H => E cls d H) rfl T.InvalidTest.e (show Room 1 _ from hr.mono (by decide)) (takes_of rfl rfl rfl rfl) (by exact (pa_cons (pv 3) pa_nil)))) -- raise InvalidTest(test)
         pss_nil) -- if not is_test(test, self._held[state]):
      (pss_cons (ps_if (pt_not (pt_val (pe_callO (O_are_sources T) gd (hr.mono (by decide)) rfl T.are_sources.g T.are_sources.F.kp T.are_sources.b .nil pass0 (pa_cons (pv 5) (pa_cons (pe_ix ix_list (pe_fld (pv 0) rfl) (pv 4) (fun _ _ => rfl)) (pa_cons (pe_ix ix_list (pe_fld (pv 0) rfl) (pv 1) (fun _ _ => rfl)) (pa_cons (pv 3) pa_nil))))))) 
        (pss_one (L2.ps_raiseE (W := fun cls d _ H => E cls d H) rfl T.InvalidSources.e (show Room 1 _ from hr.mono (by decide)) (takes_of rfl rfl rfl rfl) (by exact (pa_cons (pv 5) pa_nil)))) -- raise InvalidSources(sources)
         pss_nil) -- if not are_sources(sources, self._held[target], self._held[state], test):
      (pss_cons (ps_set (i := 6) sc_Watcher_add_rule.nd rfl (.inl rfl) (pe_tup (pa_cons (pv 1) (pa_cons (pv 2) (pa_cons (pv 3) pa_nil))))) -- rule = (state, word, test)
      (pss_cons (ps_if (pt_cmp (pc_din (hu_of hr) (pv 6) (pe_fld (pv 0) rfl))) 
        (pss_one (L2.ps_raiseE (W := fun cls d _ H => E cls d H) rfl T.RuleExists.e (show Room 1 _ from hr.mono (by decide)) (takes_of rfl rfl rfl rfl) (by exact (pa_cons (pv 6) pa_nil)))) -- raise RuleExists(rule)
         pss_nil) -- if rule in self._rules:
      (pss_one (ps_dput (hu_of hr) (pe_fld (pv 0) rfl) (pv 6) (pe_tup (pa_cons (pv 4) (pa_cons (pv 5) pa_nil))) rfl)) -- self._rules[rule] = (target, sources)
      ))))))) , ?_⟩
    obtain ⟨dx, hx⟩ := hW.ins
    have hh := hW.hel
    have cl := T.Watcher.cl
    refine ⟨.ref x, rfl, x, dx, _, rfl, hx, rfl, v1, rfl, x, lv, lh, d, n, vs, hs, R, p, v1, d1, rfl, hW, h1, fun o1 => ?_, q1⟩
    refine ⟨.ref x, rfl, x, dx, _, rfl, hx, rfl, v4, rfl, x, lv, lh, d, n, vs, hs, R, p, v4, d4, rfl, hW, h4, fun o4 => ?_, q2 o1⟩
    refine ⟨.ref x, rfl, x, dx, _, rfl, hx, rfl, v2, rfl, x, lv, lh, d, n, vs, hs, R, p, v2, d2, rfl, hW, h2, fun o2 => ?_, q3 o1 o4⟩
    obtain ⟨s', rfl, s0, s1⟩ := btw_int o1
    obtain ⟨tg, rfl, g0, g1⟩ := btw_int o4
    obtain ⟨wd, rfl, w0, w1⟩ := btw_int o2
    cases h1
    cases h2
    cases h4
    have ls := hW.len.1
    obtain ⟨q5, q6⟩ := q4 s' tg wd rfl rfl rfl s0 (by omega) g0 (by omega) w0 (by omega)
    refine ⟨v3, rfl, .ref x, rfl, x, T.Watcher.C, dx, _, .ref lh, rfl, hx, cl, T.W.n3, rfl, .int s', rfl, lh, _, s', .int (hAt hs s'), rfl, rfl, SqL.of hh, hs_at s0 (by omega), p, v3, d3, hAt hs s', rfl, h3, n3, _, rfl, ?_⟩
    cases hb : isTest d3 (hAt hs s') with
    | false => exact iteT ⟨v3, rfl, v3, rfl, fun e he => q5 hb e he⟩
    | true =>
      refine iteF ?_
      obtain ⟨t, rfl, rfl, tk⟩ := test_key' h3 hb
      obtain ⟨q7, q8⟩ := q6 t rfl rfl hb
      refine ⟨v5, rfl, .ref x, rfl, x, T.Watcher.C, dx, _, .ref lh, rfl, hx, cl, T.W.n3, rfl, .int tg, rfl, lh, _, tg, .int (hAt hs tg), rfl, rfl, SqL.of hh, hs_at g0 (by omega), .ref x, rfl, x, T.Watcher.C, dx, _, .ref lh, rfl, hx, cl, T.W.n3, rfl, .int s', rfl, lh, _, s', .int (hAt hs s'), rfl, rfl, SqL.of hh, hs_at s0 (by omega), kV t, rfl, p, v5, d5, hAt hs tg, hAt hs s', t, rfl, h5, sm5, fun ok => ?_, fun bad => ?_⟩
      · refine ⟨_, rfl, iteF ?_⟩
        obtain ⟨ks, ok⟩ := ok
        obtain ⟨q9, q10⟩ := q8 ks ok
        obtain ⟨kvs, hd, hkv⟩ := hW.rul
        have ek := hkv.keys
        refine ⟨.int s', rfl, .int wd, rfl, kV t, rfl, by show 3 ≤ sizeLine; decide, fun TT nT => ?_⟩
        have sT : Same H (upd H TT (.tup [.int s', .int wd, kV t])) := same_new nT
        have hT : upd H TT (.tup [.int s', .int wd, kV t]) TT = some (.tup (([Sum.inl s', Sum.inl wd, t] : List Key).map kV)) := upd_same
        have g := DGet.t (k := [Sum.inl s', Sum.inl wd, t]) (sT _ _ hd) hT
        refine ⟨.ref TT, rfl, .ref x, rfl, x, T.Watcher.C, dx, _, .ref d, rfl, sT _ _ hx, cl, T.W.n4, rfl, d, _, rfl, g, _, rfl, ?_⟩
        by_cases hk : [Sum.inl s', Sum.inl wd, t] ∈ R.map (·.1)
        · obtain ⟨v, ev, _⟩ := hkv.val hk
          rw [ev]
          exact iteT ⟨.ref TT, rfl, .ref TT, rfl, fun e he => q9 hk TT nT e he⟩
        · have en : valV kvs [Sum.inl s', Sum.inl wd, t] = none := by
            unfold valV
            rw [List.find?_eq_none.mpr]
            · rfl
            · intro y hy
              simp only [decide_eq_true_eq]
              intro e
              exact hk (e ▸ ek ▸ List.mem_map.mpr ⟨y, hy, rfl⟩)
          rw [en]
          refine iteF ?_
          refine ⟨.int tg, rfl, v5, rfl, by show 2 ≤ sizeLine; decide, fun U nU => ?_⟩
          have sU : Same (upd H TT (.tup [.int s', .int wd, kV t])) (upd (upd H TT (.tup [.int s', .int wd, kV t])) U (.tup [.int tg, v5])) := same_new nU
          have hU : upd (upd H TT (.tup [.int s', .int wd, kV t])) U (.tup [.int tg, v5]) U = some (.tup [.int tg, v5]) := upd_same
          have hT2 := sU _ _ hT
          have s2 := sT.trans sU
          generalize upd (upd H TT (.tup [.int s', .int wd, kV t])) U (.tup [.int tg, v5]) = H2 at s2 hU hT2
          have hd2 := s2 _ _ hd
          have lk : kvs.length < 1000 := by
            have := Paired.length hkv
            omega
          refine ⟨.ref x, rfl, x, T.Watcher.C, dx, _, .ref d, rfl, s2 _ _ hx, cl, T.W.n4, rfl, .ref TT, rfl, d, _, rfl, DPut.t (k := [Sum.inl s', Sum.inl wd, t]) hd2 hT2 (small1000 (Nat.le_of_lt lk)), ?_⟩
          have tp : Tups H2 (upd H2 d (.dT (putK kvs [Sum.inl s', Sum.inl wd, t] (.ref U)))) := Tups.put hd2 (fun _ z => by cases z)
          have hW2 := hW.mono s2
          have vd : lv ≠ d := ne_of hW2.ver hd2 (fun z => nomatch z)
          have hd' : lh ≠ d := ne_of hW2.hel hd2 (fun z => nomatch z)
          have xd : x ≠ d := ne_of (s2 _ _ hx) hd2 (fun z => nomatch z)
          refine q10 hk _ (fun c o e nc => ?_) { ins := ⟨dx, ?_⟩, ver := ?_, hel := ?_, rul := ⟨_, upd_same, ?_⟩, ne := hW.ne, rk := ?_, nd := ?_, len := ⟨hW.len.1, hW.len.2.1, by rw [List.length_append]; show R.length + 1 ≤ 1000; omega⟩ }
          · rw [upd_ne nc]
            exact s2 _ _ e
          · rw [upd_ne xd]
            exact s2 _ _ hx
          · rw [upd_ne vd]
            exact hW2.ver
          · rw [upd_ne hd']
            exact hW2.hel
          · have en2 := putK_new (V.ref U) en
            rw [en2] at tp ⊢
            refine Paired.snoc (KvD.mono tp (KvD.mono (Tups.same s2) hkv)) ⟨rfl, ?_⟩
            have h5' := h5
            rw [ok.d] at h5'
            obtain ⟨a5, xs5, rfl, _, ha5, hs5⟩ := h5'.isTup
            obtain ⟨ks', e1, e2⟩ := srcs_of hs5 (h := hAt hs s') (t := t) (fun e he => by obtain ⟨k, hk, rfl⟩ := List.mem_map.mp he; exact ok.all k hk)
            rw [← map_kD_inj e1] at e2
            subst e2
            exact .tup (tp _ _ hU) (.cons (.int tg) (.cons (.tup (tp _ _ (s2 _ _ ha5)) TDs.keys) .nil))
          · intro k hk2
            rw [List.map_append] at hk2
            rcases List.mem_append.mp hk2 with z | z
            · exact hW.rk k z
            · simp at z
              subst z
              exact ⟨s', wd, t, rfl, tk⟩
          · rw [List.map_append]
            refine List.nodup_append.mpr ⟨hW.nd, by simp, ?_⟩
            intro a ha b hb2
            simp at hb2
            subst hb2
            rintro rfl
            exact hk ha
      · exact ⟨_, rfl, iteT ⟨v5, rfl, v5, rfl, fun e he => q7 bad e he⟩⟩
end

/-! ### taking rules away -/
def mayBe (d1 d2 d3 : PyData) : Bool := isI d1 && (isI d2 && (isStrD d3 "new" || isI d3))
def sp_may_be_rule : Sp := fun us H Q _ => ∃ (a : Addr) (p : Addr) (v1 v2 v3 : V) (d1 d2 d3 : PyData), us = [.ref a] ∧ H a = some (.tup [v1, v2, v3]) ∧ LD p H v1 d1 ∧ LD p H v2 d2 ∧ LD p H v3 d3 ∧ Q (.bl (mayBe d1 d2 d3)) H
def dropR (R : Rows) (k : List Key) : Rows := R.filter fun r => decide (r.1 ≠ k)
theorem kvd_drop {H : Hp} {k : List Key} : ∀ {kvs : List (List Key × V)} {R : Rows}, KvD H kvs R → KvD H (dropK kvs k) (dropR R k)
  | _, _, .nil => .nil
  | _, _, .cons (a := a) (b := b) (l₁ := l1) (l₂ := l2) h r => by
    have ih := kvd_drop (k := k) r
    unfold dropK dropR at ih ⊢
    by_cases e : a.1 = k
    · have e2 : b.1 = k := h.1 ▸ e
      rw [List.filter_cons_of_neg (by simp [e]), List.filter_cons_of_neg (by simp [e2])]
      exact ih
    · have e2 : ¬ b.1 = k := h.1 ▸ e
      rw [List.filter_cons_of_pos (by simp [e]), List.filter_cons_of_pos (by simp [e2])]
      exact .cons h ih
theorem dropR_keys (R : Rows) (k : List Key) : (dropR R k).map (·.1) = (R.map (·.1)).filter fun x => decide (x ≠ k) := by
  unfold dropR
  rw [List.filter_map]
  rfl
def sp_remove_rule (C CX : Addr) : Sp := fun us H Q E => ∃ (x lv lh d : Addr) (n : Int) (vs hs : List Int) (R : Rows) (p : Addr) (v1 v2 v3 : V) (d1 d2 d3 : PyData), us = [.ref x, v1, v2, v3] ∧ WAt C H x lv lh d n vs hs R ∧ LD p H v1 d1 ∧ LD p H v2 d2 ∧ LD p H v3 d3 ∧
  (mayBe d1 d2 d3 = false → ∀ T, H T = none → ∀ e, upd H T (.tup [v1, v2, v3]) e = none → E (.ref CX) (some e) (upd (upd H T (.tup [v1, v2, v3])) e (.xd [(("rule" : Str), .ref T)]))) ∧
  ∀ (s w : Int) (t : Key), v1 = .int s → v2 = .int w → v3 = kV t → mayBe d1 d2 d3 = true →
    ([Sum.inl s, Sum.inl w, t] ∉ R.map (·.1) → ∀ T, H T = none → ∀ e, upd H T (.tup [v1, v2, v3]) e = none → E (.ref CX) (some e) (upd (upd H T (.tup [v1, v2, v3])) e (.xd [(("rule" : Str), .ref T)]))) ∧
    ([Sum.inl s, Sum.inl w, t] ∈ R.map (·.1) → ∀ H', (∀ c o, H c = some o → c ≠ d → H' c = some o) → WAt C H' x lv lh d n vs hs (dropR R [Sum.inl s, Sum.inl w, t]) → Q .non H')
theorem isI_int {p : Addr} {H : Hp} {v : V} {d : PyData} (hv : LD p H v d) (h : isI d = true) : ∃ n, v = .int n ∧ d = .int n := by
  cases hv with
  | int i => exact ⟨i, rfl, rfl⟩
  | _ => cases h
section
variable {P : Program} {w : World} {K : PySem.W.Frag} {mg : Str → Option Value} {base : Heap}
theorem O_is_integer (T : Tx K mg) : FnOk P w K mg base CX0 1 T.is_integer.f T.is_integer.fd ["value"] sp_is_integer := ok_is_integer T.is_integer.F T.m_isinstance T.m_int T.m_bool
abbrev N_may_be_rule : List Str := ["rule", "state", "word", "test"]
theorem sc_may_be_rule : FnScope N_may_be_rule ["rule"] (defScope s_may_be_rule) := ⟨rfl, rfl, rfl, by decide +kernel, rfl, by decide +kernel, by decide +kernel⟩
theorem O_may_be_rule (T : Tx K mg) : FnOk P w K mg base CX0 2 T.may_be_rule.f T.may_be_rule.fd ["rule"] sp_may_be_rule := by
  refine okO T.may_be_rule.F sc_may_be_rule (fun vs H Q E h => ?_) (fun cdv A outer s H vs Q E gd hr h => ?_)
  · obtain ⟨a, p, v1, v2, v3, d1, d2, d3, rfl, _⟩ := h
    rfl
  · obtain ⟨a, p, v1, v2, v3, d1, d2, d3, rfl, ha, h1, h2, h3, q⟩ := h
    refine ⟨_, 
      (pss_cons (ps_asg (pv 0) (pg_tup rfl (pgs_cons (pg_name (i := 1) sc_may_be_rule.nd rfl (.inl rfl)) (pgs_cons (pg_name (i := 2) sc_may_be_rule.nd rfl (.inl rfl)) (pgs_cons (pg_name (i := 3) sc_may_be_rule.nd rfl (.inl rfl)) pgs_nil))))) -- state, word, test = rule
      (pss_one (ps_ret (pe_and (pe_callO (O_is_integer T) gd (hr.mono (by decide)) rfl T.is_integer.g T.is_integer.F.kp T.is_integer.b .nil pass0 (pa_cons (pv 1) pa_nil)) (pe_and (pe_callO (O_is_integer T) gd (hr.mono (by decide)) rfl T.is_integer.g T.is_integer.F.kp T.is_integer.b .nil pass0 (pa_cons (pv 2) pa_nil)) (pe_one (pe_or (pe_cmpR (op_eqS' hr.units) (pv 3) (pe_glob (v := .str "new") rfl T.g_NEW ⟨_, rfl⟩) (nomark _)) (pe_one (pe_callO (O_is_integer T) gd (hr.mono (by decide)) rfl T.is_integer.g T.is_integer.F.kp T.is_integer.b .nil pass0 (pa_cons (pv 3) pa_nil))))))))) -- return is_integer(state) and is_integer(word) and (test == NEW or is_integer(test))
      ) , ?_⟩
    refine ⟨.ref a, rfl, a, _, rfl, SqT.of ha, rfl, v1, [v2, v3], rfl, v2, [v3], rfl, v3, [], rfl, rfl, ?_⟩
    refine ⟨v1, rfl, p, v1, d1, rfl, h1, _, rfl, ?_⟩
    unfold mayBe at q
    cases e1 : isI d1 with
    | false =>
      rw [e1] at q
      exact iteF q
    | true =>
      rw [e1, Bool.true_and] at q
      refine iteT ⟨v2, rfl, p, v2, d2, rfl, h2, _, rfl, ?_⟩
      cases e2 : isI d2 with
      | false =>
        rw [e2] at q
        exact iteF q
      | true =>
        rw [e2, Bool.true_and] at q
        refine iteT ⟨v3, rfl, p, d3, "new", h3, rfl, _, rfl, ?_⟩
        cases e3 : isStrD d3 "new" with
        | true =>
          rw [e3] at q
          exact iteT q
        | false =>
          rw [e3] at q
          exact iteF ⟨v3, rfl, p, v3, d3, rfl, h3, q⟩
abbrev N_Watcher_remove_rule : List Str := ["self", "state", "word", "test", "rule"]
theorem sc_Watcher_remove_rule : FnScope N_Watcher_remove_rule ["self", "state", "word", "test"] (defScope s_Watcher_remove_rule) := ⟨rfl, rfl, rfl, by decide +kernel, rfl, by decide +kernel, by decide +kernel⟩
theorem O_Watcher_remove_rule (T : Tx K mg) : FnOk P w K mg base (L2.CX P w) 3 T.Watcher_remove_rule.f T.Watcher_remove_rule.fd ["self", "state", "word", "test"] (sp_remove_rule T.Watcher.C T.UnknownRule.C) := by
  refine okOX T.Watcher_remove_rule.F sc_Watcher_remove_rule (fun vs H Q E h => ?_) (fun cdv A outer s H vs Q E gd hr h => ?_)
  · obtain ⟨x, lv, lh, d, n, vs, hs, R, p, v1, v2, v3, d1, d2, d3, rfl, _⟩ := h
    rfl
  · obtain ⟨x, lv, lh, d, n, vs, hs, R, p, v1, v2, v3, d1, d2, d3, rfl, hW, h1, h2, h3, q1, q2⟩ := h
    refine ⟨_, 
      (pss_cons (ps_set (i := 4) sc_Watcher_remove_rule.nd rfl (.inl rfl) (pe_tup (pa_cons (pv 1) (pa_cons (pv 2) (pa_cons (pv 3) pa_nil))))) -- rule = (state, word, test)
      (pss_cons (ps_if (PW.pt (pw_or (pt_not (pt_val (pe_callO (O_may_be_rule T) gd (hr.mono (by decide)) rfl T.may_be_rule.g T.may_be_rule.F.kp T.may_be_rule.b .nil pass0 (pa_cons (pv 4) pa_nil)))) (pw_or1 (pt_cmp (pc_dnotin (hu_of hr) (pv 4) (pe_fld (pv 0) rfl)))))) 
        (pss_one (L2.ps_raiseE (W := fun cls d _ H => E cls d H) rfl T.UnknownRule.e (show Room 1 _ from hr.mono (by decide)) (takes_of rfl rfl rfl rfl) (by exact (pa_cons (pv 4) pa_nil)))) -- raise UnknownRule(rule)
         pss_nil) -- if not may_be_rule(rule) or rule not in self._rules:
      (pss_one (ps_ddelT (hu_of hr) (pe_fld (pv 0) rfl) (pv 4))) -- del self._rules[rule]
      )) , ?_⟩
    obtain ⟨dx, hx⟩ := hW.ins
    have cl := T.Watcher.cl
    refine ⟨v1, rfl, v2, rfl, v3, rfl, by show 3 ≤ sizeLine; decide, fun TT nT => ?_⟩
    have sT : Same H (upd H TT (.tup [v1, v2, v3])) := same_new nT
    have hT : upd H TT (.tup [v1, v2, v3]) TT = some (.tup [v1, v2, v3]) := upd_same
    have m : ∀ {v : V} {d : PyData}, LD p H v d → LD p (upd H TT (.tup [v1, v2, v3])) v d := fun h => LD.mono (But.same sT) _ h
    refine ⟨.ref TT, rfl, TT, p, v1, v2, v3, d1, d2, d3, rfl, hT, m h1, m h2, m h3, _, rfl, ?_⟩
    cases hb : mayBe d1 d2 d3 with
    | false => exact iteT ⟨.ref TT, rfl, .ref TT, rfl, fun e he => q1 hb TT nT e he⟩
    | true =>
      refine iteF ?_
      have hb' := hb
      unfold mayBe at hb'
      rw [Bool.and_eq_true, Bool.and_eq_true] at hb'
      obtain ⟨b1, b2, b3⟩ := hb'
      obtain ⟨s', rfl, rfl⟩ := isI_int h1 b1
      obtain ⟨w', rfl, rfl⟩ := isI_int h2 b2
      obtain ⟨t, rfl⟩ : ∃ t : Key, v3 = kV t := by
        rw [Bool.or_eq_true] at b3
        rcases b3 with z | z
        · cases h3 with
          | str x => exact ⟨Sum.inr x, rfl⟩
          | _ => cases z
        · obtain ⟨i, rfl, _⟩ := isI_int h3 z
          exact ⟨Sum.inl i, rfl⟩
      obtain ⟨q3, q4⟩ := q2 s' w' t rfl rfl rfl hb
      obtain ⟨kvs, hd, hkv⟩ := hW.rul
      have hT' : upd H TT (.tup [.int s', .int w', kV t]) TT = some (.tup (([Sum.inl s', Sum.inl w', t] : List Key).map kV)) := upd_same
      have g := DGet.t (k := [Sum.inl s', Sum.inl w', t]) (sT _ _ hd) hT'
      refine ⟨.ref TT, rfl, .ref x, rfl, x, T.Watcher.C, dx, _, .ref d, rfl, sT _ _ hx, cl, T.W.n4, rfl, d, _, rfl, g, _, rfl, ?_⟩
      by_cases hk : [Sum.inl s', Sum.inl w', t] ∈ R.map (·.1)
      · obtain ⟨v, ev, _⟩ := hkv.val hk
        rw [ev]
        refine iteF ?_
        have hW2 := hW.mono sT
        generalize upd H TT (.tup [.int s', .int w', kV t]) = H2 at *
        have hd2 := sT _ _ hd
        refine ⟨.ref x, rfl, x, T.Watcher.C, dx, _, .ref d, rfl, sT _ _ hx, cl, T.W.n4, rfl, .ref TT, rfl, d, kvs, [Sum.inl s', Sum.inl w', t], TT, rfl, hd2, rfl, hT', by rw [ev]; rfl, ?_⟩
        have tp : Tups H2 (upd H2 d (.dT (dropK kvs [Sum.inl s', Sum.inl w', t]))) := Tups.put hd2 (fun _ z => by cases z)
        have vd : lv ≠ d := ne_of hW2.ver hd2 (fun z => nomatch z)
        have hd' : lh ≠ d := ne_of hW2.hel hd2 (fun z => nomatch z)
        have xd : x ≠ d := ne_of (sT _ _ hx) hd2 (fun z => nomatch z)
        refine q4 hk _ (fun c o e nc => ?_) { ins := ⟨dx, ?_⟩, ver := ?_, hel := ?_, rul := ⟨_, upd_same, KvD.mono tp (KvD.mono (Tups.same sT) (kvd_drop hkv))⟩, ne := hW.ne, rk := ?_, nd := ?_, len := ⟨hW.len.1, hW.len.2.1, Nat.le_trans (List.length_filter_le _ _) hW.len.2.2⟩ }
        · rw [upd_ne nc]
          exact sT _ _ e
        · rw [upd_ne xd]
          exact sT _ _ hx
        · rw [upd_ne vd]
          exact hW2.ver
        · rw [upd_ne hd']
          exact hW2.hel
        · intro k hk2
          rw [dropR_keys] at hk2
          exact hW.rk k (List.mem_filter.mp hk2).1
        · rw [dropR_keys]
          exact hW.nd.filter _
      · have en : valV kvs [Sum.inl s', Sum.inl w', t] = none := by
          unfold valV
          rw [List.find?_eq_none.mpr]
          · rfl
          · intro y hy
            simp only [decide_eq_true_eq]
            intro e
            exact hk (e ▸ hkv.keys ▸ List.mem_map.mpr ⟨y, hy, rfl⟩)
        rw [en]
        exact iteT ⟨.ref TT, rfl, .ref TT, rfl, fun e he => q3 hk TT nT e he⟩
end

/-! ### the same promises where no repr is under way -/
section
variable {P : Program} {w : World} {K : PySem.W.Frag} {mg : Str → Option Value} {base : Heap}
theorem G_is_integer (T : Tx K mg) : FnG P w K mg base CX0 1 T.is_integer.f T.is_integer.fd ["value"] sp_is_integer := FnG.of (O_is_integer T)
theorem G_is_between (T : Tx K mg) : FnG P w K mg base CX0 2 T.is_between.f T.is_between.fd ["value", "low", "high"] sp_is_between := FnG.of (O_is_between T)
theorem G_Watcher_init (T : Tx K mg) : FnG P w K mg base (L2.CX P w) 3 T.Watcher_init.f T.Watcher_init.fd ["self", "words"] (sp_W_init T.Watcher.C T.LimitExceeded.C) := ok_Watcher_init T.Watcher_init.F T.is_between.F T.is_between.b T.is_between.g (G_is_between T) T.LimitExceeded.e T.g_MOST_WORDS T.W
theorem G_Watcher_len (T : Tx K mg) : FnG P w K mg base CX0 1 T.Watcher_len.f T.Watcher_len.fd ["self"] (sp_W_len T.Watcher.C) := ok_Watcher_len T.Watcher_len.F T.W T.m_len
theorem G_Watcher_verdicts (T : Tx K mg) : FnG P w K mg base CX0 1 T.Watcher_verdicts.f T.Watcher_verdicts.fd ["self"] (sp_W_ver T.Watcher.C) := ok_Watcher_verdicts T.Watcher_verdicts.F T.W T.m_tuple
theorem G_Watcher_held_counts (T : Tx K mg) : FnG P w K mg base CX0 1 T.Watcher_held_counts.f T.Watcher_held_counts.fd ["self"] (sp_W_hel T.Watcher.C) := ok_Watcher_held_counts T.Watcher_held_counts.F T.W T.m_tuple
theorem G_Watcher_rules (T : Tx K mg) : FnG P w K mg base CX0 2 T.Watcher_rules.f T.Watcher_rules.fd ["self"] (sp_W_rules T.Watcher.C) := ok_Watcher_rules T.Watcher_rules.F T.rule_order.F T.bt_rule_order T.rule_order.g ⟨_, _, _, _, _, T.part_order.F, T.bt_part_order, T.part_order.g, T.g_NEW, T.g_VALUE, T.g_MOST_HELD⟩ T.W T.m_sorted
end

/-! ### what a call comes to -/
/-- the kinds of errors, in the order of the clauses -/
inductive Ek
  | verdict
  | limit
  | state
  | word
  | test
  | sources
  | exists_
  | rule
def Ek.name : Ek → Str
  | .verdict => "verdict"
  | .limit => "limit"
  | .state => "state"
  | .word => "word"
  | .test => "test"
  | .sources => "sources"
  | .exists_ => "exists"
  | .rule => "rule"
def Ek.fld : Ek → Str
  | .verdict => "verdict"
  | .limit => "limit"
  | .state => "state"
  | .word => "word"
  | .test => "test"
  | .sources => "sources"
  | .exists_ => "rule"
  | .rule => "rule"
def Ek.shows : Ek → Bool
  | .verdict => true
  | .limit => false
  | .state => true
  | .word => true
  | .test => true
  | .sources => true
  | .exists_ => false
  | .rule => true
def Ek.cls {K : PySem.W.Frag} {mg : Str → Option Value} (T : Tx K mg) : Ek → Addr
  | .verdict => T.NotAVerdict.C
  | .limit => T.LimitExceeded.C
  | .state => T.UnknownState.C
  | .word => T.NotAWord.C
  | .test => T.InvalidTest.C
  | .sources => T.InvalidSources.C
  | .exists_ => T.RuleExists.C
  | .rule => T.UnknownRule.C
/-- what is told of a field: as it is, or its text -/
def Ek.tell (k : Ek) (v : V) (d : PyData) : V := if k.shows = true then .str d.shown else v
/-- small data, to be shown -/
def Fine (d : PyData) : Prop := d.showable = true ∧ d.depth ≤ 60 ∧ d.shown.length ≤ sizeLine
/-- what is wished of an error that the call raises -/
def ToldE {K : PySem.W.Frag} {mg : Str → Option Value} (T : Tx K mg) (Q : VK) : XK := fun cls d H' => ∃ (k : Ek) (v : V) (dv : PyData) (p e : Addr), cls = .ref (k.cls T) ∧ d = some e ∧ H' e = some (.xd [(k.fld, v)]) ∧ (k.shows = true → LD p H' v dv ∧ Fine dv) ∧
  ∀ q H2, Same H' H2 → H2 q = some (.tup [.str k.name, k.tell v dv]) → Q (.ref q) H2
def TOut {K : PySem.W.Frag} {mg : Str → Option Value} (T : Tx K mg) : (XK → Hp → VK → Prop) → Hp → VK → Prop := fun tl H Q => tl (ToldE T Q) H fun v H1 => ∀ q, H1 q = none → Q (.ref q) (upd H1 q (.tup [.str "done", v]))
theorem exm_via {K : PySem.W.Frag} {R S : Addr} {b : Bool} (h1 : PySem.W.subIn K (.ref S) (.type "BaseException") = some true) (te : PySem.W.exmOne K (.ref S) (.ref S) = some true) (h4 : PySem.W.subIn K (.ref R) (.ref S) = some b) : PySem.W.exmOne K (.ref R) (.ref S) = some b := by
  have e1 : (PySem.W.subIn K (.ref S) (.type "BaseException") == some true) = true := by
    rw [h1]
    rfl
  unfold PySem.W.exmOne at te ⊢
  rw [if_pos e1] at te ⊢
  have te2 : (if ((PySem.W.clsIn K S).isSome && PySem.W.typeIn K (.ref S) == some (.type "type")) = true then PySem.W.subIn K (.ref S) (.ref S) else none) = some true := te
  show (if ((PySem.W.clsIn K S).isSome && PySem.W.typeIn K (.ref S) == some (.type "type")) = true then PySem.W.subIn K (.ref R) (.ref S) else none) = some b
  by_cases hc : ((PySem.W.clsIn K S).isSome && PySem.W.typeIn K (.ref S) == some (.type "type")) = true
  · rw [if_pos hc]
    exact h4
  · rw [if_neg hc] at te2
    cases te2
/-- less may be wished behind an expression -/
def tWeak (te : TE) : TE := fun σ H Q => ∃ R : VK, te σ H R ∧ ∀ v H', R v H' → Q v H'
theorem pe_weak {X : Cx} {e : Expr} {te : TE} (he : PE X e te) : PE X e (tWeak te) := by
  refine ⟨fun pins s σ H Q I ⟨R, h, m⟩ => ?_⟩
  refine wpAny_mono (he.run pins s σ H R I h) (fun u s' ⟨v, H', I', r, q⟩ => ⟨v, H', I', r, m _ _ q⟩) fun _ _ z => z
theorem takes_len {X : Cx} {W : WX} (tk : L2.Takes X W) : L2.Takes X fun cls d σ' H' => σ'.length = X.N.length → W cls d σ' H' := by
  rintro u s' ⟨a, B, sI, pins', σ', H', cls, d, e, J, nb, up, sky, na, os, ag, w⟩
  exact tk u s' ⟨a, B, sI, pins', σ', H', cls, d, e, J, nb, up, sky, na, os, ag, w J.len⟩
section
abbrev N_law_outcome : List Str := ["asked", "found", "e"]
theorem sc_law_outcome : FnScope N_law_outcome ["asked"] (defScope s_law_outcome) := ⟨rfl, rfl, rfl, by decide +kernel, rfl, by decide +kernel, by decide +kernel⟩
variable {X : Cx}
theorem outcome_gives (T : Tx X.K X.mg) {g : Addr} {cdg : Value} {q : Str} {n : Nat} (gd : X.A.guards = some []) (hr : Room (n + 1) X.A) :
    LamX.GivesTo X N_law_outcome "_law_outcome" (defScope s_law_outcome) g cdg (defBody s_law_outcome) "asked" q (TOut T) := by
  intro f c' s H Q tl act hc h
  have gd2 : (X.A.deeper (envOfC "_law_outcome" (defScope s_law_outcome) s.heap.objs.size g cdg)).guards = some [] := gd
  have hr2 := hr.deeper (envOfC "_law_outcome" (defScope s_law_outcome) s.heap.objs.size g cdg)
  refine ⟨_, 
    (pss_cons (ps_set (i := 1) sc_law_outcome.nd rfl (.inl rfl) pe_non) -- found = None
    (pss_cons (ps_try_mix (Wout := fun _ _ _ _ => False) (tb := fun W D σ H1 => ∃ Ech : XK, (∀ cls d σ' H', σ'.length = 3 → Ech cls d H' → W cls d σ' H') ∧ ∃ R : VK, (σ[0]? = some (some (.ref f)) ∧ H1 c' = some (LamX.CodeO c' q) ∧ tl Ech H1 R) ∧
        ∀ v H2, R v H2 → 2 ≤ sizeLine ∧ ∀ p, H2 p = none → D.nx (σ.set 1 (some (.ref p))) (upd H2 p (.tup [.str "done", v]))) rfl rfl sc_law_outcome.nd L2.takes_none5
      (fun W pn xe tk _ => ⟨fun pins s' σ H' D I h' => ?_⟩)
      (.named (i := 2) rfl rfl ⟨rfl, by decide, Or.inl T.NotAVerdict.e.T.gC⟩ (fun a oe cls d pn hz hf => pss_one (ps_set (i := 1) sc_law_outcome.nd rfl (.inl rfl) (by exact (pe_tup (pa_cons pe_str (pa_cons (pe_callB (call_reprL gd2 hr2.units) (by rfl) T.m_repr (by decide +kernel) (pa_cons (L2.pe_byE T.NotAVerdict.e hz hf (pv 2)) pa_nil)) pa_nil))))))
      (.named (i := 2) rfl rfl ⟨rfl, by decide, Or.inl T.LimitExceeded.e.T.gC⟩ (fun a oe cls d pn hz hf => pss_one (ps_set (i := 1) sc_law_outcome.nd rfl (.inl rfl) (by exact (pe_tup (pa_cons pe_str (pa_cons (L2.pe_byE T.LimitExceeded.e hz hf (pv 2)) pa_nil))))))
      (.named (i := 2) rfl rfl ⟨rfl, by decide, Or.inl T.UnknownState.e.T.gC⟩ (fun a oe cls d pn hz hf => pss_one (ps_set (i := 1) sc_law_outcome.nd rfl (.inl rfl) (by exact (pe_tup (pa_cons pe_str (pa_cons (pe_callB (call_reprL gd2 hr2.units) (by rfl) T.m_repr (by decide +kernel) (pa_cons (L2.pe_byE T.UnknownState.e hz hf (pv 2)) pa_nil)) pa_nil))))))
      (.named (i := 2) rfl rfl ⟨rfl, by decide, Or.inl T.NotAWord.e.T.gC⟩ (fun a oe cls d pn hz hf => pss_one (ps_set (i := 1) sc_law_outcome.nd rfl (.inl rfl) (by exact (pe_tup (pa_cons pe_str (pa_cons (pe_callB (call_reprL gd2 hr2.units) (by rfl) T.m_repr (by decide +kernel) (pa_cons (L2.pe_byE T.NotAWord.e hz hf (pv 2)) pa_nil)) pa_nil))))))
      (.named (i := 2) rfl rfl ⟨rfl, by decide, Or.inl T.InvalidTest.e.T.gC⟩ (fun a oe cls d pn hz hf => pss_one (ps_set (i := 1) sc_law_outcome.nd rfl (.inl rfl) (by exact (pe_tup (pa_cons pe_str (pa_cons (pe_callB (call_reprL gd2 hr2.units) (by rfl) T.m_repr (by decide +kernel) (pa_cons (L2.pe_byE T.InvalidTest.e hz hf (pv 2)) pa_nil)) pa_nil))))))
      (.named (i := 2) rfl rfl ⟨rfl, by decide, Or.inl T.InvalidSources.e.T.gC⟩ (fun a oe cls d pn hz hf => pss_one (ps_set (i := 1) sc_law_outcome.nd rfl (.inl rfl) (by exact (pe_tup (pa_cons pe_str (pa_cons (pe_callB (call_reprL gd2 hr2.units) (by rfl) T.m_repr (by decide +kernel) (pa_cons (L2.pe_byE T.InvalidSources.e hz hf (pv 2)) pa_nil)) pa_nil))))))
      (.named (i := 2) rfl rfl ⟨rfl, by decide, Or.inl T.RuleExists.e.T.gC⟩ (fun a oe cls d pn hz hf => pss_one (ps_set (i := 1) sc_law_outcome.nd rfl (.inl rfl) (by exact (pe_tup (pa_cons pe_str (pa_cons (L2.pe_byE T.RuleExists.e hz hf (pv 2)) pa_nil))))))
      (.named (i := 2) rfl rfl ⟨rfl, by decide, Or.inl T.UnknownRule.e.T.gC⟩ (fun a oe cls d pn hz hf => pss_one (ps_set (i := 1) sc_law_outcome.nd rfl (.inl rfl) (by exact (pe_tup (pa_cons pe_str (pa_cons (pe_callB (call_reprL gd2 hr2.units) (by rfl) T.m_repr (by decide +kernel) (pa_cons (L2.pe_byE T.UnknownRule.e hz hf (pv 2)) pa_nil)) pa_nil))))))
      .nil)))))))))
    (pss_one (ps_ret (pv 1))) -- return found
    )), ?_⟩
  · obtain ⟨Ech, hW, R, e0, e1⟩ := h'
    have hp := act _ pn xe Ech ⟨183, 25, 183, 30⟩ ⟨183, 25, 183, 32⟩ (takes_len tk) (fun cls d σ' H' h hl => hW cls d σ' H' hl h)
    refine PSs.run (t := tAsg (tTup (tCons (tC (.str "done")) (tCons (tWeak fun σZ HZ Q => σZ[0]? = some (some (V.ref f)) ∧ HZ c' = some (LamX.CodeO c' q) ∧ tl Ech HZ Q) tNil))) (gName 1)) ?_ pins s' σ H' D I ⟨R, e0, e1⟩
    exact pss_one (ps_set (i := 1) sc_law_outcome.nd rfl (.inl rfl) (pe_tup (pa_cons pe_str (pa_cons (pe_weak hp) pa_nil))))
  · refine ⟨ToldE T Q, ?_, _, ⟨rfl, hc, h⟩, ?_⟩
    · rintro cls d σ' H' hl ⟨k, v, dv, p, e, rfl, rfl, he, hsh, fin⟩
      match σ', hl with
      | [y0, y1, y2], _ =>
        cases k
        case verdict =>
          refine ⟨true, T.NotAVerdict.e.T.te, fun _ a0 na0 => ?_, fun z => Bool.noConfusion z⟩
          obtain ⟨hv, sho, dep, len⟩ := hsh rfl
          exact ⟨.ref a0, rfl, rfl, rfl, e, v, rfl, he, p, v, dv, rfl, hv, sho, dep, len, by show 2 ≤ sizeLine; decide, fun t nt => ⟨.ref t, rfl, fin t _ (same_new nt) upd_same⟩⟩
        case limit =>
          refine ⟨false, exm_via T.NotAVerdict.e.T.exC T.NotAVerdict.e.T.te T.ap_LimitExceeded_NotAVerdict, fun z => Bool.noConfusion z, fun _ => ⟨true, T.LimitExceeded.e.T.te, fun _ a0 na0 => ?_, fun z => Bool.noConfusion z⟩⟩
          exact ⟨.ref a0, rfl, rfl, rfl, e, v, rfl, he, by show 2 ≤ sizeLine; decide, fun t nt => ⟨.ref t, rfl, fin t _ (same_new nt) upd_same⟩⟩
        case state =>
          refine ⟨false, exm_via T.NotAVerdict.e.T.exC T.NotAVerdict.e.T.te T.ap_UnknownState_NotAVerdict, fun z => Bool.noConfusion z, fun _ => ⟨false, exm_via T.LimitExceeded.e.T.exC T.LimitExceeded.e.T.te T.ap_UnknownState_LimitExceeded, fun z => Bool.noConfusion z, fun _ => ⟨true, T.UnknownState.e.T.te, fun _ a0 na0 => ?_, fun z => Bool.noConfusion z⟩⟩⟩
          obtain ⟨hv, sho, dep, len⟩ := hsh rfl
          exact ⟨.ref a0, rfl, rfl, rfl, e, v, rfl, he, p, v, dv, rfl, hv, sho, dep, len, by show 2 ≤ sizeLine; decide, fun t nt => ⟨.ref t, rfl, fin t _ (same_new nt) upd_same⟩⟩
        case word =>
          refine ⟨false, exm_via T.NotAVerdict.e.T.exC T.NotAVerdict.e.T.te T.ap_NotAWord_NotAVerdict, fun z => Bool.noConfusion z, fun _ => ⟨false, exm_via T.LimitExceeded.e.T.exC T.LimitExceeded.e.T.te T.ap_NotAWord_LimitExceeded, fun z => Bool.noConfusion z, fun _ => ⟨false, exm_via T.UnknownState.e.T.exC T.UnknownState.e.T.te T.ap_NotAWord_UnknownState, fun z => Bool.noConfusion z, fun _ => ⟨true, T.NotAWord.e.T.te, fun _ a0 na0 => ?_, fun z => Bool.noConfusion z⟩⟩⟩⟩
          obtain ⟨hv, sho, dep, len⟩ := hsh rfl
          exact ⟨.ref a0, rfl, rfl, rfl, e, v, rfl, he, p, v, dv, rfl, hv, sho, dep, len, by show 2 ≤ sizeLine; decide, fun t nt => ⟨.ref t, rfl, fin t _ (same_new nt) upd_same⟩⟩
        case test =>
          refine ⟨false, exm_via T.NotAVerdict.e.T.exC T.NotAVerdict.e.T.te T.ap_InvalidTest_NotAVerdict, fun z => Bool.noConfusion z, fun _ => ⟨false, exm_via T.LimitExceeded.e.T.exC T.LimitExceeded.e.T.te T.ap_InvalidTest_LimitExceeded, fun z => Bool.noConfusion z, fun _ => ⟨false, exm_via T.UnknownState.e.T.exC T.UnknownState.e.T.te T.ap_InvalidTest_UnknownState, fun z => Bool.noConfusion z, fun _ => ⟨false, exm_via T.NotAWord.e.T.exC T.NotAWord.e.T.te T.ap_InvalidTest_NotAWord, fun z => Bool.noConfusion z, fun _ => ⟨true, T.InvalidTest.e.T.te, fun _ a0 na0 => ?_, fun z => Bool.noConfusion z⟩⟩⟩⟩⟩
          obtain ⟨hv, sho, dep, len⟩ := hsh rfl
          exact ⟨.ref a0, rfl, rfl, rfl, e, v, rfl, he, p, v, dv, rfl, hv, sho, dep, len, by show 2 ≤ sizeLine; decide, fun t nt => ⟨.ref t, rfl, fin t _ (same_new nt) upd_same⟩⟩
        case sources =>
          refine ⟨false, exm_via T.NotAVerdict.e.T.exC T.NotAVerdict.e.T.te T.ap_InvalidSources_NotAVerdict, fun z => Bool.noConfusion z, fun _ => ⟨false, exm_via T.LimitExceeded.e.T.exC T.LimitExceeded.e.T.te T.ap_InvalidSources_LimitExceeded, fun z => Bool.noConfusion z, fun _ => ⟨false, exm_via T.UnknownState.e.T.exC T.UnknownState.e.T.te T.ap_InvalidSources_UnknownState, fun z => Bool.noConfusion z, fun _ => ⟨false, exm_via T.NotAWord.e.T.exC T.NotAWord.e.T.te T.ap_InvalidSources_NotAWord, fun z => Bool.noConfusion z, fun _ => ⟨false, exm_via T.InvalidTest.e.T.exC T.InvalidTest.e.T.te T.ap_InvalidSources_InvalidTest, fun z => Bool.noConfusion z, fun _ => ⟨true, T.InvalidSources.e.T.te, fun _ a0 na0 => ?_, fun z => Bool.noConfusion z⟩⟩⟩⟩⟩⟩
          obtain ⟨hv, sho, dep, len⟩ := hsh rfl
          exact ⟨.ref a0, rfl, rfl, rfl, e, v, rfl, he, p, v, dv, rfl, hv, sho, dep, len, by show 2 ≤ sizeLine; decide, fun t nt => ⟨.ref t, rfl, fin t _ (same_new nt) upd_same⟩⟩
        case exists_ =>
          refine ⟨false, exm_via T.NotAVerdict.e.T.exC T.NotAVerdict.e.T.te T.ap_RuleExists_NotAVerdict, fun z => Bool.noConfusion z, fun _ => ⟨false, exm_via T.LimitExceeded.e.T.exC T.LimitExceeded.e.T.te T.ap_RuleExists_LimitExceeded, fun z => Bool.noConfusion z, fun _ => ⟨false, exm_via T.UnknownState.e.T.exC T.UnknownState.e.T.te T.ap_RuleExists_UnknownState, fun z => Bool.noConfusion z, fun _ => ⟨false, exm_via T.NotAWord.e.T.exC T.NotAWord.e.T.te T.ap_RuleExists_NotAWord, fun z => Bool.noConfusion z, fun _ => ⟨false, exm_via T.InvalidTest.e.T.exC T.InvalidTest.e.T.te T.ap_RuleExists_InvalidTest, fun z => Bool.noConfusion z, fun _ => ⟨false, exm_via T.InvalidSources.e.T.exC T.InvalidSources.e.T.te T.ap_RuleExists_InvalidSources, fun z => Bool.noConfusion z, fun _ => ⟨true, T.RuleExists.e.T.te, fun _ a0 na0 => ?_, fun z => Bool.noConfusion z⟩⟩⟩⟩⟩⟩⟩
          exact ⟨.ref a0, rfl, rfl, rfl, e, v, rfl, he, by show 2 ≤ sizeLine; decide, fun t nt => ⟨.ref t, rfl, fin t _ (same_new nt) upd_same⟩⟩
        case rule =>
          refine ⟨false, exm_via T.NotAVerdict.e.T.exC T.NotAVerdict.e.T.te T.ap_UnknownRule_NotAVerdict, fun z => Bool.noConfusion z, fun _ => ⟨false, exm_via T.LimitExceeded.e.T.exC T.LimitExceeded.e.T.te T.ap_UnknownRule_LimitExceeded, fun z => Bool.noConfusion z, fun _ => ⟨false, exm_via T.UnknownState.e.T.exC T.UnknownState.e.T.te T.ap_UnknownRule_UnknownState, fun z => Bool.noConfusion z, fun _ => ⟨false, exm_via T.NotAWord.e.T.exC T.NotAWord.e.T.te T.ap_UnknownRule_NotAWord, fun z => Bool.noConfusion z, fun _ => ⟨false, exm_via T.InvalidTest.e.T.exC T.InvalidTest.e.T.te T.ap_UnknownRule_InvalidTest, fun z => Bool.noConfusion z, fun _ => ⟨false, exm_via T.InvalidSources.e.T.exC T.InvalidSources.e.T.te T.ap_UnknownRule_InvalidSources, fun z => Bool.noConfusion z, fun _ => ⟨false, exm_via T.RuleExists.e.T.exC T.RuleExists.e.T.te T.ap_UnknownRule_RuleExists, fun z => Bool.noConfusion z, fun _ => ⟨true, T.UnknownRule.e.T.te, fun _ a0 na0 => ?_, fun z => Bool.noConfusion z⟩⟩⟩⟩⟩⟩⟩⟩
          obtain ⟨hv, sho, dep, len⟩ := hsh rfl
          exact ⟨.ref a0, rfl, rfl, rfl, e, v, rfl, he, p, v, dv, rfl, hv, sho, dep, len, by show 2 ≤ sizeLine; decide, fun t nt => ⟨.ref t, rfl, fin t _ (same_new nt) upd_same⟩⟩
    · exact fun v H2 hv => ⟨by show 2 ≤ sizeLine; decide, fun p np => ⟨.ref p, rfl, hv p np⟩⟩
end

/-! ### what the law awaits: states and verdicts -/
/-- the kinds of the states: a list of lists -/
structure KAt (H : Hp) (kl : Addr) (ls : List Addr) (ks : List (Int × Int)) : Prop where
  at_ : H kl = some (.lst (ls.map V.ref))
  all : Paired (fun a k => H a = some (.lst [.int k.1, .int k.2])) ls ks
  nd : ls.Nodup
theorem KAt.len {H : Hp} {kl : Addr} {ls : List Addr} {ks : List (Int × Int)} (h : KAt H kl ls ks) : ls.length = ks.length := Paired.length h.all
theorem paired_at {α β : Type} {R : α → β → Prop} {l : List α} {r : List β} (h : Paired R l r) : ∀ {i : Nat} {b : β}, r[i]? = some b → ∃ a, l[i]? = some a ∧ R a b := by
  induction h with
  | nil => intro i b e; simp at e
  | cons a _ ih =>
    intro i b e
    cases i with
    | zero =>
      simp at e
      subst e
      exact ⟨_, rfl, a⟩
    | succ i =>
      obtain ⟨k, h1, h2⟩ := ih (i := i) (b := b) (by simpa using e)
      exact ⟨k, by simpa using h1, h2⟩
theorem paired_mem {α β : Type} {R : α → β → Prop} {l : List α} {r : List β} (h : Paired R l r) : ∀ {a : α}, a ∈ l → ∃ b, R a b := by
  induction h with
  | nil => intro a m; cases m
  | cons a _ ih =>
    intro x m
    rcases List.mem_cons.mp m with rfl | m
    · exact ⟨_, a⟩
    · exact ih m
theorem KAt.at {H : Hp} {kl : Addr} {ls : List Addr} {ks : List (Int × Int)} (h : KAt H kl ls ks) {i : Nat} (hi : i < ks.length) : ∃ a, ls[i]? = some a ∧ H a = some (.lst [.int (ks[i]).1, .int (ks[i]).2]) := paired_at h.all (List.getElem?_eq_getElem hi)
theorem KAt.kl {H : Hp} {kl : Addr} {ls : List Addr} {ks : List (Int × Int)} (h : KAt H kl ls ks) : kl ∉ ls := fun m => by
  obtain ⟨k, e⟩ := paired_mem h.all m
  rw [h.at_] at e
  have e2 := HO.lst.inj (Option.some.inj e)
  cases hl : ls with
  | nil => rw [hl] at m; cases m
  | cons x r =>
    rw [hl] at e2
    cases e2
theorem KAt.alls {H H' : Hp} {kl : Addr} {ls : List Addr} {ks : List (Int × Int)} (h : KAt H kl ls ks) (s2 : ∀ b ∈ ls, ∀ o, H b = some o → H' b = some o) : Paired (fun a k => H' a = some (.lst [.int k.1, .int k.2])) ls ks := by
  obtain ⟨a, b, c⟩ := h
  clear a c
  induction b with
  | nil => exact .nil
  | cons x _ ih => exact .cons (s2 _ List.mem_cons_self _ x) (ih fun b m => s2 b (List.mem_cons_of_mem _ m))
theorem KAt.mono {H H' : Hp} {kl : Addr} {ls : List Addr} {ks : List (Int × Int)} (h : KAt H kl ls ks) (s : ∀ b ∈ kl :: ls, ∀ o, H b = some o → H' b = some o) : KAt H' kl ls ks := ⟨s kl List.mem_cons_self _ h.at_, h.alls fun b m => s b (List.mem_cons_of_mem _ m), h.nd⟩
theorem paired_set {α β : Type} {R S : α → β → Prop} {l : List α} {r : List β} (h : Paired R l r) : ∀ {i : Nat} {a : α} {b : β}, l.Nodup → l[i]? = some a → S a b → (∀ x y, x ≠ a → R x y → S x y) → Paired S l (r.set i b) := by
  induction h with
  | nil => intro i a b _ e; simp at e
  | @cons x y l r xy rest ih =>
    intro i a b nd e sab t
    have nd' := List.nodup_cons.mp nd
    cases i with
    | zero =>
      simp at e
      subst e
      refine .cons sab ?_
      have : ∀ z ∈ l, z ≠ x := fun z m w => nd'.1 (w ▸ m)
      clear ih nd nd'
      induction rest with
      | nil => exact .nil
      | cons q _ ih2 => exact .cons (t _ _ (this _ List.mem_cons_self) q) (ih2 fun z m => this z (List.mem_cons_of_mem _ m))
    | succ i =>
      have e2 : l[i]? = some a := by simpa using e
      have hx : x ≠ a := fun w => nd'.1 (w ▸ List.mem_of_getElem? e2)
      exact .cons (t _ _ hx xy) (ih nd'.2 e2 sab t)
theorem paired_snoc {α β : Type} {R : α → β → Prop} {l : List α} {r : List β} (h : Paired R l r) {a : α} {b : β} (ab : R a b) : Paired R (l ++ [a]) (r ++ [b]) := by
  induction h with
  | nil => exact .cons ab .nil
  | cons x _ ih => exact .cons x ih
def tell2 (n : Str) (d : PyData) : PyData := .tuple [.str n, d]
def stDue (n : Nat) (d1 d2 : PyData) : PyData := if btw d1 0 3 = false then tell2 "verdict" (.str d1.shown) else if btw d2 0 3 = false then tell2 "limit" (.int 3) else if n = 6 then tell2 "limit" (.int 6) else tell2 "done" (.int n)
def stOk (n : Nat) (d1 d2 : PyData) : Prop := btw d1 0 3 = true ∧ btw d2 0 3 = true ∧ n < 6
def vdDue (n : Nat) (d1 d2 : PyData) : PyData := if btw d1 0 ((n : Int) - 1) = false then tell2 "state" (.str d1.shown) else if btw d2 0 3 = false then tell2 "verdict" (.str d2.shown) else tell2 "done" .none
def vdOk (n : Nat) (d1 d2 : PyData) : Prop := btw d1 0 ((n : Int) - 1) = true ∧ btw d2 0 3 = true
def sp_law_in : Sp := fun us H Q _ => ∃ (p : Addr) (v : V) (d : PyData) (m : Int), us = [v, .int m] ∧ LD p H v d ∧ Q (.bl (btw d 0 m)) H
def sp_law_state_due : Sp := fun us H Q _ => ∃ (kl : Addr) (ls : List Addr) (ks : List (Int × Int)) (p : Addr) (v1 v2 : V) (d1 d2 : PyData), us = [.ref kl, v1, v2] ∧ KAt H kl ls ks ∧ ks.length ≤ 6 ∧ LD p H v1 d1 ∧ LD p H v2 d2 ∧ Fine d1 ∧
  (¬ stOk ks.length d1 d2 → ∀ v H', Same H H' → TD H' v (stDue ks.length d1 d2) → Q v H') ∧
  (∀ a b, d1 = .int a → d2 = .int b → stOk ks.length d1 d2 → ∀ v H' l, (∀ c o, H c = some o → c ≠ kl → H' c = some o) → H l = none → KAt H' kl (ls ++ [l]) (ks ++ [(a, b)]) → TD H' v (stDue ks.length d1 d2) → Q v H')
def sp_law_verdict_due : Sp := fun us H Q _ => ∃ (kl : Addr) (ls : List Addr) (ks : List (Int × Int)) (p : Addr) (v1 v2 : V) (d1 d2 : PyData), us = [.ref kl, v1, v2] ∧ KAt H kl ls ks ∧ ks.length ≤ 6 ∧ LD p H v1 d1 ∧ LD p H v2 d2 ∧ Fine d1 ∧ Fine d2 ∧
  (¬ vdOk ks.length d1 d2 → ∀ v H', Same H H' → TD H' v (vdDue ks.length d1 d2) → Q v H') ∧
  (∀ s b : Int, d1 = .int s → d2 = .int b → vdOk ks.length d1 d2 → ∀ v H', (∀ c o, H c = some o → c ∉ ls → H' c = some o) → KAt H' kl ls (ks.set s.toNat (b, heldAt ks s)) → TD H' v (vdDue ks.length d1 d2) → Q v H')
section
variable {P : Program} {w : World} {K : PySem.W.Frag} {mg : Str → Option Value} {base : Heap}
abbrev N_law_in : List Str := ["value", "most"]
theorem sc_law_in : FnScope N_law_in ["value", "most"] (defScope s_law_in) := ⟨rfl, rfl, rfl, by decide +kernel, rfl, by decide +kernel, by decide +kernel⟩
theorem G_law_in (T : Tx K mg) : FnG P w K mg base CX0 1 T.law_in.f T.law_in.fd ["value", "most"] sp_law_in := by
  refine okG T.law_in.F sc_law_in (fun vs H Q E h => ?_) (fun cdv A outer s H vs Q E gd hr h => ?_)
  · obtain ⟨p, v, d, m, rfl, _⟩ := h
    rfl
  · obtain ⟨p, v, d, m, rfl, hv, q⟩ := h
    refine ⟨_, 
      (pss_one (ps_ret (pe_and (pe_callB (call_isL kit_int) (by rfl) T.m_isinstance (by decide +kernel) (pa_cons (pv 0) (pa_cons (pe_bltn (v := .ty "int") (by rfl) T.m_int (by decide +kernel) (show RelV (.ty "int") (.type "int") from rfl)) pa_nil))) (pe_and (pe_not (pe_callB (call_isL kit_bool) (by rfl) T.m_isinstance (by decide +kernel) (pa_cons (pv 0) (pa_cons (pe_bltn (v := .ty "bool") (by rfl) T.m_bool (by decide +kernel) (show RelV (.ty "bool") (.type "bool") from rfl)) pa_nil)))) (pe_one (pe_chain op_le op_le pe_int (pv 0) (pv 1))))))) -- return isinstance(value, int) and (not isinstance(value, bool)) and (0 <= value <= most)
       , ?_⟩
    refine ⟨v, rfl, p, v, d, rfl, hv, _, rfl, ?_⟩
    cases hv with
    | int n =>
      refine ⟨V.int n, rfl, p, V.int n, PyData.int n, rfl, LD.int n, _, rfl, _, rfl, ?_⟩
      have q' : Q (.bl (decide (0 ≤ n) && decide (n ≤ m))) H := q
      refine ⟨V.int n, rfl, 0, n, rfl, rfl, _, rfl, ite2 (fun h1 => ?_) (fun h1 => ?_)⟩
      · refine ⟨V.int m, rfl, n, m, rfl, rfl, ?_⟩
        rw [h1] at q'
        exact q'
      · rw [Bool.eq_false_iff.mpr h1] at q'
        exact q'
    | bl b => exact ⟨.bl b, rfl, p, .bl b, .bool b, rfl, LD.bl b, _, rfl, _, rfl, q⟩
    | _ => exact q
abbrev N_law_state_due : List Str := ["kinds", "verdict", "held"]
theorem sc_law_state_due : FnScope N_law_state_due ["kinds", "verdict", "held"] (defScope s_law_state_due) := ⟨rfl, rfl, rfl, by decide +kernel, rfl, by decide +kernel, by decide +kernel⟩
theorem G_law_state_due (T : Tx K mg) : FnG P w K mg base CX0 2 T.law_state_due.f T.law_state_due.fd ["kinds", "verdict", "held"] sp_law_state_due := by
  refine okG T.law_state_due.F sc_law_state_due (fun vs H Q E h => ?_) (fun cdv A outer s H vs Q E gd hr h => ?_)
  · obtain ⟨kl, ls, ks, p, v1, v2, d1, d2, rfl, _⟩ := h
    rfl
  · obtain ⟨kl, ls, ks, p, v1, v2, d1, d2, rfl, hK, k6, h1, h2, ⟨f1, f2, f3⟩, q1, q2⟩ := h
    refine ⟨_, 
      (pss_cons (ps_if (pt_not (pt_val (pe_callG (G_law_in T) gd (hr.mono (by decide)) rfl T.law_in.g T.law_in.F.kp T.law_in.b .nil pass0 (pa_cons (pv 1) (pa_cons pe_int pa_nil))))) 
        (pss_one (ps_ret (pe_tup (pa_cons pe_str (pa_cons (pe_callB (call_reprL gd hr.units) (by rfl) T.m_repr (by decide +kernel) (pa_cons (pv 1) pa_nil)) pa_nil))))) -- return ('verdict', repr(verdict))
         pss_nil) -- if not _law_in(verdict, 3):
      (pss_cons (ps_if (pt_not (pt_val (pe_callG (G_law_in T) gd (hr.mono (by decide)) rfl T.law_in.g T.law_in.F.kp T.law_in.b .nil pass0 (pa_cons (pv 2) (pa_cons pe_int pa_nil))))) 
        (pss_one (ps_ret (pe_tup (pa_cons pe_str (pa_cons pe_int pa_nil))))) -- return ('limit', 3)
         pss_nil) -- if not _law_in(held, 3):
      (pss_cons (ps_if (pt_cmpR op_eq (pe_callB call_len_seq (by rfl) T.m_len PySem.boot_len (pa_cons (pv 0) pa_nil)) pe_int (nomark _)) 
        (pss_one (ps_ret (pe_tup (pa_cons pe_str (pa_cons pe_int pa_nil))))) -- return ('limit', 6)
         pss_nil) -- if len(kinds) == 6:
      (pss_cons (ps_expr (pe_bm PySem.F.plainAttrs_list PySem.F.slot_list_append PySem.F.type_list_append mt_append (pv 0) (pa_cons (pe_lst (pa_cons (pv 1) (pa_cons (pv 2) pa_nil))) pa_nil))) -- kinds.append([verdict, held])
      (pss_one (ps_ret (pe_tup (pa_cons pe_str (pa_cons (pe_op op_sub (pe_callB call_len_seq (by rfl) T.m_len PySem.boot_len (pa_cons (pv 0) pa_nil)) pe_int) pa_nil))))) -- return ('done', len(kinds) - 1)
      )))) , ?_⟩
    refine ⟨v1, rfl, p, v1, d1, 3, rfl, h1, _, rfl, ?_⟩
    cases hb1 : btw d1 0 3 with
    | false =>
      refine ⟨v1, rfl, p, v1, d1, rfl, h1, f1, f2, f3, by show 2 ≤ sizeLine; decide, fun t nt => q1 (fun z => by have := z.1; rw [hb1] at this; exact Bool.noConfusion this) _ _ (same_new nt) ?_⟩
      rw [stDue, if_pos hb1]
      exact .tup upd_same (.cons (.str _) (.cons (.str _) .nil))
    | true =>
      refine ⟨v2, rfl, p, v2, d2, 3, rfl, h2, _, rfl, ?_⟩
      cases hb2 : btw d2 0 3 with
      | false =>
        refine ⟨by show 2 ≤ sizeLine; decide, fun t nt => q1 (fun z => by have := z.2.1; rw [hb2] at this; exact Bool.noConfusion this) _ _ (same_new nt) ?_⟩
        rw [stDue, if_neg (by rw [hb1]; exact Bool.noConfusion), if_pos hb2]
        exact .tup upd_same (.cons (.str _) (.cons (.int _) .nil))
      | true =>
        have hl : (ls.map V.ref).length = ks.length := by rw [List.length_map]; exact hK.len
        refine ⟨.ref kl, rfl, kl, _, rfl, .inl (SqL.of hK.at_), rfl, _, rfl, ?_⟩
        rw [hl]
        by_cases h6 : ks.length = 6
        · rw [h6]
          refine ⟨by show 2 ≤ sizeLine; decide, fun t nt => q1 (fun z => by have := z.2.2; omega) _ _ (same_new nt) ?_⟩
          rw [stDue, if_neg (by rw [hb1]; exact Bool.noConfusion), if_neg (by rw [hb2]; exact Bool.noConfusion), if_pos h6]
          exact .tup upd_same (.cons (.str _) (.cons (.int _) .nil))
        · have h6' : ¬ (V.int ((ks.length : Nat) : Int)) = V.int 6 := fun z => h6 (by have := V.int.inj z; omega)
          rw [decide_eq_false h6']
          obtain ⟨a, rfl, _⟩ := btw_int hb1
          obtain ⟨b, rfl, _⟩ := btw_int hb2
          cases h1
          cases h2
          have hk0 := hK.at_
          refine ⟨.ref kl, rfl, .inl ⟨rfl, _, SqL.of hk0⟩, .int a, rfl, .int b, rfl, by show 2 ≤ sizeLine; decide, fun l nl => ?_⟩
          have nkl : kl ≠ l := ne_of_none hk0 nl
          have hk1 : upd H l (.lst [.int a, .int b]) kl = some (.lst (ls.map V.ref)) := by rw [upd_ne nkl]; exact hk0
          refine ⟨kl, _, .ref l, rfl, rfl, hk1, by rw [hl]; exact small1000 (by omega), ?_⟩
          have hk2 : upd (upd H l (.lst [.int a, .int b])) kl (.lst (ls.map V.ref ++ [V.ref l])) kl = some (.lst ((ls ++ [l]).map V.ref)) := by rw [upd_same, List.map_append]; rfl
          refine ⟨.ref kl, rfl, kl, _, rfl, .inl (SqL.of hk2), _, 1, rfl, rfl, ?_⟩
          have el : ((((ls ++ [l]).map V.ref).length : Nat) : Int) - 1 = (ks.length : Int) := by
            rw [List.length_map, List.length_append, hK.len]
            show ((ks.length + 1 : Nat) : Int) - 1 = _
            omega
          dsimp only
          rw [el]
          have nlk : l ∉ kl :: ls := fun m => by
            rcases List.mem_cons.mp m with z | z
            · exact nkl z.symm
            · obtain ⟨k, e⟩ := paired_mem hK.all z
              rw [nl] at e
              cases e
          refine ⟨by show 2 ≤ sizeLine; decide, fun t nt => ?_⟩
          have sm : Same _ (upd (upd (upd H l (.lst [.int a, .int b])) kl (.lst (ls.map V.ref ++ [V.ref l]))) t (.tup [.str "done", .int ks.length])) := same_new nt
          refine q2 a b rfl rfl ⟨hb1, hb2, by omega⟩ _ _ l (fun c o e nc => sm _ _ ?_) nl { at_ := sm _ _ hk2, all := paired_snoc ?_ (sm _ _ ?_), nd := ?_ } ?_
          · rw [upd_ne nc, upd_ne (ne_of_none e nl)]
            exact e
          · refine hK.alls fun c m o e => sm _ _ ?_
            have nc : c ≠ kl := fun z => hK.kl (z ▸ m)
            rw [upd_ne nc, upd_ne (ne_of_none e nl)]
            exact e
          · rw [upd_ne nkl.symm, upd_same]
          · exact List.nodup_append.mpr ⟨hK.nd, by simp, fun x hx y hy => by
              rcases List.mem_singleton.mp hy with rfl
              exact fun z => nlk (List.mem_cons_of_mem _ (z ▸ hx))⟩
          · rw [stDue, if_neg (by rw [hb1]; exact Bool.noConfusion), if_neg (by rw [hb2]; exact Bool.noConfusion), if_neg h6]
            exact .tup upd_same (.cons (.str _) (.cons (.int _) .nil))
abbrev N_law_verdict_due : List Str := ["kinds", "state", "verdict"]
theorem sc_law_verdict_due : FnScope N_law_verdict_due ["kinds", "state", "verdict"] (defScope s_law_verdict_due) := ⟨rfl, rfl, rfl, by decide +kernel, rfl, by decide +kernel, by decide +kernel⟩
theorem G_law_verdict_due (T : Tx K mg) : FnG P w K mg base CX0 2 T.law_verdict_due.f T.law_verdict_due.fd ["kinds", "state", "verdict"] sp_law_verdict_due := by
  refine okG T.law_verdict_due.F sc_law_verdict_due (fun vs H Q E h => ?_) (fun cdv A outer s H vs Q E gd hr h => ?_)
  · obtain ⟨kl, ls, ks, p, v1, v2, d1, d2, rfl, _⟩ := h
    rfl
  · obtain ⟨kl, ls, ks, p, v1, v2, d1, d2, rfl, hK, k6, h1, h2, ⟨f1, f2, f3⟩, ⟨f4, f5, f6⟩, q1, q2⟩ := h
    refine ⟨_, 
      (pss_cons (ps_if (pt_not (pt_val (pe_callG (G_law_in T) gd (hr.mono (by decide)) rfl T.law_in.g T.law_in.F.kp T.law_in.b .nil pass0 (pa_cons (pv 1) (pa_cons (pe_op op_sub (pe_callB call_len_seq (by rfl) T.m_len PySem.boot_len (pa_cons (pv 0) pa_nil)) pe_int) pa_nil))))) 
        (pss_one (ps_ret (pe_tup (pa_cons pe_str (pa_cons (pe_callB (call_reprL gd hr.units) (by rfl) T.m_repr (by decide +kernel) (pa_cons (pv 1) pa_nil)) pa_nil))))) -- return ('state', repr(state))
         pss_nil) -- if not _law_in(state, len(kinds) - 1):
      (pss_cons (ps_if (pt_not (pt_val (pe_callG (G_law_in T) gd (hr.mono (by decide)) rfl T.law_in.g T.law_in.F.kp T.law_in.b .nil pass0 (pa_cons (pv 2) (pa_cons pe_int pa_nil))))) 
        (pss_one (ps_ret (pe_tup (pa_cons pe_str (pa_cons (pe_callB (call_reprL gd hr.units) (by rfl) T.m_repr (by decide +kernel) (pa_cons (pv 2) pa_nil)) pa_nil))))) -- return ('verdict', repr(verdict))
         pss_nil) -- if not _law_in(verdict, 3):
      (pss_cons (ps_asg (pv 2) (pg_sub (pe_ix ix_list (pv 0) (pv 1) (fun _ _ => rfl)) pe_int set_list)) -- kinds[state][0] = verdict
      (pss_one (ps_ret (pe_tup (pa_cons pe_str (pa_cons pe_non pa_nil))))) -- return ('done', None)
      ))) , ?_⟩
    have hl : (ls.map V.ref).length = ks.length := by rw [List.length_map]; exact hK.len
    refine ⟨v1, rfl, .ref kl, rfl, kl, _, rfl, .inl (SqL.of hK.at_), _, 1, rfl, rfl, ?_⟩
    refine ⟨p, v1, d1, _, rfl, h1, _, rfl, ?_⟩
    rw [hl]
    cases hb1 : btw d1 0 ((ks.length : Int) - 1) with
    | false =>
      refine ⟨v1, rfl, p, v1, d1, rfl, h1, f1, f2, f3, by show 2 ≤ sizeLine; decide, fun t nt => q1 (fun z => by have := z.1; rw [hb1] at this; exact Bool.noConfusion this) _ _ (same_new nt) ?_⟩
      rw [vdDue, if_pos hb1]
      exact .tup upd_same (.cons (.str _) (.cons (.str _) .nil))
    | true =>
      refine ⟨v2, rfl, p, v2, d2, 3, rfl, h2, _, rfl, ?_⟩
      cases hb2 : btw d2 0 3 with
      | false =>
        refine ⟨v2, rfl, p, v2, d2, rfl, h2, f4, f5, f6, by show 2 ≤ sizeLine; decide, fun t nt => q1 (fun z => by have := z.2; rw [hb2] at this; exact Bool.noConfusion this) _ _ (same_new nt) ?_⟩
        rw [vdDue, if_neg (by rw [hb1]; exact Bool.noConfusion), if_pos hb2]
        exact .tup upd_same (.cons (.str _) (.cons (.str _) .nil))
      | true =>
        obtain ⟨s, rfl, s0, s1⟩ := btw_int hb1
        obtain ⟨b, rfl, b0, b1⟩ := btw_int hb2
        cases h1
        cases h2
        obtain ⟨j, rfl⟩ : ∃ j : Nat, s = j := ⟨s.toNat, by omega⟩
        have hj : j < ks.length := by omega
        obtain ⟨la, hla, hL⟩ := hK.at hj
        have aL : atI (ls.map V.ref) (j : Int) = some (.ref la) := atI_nat (by rw [List.getElem?_map, hla]; rfl)
        refine ⟨.int b, rfl, .ref kl, rfl, .int (j : Int), rfl, kl, _, (j : Int), .ref la, rfl, rfl, SqL.of hK.at_, aL, la, _, 0, 0, rfl, rfl, hL, rfl, ?_⟩
        have hL2 : upd H la (.lst [.int b, .int (ks[j]).2]) la = some (.lst [.int b, .int (ks[j]).2]) := upd_same
        have kla : kl ≠ la := fun z => hK.kl (z ▸ List.mem_of_getElem? hla)
        refine ⟨by show 2 ≤ sizeLine; decide, fun t nt => ?_⟩
        have sm : Same (upd H la (.lst [.int b, .int (ks[j]).2])) (upd (upd H la (.lst [.int b, .int (ks[j]).2])) t (.tup [.str "done", .non])) := same_new nt
        have hh : heldAt ks (j : Int) = (ks[j]).2 := by
          unfold heldAt
          rw [Int.toNat_natCast, List.getElem?_eq_getElem hj]
          rfl
        refine q2 (j : Int) b rfl rfl ⟨hb1, hb2⟩ _ _ (fun c o e nc => sm _ _ ?_) { at_ := sm _ _ ?_, all := ?_, nd := hK.nd } ?_
        · have nc2 : c ≠ la := fun z => nc (z ▸ List.mem_of_getElem? hla)
          rw [upd_ne nc2]
          exact e
        · rw [upd_ne kla]
          exact hK.at_
        · rw [Int.toNat_natCast, hh]
          refine paired_set hK.all hK.nd hla (sm _ _ hL2) fun x y nx e => sm _ _ ?_
          rw [upd_ne nx]
          exact e
        · rw [vdDue, if_neg (by rw [hb1]; exact Bool.noConfusion), if_neg (by rw [hb2]; exact Bool.noConfusion)]
          exact .tup upd_same (.cons (.str _) (.cons .non .nil))
end

/-! ### a value, or another one -/
/-- data that lie nowhere where the old is -/
def Od (old : Addr → Prop) (H : Hp) (v : V) (d : PyData) : Prop := ∀ a, old a → LD a H v d
def Ods (old : Addr → Prop) (H : Hp) (vs : List V) (ds : List PyData) : Prop := ∀ a, old a → LDs a H vs ds
theorem Ods.cons {old : Addr → Prop} {H : Hp} {v : V} {vs : List V} {d : PyData} {ds : List PyData} (a : Od old H v d) (b : Ods old H vs ds) : Ods old H (v :: vs) (d :: ds) := fun p hp => .cons (a p hp) (b p hp)
mutual
theorem od_mono {old : Addr → Prop} {H H' : Hp} {p0 : Addr} (h0 : old p0) (t : ∀ c o, H c = some o → ¬ old c → (∀ ps, o ≠ .tbl ps) → H' c = some o) : ∀ {v : V} (d : PyData), Od old H v d → Od old H' v d
  | v, .none, h => by have := h p0 h0; cases this; exact fun _ _ => .non
  | _, .bool b, h => by have := h p0 h0; cases this; exact fun _ _ => .bl _
  | _, .int i, h => by have := h p0 h0; cases this; exact fun _ _ => .int _
  | _, .str x, h => by have := h p0 h0; cases this; exact fun _ _ => .str _
  | _, .tuple ds, h => by
    have z := h p0 h0
    cases z with
    | @tup a xs _ n e r =>
      have no : ¬ old a := fun ho => by
        have z2 := h a ho
        cases z2 with
        | tup n2 => exact n2 rfl
      have rs : Ods old H xs ds := fun p hp => by
        have z2 := h p hp
        cases z2 with
        | tup n2 e2 r2 =>
          rw [e] at e2
          cases e2
          exact r2
      have rs' := ods_mono h0 t ds rs
      exact fun p hp => .tup (fun z => no (z ▸ hp)) (t _ _ e no (fun _ z => by cases z)) (rs' p hp)
  | _, .list ds, h => by
    have z := h p0 h0
    cases z with
    | @lst a xs _ n m e r =>
      have no : ¬ old a := fun ho => by
        have z2 := h a ho
        cases z2 with
        | lst n2 => exact n2 rfl
      have rs : Ods old H xs ds := fun p hp => by
        have z2 := h p hp
        cases z2 with
        | lst n2 m2 e2 r2 =>
          rw [e] at e2
          cases e2
          exact r2
      have rs' := ods_mono h0 t ds rs
      exact fun p hp => .lst (fun z => no (z ▸ hp)) m (t _ _ e no (fun _ z => by cases z)) (rs' p hp)
  | _, .dict ds, h => by
    have z := h p0 h0
    cases z with
    | @dic a n e =>
      have no : ¬ old a := fun ho => by
        have z2 := h a ho
        cases z2 with
        | dic n2 => exact n2 rfl
        | dct n2 => exact n2 rfl
      exact fun p hp => .dic (fun z => no (z ▸ hp)) (t _ _ e no (fun _ z => by cases z))
    | @dct a n e =>
      have no : ¬ old a := fun ho => by
        have z2 := h a ho
        cases z2 with
        | dic n2 => exact n2 rfl
        | dct n2 => exact n2 rfl
      exact fun p hp => .dct (fun z => no (z ▸ hp)) (t _ _ e no (fun _ z => by cases z))
theorem ods_mono {old : Addr → Prop} {H H' : Hp} {p0 : Addr} (h0 : old p0) (t : ∀ c o, H c = some o → ¬ old c → (∀ ps, o ≠ .tbl ps) → H' c = some o) : ∀ {vs : List V} (ds : List PyData), Ods old H vs ds → Ods old H' vs ds
  | _, [], h => by have := h p0 h0; cases this; exact fun _ _ => .nil
  | _, d :: ds, h => by
    have z := h p0 h0
    cases z with
    | @cons v vs _ _ a r =>
      have h1 : Od old H v d := fun p hp => by
        have z2 := h p hp
        cases z2 with
        | cons a2 _ => exact a2
      have h2 : Ods old H vs ds := fun p hp => by
        have z2 := h p hp
        cases z2 with
        | cons _ r2 => exact r2
      exact Ods.cons (od_mono h0 t d h1) (ods_mono h0 t ds h2)
end
theorem Od.same {old : Addr → Prop} {H H' : Hp} {p0 : Addr} {v : V} {d : PyData} (h : Od old H v d) (h0 : old p0) (s : Same H H') : Od old H' v d := od_mono h0 (fun c o e _ _ => s c o e) d h
theorem Od.keep {old : Addr → Prop} {H H' : Hp} {p0 : Addr} {v : V} {d : PyData} (h : Od old H v d) (h0 : old p0) (s : Keep p0 H H') : Od old H' v d := od_mono h0 (fun c o e n _ => s c o e (fun z => n (z ▸ h0))) d h
theorem Ods.keep {old : Addr → Prop} {H H' : Hp} {p0 : Addr} {v : List V} {d : List PyData} (h : Ods old H v d) (h0 : old p0) (s : Keep p0 H H') : Ods old H' v d := ods_mono h0 (fun c o e n _ => s c o e (fun z => n (z ▸ h0))) d h
/-- the other values -/
def oddL : List PyData := [.int (-1), .int 9, .bool true, .bool false, .none, .str "new", .str "value", .tuple [], .int 2, .list [.int 0], .tuple [.int 0, .str "value"], .int (10 ^ 20), .str "old", .tuple [.int 0, .int 0], .tuple [.str "value"]]
def sp_law_odd : Sp := fun us H Q _ => ∃ (p c : Addr) (v : V) (d : PyData) (old : Addr → Prop), us = [.ref p, v] ∧ Pen H p c ∧ old p ∧ (∀ a, old a → H a ≠ none) ∧ Od old H v d ∧
  ∀ v' d' H', Keep p H H' → Pen H' p c → (d' = d ∨ d' ∈ oddL) → Od old H' v' d' → Q v' H'
section
variable {P : Program} {w : World} {K : PySem.W.Frag} {mg : Str → Option Value} {base : Heap}
abbrev N_law_odd : List Str := ["pen", "value", "some"]
theorem sc_law_odd : FnScope N_law_odd ["pen", "value"] (defScope s_law_odd) := ⟨rfl, rfl, rfl, by decide +kernel, rfl, by decide +kernel, by decide +kernel⟩
theorem G_law_odd (T : Tx K mg) : FnG P w K mg base CX0 3 T.law_odd.f T.law_odd.fd ["pen", "value"] sp_law_odd := by
  refine okG T.law_odd.F sc_law_odd (fun vs H Q E h => ?_) (fun cdv A outer s H vs Q E gd hr h => ?_)
  · obtain ⟨p, c, v, d, old, rfl, _⟩ := h
    rfl
  · obtain ⟨p, c, v, d, old, rfl, hP, op, so, hv, q⟩ := h
    refine ⟨_, 
      (pss_cons (ps_set (i := 2) sc_law_odd.nd rfl (.inl rfl) (pe_lst (pa_cons (pv 1) (pa_cons (pe_un un_neg pe_int) (pa_cons pe_int (pa_cons pe_bl (pa_cons pe_bl (pa_cons pe_non (pa_cons pe_str (pa_cons pe_str (pa_cons (pe_tup pa_nil) (pa_cons pe_int (pa_cons (pe_lstS (pa_cons pe_int pa_nil)) (pa_cons (pe_tup (pa_cons pe_int (pa_cons pe_str pa_nil))) (pa_cons (pe_op op_pow pe_int pe_int) pa_nil))))))))))))))) -- some = [value, -1, 9, True, False, None, 'new', 'value', (), 2, [0], (0, 'value'), 10 ** 20]
      (pss_cons (ps_set (i := 2) sc_law_odd.nd rfl (.inl rfl) (pe_op op_cat (pv 2) (pe_lst (pa_cons pe_str (pa_cons (pe_tup (pa_cons pe_int (pa_cons pe_int pa_nil))) (pa_cons (pe_tup (pa_cons pe_str pa_nil)) pa_nil)))))) -- some = some + ['old', (0, 0), ('value',)]
      (pss_one (ps_ret (pe_ifExp (pt_cmpR op_eq (pe_callG (G_law_draw T) gd (hr.mono (by decide)) rfl T.law_draw.g T.law_draw.F.kp T.law_draw.b .nil pass0 (pa_cons (pv 0) (pa_cons pe_int pa_nil))) pe_int (nomark _)) (pe_ix ix_list (pv 2) (pe_callG (G_law_draw T) gd (hr.mono (by decide)) rfl T.law_draw.g T.law_draw.F.kp T.law_draw.b .nil pass0 (pa_cons (pv 0) (pa_cons (pe_callB call_len_seq (by rfl) T.m_len PySem.boot_len (pa_cons (pv 2) pa_nil)) pa_nil))) (fun _ _ => rfl)) (pv 1)))) -- return some[_law_draw(pen, len(some))] if _law_draw(pen, 7) == 0 else value
      )) , ?_⟩
    refine ⟨v, rfl, 1, rfl, by show 0 ≤ sizeLine; decide, fun t0 n0 => ⟨by show 1 ≤ sizeLine; decide, fun l1 n1 s1 => ⟨by show 2 ≤ sizeLine; decide, fun t2 n2 => ⟨10, 20, rfl, rfl, ⟨by decide, by decide, by decide⟩, ?_⟩⟩⟩⟩
    refine ⟨by show 13 ≤ sizeLine; decide, fun S nS => ?_⟩
    refine ⟨.ref S, rfl, by show 2 ≤ sizeLine; decide, fun t4 n4 => ⟨by show 1 ≤ sizeLine; decide, fun t5 n5 => ⟨by show 3 ≤ sizeLine; decide, fun l6 n6 => ?_⟩⟩⟩
    have k0 := same_new (o := .tup []) n0
    have k1 := same_new (o := .lst [.int 0]) n1
    have k2 := same_new (o := .tup [.int 0, .str "value"]) n2
    have kS := same_new (o := .lst [v, .int (-1), .int 9, .bl true, .bl false, .non, .str "new", .str "value", .ref t0, .int 2, .ref l1, .ref t2, .int (10 ^ 20)]) nS
    have k4 := same_new (o := .tup [.int 0, .int 0]) n4
    have k5 := same_new (o := .tup [.str "value"]) n5
    have k6 := same_new (o := .lst [.str "old", .ref t4, .ref t5]) n6
    have a4 := k4.trans (k5.trans k6)
    refine ⟨S, l6, _, _, rfl, rfl, a4 _ _ upd_same, upd_same, by show 16 ≤ sizeLine; decide, fun L nL => ?_⟩
    have k7 := same_new (o := .lst ([v, .int (-1), .int 9, .bl true, .bl false, .non, .str "new", .str "value", .ref t0, .int 2, .ref l1, .ref t2, .int (10 ^ 20)] ++ [.str "old", .ref t4, .ref t5])) nL
    have b6 := k6.trans k7
    have b5 := k5.trans b6
    have bS := kS.trans (a4.trans k7)
    have b2 := k2.trans bS
    have b1 := k1.trans b2
    have b0 := k0.trans b1
    have hds : ∀ a, old a → LDs a _ ([v, .int (-1), .int 9, .bl true, .bl false, .non, .str "new", .str "value", .ref t0, .int 2, .ref l1, .ref t2, .int (10 ^ 20)] ++ [.str "old", .ref t4, .ref t5]) (d :: oddL) := fun a oa => by
      have na := so a oa
      refine .cons ((hv.same op b0) a oa) (.cons (.int _) (.cons (.int _) (.cons (.bl _) (.cons (.bl _) (.cons .non (.cons (.str _) (.cons (.str _) ?_)))))))
      refine .cons (.tup (ne_at na n0) (b1 _ _ upd_same) .nil) (.cons (.int _) ?_)
      refine .cons (.lst (ne_at (fun z => na (k0.free z)) n1) s1 (b2 _ _ upd_same) (.cons (.int _) .nil)) ?_
      refine .cons (.tup (ne_at (fun z => na ((k0.trans k1).free z)) n2) (bS _ _ upd_same) (.cons (.int _) (.cons (.str _) .nil))) (.cons (.int _) (.cons (.str _) ?_))
      refine .cons (.tup (ne_at (fun z => na (((k0.trans k1).trans (k2.trans kS)).free z)) n4) (b5 _ _ upd_same) (.cons (.int _) (.cons (.int _) .nil))) ?_
      exact .cons (.tup (ne_at (fun z => na ((((k0.trans k1).trans (k2.trans kS)).trans k4).free z)) n5) (b6 _ _ upd_same) (.cons (.str _) .nil)) .nil
    have P9 := hP.mono b0
    have nLp := ne_at (hP.mono ((k0.trans k1).trans ((k2.trans kS).trans a4))).some' nL
    refine ⟨.ref p, rfl, p, c, 7, rfl, P9, by decide, by decide, fun x H2 x0 x1 k8 hP2 => ?_⟩
    have hL2 := k8 L _ upd_same nLp
    have kk := (Keep.same (p := p) b0).trans k8
    have hd2 : Ods old H2 _ _ := Ods.keep hds op k8
    refine ⟨rfl, _, rfl, ?_⟩
    show if _ = true then _ else _
    refine ite2 (fun e => ?_) (fun e => ?_)
    · refine ⟨.ref L, rfl, .ref p, rfl, .ref L, rfl, L, _, rfl, .inl (SqL.of hL2), p, c, _, rfl, hP2, by show (0 : Int) < 16; decide, by show (16 : Int) < 2 ^ 100; decide, fun y H3 y0 y1 k9 hP3 => ?_⟩
      have hL3 := k9 L _ hL2 nLp
      have hd3 : Ods old H3 _ _ := Ods.keep hd2 op k9
      obtain ⟨j, rfl⟩ : ∃ j : Nat, y = j := ⟨y.toNat, by omega⟩
      have hj : j < (d :: oddL).length := by
        have y1' : (j : Int) < 16 := y1
        show j < 16
        omega
      obtain ⟨v', ev, _⟩ := (hd3 p op).at (List.getElem?_eq_getElem hj)
      refine ⟨L, _, (j : Int), v', rfl, rfl, SqL.of hL3, atI_nat ev, q v' ((d :: oddL)[j]) H3 (kk.trans k9) hP3 ?_ fun a oa => ?_⟩
      · cases j with
        | zero => exact .inl rfl
        | succ i => exact .inr (List.getElem_mem _)
      · obtain ⟨v2, ev2, l2⟩ := (hd3 a oa).at (List.getElem?_eq_getElem hj)
        rw [ev] at ev2
        cases ev2
        exact l2
    · exact ⟨v, rfl, q v d H2 kk hP2 (.inl rfl) ((hv.same op b0).keep op k8)⟩
end

/-! ### the parts of a rule that may be right -/
theorem KAt.held {H : Hp} {kl : Addr} {ls : List Addr} {ks : List (Int × Int)} (h : KAt H kl ls ks) {i : Int} (h0 : 0 ≤ i) (h1 : i < ks.length) : ∃ a v, atI (ls.map V.ref) i = some (.ref a) ∧ a ∈ ls ∧ H a = some (.lst [.int v, .int (heldAt ks i)]) := by
  obtain ⟨j, rfl⟩ : ∃ j : Nat, i = j := ⟨i.toNat, by omega⟩
  have hj : j < ks.length := by omega
  obtain ⟨a, ha, e⟩ := h.at hj
  refine ⟨a, (ks[j]).1, atI_nat (by rw [List.getElem?_map, ha]; rfl), List.mem_of_getElem? ha, ?_⟩
  unfold heldAt
  rw [Int.toNat_natCast, List.getElem?_eq_getElem hj]
  exact e
theorem KindsOk.held {ks : List (Int × Int)} (hk : KindsOk ks) {i : Int} (h0 : 0 ≤ i) (h1 : i < ks.length) : 0 ≤ heldAt ks i ∧ heldAt ks i ≤ 3 := by
  obtain ⟨j, rfl⟩ : ∃ j : Nat, i = j := ⟨i.toNat, by omega⟩
  have hj : j < ks.length := by omega
  have := hk.all _ (List.getElem_mem hj)
  unfold heldAt
  rw [Int.toNat_natCast, List.getElem?_eq_getElem hj]
  exact ⟨this.2.2.1, this.2.2.2⟩
def SmallK (k : Key) : Prop := (∃ n : Int, k = Sum.inl n ∧ 0 ≤ n ∧ n < 6) ∨ k = Sum.inr ("value" : Str)
/-- a part of a rule, right or not -/
def PartD (d : PyData) : Prop := d ∈ oddL ∨ (∃ n : Int, d = .int n ∧ 0 ≤ n ∧ n < 6) ∨ ∃ ks : List Key, d = .tuple (ks.map kD) ∧ ks.length ≤ 3 ∧ ∀ k ∈ ks, SmallK k
def testsV (h : Int) : List V := rgV 0 h ++ [.str "new"]
theorem tests_len {h : Int} : (testsV h).length = (rgV 0 h).length + 1 := by
  unfold testsV
  rw [List.length_append]
  rfl
theorem tests_pos {h : Int} : (0 : Int) < ((testsV h).length : Int) := by
  rw [tests_len]
  omega
theorem tests_big {h : Int} (h3 : h ≤ 3) : ((testsV h).length : Int) < 2 ^ 100 := by
  rw [tests_len, rgV_length]
  omega
theorem tests_at {h d : Int} (h0 : 0 ≤ h) (d0 : 0 ≤ d) (d1 : d < ((testsV h).length : Int)) : ∃ t, atI (testsV h) d = some (kV t) ∧ TestOk h t := by
  obtain ⟨j, rfl⟩ : ∃ j : Nat, d = j := ⟨d.toNat, by omega⟩
  rw [tests_len, rgV_length] at d1
  by_cases hj : j < h.toNat
  · refine ⟨.inl j, atI_nat ?_, .inl ⟨j, rfl, by omega, by omega⟩⟩
    unfold testsV
    rw [rgV_keys, List.getElem?_append_left (by simpa using hj), List.getElem?_map, List.getElem?_map, List.getElem?_range hj]
    rfl
  · refine ⟨.inr ("new" : Str), atI_nat ?_, .inr rfl⟩
    have e : j = (rgV 0 h).length := by rw [rgV_length]; omega
    unfold testsV
    rw [e, List.getElem?_append_right (Nat.le_refl _), Nat.sub_self]
    rfl
theorem test_part {h : Int} {t : Key} (h3 : h ≤ 3) (o : TestOk h t) : PartD (kD t) := by
  rcases o with ⟨n, rfl, n0, n1⟩ | rfl
  · exact .inr (.inl ⟨n, rfl, n0, by omega⟩)
  · exact .inl (List.mem_of_getElem? (l := oddL) (i := 5) rfl)
theorem srcs_part {h m : Int} {t : Key} {ks : List Key} (h3 : h ≤ 3) (m3 : m ≤ 3) (o : SrcOk h t m ks) : PartD (.tuple (ks.map kD)) := by
  refine .inr (.inr ⟨ks, rfl, by have := o.len; omega, fun k hk => ?_⟩)
  rcases o.all k hk with ⟨n, rfl, n0, n1⟩ | ⟨rfl, _⟩
  · exact .inl ⟨n, rfl, n0, by omega⟩
  · exact .inr rfl
theorem ldKs {p : Addr} {H : Hp} : ∀ {ks : List Key}, LDs p H (ks.map kV) (ks.map kD)
  | [] => .nil
  | k :: _ => .cons (ldK k) ldKs
theorem iteT {A B : Prop} (a : A) : if true = true then A else B := a
theorem iteF {A B : Prop} (b : B) : if false = true then A else B := b
mutual
theorem LD.fresh {p q : Addr} {H : Hp} (n : H q = none) : ∀ {v : V} (d : PyData), LD p H v d → LD q H v d
  | _, .none, h => by cases h; exact .non
  | _, .bool b, h => by cases h; exact .bl b
  | _, .int i, h => by cases h; exact .int i
  | _, .str x, h => by cases h; exact .str x
  | _, .tuple ds, h => by
    cases h with
    | tup _ e r => exact .tup (ne_of_none e n) e (LDs.fresh n ds r)
  | _, .list ds, h => by
    cases h with
    | lst _ m e r => exact .lst (ne_of_none e n) m e (LDs.fresh n ds r)
  | _, .dict _, h => by
    cases h with
    | dic _ e => exact .dic (ne_of_none e n) e
    | dct _ e => exact .dct (ne_of_none e n) e
theorem LDs.fresh {p q : Addr} {H : Hp} (n : H q = none) : ∀ {vs : List V} (ds : List PyData), LDs p H vs ds → LDs q H vs ds
  | _, [], h => by cases h; exact .nil
  | _, d :: ds, h => by
    cases h with
    | cons a r => exact .cons (LD.fresh n d a) (LDs.fresh n ds r)
end
/-- what is old is no tuple -/
def OldOk (old : Addr → Prop) (H : Hp) : Prop := ∀ a, old a → H a ≠ none ∧ ∀ xs, H a ≠ some (.tup xs)
theorem OldOk.keep {old : Addr → Prop} {H H' : Hp} {p c : Addr} (h : OldOk old H) (k : Keep p H H') (P : Pen H' p c) : OldOk old H' := by
  intro a oa
  by_cases e : a = p
  · subst e
    obtain ⟨l, e2⟩ := P.at
    rw [e2]
    exact ⟨fun z => (nomatch z), fun xs z => (nomatch z)⟩
  · obtain ⟨n, t⟩ := h a oa
    cases hh : H a with
    | none => exact absurd hh n
    | some o =>
      rw [hh] at t
      rw [k a o hh e]
      exact ⟨fun z => (by cases z), t⟩
def sp_law_rule_parts : Sp := fun us H Q _ => ∃ (p c : Addr) (n : Int) (kl : Addr) (ls : List Addr) (ks : List (Int × Int)) (old : Addr → Prop), us = [.ref p, .int n, .ref kl] ∧ Pen H p c ∧ old p ∧ OldOk old H ∧ KAt H kl ls ks ∧ p ∉ kl :: ls ∧ KindsOk ks ∧ 1 ≤ n ∧ n ≤ 3 ∧
  ∀ L xs ds H', Keep p H H' → Pen H' p c → H' L = some (.lst xs) → Ods old H' xs ds → ds.length = 5 → (∀ d ∈ ds, PartD d) → Q (.ref L) H'
section
variable {P : Program} {w : World} {K : PySem.W.Frag} {mg : Str → Option Value} {base : Heap}
abbrev N_law_rule_parts : List Str := ["pen", "words", "kinds", "state", "target", "tests", "test", "sources", "parts", "one"]
theorem sc_law_rule_parts : FnScope N_law_rule_parts ["pen", "words", "kinds"] (defScope s_law_rule_parts) := ⟨rfl, rfl, rfl, by decide +kernel, rfl, by decide +kernel, by decide +kernel⟩
theorem G_law_rule_parts (T : Tx K mg) : FnG P w K mg base CX0 4 T.law_rule_parts.f T.law_rule_parts.fd ["pen", "words", "kinds"] sp_law_rule_parts := by
  refine okG T.law_rule_parts.F sc_law_rule_parts (fun vs H Q E h => ?_) (fun cdv A outer s H vs Q E gd hr h => ?_)
  · obtain ⟨p, c, n, kl, ls, ks, old, rfl, _⟩ := h
    rfl
  · obtain ⟨p, c, n, kl, ls, ks, old, rfl, hP, op, so, hK, np, kO, n1, n3, q⟩ := h
    refine ⟨_, 
      (pss_cons (ps_par (i := 3) (j := 4) rfl sc_law_rule_parts.nd rfl rfl (by decide) rfl rfl (pa_cons (pe_callG (G_law_draw T) gd (hr.mono (by decide)) rfl T.law_draw.g T.law_draw.F.kp T.law_draw.b .nil pass0 (pa_cons (pv 0) (pa_cons (pe_callB call_len_seq (by rfl) T.m_len PySem.boot_len (pa_cons (pv 2) pa_nil)) pa_nil))) (pa_cons (pe_callG (G_law_draw T) gd (hr.mono (by decide)) rfl T.law_draw.g T.law_draw.F.kp T.law_draw.b .nil pass0 (pa_cons (pv 0) (pa_cons (pe_callB call_len_seq (by rfl) T.m_len PySem.boot_len (pa_cons (pv 2) pa_nil)) pa_nil))) pa_nil)) rfl) -- state, target = (_law_draw(pen, len(kinds)), _law_draw(pen, len(kinds)))
      (pss_cons (ps_set (i := 5) sc_law_rule_parts.nd rfl (.inl rfl) (pe_op op_cat (pe_listRg rfl (by rfl) T.m_list (prg_1 (by rfl) T.m_range (pe_ix ix_list (pe_ix ix_list (pv 2) (pv 3) (fun _ _ => rfl)) pe_int (fun _ _ => rfl)))) (pe_lst (pa_cons pe_str pa_nil)))) -- tests = list(range(kinds[state][1])) + ['new']
      (pss_cons (ps_set (i := 6) sc_law_rule_parts.nd rfl (.inl rfl) (pe_ix ix_list (pv 5) (pe_callG (G_law_draw T) gd (hr.mono (by decide)) rfl T.law_draw.g T.law_draw.F.kp T.law_draw.b .nil pass0 (pa_cons (pv 0) (pa_cons (pe_callB call_len_seq (by rfl) T.m_len PySem.boot_len (pa_cons (pv 5) pa_nil)) pa_nil))) (fun _ _ => rfl))) -- test = tests[_law_draw(pen, len(tests))]
      (pss_cons (ps_set (i := 7) sc_law_rule_parts.nd rfl (.inl rfl) (pe_callG (G_law_some_sources T) gd (hr.mono (by decide)) rfl T.law_some_sources.g T.law_some_sources.F.kp T.law_some_sources.b .nil pass0 (pa_cons (pv 0) (pa_cons (pe_ix ix_list (pe_ix ix_list (pv 2) (pv 3) (fun _ _ => rfl)) pe_int (fun _ _ => rfl)) (pa_cons (pv 6) (pa_cons (pe_ix ix_list (pe_ix ix_list (pv 2) (pv 4) (fun _ _ => rfl)) pe_int (fun _ _ => rfl)) pa_nil)))))) -- sources = _law_some_sources(pen, kinds[state][1], test, kinds[target][1])
      (C8.pss_cut (ps_set (i := 8) sc_law_rule_parts.nd rfl (.inl rfl) (pe_lst (pa_cons (pv 3) (pa_cons (pe_callG (G_law_draw T) gd (hr.mono (by decide)) rfl T.law_draw.g T.law_draw.F.kp T.law_draw.b .nil pass0 (pa_cons (pv 0) (pa_cons (pv 1) pa_nil))) (pa_cons (pv 6) (pa_cons (pv 4) (pa_cons (pe_ifExp (pt_cmp (pc_notN (pv 7))) (pv 7) (pe_tup (pa_cons pe_int pa_nil))) pa_nil))))))) -- parts = [state, _law_draw(pen, words), test, target, sources if sources is not None else (0,)]
      (pss_one (ps_ret (pe_lc (own := [("one", 9)]) (g := gName 9) rfl sc_law_rule_parts.nd (pi_list (pv 8)) (blkOk_by (N := N_law_rule_parts) (sc := defScope s_law_rule_parts) (by decide +kernel)) (fun _ _ _ _ _ => (pg_name (i := 9) sc_law_rule_parts.nd rfl (.inl rfl))) (fun _ _ _ _ _ => pts_nil) (fun _ _ _ _ _ => (pe_callG (G_law_odd T) gd (hr.mono (by decide)) rfl T.law_odd.g T.law_odd.F.kp T.law_odd.b .nil pass0 (pa_cons (pv 0) (pa_cons (pv 9) pa_nil))))))) -- return [_law_odd(pen, one) for one in parts]
      ))))) , ?_⟩
    have hl : (ls.map V.ref).length = ks.length := by rw [List.length_map]; exact hK.len
    have l0 : (0 : Int) < ((ls.map V.ref).length : Int) := by rw [hl]; have := kO.len; omega
    have l1 : ((ls.map V.ref).length : Int) < 2 ^ 100 := by rw [hl]; have := kO.len; omega
    have nk : kl ≠ p := fun z => np (z ▸ List.mem_cons_self)
    have nls : ∀ a ∈ ls, a ≠ p := fun a m z => np (z ▸ List.mem_cons_of_mem _ m)
    have kst : ∀ {H1 H2 : Hp}, KAt H1 kl ls ks → Keep p H1 H2 → KAt H2 kl ls ks := fun h k => h.mono fun b m o e => k b o e (fun z => np (z ▸ m))
    refine ⟨.ref p, rfl, .ref kl, rfl, kl, _, rfl, .inl (SqL.of hK.at_), p, c, _, rfl, hP, l0, l1, fun s H1 s0 s1 k1 P1 => ?_⟩
    have K1 := kst hK k1
    refine ⟨.ref p, rfl, .ref kl, rfl, kl, _, rfl, .inl (SqL.of K1.at_), p, c, _, rfl, P1, l0, l1, fun g H2 g0 g1 k2 P2 => ?_⟩
    have K2 := kst K1 k2
    rw [hl] at s1 g1
    refine ⟨.int s, .int g, rfl, ?_⟩
    obtain ⟨la, va, aL, ma, hla⟩ := K2.held s0 s1
    obtain ⟨lb, vb, bL, mb, hlb⟩ := K2.held g0 g1
    obtain ⟨h0, h3⟩ := kO.held s0 s1
    obtain ⟨m0, m3⟩ := kO.held g0 g1
    generalize heldAt ks s = h at hla h0 h3
    generalize heldAt ks g = m at hlb m0 m3
    refine ⟨.ref kl, rfl, .int s, rfl, kl, _, s, .ref la, rfl, rfl, SqL.of K2.at_, aL, la, _, 1, .int h, rfl, rfl, SqL.of hla, rfl, h, rfl, RgOk.of_le (by decide) (by omega) (by decide) h0, fun l nl => ?_⟩
    refine ⟨by show 1 ≤ sizeLine; decide, fun f nf => ?_⟩
    have gl : (rgV 0 h).length ≤ 3 := by rw [rgV_length]; omega
    have hl4 : upd (upd H2 l (.lst (rgV 0 h))) f (.lst [.str "new"]) l = some (.lst (rgV 0 h)) := same_new nf _ _ upd_same
    refine ⟨l, f, _, _, rfl, rfl, hl4, upd_same, Nat.le_of_lt (small1000 (by show (rgV 0 h).length + 1 ≤ 1000; omega)), fun L nL => ?_⟩
    have s4 : Same H2 (upd (upd (upd H2 l (.lst (rgV 0 h))) f (.lst [.str "new"])) L (.lst (rgV 0 h ++ [.str "new"]))) := (same_new nl).trans ((same_new nf).trans (same_new nL))
    have P4 := P2.mono s4
    have hL4 : upd (upd (upd H2 l (.lst (rgV 0 h))) f (.lst [.str "new"])) L (.lst (rgV 0 h ++ [.str "new"])) L = some (.lst (testsV h)) := upd_same
    have nLp : L ≠ p := ne_at (P2.mono ((same_new nl).trans (same_new nf))).some' nL
    generalize upd (upd (upd H2 l (.lst (rgV 0 h))) f (.lst [.str "new"])) L (.lst (rgV 0 h ++ [.str "new"])) = H4 at s4 P4 hL4
    have k4 : Keep p H H4 := (k1.trans k2).trans (Keep.same s4)
    have K4 := kst K2 (Keep.same s4)
    have hla4 := s4 _ _ hla
    have hlb4 := s4 _ _ hlb
    -- test
    refine ⟨.ref L, rfl, .ref p, rfl, .ref L, rfl, L, _, rfl, .inl (SqL.of hL4), p, c, _, rfl, P4, tests_pos, tests_big h3, fun d H5 d0 d1 k5 P5 => ?_⟩
    obtain ⟨t, et, ot⟩ := tests_at h0 d0 d1
    refine ⟨L, _, d, kV t, rfl, rfl, SqL.of (k5 _ _ hL4 nLp), et, ?_⟩
    have K5 := kst K4 k5
    have hla5 := k5 _ _ hla4 (nls _ ma)
    have hlb5 := k5 _ _ hlb4 (nls _ mb)
    -- sources
    refine ⟨.ref p, rfl, .ref kl, rfl, .int s, rfl, kl, _, s, .ref la, rfl, rfl, SqL.of K5.at_, aL, la, _, 1, .int h, rfl, rfl, SqL.of hla5, rfl, kV t, rfl, .ref kl, rfl, .int g, rfl, kl, _, g, .ref lb, rfl, rfl, SqL.of K5.at_, bL, lb, _, 1, .int m, rfl, rfl, SqL.of hlb5, rfl, ?_⟩
    refine ⟨p, c, h, m, t, rfl, P5, h0, h3, m0, m3, ot, fun v H6 k6 P6 hv => ?_⟩
    have k06 : Keep p H H6 := (k4.trans k5).trans k6
    have O6 := so.keep k06 P6
    -- parts
    refine ⟨fun σ H' => ∃ (M : Addr) (xs : List V) (ds : List PyData), σ = [some (.ref p), some (.int n), some (.ref kl), some (.int s), some (.int g), some (.ref L), some (kV t), some v, some (.ref M), none] ∧ Keep p H H' ∧ Pen H' p c ∧ M ≠ p ∧ H' M = some (.lst xs) ∧ Ods old H' xs ds ∧ ds.length = 5 ∧ ∀ d ∈ ds, PartD d, ?_, ?_⟩
    · have hh := kO.len
      have ps : PartD (.int s) := .inr (.inl ⟨s, rfl, s0, by omega⟩)
      have pg : PartD (.int g) := .inr (.inl ⟨g, rfl, g0, by omega⟩)
      have pt := test_part h3 ot
      refine ⟨.int s, rfl, .ref p, rfl, .int n, rfl, p, c, n, rfl, P6, by omega, by omega, fun wd H7 w0 w1 k7 P7 => ⟨kV t, rfl, .int g, rfl, v, rfl, ?_⟩⟩
      have k07 := k06.trans k7
      have O7 := so.keep k07 P7
      have pw : PartD (.int wd) := .inr (.inl ⟨wd, rfl, w0, by omega⟩)
      rcases hv with rfl | ⟨a, kk, rfl, ha, ok⟩
      · refine ⟨false, rfl, iteF ⟨by show 1 ≤ sizeLine; decide, fun z nz => ⟨by show 5 ≤ sizeLine; decide, fun M nM => ?_⟩⟩⟩
        have s8 := (same_new (o := .tup [.int 0]) nz).trans (same_new (o := .lst [.int s, .int wd, kV t, .int g, .ref z]) nM)
        have nMp := ne_at (P7.mono (same_new nz)).some' nM
        refine ⟨M, _, [.int s, .int wd, kD t, .int g, .tuple [.int 0]], rfl, k07.trans (Keep.same s8), P7.mono s8, nMp, upd_same, fun a oa => .cons (.int _) (.cons (.int _) (.cons (ldK t) (.cons (.int _) (.cons (.tup (ne_at (O7 a oa).1 nz) (same_new nM _ _ upd_same) (.cons (.int _) .nil)) .nil)))), rfl, fun d hd => ?_⟩
        simp only [List.mem_cons, List.not_mem_nil, or_false] at hd
        rcases hd with rfl | rfl | rfl | rfl | rfl
        · exact ps
        · exact pw
        · exact pt
        · exact pg
        · exact .inr (.inr ⟨[.inl 0], rfl, by decide, fun k hk => .inl ⟨0, List.mem_singleton.mp hk, by decide, by decide⟩⟩)
      · refine ⟨true, rfl, iteT ⟨.ref a, rfl, by show 5 ≤ sizeLine; decide, fun M nM => ?_⟩⟩
        have s8 := (same_new (o := .lst [.int s, .int wd, kV t, .int g, .ref a]) nM)
        have nMp := ne_at P7.some' nM
        have ha7 := k7 _ _ ha (fun z => (O6 p op).2 _ (z ▸ ha))
        refine ⟨M, _, [.int s, .int wd, kD t, .int g, .tuple (kk.map kD)], rfl, k07.trans (Keep.same s8), P7.mono s8, nMp, upd_same, fun b ob => .cons (.int _) (.cons (.int _) (.cons (ldK t) (.cons (.int _) (.cons (.tup (fun z => (O7 b ob).2 _ (z ▸ ha7)) (s8 _ _ ha7) ldKs) .nil)))), rfl, fun d hd => ?_⟩
        simp only [List.mem_cons, List.not_mem_nil, or_false] at hd
        rcases hd with rfl | rfl | rfl | rfl | rfl
        · exact ps
        · exact pw
        · exact pt
        · exact pg
        · exact srcs_part h3 m3 ok
    clear P6 k6 O6 k06 hv
    rintro σ H8 ⟨M, xs, ds, rfl, k8, P8, nM, hM, od, l5, pd⟩
    have O8 := so.keep k8 P8
    refine ⟨.ref M, rfl, M, rfl, ⟨_, SqL.of hM⟩, fun D nD => ?_⟩
    have lx : xs.length = 5 := by rw [← l5]; exact (od p op).length
    have Dp := ne_at P8.some' nD
    refine lc_list (K := K) (a := M) (xs := xs) (fun i H' => ∃ ys es, H' D = some (.lst ys) ∧ Ods (fun a => old a ∨ a = D) H' ys es ∧ ys.length = i ∧ es.length = i ∧ (∀ e ∈ es, PartD e) ∧ Keep p H8 H' ∧ Pen H' p c) ?_ ?_ ?_ ?_
    · exact ⟨[], [], upd_same, fun _ _ => .nil, rfl, rfl, fun _ z => (by cases z), Keep.same (same_new nD), P8.mono (same_new nD)⟩
    · rintro i H' _ ⟨ys, es, hD, oy, ly, le, me, kk, PP⟩
      exact SqL.of (kk _ _ hM nM)
    · rintro i y H' hi ⟨ys, es, hD, oy, ly, le, me, kk, PP⟩
      have hi5 : i < 5 := lx ▸ (List.getElem?_eq_some_iff.mp hi).1
      obtain ⟨d, ed, _⟩ := (od p op).get hi
      have yd0 : Od old H8 y d := fun a oa => by
        obtain ⟨d2, ed2, l2⟩ := (od a oa).get hi
        rw [ed] at ed2
        cases ed2
        exact l2
      have yd : Od (fun a => old a ∨ a = D) H' y d := Od.keep (p0 := p) (H := H8) (fun a oa => by
        rcases oa with oa | rfl
        · exact yd0 a oa
        · exact LD.fresh nD d (yd0 p op)) (.inl op) kk
      have O9 := O8.keep kk PP
      refine ⟨rfl, .ref p, rfl, y, rfl, p, c, y, d, fun a => old a ∨ a = D, rfl, PP, .inl op, fun a oa => (by rcases oa with oa | rfl; exact (O9 a oa).1; rw [hD]; exact fun z => nomatch z), yd, fun v' d' H9 k9 P9 hd' od' => ?_⟩
      refine ⟨ys, k9 _ _ hD Dp, small1000 (by omega), ys ++ [v'], es ++ [d'], upd_same, ?_, by rw [List.length_append, ly]; rfl, by rw [List.length_append, le]; rfl, fun e he => ?_, fun b o eb nb => ?_, ?_⟩
      · have t : ∀ cc o, H9 cc = some o → ¬ (old cc ∨ cc = D) → (∀ ps, o ≠ .tbl ps) → upd H9 D (.lst (ys ++ [v'])) cc = some o := fun cc o e nc _ => by
          have : cc ≠ D := fun z => nc (.inr z)
          rw [upd_ne this]
          exact e
        exact fun a oa => (ods_mono (p0 := p) (.inl op) t _ (Ods.keep oy (.inl op) k9) a oa).app (.cons (od_mono (p0 := p) (.inl op) t _ od' a oa) .nil)
      · rcases List.mem_append.mp he with he | he
        · exact me e he
        · rw [List.mem_singleton.mp he]
          rcases hd' with rfl | z
          · exact pd _ (List.mem_of_getElem? ed)
          · exact .inl z
      · rw [upd_ne (ne_of_none eb nD)]
        exact k9 _ _ (kk _ _ eb nb) nb
      · exact P9.put Dp (P8.free nD).2.symm
    · rintro H' ⟨ys, es, hD, oy, ly, le, me, kk, PP⟩
      exact q D ys es H' (k8.trans kk) PP hD (fun a oa => oy a (.inl oa)) (by rw [le, lx]) me
end

/-! ### the sources of a rule, as the law judges them -/
/-- a tuple among such data holds keys -/
def Parted (d : PyData) : Prop := ∀ ds, d = .tuple ds → ∃ ks : List Key, ds = ks.map kD ∧ ks.length ≤ 3
theorem lds_keys {p : Addr} {H : Hp} : ∀ {ks : List Key} {xs : List V}, LDs p H xs (ks.map kD) → xs = ks.map kV
  | [], _, h => by cases h; rfl
  | k :: r, _, h => by
    cases h with
    | cons a b =>
      rw [lds_keys b]
      cases k with
      | inl n => cases a; rfl
      | inr s => cases a; rfl
theorem tds_keys2 {H : Hp} : ∀ {ks : List Key} {xs : List V}, TDs H xs (ks.map kD) → xs = ks.map kV
  | [], _, h => by cases h; rfl
  | k :: r, _, h => by
    cases h with
    | cons a b =>
      rw [tds_keys2 b]
      cases k with
      | inl n => cases a; rfl
      | inr s => cases a; rfl
theorem flat_kV (k : Key) : flatV (kV k) = true := by cases k <;> rfl
theorem flats_kV (ks : List Key) : (ks.map kV).all flatV = true := by
  rw [List.all_map]
  exact List.all_eq_true.mpr fun k _ => flat_kV k
theorem inV_keys {k : Key} {ks : List Key} : inV (kV k) (ks.map kV) = true ↔ k ∈ ks := by
  unfold inV
  rw [List.any_eq_true]
  constructor
  · rintro ⟨y, hy, e⟩
    obtain ⟨z, hz, rfl⟩ := List.mem_map.mp hy
    have : z = k := by
      cases z <;> cases k <;> simp_all [eqV, kV]
    exact this ▸ hz
  · intro hk
    refine ⟨kV k, List.mem_map.mpr ⟨k, hk, rfl⟩, ?_⟩
    cases k <;> simp [eqV, kV]
theorem nodup_snoc {ks : List Key} {i : Nat} (hi : i < ks.length) : (ks.take (i + 1)).Nodup ↔ (ks.take i).Nodup ∧ ks[i] ∉ ks.take i := by
  rw [List.take_succ_eq_append_getElem hi, List.nodup_append]
  constructor
  · rintro ⟨a, _, b⟩
    exact ⟨a, fun m => b _ m _ (List.mem_singleton.mpr rfl) rfl⟩
  · rintro ⟨a, b⟩
    exact ⟨a, by simp, fun x hx y hy => by rw [List.mem_singleton.mp hy]; exact fun z => b (z ▸ hx)⟩
/-- whether the first sources are good -/
def FitTo (h : Int) (t : Key) (ks : List Key) (i : Nat) : Prop := (∀ k ∈ ks.take i, isSrc (kD k) h t = true) ∧ (ks.take i).Nodup
theorem fit_all {d : PyData} {ks : List Key} {wn h : Int} {t : Key} (ed : d = .tuple (ks.map kD)) (l : (ks.length : Int) = wn) : (∃ kk, AreSrc d wn h t kk) ↔ FitTo h t ks ks.length := by
  unfold FitTo
  rw [List.take_length]
  constructor
  · rintro ⟨kk, e, l2, a, n⟩
    rw [ed] at e
    have := map_kD_inj (PyData.tuple.inj e)
    subst this
    exact ⟨a, n⟩
  · rintro ⟨a, n⟩
    exact ⟨ks, ed, l, a, n⟩
theorem fit_no {h : Int} {t : Key} {ks : List Key} {i : Nat} (hi : i < ks.length) (e : isSrc (kD ks[i]) h t = false ∨ ks[i] ∈ ks.take i) : ¬ FitTo h t ks ks.length := by
  rintro ⟨a, n⟩
  rw [List.take_length] at a n
  rcases e with e | e
  · have := a _ (List.getElem_mem hi)
    rw [e] at this
    cases this
  · have n2 : (ks.take (i + 1)).Nodup := List.Nodup.sublist (List.take_sublist _ _) n
    exact ((nodup_snoc hi).mp n2).2 e
def isTextD : PyData → Bool
  | .str _ => true
  | _ => false
theorem kit_str (K : PySem.W.Frag) (d : PyData) : PySem.W.kitOne K (.type (tyN d)) (.type "str") = some (isTextD d) := by
  cases d <;> first | rfl | decide +kernel | kernel_rfl
def sp_law_sources_fit : Sp := fun us H Q _ => ∃ (kl : Addr) (ls : List Addr) (ks : List (Int × Int)) (s g : Int) (t : Key) (p : Addr) (v : V) (d : PyData), us = [.ref kl, .int s, kV t, .int g, v] ∧ KAt H kl ls ks ∧ 0 ≤ s ∧ s < ks.length ∧ 0 ≤ g ∧ g < ks.length ∧ LD p H v d ∧ Parted d ∧
  ∀ (b : Bool) H', Same H H' → (b = true ↔ ∃ kk, AreSrc d (heldAt ks g) (heldAt ks s) t kk) → Q (.bl b) H'
section
variable {P : Program} {w : World} {K : PySem.W.Frag} {mg : Str → Option Value} {base : Heap}
abbrev N_law_sources_fit : List Str := ["kinds", "state", "test", "target", "sources", "at", "source"]
theorem sc_law_sources_fit : FnScope N_law_sources_fit ["kinds", "state", "test", "target", "sources"] (defScope s_law_sources_fit) := ⟨rfl, rfl, rfl, by decide +kernel, rfl, by decide +kernel, by decide +kernel⟩
theorem G_law_sources_fit (T : Tx K mg) : FnG P w K mg base CX0 2 T.law_sources_fit.f T.law_sources_fit.fd ["kinds", "state", "test", "target", "sources"] sp_law_sources_fit := by
  refine okG T.law_sources_fit.F sc_law_sources_fit (fun vs H Q E h => ?_) (fun cdv A outer s H vs Q E gd hr h => ?_)
  · obtain ⟨kl, ls, ks, s, g, t, p, v, d, rfl, _⟩ := h
    rfl
  · obtain ⟨kl, ls, ks, s, g, t, p, v, d, rfl, hK, s0, s1, g0, g1, hv, pd, q⟩ := h
    refine ⟨_, 
      (pss_cons (ps_if (PW.pt (pw_or (pt_not (pt_val (pe_callB (call_isL kit_tup) (by rfl) T.m_isinstance (by decide +kernel) (pa_cons (pv 4) (pa_cons (pe_bltn (v := .ty "tuple") (by rfl) T.m_tuple (by decide +kernel) (show RelV (.ty "tuple") (.type "tuple") from rfl)) pa_nil))))) (pw_or1 (pt_cmpR op_ne (pe_callB call_len_seq (by rfl) T.m_len PySem.boot_len (pa_cons (pv 4) pa_nil)) (pe_ix ix_list (pe_ix ix_list (pv 0) (pv 3) (fun _ _ => rfl)) pe_int (fun _ _ => rfl)) (nomark _))))) 
        (pss_one (ps_ret pe_bl)) -- return False
         pss_nil) -- if not isinstance(sources, tuple) or len(sources) != kinds[target][1]:
      (pss_cons (ps_for PassesOwn.never rfl (pi_enumT (by rfl) T.m_enumerate (pa_cons (pv 4) pa_nil)) (pg_tup rfl (pgs_cons (pg_name (i := 5) sc_law_sources_fit.nd rfl (.inl rfl)) (pgs_cons (pg_name (i := 6) sc_law_sources_fit.nd rfl (.inl rfl)) pgs_nil))) 
        (C8.pss_cut (ps_if (pt_val (pe_callB (call_isL kit_str) (by rfl) T.m_isinstance (by decide +kernel) (pa_cons (pv 6) (pa_cons (pe_bltn (v := .ty "str") (by rfl) T.m_str (by decide +kernel) (show RelV (.ty "str") (.type "str") from rfl)) pa_nil)))) 
          (pss_one (ps_if (PW.pt (pw_or (pt_cmpR op_ne (pv 6) pe_str (nomark _)) (pw_or1 (pt_cmpR op_ne (pv 2) pe_str (nomark _))))) 
            (pss_one (ps_ret pe_bl)) -- return False
             pss_nil)) -- if source != 'value' or test != 'new':
           
          (pss_one (ps_if (pt_not (pt_val (pe_callG (G_law_in T) gd (hr.mono (by decide)) rfl T.law_in.g T.law_in.F.kp T.law_in.b .nil pass0 (pa_cons (pv 6) (pa_cons (pe_op op_sub (pe_ix ix_list (pe_ix ix_list (pv 0) (pv 1) (fun _ _ => rfl)) pe_int (fun _ _ => rfl)) pe_int) pa_nil))))) 
            (pss_one (ps_ret pe_bl)) -- return False
             pss_nil)) -- if not _law_in(source, kinds[state][1] - 1):
          ) -- if isinstance(source, str):
        (pss_one (ps_if (pt_cmpR op_in_seq (pv 6) (pe_slice sl_D (pv 4) po_none (po_some (pv 5))) rfl) 
          (pss_one (ps_ret pe_bl)) -- return False
           pss_nil)) -- if source in sources[:at]:
        )) -- for at, source in enumerate(sources):
      (pss_one (ps_ret pe_bl)) -- return True
      )) , ?_⟩
    obtain ⟨la, va, aL, ma, hla⟩ := hK.held s0 s1
    obtain ⟨lb, vb, bL, mb, hlb⟩ := hK.held g0 g1
    generalize heldAt ks s = hh at hla q
    generalize heldAt ks g = wn at hlb q
    refine ⟨v, rfl, p, v, d, rfl, hv, _, rfl, ?_⟩
    cases ht : isTupD d with
    | false =>
      refine q false H (Same.refl H) ⟨fun z => Bool.noConfusion z, ?_⟩
      rintro ⟨kk, e, _⟩
      rw [e] at ht
      cases ht
    | true =>
      obtain ⟨ds, rfl⟩ : ∃ ds, d = .tuple ds := by cases d <;> first | exact ⟨_, rfl⟩ | cases ht
      obtain ⟨kk, rfl, k3⟩ := pd ds rfl
      cases hv with
      | @tup a xs _ np ha hx =>
        have ex := lds_keys hx
        subst ex
        refine ⟨.ref a, rfl, a, _, rfl, .inr (SqT.of ha), .ref kl, rfl, .int g, rfl, kl, _, g, .ref lb, rfl, rfl, SqL.of hK.at_, bL, lb, _, 1, .int wn, rfl, rfl, SqL.of hlb, rfl, rfl, _, rfl, ?_⟩
        rw [List.length_map]
        by_cases el : (kk.length : Int) = wn
        · rw [show (!decide (V.int ((kk.length : Nat) : Int) = V.int wn)) = false by rw [el]; simp]
          refine ⟨.ref a, rfl, a, _, rfl, SqT.of ha, ?_⟩
          refine for_it (walk_enumT (xs := kk.map kV)) (fun i σ H' => ∃ y5 y6, σ = [some (.ref kl), some (.int s), some (kV t), some (.int g), some (.ref a), y5, y6] ∧ Same H H' ∧ FitTo hh t kk i) ?_ ?_ ?_ ?_
          · exact ⟨none, none, rfl, Same.refl H, (fun k hk => by cases hk), List.nodup_nil⟩
          · rintro i σ H' hi ⟨_, _, rfl, sm, _⟩
            exact SqT.of (sm _ _ ha)
          · rintro i y σ H6 H7 hi ⟨y5, y6, rfl, sm, ft⟩ ⟨TT, x1, x2, rfl, nT, rfl, e1, e2⟩
            cases e1
            have hi' : i < kk.length := by rw [List.length_map] at hi; exact hi
            have ex : x2 = kV kk[i] := by
              have e2 : (kk.map kV)[i]? = some x2 := e2
              rw [List.getElem?_map, List.getElem?_eq_getElem hi'] at e2
              exact (Option.some.inj e2).symm
            subst ex
            have s7 : Same H6 (upd H6 TT (.tup [.int i, kV kk[i]])) := same_new nT
            have sm7 := sm.trans s7
            refine ⟨TT, _, rfl, SqT.of upd_same, rfl, .int i, [kV kk[i]], rfl, kV kk[i], [], rfl, rfl, ?_⟩
            generalize upd H6 TT (.tup [.int i, kV kk[i]]) = H7 at s7 sm7
            have no : (isSrc (kD kk[i]) hh t = false ∨ kk[i] ∈ kk.take i) → ∀ H', Same H H' → Q (.bl false) H' := fun z H' z2 => q false H' z2 ⟨fun w => Bool.noConfusion w, fun w => absurd ((fit_all rfl el).mp w) (fit_no hi' z)⟩
            refine ⟨fun σ H' => σ = [some (.ref kl), some (.int s), some (kV t), some (.int g), some (.ref a), some (.int i), some (kV kk[i])] ∧ H' = H7 ∧ isSrc (kD kk[i]) hh t = true, ?_, ?_⟩
            · refine ⟨kV kk[i], rfl, p, kV kk[i], kD kk[i], rfl, ldK _, _, rfl, ?_⟩
              cases ek : kk[i] with
              | inr x =>
                rw [ek] at no
                refine ⟨.str x, rfl, rfl, _, rfl, ?_⟩
                by_cases exv : x = ("value" : Str)
                · subst exv
                  rw [show (!decide (V.str ("value" : Str) = V.str "value")) = false by simp]
                  refine iteF ⟨kV t, rfl, by cases t <;> rfl, _, rfl, ?_⟩
                  by_cases et : t = Sum.inr ("new" : Str)
                  · subst et
                    rw [show (!decide (kV (Sum.inr ("new" : Str)) = V.str "new")) = false by simp [kV]]
                    exact ⟨rfl, rfl, rfl⟩
                  · rw [show (!decide (kV t = V.str "new")) = true by cases t <;> simp_all [kV]]
                    refine no (.inl ?_) H7 sm7
                    show (if isStrD (.str "value") "value" = true then isStrD (kD t) "new" else _) = false
                    rw [if_pos (by decide)]
                    cases t with
                    | inl n => rfl
                    | inr z =>
                      show decide (z = "new") = false
                      exact decide_eq_false fun w => et (w ▸ rfl)
                · rw [show (!decide (V.str x = V.str "value")) = true by simp [exv]]
                  refine iteT (no (.inl ?_) H7 sm7)
                  show (if isStrD (.str x) "value" = true then isStrD (kD t) "new" else btw (.str x) 0 (hh - 1)) = false
                  rw [if_neg (by show ¬ decide (x = "value") = true; simp [exv])]
                  rfl
              | inl n =>
                rw [ek] at no
                refine ⟨.int n, rfl, .ref kl, rfl, .int s, rfl, kl, _, s, .ref la, rfl, rfl, SqL.of (sm7 _ _ hK.at_), aL, la, _, 1, .int hh, rfl, rfl, SqL.of (sm7 _ _ hla), rfl, hh, 1, rfl, rfl, p, .int n, .int n, _, rfl, .int n, _, rfl, ?_⟩
                have es : isSrc (kD (.inl n)) hh t = btw (.int n) 0 (hh - 1) := rfl
                cases hb : btw (.int n) 0 (hh - 1) with
                | false => exact no (.inl (es.trans hb)) H7 sm7
                | true => exact ⟨rfl, rfl, es.trans hb⟩
            · rintro σ H8 ⟨rfl, rfl, src⟩
              refine ⟨kV kk[i], rfl, .ref a, rfl, .int (i : Int), rfl, (i : Int), rfl, kk.map kD, .tup (sm7 _ _ ha) TDs.keys, fun pp H9 s9 tp => ?_⟩
              rw [cutA_to _ (by rw [List.length_map]; omega), ← List.map_take] at tp
              cases tp with
              | tup hpp hxx =>
                have exx := tds_keys2 hxx
                subst exx
                refine ⟨pp, _, rfl, .inr (SqT.of hpp), flat_kV _, flats_kV _, _, rfl, ?_⟩
                by_cases hin : kk[i] ∈ kk.take i
                · rw [show (if false = true then !inV (kV kk[i]) ((kk.take i).map kV) else inV (kV kk[i]) ((kk.take i).map kV)) = true from inV_keys.mpr hin]
                  exact no (.inr hin) H9 (sm7.trans s9)
                · rw [show (if false = true then !inV (kV kk[i]) ((kk.take i).map kV) else inV (kV kk[i]) ((kk.take i).map kV)) = false from Bool.eq_false_iff.mpr fun z => hin (inV_keys.mp z)]
                  refine ⟨_, _, rfl, sm7.trans s9, fun k hk => ?_, (nodup_snoc hi').mpr ⟨ft.2, hin⟩⟩
                  rw [List.take_succ_eq_append_getElem hi'] at hk
                  rcases List.mem_append.mp hk with hk | hk
                  · exact ft.1 k hk
                  · rw [List.mem_singleton.mp hk]
                    exact src
          · rintro σ H' ⟨_, _, rfl, sm, ft⟩
            rw [List.length_map] at ft
            exact q true H' sm ⟨fun _ => (fit_all rfl el).mpr ft, fun _ => rfl⟩
        · rw [show (!decide (V.int ((kk.length : Nat) : Int) = V.int wn)) = true by simp [el]]
          refine q false H (Same.refl H) ⟨fun z => Bool.noConfusion z, ?_⟩
          rintro ⟨k2, e, l, _⟩
          have := map_kD_inj (PyData.tuple.inj e)
          subst this
          exact absurd l el
end

/-! ### what the law awaits: rules -/
/-- what add_rule comes to: what is told, and the rules behind it -/
inductive RuleDue (n : Int) (ks : List (Int × Int)) (R : List PRule) (d1 d2 d3 d4 d5 : PyData) : PyData → List PRule → Prop
  | state : btw d1 0 ((ks.length : Int) - 1) = false → RuleDue n ks R d1 d2 d3 d4 d5 (tell2 "state" (.str d1.shown)) R
  | target : btw d1 0 ((ks.length : Int) - 1) = true → btw d4 0 ((ks.length : Int) - 1) = false → RuleDue n ks R d1 d2 d3 d4 d5 (tell2 "state" (.str d4.shown)) R
  | word : btw d1 0 ((ks.length : Int) - 1) = true → btw d4 0 ((ks.length : Int) - 1) = true → btw d2 0 (n - 1) = false → RuleDue n ks R d1 d2 d3 d4 d5 (tell2 "word" (.str d2.shown)) R
  | test (s w g : Int) : d1 = .int s → d2 = .int w → d4 = .int g → btw d1 0 ((ks.length : Int) - 1) = true → btw d4 0 ((ks.length : Int) - 1) = true → btw d2 0 (n - 1) = true → isTest d3 (heldAt ks s) = false →
      RuleDue n ks R d1 d2 d3 d4 d5 (tell2 "test" (.str d3.shown)) R
  | sources (s w g : Int) (t : Key) : d1 = .int s → d2 = .int w → d4 = .int g → btw d1 0 ((ks.length : Int) - 1) = true → btw d4 0 ((ks.length : Int) - 1) = true → btw d2 0 (n - 1) = true → d3 = kD t → isTest d3 (heldAt ks s) = true →
      (¬ ∃ kk, AreSrc d5 (heldAt ks g) (heldAt ks s) t kk) → RuleDue n ks R d1 d2 d3 d4 d5 (tell2 "sources" (.str d5.shown)) R
  | there (s w g : Int) (t : Key) (kk : List Key) : d1 = .int s → d2 = .int w → d4 = .int g → btw d1 0 ((ks.length : Int) - 1) = true → btw d4 0 ((ks.length : Int) - 1) = true → btw d2 0 (n - 1) = true → d3 = kD t → isTest d3 (heldAt ks s) = true →
      AreSrc d5 (heldAt ks g) (heldAt ks s) t kk → [Sum.inl s, Sum.inl w, t] ∈ R.map (·.1) → RuleDue n ks R d1 d2 d3 d4 d5 (tell2 "exists" (.tuple [.int s, .int w, kD t])) R
  | done (s w g : Int) (t : Key) (kk : List Key) : d1 = .int s → d2 = .int w → d4 = .int g → btw d1 0 ((ks.length : Int) - 1) = true → btw d4 0 ((ks.length : Int) - 1) = true → btw d2 0 (n - 1) = true → d3 = kD t → isTest d3 (heldAt ks s) = true →
      AreSrc d5 (heldAt ks g) (heldAt ks s) t kk → [Sum.inl s, Sum.inl w, t] ∉ R.map (·.1) → RuleDue n ks R d1 d2 d3 d4 d5 (tell2 "done" .none) (R ++ [([Sum.inl s, Sum.inl w, t], (g, kk))])
theorem bt_no {b : Bool} (h1 : b = true) (h2 : b = false) {C : Prop} : C := by
  rw [h1] at h2
  cases h2
theorem RuleDue.eq {n : Int} {ks : List (Int × Int)} {R : List PRule} {d1 d2 d3 d4 d5 D1 D2 : PyData} {R1 R2 : List PRule} (a : RuleDue n ks R d1 d2 d3 d4 d5 D1 R1) (b : RuleDue n ks R d1 d2 d3 d4 d5 D2 R2) : D1 = D2 ∧ R1 = R2 := by
  cases a with
  | state a1 =>
    cases b with
    | state => exact ⟨rfl, rfl⟩
    | target b1 | word b1 | test _ _ _ _ _ _ b1 | sources _ _ _ _ _ _ _ b1 | there _ _ _ _ _ _ _ _ b1 | done _ _ _ _ _ _ _ _ b1 => exact bt_no b1 a1
  | target a1 a2 =>
    cases b with
    | state b1 => exact bt_no a1 b1
    | target => exact ⟨rfl, rfl⟩
    | word b1 b2 | test _ _ _ _ _ _ b1 b2 | sources _ _ _ _ _ _ _ b1 b2 | there _ _ _ _ _ _ _ _ b1 b2 | done _ _ _ _ _ _ _ _ b1 b2 => exact bt_no b2 a2
  | word a1 a2 a3 =>
    cases b with
    | state b1 => exact bt_no a1 b1
    | target b1 b2 => exact bt_no a2 b2
    | word => exact ⟨rfl, rfl⟩
    | test _ _ _ _ _ _ b1 b2 b3 | sources _ _ _ _ _ _ _ b1 b2 b3 | there _ _ _ _ _ _ _ _ b1 b2 b3 | done _ _ _ _ _ _ _ _ b1 b2 b3 => exact bt_no b3 a3
  | test s w g e1 e2 e4 a1 a2 a3 a4 =>
    cases b with
    | state b1 => exact bt_no a1 b1
    | target b1 b2 => exact bt_no a2 b2
    | word b1 b2 b3 => exact bt_no a3 b3
    | test => exact ⟨rfl, rfl⟩
    | sources s' _ _ _ f1 f2 f4 b1 b2 b3 b5 b4 | there s' _ _ _ _ f1 f2 f4 b1 b2 b3 b5 b4 | done s' _ _ _ _ f1 f2 f4 b1 b2 b3 b5 b4 =>
      have es := PyData.int.inj (e1.symm.trans f1)
      rw [← es] at b4
      exact bt_no b4 a4
  | sources s w g t e1 e2 e4 a1 a2 a3 a5 a4 a6 =>
    cases b with
    | state b1 => exact bt_no a1 b1
    | target b1 b2 => exact bt_no a2 b2
    | word b1 b2 b3 => exact bt_no a3 b3
    | test s' _ _ f1 f2 f4 b1 b2 b3 b4 =>
      have es := PyData.int.inj (e1.symm.trans f1)
      rw [← es] at b4
      exact bt_no a4 b4
    | sources => exact ⟨rfl, rfl⟩
    | there s' w' g' t' kk f1 f2 f4 b1 b2 b3 b5 b4 b6 | done s' w' g' t' kk f1 f2 f4 b1 b2 b3 b5 b4 b6 =>
      have es := PyData.int.inj (e1.symm.trans f1)
      have eg := PyData.int.inj (e4.symm.trans f4)
      have et := kD_inj (a5.symm.trans b5)
      subst es eg et
      exact absurd ⟨_, b6⟩ a6
  | there s w g t kk e1 e2 e4 a1 a2 a3 a5 a4 a6 a7 =>
    cases b with
    | state b1 => exact bt_no a1 b1
    | target b1 b2 => exact bt_no a2 b2
    | word b1 b2 b3 => exact bt_no a3 b3
    | test s' _ _ f1 f2 f4 b1 b2 b3 b4 =>
      have es := PyData.int.inj (e1.symm.trans f1)
      rw [← es] at b4
      exact bt_no a4 b4
    | sources s' w' g' t' f1 f2 f4 b1 b2 b3 b5 b4 b6 =>
      have es := PyData.int.inj (e1.symm.trans f1)
      have eg := PyData.int.inj (e4.symm.trans f4)
      have et := kD_inj (a5.symm.trans b5)
      subst es eg et
      exact absurd ⟨_, a6⟩ b6
    | there s' w' g' t' kk f1 f2 f4 b1 b2 b3 b5 b4 b6 b7 =>
      have es := PyData.int.inj (e1.symm.trans f1)
      have ew := PyData.int.inj (e2.symm.trans f2)
      have et := kD_inj (a5.symm.trans b5)
      subst es ew et
      exact ⟨rfl, rfl⟩
    | done s' w' g' t' kk f1 f2 f4 b1 b2 b3 b5 b4 b6 b7 =>
      have es := PyData.int.inj (e1.symm.trans f1)
      have ew := PyData.int.inj (e2.symm.trans f2)
      have et := kD_inj (a5.symm.trans b5)
      subst es ew et
      exact absurd a7 b7
  | done s w g t kk e1 e2 e4 a1 a2 a3 a5 a4 a6 a7 =>
    cases b with
    | state b1 => exact bt_no a1 b1
    | target b1 b2 => exact bt_no a2 b2
    | word b1 b2 b3 => exact bt_no a3 b3
    | test s' _ _ f1 f2 f4 b1 b2 b3 b4 =>
      have es := PyData.int.inj (e1.symm.trans f1)
      rw [← es] at b4
      exact bt_no a4 b4
    | sources s' w' g' t' f1 f2 f4 b1 b2 b3 b5 b4 b6 =>
      have es := PyData.int.inj (e1.symm.trans f1)
      have eg := PyData.int.inj (e4.symm.trans f4)
      have et := kD_inj (a5.symm.trans b5)
      subst es eg et
      exact absurd ⟨_, a6⟩ b6
    | there s' w' g' t' kk f1 f2 f4 b1 b2 b3 b5 b4 b6 b7 =>
      have es := PyData.int.inj (e1.symm.trans f1)
      have ew := PyData.int.inj (e2.symm.trans f2)
      have et := kD_inj (a5.symm.trans b5)
      subst es ew et
      exact absurd b7 a7
    | done s' w' g' t' kk2 f1 f2 f4 b1 b2 b3 b5 b4 b6 b7 =>
      have es := PyData.int.inj (e1.symm.trans f1)
      have ew := PyData.int.inj (e2.symm.trans f2)
      have eg := PyData.int.inj (e4.symm.trans f4)
      have et := kD_inj (a5.symm.trans b5)
      have ek := map_kD_inj (PyData.tuple.inj (a6.d.symm.trans b6.d))
      subst es ew eg et ek
      exact ⟨rfl, rfl⟩
def sp_law_rule_due : Sp := fun us H Q _ => ∃ (n : Int) (kl : Addr) (ls : List Addr) (ks : List (Int × Int)) (rd : Addr) (R : List PRule) (a p : Addr) (v1 v2 v3 v4 v5 : V) (d1 d2 d3 d4 d5 : PyData), us = [.int n, .ref kl, .ref rd, .ref a] ∧ H a = some (.tup [v1, v2, v3, v4, v5]) ∧
  KAt H kl ls ks ∧ (∃ kvs, H rd = some (.dT kvs) ∧ KvD H kvs (rowsOf R)) ∧ R.length < 1000 ∧ LD p H v1 d1 ∧ LD p H v2 d2 ∧ LD p H v3 d3 ∧ LD p H v4 d4 ∧ LD p H v5 d5 ∧ Fine d1 ∧ Fine d2 ∧ Fine d3 ∧ Fine d4 ∧ Fine d5 ∧ Parted d5 ∧
  ∀ D R', RuleDue n ks R d1 d2 d3 d4 d5 D R' → ∀ v H', (∀ c o, H c = some o → c ≠ rd → H' c = some o) → (∃ kvs, H' rd = some (.dT kvs) ∧ KvD H' kvs (rowsOf R')) → TD H' v D → Q v H'
section
variable {P : Program} {w : World} {K : PySem.W.Frag} {mg : Str → Option Value} {base : Heap}
abbrev N_law_rule_due : List Str := ["words", "kinds", "rules", "parts", "state", "word", "test", "target", "sources", "one"]
theorem sc_law_rule_due : FnScope N_law_rule_due ["words", "kinds", "rules", "parts"] (defScope s_law_rule_due) := ⟨rfl, rfl, rfl, by decide +kernel, rfl, by decide +kernel, by decide +kernel⟩
theorem G_law_rule_due (T : Tx K mg) : FnG P w K mg base CX0 3 T.law_rule_due.f T.law_rule_due.fd ["words", "kinds", "rules", "parts"] sp_law_rule_due := by
  refine okG T.law_rule_due.F sc_law_rule_due (fun vs H Q E h => ?_) (fun cdv A outer s H vs Q E gd hr h => ?_)
  · obtain ⟨n, kl, ls, ks, rd, R, a, p, v1, v2, v3, v4, v5, d1, d2, d3, d4, d5, rfl, _⟩ := h
    rfl
  · obtain ⟨n, kl, ls, ks, rd, R, a, p, v1, v2, v3, v4, v5, d1, d2, d3, d4, d5, rfl, ha, hK, ⟨kvs, hd, hkv⟩, lR, h1, h2, h3, h4, h5, f1, f2, f3, f4, f5, pd, q⟩ := h
    refine ⟨_, 
      (pss_cons (ps_asg (pv 3) (pg_tup rfl (pgs_cons (pg_name (i := 4) sc_law_rule_due.nd rfl (.inl rfl)) (pgs_cons (pg_name (i := 5) sc_law_rule_due.nd rfl (.inl rfl)) (pgs_cons (pg_name (i := 6) sc_law_rule_due.nd rfl (.inl rfl)) (pgs_cons (pg_name (i := 7) sc_law_rule_due.nd rfl (.inl rfl)) (pgs_cons (pg_name (i := 8) sc_law_rule_due.nd rfl (.inl rfl)) pgs_nil))))))) -- state, word, test, target, sources = parts
      (C8.pss_cut (ps_for PassesOwn.never rfl (pi_tup (pe_tup (pa_cons (pv 4) (pa_cons (pv 7) pa_nil)))) (pg_name (i := 9) sc_law_rule_due.nd rfl (.inl rfl)) 
        (pss_one (ps_if (pt_not (pt_val (pe_callG (G_law_in T) gd (hr.mono (by decide)) rfl T.law_in.g T.law_in.F.kp T.law_in.b .nil pass0 (pa_cons (pv 9) (pa_cons (pe_op op_sub (pe_callB call_len_seq (by rfl) T.m_len PySem.boot_len (pa_cons (pv 1) pa_nil)) pe_int) pa_nil))))) 
          (pss_one (ps_ret (pe_tup (pa_cons pe_str (pa_cons (pe_callB (call_reprL gd hr.units) (by rfl) T.m_repr (by decide +kernel) (pa_cons (pv 9) pa_nil)) pa_nil))))) -- return ('state', repr(one))
           pss_nil)) -- if not _law_in(one, len(kinds) - 1):
        ) -- for one in (state, target):
      (pss_cons (ps_if (pt_not (pt_val (pe_callG (G_law_in T) gd (hr.mono (by decide)) rfl T.law_in.g T.law_in.F.kp T.law_in.b .nil pass0 (pa_cons (pv 5) (pa_cons (pe_op op_sub (pv 0) pe_int) pa_nil))))) 
        (pss_one (ps_ret (pe_tup (pa_cons pe_str (pa_cons (pe_callB (call_reprL gd hr.units) (by rfl) T.m_repr (by decide +kernel) (pa_cons (pv 5) pa_nil)) pa_nil))))) -- return ('word', repr(word))
         pss_nil) -- if not _law_in(word, words - 1):
      (C8.pss_cut (ps_if (pt_not (PW.pt (pw_or (PW.pt (pw_and (pt_val (pe_callB (call_isL kit_str) (by rfl) T.m_isinstance (by decide +kernel) (pa_cons (pv 6) (pa_cons (pe_bltn (v := .ty "str") (by rfl) T.m_str (by decide +kernel) (show RelV (.ty "str") (.type "str") from rfl)) pa_nil)))) (pw_and1 (pt_cmpR (op_eqS' hr.units) (pv 6) pe_str (nomark _))))) (pw_or1 (pt_val (pe_callG (G_law_in T) gd (hr.mono (by decide)) rfl T.law_in.g T.law_in.F.kp T.law_in.b .nil pass0 (pa_cons (pv 6) (pa_cons (pe_op op_sub (pe_ix ix_list (pe_ix ix_list (pv 1) (pv 4) (fun _ _ => rfl)) pe_int (fun _ _ => rfl)) pe_int) pa_nil)))))))) 
        (pss_one (ps_ret (pe_tup (pa_cons pe_str (pa_cons (pe_callB (call_reprL gd hr.units) (by rfl) T.m_repr (by decide +kernel) (pa_cons (pv 6) pa_nil)) pa_nil))))) -- return ('test', repr(test))
         pss_nil) -- if not (isinstance(test, str) and test == 'new' or _law_in(test, kinds[state][1] - 1)):
      (pss_cons (ps_if (pt_not (pt_val (pe_callG (G_law_sources_fit T) gd (hr.mono (by decide)) rfl T.law_sources_fit.g T.law_sources_fit.F.kp T.law_sources_fit.b .nil pass0 (pa_cons (pv 1) (pa_cons (pv 4) (pa_cons (pv 6) (pa_cons (pv 7) (pa_cons (pv 8) pa_nil)))))))) 
        (pss_one (ps_ret (pe_tup (pa_cons pe_str (pa_cons (pe_callB (call_reprL gd hr.units) (by rfl) T.m_repr (by decide +kernel) (pa_cons (pv 8) pa_nil)) pa_nil))))) -- return ('sources', repr(sources))
         pss_nil) -- if not _law_sources_fit(kinds, state, test, target, sources):
      (pss_cons (ps_if (pt_cmp (pc_din (hu_of hr) (pe_tup (pa_cons (pv 4) (pa_cons (pv 5) (pa_cons (pv 6) pa_nil)))) (pv 2))) 
        (pss_one (ps_ret (pe_tup (pa_cons pe_str (pa_cons (pe_tup (pa_cons (pv 4) (pa_cons (pv 5) (pa_cons (pv 6) pa_nil)))) pa_nil))))) -- return ('exists', (state, word, test))
         pss_nil) -- if (state, word, test) in rules:
      (pss_cons (ps_dput (hu_of hr) (pv 2) (pe_tup (pa_cons (pv 4) (pa_cons (pv 5) (pa_cons (pv 6) pa_nil)))) (pe_tup (pa_cons (pv 7) (pa_cons (pv 8) pa_nil))) rfl) -- rules[state, word, test] = (target, sources)
      (pss_one (ps_ret (pe_tup (pa_cons pe_str (pa_cons pe_non pa_nil))))) -- return ('done', None)
      ))))))) , ?_⟩
    have hl : (ls.map V.ref).length = ks.length := by rw [List.length_map]; exact hK.len
    have stay : ∀ {H' : Hp}, Same H H' → ∀ D, RuleDue n ks R d1 d2 d3 d4 d5 D R → ∀ v, TD H' v D → Q v H' := fun s D z v hv => q D R z v _ (fun c o e _ => s c o e) ⟨kvs, s _ _ hd, hkv.mono (Tups.same s)⟩ hv
    refine ⟨.ref a, rfl, a, _, rfl, SqT.of ha, rfl, v1, [v2, v3, v4, v5], rfl, v2, [v3, v4, v5], rfl, v3, [v4, v5], rfl, v4, [v5], rfl, v5, [], rfl, rfl, ?_⟩
    refine ⟨fun σ H' => ∃ y, σ = [some (.int n), some (.ref kl), some (.ref rd), some (.ref a), some v1, some v2, some v3, some v4, some v5, y] ∧ Same H H' ∧ btw d1 0 ((ks.length : Int) - 1) = true ∧ btw d4 0 ((ks.length : Int) - 1) = true, ?_, ?_⟩
    · refine ⟨v1, rfl, v4, rfl, by show 2 ≤ sizeLine; decide, fun t0 n0 => ?_⟩
      have s0 : Same H (upd H t0 (.tup [v1, v4])) := same_new n0
      have ht0 : upd H t0 (.tup [v1, v4]) t0 = some (.tup [v1, v4]) := upd_same
      generalize upd H t0 (.tup [v1, v4]) = H0 at s0 ht0
      refine ⟨t0, rfl, ⟨_, SqT.of ht0⟩, ?_⟩
      refine for_it (walk_tup (xs := [v1, v4])) (fun i σ H' => ∃ y, σ = [some (.int n), some (.ref kl), some (.ref rd), some (.ref a), some v1, some v2, some v3, some v4, some v5, y] ∧ Same H0 H' ∧ (0 < i → btw d1 0 ((ks.length : Int) - 1) = true) ∧ (1 < i → btw d4 0 ((ks.length : Int) - 1) = true)) ?_ ?_ ?_ ?_
      · exact ⟨none, rfl, Same.refl H0, fun z => absurd z (by decide), fun z => absurd z (by decide)⟩
      · rintro i σ H' hi ⟨_, rfl, sm, _⟩
        exact SqT.of (sm _ _ ht0)
      · rintro i y σ H6 H7 hi ⟨y9, rfl, sm, b1, b4⟩ ⟨rfl, ey⟩
        have sm7 := s0.trans sm
        have kx := sm7 _ _ hK.at_
        match i, hi, ey, b1 with
        | 0, _, ey, _ =>
          cases ey
          refine ⟨v1, rfl, .ref kl, rfl, kl, _, rfl, .inl (SqL.of kx), _, 1, rfl, rfl, p, v1, d1, _, rfl, h1.mono (But.same sm7), _, rfl, ?_⟩
          rw [hl]
          cases hb : btw d1 0 ((ks.length : Int) - 1) with
          | false =>
            refine ⟨v1, rfl, p, v1, d1, rfl, h1.mono (But.same sm7), f1.1, f1.2.1, f1.2.2, by show 2 ≤ sizeLine; decide, fun t nt => stay (sm7.trans (same_new nt)) _ (.state hb) _ (.tup upd_same (.cons (.str _) (.cons (.str _) .nil)))⟩
          | true => exact ⟨_, rfl, sm, fun _ => rfl, fun z => absurd z (by decide)⟩
        | 1, _, ey, b1 =>
          cases ey
          refine ⟨v4, rfl, .ref kl, rfl, kl, _, rfl, .inl (SqL.of kx), _, 1, rfl, rfl, p, v4, d4, _, rfl, h4.mono (But.same sm7), _, rfl, ?_⟩
          rw [hl]
          cases hb : btw d4 0 ((ks.length : Int) - 1) with
          | false =>
            refine ⟨v4, rfl, p, v4, d4, rfl, h4.mono (But.same sm7), f4.1, f4.2.1, f4.2.2, by show 2 ≤ sizeLine; decide, fun t nt => stay (sm7.trans (same_new nt)) _ (.target (b1 (by decide)) hb) _ (.tup upd_same (.cons (.str _) (.cons (.str _) .nil)))⟩
          | true => exact ⟨_, rfl, sm, fun _ => b1 (by decide), fun _ => rfl⟩
        | i + 2, hi, _, _ => exact absurd hi (by show ¬ i + 2 < 2; omega)
      · rintro σ H' ⟨y9, rfl, sm, b1, b4⟩
        exact ⟨y9, rfl, s0.trans sm, b1 (by show 0 < 2; decide), b4 (by show 1 < 2; decide)⟩
    rintro σ H1 ⟨y9, rfl, sm, b1, b4⟩
    obtain ⟨s, rfl, s0, s1⟩ := btw_int b1
    obtain ⟨g, rfl, g0, g1⟩ := btw_int b4
    cases h1
    cases h4
    have K1 := hK.mono (H' := H1) fun b _ o e => sm b o e
    refine ⟨v2, rfl, .int n, rfl, n, 1, rfl, rfl, p, v2, d2, _, rfl, h2.mono (But.same sm), _, rfl, ?_⟩
    cases b2 : btw d2 0 (n - 1) with
    | false =>
      exact ⟨v2, rfl, p, v2, d2, rfl, h2.mono (But.same sm), f2.1, f2.2.1, f2.2.2, by show 2 ≤ sizeLine; decide, fun t nt => stay (sm.trans (same_new nt)) _ (.word b1 b4 b2) _ (.tup upd_same (.cons (.str _) (.cons (.str _) .nil)))⟩
    | true =>
      obtain ⟨w, rfl, w0, w1⟩ := btw_int b2
      cases h2
      obtain ⟨la, va, aL, ma, hla⟩ := K1.held s0 (by omega)
      have h3' := h3.mono (But.same sm)
      have hT : isTest d3 (heldAt ks s) = (isStrD d3 "new" || btw d3 0 (heldAt ks s - 1)) := rfl
      refine ⟨fun σ H' => σ = [some (.int n), some (.ref kl), some (.ref rd), some (.ref a), some (.int s), some (.int w), some v3, some (.int g), some v5, y9] ∧ H' = H1 ∧ isTest d3 (heldAt ks s) = true, ?_, ?_⟩
      · refine ⟨v3, rfl, p, v3, d3, rfl, h3', _, rfl, ?_⟩
        cases hx : isTextD d3 with
        | true =>
          refine iteT ⟨v3, rfl, p, d3, "new", h3', rfl, _, rfl, ?_⟩
          cases hn : isStrD d3 "new" with
          | true =>
            have it : isTest d3 (heldAt ks s) = true := by rw [hT, hn]; rfl
            exact ⟨rfl, rfl, it⟩
          | false =>
            refine iteF ?_
            refine ⟨v3, rfl, .ref kl, rfl, .int s, rfl, kl, _, s, .ref la, rfl, rfl, SqL.of K1.at_, aL, la, _, 1, .int (heldAt ks s), rfl, rfl, SqL.of hla, rfl, heldAt ks s, 1, rfl, rfl, p, v3, d3, _, rfl, h3', _, rfl, ?_⟩
            cases hb : btw d3 0 (heldAt ks s - 1) with
            | false =>
              have it : isTest d3 (heldAt ks s) = false := by rw [hT, hn, hb]; rfl
              exact ⟨v3, rfl, p, v3, d3, rfl, h3', f3.1, f3.2.1, f3.2.2, by show 2 ≤ sizeLine; decide, fun t nt => stay (sm.trans (same_new nt)) _ (.test s w g rfl rfl rfl b1 b4 b2 it) _ (.tup upd_same (.cons (.str _) (.cons (.str _) .nil)))⟩
            | true =>
              have it : isTest d3 (heldAt ks s) = true := by rw [hT, hb, Bool.or_true]
              exact ⟨rfl, rfl, it⟩
        | false =>
          have hn : isStrD d3 "new" = false := by cases d3 <;> first | rfl | cases hx
          refine iteF ?_
          refine ⟨v3, rfl, .ref kl, rfl, .int s, rfl, kl, _, s, .ref la, rfl, rfl, SqL.of K1.at_, aL, la, _, 1, .int (heldAt ks s), rfl, rfl, SqL.of hla, rfl, heldAt ks s, 1, rfl, rfl, p, v3, d3, _, rfl, h3', _, rfl, ?_⟩
          cases hb : btw d3 0 (heldAt ks s - 1) with
          | false =>
            have it : isTest d3 (heldAt ks s) = false := by rw [hT, hn, hb]; rfl
            exact ⟨v3, rfl, p, v3, d3, rfl, h3', f3.1, f3.2.1, f3.2.2, by show 2 ≤ sizeLine; decide, fun t nt => stay (sm.trans (same_new nt)) _ (.test s w g rfl rfl rfl b1 b4 b2 it) _ (.tup upd_same (.cons (.str _) (.cons (.str _) .nil)))⟩
          | true =>
            have it : isTest d3 (heldAt ks s) = true := by rw [hT, hb, Bool.or_true]
            exact ⟨rfl, rfl, it⟩
      rintro σ H2 ⟨rfl, rfl, it⟩
      obtain ⟨t, rfl, rfl, tk⟩ := test_key' h3' it
      have h5' := h5.mono (But.same sm)
      refine ⟨.ref kl, rfl, .int s, rfl, kV t, rfl, .int g, rfl, v5, rfl, kl, ls, ks, s, g, t, p, v5, d5, rfl, K1, s0, by omega, g0, by omega, h5', pd, fun b H3 s3 hb => ?_⟩
      have sm3 := sm.trans s3
      have h5'' := h5'.mono (But.same s3)
      cases b with
      | false =>
        have no : ¬ ∃ kk, AreSrc d5 (heldAt ks g) (heldAt ks s) t kk := fun z => Bool.noConfusion (hb.mpr z)
        exact ⟨_, rfl, iteT ⟨v5, rfl, p, v5, d5, rfl, h5'', f5.1, f5.2.1, f5.2.2, by show 2 ≤ sizeLine; decide, fun u nu => stay (sm3.trans (same_new nu)) _ (.sources s w g t rfl rfl rfl b1 b4 b2 rfl it no) _ (.tup upd_same (.cons (.str _) (.cons (.str _) .nil)))⟩⟩
      | true =>
        obtain ⟨kk, ok⟩ := hb.mp rfl
        refine ⟨_, rfl, iteF ⟨V.int s, rfl, V.int w, rfl, kV t, rfl, by show 3 ≤ sizeLine; decide, fun u nu => ?_⟩⟩
        have su := sm3.trans (same_new (o := .tup [V.int s, V.int w, kV t]) nu)
        have hu : upd H3 u (.tup [V.int s, V.int w, kV t]) u = some (.tup (([Sum.inl s, Sum.inl w, t] : List Key).map kV)) := upd_same
        generalize upd H3 u (.tup [V.int s, V.int w, kV t]) = H4 at su hu
        have hd4 := su _ _ hd
        have gq := DGet.t (k := [Sum.inl s, Sum.inl w, t]) hd4 hu
        refine ⟨.ref rd, rfl, rd, _, rfl, gq, _, rfl, ?_⟩
        have ek := hkv.keys
        rw [rowsOf_keys] at ek
        by_cases hk : [Sum.inl s, Sum.inl w, t] ∈ R.map (·.1)
        · obtain ⟨vv, ev, _⟩ := hkv.val (k := [Sum.inl s, Sum.inl w, t]) (by rw [rowsOf_keys]; exact hk)
          rw [ev]
          refine iteT ⟨V.int s, rfl, V.int w, rfl, kV t, rfl, by show 3 ≤ sizeLine; decide, fun u2 nu2 => ⟨by show 2 ≤ sizeLine; decide, fun u3 nu3 => ?_⟩⟩
          have s5 := same_new (o := .tup [V.int s, V.int w, kV t]) nu2
          have s6 := same_new (o := .tup [V.str "exists", V.ref u2]) nu3
          refine stay (su.trans (s5.trans s6)) _ (.there s w g t kk rfl rfl rfl b1 b4 b2 rfl it ok hk) _ (.tup upd_same (.cons (.str _) (.cons (.tup (s6 _ _ upd_same) (.cons (.int _) (.cons (.int _) (.cons ?_ .nil)))) .nil)))
          cases t with
          | inl z => exact .int z
          | inr z => exact .str z
        · have en : valV kvs [Sum.inl s, Sum.inl w, t] = none := by
            unfold valV
            rw [List.find?_eq_none.mpr]
            · rfl
            · intro y hy
              simp only [decide_eq_true_eq]
              intro e
              exact hk (e ▸ ek ▸ List.mem_map.mpr ⟨y, hy, rfl⟩)
          rw [en]
          refine iteF ?_
          refine ⟨V.int g, rfl, v5, rfl, by show 2 ≤ sizeLine; decide, fun U nU => ?_⟩
          have sU := same_new (o := .tup [V.int g, v5]) nU
          have hU : upd H4 U (.tup [V.int g, v5]) U = some (.tup [V.int g, v5]) := upd_same
          generalize upd H4 U (.tup [V.int g, v5]) = H5 at sU hU
          refine ⟨.ref rd, rfl, V.int s, rfl, V.int w, rfl, kV t, rfl, by show 3 ≤ sizeLine; decide, fun u4 nu4 => ?_⟩
          have s4 := same_new (o := .tup [V.int s, V.int w, kV t]) nu4
          have hk4 : upd H5 u4 (.tup [V.int s, V.int w, kV t]) u4 = some (.tup (([Sum.inl s, Sum.inl w, t] : List Key).map kV)) := upd_same
          have hU6 := s4 _ _ hU
          have s6 := su.trans (sU.trans s4)
          generalize upd H5 u4 (.tup [V.int s, V.int w, kV t]) = H6 at s6 hk4 hU6
          have hd6 := s6 _ _ hd
          have lk : kvs.length < 1000 := by
            have e1 := congrArg List.length ek
            simp only [List.length_map] at e1
            omega
          refine ⟨rd, _, rfl, DPut.t (k := [Sum.inl s, Sum.inl w, t]) hd6 hk4 (small1000 (Nat.le_of_lt lk)), ?_⟩
          have tp : Tups H6 (upd H6 rd (.dT (putK kvs [Sum.inl s, Sum.inl w, t] (.ref U)))) := Tups.put hd6 (fun _ z => by cases z)
          have en2 := putK_new (V.ref U) en
          refine ⟨by show 2 ≤ sizeLine; decide, fun u7 nu7 => ?_⟩
          have s7 := same_new (o := .tup [V.str "done", V.non]) nu7
          refine q _ _ (.done s w g t kk rfl rfl rfl b1 b4 b2 rfl it ok hk) _ _ (fun c o e nc => s7 _ _ ?_) ⟨_, s7 _ _ upd_same, ?_⟩ (.tup upd_same (.cons (.str _) (.cons .non .nil)))
          · rw [upd_ne nc]
            exact s6 _ _ e
          · rw [en2] at tp s7 ⊢
            rw [rowsOf_snoc]
            refine Paired.snoc (KvD.mono (Tups.same s7) (KvD.mono tp (KvD.mono (Tups.same s6) hkv))) ⟨rfl, TD.mono (Tups.same s7) _ ?_⟩
            have h5' := h5
            rw [ok.d] at h5'
            obtain ⟨a5, xs5, rfl, _, ha5, hs5⟩ := h5'.isTup
            have e2 := lds_keys hs5
            subst e2
            exact .tup (tp _ _ hU6) (.cons (.int g) (.cons (.tup (tp _ _ (s6 _ _ ha5)) TDs.keys) .nil))
end

/-! ### a rule that is taken away -/
def Lt (s : Str) : List Nat := s.cps.toList
theorem Lt_app (a b : Str) : Lt (a ++ b) = Lt a ++ Lt b := by
  show (a.cps ++ b.cps).toList = a.cps.toList ++ b.cps.toList
  simp
theorem Lt3 (a b c : Str) : Lt (tupleText [a, b, c]) = 40 :: (Lt a ++ 44 :: 32 :: (Lt b ++ 44 :: 32 :: (Lt c ++ [41]))) := by
  show Lt (("(" : Str) ++ (a ++ ", " ++ (b ++ ", " ++ c)) ++ (")" : Str)) = _
  rw [Lt_app, Lt_app, Lt_app, Lt_app, Lt_app, Lt_app]
  rw [show Lt ("(" : Str) = [40] by decide +kernel, show Lt (", " : Str) = [44, 32] by decide +kernel, show Lt (")" : Str) = [41] by decide +kernel]
  simp
theorem tup_head (ts : List Str) : ∃ r, Lt (tupleText ts) = 40 :: r := by
  unfold tupleText
  rw [Lt_app, Lt_app, show Lt ("(" : Str) = [40] by decide +kernel]
  exact ⟨_, rfl⟩
theorem part_head {d : PyData} (h : PartD d) : (∃ n : Int, d = .int n ∧ 0 ≤ n ∧ n < 6 ∧ Lt d.shown = [48 + n.toNat]) ∨ (∃ c r, Lt d.shown = c :: r ∧ (c < 48 ∨ 53 < c)) ∨ ∃ r, Lt d.shown = 49 :: 48 :: r := by
  rcases h with h | ⟨n, rfl, n0, n1⟩ | ⟨ks, rfl, _⟩
  · simp only [oddL, List.mem_cons, List.not_mem_nil, or_false] at h
    rcases h with rfl | rfl | rfl | rfl | rfl | rfl | rfl | rfl | rfl | rfl | rfl | rfl | rfl | rfl | rfl
    · exact .inr (.inl ⟨_, _, (by decide +kernel : _ = 45 :: [49]), by decide⟩)
    · exact .inr (.inl ⟨_, _, (by decide +kernel : _ = 57 :: []), by decide⟩)
    · exact .inr (.inl ⟨_, _, (by decide +kernel : _ = 84 :: [114, 117, 101]), by decide⟩)
    · exact .inr (.inl ⟨_, _, (by decide +kernel : _ = 70 :: [97, 108, 115, 101]), by decide⟩)
    · exact .inr (.inl ⟨_, _, (by decide +kernel : _ = 78 :: [111, 110, 101]), by decide⟩)
    · exact .inr (.inl ⟨_, _, (by decide +kernel : _ = 39 :: [110, 101, 119, 39]), by decide⟩)
    · exact .inr (.inl ⟨_, _, (by decide +kernel : _ = 39 :: [118, 97, 108, 117, 101, 39]), by decide⟩)
    · obtain ⟨r, e⟩ := tup_head []
      exact .inr (.inl ⟨40, r, e, by decide⟩)
    · exact .inl ⟨2, rfl, by decide, by decide, by decide +kernel⟩
    · exact .inr (.inl ⟨_, _, (by decide +kernel : _ = 91 :: [48, 93]), by decide⟩)
    · obtain ⟨r, e⟩ := tup_head [(PyData.int 0).shown, (PyData.str "value").shown]
      exact .inr (.inl ⟨40, r, e, by decide⟩)
    · exact .inr (.inr ⟨(Lt (PyData.int (10 ^ 20)).shown).drop 2, by decide +kernel⟩)
    · exact .inr (.inl ⟨_, _, (by decide +kernel : _ = 39 :: [111, 108, 100, 39]), by decide⟩)
    · obtain ⟨r, e⟩ := tup_head [(PyData.int 0).shown, (PyData.int 0).shown]
      exact .inr (.inl ⟨40, r, e, by decide⟩)
    · obtain ⟨r, e⟩ := tup_head [(PyData.str "value").shown]
      exact .inr (.inl ⟨40, r, e, by decide⟩)
  · have : n = 0 ∨ n = 1 ∨ n = 2 ∨ n = 3 ∨ n = 4 ∨ n = 5 := by omega
    rcases this with rfl | rfl | rfl | rfl | rfl | rfl <;> exact .inl ⟨_, rfl, by decide, by decide, by decide +kernel⟩
  · obtain ⟨r, e⟩ := tup_head (PyData.shownAll (ks.map kD))
    exact .inr (.inl ⟨40, r, e, by decide⟩)
theorem digit_next {d : PyData} (h : PartD d) {s : Int} (s0 : 0 ≤ s) (s1 : s < 6) {u r : List Nat} (e : [48 + s.toNat] ++ 44 :: u = Lt d.shown ++ 44 :: r) : d = .int s ∧ u = r := by
  rcases part_head h with ⟨n, rfl, n0, n1, el⟩ | ⟨c, z, el, hc⟩ | ⟨z, el⟩
  · rw [el] at e
    simp only [List.cons_append, List.nil_append, List.cons.injEq, true_and] at e
    have : n = s := by omega
    exact ⟨by rw [this], e.2⟩
  · rw [el] at e
    simp only [List.cons_append, List.nil_append, List.cons.injEq] at e
    omega
  · rw [el] at e
    simp only [List.cons_append, List.nil_append, List.cons.injEq] at e
    omega
theorem new_text {d : PyData} (h : PartD d) (e : Lt d.shown = [39, 110, 101, 119, 39]) : d = .str "new" := by
  rcases h with h | ⟨n, rfl, n0, n1⟩ | ⟨ks, rfl, _⟩
  · simp only [oddL, List.mem_cons, List.not_mem_nil, or_false] at h
    rcases h with rfl | rfl | rfl | rfl | rfl | rfl | rfl | rfl | rfl | rfl | rfl | rfl | rfl | rfl | rfl <;> first | rfl | exact absurd e (by decide +kernel)
  · have : n = 0 ∨ n = 1 ∨ n = 2 ∨ n = 3 ∨ n = 4 ∨ n = 5 := by omega
    rcases this with rfl | rfl | rfl | rfl | rfl | rfl <;> exact absurd e (by decide +kernel)
  · obtain ⟨r, e2⟩ := tup_head (PyData.shownAll (ks.map kD))
    have e3 : Lt (PyData.tuple (ks.map kD)).shown = 40 :: r := e2
    rw [e3] at e
    cases e
/-- a rule's name, small -/
def RKs (k : List Key) : Prop := ∃ (s w : Int) (t : Key), k = [Sum.inl s, Sum.inl w, t] ∧ 0 ≤ s ∧ s < 6 ∧ 0 ≤ w ∧ w < 3 ∧ ((∃ j : Int, t = Sum.inl j ∧ 0 ≤ j ∧ j < 3) ∨ t = Sum.inr ("new" : Str))
theorem int_text {s : Int} (s0 : 0 ≤ s) (s1 : s < 6) : Lt (PyData.int s).shown = [48 + s.toNat] := by
  have : s = 0 ∨ s = 1 ∨ s = 2 ∨ s = 3 ∨ s = 4 ∨ s = 5 := by omega
  rcases this with rfl | rfl | rfl | rfl | rfl | rfl <;> decide +kernel
theorem rule_text {s w : Int} {t : Key} {d1 d2 d3 : PyData} (s0 : 0 ≤ s) (s1 : s < 6) (w0 : 0 ≤ w) (w1 : w < 3) (tk : (∃ j : Int, t = Sum.inl j ∧ 0 ≤ j ∧ j < 3) ∨ t = Sum.inr ("new" : Str)) (h1 : PartD d1) (h2 : PartD d2) (h3 : PartD d3)
    (e : (PyData.tuple ([Sum.inl s, Sum.inl w, t].map kD)).shown = (PyData.tuple [d1, d2, d3]).shown) : d1 = .int s ∧ d2 = .int w ∧ d3 = kD t := by
  have e2 : Lt (tupleText [(PyData.int s).shown, (PyData.int w).shown, (kD t).shown]) = Lt (tupleText [d1.shown, d2.shown, d3.shown]) := congrArg Lt e
  rw [Lt3, Lt3, int_text s0 s1, int_text w0 (by omega)] at e2
  have e3 := List.cons.inj e2 |>.2
  obtain ⟨r1, e4⟩ := digit_next h1 s0 s1 e3
  have e5 := (List.cons.inj e4).2
  obtain ⟨r2, e6⟩ := digit_next h2 w0 (by omega) e5
  have e7 := List.append_cancel_right (List.cons.inj e6).2
  refine ⟨r1, r2, ?_⟩
  rcases tk with ⟨j, rfl, j0, j1⟩ | rfl
  · have e8 : [48 + j.toNat] = Lt d3.shown := by
      rw [← e7]
      exact (int_text j0 (by omega)).symm
    exact (digit_next h3 j0 (by omega) (u := []) (r := []) (by rw [e8])).1
  · exact new_text h3 (by rw [← e7]; decide +kernel)
theorem fine_of {d : PyData} (s : Sm d) (w : wt d ≤ 100) (dep : d.depth ≤ 60) : Fine d := by
  obtain ⟨a, b⟩ := sm_shown d s
  exact ⟨a, dep, Nat.le_trans (show d.shown.length ≤ 11000 by omega) (by decide)⟩
theorem rks_fine {k : List Key} (h : RKs k) : Fine (.tuple (k.map kD)) := by
  obtain ⟨s, w, t, rfl, s0, s1, w0, w1, tk⟩ := h
  have b1 : s.natAbs < 10 ^ 99 := Nat.lt_trans (show s.natAbs < 6 by omega) (by decide)
  have b2 : w.natAbs < 10 ^ 99 := Nat.lt_trans (show w.natAbs < 6 by omega) (by decide)
  rcases tk with ⟨j, rfl, j0, j1⟩ | rfl
  · have b3 : j.natAbs < 10 ^ 99 := Nat.lt_trans (show j.natAbs < 6 by omega) (by decide)
    exact fine_of ⟨b1, b2, b3, trivial⟩ (by show 1 + (1 + (1 + (1 + 0))) ≤ 100; decide) (by show _ ≤ 60; simp [PyData.depth, PyData.depthAll, kD])
  · exact fine_of ⟨b1, b2, (by show _ ≤ 100; decide +kernel), trivial⟩ (by show 1 + (1 + (1 + (1 + 0))) ≤ 100; decide) (by show _ ≤ 60; simp [PyData.depth, PyData.depthAll, kD])
theorem isKeys_at {H : Hp} {kvs : List (List Key × V)} {bs : List Addr} (h : IsKeys H kvs bs) {i : Nat} {b : Addr} (e : bs[i]? = some b) : ∃ kv, kvs[i]? = some kv ∧ H b = some (.tup (kv.1.map kV)) := by
  unfold IsKeys at h
  induction h generalizing i with
  | nil => simp at e
  | cons x _ ih =>
    cases i with
    | zero =>
      simp at e
      subst e
      exact ⟨_, rfl, x⟩
    | succ i =>
      obtain ⟨kv, h1, h2⟩ := ih (i := i) (by simpa using e)
      exact ⟨kv, by simpa using h1, h2⟩
def dropP (R : List PRule) (k : List Key) : List PRule := R.filter fun r => decide (r.1 ≠ k)
theorem rowsOf_drop (R : List PRule) (k : List Key) : rowsOf (dropP R k) = dropR (rowsOf R) k := by
  unfold rowsOf dropP dropR
  rw [List.filter_map]
  rfl
/-- what remove_rule comes to -/
inductive GoneDue (R : List PRule) (d1 d2 d3 : PyData) : PyData → List PRule → Prop
  | gone (s w : Int) (t : Key) : d1 = .int s → d2 = .int w → d3 = kD t → [Sum.inl s, Sum.inl w, t] ∈ R.map (·.1) → GoneDue R d1 d2 d3 (tell2 "done" .none) (dropP R [Sum.inl s, Sum.inl w, t])
  | none : (∀ (s w : Int) (t : Key), d1 = .int s → d2 = .int w → d3 = kD t → [Sum.inl s, Sum.inl w, t] ∉ R.map (·.1)) → GoneDue R d1 d2 d3 (tell2 "rule" (.str (PyData.tuple [d1, d2, d3]).shown)) R
theorem GoneDue.eq {R : List PRule} {d1 d2 d3 D1 D2 : PyData} {R1 R2 : List PRule} (a : GoneDue R d1 d2 d3 D1 R1) (b : GoneDue R d1 d2 d3 D2 R2) : D1 = D2 ∧ R1 = R2 := by
  cases a with
  | gone s w t e1 e2 e3 m =>
    cases b with
    | gone s' w' t' f1 f2 f3 m' =>
      have es := PyData.int.inj (e1.symm.trans f1)
      have ew := PyData.int.inj (e2.symm.trans f2)
      have et := kD_inj (e3.symm.trans f3)
      subst es ew et
      exact ⟨rfl, rfl⟩
    | none n => exact absurd m (n s w t e1 e2 e3)
  | none n =>
    cases b with
    | gone s w t f1 f2 f3 m => exact absurd m (n s w t f1 f2 f3)
    | none => exact ⟨rfl, rfl⟩
def sp_law_gone_due : Sp := fun us H Q _ => ∃ (rd : Addr) (R : List PRule) (a p : Addr) (v1 v2 v3 : V) (d1 d2 d3 : PyData), us = [.ref rd, .ref a] ∧ H a = some (.tup [v1, v2, v3]) ∧ a ≠ p ∧ (∃ kvs, H rd = some (.dT kvs) ∧ KvD H kvs (rowsOf R)) ∧ R.length ≤ 1000 ∧ (R.map (·.1)).Nodup ∧ (∀ k ∈ R.map (·.1), RKs k) ∧ LD p H v1 d1 ∧ LD p H v2 d2 ∧ LD p H v3 d3 ∧ rd ≠ p ∧ H p ≠ none ∧ (∀ xs, H p ≠ some (.tup xs)) ∧ PartD d1 ∧ PartD d2 ∧ PartD d3 ∧ Fine (.tuple [d1, d2, d3]) ∧
  ∀ D R', GoneDue R d1 d2 d3 D R' → ∀ v H', (∀ c o, H c = some o → c ≠ rd → H' c = some o) → (∃ kvs, H' rd = some (.dT kvs) ∧ KvD H' kvs (rowsOf R')) → TD H' v D → Q v H'
section
variable {P : Program} {w : World} {K : PySem.W.Frag} {mg : Str → Option Value} {base : Heap}
abbrev N_law_gone_due : List Str := ["rules", "rule", "one"]
theorem sc_law_gone_due : FnScope N_law_gone_due ["rules", "rule"] (defScope s_law_gone_due) := ⟨rfl, rfl, rfl, by decide +kernel, rfl, by decide +kernel, by decide +kernel⟩
theorem G_law_gone_due (T : Tx K mg) : FnG P w K mg base CX0 2 T.law_gone_due.f T.law_gone_due.fd ["rules", "rule"] sp_law_gone_due := by
  refine okG T.law_gone_due.F sc_law_gone_due (fun vs H Q E h => ?_) (fun cdv A outer s H vs Q E gd hr h => ?_)
  · obtain ⟨rd, R, a, p, v1, v2, v3, d1, d2, d3, rfl, _⟩ := h
    rfl
  · obtain ⟨rd, R, a, p, v1, v2, v3, d1, d2, d3, rfl, ha, nap, ⟨kvs, hd, hkv⟩, lR, nd, rk, h1, h2, h3, nrp, np, ntp, p1, p2, p3, ⟨f1, f2, f3⟩, q⟩ := h
    refine ⟨_, 
      (pss_cons (ps_for PassesOwn.never rfl (pi_list (pe_callTy (call_list_dT rfl) (by rfl) T.m_list (by decide +kernel) (pa_cons (pv 0) pa_nil))) (pg_name (i := 2) sc_law_gone_due.nd rfl (.inl rfl)) 
        (pss_one (ps_if (pt_cmpR op_eq (pe_callB (call_reprL gd hr.units) (by rfl) T.m_repr (by decide +kernel) (pa_cons (pv 2) pa_nil)) (pe_callB (call_reprL gd hr.units) (by rfl) T.m_repr (by decide +kernel) (pa_cons (pv 1) pa_nil)) (nomark _)) 
          (pss_cons (ps_expr (pe_bm PySem.F.plainAttrs_dict PySem.F.slot_dict_pop PySem.F.type_dict_pop (mt_pop1T (hu_of hr)) (pv 0) (pa_cons (pv 2) pa_nil))) -- rules.pop(one)
          (pss_one (ps_ret (pe_tup (pa_cons pe_str (pa_cons pe_non pa_nil))))) -- return ('done', None)
          ) pss_nil)) -- if repr(one) == repr(rule):
        ) -- for one in list(rules):
      (pss_one (ps_ret (pe_tup (pa_cons pe_str (pa_cons (pe_callB (call_reprL gd hr.units) (by rfl) T.m_repr (by decide +kernel) (pa_cons (pv 1) pa_nil)) pa_nil))))) -- return ('rule', repr(rule))
      ) , ?_⟩
    refine ⟨.ref rd, rfl, rd, kvs, rfl, .inl hd, fun L bs nL isk => ?_⟩
    have sL := same_new (o := .lst (bs.map V.ref)) nL
    have hL : upd H L (.lst (bs.map V.ref)) L = some (.lst (bs.map V.ref)) := upd_same
    generalize upd H L (.lst (bs.map V.ref)) = H0 at sL hL
    refine ⟨L, rfl, ⟨_, SqL.of hL⟩, ?_⟩
    have ek : kvs.map (·.1) = R.map (·.1) := hkv.keys.trans (rowsOf_keys _)
    have lb : bs.length = kvs.length := (Paired.length isk).symm
    have hl3 : LD p H (.ref a) (.tuple [d1, d2, d3]) := .tup nap ha (.cons h1 (.cons h2 (.cons h3 .nil)))
    refine for_list (xs := bs.map V.ref) (fun i σ H' => ∃ y, σ = [some (.ref rd), some (.ref a), y] ∧ Same H0 H' ∧ ∀ j kv, j < i → kvs[j]? = some kv → (PyData.tuple (kv.1.map kD)).shown ≠ (PyData.tuple [d1, d2, d3]).shown) ?_ ?_ ?_ ?_
    · exact ⟨none, rfl, Same.refl H0, fun j _ z => absurd z (Nat.not_lt_zero _)⟩
    · rintro i σ H' hi ⟨_, rfl, sm, _⟩
      exact SqL.of (sm _ _ hL)
    · rintro i y σ H6 hi ⟨y2, rfl, sm, no⟩
      rw [List.getElem?_map] at hi
      obtain ⟨b, hb, rfl⟩ := Option.map_eq_some_iff.mp hi
      obtain ⟨kv, ekv, hbk⟩ := isKeys_at isk hb
      have sm6 := sL.trans sm
      have hb6 := sm6 _ _ hbk
      have hkR : kv.1 ∈ R.map (·.1) := ek ▸ List.mem_map.mpr ⟨kv, List.mem_of_getElem? ekv, rfl⟩
      have rks := rk _ hkR
      obtain ⟨g1, g2, g3⟩ := rks_fine rks
      have nbp : b ≠ p := fun z => ntp _ (z ▸ hbk)
      refine ⟨.ref b, rfl, p, .ref b, .tuple (kv.1.map kD), rfl, .tup nbp hb6 ldKs, g1, g2, g3, .ref a, rfl, p, .ref a, .tuple [d1, d2, d3], rfl, hl3.mono (But.same sm6), f1, f2, f3, rfl, _, rfl, ?_⟩
      by_cases et : (PyData.tuple (kv.1.map kD)).shown = (PyData.tuple [d1, d2, d3]).shown
      · rw [show decide (V.str (PyData.tuple (kv.1.map kD)).shown = V.str (PyData.tuple [d1, d2, d3]).shown) = true by rw [et]; simp]
        obtain ⟨s, w, t, ekk, s0, s1, w0, w1, tk⟩ := rks
        rw [ekk] at et hkR hb6
        obtain ⟨e1, e2, e3⟩ := rule_text s0 s1 w0 w1 tk p1 p2 p3 et
        obtain ⟨vv, ev, _⟩ := hkv.val (k := [Sum.inl s, Sum.inl w, t]) (by rw [rowsOf_keys]; exact hkR)
        have hd6 := sm6 _ _ hd
        refine iteT ⟨.ref rd, rfl, .inr (.inr (.inl ⟨rfl, .inr ⟨_, hd6⟩⟩)), .ref b, rfl, rd, kvs, [Sum.inl s, Sum.inl w, t], b, vv, rfl, rfl, hd6, hb6, ev, ?_⟩
        have tp : Tups H6 (upd H6 rd (.dT (dropK kvs [Sum.inl s, Sum.inl w, t]))) := Tups.put hd6 (fun _ z => by cases z)
        refine ⟨by show 2 ≤ sizeLine; decide, fun u nu => ?_⟩
        have s7 := same_new (o := .tup [V.str "done", V.non]) nu
        refine q _ _ (.gone s w t e1 e2 e3 hkR) _ _ (fun c o e nc => s7 _ _ ?_) ⟨_, s7 _ _ upd_same, ?_⟩ (.tup upd_same (.cons (.str _) (.cons .non .nil)))
        · rw [upd_ne nc]
          exact sm6 _ _ e
        · rw [rowsOf_drop]
          exact KvD.mono (Tups.same s7) (KvD.mono tp (kvd_drop (hkv.mono (Tups.same sm6))))
      · rw [show decide (V.str (PyData.tuple (kv.1.map kD)).shown = V.str (PyData.tuple [d1, d2, d3]).shown) = false by simp [et]]
        refine ⟨_, rfl, sm, fun j kv2 hj e2 => ?_⟩
        by_cases ej : j = i
        · subst ej
          rw [ekv] at e2
          cases e2
          exact et
        · exact no j kv2 (by omega) e2
    · rintro σ H' ⟨y2, rfl, sm, no⟩
      rw [List.length_map, lb] at no
      have sm6 := sL.trans sm
      refine ⟨.ref a, rfl, p, .ref a, .tuple [d1, d2, d3], rfl, hl3.mono (But.same sm6), f1, f2, f3, by show 2 ≤ sizeLine; decide, fun t nt => ?_⟩
      have s9 := sm6.trans (same_new (o := .tup [V.str "rule", V.str (PyData.tuple [d1, d2, d3]).shown]) nt)
      refine q _ R (.none fun s w t e1 e2 e3 hk => ?_) _ _ (fun c o e _ => s9 _ _ e) ⟨kvs, s9 _ _ hd, hkv.mono (Tups.same s9)⟩ (.tup upd_same (.cons (.str _) (.cons (.str _) .nil)))
      rw [← ek] at hk
      obtain ⟨kv, hm, ekk⟩ := List.mem_map.mp hk
      obtain ⟨j, hj, e⟩ := List.getElem_of_mem hm
      refine no j kv hj (by rw [List.getElem?_eq_getElem hj, e]) ?_
      rw [ekk, e1, e2, e3]
      rfl
end

/-! ### histories: the watcher and the law's own lists -/
/-- all stands but where A says -/
def Mv (A : Addr → Prop) (H H' : Hp) : Prop := ∀ b o, H b = some o → ¬ A b → H' b = some o
theorem Mv.same {A : Addr → Prop} {H H' : Hp} (s : Same H H') : Mv A H H' := fun b o e _ => s b o e
theorem Mv.ext {H H' : Hp} (s : LamX.ExtN H H') : Mv (fun b => ∃ ps, H b = some (.tbl ps)) H H' := fun b o e n => s b o e fun ps z => n ⟨ps, z ▸ e⟩
theorem Mv.keep {A : Addr → Prop} {p : Addr} {H H' : Hp} (s : Keep p H H') (h : A p) : Mv A H H' := fun b o e n => s b o e (fun z => n (z ▸ h))
theorem Mv.trans {A : Addr → Prop} {H H1 H2 : Hp} (a : Mv A H H1) (b : Mv A H1 H2) : Mv A H H2 := fun c o e n => b c o (a c o e n) n
theorem Mv.weak {A B : Addr → Prop} {H H' : Hp} (a : Mv A H H') (h : ∀ b, A b → B b) : Mv B H H' := fun c o e n => a c o e (fun z => n (h c z))
theorem Mv.tups {A : Addr → Prop} {H H' : Hp} (m : Mv A H H') (nt : ∀ a, A a → ∀ xs, H a ≠ some (.tup xs)) : Tups H H' := fun a xs e => m a _ e (fun z => nt a z xs e)
theorem WAt.mv {A : Addr → Prop} {C : Addr} {H H' : Hp} {x lv lh d : Addr} {n : Int} {vs hs : List Int} {R : Rows} (h : WAt C H x lv lh d n vs hs R) (m : Mv A H H') (t : Tups H H') (n1 : ¬ A x) (n2 : ¬ A lv) (n3 : ¬ A lh) (n4 : ¬ A d) : WAt C H' x lv lh d n vs hs R := by
  obtain ⟨⟨dx, a⟩, b, c, ⟨kvs, e, f⟩, g, i, j, l⟩ := h
  exact ⟨⟨dx, m _ _ a n1⟩, m _ _ b n2, m _ _ c n3, ⟨kvs, m _ _ e n4, f.mono t⟩, g, i, j, l⟩
theorem KAt.mv {A : Addr → Prop} {H H' : Hp} {kl : Addr} {ls : List Addr} {ks : List (Int × Int)} (h : KAt H kl ls ks) (m : Mv A H H') (n : ∀ b ∈ kl :: ls, ¬ A b) : KAt H' kl ls ks := by
  obtain ⟨a, b, c⟩ := h
  refine ⟨m _ _ a (n _ List.mem_cons_self), ?_, c⟩
  have n2 : ∀ b ∈ ls, ¬ A b := fun b z => n b (List.mem_cons_of_mem _ z)
  clear a c n
  induction b with
  | nil => exact .nil
  | cons x _ ih => exact .cons (m _ _ x (n2 _ List.mem_cons_self)) (ih fun b z => n2 b (List.mem_cons_of_mem _ z))
theorem Pen.mv {A : Addr → Prop} {H H' : Hp} {p c : Addr} (h : Pen H p c) (m : Mv A H H') (n1 : ¬ A p) (n2 : ¬ A c) : Pen H' p c := by
  obtain ⟨ns, a, z, ⟨h1, h2⟩, r⟩ := h
  exact ⟨ns, a, z, ⟨m _ _ h1 n1, m _ _ h2 n2⟩, r⟩
def RulAt (H : Hp) (rd : Addr) (R : List PRule) : Prop := ∃ kvs, H rd = some (.dT kvs) ∧ KvD H kvs (rowsOf R)
theorem RulAt.mv {A : Addr → Prop} {H H' : Hp} {rd : Addr} {R : List PRule} (h : RulAt H rd R) (m : Mv A H H') (t : Tups H H') (n1 : ¬ A rd) : RulAt H' rd R := by
  obtain ⟨kvs, e, f⟩ := h
  exact ⟨kvs, m _ _ e n1, f.mono t⟩
structure HA (C : Addr) (H : Hp) (p c x lv lh d kl rd : Addr) (ls : List Addr) (n : Int) (k1 k2 : List (Int × Int)) (R1 R2 : List PRule) : Prop where
  pen : Pen H p c
  wat : WAt C H x lv lh d n (k1.map (·.1)) (k1.map (·.2)) (rowsOf R1)
  kin : KAt H kl ls k2
  rul : RulAt H rd R2
  nd : (p :: c :: lv :: lh :: kl :: ls).Nodup
  ndr : d ≠ rd
section
variable {C : Addr} {H H' : Hp} {p c x lv lh d kl rd : Addr} {ls : List Addr} {n : Int} {k1 k2 : List (Int × Int)} {R1 R2 : List PRule}
/-- what may change in the course of a history -/
def OldS (p lv lh d kl rd : Addr) (ls : List Addr) (a : Addr) : Prop := a = p ∨ a = lv ∨ a = lh ∨ a = d ∨ a = kl ∨ a = rd ∨ a ∈ ls
theorem HA.old (h : HA C H p c x lv lh d kl rd ls n k1 k2 R1 R2) : OldOk (OldS p lv lh d kl rd ls) H := by
  obtain ⟨pn, ep⟩ := h.pen.at
  obtain ⟨kvs, hd, _⟩ := h.wat.rul
  obtain ⟨kv2, hr, _⟩ := h.rul
  have key : ∀ {a : Addr} {o : HO}, H a = some o → (∀ xs, o ≠ .tup xs) → H a ≠ none ∧ ∀ xs, H a ≠ some (.tup xs) := fun e t => ⟨fun z => (nomatch (e.symm.trans z : some _ = none)), fun xs z => t xs (Option.some.inj (e.symm.trans z))⟩
  rintro a (rfl | rfl | rfl | rfl | rfl | rfl | m)
  · exact key ep (fun _ z => by cases z)
  · exact key h.wat.ver (fun _ z => by cases z)
  · exact key h.wat.hel (fun _ z => by cases z)
  · exact key hd (fun _ z => by cases z)
  · exact key h.kin.at_ (fun _ z => by cases z)
  · exact key hr (fun _ z => by cases z)
  · obtain ⟨k, e⟩ := paired_mem h.kin.all m
    exact key e (fun _ z => by cases z)
theorem HA.oldp (h : HA C H p c x lv lh d kl rd ls n k1 k2 R1 R2) : ∀ a, OldS p lv lh d kl rd ls a → (∃ us, H a = some (.lst us)) ∨ ∃ kvs, H a = some (.dT kvs) := by
  obtain ⟨pn, ep⟩ := h.pen.at
  obtain ⟨kvs, hd, _⟩ := h.wat.rul
  obtain ⟨kv2, hr, _⟩ := h.rul
  rintro a (rfl | rfl | rfl | rfl | rfl | rfl | m)
  · exact .inl ⟨_, ep⟩
  · exact .inl ⟨_, h.wat.ver⟩
  · exact .inl ⟨_, h.wat.hel⟩
  · exact .inr ⟨_, hd⟩
  · exact .inl ⟨_, h.kin.at_⟩
  · exact .inr ⟨_, hr⟩
  · obtain ⟨k, e⟩ := paired_mem h.kin.all m
    exact .inl ⟨_, e⟩
theorem HA.nds (h : HA C H p c x lv lh d kl rd ls n k1 k2 R1 R2) : p ≠ lv ∧ p ≠ lh ∧ p ∉ kl :: ls ∧ c ≠ p ∧ c ≠ lv ∧ c ≠ lh ∧ c ∉ kl :: ls ∧ lv ∉ kl :: ls ∧ lh ∉ kl :: ls := by
  have nd := h.nd
  simp only [List.nodup_cons, List.mem_cons, not_or] at nd ⊢
  obtain ⟨⟨a1, a2, a3, a4, a5⟩, ⟨b1, b2, b3, b4⟩, ⟨c1, c2, c3⟩, ⟨d1, d2⟩, _⟩ := nd
  exact ⟨a2, a3, ⟨a4, a5⟩, fun z => a1 z.symm, b1, b2, ⟨b3, b4⟩, ⟨c2, c3⟩, d1, d2⟩
theorem HA.mv {A : Addr → Prop} (h : HA C H p c x lv lh d kl rd ls n k1 k2 R1 R2) (m : Mv A H H') (t : Tups H H') (P : Pen H' p c) (n1 : ¬ A x) (n2 : ¬ A lv) (n3 : ¬ A lh) (n4 : ¬ A d) (n5 : ∀ b ∈ kl :: ls, ¬ A b) (n6 : ¬ A rd) : HA C H' p c x lv lh d kl rd ls n k1 k2 R1 R2 :=
  ⟨P, h.wat.mv m t n1 n2 n3 n4, h.kin.mv m n5, h.rul.mv m t n6, h.nd, h.ndr⟩
theorem HA.ext (h : HA C H p c x lv lh d kl rd ls n k1 k2 R1 R2) (e : LamX.ExtN H H') : HA C H' p c x lv lh d kl rd ls n k1 k2 R1 R2 := by
  have m := Mv.ext e
  obtain ⟨pn, ep⟩ := h.pen.at
  obtain ⟨ns, _, _, ⟨_, ec⟩, _⟩ := h.pen
  obtain ⟨dx, hx⟩ := h.wat.ins
  obtain ⟨kvs, hd, _⟩ := h.wat.rul
  obtain ⟨kv2, hr, _⟩ := h.rul
  have key : ∀ {a : Addr} {o : HO}, H a = some o → (∀ ps, o ≠ .tbl ps) → ¬ ∃ ps, H a = some (.tbl ps) := fun e t ⟨ps, z⟩ => t ps (Option.some.inj (e.symm.trans z))
  have t : Tups H H' := m.tups fun a ⟨ps, z⟩ xs e2 => by
    rw [z] at e2
    cases e2
  refine h.mv m t (h.pen.mv m (key ep fun _ z => by cases z) (key ec fun _ z => by cases z)) (key hx fun _ z => by cases z) (key h.wat.ver fun _ z => by cases z) (key h.wat.hel fun _ z => by cases z) (key hd fun _ z => by cases z) (fun b hb => ?_) (key hr fun _ z => by cases z)
  rcases List.mem_cons.mp hb with rfl | z
  · exact key h.kin.at_ fun _ z => by cases z
  · obtain ⟨k, e⟩ := paired_mem h.kin.all z
    exact key e fun _ z => by cases z
theorem HA.same (h : HA C H p c x lv lh d kl rd ls n k1 k2 R1 R2) (e : Same H H') : HA C H' p c x lv lh d kl rd ls n k1 k2 R1 R2 := h.ext fun b o u _ => e b o u
theorem HA.draw (h : HA C H p c x lv lh d kl rd ls n k1 k2 R1 R2) (k : Keep p H H') (P : Pen H' p c) : HA C H' p c x lv lh d kl rd ls n k1 k2 R1 R2 := by
  have m : Mv (· = p) H H' := .keep k rfl
  obtain ⟨pn, ep⟩ := h.pen.at
  obtain ⟨dx, hx⟩ := h.wat.ins
  obtain ⟨kvs, hd, _⟩ := h.wat.rul
  obtain ⟨kv2, hr, _⟩ := h.rul
  obtain ⟨a1, a2, a3, _⟩ := h.nds
  exact h.mv m (h.pen.tups k) P (ne_of hx ep (fun z => nomatch z)) a1.symm a2.symm (ne_of hd ep (fun z => nomatch z)) (fun b hb z => a3 (z ▸ hb)) (ne_of hr ep (fun z => nomatch z))
/-- the watcher has changed -/
theorem HA.tool {k1' : List (Int × Int)} {R1' : List PRule} (h : HA C H p c x lv lh d kl rd ls n k1 k2 R1 R2) (m : Mv (fun a => a = lv ∨ a = lh ∨ a = d) H H') (W : WAt C H' x lv lh d n (k1'.map (·.1)) (k1'.map (·.2)) (rowsOf R1')) : HA C H' p c x lv lh d kl rd ls n k1' k2 R1' R2 := by
  obtain ⟨pn, ep⟩ := h.pen.at
  obtain ⟨ns, _, _, ⟨_, ec⟩, _⟩ := h.pen
  obtain ⟨kvs, hd, _⟩ := h.wat.rul
  obtain ⟨kv2, hr, _⟩ := h.rul
  obtain ⟨a1, a2, a3, b0, b1, b2, b3, c1, d1⟩ := h.nds
  have t : Tups H H' := m.tups fun a z xs e => (by
    rcases z with rfl | rfl | rfl
    · rw [h.wat.ver] at e
      cases e
    · rw [h.wat.hel] at e
      cases e
    · rw [hd] at e
      cases e)
  refine ⟨h.pen.mv m ?_ ?_, W, h.kin.mv m ?_, h.rul.mv m t ?_, h.nd, h.ndr⟩
  · rintro (z | z | z)
    · exact a1 z
    · exact a2 z
    · exact ne_of ep hd (fun z => nomatch z) z
  · rintro (z | z | z)
    · exact b1 z
    · exact b2 z
    · exact ne_of ec hd (fun z => nomatch z) z
  · rintro b hb (rfl | rfl | rfl)
    · exact c1 hb
    · exact d1 hb
    · rcases List.mem_cons.mp hb with z | z
      · exact ne_of hd h.kin.at_ (fun z => nomatch z) z
      · obtain ⟨k, e⟩ := paired_mem h.kin.all z
        rw [hd] at e
        cases e
  · rintro (z | z | z)
    · exact ne_of hr h.wat.ver (fun z => nomatch z) z
    · exact ne_of hr h.wat.hel (fun z => nomatch z) z
    · exact h.ndr z.symm
/-- the law's own lists have changed -/
theorem HA.due {k2' : List (Int × Int)} {R2' : List PRule} {ls' : List Addr} (h : HA C H p c x lv lh d kl rd ls n k1 k2 R1 R2) (m : Mv (fun a => a = rd ∨ a ∈ kl :: ls) H H') (W : KAt H' kl ls' k2') (R : RulAt H' rd R2') (nd : (p :: c :: lv :: lh :: kl :: ls').Nodup) : HA C H' p c x lv lh d kl rd ls' n k1 k2' R1 R2' := by
  obtain ⟨pn, ep⟩ := h.pen.at
  obtain ⟨ns, _, _, ⟨_, ec⟩, _⟩ := h.pen
  obtain ⟨dx, hx⟩ := h.wat.ins
  obtain ⟨kvs, hd, _⟩ := h.wat.rul
  obtain ⟨kv2, hr, _⟩ := h.rul
  obtain ⟨a1, a2, a3, b0, b1, b2, b3, c1, d1⟩ := h.nds
  have at_ : ∀ b ∈ kl :: ls, ∃ us, H b = some (.lst us) := fun b hb => by
    rcases List.mem_cons.mp hb with rfl | z
    · exact ⟨_, h.kin.at_⟩
    · obtain ⟨k, e⟩ := paired_mem h.kin.all z
      exact ⟨_, e⟩
  have t : Tups H H' := m.tups fun a z xs e => (by
    rcases z with rfl | z
    · rw [hr] at e
      cases e
    · obtain ⟨us, e2⟩ := at_ _ z
      rw [e2] at e
      cases e)
  refine ⟨h.pen.mv m ?_ ?_, h.wat.mv m t ?_ ?_ ?_ ?_, W, R, nd, h.ndr⟩
  · rintro (z | z)
    · exact ne_of ep hr (fun z => nomatch z) z
    · exact a3 z
  · rintro (z | z)
    · exact ne_of ec hr (fun z => nomatch z) z
    · exact b3 z
  · rintro (z | z)
    · exact ne_of hx hr (fun z => nomatch z) z
    · obtain ⟨us, e⟩ := at_ _ z
      rw [hx] at e
      cases e
  · rintro (z | z)
    · exact ne_of h.wat.ver hr (fun z => nomatch z) z
    · exact c1 z
  · rintro (z | z)
    · exact ne_of h.wat.hel hr (fun z => nomatch z) z
    · exact d1 z
  · rintro (z | z)
    · exact h.ndr z
    · obtain ⟨us, e⟩ := at_ _ z
      rw [hd] at e
      cases e
end
inductive StDue (ks : List (Int × Int)) (d1 d2 : PyData) : PyData → List (Int × Int) → Prop
  | no : ¬ stOk ks.length d1 d2 → StDue ks d1 d2 (stDue ks.length d1 d2) ks
  | yes (a b : Int) : d1 = .int a → d2 = .int b → stOk ks.length d1 d2 → StDue ks d1 d2 (stDue ks.length d1 d2) (ks ++ [(a, b)])
theorem StDue.eq {ks k1 k2 : List (Int × Int)} {d1 d2 D1 D2 : PyData} (u : StDue ks d1 d2 D1 k1) (v : StDue ks d1 d2 D2 k2) : D1 = D2 ∧ k1 = k2 := by
  cases u with
  | no n =>
    cases v with
    | no => exact ⟨rfl, rfl⟩
    | yes _ _ _ _ y => exact absurd y n
  | yes a b e1 e2 y =>
    cases v with
    | no n => exact absurd y n
    | yes a' b' f1 f2 =>
      have h1 := PyData.int.inj (e1.symm.trans f1)
      have h2 := PyData.int.inj (e2.symm.trans f2)
      subst h1 h2
      exact ⟨rfl, rfl⟩
inductive VdDue (ks : List (Int × Int)) (d1 d2 : PyData) : PyData → List (Int × Int) → Prop
  | no : ¬ vdOk ks.length d1 d2 → VdDue ks d1 d2 (vdDue ks.length d1 d2) ks
  | yes (s b : Int) : d1 = .int s → d2 = .int b → vdOk ks.length d1 d2 → VdDue ks d1 d2 (vdDue ks.length d1 d2) (ks.set s.toNat (b, heldAt ks s))
theorem VdDue.eq {ks k1 k2 : List (Int × Int)} {d1 d2 D1 D2 : PyData} (u : VdDue ks d1 d2 D1 k1) (v : VdDue ks d1 d2 D2 k2) : D1 = D2 ∧ k1 = k2 := by
  cases u with
  | no n =>
    cases v with
    | no => exact ⟨rfl, rfl⟩
    | yes _ _ _ _ y => exact absurd y n
  | yes a b e1 e2 y =>
    cases v with
    | no n => exact absurd y n
    | yes a' b' f1 f2 =>
      have h1 := PyData.int.inj (e1.symm.trans f1)
      have h2 := PyData.int.inj (e2.symm.trans f2)
      subst h1 h2
      exact ⟨rfl, rfl⟩

/-! ### what the watcher's calls come to, told -/
abbrev ToolS (lv lh d : Addr) (a : Addr) : Prop := a = lv ∨ a = lh ∨ a = d
section
variable {K : PySem.W.Frag} {mg : Str → Option Value} {H : Hp} {p c x lv lh d kl rd : Addr} {ls : List Addr} {n : Int} {k1 k2 : List (Int × Int)} {R1 R2 : List PRule} {v1 v2 v3 v4 v5 : V} {d1 d2 d3 d4 d5 : PyData} {Q : VK}
/-- what is told of the value -/
abbrev DoneQ (Q : VK) : VK := fun v H1 => ∀ q', H1 q' = none → Q (.ref q') (upd H1 q' (.tup [.str "done", v]))
theorem told_show (T : Tx K mg) {k : Ek} {v : V} {dv : PyData} {e : Addr} (he : H e = none) (lv : LD p H v dv) (f : Fine dv) (sh : k.shows = true) (q : ∀ q' H2, Same H H2 → TD H2 (.ref q') (tell2 k.name (.str dv.shown)) → Q (.ref q') H2) :
    ToldE T Q (.ref (k.cls T)) (some e) (upd H e (.xd [(k.fld, v)])) := by
  refine ⟨k, v, dv, p, e, rfl, rfl, upd_same, fun _ => ⟨lv.mono (But.same (same_new he)), f⟩, fun q' H2 s2 hq => q q' H2 ((same_new he).trans s2) ?_⟩
  rw [show k.tell v dv = .str dv.shown from if_pos sh] at hq
  exact .tup hq (.cons (.str _) (.cons (.str _) .nil))
theorem told_add_state (T : Tx K mg) (h : HA T.Watcher.C H p c x lv lh d kl rd ls n k1 k2 R1 R2) (l1 : LD p H v1 d1) (l2 : LD p H v2 d2) (f1 : Fine d1)
    (q : ∀ v H' k1' D, Mv (ToolS lv lh d) H H' → StDue k1 d1 d2 D k1' → TD H' v D → WAt T.Watcher.C H' x lv lh d n (k1'.map (·.1)) (k1'.map (·.2)) (rowsOf R1) → Q v H') :
    sp_add_state T.Watcher.C T.NotAVerdict.C T.LimitExceeded.C [.ref x, v1, v2] H (DoneQ Q) (ToldE T Q) := by
  have W := h.wat
  have ll : (k1.map (·.1)).length = k1.length := List.length_map _
  have no : ∀ {v H'} D, Same H H' → ¬ stOk k1.length d1 d2 → stDue k1.length d1 d2 = D → TD H' v D → Q v H' := fun D s n e t => q _ _ k1 D (.same s) (e ▸ .no n) t (W.mono s)
  have lim : ∀ (m : Int) (e : Addr), H e = none → ¬ stOk k1.length d1 d2 → stDue k1.length d1 d2 = tell2 "limit" (.int m) → ToldE T Q (.ref T.LimitExceeded.C) (some e) (upd H e (.xd [("limit", .int m)])) := fun m e he n ed =>
    ⟨.limit, .int m, .none, p, e, rfl, rfl, upd_same, fun z => Bool.noConfusion z, fun q' H2 s2 hq => no _ ((same_new he).trans s2) n ed (.tup hq (.cons (.str _) (.cons (.int _) .nil)))⟩
  refine ⟨x, lv, lh, d, n, _, _, rowsOf R1, p, v1, v2, d1, d2, rfl, W, l1, l2, fun b1 e he => ?_, fun b1 b2 e he => ?_, fun b1 b2 b3 e he => ?_, fun a b e1 e2 b1 b2 b3 H' fr W' => ?_⟩
  · exact told_show (k := .verdict) T he l1 f1 rfl fun q' H2 s t => no _ s (fun z => bt_no z.1 b1) (by rw [stDue, if_pos b1]; rfl) t
  · exact lim 3 e he (fun z => bt_no z.2.1 b2) (by rw [stDue, if_neg (by rw [b1]; exact Bool.noConfusion), if_pos b2])
  · rw [ll] at b3
    exact lim 6 e he (fun z => absurd z.2.2 (by omega)) (by rw [stDue, if_neg (by rw [b1]; exact Bool.noConfusion), if_neg (by rw [b2]; exact Bool.noConfusion), if_pos b3])
  · rw [ll] at b3
    intro q' nq
    have s := same_new (o := .tup [.str "done", .int ((k1.map (·.1)).length : Nat)]) nq
    refine q _ _ (k1 ++ [(a, b)]) _ (fun c o e nc => s _ _ (fr c o e (fun z => nc (.inl z)) fun z => nc (.inr (.inl z)))) (.yes a b e1 e2 ⟨b1, b2, b3⟩) ?_ ?_
    · rw [stDue, if_neg (by rw [b1]; exact Bool.noConfusion), if_neg (by rw [b2]; exact Bool.noConfusion), if_neg (by omega), ← ll]
      exact .tup upd_same (.cons (.str _) (.cons (.int _) .nil))
    · have W2 := W'.mono s
      rw [List.map_append, List.map_append]
      exact W2
theorem told_set_verdict (T : Tx K mg) (h : HA T.Watcher.C H p c x lv lh d kl rd ls n k1 k2 R1 R2) (l1 : LD p H v1 d1) (l2 : LD p H v2 d2) (f1 : Fine d1) (f2 : Fine d2)
    (q : ∀ v H' k1' D, Mv (ToolS lv lh d) H H' → VdDue k1 d1 d2 D k1' → TD H' v D → WAt T.Watcher.C H' x lv lh d n (k1'.map (·.1)) (k1'.map (·.2)) (rowsOf R1) → Q v H') :
    sp_set_verdict T.Watcher.C T.UnknownState.C T.NotAVerdict.C [.ref x, v1, v2] H (DoneQ Q) (ToldE T Q) := by
  have W := h.wat
  have ll : (k1.map (·.1)).length = k1.length := List.length_map _
  have no : ∀ {v H'} D, Same H H' → ¬ vdOk k1.length d1 d2 → vdDue k1.length d1 d2 = D → TD H' v D → Q v H' := fun D s n e t => q _ _ k1 D (.same s) (e ▸ .no n) t (W.mono s)
  refine ⟨x, lv, lh, d, n, _, _, rowsOf R1, p, v1, v2, d1, d2, rfl, W, l1, l2, fun b1 e he => ?_, fun b1 b2 e he => ?_, fun s b e1 e2 s0 s1 b0 b3 H' fr W' => ?_⟩
  · rw [ll] at b1
    exact told_show (k := .state) T he l1 f1 rfl fun q' H2 s t => no _ s (fun z => bt_no z.1 b1) (by rw [vdDue, if_pos b1]; rfl) t
  · rw [ll] at b1
    exact told_show (k := .verdict) T he l2 f2 rfl fun q' H2 s t => no _ s (fun z => bt_no z.2 b2) (by rw [vdDue, if_neg (by rw [b1]; exact Bool.noConfusion), if_pos b2]; rfl) t
  · rw [ll] at s1
    intro q' nq
    have b1 : btw d1 0 ((k1.length : Int) - 1) = true := by rw [e1]; exact btw_true s0 (by omega)
    have b2 : btw d2 0 3 = true := by rw [e2]; exact btw_true b0 b3
    have ss := same_new (o := .tup [.str "done", .non]) nq
    refine q _ _ (k1.set s.toNat (b, heldAt k1 s)) _ (fun c o e nc => ss _ _ (fr c o e (fun z => nc (.inl z)))) (.yes s b e1 e2 ⟨b1, b2⟩) ?_ ?_
    · rw [vdDue, if_neg (by rw [b1]; exact Bool.noConfusion), if_neg (by rw [b2]; exact Bool.noConfusion)]
      exact .tup upd_same (.cons (.str _) (.cons .non .nil))
    · have W2 := W'.mono ss
      obtain ⟨j, rfl⟩ : ∃ j : Nat, s = j := ⟨s.toNat, by omega⟩
      have hj : j < k1.length := by omega
      have eh : (k1.set j (b, heldAt k1 (j : Int))).map (·.2) = k1.map (·.2) := by
        rw [List.map_set]
        refine List.ext_getElem (by simp) fun i h1 h2 => ?_
        rw [List.getElem_set]
        split
        · rename_i e
          subst e
          unfold heldAt
          rw [Int.toNat_natCast, List.getElem?_eq_getElem hj, List.getElem_map]
          rfl
        · rfl
      rw [Int.toNat_natCast] at W2 ⊢
      rw [eh, List.map_set]
      exact W2
theorem told_add_rule (T : Tx K mg) (h : HA T.Watcher.C H p c x lv lh d kl rd ls n k1 k2 R1 R2) (l1 : LD p H v1 d1) (l2 : LD p H v2 d2) (l3 : LD p H v3 d3) (l4 : LD p H v4 d4) (l5 : LD p H v5 d5) (f1 : Fine d1) (f2 : Fine d2) (f3 : Fine d3) (f4 : Fine d4) (f5 : Fine d5) (n3 : isDctD d3 = false) (sm : SmallT d5) (lR : R1.length < 1000)
    (q : ∀ v H' R1' D, Mv (ToolS lv lh d) H H' → RuleDue n k1 R1 d1 d2 d3 d4 d5 D R1' → TD H' v D → WAt T.Watcher.C H' x lv lh d n (k1.map (·.1)) (k1.map (·.2)) (rowsOf R1') → Q v H') :
    sp_add_rule T.Watcher.C ⟨T.UnknownState.C, T.NotAWord.C, T.InvalidTest.C, T.InvalidSources.C, T.RuleExists.C⟩ [.ref x, v1, v2, v3, v4, v5] H (DoneQ Q) (ToldE T Q) := by
  have W := h.wat
  have ll : (k1.map (·.1)).length = k1.length := List.length_map _
  have hh : ∀ i, hAt (k1.map (·.2)) i = heldAt k1 i := fun i => by
    unfold hAt heldAt
    rw [List.getElem?_map]
    cases k1[i.toNat]? <;> rfl
  have no : ∀ {v H'} D, Same H H' → RuleDue n k1 R1 d1 d2 d3 d4 d5 D R1 → TD H' v D → Q v H' := fun D s r t => q _ _ R1 D (.same s) r t (W.mono s)
  refine ⟨x, lv, lh, d, n, _, _, rowsOf R1, p, v1, v2, v3, v4, v5, d1, d2, d3, d4, d5, rfl, W, l1, l2, l3, l4, l5, n3, sm, by unfold rowsOf; rw [List.length_map]; exact lR, fun b1 e he => ?_, fun b1 b4 e he => ?_, fun b1 b4 b2 e he => ?_, fun s g w e1 e4 e2 s0 s1 g0 g1 w0 w1 => ?_⟩
  · rw [ll] at b1
    exact told_show (k := .state) T he l1 f1 rfl fun q' H2 s t => no _ s (.state b1) t
  · rw [ll] at b1 b4
    exact told_show (k := .state) T he l4 f4 rfl fun q' H2 s t => no _ s (.target b1 b4) t
  · rw [ll] at b1 b4
    exact told_show (k := .word) T he l2 f2 rfl fun q' H2 s t => no _ s (.word b1 b4 b2) t
  · rw [ll] at s1 g1
    have b1 : btw d1 0 ((k1.length : Int) - 1) = true := by rw [e1]; exact btw_true s0 (by omega)
    have b4 : btw d4 0 ((k1.length : Int) - 1) = true := by rw [e4]; exact btw_true g0 (by omega)
    have b2 : btw d2 0 (n - 1) = true := by rw [e2]; exact btw_true w0 (by omega)
    rw [hh, hh]
    refine ⟨fun bad e he => told_show (k := .test) T he l3 f3 rfl fun q' H2 s2 t => no _ s2 (.test s w g e1 e2 e4 b1 b4 b2 bad) t, fun t ev ed it => ⟨fun bad e he => told_show (k := .sources) T he l5 f5 rfl fun q' H2 s2 t2 => no _ s2 (.sources s w g t e1 e2 e4 b1 b4 b2 ed (by rw [ed]; exact it) bad) t2, fun kk ok => ⟨fun hk TT nT e he => ?_, fun hk H' fr W' q' nq => ?_⟩⟩⟩
    · rw [rowsOf_keys] at hk
      have sT := same_new (o := .tup [.int s, .int w, v3]) nT
      have se := same_new (o := .xd [("rule", .ref TT)]) he
      refine ⟨.exists_, .ref TT, .none, p, e, rfl, rfl, upd_same, fun z => Bool.noConfusion z, fun q' H2 s2 hq => no _ (sT.trans (se.trans s2)) (.there s w g t kk e1 e2 e4 b1 b4 b2 ed (by rw [ed]; exact it) ok hk) (.tup hq (.cons (.str _) (.cons (.tup (s2 _ _ (se _ _ upd_same)) (.cons (.int _) (.cons (.int _) (.cons ?_ .nil)))) .nil)))⟩
      rw [ev]
      cases t with
      | inl z => exact .int z
      | inr z => exact .str z
    · rw [rowsOf_keys] at hk
      have ss := same_new (o := .tup [.str "done", .non]) nq
      have W2 := W'.mono ss
      refine q _ _ _ _ (fun c o e nc => ss _ _ (fr c o e (fun z => nc (.inr (.inr z))))) (.done s w g t kk e1 e2 e4 b1 b4 b2 ed (by rw [ed]; exact it) ok hk) (.tup upd_same (.cons (.str _) (.cons .non .nil))) ?_
      rw [rowsOf_snoc]
      exact W2
theorem told_remove_rule (T : Tx K mg) (h : HA T.Watcher.C H p c x lv lh d kl rd ls n k1 k2 R1 R2) (l1 : LD p H v1 d1) (l2 : LD p H v2 d2) (l3 : LD p H v3 d3) (f : Fine (.tuple [d1, d2, d3])) (pp : H p ≠ none) (rk : ∀ k ∈ R1.map (·.1), RKs k)
    (q : ∀ v H' R1' D, Mv (ToolS lv lh d) H H' → GoneDue R1 d1 d2 d3 D R1' → TD H' v D → WAt T.Watcher.C H' x lv lh d n (k1.map (·.1)) (k1.map (·.2)) (rowsOf R1') → Q v H') :
    sp_remove_rule T.Watcher.C T.UnknownRule.C [.ref x, v1, v2, v3] H (DoneQ Q) (ToldE T Q) := by
  have W := h.wat
  have no : ∀ (TT e : Addr), H TT = none → upd H TT (.tup [v1, v2, v3]) e = none → (∀ (s w : Int) (t : Key), d1 = .int s → d2 = .int w → d3 = kD t → [Sum.inl s, Sum.inl w, t] ∉ R1.map (·.1)) → ToldE T Q (.ref T.UnknownRule.C) (some e) (upd (upd H TT (.tup [v1, v2, v3])) e (.xd [("rule", .ref TT)])) := fun TT e nT ne nk => by
    have sT := same_new (o := .tup [v1, v2, v3]) nT
    have lT : LD p (upd H TT (.tup [v1, v2, v3])) (.ref TT) (.tuple [d1, d2, d3]) := .tup (ne_at pp nT) upd_same (.cons (l1.mono (But.same sT)) (.cons (l2.mono (But.same sT)) (.cons (l3.mono (But.same sT)) .nil)))
    exact told_show (k := .rule) T ne lT f rfl fun q' H2 s t => q _ _ R1 _ (.same (sT.trans s)) (.none nk) t (W.mono (sT.trans s))
  refine ⟨x, lv, lh, d, n, _, _, rowsOf R1, p, v1, v2, v3, d1, d2, d3, rfl, W, l1, l2, l3, fun bad TT nT e ne => ?_, fun s w t e1 e2 e3 ok => ⟨fun hk TT nT e ne => ?_, fun hk H' fr W' q' nq => ?_⟩⟩
  · refine no TT e nT ne fun s w t e1 e2 e3 hk => ?_
    obtain ⟨s', w', t', ek, _, _, _, _, tk⟩ := rk _ hk
    injection ek with ek1 ek
    injection ek with ek2 ek
    injection ek with ek3 _
    rw [e1, e2, e3, ek3] at bad
    rcases tk with ⟨j, rfl, _⟩ | rfl
    · rw [show mayBe (.int s) (.int w) (kD (Sum.inl j)) = true from by show (true && (true && (false || true))) = true; rfl] at bad
      cases bad
    · rw [show mayBe (.int s) (.int w) (kD (Sum.inr ("new" : Str))) = true from rfl] at bad
      cases bad
  · subst e1 e2 e3
    obtain rfl : d1 = .int s := by cases l1; rfl
    obtain rfl : d2 = .int w := by cases l2; rfl
    obtain rfl : d3 = kD t := by cases t <;> (cases l3; rfl)
    rw [rowsOf_keys] at hk
    refine no TT e nT ne fun s2 w2 t2 f1 f2 f3 hk2 => ?_
    rw [← PyData.int.inj f1, ← PyData.int.inj f2, ← kD_inj f3] at hk2
    exact hk hk2
  · subst e1 e2 e3
    obtain rfl : d1 = .int s := by cases l1; rfl
    obtain rfl : d2 = .int w := by cases l2; rfl
    obtain rfl : d3 = kD t := by cases t <;> (cases l3; rfl)
    rw [rowsOf_keys] at hk
    have ss := same_new (o := .tup [.str "done", .non]) nq
    have W2 := W'.mono ss
    refine q _ _ _ _ (fun c o e nc => ss _ _ (fr c o e (fun z => nc (.inr (.inr z))))) (.gone s w t rfl rfl rfl hk) (.tup upd_same (.cons (.str _) (.cons .non .nil))) ?_
    rw [rowsOf_drop]
    exact W2
end

/-! ### the order of rules; what is told and awaited is alike -/
def rank9 : List Key → List Int
  | [Sum.inl i, Sum.inl j, Sum.inl r] => [i, j, r]
  | [Sum.inl i, Sum.inl j, Sum.inr _] => [i, j, 9]
  | _ => [0, 0, 0]
theorem rank9_cons (k : List Key) : ∃ x r, rank9 k = x :: r := by
  unfold rank9
  split <;> exact ⟨_, _, rfl⟩
theorem rank9_len (k : List Key) : (rank9 k).length = 3 := by
  unfold rank9
  split <;> rfl
def KB (k : List Key) : Prop := ∃ (i j : Int) (t : Key), k = [Sum.inl i, Sum.inl j, t] ∧ ((∃ r : Int, t = Sum.inl r ∧ 0 ≤ r ∧ r < 3) ∨ t = Sum.inr ("new" : Str))
theorem KB.rk {k : List Key} (h : KB k) : RK k := by
  obtain ⟨i, j, t, rfl, ⟨r, rfl, _, _⟩ | rfl⟩ := h
  · exact ⟨i, j, _, rfl, .inl ⟨r, rfl⟩⟩
  · exact ⟨i, j, _, rfl, .inr rfl⟩
theorem le3 (a b c a' b' c' : Int) : ([a, b, c] ≤ [a', b', c']) ↔ (a < a' ∨ (a = a' ∧ (b < b' ∨ (b = b' ∧ c ≤ c')))) := by
  simp only [List.cons_le_cons_iff, List.le_refl, and_true]
  omega
theorem rank_le {a b : List Key} (ha : KB a) (hb : KB b) : rankK a ≤ rankK b ↔ rank9 a ≤ rank9 b := by
  obtain ⟨i, j, t, rfl, ⟨r, rfl, r0, r1⟩ | rfl⟩ := ha <;> obtain ⟨i', j', t', rfl, ⟨r', rfl, r0', r1'⟩ | rfl⟩ := hb <;> (simp only [rankK, rank9, le3] <;> omega)
theorem rank_anti {a b : List Key} (ha : KB a) (hb : KB b) (h1 : rank9 a ≤ rank9 b) (h2 : rank9 b ≤ rank9 a) : a = b := by
  obtain ⟨i, j, t, rfl, ⟨r, rfl, r0, r1⟩ | rfl⟩ := ha <;> obtain ⟨i', j', t', rfl, ⟨r', rfl, r0', r1'⟩ | rfl⟩ := hb <;> simp only [rank9, le3] at h1 h2
  · have e1 : i = i' := by omega
    have e2 : j = j' := by omega
    have e3 : r = r' := by omega
    rw [e1, e2, e3]
  · omega
  · omega
  · have e1 : i = i' := by omega
    have e2 : j = j' := by omega
    rw [e1, e2]
theorem list_le_total (a b : List Int) : a ≤ b ∨ b ≤ a := List.le_total a b
theorem srt_pw (rank : List Key → List Int) (ks : List (List Key)) : (srt rank ks).Pairwise fun a b => rank a ≤ rank b := by
  have h := List.pairwise_mergeSort (le := fun a b => decide (rank a ≤ rank b)) (fun a b c h1 h2 => decide_eq_true (List.le_trans (of_decide_eq_true h1) (of_decide_eq_true h2))) (fun a b => by
    rw [Bool.or_eq_true, decide_eq_true_iff, decide_eq_true_iff]
    exact list_le_total _ _) ks
  exact h.imp fun z => of_decide_eq_true z
theorem srt_eq {k1 k2 : List (List Key)} (p : k1.Perm k2) (h : ∀ k ∈ k1, KB k) : srt rankK k1 = srt rank9 k2 := by
  have m1 : ∀ k ∈ srt rankK k1, KB k := fun k hk => h k (srt_mem.mp hk)
  have m2 : ∀ k ∈ srt rank9 k2, KB k := fun k hk => h k (p.mem_iff.mpr (srt_mem.mp hk))
  refine List.Perm.eq_of_pairwise (le := fun a b => rank9 a ≤ rank9 b) (fun a b ha hb => rank_anti (m1 a ha) (m2 b hb)) ?_ (srt_pw _ _) (((List.mergeSort_perm k1 _).trans p).trans (List.mergeSort_perm k2 _).symm)
  exact (srt_pw rankK k1).imp_of_mem fun ha hb z => (rank_le (m1 _ ha) (m1 _ hb)).mp z
theorem lookR_mem {R : Rows} (nd : (R.map (·.1)).Nodup) {k : List Key} {d : PyData} (h : (k, d) ∈ R) : lookR R k = d := by
  induction R with
  | nil => cases h
  | cons p r ih =>
    unfold lookR
    have nd' := List.nodup_cons.mp nd
    rcases List.mem_cons.mp h with e | e
    · subst e
      rw [List.find?_cons_of_pos (by simp)]
      rfl
    · have : ¬ p.1 = k := fun z => nd'.1 (List.mem_map.mpr ⟨_, e, z.symm⟩)
      rw [List.find?_cons_of_neg (by simpa using this)]
      exact ih nd'.2 e
theorem heldAt_app {ks : List (Int × Int)} {m : Int × Int} {i : Int} (h0 : 0 ≤ i) (h1 : i < ks.length) : heldAt (ks ++ [m]) i = heldAt ks i := by
  unfold heldAt
  rw [List.getElem?_append_left (by omega)]
theorem heldAt_set {ks : List (Int × Int)} {s : Int} {a : Int} (i : Int) (s0 : 0 ≤ s) (i0 : 0 ≤ i) : heldAt (ks.set s.toNat (a, heldAt ks s)) i = heldAt ks i := by
  unfold heldAt
  rw [List.getElem?_set]
  by_cases e : s.toNat = i.toNat
  · rw [if_pos e]
    have es : s = i := by omega
    subst es
    by_cases h : s.toNat < ks.length
    · rw [if_pos h]
      rfl
    · rw [if_neg h, List.getElem?_eq_none (by omega)]
  · rw [if_neg e]
theorem RuleOk.kinds {w : Int} {ks ks' : List (Int × Int)} {r : PRule} (h : RuleOk w ks r) (hl : ks.length ≤ ks'.length) (hh : ∀ i : Int, 0 ≤ i → i < ks.length → heldAt ks' i = heldAt ks i) : RuleOk w ks' r := by
  obtain ⟨i, j, t, e, i0, i1, j0, j1, ht, g0, g1, hs⟩ := h
  refine ⟨i, j, t, e, i0, by omega, j0, j1, ?_, g0, by omega, ?_⟩
  · rw [hh i i0 i1]
    exact ht
  · rw [hh i i0 i1, hh _ g0 g1]
    exact hs
/-- a rank beside a number -/
abbrev RkN := Int × Int × Int × Int
def encR (b : RkN) : PyData := .tuple [.tuple [.int b.1, .int b.2.1, .int b.2.2.1], .int b.2.2.2]
def leR (p q : RkN) : Prop := p.1 < q.1 ∨ (p.1 = q.1 ∧ (p.2.1 < q.2.1 ∨ (p.2.1 = q.2.1 ∧ (p.2.2.1 < q.2.2.1 ∨ (p.2.2.1 = q.2.2.1 ∧ p.2.2.2 ≤ q.2.2.2)))))
theorem lexI {a b : Int} {r t : List (Int ⊕ List Nat)} : PyProof.Rows.lexLt PyProof.Rows.itemOrd (.inl a :: r) (.inl b :: t) = true ↔ a < b ∨ (¬ b < a ∧ PyProof.Rows.lexLt PyProof.Rows.itemOrd r t = true) := by
  rw [PyProof.Rows.lex_true]
  show decide (a < b) = true ∨ (decide (b < a) = false ∧ _) ↔ _
  rw [decide_eq_true_iff, decide_eq_false_iff_not]
theorem lexN : PyProof.Rows.lexLt PyProof.Rows.itemOrd [] [] = true ↔ False := ⟨fun z => Bool.noConfusion z, False.elim⟩
theorem le_encR {β : Type} (f : β → RkN) (p q : β) : PySem.W.dataLe false (fun b => encR (f b)) p q = true ↔ leR (f p) (f q) := by
  rw [PySem.W.dataLe_eq]
  show (!PySem.W.dataLt (encR (f q)) (encR (f p))) = true ↔ _
  obtain ⟨i, j, r, a⟩ := f p
  obtain ⟨i', j', r', a'⟩ := f q
  have e : PySem.W.dataLt (encR (i', j', r', a')) (encR (i, j, r, a)) = decide (i' < i ∨ (i' = i ∧ (j' < j ∨ (j' = j ∧ (r' < r ∨ (r' = r ∧ a' < a)))))) := by
    show PyProof.Rows.lexLt PyProof.Rows.itemOrd [.inl 1, .inl 1, .inl i', .inl 1, .inl j', .inl 1, .inl r', .inl 0, .inl 1, .inl a', .inl 0] [.inl 1, .inl 1, .inl i, .inl 1, .inl j, .inl 1, .inl r, .inl 0, .inl 1, .inl a, .inl 0] = _
    rw [Bool.eq_iff_iff, decide_eq_true_iff]
    repeat rw [lexI]
    rw [lexN]
    simp only [Int.lt_irrefl, false_or, not_false_eq_true, true_and, and_false, or_false]
    constructor
    · intro h
      omega
    · intro h
      omega
  rw [e]
  simp only [Bool.not_eq_true', decide_eq_false_iff_not, leR]
  omega
def enK (k : List Key) (n : Nat) : RkN := match rank9 k with
  | [i, j, r] => (i, j, r, (n : Int))
  | _ => (0, 0, 0, (n : Int))
theorem enK_le {a b : List Key} (ha : KB a) (hb : KB b) {n m : Nat} (h : leR (enK a n) (enK b m)) : rank9 a ≤ rank9 b := by
  obtain ⟨i, j, t, rfl, ⟨r, rfl, r0, r1⟩ | rfl⟩ := ha <;> obtain ⟨i', j', t', rfl, ⟨r', rfl, r0', r1'⟩ | rfl⟩ := hb <;> simp only [enK, rank9, le3, leR] at h ⊢ <;> omega
/-- the keys, sorted beside their numbers -/
theorem keys_sorted {β : Type} (f : β → RkN) (g : β → List Key) (num : β → Nat) (bs : List β) (hf : ∀ b ∈ bs, f b = enK (g b) (num b)) (hk : ∀ b ∈ bs, KB (g b)) : (bs.mergeSort (PySem.W.dataLe false fun b => encR (f b))).map g = srt rank9 (bs.map g) := by
  have tr : ∀ a b c : β, PySem.W.dataLe false (fun b => encR (f b)) a b = true → PySem.W.dataLe false (fun b => encR (f b)) b c = true → PySem.W.dataLe false (fun b => encR (f b)) a c = true := fun a b c h1 h2 => by
    rw [le_encR] at h1 h2 ⊢
    unfold leR at *
    omega
  have tot : ∀ a b : β, (PySem.W.dataLe false (fun b => encR (f b)) a b || PySem.W.dataLe false (fun b => encR (f b)) b a) = true := fun a b => by
    rw [Bool.or_eq_true, le_encR, le_encR]
    unfold leR
    omega
  have pw := List.pairwise_mergeSort tr tot bs
  have pm := List.mergeSort_perm bs (PySem.W.dataLe false fun b => encR (f b))
  have m1 : ∀ k ∈ (bs.mergeSort (PySem.W.dataLe false fun b => encR (f b))).map g, KB k := fun k h => by
    obtain ⟨b, hb, rfl⟩ := List.mem_map.mp h
    exact hk b (pm.mem_iff.mp hb)
  have m2 : ∀ k ∈ srt rank9 (bs.map g), KB k := fun k h => by
    obtain ⟨b, hb, rfl⟩ := List.mem_map.mp (srt_mem.mp h)
    exact hk b hb
  refine List.Perm.eq_of_pairwise (le := fun a b => rank9 a ≤ rank9 b) (fun a b ha hb => rank_anti (m1 a ha) (m2 b hb)) ?_ (srt_pw _ _) ((pm.map g).trans (List.mergeSort_perm (bs.map g) _).symm)
  refine List.pairwise_map.mpr (pw.imp_of_mem fun {a b} ha hb h => ?_)
  have ha' := pm.mem_iff.mp ha
  have hb' := pm.mem_iff.mp hb
  rw [le_encR, hf a ha', hf b hb'] at h
  exact enK_le (hk a ha') (hk b hb') h
/-- what is told twice is the same -/
def rNeR : R2 := fun x y H Q => rNeT x y H Q ∨ rNeS x y H Q
theorem op_neR {X : Cx} (hu : X.A.units + 64 < cLine) : OpR X (compareOp .NotEq) rNeR := by
  intro pins s σ H x y v u Q I rx ry h
  rcases h with h | h
  · exact op_neT hu pins s σ H x y v u Q I rx ry h
  · exact op_neS hu pins s σ H x y v u Q I rx ry h
/-- a row that is told -/
def ResD (D : PyData) : Prop := (∃ n s : Str, D = tell2 n (.str s)) ∨ SeqAt.shaped D = true
theorem ne_res {D : PyData} (h : ResD D) {x y : V} {H : Hp} {Q : VK} (hx : TD H x D) (hy : TD H y D) (q : Q (.bl false) H) : rNeR x y H Q := by
  rcases h with ⟨n, s, rfl⟩ | h
  · right
    cases hx with
    | @tup a xs _ ha hs =>
      cases hy with
      | @tup b ys _ hb ht =>
        cases hs with
        | cons a1 a2 =>
          cases a1
          cases a2 with
          | cons b1 b2 =>
            cases b1
            cases b2
            cases ht with
            | cons c1 c2 =>
              cases c1
              cases c2 with
              | cons d1 d2 =>
                cases d1
                cases d2
                refine ⟨a, b, n, s, n, s, rfl, rfl, ha, hb, ?_⟩
                rw [show (!(n == n && s == s)) = false by simp]
                exact q
  · left
    refine ⟨D, D, hx, hy, h, h, ?_⟩
    rw [SeqAt.eqv_refl D (SeqAt.canLay_of_shaped h)]
    exact q
theorem sh_int {n : Str} (h : PyData.strOk n = true) (m : Int) : SeqAt.shaped (tell2 n (.int m)) = true := by
  simp only [SeqAt.shaped, tell2, PyData.canLay0, PyData.canLayAll0, h, PyData.depth, PyData.depthAll]
  rfl
theorem sh_non {n : Str} (h : PyData.strOk n = true) : SeqAt.shaped (tell2 n .none) = true := by
  simp only [SeqAt.shaped, tell2, PyData.canLay0, PyData.canLayAll0, h, PyData.depth, PyData.depthAll]
  rfl
theorem StDue.res {ks k' : List (Int × Int)} {d1 d2 D : PyData} (h : StDue ks d1 d2 D k') : ResD D := by
  have : ∀ n, ResD (stDue n d1 d2) := fun n => by
    unfold stDue
    split
    · exact .inl ⟨_, _, rfl⟩
    · split
      · exact .inr (sh_int (by decide +kernel) _)
      · split
        · exact .inr (sh_int (by decide +kernel) _)
        · exact .inr (sh_int (by decide +kernel) _)
  cases h <;> exact this _
theorem VdDue.res {ks k' : List (Int × Int)} {d1 d2 D : PyData} (h : VdDue ks d1 d2 D k') : ResD D := by
  have : ∀ n, ResD (vdDue n d1 d2) := fun n => by
    unfold vdDue
    split
    · exact .inl ⟨_, _, rfl⟩
    · split
      · exact .inl ⟨_, _, rfl⟩
      · exact .inr (sh_non (by decide +kernel))
  cases h <;> exact this _
theorem GoneDue.res {R R' : List PRule} {d1 d2 d3 D : PyData} (h : GoneDue R d1 d2 d3 D R') : ResD D := by
  cases h with
  | gone => exact .inr (sh_non (by decide +kernel))
  | none => exact .inl ⟨_, _, rfl⟩
theorem RuleDue.res {n : Int} {ks : List (Int × Int)} {R R' : List PRule} {d1 d2 d3 d4 d5 D : PyData} (h : RuleDue n ks R d1 d2 d3 d4 d5 D R') : ResD D := by
  cases h with
  | there s w g t kk e1 e2 e4 b1 b4 b2 e3 it ok hk =>
    obtain ⟨t', ev⟩ : ∃ t' : Key, kD t = kD t' ∧ ((∃ r, t' = Sum.inl r) ∨ t' = Sum.inr ("new" : Str)) := by
      refine ⟨t, rfl, ?_⟩
      rw [e3] at it
      obtain ⟨t2, _, et, tk⟩ := test_key' (p := 0) (H := fun _ => none) (ldK t) it
      rw [kD_inj et]
      exact tk
    obtain ⟨ev, tk⟩ := ev
    refine .inr ?_
    rw [ev]
    rcases tk with ⟨r, rfl⟩ | rfl
    · simp only [SeqAt.shaped, tell2, kD, PyData.canLay0, PyData.canLayAll0, PyData.depth, PyData.depthAll]
      decide +kernel
    · simp only [SeqAt.shaped, tell2, kD, PyData.canLay0, PyData.canLayAll0, PyData.depth, PyData.depthAll]
      decide +kernel
  | done => exact .inr (sh_non (by decide +kernel))
  | _ => exact .inl ⟨_, _, rfl⟩

/-! ### the rank of a rule -/
def sp_law_rank : Sp := fun us H Q _ => ∃ (a : Addr) (k : List Key), us = [.ref a] ∧ H a = some (.tup (k.map kV)) ∧ KB k ∧ ∀ t H', Same H H' → H' t = some (.tup ((rank9 k).map V.int)) → Q (.ref t) H'
section
variable {P : Program} {w : World} {K : PySem.W.Frag} {mg : Str → Option Value} {base : Heap}
abbrev N_law_rank : List Str := ["rule"]
theorem sc_law_rank : FnScope N_law_rank ["rule"] (defScope s_law_rank) := ⟨rfl, rfl, rfl, by decide +kernel, rfl, by decide +kernel, by decide +kernel⟩
theorem G_law_rank (T : Tx K mg) : FnG P w K mg base CX0 1 T.law_rank.f T.law_rank.fd ["rule"] sp_law_rank := by
  refine okG T.law_rank.F sc_law_rank (fun vs H Q E h => ?_) (fun cdv A outer s H vs Q E gd hr h => ?_)
  · obtain ⟨a, k, rfl, _⟩ := h
    rfl
  · obtain ⟨a, k, rfl, ha, hk, q⟩ := h
    refine ⟨_, 
      (pss_one (ps_ret (pe_tup (pa_cons (pe_ix ix_tup (pv 0) pe_int (fun _ _ => rfl)) (pa_cons (pe_ix ix_tup (pv 0) pe_int (fun _ _ => rfl)) (pa_cons (pe_ifExp (pt_cmpR op_eq (pe_ix ix_tup (pv 0) pe_int (fun _ _ => rfl)) pe_str (nomark _)) pe_int (pe_ix ix_tup (pv 0) pe_int (fun _ _ => rfl))) pa_nil)))))) -- return (rule[0], rule[1], 9 if rule[2] == 'new' else rule[2])
       , ?_⟩
    obtain ⟨i, j, t, rfl, tk⟩ := hk
    refine ⟨.ref a, rfl, a, _, 0, .int i, rfl, rfl, SqT.of ha, rfl, .ref a, rfl, a, _, 1, .int j, rfl, rfl, SqT.of ha, rfl, .ref a, rfl, a, _, 2, kV t, rfl, rfl, SqT.of ha, rfl, ?_⟩
    rcases tk with ⟨r, rfl, r0, r1⟩ | rfl
    · refine ⟨rfl, false, rfl, iteF ⟨.ref a, rfl, a, _, 2, .int r, rfl, rfl, SqT.of ha, rfl, by show 3 ≤ sizeLine; decide, fun t nt => q _ _ (same_new nt) upd_same⟩⟩
    · refine ⟨rfl, true, rfl, iteT ⟨by show 3 ≤ sizeLine; decide, fun t nt => q _ _ (same_new nt) upd_same⟩⟩
end

/-! ### _law_outcome over a lambda -/
section
variable {X : Cx}
theorem pe_told (T : Tx X.K X.mg) {c P : Addr} {k : Nat} {params : Arguments} {body : Expr} {scope : Scope} {t : XK → TE} {p lpos pos : Pos} (TB : LamX.TabB X.base X.mg c P) (hcode : X.env.code = .ref c) {q0 : Str} (hq : X.env.qual = q0) (gd : X.A.guards = some []) (hr : Room (k + 2) X.A) (hg : Gl X "_law_outcome")
    (L : LamX.LamS X.env.scope scope) (hdef : defaultsOf params X.env = ([], []))
    (hbind : ∀ (q : Str) (cl : List (Str × Addr)) (pm cv ctv : Value), bindArgs (PySem.W.kla_fn "<lambda>" q params body scope cl pm cv ctv) ⟨[], []⟩ = pure [])
    (hbody : ∀ (A : Around) (outer : List Env) (s : Shared) (H : Hp) (E : XK) (f c' : Addr), Room k (A.deeper (LamX.lamEnv X scope s.heap.objs.size f c')) → PE (LamX.lamCx X A outer s H E scope f c') body (t E)) :
    PE X (.Call (.Name "_law_outcome" p) [.Lambda params body scope lpos] [] pos) (LamX.tLam [(P, q0 ++ "<lambda>")] (TOut T) t) := by
  have key : PE X (.Call (.Name "_law_outcome" p) [.Lambda params body scope lpos] [] pos) (LamX.tLam [(P, X.env.qual ++ "<lambda>")] (TOut T) t) := by
    obtain ⟨oc, od, kV0, doc, pm, an, cdv, ct, osl, e, lk, hcd⟩ := T.law_outcome.F.ex
    have hb := T.law_outcome.b
    rw [e] at lk hb
    exact LamX.pe_lamcall (k := k) (Ng := N_law_outcome) hg T.law_outcome.g T.law_outcome.F.kp lk hcd hb sc_law_outcome rfl (.inl rfl) (outcome_gives (n := k + 1) T gd hr) TB hcode List.mem_cons_self (fun q hq _ => by rcases List.mem_singleton.mp hq with rfl; rfl) hr L hdef hbind hbody
  exact hq ▸ key
end

/-! ### what rows show -/
def SmK (k : Key) : Prop := (∃ n : Int, k = Sum.inl n ∧ 0 ≤ n ∧ n < 100) ∨ k = Sum.inr ("new" : Str) ∨ k = Sum.inr ("value" : Str)
theorem smKs : ∀ {ks : List Key}, (∀ k ∈ ks, SmK k) → Sms (ks.map kD) ∧ wts (ks.map kD) = ks.length ∧ PyData.depthAll (ks.map kD) = 0
  | [], _ => ⟨trivial, rfl, rfl⟩
  | k :: r, h => by
    obtain ⟨a, b, c⟩ := smKs fun x hx => h x (List.mem_cons_of_mem _ hx)
    have e : Sm (kD k) ∧ wt (kD k) = 1 ∧ (kD k).depth = 0 := by
      rcases h k List.mem_cons_self with ⟨n, rfl, n0, n1⟩ | rfl | rfl
      · exact ⟨Nat.lt_trans (show n.natAbs < 100 by omega) (by decide), rfl, rfl⟩
      · exact ⟨by show _ ≤ 100; decide +kernel, rfl, rfl⟩
      · exact ⟨by show _ ≤ 100; decide +kernel, rfl, rfl⟩
    refine ⟨⟨e.1, a⟩, ?_, ?_⟩
    · simp only [List.map_cons, wts, e.2.1, b, List.length_cons]
      omega
    · simp only [List.map_cons, PyData.depthAll, e.2.2, c]
      rfl
def RowSm (r : List Key × PyData) : Prop := (Sm (.tuple (r.1.map kD)) ∧ wt (.tuple (r.1.map kD)) ≤ 10 ∧ (PyData.tuple (r.1.map kD)).depth ≤ 5) ∧ Sm r.2 ∧ wt r.2 ≤ 20 ∧ r.2.depth ≤ 5
theorem rule_small {w : Int} {ks : List (Int × Int)} {r : PRule} (hk : KindsOk ks) (hw : w ≤ 3) (h : RuleOk w ks r) : RowSm (r.1, ruleD r.2) := by
  obtain ⟨i, j, t, e, i0, i1, j0, j1, ht, g0, g1, hs⟩ := h
  have l6 := hk.len.2
  have hi := (hk.held i0 i1).2
  have hg := (hk.held g0 g1).2
  have k1 : ∀ k ∈ r.1, SmK k := fun k hk' => by
    rw [e] at hk'
    simp only [List.mem_cons, List.not_mem_nil, or_false] at hk'
    rcases hk' with rfl | rfl | rfl
    · exact .inl ⟨i, rfl, i0, by omega⟩
    · exact .inl ⟨j, rfl, j0, by omega⟩
    · rcases ht with ⟨n, rfl, n0, n1⟩ | rfl
      · exact .inl ⟨n, rfl, n0, by omega⟩
      · exact .inr (.inl rfl)
  have k2 : ∀ k ∈ r.2.2, SmK k := fun k hk' => by
    rcases hs.all k hk' with ⟨n, rfl, n0, n1⟩ | ⟨rfl, _⟩
    · exact .inl ⟨n, rfl, n0, by omega⟩
    · exact .inr (.inr rfl)
  have l1 : r.1.length = 3 := by rw [e]; rfl
  have l2 : r.2.2.length ≤ 3 := by have := hs.len; omega
  obtain ⟨a1, a2, a3⟩ := smKs k1
  obtain ⟨b1, b2, b3⟩ := smKs k2
  have hn : (r.2.1).natAbs < 10 ^ 99 := Nat.lt_trans (show (r.2.1).natAbs < 100 by omega) (by decide)
  refine ⟨⟨a1, ?_, ?_⟩, ⟨hn, b1, trivial⟩, ?_, ?_⟩
  · simp only [wt]
    omega
  · simp only [PyData.depth, a3]
    decide
  · simp only [ruleD, wt, wts]
    omega
  · simp only [ruleD, PyData.depth, PyData.depthAll, b3]
    decide
theorem fine_big {d : PyData} (s : Sm d) (w : wt d ≤ 100000) (dep : d.depth ≤ 60) : Fine d := by
  obtain ⟨a, b⟩ := sm_shown d s
  exact ⟨a, dep, Nat.le_trans (show d.shown.length ≤ 11000000 by omega) (by decide)⟩
theorem kv_show : ∀ {R : Rows}, (∀ r ∈ R, RowSm r) → PyData.showableKv (rowsD R) = true ∧ ((PyData.shownKv (rowsD R)).map (·.length)).sum + 2 * (PyData.shownKv (rowsD R)).length ≤ 4000 * R.length ∧ PyData.depthKv (rowsD R) ≤ 5
  | [], _ => ⟨rfl, by decide, by decide⟩
  | r :: R, h => by
    obtain ⟨a, b, c⟩ := kv_show (R := R) fun x hx => h x (List.mem_cons_of_mem _ hx)
    obtain ⟨⟨s1, w1, p1⟩, s2, w2, p2⟩ := h r List.mem_cons_self
    obtain ⟨q1, q2⟩ := sm_shown _ s1
    obtain ⟨q3, q4⟩ := sm_shown _ s2
    have ek : (r.1.map keyD) = r.1.map kD := by
      refine List.map_congr_left fun k _ => ?_
      cases k <;> rfl
    have er : rowsD (r :: R) = (.tuple (r.1.map kD), r.2) :: rowsD R := by
      show (PyData.tuple (r.1.map keyD), r.2) :: rowsD R = _
      rw [ek]
    rw [er]
    refine ⟨?_, ?_, ?_⟩
    · simp only [PyData.showableKv, q1, q3, a, Bool.and_self]
    · have e2 : ((": " : String) : Str).length = 2 := rfl
      simp only [PyData.shownKv, List.map_cons, List.sum_cons, List.length_cons, strLen_append, e2]
      omega
    · simp only [PyData.depthKv]
      omega
theorem rows_show {R : Rows} (h : ∀ r ∈ R, RowSm r) (l : R.length ≤ 1000) : (PyData.dict (rowsD R)).showable = true ∧ (PyData.dict (rowsD R)).depth ≤ 60 ∧ (PyData.dict (rowsD R)).shown.length ≤ sizeLine := by
  obtain ⟨a, b, c⟩ := kv_show h
  refine ⟨a, ?_, ?_⟩
  · simp only [PyData.depth]
    omega
  · have q := dictText_len_le (PyData.shownKv (rowsD R))
    refine Nat.le_trans (show (PyData.dict (rowsD R)).shown.length ≤ 4000003 from ?_) (by decide)
    show (dictText (PyData.shownKv (rowsD R))).length ≤ _
    omega
/-- items in a row -/
theorem items_sm : ∀ {R : Rows}, (∀ r ∈ R, RowSm r) → Sms (R.map itemD) ∧ wts (R.map itemD) ≤ 40 * R.length ∧ PyData.depthAll (R.map itemD) ≤ 6
  | [], _ => ⟨trivial, by decide, by decide⟩
  | r :: R, h => by
    obtain ⟨a, b, c⟩ := items_sm (R := R) fun x hx => h x (List.mem_cons_of_mem _ hx)
    obtain ⟨⟨s1, w1, p1⟩, s2, w2, p2⟩ := h r List.mem_cons_self
    have ek : (r.1.map keyD) = r.1.map kD := by
      refine List.map_congr_left fun k _ => ?_
      cases k <;> rfl
    have er : itemD r = .tuple [.tuple (r.1.map kD), r.2] := by
      unfold itemD
      rw [ek]
    have e1 : Sm (itemD r) := by
      rw [er]
      exact ⟨s1, s2, trivial⟩
    have e2 : wt (itemD r) ≤ 40 := by
      rw [er]
      simp only [wt, wts] at w1 ⊢
      omega
    have e3 : (itemD r).depth ≤ 6 := by
      rw [er]
      simp only [PyData.depth, PyData.depthAll] at p1 ⊢
      omega
    refine ⟨⟨e1, a⟩, ?_, ?_⟩
    · simp only [List.map_cons, wts, List.length_cons]
      omega
    · simp only [List.map_cons, PyData.depthAll]
      omega
theorem ints_sm : ∀ {ns : List Int}, (∀ n ∈ ns, 0 ≤ n ∧ n ≤ 3) → Sms (ns.map PyData.int) ∧ wts (ns.map PyData.int) = ns.length ∧ PyData.depthAll (ns.map PyData.int) = 0
  | [], _ => ⟨trivial, rfl, rfl⟩
  | n :: r, h => by
    obtain ⟨a, b, c⟩ := ints_sm (ns := r) fun x hx => h x (List.mem_cons_of_mem _ hx)
    have hn := h n List.mem_cons_self
    refine ⟨⟨Nat.lt_trans (show n.natAbs < 100 by omega) (by decide), a⟩, ?_, ?_⟩
    · simp only [List.map_cons, wts, wt, b, List.length_cons]
      omega
    · simp only [List.map_cons, PyData.depthAll, PyData.depth, c]
      rfl
/-- all that a watcher tells -/
def toldD (n : Int) (ks : List (Int × Int)) (R : Rows) : PyData := .tuple [.tuple ((ks.map (·.1)).map PyData.int), .tuple ((ks.map (·.2)).map PyData.int), .list ((sortR R).map itemD), .int ks.length, .int n]
theorem told_fine {n : Int} {ks : List (Int × Int)} {R : Rows} (n0 : 0 ≤ n) (n3 : n ≤ 3) (hk : KindsOk ks) (h : ∀ r ∈ sortR R, RowSm r) (l : (sortR R).length ≤ 1000) : Fine (toldD n ks R) := by
  obtain ⟨a1, a2, a3⟩ := ints_sm (ns := ks.map (·.1)) fun m hm => by
    obtain ⟨k, hk', rfl⟩ := List.mem_map.mp hm
    exact ⟨(hk.all k hk').1, (hk.all k hk').2.1⟩
  obtain ⟨b1, b2, b3⟩ := ints_sm (ns := ks.map (·.2)) fun m hm => by
    obtain ⟨k, hk', rfl⟩ := List.mem_map.mp hm
    exact ⟨(hk.all k hk').2.2.1, (hk.all k hk').2.2.2⟩
  obtain ⟨c1, c2, c3⟩ := items_sm h
  have l6 := hk.len.2
  rw [List.length_map] at a2 b2
  refine fine_big ⟨a1, b1, c1, Nat.lt_trans (show (ks.length : Int).natAbs < 100 by omega) (by decide), Nat.lt_trans (show n.natAbs < 100 by omega) (by decide), trivial⟩ ?_ ?_
  · simp only [toldD, wt, wts]
    omega
  · simp only [toldD, PyData.depth, PyData.depthAll]
    omega
theorem sort_small {w : Int} {ks : List (Int × Int)} {R : List PRule} (hk : KindsOk ks) (hw : w ≤ 3) (h : ∀ r ∈ R, RuleOk w ks r) (nd : (R.map (·.1)).Nodup) : ∀ r ∈ sortR (rowsOf R), RowSm r := by
  intro r hr
  unfold sortR at hr
  obtain ⟨k, hk', rfl⟩ := List.mem_map.mp hr
  have hm := srt_mem.mp hk'
  rw [rowsOf_keys] at hm
  obtain ⟨q, hq, rfl⟩ := List.mem_map.mp hm
  have e : lookR (rowsOf R) q.1 = ruleD q.2 := lookR_mem (by rw [rowsOf_keys]; exact nd) (List.mem_map.mpr ⟨q, hq, rfl⟩)
  rw [e]
  exact rule_small hk hw (h q hq)

/-! ### facts about the parts, and what stays -/
theorem PartD.sm {d : PyData} (h : PartD d) : Sm d ∧ wt d ≤ 5 ∧ d.depth ≤ 3 := by
  rcases h with h | ⟨n, rfl, n0, n1⟩ | ⟨ks, rfl, l, hk⟩
  · simp only [oddL, List.mem_cons, List.not_mem_nil, or_false] at h
    rcases h with rfl | rfl | rfl | rfl | rfl | rfl | rfl | rfl | rfl | rfl | rfl | rfl | rfl | rfl | rfl <;> refine ⟨?_, by decide, by decide⟩ <;>
      first | trivial | exact ⟨(by show _ < 10 ^ 99; decide), trivial⟩ | (show _ < 10 ^ 99; decide) | (show _ ≤ 100; decide +kernel) | exact ⟨(by show _ < 10 ^ 99; decide), (by show _ ≤ 100; decide +kernel), trivial⟩ | exact ⟨(by show _ < 10 ^ 99; decide), (by show _ < 10 ^ 99; decide), trivial⟩ | exact ⟨(by show _ ≤ 100; decide +kernel), trivial⟩
  · exact ⟨Nat.lt_trans (show n.natAbs < 100 by omega) (by decide), by show 1 ≤ 5; decide, by show 0 ≤ 3; decide⟩
  · obtain ⟨a, b, c⟩ := smKs (ks := ks) fun k hk' => by
      rcases hk k hk' with ⟨n, rfl, n0, n1⟩ | rfl
      · exact .inl ⟨n, rfl, n0, by omega⟩
      · exact .inr (.inr rfl)
    refine ⟨a, ?_, ?_⟩
    · simp only [wt]
      omega
    · simp only [PyData.depth, c]
      decide
theorem PartD.fine {d : PyData} (h : PartD d) : Fine d := by
  obtain ⟨a, b, c⟩ := h.sm
  exact fine_of a (by omega) (by omega)
theorem PartD.fine3 {d1 d2 d3 : PyData} (h1 : PartD d1) (h2 : PartD d2) (h3 : PartD d3) : Fine (.tuple [d1, d2, d3]) := by
  obtain ⟨a1, b1, c1⟩ := h1.sm
  obtain ⟨a2, b2, c2⟩ := h2.sm
  obtain ⟨a3, b3, c3⟩ := h3.sm
  refine fine_of ⟨a1, a2, a3, trivial⟩ ?_ ?_
  · simp only [wt, wts]
    omega
  · simp only [PyData.depth, PyData.depthAll]
    omega
theorem PartD.nd {d : PyData} (h : PartD d) : isDctD d = false := by
  rcases h with h | ⟨n, rfl, _⟩ | ⟨ks, rfl, _⟩
  · simp only [oddL, List.mem_cons, List.not_mem_nil, or_false] at h
    rcases h with rfl | rfl | rfl | rfl | rfl | rfl | rfl | rfl | rfl | rfl | rfl | rfl | rfl | rfl | rfl <;> rfl
  · rfl
  · rfl
theorem PartD.parted {d : PyData} (h : PartD d) : Parted d := by
  intro ds e
  rcases h with h | ⟨n, rfl, _⟩ | ⟨ks, rfl, l, _⟩
  · simp only [oddL, List.mem_cons, List.not_mem_nil, or_false] at h
    rcases h with rfl | rfl | rfl | rfl | rfl | rfl | rfl | rfl | rfl | rfl | rfl | rfl | rfl | rfl | rfl <;> first | (cases e; done) | skip
    · cases e
      exact ⟨[], rfl, by decide⟩
    · cases e
      exact ⟨[.inl 0, .inr "value"], rfl, by decide⟩
    · cases e
      exact ⟨[.inl 0, .inl 0], rfl, by decide⟩
    · cases e
      exact ⟨[.inr "value"], rfl, by decide⟩
  · cases e
  · cases e
    exact ⟨ks, rfl, l⟩
theorem PartD.smallT {d : PyData} (h : PartD d) : SmallT d := by
  cases d with
  | tuple ds =>
    obtain ⟨ks, rfl, l⟩ := h.parted ds rfl
    show (ks.map kD).length ≤ 50
    rw [List.length_map]
    omega
  | _ => trivial
theorem PartD.int {n : Int} (h0 : 0 ≤ n) (h1 : n < 6) : PartD (.int n) := .inr (.inl ⟨n, rfl, h0, h1⟩)
theorem odd_part {d d' : PyData} (h : PartD d) (e : d' = d ∨ d' ∈ oddL) : PartD d' := by
  rcases e with rfl | e
  · exact h
  · exact .inl e
/-- the history's own part -/
structure HOkk (n : Int) (ks : List (Int × Int)) (R : List PRule) (m : Nat) : Prop where
  w : 1 ≤ n ∧ n ≤ 3
  k : KindsOk ks
  r : ∀ r ∈ R, RuleOk n ks r
  nd : (R.map (·.1)).Nodup
  len : R.length ≤ m
theorem HOkk.rks {n : Int} {ks : List (Int × Int)} {R : List PRule} {m : Nat} (h : HOkk n ks R m) : ∀ k ∈ R.map (·.1), RKs k := by
  intro k hk
  obtain ⟨r, hr, rfl⟩ := List.mem_map.mp hk
  obtain ⟨i, j, t, e, i0, i1, j0, j1, ht, _⟩ := h.r r hr
  have l6 := h.k.len.2
  have n3 := h.w.2
  have hb := (h.k.held i0 i1).2
  refine ⟨i, j, t, e, i0, by omega, j0, by omega, ?_⟩
  rcases ht with ⟨z, rfl, z0, z1⟩ | rfl
  · exact .inl ⟨z, rfl, z0, by omega⟩
  · exact .inr rfl
theorem HOkk.kb {n : Int} {ks : List (Int × Int)} {R : List PRule} {m : Nat} (h : HOkk n ks R m) : ∀ k ∈ R.map (·.1), KB k := by
  intro k hk
  obtain ⟨s, w, t, e, _, _, _, _, tk⟩ := h.rks k hk
  refine ⟨s, w, t, e, ?_⟩
  rcases tk with ⟨j, rfl, j0, j1⟩ | rfl
  · exact .inl ⟨j, rfl, j0, j1⟩
  · exact .inr rfl
theorem HOkk.weak {n : Int} {ks : List (Int × Int)} {R : List PRule} {m m' : Nat} (h : HOkk n ks R m) (l : m ≤ m') : HOkk n ks R m' := ⟨h.w, h.k, h.r, h.nd, Nat.le_trans h.len l⟩
theorem btw_of {n lo hi : Int} (h : btw (.int n) lo hi = true) : lo ≤ n ∧ n ≤ hi := by
  obtain ⟨m, e, a, b⟩ := btw_int h
  cases e
  exact ⟨a, b⟩
theorem HOkk.state {n : Int} {ks ks' : List (Int × Int)} {R : List PRule} {m : Nat} {d1 d2 D : PyData} (h : HOkk n ks R m) (s : StDue ks d1 d2 D ks') : HOkk n ks' R m := by
  cases s with
  | no => exact h
  | yes a b e1 e2 y =>
    obtain ⟨y1, y2, y3⟩ := y
    rw [e1] at y1
    rw [e2] at y2
    have q1 := btw_of y1
    have q2 := btw_of y2
    have l1 := h.k.len.1
    refine ⟨h.w, ⟨⟨by rw [List.length_append]; omega, by rw [List.length_append]; show ks.length + 1 ≤ 6; omega⟩, ?_, fun k hk => ?_⟩, fun r hr => (h.r r hr).kinds (by rw [List.length_append]; omega) fun i i0 i1 => heldAt_app i0 i1, h.nd, h.len⟩
    · rw [heldAt_app (by decide) (by omega)]
      exact h.k.zero
    · rcases List.mem_append.mp hk with z | z
      · exact h.k.all k z
      · rw [List.mem_singleton.mp z]
        exact ⟨q1.1, q1.2, q2.1, q2.2⟩
theorem HOkk.verdict {n : Int} {ks ks' : List (Int × Int)} {R : List PRule} {m : Nat} {d1 d2 D : PyData} (h : HOkk n ks R m) (s : VdDue ks d1 d2 D ks') : HOkk n ks' R m := by
  cases s with
  | no => exact h
  | yes a b e1 e2 y =>
    obtain ⟨y1, y2⟩ := y
    rw [e1] at y1
    rw [e2] at y2
    have q1 := btw_of y1
    have q2 := btw_of y2
    refine ⟨h.w, ⟨⟨by rw [List.length_set]; exact h.k.len.1, by rw [List.length_set]; exact h.k.len.2⟩, ?_, fun k hk => ?_⟩, fun r hr => (h.r r hr).kinds (by rw [List.length_set]; omega) fun i i0 i1 => heldAt_set i q1.1 i0, h.nd, h.len⟩
    · rw [heldAt_set 0 q1.1 (by decide)]
      exact h.k.zero
    · rcases List.mem_or_eq_of_mem_set hk with z | z
      · exact h.k.all k z
      · rw [z]
        have hh := h.k.held q1.1 (by omega)
        exact ⟨q2.1, q2.2, hh.1, hh.2⟩
theorem HOkk.rule {n : Int} {ks : List (Int × Int)} {R R' : List PRule} {m : Nat} {d1 d2 d3 d4 d5 D : PyData} (h : HOkk n ks R m) (s : RuleDue n ks R d1 d2 d3 d4 d5 D R') : HOkk n ks R' (m + 1) := by
  cases s with
  | done s w g t kk e1 e2 e4 b1 b4 b2 e3 it ok nk =>
    rw [e1] at b1
    rw [e2] at b2
    rw [e4] at b4
    rw [e3] at it
    have q1 := btw_of b1
    have q2 := btw_of b2
    have q4 := btw_of b4
    have tok : ∀ hh : Int, isTest (kD t) hh = true → TestOk hh t := fun hh z => by
      cases t with
      | inl j =>
        have z' : btw (.int j) 0 (hh - 1) = true := z
        have := btw_of z'
        exact .inl ⟨j, rfl, this.1, by omega⟩
      | inr x =>
        right
        have z' : (decide (x = "new") || false) = true := z
        rw [Bool.or_false, decide_eq_true_iff] at z'
        rw [z']
    have sok : SrcOk (heldAt ks s) t (heldAt ks g) kk := ⟨ok.len, ok.nd, fun k hk => by
      have z := ok.all k hk
      unfold isSrc at z
      cases k with
      | inl j =>
        have z' : btw (.int j) 0 (heldAt ks s - 1) = true := z
        have := btw_of z'
        exact .inl ⟨j, rfl, this.1, by omega⟩
      | inr x =>
        by_cases ex : x = ("value" : Str)
        · subst ex
          have z' : isStrD (kD t) "new" = true := z
          refine .inr ⟨rfl, ?_⟩
          cases t with
          | inl j => cases z'
          | inr y =>
            have z2 : decide (y = "new") = true := z'
            rw [of_decide_eq_true z2]
        · rw [if_neg (by show ¬ decide (x = "value") = true; simp [ex])] at z
          cases z⟩
    refine ⟨h.w, h.k, fun r hr => ?_, ?_, by rw [List.length_append]; have := h.len; show R.length + 1 ≤ m + 1; omega⟩
    · rcases List.mem_append.mp hr with z | z
      · exact h.r r z
      · rw [List.mem_singleton.mp z]
        exact ⟨s, w, t, rfl, q1.1, by omega, q2.1, by omega, tok _ it, q4.1, by show g < _; omega, sok⟩
    · rw [List.map_append]
      refine List.nodup_append.mpr ⟨h.nd, by simp, fun a ha b hb => ?_⟩
      rw [List.mem_singleton.mp hb]
      rintro rfl
      exact nk ha
  | _ => exact h.weak (Nat.le_succ m)
theorem HOkk.gone {n : Int} {ks : List (Int × Int)} {R R' : List PRule} {m : Nat} {d1 d2 d3 D : PyData} (h : HOkk n ks R m) (s : GoneDue R d1 d2 d3 D R') : HOkk n ks R' m := by
  cases s with
  | gone s w t e1 e2 e3 hk =>
    refine ⟨h.w, h.k, fun r hr => h.r r (List.mem_filter.mp hr).1, ?_, Nat.le_trans (List.length_filter_le _ _) h.len⟩
    exact List.Nodup.sublist (List.Sublist.map _ List.filter_sublist) h.nd
  | none => exact h

/-! ### the law -/
section
variable {P : Program} {w : World} {K : PySem.W.Frag} {mg : Str → Option Value} {base : Heap}
theorem okGC {x qual : Str} {st : Stmt} {f : Addr} {fd : FuncData} {N ps : List Str} {sp : Sp} {k : Nat} {cC : Addr} (F : ∃ (oc : Value) (od : Option Addr) (kV doc pm : Value) (an : Option Addr) (ct : Value) (osl : Array (Option Value)), fd = PySem.W.fnOf x qual (defArgs st) (defBody st) (defScope st) .none kV doc pm an (.ref cC) ct ∧ K.lookup f = some ⟨oc, od, .func fd, osl⟩ ∧ PySem.W.codeIn K (.ref cC) qual = true)
    (S : FnScope N ps (defScope st)) (len : ∀ vs H Q E, sp vs H Q E → vs.length = ps.length)
    (walk : ∀ (A : Around) (outer : List Env) (s : Shared) (H : Hp) (vs : List V) (Q : VK) (E : XK), A.guards = some [] →
      Room k (A.deeper (envOfC qual (defScope st) s.heap.objs.size f (.ref cC))) → sp vs H Q E →
      ∃ t, PSs (cxOf CX0 P w K mg base N qual (defScope st) f (.ref cC) A outer s H E).nox (defBody st) t ∧ t { nx := fun _ H' => Q .non H', rt := Q } (start N vs) H) :
    FnG P w K mg base CX0 (k + 1) f fd ps sp := by
  obtain ⟨oc, od, kV, doc, pm, an, ct, osl, e, lk, hcd⟩ := F
  subst e
  apply fnG_body lk hcd S len
  intro A outer s H vs Q E gd room want
  obtain ⟨t, h, q⟩ := walk A outer s H vs Q E gd room want
  exact ⟨t, h.nox, q⟩
theorem tabs_mv {T : List (Addr × Str)} {A : Addr → Prop} {H H' : Hp} (t : LamX.Tabs T H) (m : Mv A H H') (na : ∀ a, A a → (∃ us, H a = some (.lst us)) ∨ ∃ kvs, H a = some (.dT kvs)) : LamX.Tabs T H' := by
  intro q hq
  obtain ⟨ps, h1, h2, h3⟩ := t q hq
  refine ⟨ps, m _ _ h1 fun z => ?_, h2, fun pos cv hc => ?_⟩
  · rcases na _ z with ⟨us, e⟩ | ⟨kvs, e⟩ <;> rw [h1] at e <;> cases e
  · obtain ⟨c, e1, e2⟩ := h3 pos cv hc
    refine ⟨c, e1, m _ _ e2 fun z => ?_⟩
    rcases na _ z with ⟨us, e⟩ | ⟨kvs, e⟩ <;> rw [e2] at e <;> unfold LamX.CodeO at e <;> cases e
abbrev lamT (cT : Addr) : List (Addr × Str) := [(cT, (Str.ofString "law" ++ ".<locals>.") ++ "<lambda>")]
structure LI (C cT : Addr) (H : Hp) (p c x lv lh d kl rd : Addr) (ls : List Addr) (n : Int) (ks : List (Int × Int)) (R : List PRule) (m : Nat) : Prop where
  ha : HA C H p c x lv lh d kl rd ls n ks ks R R
  ok : HOkk n ks R m
  tb : LamX.Tabs (lamT cT) H
def DicAt (H : Hp) (a : Addr) (R : Rows) : Prop := ∃ kvs, H a = some (.dT kvs) ∧ KvD H kvs R
theorem DicAt.mv {A : Addr → Prop} {H H' : Hp} {a : Addr} {R : Rows} (h : DicAt H a R) (m : Mv A H H') (t : Tups H H') (n : ¬ A a) : DicAt H' a R := by
  obtain ⟨kvs, e, f⟩ := h
  exact ⟨kvs, m _ _ e n, f.mono t⟩
section
variable {C cT : Addr} {H H' : Hp} {p c x lv lh d kl rd t0 : Addr} {ls : List Addr} {n : Int} {ks : List (Int × Int)} {R : List PRule} {R0 : Rows} {m : Nat}
theorem LI.same (h : LI C cT H p c x lv lh d kl rd ls n ks R m) (s : Same H H') : LI C cT H' p c x lv lh d kl rd ls n ks R m := ⟨h.ha.same s, h.ok, h.tb.ext s⟩
theorem LI.draw (h : LI C cT H p c x lv lh d kl rd ls n ks R m) (k : Keep p H H') (P : Pen H' p c) : LI C cT H' p c x lv lh d kl rd ls n ks R m := by
  obtain ⟨pn, ep⟩ := h.ha.pen.at
  exact ⟨h.ha.draw k P, h.ok, tabs_mv h.tb (Mv.keep (A := (· = p)) k rfl) fun a z => .inl ⟨_, z ▸ ep⟩⟩
theorem DicAt.same (h : DicAt H t0 R0) (s : Same H H') : DicAt H' t0 R0 := by
  obtain ⟨kvs, e, f⟩ := h
  exact ⟨kvs, s _ _ e, f.mono (Tups.same s)⟩
theorem DicAt.draw (h : DicAt H t0 R0) (P0 : Pen H p c) (k : Keep p H H') : DicAt H' t0 R0 := by
  obtain ⟨kvs, e, f⟩ := h
  obtain ⟨pn, ep⟩ := P0.at
  exact ⟨kvs, k _ _ e (ne_of e ep (fun z => nomatch z)), f.mono (P0.tups k)⟩
theorem DicAt.ext (h : DicAt H t0 R0) (s : LamX.ExtN H H') : DicAt H' t0 R0 := by
  obtain ⟨kvs, e, f⟩ := h
  exact ⟨kvs, s _ _ e (fun _ z => by cases z), f.mono fun a xs z => s _ _ z (fun _ z => by cases z)⟩
end
/-- in the midst of a turn -/
structure LX (C cT : Addr) (H : Hp) (p c x lv lh d kl rd : Addr) (ls : List Addr) (n : Int) (k1 k2 : List (Int × Int)) (R1 R2 : List PRule) (t0 : Addr) (R0 : Rows) : Prop where
  ha : HA C H p c x lv lh d kl rd ls n k1 k2 R1 R2
  tb : LamX.Tabs (lamT cT) H
  dic : DicAt H t0 R0
  nt : ¬ OldS p lv lh d kl rd ls t0
section
variable {C cT : Addr} {H H' : Hp} {p c x lv lh d kl rd t0 : Addr} {ls ls' : List Addr} {n : Int} {k1 k2 k1' k2' : List (Int × Int)} {R1 R2 R1' R2' : List PRule} {R0 : Rows}
theorem LX.same (h : LX C cT H p c x lv lh d kl rd ls n k1 k2 R1 R2 t0 R0) (s : Same H H') : LX C cT H' p c x lv lh d kl rd ls n k1 k2 R1 R2 t0 R0 := ⟨h.ha.same s, h.tb.ext s, h.dic.same s, h.nt⟩
theorem LX.draw (h : LX C cT H p c x lv lh d kl rd ls n k1 k2 R1 R2 t0 R0) (k : Keep p H H') (P : Pen H' p c) : LX C cT H' p c x lv lh d kl rd ls n k1 k2 R1 R2 t0 R0 := by
  obtain ⟨pn, ep⟩ := h.ha.pen.at
  exact ⟨h.ha.draw k P, tabs_mv h.tb (Mv.keep (A := (· = p)) k rfl) (fun a z => .inl ⟨_, z ▸ ep⟩), h.dic.draw h.ha.pen k, h.nt⟩
theorem LX.ext (h : LX C cT H p c x lv lh d kl rd ls n k1 k2 R1 R2 t0 R0) (s : LamX.ExtN H H') (tb : LamX.Tabs (lamT cT) H') : LX C cT H' p c x lv lh d kl rd ls n k1 k2 R1 R2 t0 R0 := ⟨h.ha.ext s, tb, h.dic.ext s, h.nt⟩
theorem tups_of {A : Addr → Prop} (m : Mv A H H') (na : ∀ a, A a → (∃ us, H a = some (.lst us)) ∨ ∃ kvs, H a = some (.dT kvs)) : Tups H H' := m.tups fun a z xs e => by
  rcases na a z with ⟨us, e2⟩ | ⟨kvs, e2⟩ <;> rw [e] at e2 <;> cases e2
theorem LX.tool (h : LX C cT H p c x lv lh d kl rd ls n k1 k2 R1 R2 t0 R0) (m : Mv (ToolS lv lh d) H H') (W : WAt C H' x lv lh d n (k1'.map (·.1)) (k1'.map (·.2)) (rowsOf R1')) : LX C cT H' p c x lv lh d kl rd ls n k1' k2 R1' R2 t0 R0 := by
  have na : ∀ a, ToolS lv lh d a → OldS p lv lh d kl rd ls a := fun a z => z.elim (fun z => .inr (.inl z)) fun z => z.elim (fun z => .inr (.inr (.inl z))) fun z => .inr (.inr (.inr (.inl z)))
  have nb : ∀ a, ToolS lv lh d a → (∃ us, H a = some (.lst us)) ∨ ∃ kvs, H a = some (.dT kvs) := fun a z => h.ha.oldp a (na a z)
  exact ⟨h.ha.tool m W, tabs_mv h.tb m nb, h.dic.mv m (tups_of m nb) fun z => h.nt (na _ z), h.nt⟩
theorem LX.due (h : LX C cT H p c x lv lh d kl rd ls n k1 k2 R1 R2 t0 R0) (m : Mv (fun a => a = rd ∨ a ∈ kl :: ls) H H') (W : KAt H' kl ls' k2') (R : RulAt H' rd R2') (nd : (p :: c :: lv :: lh :: kl :: ls').Nodup) (nt : t0 ∉ ls') : LX C cT H' p c x lv lh d kl rd ls' n k1 k2' R1 R2' t0 R0 := by
  have na : ∀ a, (a = rd ∨ a ∈ kl :: ls) → OldS p lv lh d kl rd ls a := fun a z => z.elim (fun z => .inr (.inr (.inr (.inr (.inr (.inl z)))))) fun z => (List.mem_cons.mp z).elim (fun z => .inr (.inr (.inr (.inr (.inl z))))) fun z => .inr (.inr (.inr (.inr (.inr (.inr z)))))
  have nb : ∀ a, (a = rd ∨ a ∈ kl :: ls) → (∃ us, H a = some (.lst us)) ∨ ∃ kvs, H a = some (.dT kvs) := fun a z => h.ha.oldp a (na a z)
  refine ⟨h.ha.due m W R nd, tabs_mv h.tb m nb, h.dic.mv m (tups_of m nb) fun z => h.nt (na _ z), ?_⟩
  rintro (z | z | z | z | z | z | z)
  · exact h.nt (.inl z)
  · exact h.nt (.inr (.inl z))
  · exact h.nt (.inr (.inr (.inl z)))
  · exact h.nt (.inr (.inr (.inr (.inl z))))
  · exact h.nt (.inr (.inr (.inr (.inr (.inl z)))))
  · exact h.nt (.inr (.inr (.inr (.inr (.inr (.inl z))))))
  · exact nt z
end
theorem HA.some {C : Addr} {H : Hp} {p c x lv lh d kl rd : Addr} {ls : List Addr} {n : Int} {k1 k2 : List (Int × Int)} {R1 R2 : List PRule} (h : HA C H p c x lv lh d kl rd ls n k1 k2 R1 R2) : ∀ b ∈ p :: c :: lv :: lh :: kl :: ls, H b ≠ none := by
  obtain ⟨ns, _, _, ⟨_, ec⟩, _⟩ := h.pen
  intro b hb
  rcases List.mem_cons.mp hb with rfl | hb
  · exact (h.old _ (.inl rfl)).1
  rcases List.mem_cons.mp hb with rfl | hb
  · rw [ec]
    exact fun z => nomatch z
  rcases List.mem_cons.mp hb with rfl | hb
  · exact (h.old _ (.inr (.inl rfl))).1
  rcases List.mem_cons.mp hb with rfl | hb
  · exact (h.old _ (.inr (.inr (.inl rfl)))).1
  rcases List.mem_cons.mp hb with rfl | hb
  · exact (h.old _ (.inr (.inr (.inr (.inr (.inl rfl)))))).1
  · exact (h.old _ (.inr (.inr (.inr (.inr (.inr (.inr hb))))))).1
theorem tool_old {p lv lh d kl rd : Addr} {ls : List Addr} : ∀ a, ToolS lv lh d a → OldS p lv lh d kl rd ls a := fun a z => z.elim (fun z => .inr (.inl z)) fun z => z.elim (fun z => .inr (.inr (.inl z))) fun z => .inr (.inr (.inr (.inl z)))
/-- what is told lies at tl -/
def ToldAt (H : Hp) (tl : Addr) (n : Int) (ks : List (Int × Int)) (R : Rows) : Prop := ∃ (ta tb tc : Addr) (as : List Addr), H tl = some (.tup [.ref ta, .ref tb, .ref tc, .int ks.length, .int n]) ∧ H ta = some (.tup ((ks.map (·.1)).map V.int)) ∧ H tb = some (.tup ((ks.map (·.2)).map V.int)) ∧ H tc = some (.lst (as.map V.ref)) ∧ TDs H (as.map V.ref) ((sortR R).map itemD)
theorem ToldAt.same {H H' : Hp} {tl : Addr} {n : Int} {ks : List (Int × Int)} {R : Rows} (h : ToldAt H tl n ks R) (s : Same H H') : ToldAt H' tl n ks R := by
  obtain ⟨ta, tb, tc, as, a, b, c, d, e⟩ := h
  exact ⟨ta, tb, tc, as, s _ _ a, s _ _ b, s _ _ c, s _ _ d, e.mono (Tups.same s)⟩
theorem ToldAt.dp {K : PySem.W.Frag} {H : Hp} {tl : Addr} {n : Int} {ks : List (Int × Int)} {R : Rows} (h : ToldAt H tl n ks R) : Dp K H (.ref tl) (toldD n ks R) := by
  obtain ⟨ta, tb, tc, as, a, b, c, d, e⟩ := h
  exact .tup (SqT.of a) (.cons (.tup (SqT.of b) (dp_ints _ _ _)) (.cons (.tup (SqT.of c) (dp_ints _ _ _)) (.cons (.lst (SqL.of d) (TDs.dp _ e)) (.cons (.int _) (.cons (.int _) .nil)))))
theorem nd_keys : ∀ ks : List Key, PyData.hasDictAll (ks.map keyD) = false
  | [] => rfl
  | .inl _ :: r => by simp only [List.map_cons, keyD, PyData.hasDictAll, PyData.hasDict, nd_keys r, Bool.or_self]
  | .inr _ :: r => by simp only [List.map_cons, keyD, PyData.hasDictAll, PyData.hasDict, nd_keys r, Bool.or_self]
theorem nd_ints : ∀ ns : List Int, PyData.hasDictAll (ns.map PyData.int) = false
  | [] => rfl
  | _ :: r => by simp only [List.map_cons, PyData.hasDictAll, PyData.hasDict, nd_ints r, Bool.or_self]
theorem nd_items : ∀ {L : Rows}, (∀ r ∈ L, r.2.hasDict = false) → PyData.hasDictAll (L.map itemD) = false
  | [], _ => rfl
  | r :: L, h => by
    have a := h r List.mem_cons_self
    have b := nd_items (L := L) fun x hx => h x (List.mem_cons_of_mem _ hx)
    simp only [List.map_cons, itemD, PyData.hasDictAll, PyData.hasDict, nd_keys, a, b, Bool.or_self]
theorem told_nd {n : Int} {ks : List (Int × Int)} {R : List PRule} (nd : (R.map (·.1)).Nodup) : (toldD n ks (rowsOf R)).hasDict = false := by
  have h : PyData.hasDictAll ((sortR (rowsOf R)).map itemD) = false := nd_items fun r hr => by
    unfold sortR at hr
    obtain ⟨k, hk', rfl⟩ := List.mem_map.mp hr
    have hm := srt_mem.mp hk'
    rw [rowsOf_keys] at hm
    obtain ⟨q, hq, rfl⟩ := List.mem_map.mp hm
    have e : lookR (rowsOf R) q.1 = ruleD q.2 := lookR_mem (by rw [rowsOf_keys]; exact nd) (List.mem_map.mpr ⟨q, hq, rfl⟩)
    show (lookR (rowsOf R) q.1).hasDict = false
    rw [e]
    have ek : q.2.2.map kD = q.2.2.map keyD := by
      refine List.map_congr_left fun k _ => ?_
      cases k <;> rfl
    simp only [ruleD, ek, PyData.hasDict, PyData.hasDictAll, nd_keys, Bool.or_self]
  simp only [toldD, PyData.hasDict, PyData.hasDictAll, nd_ints, h, Bool.or_self]
theorem isKs_keys {H : Hp} : ∀ {kvs : List (List Key × V)} {bs : List Addr}, IsKeys H kvs bs → IsKs H (kvs.map (·.1)) bs
  | _, _, .nil => .nil
  | _, _, .cons h r => .cons h (isKs_keys r)
theorem isKs_mono {H H' : Hp} (s : Same H H') : ∀ {ks : List (List Key)} {bs : List Addr}, IsKs H ks bs → IsKs H' ks bs
  | _, _, .nil => .nil
  | _, _, .cons h r => .cons (s _ _ h) (isKs_mono s r)
def encK (q : List Key × Nat) : PyData := encR (enK q.1 q.2)
def ItemAt (H : Hp) (u : Addr) (k : List Key) (j : Nat) : Prop := ∃ r, H u = some (.tup [.ref r, .int j]) ∧ H r = some (.tup ((rank9 k).map V.int))
theorem ItemAt.same {H H' : Hp} {u : Addr} {k : List Key} {j : Nat} (h : ItemAt H u k j) (s : Same H H') : ItemAt H' u k j := by
  obtain ⟨r, a, b⟩ := h
  exact ⟨r, s _ _ a, s _ _ b⟩
theorem ItemAt.dp {K : PySem.W.Frag} {H : Hp} {u : Addr} {k : List Key} {j : Nat} (h : ItemAt H u k j) (kb : KB k) : Dp K H (.ref u) (encK (k, j)) := by
  obtain ⟨r, a, b⟩ := h
  obtain ⟨i, w, t, rfl, ⟨z, rfl, _, _⟩ | rfl⟩ := kb
  · exact .tup (SqT.of a) (.cons (.tup (SqT.of b) (.cons (.int _) (.cons (.int _) (.cons (.int _) .nil)))) (.cons (.int _) .nil))
  · exact .tup (SqT.of a) (.cons (.tup (SqT.of b) (.cons (.int _) (.cons (.int _) (.cons (.int _) .nil)))) (.cons (.int _) .nil))
theorem ItemAt.put {H : Hp} {u D : Addr} {xs : List V} {o : HO} {k : List Key} {j : Nat} (h : ItemAt H u k j) (hD : H D = some (.lst xs)) : ItemAt (upd H D o) u k j := by
  obtain ⟨r, a, b⟩ := h
  exact ⟨r, by rw [upd_ne (ne_of a hD (fun z => nomatch z))]; exact a, by rw [upd_ne (ne_of b hD (fun z => nomatch z))]; exact b⟩
/-- items with their keys and numbers -/
def numbered (us : List Addr) (KS : List (List Key)) : List (V × (List Key × Nat)) := (List.range KS.length).map fun j => (V.ref (us.getD j 0), (KS.getD j [], j))
theorem numbered_v {us : List Addr} {KS : List (List Key)} (l : us.length = KS.length) : (numbered us KS).map (·.1) = us.map V.ref := by
  unfold numbered
  rw [List.map_map]
  refine List.ext_getElem (by simp [l]) fun i h1 h2 => ?_
  have hi : i < us.length := by simpa using h2
  simp [List.getD_eq_getElem?_getD, List.getElem?_eq_getElem hi]
theorem numbered_k {us : List Addr} {KS : List (List Key)} : (numbered us KS).map (·.2.1) = KS := by
  unfold numbered
  rw [List.map_map]
  refine List.ext_getElem (by simp) fun i h1 h2 => ?_
  simp [List.getD_eq_getElem?_getD, List.getElem?_eq_getElem h2]
theorem numbered_mem {us : List Addr} {KS : List (List Key)} {b : V × (List Key × Nat)} (l : us.length = KS.length) (h : b ∈ numbered us KS) : ∃ (j : Nat) (u : Addr) (k : List Key), us[j]? = some u ∧ KS[j]? = some k ∧ b = (.ref u, (k, j)) := by
  unfold numbered at h
  obtain ⟨j, hj, rfl⟩ := List.mem_map.mp h
  have hj' := List.mem_range.mp hj
  have hu : j < us.length := by omega
  exact ⟨j, us[j], KS[j], List.getElem?_eq_getElem hu, List.getElem?_eq_getElem hj', by simp [List.getD_eq_getElem?_getD, List.getElem?_eq_getElem hu, List.getElem?_eq_getElem hj']⟩
def sp_law (K : PySem.W.Frag) (cT : Addr) : Sp := fun us H Q _ => ∃ (sa : Addr) (ns : List Int), us = [.ref sa] ∧ SqL K H sa (ns.map V.int) ∧ ns.length ≤ 63 ∧ H cT = some (.tbl #[]) ∧ ∀ H', Q (.bl true) H'
abbrev N_law : List Str := ["script", "pen", "many", "tool", "kinds", "rules", "turn", "old", "page", "option", "verdict", "held", "found", "due", "state", "a", "b", "c", "d", "e", "told", "names", "ranks", "at", "rule", "order", "rank", "rows", "one"]
theorem sc_law : FnScope N_law ["script"] (defScope s_law) := ⟨rfl, rfl, rfl, by decide +kernel, rfl, by decide +kernel, by decide +kernel⟩
theorem ok_law (T : Tx K mg) {f cC cT : Addr} {fd : FuncData} (F : ∃ (oc : Value) (od : Option Addr) (kV doc pm : Value) (an : Option Addr) (ct : Value) (osl : Array (Option Value)), fd = PySem.W.fnOf "law" "law" (defArgs s_law) (defBody s_law) (defScope s_law) .none kV doc pm an (.ref cC) ct ∧ K.lookup f = some ⟨oc, od, .func fd, osl⟩ ∧ PySem.W.codeIn K (.ref cC) "law" = true)
    (TB : LamX.TabB base mg cC cT) : FnG P w K mg base CX0 9 f fd ["script"] (sp_law K cT) := by
  refine okGC F sc_law (fun vs H Q E h => ?_) (fun A outer s H vs Q E gd hr h => ?_)
  · obtain ⟨sa, ns, rfl, _⟩ := h
    rfl
  · obtain ⟨sa, ns, rfl, hS, hl, hT, q⟩ := h
    refine ⟨_, 
      (pss_cons (ps_set (i := 1) sc_law.nd rfl (.inl rfl) (pe_callG (G_law_pen T) gd (hr.mono (by decide)) rfl T.law_pen.g T.law_pen.F.kp T.law_pen.b .nil pass0 (pa_cons (pv 0) pa_nil))) -- pen = _law_pen(script)
      (pss_cons (ps_set (i := 2) sc_law.nd rfl (.inl rfl) (pe_op op_add pe_int (pe_callG (G_law_draw T) gd (hr.mono (by decide)) rfl T.law_draw.g T.law_draw.F.kp T.law_draw.b .nil pass0 (pa_cons (pv 1) (pa_cons pe_int pa_nil))))) -- many = 1 + _law_draw(pen, 3)
      (C8.pss_cut (ps_asg (pe_tup (pa_cons (pe_makeG T.mk_Watcher (G_Watcher_init T) gd (hr.mono (by decide)) rfl T.Watcher.g T.Watcher_init.b .nil passNo (pa_cons (pv 2) pa_nil)) (pa_cons (pe_lst (pa_cons (pe_lst (pa_cons pe_int (pa_cons pe_int pa_nil))) pa_nil)) (pa_cons pe_dnewT pa_nil)))) (pg_tup rfl (pgs_cons (pg_name (i := 3) sc_law.nd rfl (.inr rfl)) (pgs_cons (pg_name (i := 4) sc_law.nd rfl (.inl rfl)) (pgs_cons (pg_name (i := 5) sc_law.nd rfl (.inr rfl)) pgs_nil))))) -- tool, kinds, rules = (Watcher(many), [[0, 0]], {})
      (C8.pss_cut (ps_for PassesOwn.never rfl (pi_range1 rfl T.m_range (pa_cons pe_int pa_nil)) (pg_name (i := 6) sc_law.nd rfl (.inl rfl)) 
        (C8.pss_cut (ps_par3 (i := 7) (j := 8) (l := 9) rfl sc_law.nd rfl rfl rfl (by decide) (by decide) (by decide) rfl rfl rfl (pa_cons (pe_meth0G (pv 3) T.Watcher.cl T.Watcher_rules.M (G_Watcher_rules T) gd (hr.mono (by decide)) T.Watcher_rules.b .nil pass0) (pa_cons (pe_callB (call_reprT gd hr.units) (by rfl) T.m_repr (by decide +kernel) (pa_cons (pe_meth0G (pv 3) T.Watcher.cl T.Watcher_rules.M (G_Watcher_rules T) gd (hr.mono (by decide)) T.Watcher_rules.b .nil pass0) pa_nil)) (pa_cons (pe_callG (G_law_draw T) gd (hr.mono (by decide)) rfl T.law_draw.g T.law_draw.F.kp T.law_draw.b .nil pass0 (pa_cons (pv 1) (pa_cons pe_int pa_nil))) pa_nil))) rfl) -- old, page, option = (tool.rules(), repr(tool.rules()), _law_draw(pen, 8))
        (C8.pss_cut (ps_if (pt_cmpR op_lt (pv 9) pe_int (nomark _)) 
          (pss_cons (ps_asg (pe_tup (pa_cons (pe_callG (G_law_odd T) gd (hr.mono (by decide)) rfl T.law_odd.g T.law_odd.F.kp T.law_odd.b .nil pass0 (pa_cons (pv 1) (pa_cons (pe_callG (G_law_draw T) gd (hr.mono (by decide)) rfl T.law_draw.g T.law_draw.F.kp T.law_draw.b .nil pass0 (pa_cons (pv 1) (pa_cons pe_int pa_nil))) pa_nil))) (pa_cons (pe_callG (G_law_odd T) gd (hr.mono (by decide)) rfl T.law_odd.g T.law_odd.F.kp T.law_odd.b .nil pass0 (pa_cons (pv 1) (pa_cons (pe_callG (G_law_draw T) gd (hr.mono (by decide)) rfl T.law_draw.g T.law_draw.F.kp T.law_draw.b .nil pass0 (pa_cons (pv 1) (pa_cons pe_int pa_nil))) pa_nil))) pa_nil))) (pg_tup rfl (pgs_cons (pg_name (i := 10) sc_law.nd rfl (.inr rfl)) (pgs_cons (pg_name (i := 11) sc_law.nd rfl (.inr rfl)) pgs_nil)))) -- verdict, held = (_law_odd(pen, _law_draw(pen, 4)), _law_odd(pen, _law_draw(pen, 4)))
          (pss_one (ps_par (i := 12) (j := 13) rfl sc_law.nd rfl rfl (by decide) rfl rfl (pa_cons (pe_told (k := 5) (t := _) T TB rfl (q0 := Str.ofString "law" ++ ".<locals>.") rfl gd (hr.mono (by decide)) rfl (LamX.lamS_by (by show LamX.lamSB (defScope s_law) _ = true; decide +kernel)) rfl (fun _ _ _ _ _ => rfl) (fun A2 o2 s2 H2 E2 f2 c2 hr2 => (pe_methO (pv 3) T.Watcher.cl T.Watcher_add_state.M (O_Watcher_add_state T) trivial (hr2.mono (by decide)) T.Watcher_add_state.b .nil (L2.passes_call (W := fun cls d _ H => E2 cls d H) (takes_of rfl rfl rfl rfl) (fun _ _ _ _ h => h)) (pa_cons (pv 10) (pa_cons (pv 11) pa_nil))))) (pa_cons (pe_callG (G_law_state_due T) gd (hr.mono (by decide)) rfl T.law_state_due.g T.law_state_due.F.kp T.law_state_due.b .nil pass0 (pa_cons (pv 4) (pa_cons (pv 10) (pa_cons (pv 11) pa_nil)))) pa_nil)) rfl)) -- found, due = (_law_outcome(lambda: tool.add_state(verdict, held)), _law_state_due(kinds, verdict, held))
          ) 
          (pss_one (ps_if (pt_cmpR op_eq (pv 9) pe_int (nomark _)) 
            (pss_cons (ps_asg (pe_tup (pa_cons (pe_callG (G_law_odd T) gd (hr.mono (by decide)) rfl T.law_odd.g T.law_odd.F.kp T.law_odd.b .nil pass0 (pa_cons (pv 1) (pa_cons (pe_callG (G_law_draw T) gd (hr.mono (by decide)) rfl T.law_draw.g T.law_draw.F.kp T.law_draw.b .nil pass0 (pa_cons (pv 1) (pa_cons (pe_callB call_len_seq (by rfl) T.m_len PySem.boot_len (pa_cons (pv 4) pa_nil)) pa_nil))) pa_nil))) (pa_cons (pe_callG (G_law_odd T) gd (hr.mono (by decide)) rfl T.law_odd.g T.law_odd.F.kp T.law_odd.b .nil pass0 (pa_cons (pv 1) (pa_cons (pe_callG (G_law_draw T) gd (hr.mono (by decide)) rfl T.law_draw.g T.law_draw.F.kp T.law_draw.b .nil pass0 (pa_cons (pv 1) (pa_cons pe_int pa_nil))) pa_nil))) pa_nil))) (pg_tup rfl (pgs_cons (pg_name (i := 14) sc_law.nd rfl (.inr rfl)) (pgs_cons (pg_name (i := 10) sc_law.nd rfl (.inr rfl)) pgs_nil)))) -- state, verdict = (_law_odd(pen, _law_draw(pen, len(kinds))), _law_odd(pen, _law_draw(pen, 4)))
            (pss_one (ps_par (i := 12) (j := 13) rfl sc_law.nd rfl rfl (by decide) rfl rfl (pa_cons (pe_told (k := 5) (t := _) T TB rfl (q0 := Str.ofString "law" ++ ".<locals>.") rfl gd (hr.mono (by decide)) rfl (LamX.lamS_by (by show LamX.lamSB (defScope s_law) _ = true; decide +kernel)) rfl (fun _ _ _ _ _ => rfl) (fun A2 o2 s2 H2 E2 f2 c2 hr2 => (pe_methO (pv 3) T.Watcher.cl T.Watcher_set_verdict.M (O_Watcher_set_verdict T) trivial (hr2.mono (by decide)) T.Watcher_set_verdict.b .nil (L2.passes_call (W := fun cls d _ H => E2 cls d H) (takes_of rfl rfl rfl rfl) (fun _ _ _ _ h => h)) (pa_cons (pv 14) (pa_cons (pv 10) pa_nil))))) (pa_cons (pe_callG (G_law_verdict_due T) gd (hr.mono (by decide)) rfl T.law_verdict_due.g T.law_verdict_due.F.kp T.law_verdict_due.b .nil pass0 (pa_cons (pv 4) (pa_cons (pv 14) (pa_cons (pv 10) pa_nil)))) pa_nil)) rfl)) -- found, due = (_law_outcome(lambda: tool.set_verdict(state, verdict)), _law_verdict_due(kinds, state, verdict))
            ) 
            (pss_one (ps_if (pt_cmpR op_lt (pv 9) pe_int (nomark _)) 
              (pss_cons (ps_asg (pe_callG (G_law_rule_parts T) gd (hr.mono (by decide)) rfl T.law_rule_parts.g T.law_rule_parts.F.kp T.law_rule_parts.b .nil pass0 (pa_cons (pv 1) (pa_cons (pv 2) (pa_cons (pv 4) pa_nil)))) (pg_lst rfl (pgs_cons (pg_name (i := 15) sc_law.nd rfl (.inr rfl)) (pgs_cons (pg_name (i := 16) sc_law.nd rfl (.inr rfl)) (pgs_cons (pg_name (i := 17) sc_law.nd rfl (.inr rfl)) (pgs_cons (pg_name (i := 18) sc_law.nd rfl (.inr rfl)) (pgs_cons (pg_name (i := 19) sc_law.nd rfl (.inr rfl)) pgs_nil))))))) -- a, b, c, d, e = _law_rule_parts(pen, many, kinds)
              (pss_cons (ps_set (i := 12) sc_law.nd rfl (.inl rfl) (pe_told (k := 5) (t := _) T TB rfl (q0 := Str.ofString "law" ++ ".<locals>.") rfl gd (hr.mono (by decide)) rfl (LamX.lamS_by (by show LamX.lamSB (defScope s_law) _ = true; decide +kernel)) rfl (fun _ _ _ _ _ => rfl) (fun A2 o2 s2 H2 E2 f2 c2 hr2 => (pe_methO (pv 3) T.Watcher.cl T.Watcher_add_rule.M (O_Watcher_add_rule T) trivial (hr2.mono (by decide)) T.Watcher_add_rule.b .nil (L2.passes_call (W := fun cls d _ H => E2 cls d H) (takes_of rfl rfl rfl rfl) (fun _ _ _ _ h => h)) (pa_cons (pv 15) (pa_cons (pv 16) (pa_cons (pv 17) (pa_cons (pv 18) (pa_cons (pv 19) pa_nil))))))))) -- found = _law_outcome(lambda: tool.add_rule(a, b, c, d, e))
              (pss_one (ps_set (i := 13) sc_law.nd rfl (.inl rfl) (pe_callG (G_law_rule_due T) gd (hr.mono (by decide)) rfl T.law_rule_due.g T.law_rule_due.F.kp T.law_rule_due.b .nil pass0 (pa_cons (pv 2) (pa_cons (pv 4) (pa_cons (pv 5) (pa_cons (pe_tup (pa_cons (pv 15) (pa_cons (pv 16) (pa_cons (pv 17) (pa_cons (pv 18) (pa_cons (pv 19) pa_nil)))))) pa_nil))))))) -- due = _law_rule_due(many, kinds, rules, (a, b, c, d, e))
              )) 
              (pss_cons (ps_asg (pe_callG (G_law_rule_parts T) gd (hr.mono (by decide)) rfl T.law_rule_parts.g T.law_rule_parts.F.kp T.law_rule_parts.b .nil pass0 (pa_cons (pv 1) (pa_cons (pv 2) (pa_cons (pv 4) pa_nil)))) (pg_lst rfl (pgs_cons (pg_name (i := 15) sc_law.nd rfl (.inr rfl)) (pgs_cons (pg_name (i := 16) sc_law.nd rfl (.inr rfl)) (pgs_cons (pg_name (i := 17) sc_law.nd rfl (.inr rfl)) (pgs_cons (pg_name (i := 18) sc_law.nd rfl (.inr rfl)) (pgs_cons (pg_name (i := 19) sc_law.nd rfl (.inr rfl)) pgs_nil))))))) -- a, b, c, d, e = _law_rule_parts(pen, many, kinds)
              (C8.pss_cut (ps_if (PW.pt (pw_and (pt_cmpR (op_dE (neg := true) hr.units) (pv 5) pe_dnewT (nomark _)) (pw_and1 (pt_cmpR op_eq (pe_callG (G_law_draw T) gd (hr.mono (by decide)) rfl T.law_draw.g T.law_draw.F.kp T.law_draw.b .nil pass0 (pa_cons (pv 1) (pa_cons pe_int pa_nil))) pe_int (nomark _))))) 
                (pss_one (ps_asg (pe_ix ix_list (pe_callTy (call_list_dT rfl) (by rfl) T.m_list (by decide +kernel) (pa_cons (pv 5) pa_nil)) (pe_callG (G_law_draw T) gd (hr.mono (by decide)) rfl T.law_draw.g T.law_draw.F.kp T.law_draw.b .nil pass0 (pa_cons (pv 1) (pa_cons (pe_callB call_len_dT (by rfl) T.m_len PySem.boot_len (pa_cons (pv 5) pa_nil)) pa_nil))) (fun _ _ => rfl)) (pg_tup rfl (pgs_cons (pg_name (i := 15) sc_law.nd rfl (.inr rfl)) (pgs_cons (pg_name (i := 16) sc_law.nd rfl (.inr rfl)) (pgs_cons (pg_name (i := 17) sc_law.nd rfl (.inr rfl)) pgs_nil)))))) -- a, b, c = list(rules)[_law_draw(pen, len(rules))]
                 pss_nil) -- if rules != {} and _law_draw(pen, 2) == 0:
              (pss_one (ps_par (i := 12) (j := 13) rfl sc_law.nd rfl rfl (by decide) rfl rfl (pa_cons (pe_told (k := 5) (t := _) T TB rfl (q0 := Str.ofString "law" ++ ".<locals>.") rfl gd (hr.mono (by decide)) rfl (LamX.lamS_by (by show LamX.lamSB (defScope s_law) _ = true; decide +kernel)) rfl (fun _ _ _ _ _ => rfl) (fun A2 o2 s2 H2 E2 f2 c2 hr2 => (pe_methO (pv 3) T.Watcher.cl T.Watcher_remove_rule.M (O_Watcher_remove_rule T) trivial (hr2.mono (by decide)) T.Watcher_remove_rule.b .nil (L2.passes_call (W := fun cls d _ H => E2 cls d H) (takes_of rfl rfl rfl rfl) (fun _ _ _ _ h => h)) (pa_cons (pv 15) (pa_cons (pv 16) (pa_cons (pv 17) pa_nil)))))) (pa_cons (pe_callG (G_law_gone_due T) gd (hr.mono (by decide)) rfl T.law_gone_due.g T.law_gone_due.F.kp T.law_gone_due.b .nil pass0 (pa_cons (pv 5) (pa_cons (pe_tup (pa_cons (pv 15) (pa_cons (pv 16) (pa_cons (pv 17) pa_nil)))) pa_nil))) pa_nil)) rfl)) -- found, due = (_law_outcome(lambda: tool.remove_rule(a, b, c)), _law_gone_due(rules, (a, b, c)))
              )))) -- if option < 7:
            )) -- if option == 2:
          ) -- if option < 2:
        (pss_cons (ps_if (pt_cmpR (op_neR hr.units) (pv 12) (pv 13) (nomark _)) 
          (pss_one (ps_ret pe_bl)) -- return False
           pss_nil) -- if found != due:
        (C8.pss_cut (ps_set (i := 20) sc_law.nd rfl (.inl rfl) (pe_tup (pa_cons (pe_meth0G (pv 3) T.Watcher.cl T.Watcher_verdicts.M (G_Watcher_verdicts T) gd (hr.mono (by decide)) T.Watcher_verdicts.b .nil pass0) (pa_cons (pe_meth0G (pv 3) T.Watcher.cl T.Watcher_held_counts.M (G_Watcher_held_counts T) gd (hr.mono (by decide)) T.Watcher_held_counts.b .nil pass0) (pa_cons (pe_callTy (call_listItT rfl) (by rfl) T.m_list (by decide +kernel) (pa_cons (pe_bm0 PySem.F.plainAttrs_dict PySem.F.slot_dict_items PySem.F.type_dict_items DX.mt_itemsT (pe_meth0G (pv 3) T.Watcher.cl T.Watcher_rules.M (G_Watcher_rules T) gd (hr.mono (by decide)) T.Watcher_rules.b .nil pass0)) pa_nil)) (pa_cons (pe_callB (call_lenG T.Watcher_len.M.at_ T.tf_Watcher_len (G_Watcher_len T) gd (hr.mono (by decide)) T.Watcher_len.b) (by rfl) T.m_len PySem.boot_len (pa_cons (pv 3) pa_nil)) (pa_cons (pe_fld (pv 3) rfl) pa_nil))))))) -- told = (tool.verdicts(), tool.held_counts(), list(tool.rules().items()), len(tool), tool.words)
        (C8.pss_cut (ps_set (i := 21) sc_law.nd rfl (.inr rfl) (pe_callTy (call_list_dT rfl) (by rfl) T.m_list (by decide +kernel) (pa_cons (pv 5) pa_nil))) -- names = list(rules)
        (C8.pss_cut (ps_set (i := 22) sc_law.nd rfl (.inl rfl) (pe_callB (call_sortDd (enc := encK) hr.units) (by rfl) T.m_sorted PyProof.Rows.boot_sorted (pa_cons (pe_lc (own := [("at", 23), ("rule", 24)]) (g := gTup K 2 (gCons (gName 23) (gCons (gName 24) gNil))) rfl sc_law.nd (pi_enum (by rfl) T.m_enumerate (pa_cons (pv 21) pa_nil)) (blkOk_by (N := N_law) (sc := defScope s_law) (by decide +kernel)) (fun _ _ _ _ _ => (pg_tup rfl (pgs_cons (pg_name (i := 23) sc_law.nd rfl (.inl rfl)) (pgs_cons (pg_name (i := 24) sc_law.nd rfl (.inl rfl)) pgs_nil)))) (fun _ _ _ _ _ => pts_nil) (fun _ _ _ _ _ => (pe_tup (pa_cons (pe_callG (G_law_rank T) gd (hr.mono (by decide)) rfl T.law_rank.g T.law_rank.F.kp T.law_rank.b .nil pass0 (pa_cons (pv 24) pa_nil)) (pa_cons (pv 23) pa_nil))))) pa_nil))) -- ranks = sorted([(_law_rank(rule), at) for at, rule in enumerate(names)])
        (C8.pss_cut (ps_setLc (i := 25) (own := [("rank", 26), ("at", 23)]) (g := gTup K 2 (gCons (gName 26) (gCons (gName 23) gNil))) rfl sc_law.nd rfl rfl (by rfl) (pi_list (pv 22)) (blkOk_by (N := N_law) (sc := defScope s_law) (by decide +kernel)) (fun _ _ _ _ _ => (pg_tup rfl (pgs_cons (pg_name (i := 26) sc_law.nd rfl (.inl rfl)) (pgs_cons (pg_name (i := 23) sc_law.nd rfl (.inl rfl)) pgs_nil)))) (fun _ _ _ _ _ => pts_nil) (fun _ _ _ _ _ => (pe_tup (pa_cons (pe_ix (r := rIxL K) ix_list (pv 21) (pv 23) (fun _ _ => rfl)) (pa_cons (pe_dget (hu_of hr) (pv 5) (pe_ix (r := rIxL K) ix_list (pv 21) (pv 23) (fun _ _ => rfl)) (fun _ _ => rfl)) pa_nil))))) -- order = [(names[at], rules[names[at]]) for rank, at in ranks]
        (C8.pss_cut (ps_set (i := 27) sc_law.nd rfl (.inl rfl) (pe_tup (pa_cons (pe_callTy call_tuple_of (by rfl) T.m_tuple (by decide +kernel) (pa_cons (pe_lc (own := [("one", 28)]) (g := gName 28) rfl sc_law.nd (pi_list (pv 4)) (blkOk_by (N := N_law) (sc := defScope s_law) (by decide +kernel)) (fun _ _ _ _ _ => (pg_name (i := 28) sc_law.nd rfl (.inl rfl))) (fun _ _ _ _ _ => pts_nil) (fun _ _ _ _ _ => (pe_ix (r := rIxL K) ix_list (pv 28) pe_int (fun _ _ => rfl)))) pa_nil)) (pa_cons (pe_callTy call_tuple_of (by rfl) T.m_tuple (by decide +kernel) (pa_cons (pe_lc (own := [("one", 28)]) (g := gName 28) rfl sc_law.nd (pi_list (pv 4)) (blkOk_by (N := N_law) (sc := defScope s_law) (by decide +kernel)) (fun _ _ _ _ _ => (pg_name (i := 28) sc_law.nd rfl (.inl rfl))) (fun _ _ _ _ _ => pts_nil) (fun _ _ _ _ _ => (pe_ix (r := rIxL K) ix_list (pv 28) pe_int (fun _ _ => rfl)))) pa_nil)) (pa_cons (pv 25) (pa_cons (pe_callB call_len_seq (by rfl) T.m_len PySem.boot_len (pa_cons (pv 4) pa_nil)) (pa_cons (pv 2) pa_nil))))))) -- rows = (tuple([one[0] for one in kinds]), tuple([one[1] for one in kinds]), order, len(kinds), many)
        (pss_cons (ps_if (PW.pt (pw_or (pt_cmpR op_ne (pe_callB (call_reprD gd hr.units) (by rfl) T.m_repr (by decide +kernel) (pa_cons (pv 20) pa_nil)) (pe_callB (call_reprD gd hr.units) (by rfl) T.m_repr (by decide +kernel) (pa_cons (pv 27) pa_nil)) (nomark _)) (pw_or1 (pt_cmpR op_ne (pe_callB (call_reprT gd hr.units) (by rfl) T.m_repr (by decide +kernel) (pa_cons (pv 7) pa_nil)) (pv 8) (nomark _))))) 
          (pss_one (ps_ret pe_bl)) -- return False
           pss_nil) -- if repr(told) != repr(rows) or repr(old) != page:
        (pss_one (ps_expr (pe_bm0 PySem.F.plainAttrs_dict PySem.F.slot_dict_clear PySem.F.type_dict_clear mtd_clearT (pe_meth0G (pv 3) T.Watcher.cl T.Watcher_rules.M (G_Watcher_rules T) gd (hr.mono (by decide)) T.Watcher_rules.b .nil pass0)))) -- tool.rules().clear()
        )))))))))) -- for turn in range(24):
      (pss_one (ps_ret pe_bl)) -- return True
      )))) , ?_⟩
    refine ⟨.ref sa, rfl, sa, ns, rfl, hS, hl, fun p c H1 e1 np nc hP => ?_⟩
    have hT1 := e1 _ _ hT
    refine ⟨.ref p, rfl, p, c, 3, rfl, hP, by decide, by decide, fun z H2 z0 z1 k2 P2 => ?_⟩
    have hTp : cT ≠ p := ne_of_none hT np
    have hT2 := k2 _ _ hT1 hTp
    refine ⟨1, z, rfl, rfl, ?_⟩
    have n1 : 1 ≤ 1 + z := by omega
    have n3 : 1 + z ≤ 3 := by omega
    dsimp only
    generalize 1 + z = n at n1 n3
    refine ⟨fun σ H' => ∃ x lv lh d kl rd l0 y6 y7 y8 y9 y10 y11 y12 y13 y14 y15 y16 y17 y18 y19 y20 y21 y22 y25 y27, σ = [some (.ref sa), some (.ref p), some (.int n), some (.ref x), some (.ref kl), some (.ref rd), y6, y7, y8, y9, y10, y11, y12, y13, y14, y15, y16, y17, y18, y19, y20, y21, y22, none, none, y25, none, y27, none] ∧ LI T.Watcher.C cT H' p c x lv lh d kl rd [l0] n [(0, 0)] [] 0, ?_, ?_⟩
    · refine ⟨.int n, rfl, fun x dx nx ndx ne => ?_⟩
      have sX : Same H2 (upd (upd H2 dx (.own x)) x (.ins T.Watcher.C dx [])) := (same_new ndx).trans (same_new (by rw [upd_ne ne.symm]; exact nx))
      refine ⟨x, x, dx, .int n, .int n, rfl, upd_same, .int _, fun n' en _ _ H3 lv lh d b' f1 f2 f3 hW => ⟨rfl, ?_⟩, fun bad e he => ?_⟩
      rotate_left
      · rw [btw_true n1 n3] at bad
        cases bad
      cases en
      have s23 : Same H2 H3 := fun b o e => b' b o (sX b o e) (ne_of_none e nx)
      have g1 := sX.free f1
      have g2 := sX.free f2
      refine ⟨by show 2 ≤ sizeLine; decide, fun l0 nl0 => ?_⟩
      have s4 := same_new (o := .lst [.int 0, .int 0]) nl0
      have hl0 : upd H3 l0 (.lst [.int 0, .int 0]) l0 = some (.lst [.int 0, .int 0]) := upd_same
      have z1 := ne_of_none hW.ver nl0
      have z2 := ne_of_none hW.hel nl0
      have P3 := P2.mono s23
      have z3 := ne_at P3.some' nl0
      obtain ⟨pn, ep⟩ := P3.at
      obtain ⟨cn, _, _, ⟨ep', ec⟩, _⟩ := id P3
      have z4 := ne_of_none ec nl0
      generalize upd H3 l0 (.lst [.int 0, .int 0]) = H4 at s4 hl0
      refine ⟨by show 1 ≤ sizeLine; decide, fun kl nkl => ?_⟩
      have s5 := same_new (o := .lst [.ref l0]) nkl
      have hkl : upd H4 kl (.lst [.ref l0]) kl = some (.lst [.ref l0]) := upd_same
      have y0 := ne_of_none hl0 nkl
      have y1 := ne_of_none (s4 _ _ hW.ver) nkl
      have y2 := ne_of_none (s4 _ _ hW.hel) nkl
      have y3 := ne_of_none (s4 _ _ ep) nkl
      have y4 := ne_of_none (s4 _ _ ec) nkl
      generalize upd H4 kl (.lst [.ref l0]) = H5 at s5 hkl
      refine fun rd nrd => ?_
      have s6 := same_new (o := .dT []) nrd
      have hrd : upd H5 rd (.dT []) rd = some (.dT []) := upd_same
      obtain ⟨kvd, hd, hkd⟩ := hW.rul
      have x1 := ne_of_none (s5 _ _ (s4 _ _ hd)) nrd
      generalize upd H5 rd (.dT []) = H6 at s6 hrd
      refine ⟨by show 3 ≤ sizeLine; decide, fun tp ntp => ?_⟩
      have s7 := same_new (o := .tup [.ref x, .ref kl, .ref rd]) ntp
      have s37 := s4.trans (s5.trans (s6.trans s7))
      refine ⟨tp, _, rfl, SqT.of upd_same, rfl, .ref x, [.ref kl, .ref rd], rfl, .ref kl, [.ref rd], rfl, .ref rd, [], rfl, rfl, ?_⟩
      have hTp2 : cT ≠ p := hTp
      refine ⟨x, lv, lh, d, kl, rd, l0, _, _, _, _, _, _, _, _, _, _, _, _, _, _, _, _, _, _, _, rfl, ⟨⟨P3.mono s37, hW.mono s37, ⟨s7 _ _ (s6 _ _ hkl), .cons (s7 _ _ (s6 _ _ (s5 _ _ hl0))) .nil, by simp⟩, ⟨[], s7 _ _ hrd, .nil⟩, ?_, x1⟩, ⟨⟨n1, n3⟩, ⟨⟨Nat.le_refl 1, by show 1 ≤ 6; decide⟩, rfl, fun k hk => ?_⟩, fun _ hr => by (cases hr), List.nodup_nil, Nat.le_refl 0⟩, fun w hw => ?_⟩⟩
      · have q1 : p ≠ c := fun z => by
          rw [z, ec] at ep'
          have ep2 := HO.lst.inj (Option.some.inj ep')
          cases cn with
          | nil => cases ep2
          | cons a r => cases ep2
        have q2 : p ≠ lv := fun z => by
          obtain ⟨u, e⟩ := P2.at
          rw [z, g1] at e
          cases e
        have q3 : p ≠ lh := fun z => by
          obtain ⟨u, e⟩ := P2.at
          rw [z, g2] at e
          cases e
        obtain ⟨_, _, _, ⟨_, ec2⟩, _⟩ := id P2
        have q4 : c ≠ lv := fun z => by
          rw [z, g1] at ec2
          cases ec2
        have q5 : c ≠ lh := fun z => by
          rw [z, g2] at ec2
          cases ec2
        have q6 := hW.ne
        simp only [List.nodup_cons, List.mem_cons, List.not_mem_nil, or_false, not_or, not_false_eq_true, List.nodup_nil, and_true]
        exact ⟨⟨q1, q2, q3, y3, z3.symm⟩, ⟨q4, q5, y4, z4⟩, ⟨q6, y1, z1⟩, ⟨y2, z2⟩, y0.symm⟩
      · rw [List.mem_singleton.mp hk]
        exact ⟨by decide, by decide, by decide, by decide⟩
      · rcases List.mem_singleton.mp hw with rfl
        exact LamX.TabS.nil (s37 _ _ (s23 _ _ hT2))
    rintro σ H3 ⟨x, lv, lh, d, kl, rd, l0, y6, y7, y8, y9, y10, y11, y12, y13, y14, y15, y16, y17, y18, y19, y20, y21, y22, y25, y27, rfl, L3⟩
    refine ⟨fun σ H' => True, ?_, fun σ H' _ => q _⟩
    refine ⟨24, rfl, by decide, by decide, ?_⟩
    refine for_range (n := 24) (fun i σ H' => ∃ ls ks R y6 y7 y8 y9 y10 y11 y12 y13 y14 y15 y16 y17 y18 y19 y20 y21 y22 y25 y27, σ = [some (.ref sa), some (.ref p), some (.int n), some (.ref x), some (.ref kl), some (.ref rd), y6, y7, y8, y9, y10, y11, y12, y13, y14, y15, y16, y17, y18, y19, y20, y21, y22, none, none, y25, none, y27, none] ∧ LI T.Watcher.C cT H' p c x lv lh d kl rd ls n ks R i) ⟨_, _, _, _, _, _, _, _, _, _, _, _, _, _, _, _, _, _, _, _, _, _, rfl, L3⟩ ?_ (fun _ _ _ => trivial)
    clear L3 H3 k2 P2 hP e1 hT1 hT2 np nc hTp
    rintro i σ H4 hi ⟨ls, ks, R, y6, y7, y8, y9, y10, y11, y12, y13, y14, y15, y16, y17, y18, y19, y20, y21, y22, y25, y27, rfl, L4⟩
    generalize 0 + (i : Int) = tn
    have hsm := sort_small L4.ok.k L4.ok.w.2 L4.ok.r L4.ok.nd
    have hln : (sortR (rowsOf R)).length ≤ 1000 := by
      unfold sortR
      rw [List.length_map, srt_len, rowsOf_keys, List.length_map]
      have := L4.ok.len
      omega
    obtain ⟨r1, r2, r3⟩ := rows_show hsm hln
    refine ⟨fun σ H' => ∃ t0 o y10 y11 y12 y13 y14 y15 y16 y17 y18 y19 y20 y21 y22 y25 y27, σ = [some (.ref sa), some (.ref p), some (.int n), some (.ref x), some (.ref kl), some (.ref rd), some (.int tn), some (.ref t0), some (.str (PyData.dict (rowsD (sortR (rowsOf R)))).shown), some (.int o), y10, y11, y12, y13, y14, y15, y16, y17, y18, y19, y20, y21, y22, none, none, y25, none, y27, none] ∧ LX T.Watcher.C cT H' p c x lv lh d kl rd ls n ks ks R R t0 (sortR (rowsOf R)) ∧ 0 ≤ o, ?_, ?_⟩
    · obtain ⟨dx, hx⟩ := L4.ha.wat.ins
      refine ⟨.ref x, rfl, x, dx, _, rfl, hx, rfl, x, lv, lh, d, n, _, _, _, rfl, L4.ha.wat, fun t0 H5 kv0 s5 nt0 ht0 hk0 => ?_⟩
      have nold : ¬ OldS p lv lh d kl rd ls t0 := fun z => by
        rcases L4.ha.oldp _ z with ⟨us, e⟩ | ⟨us, e⟩ <;> rw [nt0] at e <;> cases e
      have L5 : LX T.Watcher.C cT H5 p c x lv lh d kl rd ls n ks ks R R t0 (sortR (rowsOf R)) := ⟨L4.ha.same s5, L4.tb.ext s5, ⟨kv0, ht0, hk0⟩, nold⟩
      refine ⟨.ref x, rfl, x, dx, _, rfl, s5 _ _ hx, rfl, x, lv, lh, d, n, _, _, _, rfl, L5.ha.wat, fun t1 H6 kv1 s6 nt1 ht1 hk1 => ?_⟩
      refine ⟨t1, kv1, sortR (rowsOf R), rfl, ht1, hk1, r1, r2, r3, ?_⟩
      have L6 := L5.same s6
      refine ⟨.ref p, rfl, p, c, 8, rfl, L6.ha.pen, by decide, by decide, fun o H7 o0 o1 k7 P7 => ?_⟩
      exact ⟨.ref t0, .str _, .int o, rfl, t0, o, _, _, _, _, _, _, _, _, _, _, _, _, _, _, _, rfl, L6.draw k7 P7, o0⟩
    have HK := L4.ok
    clear L4
    rintro σ H5 ⟨t0, o, y10, y11, y12, y13, y14, y15, y16, y17, y18, y19, y20, y21, y22, y25, y27, rfl, L5, o0⟩
    refine ⟨fun σ H' => ∃ fv dv D ls' ks' R' y9 y10 y11 y14 y15 y16 y17 y18 y19 y20 y21 y22 y25 y27, σ = [some (.ref sa), some (.ref p), some (.int n), some (.ref x), some (.ref kl), some (.ref rd), some (.int tn), some (.ref t0), some (.str (PyData.dict (rowsD (sortR (rowsOf R)))).shown), y9, y10, y11, some fv, some dv, y14, y15, y16, y17, y18, y19, y20, y21, y22, none, none, y25, none, y27, none] ∧ TD H' fv D ∧ TD H' dv D ∧ ResD D ∧ LX T.Watcher.C cT H' p c x lv lh d kl rd ls' n ks' ks' R' R' t0 (sortR (rowsOf R)) ∧ HOkk n ks' R' (i + 1), ?_, ?_⟩
    · have op : OldS p lv lh d kl rd ls p := .inl rfl
      have nold : ∀ {H9 : Hp} {k1 k2 : List (Int × Int)} {Ra Rb : List PRule}, LX T.Watcher.C cT H9 p c x lv lh d kl rd ls n k1 k2 Ra Rb t0 (sortR (rowsOf R)) → ∀ a, OldS p lv lh d kl rd ls a → H9 a ≠ none := fun L a oa => (L.ha.old a oa).1
      refine ⟨.int o, rfl, o, 2, rfl, rfl, _, rfl, ite2 (fun c1 => ?_) (fun c1 => ?_)⟩
      · -- a state is added
        refine ⟨.ref p, rfl, .ref p, rfl, p, c, 4, rfl, L5.ha.pen, by decide, by decide, fun u1 Ha a0 a1 ka Pa => ?_⟩
        have La := L5.draw ka Pa
        refine ⟨p, c, .int u1, .int u1, OldS p lv lh d kl rd ls, rfl, Pa, op, nold La, fun _ _ => .int _, fun v1 d1 Hb kb Pb e1 od1 => ?_⟩
        have Lb := La.draw kb Pb
        refine ⟨.ref p, rfl, .ref p, rfl, p, c, 4, rfl, Pb, by decide, by decide, fun u2 Hc b0 b1 kc Pc => ?_⟩
        have Lc := Lb.draw kc Pc
        refine ⟨p, c, .int u2, .int u2, OldS p lv lh d kl rd ls, rfl, Pc, op, nold Lc, fun _ _ => .int _, fun v2 d2 Hd kd Pd e2 od2 => ?_⟩
        have Ld := Lc.draw kd Pd
        have p1 := odd_part (PartD.int a0 (by omega)) e1
        have p2 := odd_part (PartD.int b0 (by omega)) e2
        have od1d := (od1.keep op kc).keep op kd
        refine ⟨by show 2 ≤ sizeLine; decide, fun tp ntp => ?_⟩
        have se := same_new (o := .tup [v1, v2]) ntp
        have Le := Ld.same se
        have od1e := od1d.same op se
        have od2e := od2.same op se
        refine ⟨tp, _, rfl, SqT.of upd_same, rfl, v1, [v2], rfl, v2, [], rfl, rfl, ?_⟩
        clear od1d od1 od2 Ld Lc Lb La
        generalize upd Hd tp (.tup [v1, v2]) = He at Le od1e od2e
        refine ⟨Le.tb, fun Hf ef tf => ?_⟩
        have Lf := Le.ext ef tf
        have od1f : OldS p lv lh d kl rd ls p → Od (OldS p lv lh d kl rd ls) Hf v1 d1 := fun op => od_mono op (fun c o e _ n => ef c o e n) d1 od1e
        have od2f : OldS p lv lh d kl rd ls p → Od (OldS p lv lh d kl rd ls) Hf v2 d2 := fun op => od_mono op (fun c o e _ n => ef c o e n) d2 od2e
        obtain ⟨dx, hx⟩ := Lf.ha.wat.ins
        refine ⟨.ref x, rfl, x, dx, _, rfl, hx, rfl, v1, rfl, v2, rfl, ?_⟩
        refine told_add_state (p := p) T Lf.ha (od1f op p op) (od2f op p op) p1.fine fun fv Hg k1' D mg st td Wg => ?_
        have Lg := Lf.tool mg Wg
        have od1g : Od (OldS p lv lh d kl rd ls) Hg v1 d1 := od_mono op (fun c o e n _ => mg c o e (fun z => n (tool_old _ z))) d1 (od1f op)
        have od2g : Od (OldS p lv lh d kl rd ls) Hg v2 d2 := od_mono op (fun c o e n _ => mg c o e (fun z => n (tool_old _ z))) d2 (od2f op)
        refine ⟨.ref kl, rfl, v1, rfl, v2, rfl, kl, ls, ks, p, v1, v2, d1, d2, rfl, Lg.ha.kin, HK.k.len.2, od1g p op, od2g p op, p1.fine, fun no v Hh sh tdh => ?_, fun a b ea eb ok v Hh l fr nl Kh tdh => ?_⟩
        · obtain ⟨eD, ek⟩ := st.eq (.no no)
          subst eD ek
          exact ⟨fv, v, rfl, fv, v, _, ls, _, R, _, _, _, _, _, _, _, _, _, _, _, _, _, _, rfl, td.mono (Tups.same sh), tdh, st.res, Lg.same sh, HK.weak (Nat.le_succ i)⟩
        · obtain ⟨eD, ek⟩ := st.eq (.yes a b ea eb ok)
          subst eD ek
          have tp9 : Tups Hg Hh := fun b' xs e => fr b' _ e (fun z => by
            rw [z, Lg.ha.kin.at_] at e
            cases e)
          obtain ⟨kvr, hr9, hkv9⟩ := Lg.ha.rul
          have nd9 : (p :: c :: lv :: lh :: kl :: (ls ++ [l])).Nodup := by
            show ((p :: c :: lv :: lh :: kl :: ls) ++ [l]).Nodup
            refine List.nodup_append.mpr ⟨Lg.ha.nd, by simp, fun a' ha' b' hb' z => ?_⟩
            rw [List.mem_singleton.mp hb'] at z
            exact Lg.ha.some a' ha' (z ▸ nl)
          have nt9 : t0 ∉ ls ++ [l] := fun z => by
            rcases List.mem_append.mp z with z | z
            · exact Lg.nt (.inr (.inr (.inr (.inr (.inr (.inr z))))))
            · obtain ⟨kv0, e0, _⟩ := Lg.dic
              rw [List.mem_singleton.mp z, nl] at e0
              cases e0
          have Lh := Lg.due (fun c' o' e' n' => fr c' o' e' (fun z => n' (.inr (z ▸ List.mem_cons_self)))) Kh ⟨kvr, fr _ _ hr9 (ne_of hr9 Lg.ha.kin.at_ (fun z => nomatch z)), hkv9.mono tp9⟩ nd9 nt9
          exact ⟨fv, v, rfl, fv, v, _, _, _, R, _, _, _, _, _, _, _, _, _, _, _, _, _, _, rfl, td.mono tp9, tdh, st.res, Lh, (HK.state st).weak (Nat.le_succ i)⟩
      refine ⟨.int o, rfl, rfl, _, rfl, ite2 (fun c2 => ?_) (fun c2 => ?_)⟩
      · -- a verdict is set
        have l9 : (ls.map V.ref).length = ks.length := by rw [List.length_map]; exact L5.ha.kin.len
        have k6 := HK.k.len
        refine ⟨.ref p, rfl, .ref p, rfl, .ref kl, rfl, kl, _, rfl, .inl (SqL.of L5.ha.kin.at_), p, c, _, rfl, L5.ha.pen, by rw [l9]; omega, by rw [l9]; omega, fun u1 Ha a0 a1 ka Pa => ?_⟩
        rw [l9] at a1
        have La := L5.draw ka Pa
        refine ⟨p, c, .int u1, .int u1, OldS p lv lh d kl rd ls, rfl, Pa, op, nold La, fun _ _ => .int _, fun v1 d1 Hb kb Pb e1 od1 => ?_⟩
        have Lb := La.draw kb Pb
        refine ⟨.ref p, rfl, .ref p, rfl, p, c, 4, rfl, Pb, by decide, by decide, fun u2 Hc b0 b1 kc Pc => ?_⟩
        have Lc := Lb.draw kc Pc
        refine ⟨p, c, .int u2, .int u2, OldS p lv lh d kl rd ls, rfl, Pc, op, nold Lc, fun _ _ => .int _, fun v2 d2 Hd kd Pd e2 od2 => ?_⟩
        have Ld := Lc.draw kd Pd
        have p1 := odd_part (PartD.int a0 (by omega)) e1
        have p2 := odd_part (PartD.int b0 (by omega)) e2
        have od1d := (od1.keep op kc).keep op kd
        refine ⟨by show 2 ≤ sizeLine; decide, fun tp ntp => ?_⟩
        have se := same_new (o := .tup [v1, v2]) ntp
        have Le := Ld.same se
        have od1e := od1d.same op se
        have od2e := od2.same op se
        refine ⟨tp, _, rfl, SqT.of upd_same, rfl, v1, [v2], rfl, v2, [], rfl, rfl, ?_⟩
        clear od1d od1 od2 Ld Lc Lb La
        generalize upd Hd tp (.tup [v1, v2]) = He at Le od1e od2e
        refine ⟨Le.tb, fun Hf ef tf => ?_⟩
        have Lf := Le.ext ef tf
        have od1f : Od (OldS p lv lh d kl rd ls) Hf v1 d1 := od_mono op (fun c o e _ n => ef c o e n) d1 od1e
        have od2f : Od (OldS p lv lh d kl rd ls) Hf v2 d2 := od_mono op (fun c o e _ n => ef c o e n) d2 od2e
        obtain ⟨dx, hx⟩ := Lf.ha.wat.ins
        refine ⟨.ref x, rfl, x, dx, _, rfl, hx, rfl, v1, rfl, v2, rfl, ?_⟩
        refine told_set_verdict (p := p) T Lf.ha (od1f p op) (od2f p op) p1.fine p2.fine fun fv Hg k1' D mg st td Wg => ?_
        have Lg := Lf.tool mg Wg
        have od1g : Od (OldS p lv lh d kl rd ls) Hg v1 d1 := od_mono op (fun c o e n _ => mg c o e (fun z => n (tool_old _ z))) d1 od1f
        have od2g : Od (OldS p lv lh d kl rd ls) Hg v2 d2 := od_mono op (fun c o e n _ => mg c o e (fun z => n (tool_old _ z))) d2 od2f
        refine ⟨.ref kl, rfl, v1, rfl, v2, rfl, kl, ls, ks, p, v1, v2, d1, d2, rfl, Lg.ha.kin, HK.k.len.2, od1g p op, od2g p op, p1.fine, p2.fine, fun no v Hh sh tdh => ?_, fun a b ea eb ok v Hh fr Kh tdh => ?_⟩
        · obtain ⟨eD, ek⟩ := st.eq (.no no)
          subst eD ek
          exact ⟨fv, v, rfl, fv, v, _, ls, _, R, _, _, _, _, _, _, _, _, _, _, _, _, _, _, rfl, td.mono (Tups.same sh), tdh, st.res, Lg.same sh, HK.weak (Nat.le_succ i)⟩
        · obtain ⟨eD, ek⟩ := st.eq (.yes a b ea eb ok)
          subst eD ek
          have inls : ∀ b', b' ∈ ls → ∃ us, Hg b' = some (.lst us) := fun b' z => by
            obtain ⟨k, e⟩ := paired_mem Lg.ha.kin.all z
            exact ⟨_, e⟩
          have tp9 : Tups Hg Hh := fun b' xs e => fr b' _ e (fun z => by
            obtain ⟨us, e2⟩ := inls b' z
            rw [e] at e2
            cases e2)
          obtain ⟨kvr, hr9, hkv9⟩ := Lg.ha.rul
          have nrl : rd ∉ ls := fun z => by
            obtain ⟨us, e2⟩ := inls rd z
            rw [hr9] at e2
            cases e2
          have Lh := Lg.due (fun c' o' e' n' => fr c' o' e' (fun z => n' (.inr (List.mem_cons_of_mem _ z)))) Kh ⟨kvr, fr _ _ hr9 nrl, hkv9.mono tp9⟩ Lg.ha.nd (fun z => Lg.nt (.inr (.inr (.inr (.inr (.inr (.inr z)))))))
          exact ⟨fv, v, rfl, fv, v, _, _, _, R, _, _, _, _, _, _, _, _, _, _, _, _, _, _, rfl, td.mono tp9, tdh, st.res, Lh, (HK.verdict st).weak (Nat.le_succ i)⟩
      refine ⟨.int o, rfl, o, 7, rfl, rfl, _, rfl, ite2 (fun c3 => ?_) (fun c3 => ?_)⟩
      · -- a rule is added
        refine ⟨.ref p, rfl, .int n, rfl, .ref kl, rfl, p, c, n, kl, ls, ks, OldS p lv lh d kl rd ls, rfl, L5.ha.pen, op, L5.ha.old, L5.ha.kin, L5.ha.nds.2.2.1, HK.k, HK.w.1, HK.w.2, fun L xs ds Ha ka Pa hL od l5 pd => ?_⟩
        have La := L5.draw ka Pa
        obtain ⟨d1, d2, d3, d4, d5, rfl⟩ : ∃ d1 d2 d3 d4 d5, ds = [d1, d2, d3, d4, d5] := by
          match ds, l5 with
          | [d1, d2, d3, d4, d5], _ => exact ⟨_, _, _, _, _, rfl⟩
        obtain ⟨v1, v2, v3, v4, v5, rfl⟩ : ∃ v1 v2 v3 v4 v5, xs = [v1, v2, v3, v4, v5] := by
          have := (od p op).length
          match xs, this with
          | [v1, v2, v3, v4, v5], _ => exact ⟨_, _, _, _, _, rfl⟩
        have q1 := pd d1 (by simp)
        have q2 := pd d2 (by simp)
        have q3 := pd d3 (by simp)
        have q4 := pd d4 (by simp)
        have q5 := pd d5 (by simp)
        refine ⟨L, _, rfl, SqL.of hL, rfl, v1, [v2, v3, v4, v5], rfl, v2, [v3, v4, v5], rfl, v3, [v4, v5], rfl, v4, [v5], rfl, v5, [], rfl, rfl, ?_⟩
        refine ⟨La.tb, fun Hf ef tf => ?_⟩
        have Lf := La.ext ef tf
        have odf : Ods (OldS p lv lh d kl rd ls) Hf [v1, v2, v3, v4, v5] [d1, d2, d3, d4, d5] := ods_mono op (fun c o e _ n => ef c o e n) _ od
        obtain ⟨dx, hx⟩ := Lf.ha.wat.ins
        have five : ∀ {H9 : Hp}, Ods (OldS p lv lh d kl rd ls) H9 [v1, v2, v3, v4, v5] [d1, d2, d3, d4, d5] → LD p H9 v1 d1 ∧ LD p H9 v2 d2 ∧ LD p H9 v3 d3 ∧ LD p H9 v4 d4 ∧ LD p H9 v5 d5 := fun od9 => by
          have z := od9 p op
          cases z with
          | cons w1 z =>
            cases z with
            | cons w2 z =>
              cases z with
              | cons w3 z =>
                cases z with
                | cons w4 z =>
                  cases z with
                  | cons w5 z => exact ⟨w1, w2, w3, w4, w5⟩
        obtain ⟨w1, w2, w3, w4, w5⟩ := five odf
        have lR : R.length < 1000 := by have := HK.len; omega
        refine ⟨.ref x, rfl, x, dx, _, rfl, hx, rfl, v1, rfl, v2, rfl, v3, rfl, v4, rfl, v5, rfl, ?_⟩
        refine told_add_rule (p := p) T Lf.ha w1 w2 w3 w4 w5 q1.fine q2.fine q3.fine q4.fine q5.fine q3.nd q5.smallT lR fun fv Hg R1' D mg st td Wg => ?_
        have Lg := Lf.tool mg Wg
        have odg : Ods (OldS p lv lh d kl rd ls) Hg [v1, v2, v3, v4, v5] [d1, d2, d3, d4, d5] := ods_mono op (fun c o e n _ => mg c o e (fun z => n (tool_old _ z))) _ odf
        refine ⟨.int n, rfl, .ref kl, rfl, .ref rd, rfl, v1, rfl, v2, rfl, v3, rfl, v4, rfl, v5, rfl, by show 5 ≤ sizeLine; decide, fun tt ntt => ?_⟩
        have sj := same_new (o := .tup [v1, v2, v3, v4, v5]) ntt
        have Lj := Lg.same sj
        obtain ⟨z1, z2, z3, z4, z5⟩ := five (ods_mono op (fun c o e _ _ => sj c o e) _ odg)
        have tdj := td.mono (Tups.same sj)
        obtain ⟨kvr, hr9, hkv9⟩ := Lj.ha.rul
        refine ⟨n, kl, ls, ks, rd, R, tt, p, v1, v2, v3, v4, v5, d1, d2, d3, d4, d5, rfl, upd_same, Lj.ha.kin, Lj.ha.rul, lR, z1, z2, z3, z4, z5, q1.fine, q2.fine, q3.fine, q4.fine, q5.fine, q5.parted, fun D2 R2' st2 v Hh fr Rh tdh => ?_⟩
        obtain ⟨eD, ek⟩ := st.eq st2
        subst eD ek
        have tp9 : Tups _ Hh := fun b' xs e => fr b' _ e (fun z => by
          rw [z, hr9] at e
          cases e)
        have Kh : KAt Hh kl ls ks := Lj.ha.kin.mono fun b' hb' o e => fr b' o e (fun z => by
          rcases List.mem_cons.mp hb' with w | w
          · exact ne_of Lj.ha.kin.at_ hr9 (fun z => nomatch z) (w.symm.trans z)
          · obtain ⟨k, e2⟩ := paired_mem Lj.ha.kin.all w
            rw [z, hr9] at e2
            cases e2)
        have Lh := Lj.due (fun c' o' e' n' => fr c' o' e' (fun z => n' (.inl z))) Kh Rh Lj.ha.nd (fun z => Lj.nt (.inr (.inr (.inr (.inr (.inr (.inr z)))))))
        exact ⟨fv, v, D, ls, ks, _, _, _, _, _, _, _, _, _, _, _, _, _, _, _, rfl, tdj.mono tp9, tdh, st.res, Lh, HK.rule st⟩
      · -- a rule is taken away
        refine ⟨.ref p, rfl, .int n, rfl, .ref kl, rfl, p, c, n, kl, ls, ks, OldS p lv lh d kl rd ls, rfl, L5.ha.pen, op, L5.ha.old, L5.ha.kin, L5.ha.nds.2.2.1, HK.k, HK.w.1, HK.w.2, fun L xs ds Ha ka Pa hL od l5 pd => ?_⟩
        have La := L5.draw ka Pa
        obtain ⟨d1, d2, d3, d4, d5, rfl⟩ : ∃ d1 d2 d3 d4 d5, ds = [d1, d2, d3, d4, d5] := by
          match ds, l5 with
          | [d1, d2, d3, d4, d5], _ => exact ⟨_, _, _, _, _, rfl⟩
        obtain ⟨v1, v2, v3, v4, v5, rfl⟩ : ∃ v1 v2 v3 v4 v5, xs = [v1, v2, v3, v4, v5] := by
          have := (od p op).length
          match xs, this with
          | [v1, v2, v3, v4, v5], _ => exact ⟨_, _, _, _, _, rfl⟩
        have q1 := pd d1 (by simp)
        have q2 := pd d2 (by simp)
        have q3 := pd d3 (by simp)
        have odA : Ods (OldS p lv lh d kl rd ls) Ha [v1, v2, v3] [d1, d2, d3] := fun a oa => (od a oa).take 3
        refine ⟨L, _, rfl, SqL.of hL, rfl, v1, [v2, v3, v4, v5], rfl, v2, [v3, v4, v5], rfl, v3, [v4, v5], rfl, v4, [v5], rfl, v5, [], rfl, rfl, ?_⟩
        refine ⟨fun σ H' => ∃ v1 v2 v3 d1 d2 d3, σ = [some (.ref sa), some (.ref p), some (.int n), some (.ref x), some (.ref kl), some (.ref rd), some (.int tn), some (.ref t0), some (.str (PyData.dict (rowsD (sortR (rowsOf R)))).shown), some (.int o), y10, y11, y12, y13, y14, some v1, some v2, some v3, some v4, some v5, y20, y21, y22, none, none, y25, none, y27, none] ∧ LX T.Watcher.C cT H' p c x lv lh d kl rd ls n ks ks R R t0 (sortR (rowsOf R)) ∧ Ods (OldS p lv lh d kl rd ls) H' [v1, v2, v3] [d1, d2, d3] ∧ PartD d1 ∧ PartD d2 ∧ PartD d3, ?_, ?_⟩
        · obtain ⟨kvr, hr9, hkv9⟩ := La.ha.rul
          refine ⟨.ref rd, rfl, fun ed ned => ?_⟩
          have sed := same_new (o := .dT []) ned
          have Lb := La.same sed
          have odB : Ods (OldS p lv lh d kl rd ls) _ [v1, v2, v3] [d1, d2, d3] := ods_mono op (fun c o e _ _ => sed c o e) _ odA
          have hrb := sed _ _ hr9
          have hed : upd Ha ed (.dT []) ed = some (.dT []) := upd_same
          generalize upd Ha ed (.dT []) = Hb at Lb odB hrb hed
          by_cases hz : kvr.length = 0
          · refine ⟨rd, ed, kvr, rfl, rfl, hrb, .inr hed, false, by show V.bl (!decide _) = _; rw [decide_eq_true hz]; rfl, ?_⟩
            exact ⟨v1, v2, v3, d1, d2, d3, rfl, Lb, odB, q1, q2, q3⟩
          refine ⟨rd, ed, kvr, rfl, rfl, hrb, .inr hed, true, by show V.bl (!decide _) = _; rw [decide_eq_false hz]; rfl, ?_⟩
          refine iteT ⟨.ref p, rfl, p, c, 2, rfl, Lb.ha.pen, by decide, by decide, fun u Hc u0 u1 kc Pc => ⟨rfl, _, rfl, ite2 (fun c4 => ?_) (fun c4 => ?_)⟩⟩
          rotate_left
          · exact ⟨v1, v2, v3, d1, d2, d3, rfl, Lb.draw kc Pc, odB.keep op kc, q1, q2, q3⟩
          have Lc := Lb.draw kc Pc
          have rp : rd ≠ p := fun z => by
            obtain ⟨pn, ep⟩ := Lb.ha.pen.at
            rw [z, ep] at hrb
            cases hrb
          have hrc := kc _ _ hrb rp
          refine ⟨.ref rd, rfl, rd, kvr, rfl, .inl hrc, fun L2 bs nL2 isk => ?_⟩
          have sd := same_new (o := .lst (bs.map V.ref)) nL2
          have Ld := Lc.same sd
          have hL2 : upd Hc L2 (.lst (bs.map V.ref)) L2 = some (.lst (bs.map V.ref)) := upd_same
          have nL2p : L2 ≠ p := ne_at Pc.some' nL2
          have hrd := sd _ _ hrc
          generalize upd Hc L2 (.lst (bs.map V.ref)) = Hd at Ld hL2 hrd sd
          have lb : bs.length = kvr.length := (Paired.length isk).symm
          have l24 : kvr.length ≤ i := by
            have e1 := congrArg List.length (hkv9.keys.trans (rowsOf_keys _))
            simp only [List.length_map] at e1
            have := HK.len
            omega
          refine ⟨.ref p, rfl, .ref rd, rfl, rd, kvr, rfl, hrd, p, c, _, rfl, Ld.ha.pen, by omega, by omega, fun dd He d0 d9 ke Pe => ?_⟩
          have Le := Ld.draw ke Pe
          obtain ⟨j, rfl⟩ : ∃ j : Nat, dd = j := ⟨dd.toNat, by omega⟩
          obtain ⟨b, hb⟩ : ∃ b, bs[j]? = some b := ⟨_, List.getElem?_eq_getElem (by omega)⟩
          obtain ⟨kv, ekv, hbk⟩ := isKeys_at isk hb
          have hkR : kv.1 ∈ R.map (·.1) := by
            rw [← rowsOf_keys, ← hkv9.keys]
            exact List.mem_map.mpr ⟨kv, List.mem_of_getElem? ekv, rfl⟩
          obtain ⟨s', w', t', ek, s0, s1, w0, w1, tk⟩ := HK.rks _ hkR
          rw [ek] at hbk
          have hbe := Ld.ha.pen.tups ke _ _ (sd _ _ hbk)
          refine ⟨L2, bs.map V.ref, j, .ref b, rfl, rfl, SqL.of (ke _ _ hL2 nL2p), atI_nat (by rw [List.getElem?_map, hb]; rfl), ?_⟩
          refine ⟨b, _, rfl, SqT.of hbe, rfl, .int s', [.int w', kV t'], rfl, .int w', [kV t'], rfl, kV t', [], rfl, rfl, ?_⟩
          have q3' : PartD (kD t') := by
            rcases tk with ⟨j', rfl, j0, j1⟩ | rfl
            · exact PartD.int j0 (by omega)
            · exact .inl (List.mem_of_getElem? (l := oddL) (i := 5) rfl)
          exact ⟨_, _, _, .int s', .int w', kD t', rfl, Le, fun _ _ => .cons (.int _) (.cons (.int _) (.cons (ldK t') .nil)), PartD.int s0 s1, PartD.int w0 (by omega), q3'⟩
        rintro σ Hc ⟨v1, v2, v3, d1, d2, d3, rfl, Lc, odC, q1, q2, q3⟩
        refine ⟨Lc.tb, fun Hf ef tf => ?_⟩
        have Lf := Lc.ext ef tf
        have odf : Ods (OldS p lv lh d kl rd ls) Hf [v1, v2, v3] [d1, d2, d3] := ods_mono op (fun c o e _ n => ef c o e n) _ odC
        obtain ⟨dx, hx⟩ := Lf.ha.wat.ins
        have three : ∀ {H9 : Hp}, Ods (OldS p lv lh d kl rd ls) H9 [v1, v2, v3] [d1, d2, d3] → LD p H9 v1 d1 ∧ LD p H9 v2 d2 ∧ LD p H9 v3 d3 := fun od9 => by
          have z := od9 p op
          cases z with
          | cons w1 z =>
            cases z with
            | cons w2 z =>
              cases z with
              | cons w3 z => exact ⟨w1, w2, w3⟩
        obtain ⟨w1, w2, w3⟩ := three odf
        refine ⟨.ref x, rfl, x, dx, _, rfl, hx, rfl, v1, rfl, v2, rfl, v3, rfl, ?_⟩
        refine told_remove_rule (p := p) T Lf.ha w1 w2 w3 (PartD.fine3 q1 q2 q3) (nold Lf p op) HK.rks fun fv Hg R1' D mg st td Wg => ?_
        have Lg := Lf.tool mg Wg
        have odg : Ods (OldS p lv lh d kl rd ls) Hg [v1, v2, v3] [d1, d2, d3] := ods_mono op (fun c o e n _ => mg c o e (fun z => n (tool_old _ z))) _ odf
        refine ⟨.ref rd, rfl, v1, rfl, v2, rfl, v3, rfl, by show 3 ≤ sizeLine; decide, fun tt ntt => ?_⟩
        have sj := same_new (o := .tup [v1, v2, v3]) ntt
        have Lj := Lg.same sj
        obtain ⟨z1, z2, z3⟩ := three (ods_mono op (fun c o e _ _ => sj c o e) _ odg)
        have tdj := td.mono (Tups.same sj)
        obtain ⟨kvr, hr9, hkv9⟩ := Lj.ha.rul
        obtain ⟨pn, ep⟩ := Lj.ha.pen.at
        refine ⟨rd, R, tt, p, v1, v2, v3, d1, d2, d3, rfl, upd_same, ne_at (nold Lg p op) ntt, Lj.ha.rul, by have := HK.len; omega, HK.nd, HK.rks, z1, z2, z3, ne_of hr9 ep (fun z => nomatch z), nold Lj p op, (Lj.ha.old p op).2, q1, q2, q3, PartD.fine3 q1 q2 q3, fun D2 R2' st2 v Hh fr Rh tdh => ?_⟩
        obtain ⟨eD, ek⟩ := st.eq st2
        subst eD ek
        have tp9 : Tups _ Hh := fun b' xs e => fr b' _ e (fun z => by
          rw [z, hr9] at e
          cases e)
        have Kh : KAt Hh kl ls ks := Lj.ha.kin.mono fun b' hb' o e => fr b' o e (fun z => by
          rcases List.mem_cons.mp hb' with w | w
          · exact ne_of Lj.ha.kin.at_ hr9 (fun z => nomatch z) (w.symm.trans z)
          · obtain ⟨k, e2⟩ := paired_mem Lj.ha.kin.all w
            rw [z, hr9] at e2
            cases e2)
        have Lh := Lj.due (fun c' o' e' n' => fr c' o' e' (fun z => n' (.inl z))) Kh Rh Lj.ha.nd (fun z => Lj.nt (.inr (.inr (.inr (.inr (.inr (.inr z)))))))
        exact ⟨fv, v, rfl, fv, v, D, ls, ks, _, _, _, _, _, _, _, _, _, _, _, _, _, _, _, rfl, tdj.mono tp9, tdh, st.res, Lh, (HK.gone st).weak (Nat.le_succ i)⟩
    rintro σ H6 ⟨fv, dv, D, ls', ks', R', y9, y10, y11, y14, y15, y16, y17, y18, y19, y20, y21, y22, y25, y27, rfl, tf, td, res, L6, HK6⟩
    refine ⟨fv, rfl, dv, rfl, ?_⟩
    refine ne_res res tf td ?_
    refine ⟨_, rfl, iteF ?_⟩
    refine ⟨fun σ H' => ∃ tl y9 y10 y11 y12 y13 y14 y15 y16 y17 y18 y19 y21 y22 y25 y27, σ = [some (.ref sa), some (.ref p), some (.int n), some (.ref x), some (.ref kl), some (.ref rd), some (.int tn), some (.ref t0), some (.str (PyData.dict (rowsD (sortR (rowsOf R)))).shown), y9, y10, y11, y12, y13, y14, y15, y16, y17, y18, y19, some (.ref tl), y21, y22, none, none, y25, none, y27, none] ∧ LX T.Watcher.C cT H' p c x lv lh d kl rd ls' n ks' ks' R' R' t0 (sortR (rowsOf R)) ∧ ToldAt H' tl n ks' (rowsOf R'), ?_, ?_⟩
    · obtain ⟨dx, hx⟩ := L6.ha.wat.ins
      refine ⟨.ref x, rfl, x, dx, _, rfl, hx, rfl, x, lv, lh, d, n, _, _, _, rfl, L6.ha.wat, fun ta nta => ?_⟩
      have sa1 := same_new (o := .tup ((ks'.map (·.1)).map V.int)) nta
      have hta : upd H6 ta (.tup ((ks'.map (·.1)).map V.int)) ta = some (.tup ((ks'.map (·.1)).map V.int)) := upd_same
      generalize upd H6 ta (.tup ((ks'.map (·.1)).map V.int)) = H7 at sa1 hta
      refine ⟨.ref x, rfl, x, dx, _, rfl, sa1 _ _ hx, rfl, x, lv, lh, d, n, _, _, _, rfl, L6.ha.wat.mono sa1, fun tb ntb => ?_⟩
      have sb1 := same_new (o := .tup ((ks'.map (·.2)).map V.int)) ntb
      have htb : upd H7 tb (.tup ((ks'.map (·.2)).map V.int)) tb = some (.tup ((ks'.map (·.2)).map V.int)) := upd_same
      generalize upd H7 tb (.tup ((ks'.map (·.2)).map V.int)) = H8 at sb1 htb
      have s68 := sa1.trans sb1
      refine ⟨.ref x, rfl, x, dx, _, rfl, s68 _ _ hx, rfl, x, lv, lh, d, n, _, _, _, rfl, L6.ha.wat.mono s68, fun r H9 kvs s9 nr hr9 kv9 => ?_⟩
      refine ⟨.inr (.inr (.inl ⟨rfl, .inr ⟨_, hr9⟩⟩)), r, kvs, rfl, rfl, hr9, fun pp np => ?_⟩
      have s10 := same_new np (o := DX.itemsO pp r)
      have hp10 : (upd H9 pp (DX.itemsO pp r)) pp = some (DX.itemsO pp r) := upd_same
      generalize upd H9 pp (DX.itemsO pp r) = H10 at s10 hp10
      refine ⟨pp, r, kvs, sortR (rowsOf R'), rfl, hp10, s10 _ _ hr9, KvD.mono (Tups.same s10) kv9, fun l2 as H11 s11 nl2 hl2 tdl => ?_⟩
      have s611 := s68.trans (s9.trans (s10.trans s11))
      have L11 := L6.same s611
      refine ⟨.ref x, rfl, x, dx, _, rfl, s611 _ _ hx, x, lv, lh, d, n, _, _, _, rfl, L11.ha.wat, _, rfl, ?_, ?_⟩
      · rw [List.length_map]
        have := HK6.k.len.2
        omega
      refine ⟨.ref x, rfl, x, T.Watcher.C, dx, _, .int n, rfl, s611 _ _ hx, T.Watcher.cl, T.W.n1, rfl, by show 5 ≤ sizeLine; decide, fun tl ntl => ?_⟩
      rw [show ((ks'.map (·.1)).length) = ks'.length from List.length_map _]
      have s12 := same_new (o := .tup [.ref ta, .ref tb, .ref l2, .int ks'.length, .int n]) ntl
      have s812 := s9.trans (s10.trans (s11.trans s12))
      exact ⟨tl, _, _, _, _, _, _, _, _, _, _, _, _, _, _, _, rfl, L11.same s12, ta, tb, l2, as, upd_same, s812 _ _ (sb1 _ _ hta), s812 _ _ htb, s12 _ _ hl2, tdl.mono (Tups.same s12)⟩
    clear L6 tf td
    rintro σ H7 ⟨tl, y9, y10, y11, y12, y13, y14, y15, y16, y17, y18, y19, y21, y22, y25, y27, rfl, L7, TA⟩
    refine ⟨fun σ H' => ∃ nm bs y9 y10 y11 y12 y13 y14 y15 y16 y17 y18 y19 y22 y25 y27, σ = [some (.ref sa), some (.ref p), some (.int n), some (.ref x), some (.ref kl), some (.ref rd), some (.int tn), some (.ref t0), some (.str (PyData.dict (rowsD (sortR (rowsOf R)))).shown), y9, y10, y11, y12, y13, y14, y15, y16, y17, y18, y19, some (.ref tl), some (.ref nm), y22, none, none, y25, none, y27, none] ∧ LX T.Watcher.C cT H' p c x lv lh d kl rd ls' n ks' ks' R' R' t0 (sortR (rowsOf R)) ∧ ToldAt H' tl n ks' (rowsOf R') ∧ H' nm = some (.lst (bs.map V.ref)) ∧ IsKs H' (R'.map (·.1)) bs, ?_, ?_⟩
    · obtain ⟨kvr, hr9, hkv9⟩ := L7.ha.rul
      refine ⟨.ref rd, rfl, rd, kvr, rfl, .inl hr9, fun nm bs nnm isk => ?_⟩
      have s8 := same_new (o := .lst (bs.map V.ref)) nnm
      have ek : kvr.map (·.1) = R'.map (·.1) := hkv9.keys.trans (rowsOf_keys _)
      have ik : IsKs H7 (R'.map (·.1)) bs := by
        rw [← ek]
        exact isKs_keys isk
      exact ⟨nm, bs, _, _, _, _, _, _, _, _, _, _, _, _, _, _, rfl, L7.same s8, TA.same s8, upd_same, isKs_mono s8 ik⟩
    clear L7 TA
    rintro σ H8 ⟨nm, bs, y9, y10, y11, y12, y13, y14, y15, y16, y17, y18, y19, y22, y25, y27, rfl, L8, TA, hnm, isk⟩
    have kb := HK6.kb
    have lks : (R'.map (·.1)).length = bs.length := Paired.length isk
    have l24 : (R'.map (·.1)).length ≤ i + 1 := by rw [List.length_map]; exact HK6.len
    refine ⟨fun σ H' => ∃ rk sb us y9 y10 y11 y12 y13 y14 y15 y16 y17 y18 y19 y25 y27, σ = [some (.ref sa), some (.ref p), some (.int n), some (.ref x), some (.ref kl), some (.ref rd), some (.int tn), some (.ref t0), some (.str (PyData.dict (rowsD (sortR (rowsOf R)))).shown), y9, y10, y11, y12, y13, y14, y15, y16, y17, y18, y19, some (.ref tl), some (.ref nm), some (.ref rk), none, none, y25, none, y27, none] ∧ LX T.Watcher.C cT H' p c x lv lh d kl rd ls' n ks' ks' R' R' t0 (sortR (rowsOf R)) ∧ ToldAt H' tl n ks' (rowsOf R') ∧ H' nm = some (.lst (bs.map V.ref)) ∧ IsKs H' (R'.map (·.1)) bs ∧ H' rk = some (.lst (sb.map (·.1))) ∧ us.length = (R'.map (·.1)).length ∧ sb = (numbered us (R'.map (·.1))).mergeSort (PySem.W.dataLe false fun b => encK b.2) ∧ (∀ j u k, us[j]? = some u → (R'.map (·.1))[j]? = some k → ItemAt H' u k j), ?_, ?_⟩
    · refine ⟨.ref nm, rfl, nm, bs.map V.ref, rfl, SqL.of hnm, fun D nD => ?_⟩
      refine lc_it (walk_enum (K := K) (a := nm) (xs := bs.map V.ref)) (fun z H' => Same H8 H' ∧ ∃ us : List Addr, H' D = some (.lst (us.map V.ref)) ∧ us.length = z ∧ ∀ j u k, us[j]? = some u → (R'.map (·.1))[j]? = some k → ItemAt H' u k j) ?_ ?_ ?_ ?_
      · exact ⟨same_new nD, [], upd_same, rfl, fun j u k e => by simp at e⟩
      · rintro z H' hz ⟨sm, _⟩
        exact SqL.of (sm _ _ hnm)
      · rintro z y H' H'' hz ⟨sm, us, hD, lu, hus⟩ ⟨TT, x1, x2, rfl, nT, rfl, ex1, ex2⟩
        cases ex1
        have hz' : z < bs.length := by rw [List.length_map] at hz; exact hz
        have ex : x2 = .ref bs[z] := by
          have ex2 : (bs.map V.ref)[z]? = some x2 := ex2
          rw [List.getElem?_map, List.getElem?_eq_getElem hz'] at ex2
          exact (Option.some.inj ex2).symm
        subst ex
        obtain ⟨k, ek, hbk⟩ := isKs_at isk (List.getElem?_eq_getElem hz')
        have s7 : Same H' (upd H' TT (.tup [.int z, .ref bs[z]])) := same_new nT
        have hT7 : upd H' TT (.tup [.int z, .ref bs[z]]) TT = some (.tup [.int z, .ref bs[z]]) := upd_same
        generalize upd H' TT (.tup [.int z, .ref bs[z]]) = H7b at s7 hT7
        refine ⟨TT, _, rfl, SqT.of hT7, rfl, .int z, [.ref bs[z]], rfl, .ref bs[z], [], rfl, rfl, ?_⟩
        have hbk7 := s7 _ _ (sm _ _ hbk)
        refine ⟨rfl, .ref bs[z], rfl, bs[z], k, rfl, hbk7, kb k (List.mem_of_getElem? ek), fun r H9 s9 hr => ?_⟩
        refine ⟨.int z, rfl, by show 2 ≤ sizeLine; decide, fun u nu => ?_⟩
        have su := same_new (o := .tup [.ref r, .int z]) nu
        have s79 := (s7.trans s9).trans su
        have hD9 := s79 _ _ hD
        refine ⟨us.map V.ref, hD9, small1000 (by rw [List.length_map]; omega), fun b o e => ?_, us ++ [u], by rw [upd_same, List.map_append]; rfl, by rw [List.length_append, lu]; rfl, fun j v k' e1 e2 => ?_⟩
        · rw [upd_ne (ne_of_none e nD)]
          exact s79 _ _ (sm _ _ e)
        · by_cases hj : j < us.length
          · rw [List.getElem?_append_left hj] at e1
            exact ((hus j v k' e1 e2).same s79).put hD9
          · have ej : j = z := by
              have := (List.getElem?_eq_some_iff.mp e1).1
              rw [List.length_append] at this
              have this : j < us.length + 1 := this
              omega
            subst ej
            have eu : v = u := by
              rw [List.getElem?_append_right (by omega), lu, Nat.sub_self] at e1
              exact (Option.some.inj e1).symm
            rw [ek] at e2
            have ekk := Option.some.inj e2
            subst eu ekk
            exact ItemAt.put ⟨r, upd_same, su _ _ hr⟩ hD9
      · rintro H' ⟨sm, us, hD, lu, hus⟩
        rw [List.length_map] at lu
        have lu' : us.length = (R'.map (·.1)).length := by omega
        refine ⟨D, numbered us (R'.map (·.1)), rfl, SqL.of (by rw [numbered_v lu']; exact hD), fun b hb => ?_, fun b b' => rfl, fun b => ⟨_, _, rfl⟩, fun b _ => by show _ ≤ 8; simp [encK, encR, PyData.depth, PyData.depthAll], fun rk nrk => ?_⟩
        · obtain ⟨j, u, k, e1, e2, rfl⟩ := numbered_mem lu' hb
          exact (hus j u k e1 e2).dp (kb k (List.mem_of_getElem? e2))
        · have s9 := sm.trans (same_new (o := .lst (((numbered us (R'.map (·.1))).mergeSort (PySem.W.dataLe false fun b => encK b.2)).map (·.1))) nrk)
          exact ⟨rk, _, us, _, _, _, _, _, _, _, _, _, _, _, _, _, rfl, L8.same s9, TA.same s9, s9 _ _ hnm, isKs_mono s9 isk, upd_same, lu', rfl, fun j u k e1 e2 => (hus j u k e1 e2).same (same_new nrk)⟩
    clear L8 TA hnm isk
    rintro σ H9 ⟨rk, sb, us, y9, y10, y11, y12, y13, y14, y15, y16, y17, y18, y19, y25, y27, rfl, L9, TA, hnm, isk, hrk, lu, esb, hus⟩
    have sbm : ∀ b ∈ sb, ∃ (j : Nat) (u : Addr) (k : List Key), us[j]? = some u ∧ (R'.map (·.1))[j]? = some k ∧ b = (.ref u, (k, j)) := fun b hb => by
      rw [esb] at hb
      exact numbered_mem lu ((List.mergeSort_perm _ _).mem_iff.mp hb)
    have sbl : sb.length = (R'.map (·.1)).length := by
      rw [esb, (List.mergeSort_perm _ _).length_eq]
      unfold numbered
      rw [List.length_map, List.length_range]
    have sbk : sb.map (·.2.1) = srt rankK (R'.map (·.1)) := by
      rw [srt_eq (List.Perm.refl _) kb, esb]
      have z := keys_sorted (fun b : V × (List Key × Nat) => enK b.2.1 b.2.2) (fun b => b.2.1) (fun b => b.2.2) (numbered us (R'.map (·.1))) (fun _ _ => rfl) (fun b hb => by
        obtain ⟨j, u, k, e1, e2, rfl⟩ := numbered_mem lu hb
        exact kb k (List.mem_of_getElem? e2))
      rw [numbered_k] at z
      exact z
    refine ⟨fun σ H' => ∃ od : Addr, ∃ as : List Addr, ∃ y9 y10 y11 y12 y13 y14 y15 y16 y17 y18 y19 y27, σ = [some (.ref sa), some (.ref p), some (.int n), some (.ref x), some (.ref kl), some (.ref rd), some (.int tn), some (.ref t0), some (.str (PyData.dict (rowsD (sortR (rowsOf R)))).shown), y9, y10, y11, y12, y13, y14, y15, y16, y17, y18, y19, some (.ref tl), some (.ref nm), some (.ref rk), none, none, some (.ref od), none, y27, none] ∧ LX T.Watcher.C cT H' p c x lv lh d kl rd ls' n ks' ks' R' R' t0 (sortR (rowsOf R)) ∧ ToldAt H' tl n ks' (rowsOf R') ∧ H' od = some (.lst (as.map V.ref)) ∧ TDs H' (as.map V.ref) ((sortR (rowsOf R')).map itemD), ?_, ?_⟩
    · refine ⟨.ref rk, rfl, rk, rfl, ⟨_, SqL.of hrk⟩, fun D nD => ?_⟩
      refine lc_list (K := K) (a := rk) (xs := sb.map (·.1)) (fun z H' => Same H9 H' ∧ ∃ as : List Addr, H' D = some (.lst (as.map V.ref)) ∧ as.length = z ∧ ∀ (j : Nat) (a : Addr) (b : V × (List Key × Nat)), as[j]? = some a → sb[j]? = some b → TD H' (.ref a) (itemD (b.2.1, lookR (rowsOf R') b.2.1))) ?_ ?_ ?_ ?_
      · exact ⟨same_new nD, [], upd_same, rfl, fun j a b e => by simp at e⟩
      · rintro z H' hz ⟨sm, _⟩
        exact SqL.of (sm _ _ hrk)
      · rintro z y H' hz ⟨sm, as, hD, la, has⟩
        rw [List.getElem?_map] at hz
        obtain ⟨b0, hb0, rfl⟩ := Option.map_eq_some_iff.mp hz
        have zlt := (List.getElem?_eq_some_iff.mp hb0).1
        obtain ⟨j, u, k, e1, e2, rfl⟩ := sbm b0 (List.mem_of_getElem? hb0)
        obtain ⟨r, hu, hr⟩ := (hus j u k e1 e2).same sm
        obtain ⟨b, hb⟩ : ∃ b, bs[j]? = some b := ⟨_, List.getElem?_eq_getElem (by have := (List.getElem?_eq_some_iff.mp e2).1; omega)⟩
        obtain ⟨k2, ek2, hbk⟩ := isKs_at isk hb
        rw [e2] at ek2
        cases ek2
        have hbk' := sm _ _ hbk
        have hnm' := sm _ _ hnm
        have Lz := L9.same sm
        obtain ⟨kvr, hr9, hkv9⟩ := Lz.ha.rul
        have hkR : k ∈ (rowsOf R').map (·.1) := by rw [rowsOf_keys]; exact List.mem_of_getElem? e2
        obtain ⟨vv, ev, tdv⟩ := hkv9.val hkR
        have gq := DGet.t (k := k) hr9 hbk'
        rw [ev] at gq
        have ab : atI (bs.map V.ref) (j : Int) = some (.ref b) := atI_nat (by rw [List.getElem?_map, hb]; rfl)
        refine ⟨u, _, rfl, SqT.of hu, rfl, .ref r, [.int j], rfl, .int j, [], rfl, rfl, ?_⟩
        refine ⟨rfl, .ref nm, rfl, .int j, rfl, nm, _, (j : Int), .ref b, rfl, rfl, SqL.of hnm', ab, .ref rd, rfl, .ref nm, rfl, .int j, rfl, nm, _, (j : Int), .ref b, rfl, rfl, SqL.of hnm', ab, rd, vv, rfl, gq, by show 2 ≤ sizeLine; decide, fun tt ntt => ?_⟩
        have st := same_new (o := .tup [.ref b, vv]) ntt
        have hD9 := st _ _ hD
        have tpD : Tups (upd H' tt (.tup [.ref b, vv])) (upd (upd H' tt (.tup [.ref b, vv])) D (.lst (as.map V.ref ++ [.ref tt]))) := Tups.lst hD9
        refine ⟨as.map V.ref, hD9, small1000 (by rw [List.length_map]; omega), fun b' o e => ?_, as ++ [tt], by rw [upd_same, List.map_append]; rfl, by rw [List.length_append, la]; rfl, fun j' a' b' f1 f2 => ?_⟩
        · rw [upd_ne (ne_of_none e nD)]
          exact st _ _ (sm _ _ e)
        · by_cases hj : j' < as.length
          · rw [List.getElem?_append_left hj] at f1
            exact ((has j' a' b' f1 f2).mono (Tups.same st)).mono tpD
          · have ej : j' = z := by
              have := (List.getElem?_eq_some_iff.mp f1).1
              rw [List.length_append] at this
              have this : j' < as.length + 1 := this
              omega
            subst ej
            have ea : a' = tt := by
              rw [List.getElem?_append_right (by omega), la, Nat.sub_self] at f1
              exact (Option.some.inj f1).symm
            rw [hb0] at f2
            have eb := Option.some.inj f2
            subst ea eb
            exact .tup (tpD _ _ upd_same) (.cons (.tup (tpD _ _ (st _ _ hbk')) (tds_keys k)) (.cons ((tdv.mono (Tups.same st)).mono tpD) .nil))
      · rintro H' ⟨sm, as, hD, la, has⟩
        rw [List.length_map] at la
        have eR : sb.map (fun b => itemD (b.2.1, lookR (rowsOf R') b.2.1)) = (sortR (rowsOf R')).map itemD := by
          unfold sortR
          rw [List.map_map, rowsOf_keys, ← sbk, List.map_map]
          rfl
        refine ⟨D, as, _, _, _, _, _, _, _, _, _, _, _, _, rfl, L9.same sm, TA.same sm, hD, ?_⟩
        rw [← eR]
        refine tds_get (by rw [List.length_map, la]) fun j a dd f1 f2 => ?_
        rw [List.getElem?_map] at f2
        obtain ⟨b, hb, rfl⟩ := Option.map_eq_some_iff.mp f2
        exact has j a b f1 hb
    clear L9 TA hnm isk hrk hus sbm sbk sbl esb
    rintro σ H10 ⟨od, as, y9, y10, y11, y12, y13, y14, y15, y16, y17, y18, y19, y27, rfl, L10, TA, hod, tod⟩
    have k9 := L10.ha.kin
    have l9 : (ls'.map V.ref).length = ks'.length := by rw [List.length_map]; exact k9.len
    have k6 := HK6.k.len.2
    refine ⟨fun σ H' => ∃ rw_ : Addr, ∃ y9 y10 y11 y12 y13 y14 y15 y16 y17 y18 y19, σ = [some (.ref sa), some (.ref p), some (.int n), some (.ref x), some (.ref kl), some (.ref rd), some (.int tn), some (.ref t0), some (.str (PyData.dict (rowsD (sortR (rowsOf R)))).shown), y9, y10, y11, y12, y13, y14, y15, y16, y17, y18, y19, some (.ref tl), some (.ref nm), some (.ref rk), none, none, some (.ref od), none, some (.ref rw_), none] ∧ LX T.Watcher.C cT H' p c x lv lh d kl rd ls' n ks' ks' R' R' t0 (sortR (rowsOf R)) ∧ ToldAt H' tl n ks' (rowsOf R') ∧ ToldAt H' rw_ n ks' (rowsOf R'), ?_, ?_⟩
    · refine ⟨.ref kl, rfl, kl, rfl, ⟨_, SqL.of k9.at_⟩, fun D nD => ?_⟩
      refine lc_list (K := K) (a := kl) (xs := ls'.map V.ref) (fun z H' => Same H10 H' ∧ H' D = some (.lst (((ks'.take z).map (·.1)).map V.int))) ?_ ?_ ?_ ?_
      · exact ⟨same_new nD, upd_same⟩
      · rintro z H' hz ⟨sm, _⟩
        exact SqL.of (sm _ _ k9.at_)
      · rintro z y H' hz ⟨sm, hD⟩
        have zl : z < ks'.length := by have := (List.getElem?_eq_some_iff.mp hz).1; omega
        obtain ⟨a, ea, ha⟩ := k9.at zl
        rw [List.getElem?_map, ea] at hz
        obtain rfl := Option.some.inj hz
        refine ⟨rfl, .ref a, rfl, a, _, 0, .int (ks'[z]).1, rfl, rfl, SqL.of (sm _ _ ha), rfl, _, hD, ?_, fun b o e => ?_, ?_⟩
        · rw [List.length_map, List.length_map, List.length_take]
          exact small1000 (by omega)
        · rw [upd_ne (ne_of_none e nD)]
          exact sm _ _ e
        · rw [upd_same, List.take_succ_eq_append_getElem zl]
          simp only [List.map_append]
          rfl
      rintro H11 ⟨s11, hD⟩
      rw [l9, List.take_length] at hD
      refine ⟨D, _, rfl, .inl ⟨SqL.of hD, fun ta nta => ?_⟩⟩
      have sa1 := same_new (o := .tup ((ks'.map (·.1)).map V.int)) nta
      have hta : upd H11 ta (.tup ((ks'.map (·.1)).map V.int)) ta = some (.tup ((ks'.map (·.1)).map V.int)) := upd_same
      generalize upd H11 ta (.tup ((ks'.map (·.1)).map V.int)) = H12 at sa1 hta
      have s12 := s11.trans sa1
      refine ⟨.ref kl, rfl, kl, rfl, ⟨_, SqL.of (s12 _ _ k9.at_)⟩, fun F nF => ?_⟩
      refine lc_list (K := K) (a := kl) (xs := ls'.map V.ref) (fun z H' => Same H12 H' ∧ H' F = some (.lst (((ks'.take z).map (·.2)).map V.int))) ?_ ?_ ?_ ?_
      · exact ⟨same_new nF, upd_same⟩
      · rintro z H' hz ⟨sm, _⟩
        exact SqL.of (sm _ _ (s12 _ _ k9.at_))
      · rintro z y H' hz ⟨sm, hD⟩
        have zl : z < ks'.length := by have := (List.getElem?_eq_some_iff.mp hz).1; omega
        obtain ⟨a, ea, ha⟩ := k9.at zl
        rw [List.getElem?_map, ea] at hz
        obtain rfl := Option.some.inj hz
        refine ⟨rfl, .ref a, rfl, a, _, 1, .int (ks'[z]).2, rfl, rfl, SqL.of (sm _ _ (s12 _ _ ha)), rfl, _, hD, ?_, fun b o e => ?_, ?_⟩
        · rw [List.length_map, List.length_map, List.length_take]
          exact small1000 (by omega)
        · rw [upd_ne (ne_of_none e nF)]
          exact sm _ _ e
        · rw [upd_same, List.take_succ_eq_append_getElem zl]
          simp only [List.map_append]
          rfl
      rintro H13 ⟨s13, hF⟩
      rw [l9, List.take_length] at hF
      refine ⟨F, _, rfl, .inl ⟨SqL.of hF, fun tb ntb => ?_⟩⟩
      have sb1 := same_new (o := .tup ((ks'.map (·.2)).map V.int)) ntb
      have htb : upd H13 tb (.tup ((ks'.map (·.2)).map V.int)) tb = some (.tup ((ks'.map (·.2)).map V.int)) := upd_same
      generalize upd H13 tb (.tup ((ks'.map (·.2)).map V.int)) = H14 at sb1 htb
      have s14 := (s12.trans s13).trans sb1
      refine ⟨.ref od, rfl, .ref kl, rfl, kl, _, rfl, .inl (SqL.of (s14 _ _ k9.at_)), .int n, rfl, by show 5 ≤ sizeLine; decide, fun rw_ nrw => ?_⟩
      rw [l9]
      have s15 := same_new (o := .tup [.ref ta, .ref tb, .ref od, .int ks'.length, .int n]) nrw
      have s1015 := s14.trans s15
      exact ⟨rw_, _, _, _, _, _, _, _, _, _, _, _, rfl, L10.same s1015, TA.same s1015, ta, tb, od, as, upd_same, s15 _ _ (sb1 _ _ (s13 _ _ hta)), s15 _ _ htb, s1015 _ _ hod, tod.mono (Tups.same s1015)⟩
    clear L10 TA hod tod k9 l9
    rintro σ H11 ⟨rw_, y9, y10, y11, y12, y13, y14, y15, y16, y17, y18, y19, rfl, L11, TA, TB2⟩
    have hsm' := sort_small HK6.k HK6.w.2 HK6.r HK6.nd
    have hln' : (sortR (rowsOf R')).length ≤ 1000 := by
      unfold sortR
      rw [List.length_map, srt_len, rowsOf_keys, List.length_map]
      have := HK6.len
      omega
    obtain ⟨g1, g2, g3⟩ := told_fine (n := n) (by omega) n3 HK6.k hsm' hln'
    have g4 : (toldD n ks' (rowsOf R')).hasDict = false := told_nd HK6.nd
    refine ⟨.ref tl, rfl, .ref tl, toldD n ks' (rowsOf R'), rfl, TA.dp, g1, g4, g2, g3, .ref rw_, rfl, .ref rw_, toldD n ks' (rowsOf R'), rfl, TB2.dp, g1, g4, g2, g3, rfl, _, rfl, ?_⟩
    rw [show (!decide (V.str (toldD n ks' (rowsOf R')).shown = V.str (toldD n ks' (rowsOf R')).shown)) = false by simp]
    obtain ⟨kv0, ht0, hk0⟩ := L11.dic
    refine iteF ⟨.ref t0, rfl, t0, kv0, sortR (rowsOf R), rfl, ht0, hk0, r1, r2, r3, .str _, rfl, rfl, _, rfl, ?_⟩
    rw [show (!decide (V.str (PyData.dict (rowsD (sortR (rowsOf R)))).shown = V.str (PyData.dict (rowsD (sortR (rowsOf R)))).shown)) = false by simp]
    obtain ⟨dx, hx⟩ := L11.ha.wat.ins
    refine ⟨.ref x, rfl, x, dx, _, rfl, hx, rfl, x, lv, lh, d, n, _, _, _, rfl, L11.ha.wat, fun r H12 kvs s12 nr hr12 kv12 => ?_⟩
    refine ⟨.inr (.inr (.inl ⟨rfl, .inr ⟨_, hr12⟩⟩)), r, kvs, rfl, rfl, hr12, ?_⟩
    have L12 := L11.same s12
    have m : Mv (· = r) H12 (upd H12 r (.dT [])) := fun b o e nb => by
      rw [upd_ne nb]
      exact e
    have some_ := L11.ha.some
    have nr_ : ∀ b ∈ p :: c :: lv :: lh :: kl :: ls', ¬ b = r := fun b hb z => some_ b hb (z ▸ nr)
    obtain ⟨kvd, hd, _⟩ := L11.ha.wat.rul
    obtain ⟨kvr, hr9, _⟩ := L11.ha.rul
    have t : Tups H12 (upd H12 r (.dT [])) := Tups.put hr12 (fun _ z => by cases z)
    have HA13 := L12.ha.mv m t (L12.ha.pen.mv m (nr_ _ (by simp)) (nr_ _ (by simp))) (ne_of_none hx nr) (nr_ _ (by simp)) (nr_ _ (by simp)) (ne_of_none hd nr) (fun b hb => nr_ b (List.mem_cons_of_mem _ (List.mem_cons_of_mem _ (List.mem_cons_of_mem _ (List.mem_cons_of_mem _ hb))))) (ne_of_none hr9 nr)
    exact ⟨ls', ks', R', _, _, _, _, _, _, _, _, _, _, _, _, _, _, _, _, _, _, _, rfl, HA13, HK6, tabs_mv L12.tb m fun a z => .inr ⟨_, z ▸ hr12⟩⟩
end

theorem all_mk {l : PySem.W.OpenLaw} {w : World} {K : PySem.W.Frag} {h : Heap} {mg : Str → Option Value} {fa f_is_integer f_is_between f_Watcher_init f_Watcher_len f_Watcher_add_state f_Watcher_set_verdict f_Watcher_add_rule f_Watcher_remove_rule f_Watcher_verdicts f_Watcher_held_counts f_Watcher_rules f_Watcher_require_state f_Watcher_require_word f_require_verdict f_is_test f_are_sources f_is_source f_may_be_rule f_rule_order f_part_order f_law_pen f_law_fresh f_law_draw f_law_some_sources f_law_rank f_law_outcome f_law_in f_law_state_due f_law_sources_fit f_law_rule_due f_law_gone_due f_law_odd f_law_verdict_due f_law_rule_parts f_law : Addr} (X : K.In h) (G : h.Ns mainGlobals mg) (hfa : mg "law" = some (.ref fa))
    {od0 an0 od1 an1 od2 an2 od3 an3 od4 an4 od5 an5 od6 an6 od7 an7 od8 an8 od9 an9 od10 an10 od11 an11 od12 an12 od13 an13 od14 an14 od15 an15 od16 an16 od17 an17 od18 an18 od19 an19 od20 an20 od21 an21 od22 an22 od23 an23 od24 an24 od25 an25 od26 an26 od27 an27 od28 an28 od29 an29 od30 an30 od31 an31 od32 an32 od33 an33 od34 an34 : Option Addr} {sl0 sl1 sl2 sl3 sl4 sl5 sl6 sl7 sl8 sl9 sl10 sl11 sl12 sl13 sl14 sl15 sl16 sl17 sl18 sl19 sl20 sl21 sl22 sl23 sl24 sl25 sl26 sl27 sl28 sl29 sl30 sl31 sl32 sl33 sl34 : Array (Option Value)} {oc0 kV0 dc0 pm0 cd0 ct0 oc1 kV1 dc1 pm1 cd1 ct1 oc2 kV2 dc2 pm2 cd2 ct2 oc3 kV3 dc3 pm3 cd3 ct3 oc4 kV4 dc4 pm4 cd4 ct4 oc5 kV5 dc5 pm5 cd5 ct5 oc6 kV6 dc6 pm6 cd6 ct6 oc7 kV7 dc7 pm7 cd7 ct7 oc8 kV8 dc8 pm8 cd8 ct8 oc9 kV9 dc9 pm9 cd9 ct9 oc10 kV10 dc10 pm10 cd10 ct10 oc11 kV11 dc11 pm11 cd11 ct11 oc12 kV12 dc12 pm12 cd12 ct12 oc13 kV13 dc13 pm13 cd13 ct13 oc14 kV14 dc14 pm14 cd14 ct14 oc15 kV15 dc15 pm15 cd15 ct15 oc16 kV16 dc16 pm16 cd16 ct16 oc17 kV17 dc17 pm17 cd17 ct17 oc18 kV18 dc18 pm18 cd18 ct18 oc19 kV19 dc19 pm19 cd19 ct19 oc20 kV20 dc20 pm20 cd20 ct20 oc21 kV21 dc21 pm21 cd21 ct21 oc22 kV22 dc22 pm22 cd22 ct22 oc23 kV23 dc23 pm23 cd23 ct23 oc24 kV24 dc24 pm24 cd24 ct24 oc25 kV25 dc25 pm25 cd25 ct25 oc26 kV26 dc26 pm26 cd26 ct26 oc27 kV27 dc27 pm27 cd27 ct27 oc28 kV28 dc28 pm28 cd28 ct28 oc29 kV29 dc29 pm29 cd29 ct29 oc30 kV30 dc30 pm30 cd30 ct30 oc31 kV31 dc31 pm31 cd31 ct31 oc32 kV32 dc32 pm32 cd32 ct32 oc33 kV33 dc33 pm33 cd33 ct33 oc34 kV34 dc34 pm34  ct34 : Value}
    {cC cT : Addr}
    {ck_MOST_WORDS ck_MOST_STATES ck_MOST_HELD ck_MOST_VERDICT ck_NEW ck_VALUE : Tok}
    {C_Watcher : Addr}
    (a0 : PySem.W.nsIn K mainGlobals "is_integer" = some (some (.ref f_is_integer)))
    (l0 : K.lookup f_is_integer = some ⟨oc0, od0, .func (PySem.W.fnOf "is_integer" "is_integer" (defArgs s_is_integer) (defBody s_is_integer) (defScope s_is_integer) .none kV0 dc0 pm0 an0 cd0 ct0), sl0⟩) (c0 : PySem.W.codeIn K cd0 "is_integer" = true) (k0 : PySem.W.keepIn K (.ref f_is_integer) = true)
    (a1 : PySem.W.nsIn K mainGlobals "is_between" = some (some (.ref f_is_between)))
    (l1 : K.lookup f_is_between = some ⟨oc1, od1, .func (PySem.W.fnOf "is_between" "is_between" (defArgs s_is_between) (defBody s_is_between) (defScope s_is_between) .none kV1 dc1 pm1 an1 cd1 ct1), sl1⟩) (c1 : PySem.W.codeIn K cd1 "is_between" = true) (k1 : PySem.W.keepIn K (.ref f_is_between) = true)
    (a2 : PySem.W.findIn K (.ref C_Watcher) "__init__" = some (some (.ref f_Watcher_init))) (i2 : PySem.W.isFn K (.ref f_Watcher_init) = true)
    (l2 : K.lookup f_Watcher_init = some ⟨oc2, od2, .func (PySem.W.fnOf "__init__" "Watcher.__init__" (defArgs s_Watcher_init) (defBody s_Watcher_init) (defScope s_Watcher_init) .none kV2 dc2 pm2 an2 cd2 ct2), sl2⟩) (c2 : PySem.W.codeIn K cd2 "Watcher.__init__" = true) (k2 : PySem.W.keepIn K (.ref f_Watcher_init) = true)
    (a3 : PySem.W.findIn K (.ref C_Watcher) "__len__" = some (some (.ref f_Watcher_len))) (i3 : PySem.W.isFn K (.ref f_Watcher_len) = true)
    (l3 : K.lookup f_Watcher_len = some ⟨oc3, od3, .func (PySem.W.fnOf "__len__" "Watcher.__len__" (defArgs s_Watcher_len) (defBody s_Watcher_len) (defScope s_Watcher_len) .none kV3 dc3 pm3 an3 cd3 ct3), sl3⟩) (c3 : PySem.W.codeIn K cd3 "Watcher.__len__" = true) (k3 : PySem.W.keepIn K (.ref f_Watcher_len) = true)
    (a4 : PySem.W.findIn K (.ref C_Watcher) "add_state" = some (some (.ref f_Watcher_add_state))) (i4 : PySem.W.isFn K (.ref f_Watcher_add_state) = true)
    (l4 : K.lookup f_Watcher_add_state = some ⟨oc4, od4, .func (PySem.W.fnOf "add_state" "Watcher.add_state" (defArgs s_Watcher_add_state) (defBody s_Watcher_add_state) (defScope s_Watcher_add_state) .none kV4 dc4 pm4 an4 cd4 ct4), sl4⟩) (c4 : PySem.W.codeIn K cd4 "Watcher.add_state" = true) (k4 : PySem.W.keepIn K (.ref f_Watcher_add_state) = true)
    (a5 : PySem.W.findIn K (.ref C_Watcher) "set_verdict" = some (some (.ref f_Watcher_set_verdict))) (i5 : PySem.W.isFn K (.ref f_Watcher_set_verdict) = true)
    (l5 : K.lookup f_Watcher_set_verdict = some ⟨oc5, od5, .func (PySem.W.fnOf "set_verdict" "Watcher.set_verdict" (defArgs s_Watcher_set_verdict) (defBody s_Watcher_set_verdict) (defScope s_Watcher_set_verdict) .none kV5 dc5 pm5 an5 cd5 ct5), sl5⟩) (c5 : PySem.W.codeIn K cd5 "Watcher.set_verdict" = true) (k5 : PySem.W.keepIn K (.ref f_Watcher_set_verdict) = true)
    (a6 : PySem.W.findIn K (.ref C_Watcher) "add_rule" = some (some (.ref f_Watcher_add_rule))) (i6 : PySem.W.isFn K (.ref f_Watcher_add_rule) = true)
    (l6 : K.lookup f_Watcher_add_rule = some ⟨oc6, od6, .func (PySem.W.fnOf "add_rule" "Watcher.add_rule" (defArgs s_Watcher_add_rule) (defBody s_Watcher_add_rule) (defScope s_Watcher_add_rule) .none kV6 dc6 pm6 an6 cd6 ct6), sl6⟩) (c6 : PySem.W.codeIn K cd6 "Watcher.add_rule" = true) (k6 : PySem.W.keepIn K (.ref f_Watcher_add_rule) = true)
    (a7 : PySem.W.findIn K (.ref C_Watcher) "remove_rule" = some (some (.ref f_Watcher_remove_rule))) (i7 : PySem.W.isFn K (.ref f_Watcher_remove_rule) = true)
    (l7 : K.lookup f_Watcher_remove_rule = some ⟨oc7, od7, .func (PySem.W.fnOf "remove_rule" "Watcher.remove_rule" (defArgs s_Watcher_remove_rule) (defBody s_Watcher_remove_rule) (defScope s_Watcher_remove_rule) .none kV7 dc7 pm7 an7 cd7 ct7), sl7⟩) (c7 : PySem.W.codeIn K cd7 "Watcher.remove_rule" = true) (k7 : PySem.W.keepIn K (.ref f_Watcher_remove_rule) = true)
    (a8 : PySem.W.findIn K (.ref C_Watcher) "verdicts" = some (some (.ref f_Watcher_verdicts))) (i8 : PySem.W.isFn K (.ref f_Watcher_verdicts) = true)
    (l8 : K.lookup f_Watcher_verdicts = some ⟨oc8, od8, .func (PySem.W.fnOf "verdicts" "Watcher.verdicts" (defArgs s_Watcher_verdicts) (defBody s_Watcher_verdicts) (defScope s_Watcher_verdicts) .none kV8 dc8 pm8 an8 cd8 ct8), sl8⟩) (c8 : PySem.W.codeIn K cd8 "Watcher.verdicts" = true) (k8 : PySem.W.keepIn K (.ref f_Watcher_verdicts) = true)
    (a9 : PySem.W.findIn K (.ref C_Watcher) "held_counts" = some (some (.ref f_Watcher_held_counts))) (i9 : PySem.W.isFn K (.ref f_Watcher_held_counts) = true)
    (l9 : K.lookup f_Watcher_held_counts = some ⟨oc9, od9, .func (PySem.W.fnOf "held_counts" "Watcher.held_counts" (defArgs s_Watcher_held_counts) (defBody s_Watcher_held_counts) (defScope s_Watcher_held_counts) .none kV9 dc9 pm9 an9 cd9 ct9), sl9⟩) (c9 : PySem.W.codeIn K cd9 "Watcher.held_counts" = true) (k9 : PySem.W.keepIn K (.ref f_Watcher_held_counts) = true)
    (a10 : PySem.W.findIn K (.ref C_Watcher) "rules" = some (some (.ref f_Watcher_rules))) (i10 : PySem.W.isFn K (.ref f_Watcher_rules) = true)
    (l10 : K.lookup f_Watcher_rules = some ⟨oc10, od10, .func (PySem.W.fnOf "rules" "Watcher.rules" (defArgs s_Watcher_rules) (defBody s_Watcher_rules) (defScope s_Watcher_rules) .none kV10 dc10 pm10 an10 cd10 ct10), sl10⟩) (c10 : PySem.W.codeIn K cd10 "Watcher.rules" = true) (k10 : PySem.W.keepIn K (.ref f_Watcher_rules) = true)
    (a11 : PySem.W.findIn K (.ref C_Watcher) "require_state" = some (some (.ref f_Watcher_require_state))) (i11 : PySem.W.isFn K (.ref f_Watcher_require_state) = true)
    (l11 : K.lookup f_Watcher_require_state = some ⟨oc11, od11, .func (PySem.W.fnOf "require_state" "Watcher.require_state" (defArgs s_Watcher_require_state) (defBody s_Watcher_require_state) (defScope s_Watcher_require_state) .none kV11 dc11 pm11 an11 cd11 ct11), sl11⟩) (c11 : PySem.W.codeIn K cd11 "Watcher.require_state" = true) (k11 : PySem.W.keepIn K (.ref f_Watcher_require_state) = true)
    (a12 : PySem.W.findIn K (.ref C_Watcher) "require_word" = some (some (.ref f_Watcher_require_word))) (i12 : PySem.W.isFn K (.ref f_Watcher_require_word) = true)
    (l12 : K.lookup f_Watcher_require_word = some ⟨oc12, od12, .func (PySem.W.fnOf "require_word" "Watcher.require_word" (defArgs s_Watcher_require_word) (defBody s_Watcher_require_word) (defScope s_Watcher_require_word) .none kV12 dc12 pm12 an12 cd12 ct12), sl12⟩) (c12 : PySem.W.codeIn K cd12 "Watcher.require_word" = true) (k12 : PySem.W.keepIn K (.ref f_Watcher_require_word) = true)
    (a13 : PySem.W.nsIn K mainGlobals "require_verdict" = some (some (.ref f_require_verdict)))
    (l13 : K.lookup f_require_verdict = some ⟨oc13, od13, .func (PySem.W.fnOf "require_verdict" "require_verdict" (defArgs s_require_verdict) (defBody s_require_verdict) (defScope s_require_verdict) .none kV13 dc13 pm13 an13 cd13 ct13), sl13⟩) (c13 : PySem.W.codeIn K cd13 "require_verdict" = true) (k13 : PySem.W.keepIn K (.ref f_require_verdict) = true)
    (a14 : PySem.W.nsIn K mainGlobals "is_test" = some (some (.ref f_is_test)))
    (l14 : K.lookup f_is_test = some ⟨oc14, od14, .func (PySem.W.fnOf "is_test" "is_test" (defArgs s_is_test) (defBody s_is_test) (defScope s_is_test) .none kV14 dc14 pm14 an14 cd14 ct14), sl14⟩) (c14 : PySem.W.codeIn K cd14 "is_test" = true) (k14 : PySem.W.keepIn K (.ref f_is_test) = true)
    (a15 : PySem.W.nsIn K mainGlobals "are_sources" = some (some (.ref f_are_sources)))
    (l15 : K.lookup f_are_sources = some ⟨oc15, od15, .func (PySem.W.fnOf "are_sources" "are_sources" (defArgs s_are_sources) (defBody s_are_sources) (defScope s_are_sources) .none kV15 dc15 pm15 an15 cd15 ct15), sl15⟩) (c15 : PySem.W.codeIn K cd15 "are_sources" = true) (k15 : PySem.W.keepIn K (.ref f_are_sources) = true)
    (a16 : PySem.W.nsIn K mainGlobals "is_source" = some (some (.ref f_is_source)))
    (l16 : K.lookup f_is_source = some ⟨oc16, od16, .func (PySem.W.fnOf "is_source" "is_source" (defArgs s_is_source) (defBody s_is_source) (defScope s_is_source) .none kV16 dc16 pm16 an16 cd16 ct16), sl16⟩) (c16 : PySem.W.codeIn K cd16 "is_source" = true) (k16 : PySem.W.keepIn K (.ref f_is_source) = true)
    (a17 : PySem.W.nsIn K mainGlobals "may_be_rule" = some (some (.ref f_may_be_rule)))
    (l17 : K.lookup f_may_be_rule = some ⟨oc17, od17, .func (PySem.W.fnOf "may_be_rule" "may_be_rule" (defArgs s_may_be_rule) (defBody s_may_be_rule) (defScope s_may_be_rule) .none kV17 dc17 pm17 an17 cd17 ct17), sl17⟩) (c17 : PySem.W.codeIn K cd17 "may_be_rule" = true) (k17 : PySem.W.keepIn K (.ref f_may_be_rule) = true)
    (a18 : PySem.W.nsIn K mainGlobals "rule_order" = some (some (.ref f_rule_order)))
    (l18 : K.lookup f_rule_order = some ⟨oc18, od18, .func (PySem.W.fnOf "rule_order" "rule_order" (defArgs s_rule_order) (defBody s_rule_order) (defScope s_rule_order) .none kV18 dc18 pm18 an18 cd18 ct18), sl18⟩) (c18 : PySem.W.codeIn K cd18 "rule_order" = true) (k18 : PySem.W.keepIn K (.ref f_rule_order) = true)
    (a19 : PySem.W.nsIn K mainGlobals "part_order" = some (some (.ref f_part_order)))
    (l19 : K.lookup f_part_order = some ⟨oc19, od19, .func (PySem.W.fnOf "part_order" "part_order" (defArgs s_part_order) (defBody s_part_order) (defScope s_part_order) .none kV19 dc19 pm19 an19 cd19 ct19), sl19⟩) (c19 : PySem.W.codeIn K cd19 "part_order" = true) (k19 : PySem.W.keepIn K (.ref f_part_order) = true)
    (a20 : PySem.W.nsIn K mainGlobals "_law_pen" = some (some (.ref f_law_pen)))
    (l20 : K.lookup f_law_pen = some ⟨oc20, od20, .func (PySem.W.fnOf "_law_pen" "_law_pen" (defArgs s_law_pen) (defBody s_law_pen) (defScope s_law_pen) .none kV20 dc20 pm20 an20 cd20 ct20), sl20⟩) (c20 : PySem.W.codeIn K cd20 "_law_pen" = true) (k20 : PySem.W.keepIn K (.ref f_law_pen) = true)
    (a21 : PySem.W.nsIn K mainGlobals "_law_fresh" = some (some (.ref f_law_fresh)))
    (l21 : K.lookup f_law_fresh = some ⟨oc21, od21, .func (PySem.W.fnOf "_law_fresh" "_law_fresh" (defArgs s_law_fresh) (defBody s_law_fresh) (defScope s_law_fresh) .none kV21 dc21 pm21 an21 cd21 ct21), sl21⟩) (c21 : PySem.W.codeIn K cd21 "_law_fresh" = true) (k21 : PySem.W.keepIn K (.ref f_law_fresh) = true)
    (a22 : PySem.W.nsIn K mainGlobals "_law_draw" = some (some (.ref f_law_draw)))
    (l22 : K.lookup f_law_draw = some ⟨oc22, od22, .func (PySem.W.fnOf "_law_draw" "_law_draw" (defArgs s_law_draw) (defBody s_law_draw) (defScope s_law_draw) .none kV22 dc22 pm22 an22 cd22 ct22), sl22⟩) (c22 : PySem.W.codeIn K cd22 "_law_draw" = true) (k22 : PySem.W.keepIn K (.ref f_law_draw) = true)
    (a23 : PySem.W.nsIn K mainGlobals "_law_some_sources" = some (some (.ref f_law_some_sources)))
    (l23 : K.lookup f_law_some_sources = some ⟨oc23, od23, .func (PySem.W.fnOf "_law_some_sources" "_law_some_sources" (defArgs s_law_some_sources) (defBody s_law_some_sources) (defScope s_law_some_sources) .none kV23 dc23 pm23 an23 cd23 ct23), sl23⟩) (c23 : PySem.W.codeIn K cd23 "_law_some_sources" = true) (k23 : PySem.W.keepIn K (.ref f_law_some_sources) = true)
    (a24 : PySem.W.nsIn K mainGlobals "_law_rank" = some (some (.ref f_law_rank)))
    (l24 : K.lookup f_law_rank = some ⟨oc24, od24, .func (PySem.W.fnOf "_law_rank" "_law_rank" (defArgs s_law_rank) (defBody s_law_rank) (defScope s_law_rank) .none kV24 dc24 pm24 an24 cd24 ct24), sl24⟩) (c24 : PySem.W.codeIn K cd24 "_law_rank" = true) (k24 : PySem.W.keepIn K (.ref f_law_rank) = true)
    (a25 : PySem.W.nsIn K mainGlobals "_law_outcome" = some (some (.ref f_law_outcome)))
    (l25 : K.lookup f_law_outcome = some ⟨oc25, od25, .func (PySem.W.fnOf "_law_outcome" "_law_outcome" (defArgs s_law_outcome) (defBody s_law_outcome) (defScope s_law_outcome) .none kV25 dc25 pm25 an25 cd25 ct25), sl25⟩) (c25 : PySem.W.codeIn K cd25 "_law_outcome" = true) (k25 : PySem.W.keepIn K (.ref f_law_outcome) = true)
    (a26 : PySem.W.nsIn K mainGlobals "_law_in" = some (some (.ref f_law_in)))
    (l26 : K.lookup f_law_in = some ⟨oc26, od26, .func (PySem.W.fnOf "_law_in" "_law_in" (defArgs s_law_in) (defBody s_law_in) (defScope s_law_in) .none kV26 dc26 pm26 an26 cd26 ct26), sl26⟩) (c26 : PySem.W.codeIn K cd26 "_law_in" = true) (k26 : PySem.W.keepIn K (.ref f_law_in) = true)
    (a27 : PySem.W.nsIn K mainGlobals "_law_state_due" = some (some (.ref f_law_state_due)))
    (l27 : K.lookup f_law_state_due = some ⟨oc27, od27, .func (PySem.W.fnOf "_law_state_due" "_law_state_due" (defArgs s_law_state_due) (defBody s_law_state_due) (defScope s_law_state_due) .none kV27 dc27 pm27 an27 cd27 ct27), sl27⟩) (c27 : PySem.W.codeIn K cd27 "_law_state_due" = true) (k27 : PySem.W.keepIn K (.ref f_law_state_due) = true)
    (a28 : PySem.W.nsIn K mainGlobals "_law_sources_fit" = some (some (.ref f_law_sources_fit)))
    (l28 : K.lookup f_law_sources_fit = some ⟨oc28, od28, .func (PySem.W.fnOf "_law_sources_fit" "_law_sources_fit" (defArgs s_law_sources_fit) (defBody s_law_sources_fit) (defScope s_law_sources_fit) .none kV28 dc28 pm28 an28 cd28 ct28), sl28⟩) (c28 : PySem.W.codeIn K cd28 "_law_sources_fit" = true) (k28 : PySem.W.keepIn K (.ref f_law_sources_fit) = true)
    (a29 : PySem.W.nsIn K mainGlobals "_law_rule_due" = some (some (.ref f_law_rule_due)))
    (l29 : K.lookup f_law_rule_due = some ⟨oc29, od29, .func (PySem.W.fnOf "_law_rule_due" "_law_rule_due" (defArgs s_law_rule_due) (defBody s_law_rule_due) (defScope s_law_rule_due) .none kV29 dc29 pm29 an29 cd29 ct29), sl29⟩) (c29 : PySem.W.codeIn K cd29 "_law_rule_due" = true) (k29 : PySem.W.keepIn K (.ref f_law_rule_due) = true)
    (a30 : PySem.W.nsIn K mainGlobals "_law_gone_due" = some (some (.ref f_law_gone_due)))
    (l30 : K.lookup f_law_gone_due = some ⟨oc30, od30, .func (PySem.W.fnOf "_law_gone_due" "_law_gone_due" (defArgs s_law_gone_due) (defBody s_law_gone_due) (defScope s_law_gone_due) .none kV30 dc30 pm30 an30 cd30 ct30), sl30⟩) (c30 : PySem.W.codeIn K cd30 "_law_gone_due" = true) (k30 : PySem.W.keepIn K (.ref f_law_gone_due) = true)
    (a31 : PySem.W.nsIn K mainGlobals "_law_odd" = some (some (.ref f_law_odd)))
    (l31 : K.lookup f_law_odd = some ⟨oc31, od31, .func (PySem.W.fnOf "_law_odd" "_law_odd" (defArgs s_law_odd) (defBody s_law_odd) (defScope s_law_odd) .none kV31 dc31 pm31 an31 cd31 ct31), sl31⟩) (c31 : PySem.W.codeIn K cd31 "_law_odd" = true) (k31 : PySem.W.keepIn K (.ref f_law_odd) = true)
    (a32 : PySem.W.nsIn K mainGlobals "_law_verdict_due" = some (some (.ref f_law_verdict_due)))
    (l32 : K.lookup f_law_verdict_due = some ⟨oc32, od32, .func (PySem.W.fnOf "_law_verdict_due" "_law_verdict_due" (defArgs s_law_verdict_due) (defBody s_law_verdict_due) (defScope s_law_verdict_due) .none kV32 dc32 pm32 an32 cd32 ct32), sl32⟩) (c32 : PySem.W.codeIn K cd32 "_law_verdict_due" = true) (k32 : PySem.W.keepIn K (.ref f_law_verdict_due) = true)
    (a33 : PySem.W.nsIn K mainGlobals "_law_rule_parts" = some (some (.ref f_law_rule_parts)))
    (l33 : K.lookup f_law_rule_parts = some ⟨oc33, od33, .func (PySem.W.fnOf "_law_rule_parts" "_law_rule_parts" (defArgs s_law_rule_parts) (defBody s_law_rule_parts) (defScope s_law_rule_parts) .none kV33 dc33 pm33 an33 cd33 ct33), sl33⟩) (c33 : PySem.W.codeIn K cd33 "_law_rule_parts" = true) (k33 : PySem.W.keepIn K (.ref f_law_rule_parts) = true)
    (a34 : PySem.W.nsIn K mainGlobals "law" = some (some (.ref f_law)))
    (l34 : K.lookup f_law = some ⟨oc34, od34, .func (PySem.W.fnOf "law" "law" (defArgs s_law) (defBody s_law) (defScope s_law) .none kV34 dc34 pm34 an34 (.ref cC) ct34), sl34⟩) (c34 : PySem.W.codeIn K (.ref cC) "law" = true) (k34 : PySem.W.keepIn K (.ref f_law) = true)
    (tf_Watcher_len : PySem.W.typeIn K (.ref f_Watcher_len) = some (.type "function"))
    (wC_Watcher : PySem.W.nsIn K mainGlobals "Watcher" = some (some (.ref C_Watcher))) (pg_Watcher : PySem.W.plainGet K C_Watcher Str.empty = true) (hd_Watcher : PySem.W.hasDictIn K C_Watcher = true) (po_Watcher : PySem.W.plainOver K C_Watcher = true) (sa_Watcher : PySem.W.findIn K (.ref C_Watcher) "__setattr__" = some (some (.builtin "object.__setattr__"))) (mk_Watcher : PySem.W.makesIn K C_Watcher = true) (kc_Watcher : PySem.W.keepIn K (.ref C_Watcher) = true)
    (nf_Watcherwords : PySem.W.findIn K (.ref C_Watcher) "words" = some none)
    (nf_Watcher_verdicts : PySem.W.findIn K (.ref C_Watcher) "_verdicts" = some none)
    (nf_Watcher_held : PySem.W.findIn K (.ref C_Watcher) "_held" = some none)
    (nf_Watcher_rules : PySem.W.findIn K (.ref C_Watcher) "_rules" = some none)
    {eC0 ei0 : Addr} {nm0 eq0 : Str} {eN0 : Addr} {bs0 : List Value} {sn0 : List Str} {sub0 : List Value} {ab0 : Bool} {col0 : Option Bool} {dd0 : Option Addr} {m00 m10 m20 m30 m50 : Option Value} {eod0 ean0 : Option Addr} {esl0 : Array (Option Value)} {eoc0 edc0 epm0 ecd0 ect0 : Value}
    (eaC0 : PySem.W.nsIn K mainGlobals "NotAWord" = some (some (.ref eC0))) (exL0 : K.lookup eC0 = some (excClassObj nm0 eq0 eC0 eN0 bs0 [.type "ValueError", .type "Exception", .type "BaseException", .type "object"] true sn0 sub0 ab0 col0 dd0 m00 m10 m20 m30 m50 "ValueError.__new__"))
    (esa0 : PySem.W.findIn K (.ref eC0) "__setattr__" = some (some (.builtin "object.__setattr__"))) (ega0 : PySem.W.findIn K (.ref eC0) "__getattribute__" = some (some (.builtin "BaseException.__getattribute__"))) (egg0 : PySem.W.findIn K (.ref eC0) "__getattr__" = some none) (enb0 : PySem.W.findIn K (.ref eC0) "word" = some none)
    (ea10 : PySem.W.findIn K (.ref eC0) "__init__" = some (some (.ref ei0))) (et10 : PySem.W.typeIn K (.ref ei0) = some (.type "function"))
    (el10 : K.lookup ei0 = some ⟨eoc0, eod0, .func (PySem.W.fnOf "__init__" "NotAWord.__init__" (defArgs s_NotAWord_init) (defBody s_NotAWord_init) (defScope s_NotAWord_init) .none .none edc0 epm0 ean0 ecd0 ect0), esl0⟩) (ec10 : PySem.W.codeIn K ecd0 "NotAWord.__init__" = true)
    (ekC0 : PySem.W.keepIn K (.ref eC0) = true) (eeC0 : PySem.W.subIn K (.ref eC0) (.type "BaseException") = some true) (etC0 : PySem.W.typeIn K (.ref eC0) = some (.type "type")) (ehC0 : PySem.W.hasDictIn K eC0 = true) (eiC0 : PySem.W.isClsIn K eC0 = true) (esC0 : PySem.W.subIn K (.ref eC0) (.ref eC0) = some true)
    {eC1 ei1 : Addr} {nm1 eq1 : Str} {eN1 : Addr} {bs1 : List Value} {sn1 : List Str} {sub1 : List Value} {ab1 : Bool} {col1 : Option Bool} {dd1 : Option Addr} {m01 m11 m21 m31 m51 : Option Value} {eod1 ean1 : Option Addr} {esl1 : Array (Option Value)} {eoc1 edc1 epm1 ecd1 ect1 : Value}
    (eaC1 : PySem.W.nsIn K mainGlobals "NotAVerdict" = some (some (.ref eC1))) (exL1 : K.lookup eC1 = some (excClassObj nm1 eq1 eC1 eN1 bs1 [.type "ValueError", .type "Exception", .type "BaseException", .type "object"] true sn1 sub1 ab1 col1 dd1 m01 m11 m21 m31 m51 "ValueError.__new__"))
    (esa1 : PySem.W.findIn K (.ref eC1) "__setattr__" = some (some (.builtin "object.__setattr__"))) (ega1 : PySem.W.findIn K (.ref eC1) "__getattribute__" = some (some (.builtin "BaseException.__getattribute__"))) (egg1 : PySem.W.findIn K (.ref eC1) "__getattr__" = some none) (enb1 : PySem.W.findIn K (.ref eC1) "verdict" = some none)
    (ea11 : PySem.W.findIn K (.ref eC1) "__init__" = some (some (.ref ei1))) (et11 : PySem.W.typeIn K (.ref ei1) = some (.type "function"))
    (el11 : K.lookup ei1 = some ⟨eoc1, eod1, .func (PySem.W.fnOf "__init__" "NotAVerdict.__init__" (defArgs s_NotAVerdict_init) (defBody s_NotAVerdict_init) (defScope s_NotAVerdict_init) .none .none edc1 epm1 ean1 ecd1 ect1), esl1⟩) (ec11 : PySem.W.codeIn K ecd1 "NotAVerdict.__init__" = true)
    (ekC1 : PySem.W.keepIn K (.ref eC1) = true) (eeC1 : PySem.W.subIn K (.ref eC1) (.type "BaseException") = some true) (etC1 : PySem.W.typeIn K (.ref eC1) = some (.type "type")) (ehC1 : PySem.W.hasDictIn K eC1 = true) (eiC1 : PySem.W.isClsIn K eC1 = true) (esC1 : PySem.W.subIn K (.ref eC1) (.ref eC1) = some true)
    {eC2 ei2 : Addr} {nm2 eq2 : Str} {eN2 : Addr} {bs2 : List Value} {sn2 : List Str} {sub2 : List Value} {ab2 : Bool} {col2 : Option Bool} {dd2 : Option Addr} {m02 m12 m22 m32 m52 : Option Value} {eod2 ean2 : Option Addr} {esl2 : Array (Option Value)} {eoc2 edc2 epm2 ecd2 ect2 : Value}
    (eaC2 : PySem.W.nsIn K mainGlobals "InvalidTest" = some (some (.ref eC2))) (exL2 : K.lookup eC2 = some (excClassObj nm2 eq2 eC2 eN2 bs2 [.type "ValueError", .type "Exception", .type "BaseException", .type "object"] true sn2 sub2 ab2 col2 dd2 m02 m12 m22 m32 m52 "ValueError.__new__"))
    (esa2 : PySem.W.findIn K (.ref eC2) "__setattr__" = some (some (.builtin "object.__setattr__"))) (ega2 : PySem.W.findIn K (.ref eC2) "__getattribute__" = some (some (.builtin "BaseException.__getattribute__"))) (egg2 : PySem.W.findIn K (.ref eC2) "__getattr__" = some none) (enb2 : PySem.W.findIn K (.ref eC2) "test" = some none)
    (ea12 : PySem.W.findIn K (.ref eC2) "__init__" = some (some (.ref ei2))) (et12 : PySem.W.typeIn K (.ref ei2) = some (.type "function"))
    (el12 : K.lookup ei2 = some ⟨eoc2, eod2, .func (PySem.W.fnOf "__init__" "InvalidTest.__init__" (defArgs s_InvalidTest_init) (defBody s_InvalidTest_init) (defScope s_InvalidTest_init) .none .none edc2 epm2 ean2 ecd2 ect2), esl2⟩) (ec12 : PySem.W.codeIn K ecd2 "InvalidTest.__init__" = true)
    (ekC2 : PySem.W.keepIn K (.ref eC2) = true) (eeC2 : PySem.W.subIn K (.ref eC2) (.type "BaseException") = some true) (etC2 : PySem.W.typeIn K (.ref eC2) = some (.type "type")) (ehC2 : PySem.W.hasDictIn K eC2 = true) (eiC2 : PySem.W.isClsIn K eC2 = true) (esC2 : PySem.W.subIn K (.ref eC2) (.ref eC2) = some true)
    {eC3 ei3 : Addr} {nm3 eq3 : Str} {eN3 : Addr} {bs3 : List Value} {sn3 : List Str} {sub3 : List Value} {ab3 : Bool} {col3 : Option Bool} {dd3 : Option Addr} {m03 m13 m23 m33 m53 : Option Value} {eod3 ean3 : Option Addr} {esl3 : Array (Option Value)} {eoc3 edc3 epm3 ecd3 ect3 : Value}
    (eaC3 : PySem.W.nsIn K mainGlobals "InvalidSources" = some (some (.ref eC3))) (exL3 : K.lookup eC3 = some (excClassObj nm3 eq3 eC3 eN3 bs3 [.type "ValueError", .type "Exception", .type "BaseException", .type "object"] true sn3 sub3 ab3 col3 dd3 m03 m13 m23 m33 m53 "ValueError.__new__"))
    (esa3 : PySem.W.findIn K (.ref eC3) "__setattr__" = some (some (.builtin "object.__setattr__"))) (ega3 : PySem.W.findIn K (.ref eC3) "__getattribute__" = some (some (.builtin "BaseException.__getattribute__"))) (egg3 : PySem.W.findIn K (.ref eC3) "__getattr__" = some none) (enb3 : PySem.W.findIn K (.ref eC3) "sources" = some none)
    (ea13 : PySem.W.findIn K (.ref eC3) "__init__" = some (some (.ref ei3))) (et13 : PySem.W.typeIn K (.ref ei3) = some (.type "function"))
    (el13 : K.lookup ei3 = some ⟨eoc3, eod3, .func (PySem.W.fnOf "__init__" "InvalidSources.__init__" (defArgs s_InvalidSources_init) (defBody s_InvalidSources_init) (defScope s_InvalidSources_init) .none .none edc3 epm3 ean3 ecd3 ect3), esl3⟩) (ec13 : PySem.W.codeIn K ecd3 "InvalidSources.__init__" = true)
    (ekC3 : PySem.W.keepIn K (.ref eC3) = true) (eeC3 : PySem.W.subIn K (.ref eC3) (.type "BaseException") = some true) (etC3 : PySem.W.typeIn K (.ref eC3) = some (.type "type")) (ehC3 : PySem.W.hasDictIn K eC3 = true) (eiC3 : PySem.W.isClsIn K eC3 = true) (esC3 : PySem.W.subIn K (.ref eC3) (.ref eC3) = some true)
    {eC4 ei4 : Addr} {nm4 eq4 : Str} {eN4 : Addr} {bs4 : List Value} {sn4 : List Str} {sub4 : List Value} {ab4 : Bool} {col4 : Option Bool} {dd4 : Option Addr} {m04 m14 m24 m34 m54 : Option Value} {eod4 ean4 : Option Addr} {esl4 : Array (Option Value)} {eoc4 edc4 epm4 ecd4 ect4 : Value}
    (eaC4 : PySem.W.nsIn K mainGlobals "UnknownState" = some (some (.ref eC4))) (exL4 : K.lookup eC4 = some (excClassObj nm4 eq4 eC4 eN4 bs4 [.type "LookupError", .type "Exception", .type "BaseException", .type "object"] true sn4 sub4 ab4 col4 dd4 m04 m14 m24 m34 m54 "LookupError.__new__"))
    (esa4 : PySem.W.findIn K (.ref eC4) "__setattr__" = some (some (.builtin "object.__setattr__"))) (ega4 : PySem.W.findIn K (.ref eC4) "__getattribute__" = some (some (.builtin "BaseException.__getattribute__"))) (egg4 : PySem.W.findIn K (.ref eC4) "__getattr__" = some none) (enb4 : PySem.W.findIn K (.ref eC4) "state" = some none)
    (ea14 : PySem.W.findIn K (.ref eC4) "__init__" = some (some (.ref ei4))) (et14 : PySem.W.typeIn K (.ref ei4) = some (.type "function"))
    (el14 : K.lookup ei4 = some ⟨eoc4, eod4, .func (PySem.W.fnOf "__init__" "UnknownState.__init__" (defArgs s_UnknownState_init) (defBody s_UnknownState_init) (defScope s_UnknownState_init) .none .none edc4 epm4 ean4 ecd4 ect4), esl4⟩) (ec14 : PySem.W.codeIn K ecd4 "UnknownState.__init__" = true)
    (ekC4 : PySem.W.keepIn K (.ref eC4) = true) (eeC4 : PySem.W.subIn K (.ref eC4) (.type "BaseException") = some true) (etC4 : PySem.W.typeIn K (.ref eC4) = some (.type "type")) (ehC4 : PySem.W.hasDictIn K eC4 = true) (eiC4 : PySem.W.isClsIn K eC4 = true) (esC4 : PySem.W.subIn K (.ref eC4) (.ref eC4) = some true)
    {eC5 ei5 : Addr} {nm5 eq5 : Str} {eN5 : Addr} {bs5 : List Value} {sn5 : List Str} {sub5 : List Value} {ab5 : Bool} {col5 : Option Bool} {dd5 : Option Addr} {m05 m15 m25 m35 m55 : Option Value} {eod5 ean5 : Option Addr} {esl5 : Array (Option Value)} {eoc5 edc5 epm5 ecd5 ect5 : Value}
    (eaC5 : PySem.W.nsIn K mainGlobals "RuleExists" = some (some (.ref eC5))) (exL5 : K.lookup eC5 = some (excClassObj nm5 eq5 eC5 eN5 bs5 [.type "RuntimeError", .type "Exception", .type "BaseException", .type "object"] true sn5 sub5 ab5 col5 dd5 m05 m15 m25 m35 m55 "RuntimeError.__new__"))
    (esa5 : PySem.W.findIn K (.ref eC5) "__setattr__" = some (some (.builtin "object.__setattr__"))) (ega5 : PySem.W.findIn K (.ref eC5) "__getattribute__" = some (some (.builtin "BaseException.__getattribute__"))) (egg5 : PySem.W.findIn K (.ref eC5) "__getattr__" = some none) (enb5 : PySem.W.findIn K (.ref eC5) "rule" = some none)
    (ea15 : PySem.W.findIn K (.ref eC5) "__init__" = some (some (.ref ei5))) (et15 : PySem.W.typeIn K (.ref ei5) = some (.type "function"))
    (el15 : K.lookup ei5 = some ⟨eoc5, eod5, .func (PySem.W.fnOf "__init__" "RuleExists.__init__" (defArgs s_RuleExists_init) (defBody s_RuleExists_init) (defScope s_RuleExists_init) .none .none edc5 epm5 ean5 ecd5 ect5), esl5⟩) (ec15 : PySem.W.codeIn K ecd5 "RuleExists.__init__" = true)
    (ekC5 : PySem.W.keepIn K (.ref eC5) = true) (eeC5 : PySem.W.subIn K (.ref eC5) (.type "BaseException") = some true) (etC5 : PySem.W.typeIn K (.ref eC5) = some (.type "type")) (ehC5 : PySem.W.hasDictIn K eC5 = true) (eiC5 : PySem.W.isClsIn K eC5 = true) (esC5 : PySem.W.subIn K (.ref eC5) (.ref eC5) = some true)
    {eC6 ei6 : Addr} {nm6 eq6 : Str} {eN6 : Addr} {bs6 : List Value} {sn6 : List Str} {sub6 : List Value} {ab6 : Bool} {col6 : Option Bool} {dd6 : Option Addr} {m06 m16 m26 m36 m56 : Option Value} {eod6 ean6 : Option Addr} {esl6 : Array (Option Value)} {eoc6 edc6 epm6 ecd6 ect6 : Value}
    (eaC6 : PySem.W.nsIn K mainGlobals "LimitExceeded" = some (some (.ref eC6))) (exL6 : K.lookup eC6 = some (excClassObj nm6 eq6 eC6 eN6 bs6 [.type "OverflowError", .type "ArithmeticError", .type "Exception", .type "BaseException", .type "object"] true sn6 sub6 ab6 col6 dd6 m06 m16 m26 m36 m56 "OverflowError.__new__"))
    (esa6 : PySem.W.findIn K (.ref eC6) "__setattr__" = some (some (.builtin "object.__setattr__"))) (ega6 : PySem.W.findIn K (.ref eC6) "__getattribute__" = some (some (.builtin "BaseException.__getattribute__"))) (egg6 : PySem.W.findIn K (.ref eC6) "__getattr__" = some none) (enb6 : PySem.W.findIn K (.ref eC6) "limit" = some none)
    (ea16 : PySem.W.findIn K (.ref eC6) "__init__" = some (some (.ref ei6))) (et16 : PySem.W.typeIn K (.ref ei6) = some (.type "function"))
    (el16 : K.lookup ei6 = some ⟨eoc6, eod6, .func (PySem.W.fnOf "__init__" "LimitExceeded.__init__" (defArgs s_LimitExceeded_init) (defBody s_LimitExceeded_init) (defScope s_LimitExceeded_init) .none .none edc6 epm6 ean6 ecd6 ect6), esl6⟩) (ec16 : PySem.W.codeIn K ecd6 "LimitExceeded.__init__" = true)
    (ekC6 : PySem.W.keepIn K (.ref eC6) = true) (eeC6 : PySem.W.subIn K (.ref eC6) (.type "BaseException") = some true) (etC6 : PySem.W.typeIn K (.ref eC6) = some (.type "type")) (ehC6 : PySem.W.hasDictIn K eC6 = true) (eiC6 : PySem.W.isClsIn K eC6 = true) (esC6 : PySem.W.subIn K (.ref eC6) (.ref eC6) = some true)
    {eC7 ei7 : Addr} {nm7 eq7 : Str} {eN7 : Addr} {bs7 : List Value} {sn7 : List Str} {sub7 : List Value} {ab7 : Bool} {col7 : Option Bool} {dd7 : Option Addr} {m07 m17 m27 m37 m57 : Option Value} {eod7 ean7 : Option Addr} {esl7 : Array (Option Value)} {eoc7 edc7 epm7 ecd7 ect7 : Value}
    (eaC7 : PySem.W.nsIn K mainGlobals "UnknownRule" = some (some (.ref eC7))) (exL7 : K.lookup eC7 = some (excClassObj nm7 eq7 eC7 eN7 bs7 [.type "LookupError", .type "Exception", .type "BaseException", .type "object"] true sn7 sub7 ab7 col7 dd7 m07 m17 m27 m37 m57 "LookupError.__new__"))
    (esa7 : PySem.W.findIn K (.ref eC7) "__setattr__" = some (some (.builtin "object.__setattr__"))) (ega7 : PySem.W.findIn K (.ref eC7) "__getattribute__" = some (some (.builtin "BaseException.__getattribute__"))) (egg7 : PySem.W.findIn K (.ref eC7) "__getattr__" = some none) (enb7 : PySem.W.findIn K (.ref eC7) "rule" = some none)
    (ea17 : PySem.W.findIn K (.ref eC7) "__init__" = some (some (.ref ei7))) (et17 : PySem.W.typeIn K (.ref ei7) = some (.type "function"))
    (el17 : K.lookup ei7 = some ⟨eoc7, eod7, .func (PySem.W.fnOf "__init__" "UnknownRule.__init__" (defArgs s_UnknownRule_init) (defBody s_UnknownRule_init) (defScope s_UnknownRule_init) .none .none edc7 epm7 ean7 ecd7 ect7), esl7⟩) (ec17 : PySem.W.codeIn K ecd7 "UnknownRule.__init__" = true)
    (ekC7 : PySem.W.keepIn K (.ref eC7) = true) (eeC7 : PySem.W.subIn K (.ref eC7) (.type "BaseException") = some true) (etC7 : PySem.W.typeIn K (.ref eC7) = some (.type "type")) (ehC7 : PySem.W.hasDictIn K eC7 = true) (eiC7 : PySem.W.isClsIn K eC7 = true) (esC7 : PySem.W.subIn K (.ref eC7) (.ref eC7) = some true)
    (ap_LimitExceeded_NotAVerdict : PySem.W.subIn K (.ref eC6) (.ref eC1) = some false)
    (ap_UnknownState_NotAVerdict : PySem.W.subIn K (.ref eC4) (.ref eC1) = some false)
    (ap_UnknownState_LimitExceeded : PySem.W.subIn K (.ref eC4) (.ref eC6) = some false)
    (ap_NotAWord_NotAVerdict : PySem.W.subIn K (.ref eC0) (.ref eC1) = some false)
    (ap_NotAWord_LimitExceeded : PySem.W.subIn K (.ref eC0) (.ref eC6) = some false)
    (ap_NotAWord_UnknownState : PySem.W.subIn K (.ref eC0) (.ref eC4) = some false)
    (ap_InvalidTest_NotAVerdict : PySem.W.subIn K (.ref eC2) (.ref eC1) = some false)
    (ap_InvalidTest_LimitExceeded : PySem.W.subIn K (.ref eC2) (.ref eC6) = some false)
    (ap_InvalidTest_UnknownState : PySem.W.subIn K (.ref eC2) (.ref eC4) = some false)
    (ap_InvalidTest_NotAWord : PySem.W.subIn K (.ref eC2) (.ref eC0) = some false)
    (ap_InvalidSources_NotAVerdict : PySem.W.subIn K (.ref eC3) (.ref eC1) = some false)
    (ap_InvalidSources_LimitExceeded : PySem.W.subIn K (.ref eC3) (.ref eC6) = some false)
    (ap_InvalidSources_UnknownState : PySem.W.subIn K (.ref eC3) (.ref eC4) = some false)
    (ap_InvalidSources_NotAWord : PySem.W.subIn K (.ref eC3) (.ref eC0) = some false)
    (ap_InvalidSources_InvalidTest : PySem.W.subIn K (.ref eC3) (.ref eC2) = some false)
    (ap_RuleExists_NotAVerdict : PySem.W.subIn K (.ref eC5) (.ref eC1) = some false)
    (ap_RuleExists_LimitExceeded : PySem.W.subIn K (.ref eC5) (.ref eC6) = some false)
    (ap_RuleExists_UnknownState : PySem.W.subIn K (.ref eC5) (.ref eC4) = some false)
    (ap_RuleExists_NotAWord : PySem.W.subIn K (.ref eC5) (.ref eC0) = some false)
    (ap_RuleExists_InvalidTest : PySem.W.subIn K (.ref eC5) (.ref eC2) = some false)
    (ap_RuleExists_InvalidSources : PySem.W.subIn K (.ref eC5) (.ref eC3) = some false)
    (ap_UnknownRule_NotAVerdict : PySem.W.subIn K (.ref eC7) (.ref eC1) = some false)
    (ap_UnknownRule_LimitExceeded : PySem.W.subIn K (.ref eC7) (.ref eC6) = some false)
    (ap_UnknownRule_UnknownState : PySem.W.subIn K (.ref eC7) (.ref eC4) = some false)
    (ap_UnknownRule_NotAWord : PySem.W.subIn K (.ref eC7) (.ref eC0) = some false)
    (ap_UnknownRule_InvalidTest : PySem.W.subIn K (.ref eC7) (.ref eC2) = some false)
    (ap_UnknownRule_InvalidSources : PySem.W.subIn K (.ref eC7) (.ref eC3) = some false)
    (ap_UnknownRule_RuleExists : PySem.W.subIn K (.ref eC7) (.ref eC5) = some false)
    (ka_MOST_WORDS : PySem.W.nsIn K mainGlobals "MOST_WORDS" = some (some (.int 3 ck_MOST_WORDS)))
    (ka_MOST_STATES : PySem.W.nsIn K mainGlobals "MOST_STATES" = some (some (.int 6 ck_MOST_STATES)))
    (ka_MOST_HELD : PySem.W.nsIn K mainGlobals "MOST_HELD" = some (some (.int 3 ck_MOST_HELD)))
    (ka_MOST_VERDICT : PySem.W.nsIn K mainGlobals "MOST_VERDICT" = some (some (.int 3 ck_MOST_VERDICT)))
    (ka_NEW : PySem.W.nsIn K mainGlobals "NEW" = some (some (.str "new" ck_NEW)))
    (ka_VALUE : PySem.W.nsIn K mainGlobals "VALUE" = some (some (.str "value" ck_VALUE)))
    (z0 : PySem.W.nsIn K mainGlobals "list" = some none)
    (z1 : PySem.W.nsIn K mainGlobals "len" = some none)
    (z2 : PySem.W.nsIn K mainGlobals "range" = some none)
    (z3 : PySem.W.nsIn K mainGlobals "tuple" = some none)
    (z4 : PySem.W.nsIn K mainGlobals "isinstance" = some none)
    (z5 : PySem.W.nsIn K mainGlobals "bool" = some none)
    (z6 : PySem.W.nsIn K mainGlobals "int" = some none)
    (z7 : PySem.W.nsIn K mainGlobals "sorted" = some none)
    (z8 : PySem.W.nsIn K mainGlobals "set" = some none)
    (z9 : PySem.W.nsIn K mainGlobals "repr" = some none)
    (z10 : PySem.W.nsIn K mainGlobals "enumerate" = some none)
    (z11 : PySem.W.nsIn K mainGlobals "str" = some none)
    {occ : Value} {odc : Option Addr} {slc : Array (Option Value)} {vsc : Array Value} (lcC : K.lookup cC = some ⟨occ, odc, .fields vsc, slc⟩) (vT : vsc[11]? = some (.ref cT)) (nT : K.lookup cT = none)
    : ∃ (fd : FuncData) (cC cT : Addr), PySem.W.tabIn K "law" = some (cC, cT) ∧ K.lookup cT = none ∧ (∀ (s : Shared) (v : Value), BindsTo s fd ⟨[v], []⟩ [("script", v)]) ∧ ∀ base : Heap, K.In base → base.Ns mainGlobals mg → LamX.TabB base mg cC cT → FnG l.prog w K mg base CX0 9 fa fd ["script"] (sp_law K cT) := by
  have e := hfa.symm.trans (PySem.W.mg_of X G a34)
  cases e
  have F_is_integer := fun_mk (st := s_is_integer) l0 c0 k0
  have b_is_integer := F_is_integer.binds (ps := ["value"]) fun _ _ _ _ _ _ us hl => match us, hl with | [_], _ => rfl
  have F_is_between := fun_mk (st := s_is_between) l1 c1 k1
  have b_is_between := F_is_between.binds (ps := ["value", "low", "high"]) fun _ _ _ _ _ _ us hl => match us, hl with | [_, _, _], _ => rfl
  have F_Watcher_init := fun_mk (st := s_Watcher_init) l2 c2 k2
  have b_Watcher_init := F_Watcher_init.binds (ps := ["self", "words"]) fun _ _ _ _ _ _ us hl => match us, hl with | [_, _], _ => rfl
  have F_Watcher_len := fun_mk (st := s_Watcher_len) l3 c3 k3
  have b_Watcher_len := F_Watcher_len.binds (ps := ["self"]) fun _ _ _ _ _ _ us hl => match us, hl with | [_], _ => rfl
  have F_Watcher_add_state := fun_mk (st := s_Watcher_add_state) l4 c4 k4
  have b_Watcher_add_state := F_Watcher_add_state.binds (ps := ["self", "verdict", "held"]) fun _ _ _ _ _ _ us hl => match us, hl with | [_, _, _], _ => rfl
  have F_Watcher_set_verdict := fun_mk (st := s_Watcher_set_verdict) l5 c5 k5
  have b_Watcher_set_verdict := F_Watcher_set_verdict.binds (ps := ["self", "state", "verdict"]) fun _ _ _ _ _ _ us hl => match us, hl with | [_, _, _], _ => rfl
  have F_Watcher_add_rule := fun_mk (st := s_Watcher_add_rule) l6 c6 k6
  have b_Watcher_add_rule := F_Watcher_add_rule.binds (ps := ["self", "state", "word", "test", "target", "sources"]) fun _ _ _ _ _ _ us hl => match us, hl with | [_, _, _, _, _, _], _ => rfl
  have F_Watcher_remove_rule := fun_mk (st := s_Watcher_remove_rule) l7 c7 k7
  have b_Watcher_remove_rule := F_Watcher_remove_rule.binds (ps := ["self", "state", "word", "test"]) fun _ _ _ _ _ _ us hl => match us, hl with | [_, _, _, _], _ => rfl
  have F_Watcher_verdicts := fun_mk (st := s_Watcher_verdicts) l8 c8 k8
  have b_Watcher_verdicts := F_Watcher_verdicts.binds (ps := ["self"]) fun _ _ _ _ _ _ us hl => match us, hl with | [_], _ => rfl
  have F_Watcher_held_counts := fun_mk (st := s_Watcher_held_counts) l9 c9 k9
  have b_Watcher_held_counts := F_Watcher_held_counts.binds (ps := ["self"]) fun _ _ _ _ _ _ us hl => match us, hl with | [_], _ => rfl
  have F_Watcher_rules := fun_mk (st := s_Watcher_rules) l10 c10 k10
  have b_Watcher_rules := F_Watcher_rules.binds (ps := ["self"]) fun _ _ _ _ _ _ us hl => match us, hl with | [_], _ => rfl
  have F_Watcher_require_state := fun_mk (st := s_Watcher_require_state) l11 c11 k11
  have b_Watcher_require_state := F_Watcher_require_state.binds (ps := ["self", "state"]) fun _ _ _ _ _ _ us hl => match us, hl with | [_, _], _ => rfl
  have F_Watcher_require_word := fun_mk (st := s_Watcher_require_word) l12 c12 k12
  have b_Watcher_require_word := F_Watcher_require_word.binds (ps := ["self", "word"]) fun _ _ _ _ _ _ us hl => match us, hl with | [_, _], _ => rfl
  have F_require_verdict := fun_mk (st := s_require_verdict) l13 c13 k13
  have b_require_verdict := F_require_verdict.binds (ps := ["verdict"]) fun _ _ _ _ _ _ us hl => match us, hl with | [_], _ => rfl
  have F_is_test := fun_mk (st := s_is_test) l14 c14 k14
  have b_is_test := F_is_test.binds (ps := ["test", "held"]) fun _ _ _ _ _ _ us hl => match us, hl with | [_, _], _ => rfl
  have F_are_sources := fun_mk (st := s_are_sources) l15 c15 k15
  have b_are_sources := F_are_sources.binds (ps := ["sources", "wanted", "held", "test"]) fun _ _ _ _ _ _ us hl => match us, hl with | [_, _, _, _], _ => rfl
  have F_is_source := fun_mk (st := s_is_source) l16 c16 k16
  have b_is_source := F_is_source.binds (ps := ["source", "held", "test"]) fun _ _ _ _ _ _ us hl => match us, hl with | [_, _, _], _ => rfl
  have F_may_be_rule := fun_mk (st := s_may_be_rule) l17 c17 k17
  have b_may_be_rule := F_may_be_rule.binds (ps := ["rule"]) fun _ _ _ _ _ _ us hl => match us, hl with | [_], _ => rfl
  have F_rule_order := fun_mk (st := s_rule_order) l18 c18 k18
  have b_rule_order := F_rule_order.binds (ps := ["rule"]) fun _ _ _ _ _ _ us hl => match us, hl with | [_], _ => rfl
  have F_part_order := fun_mk (st := s_part_order) l19 c19 k19
  have b_part_order := F_part_order.binds (ps := ["part"]) fun _ _ _ _ _ _ us hl => match us, hl with | [_], _ => rfl
  have F_law_pen := fun_mk (st := s_law_pen) l20 c20 k20
  have b_law_pen := F_law_pen.binds (ps := ["script"]) fun _ _ _ _ _ _ us hl => match us, hl with | [_], _ => rfl
  have F_law_fresh := fun_mk (st := s_law_fresh) l21 c21 k21
  have b_law_fresh := F_law_fresh.binds (ps := ["pen"]) fun _ _ _ _ _ _ us hl => match us, hl with | [_], _ => rfl
  have F_law_draw := fun_mk (st := s_law_draw) l22 c22 k22
  have b_law_draw := F_law_draw.binds (ps := ["pen", "many"]) fun _ _ _ _ _ _ us hl => match us, hl with | [_, _], _ => rfl
  have F_law_some_sources := fun_mk (st := s_law_some_sources) l23 c23 k23
  have b_law_some_sources := F_law_some_sources.binds (ps := ["pen", "held", "test", "many"]) fun _ _ _ _ _ _ us hl => match us, hl with | [_, _, _, _], _ => rfl
  have F_law_rank := fun_mk (st := s_law_rank) l24 c24 k24
  have b_law_rank := F_law_rank.binds (ps := ["rule"]) fun _ _ _ _ _ _ us hl => match us, hl with | [_], _ => rfl
  have F_law_outcome := fun_mk (st := s_law_outcome) l25 c25 k25
  have b_law_outcome := F_law_outcome.binds (ps := ["asked"]) fun _ _ _ _ _ _ us hl => match us, hl with | [_], _ => rfl
  have F_law_in := fun_mk (st := s_law_in) l26 c26 k26
  have b_law_in := F_law_in.binds (ps := ["value", "most"]) fun _ _ _ _ _ _ us hl => match us, hl with | [_, _], _ => rfl
  have F_law_state_due := fun_mk (st := s_law_state_due) l27 c27 k27
  have b_law_state_due := F_law_state_due.binds (ps := ["kinds", "verdict", "held"]) fun _ _ _ _ _ _ us hl => match us, hl with | [_, _, _], _ => rfl
  have F_law_sources_fit := fun_mk (st := s_law_sources_fit) l28 c28 k28
  have b_law_sources_fit := F_law_sources_fit.binds (ps := ["kinds", "state", "test", "target", "sources"]) fun _ _ _ _ _ _ us hl => match us, hl with | [_, _, _, _, _], _ => rfl
  have F_law_rule_due := fun_mk (st := s_law_rule_due) l29 c29 k29
  have b_law_rule_due := F_law_rule_due.binds (ps := ["words", "kinds", "rules", "parts"]) fun _ _ _ _ _ _ us hl => match us, hl with | [_, _, _, _], _ => rfl
  have F_law_gone_due := fun_mk (st := s_law_gone_due) l30 c30 k30
  have b_law_gone_due := F_law_gone_due.binds (ps := ["rules", "rule"]) fun _ _ _ _ _ _ us hl => match us, hl with | [_, _], _ => rfl
  have F_law_odd := fun_mk (st := s_law_odd) l31 c31 k31
  have b_law_odd := F_law_odd.binds (ps := ["pen", "value"]) fun _ _ _ _ _ _ us hl => match us, hl with | [_, _], _ => rfl
  have F_law_verdict_due := fun_mk (st := s_law_verdict_due) l32 c32 k32
  have b_law_verdict_due := F_law_verdict_due.binds (ps := ["kinds", "state", "verdict"]) fun _ _ _ _ _ _ us hl => match us, hl with | [_, _, _], _ => rfl
  have F_law_rule_parts := fun_mk (st := s_law_rule_parts) l33 c33 k33
  have b_law_rule_parts := F_law_rule_parts.binds (ps := ["pen", "words", "kinds"]) fun _ _ _ _ _ _ us hl => match us, hl with | [_, _, _], _ => rfl
  have F_law := fun_mk (st := s_law) l34 c34 k34
  have T_NotAWord : L2.ErrOk OwnE.bVE "NotAWord" "word" "NotAWord.__init__" K mg eC0 ei0 := ⟨OwnE.bVE_ok, { gC := PySem.W.mg_of X G eaC0, cls := ⟨nm0, eq0, eN0, bs0, _, sn0, sub0, ab0, col0, dd0, m00, m10, m20, m30, m50, exL0, by decide +kernel⟩, sa := esa0, ga := ega0, gg := egg0, noN := enb0, iC := ea10, tC := et10, kC := ekC0, exC := eeC0, tyC := etC0, hdC := ehC0, te := OwnE.exm_own eeC0 eiC0 etC0 esC0, fn := ⟨eoc0, eod0, edc0, epm0, ean0, ecd0, ect0, esl0, _, _, _, _, _, _, defScope s_NotAWord_init, el10, ec10, rfl, by decide +kernel, by decide +kernel, rfl, rfl⟩ }, by decide, by decide, fun _ _ _ _ _ _ _ _ _ _ _ _ _ _ _ _ => by first | rfl | with_unfolding_all rfl⟩
  have T_NotAVerdict : L2.ErrOk OwnE.bVE "NotAVerdict" "verdict" "NotAVerdict.__init__" K mg eC1 ei1 := ⟨OwnE.bVE_ok, { gC := PySem.W.mg_of X G eaC1, cls := ⟨nm1, eq1, eN1, bs1, _, sn1, sub1, ab1, col1, dd1, m01, m11, m21, m31, m51, exL1, by decide +kernel⟩, sa := esa1, ga := ega1, gg := egg1, noN := enb1, iC := ea11, tC := et11, kC := ekC1, exC := eeC1, tyC := etC1, hdC := ehC1, te := OwnE.exm_own eeC1 eiC1 etC1 esC1, fn := ⟨eoc1, eod1, edc1, epm1, ean1, ecd1, ect1, esl1, _, _, _, _, _, _, defScope s_NotAVerdict_init, el11, ec11, rfl, by decide +kernel, by decide +kernel, rfl, rfl⟩ }, by decide, by decide, fun _ _ _ _ _ _ _ _ _ _ _ _ _ _ _ _ => by first | rfl | with_unfolding_all rfl⟩
  have T_InvalidTest : L2.ErrOk OwnE.bVE "InvalidTest" "test" "InvalidTest.__init__" K mg eC2 ei2 := ⟨OwnE.bVE_ok, { gC := PySem.W.mg_of X G eaC2, cls := ⟨nm2, eq2, eN2, bs2, _, sn2, sub2, ab2, col2, dd2, m02, m12, m22, m32, m52, exL2, by decide +kernel⟩, sa := esa2, ga := ega2, gg := egg2, noN := enb2, iC := ea12, tC := et12, kC := ekC2, exC := eeC2, tyC := etC2, hdC := ehC2, te := OwnE.exm_own eeC2 eiC2 etC2 esC2, fn := ⟨eoc2, eod2, edc2, epm2, ean2, ecd2, ect2, esl2, _, _, _, _, _, _, defScope s_InvalidTest_init, el12, ec12, rfl, by decide +kernel, by decide +kernel, rfl, rfl⟩ }, by decide, by decide, fun _ _ _ _ _ _ _ _ _ _ _ _ _ _ _ _ => by first | rfl | with_unfolding_all rfl⟩
  have T_InvalidSources : L2.ErrOk OwnE.bVE "InvalidSources" "sources" "InvalidSources.__init__" K mg eC3 ei3 := ⟨OwnE.bVE_ok, { gC := PySem.W.mg_of X G eaC3, cls := ⟨nm3, eq3, eN3, bs3, _, sn3, sub3, ab3, col3, dd3, m03, m13, m23, m33, m53, exL3, by decide +kernel⟩, sa := esa3, ga := ega3, gg := egg3, noN := enb3, iC := ea13, tC := et13, kC := ekC3, exC := eeC3, tyC := etC3, hdC := ehC3, te := OwnE.exm_own eeC3 eiC3 etC3 esC3, fn := ⟨eoc3, eod3, edc3, epm3, ean3, ecd3, ect3, esl3, _, _, _, _, _, _, defScope s_InvalidSources_init, el13, ec13, rfl, by decide +kernel, by decide +kernel, rfl, rfl⟩ }, by decide, by decide, fun _ _ _ _ _ _ _ _ _ _ _ _ _ _ _ _ => by first | rfl | with_unfolding_all rfl⟩
  have T_UnknownState : L2.ErrOk OwnE.bLE "UnknownState" "state" "UnknownState.__init__" K mg eC4 ei4 := ⟨OwnE.bLE_ok, { gC := PySem.W.mg_of X G eaC4, cls := ⟨nm4, eq4, eN4, bs4, _, sn4, sub4, ab4, col4, dd4, m04, m14, m24, m34, m54, exL4, by decide +kernel⟩, sa := esa4, ga := ega4, gg := egg4, noN := enb4, iC := ea14, tC := et14, kC := ekC4, exC := eeC4, tyC := etC4, hdC := ehC4, te := OwnE.exm_own eeC4 eiC4 etC4 esC4, fn := ⟨eoc4, eod4, edc4, epm4, ean4, ecd4, ect4, esl4, _, _, _, _, _, _, defScope s_UnknownState_init, el14, ec14, rfl, by decide +kernel, by decide +kernel, rfl, rfl⟩ }, by decide, by decide, fun _ _ _ _ _ _ _ _ _ _ _ _ _ _ _ _ => by first | rfl | with_unfolding_all rfl⟩
  have T_RuleExists : L2.ErrOk OwnE.bRE "RuleExists" "rule" "RuleExists.__init__" K mg eC5 ei5 := ⟨OwnE.bRE_ok, { gC := PySem.W.mg_of X G eaC5, cls := ⟨nm5, eq5, eN5, bs5, _, sn5, sub5, ab5, col5, dd5, m05, m15, m25, m35, m55, exL5, by decide +kernel⟩, sa := esa5, ga := ega5, gg := egg5, noN := enb5, iC := ea15, tC := et15, kC := ekC5, exC := eeC5, tyC := etC5, hdC := ehC5, te := OwnE.exm_own eeC5 eiC5 etC5 esC5, fn := ⟨eoc5, eod5, edc5, epm5, ean5, ecd5, ect5, esl5, _, _, _, _, _, _, defScope s_RuleExists_init, el15, ec15, rfl, by decide +kernel, by decide +kernel, rfl, rfl⟩ }, by decide, by decide, fun _ _ _ _ _ _ _ _ _ _ _ _ _ _ _ _ => by first | rfl | with_unfolding_all rfl⟩
  have T_LimitExceeded : L2.ErrOk OwnE.bOE "LimitExceeded" "limit" "LimitExceeded.__init__" K mg eC6 ei6 := ⟨OwnE.bOE_ok, { gC := PySem.W.mg_of X G eaC6, cls := ⟨nm6, eq6, eN6, bs6, _, sn6, sub6, ab6, col6, dd6, m06, m16, m26, m36, m56, exL6, by decide +kernel⟩, sa := esa6, ga := ega6, gg := egg6, noN := enb6, iC := ea16, tC := et16, kC := ekC6, exC := eeC6, tyC := etC6, hdC := ehC6, te := OwnE.exm_own eeC6 eiC6 etC6 esC6, fn := ⟨eoc6, eod6, edc6, epm6, ean6, ecd6, ect6, esl6, _, _, _, _, _, _, defScope s_LimitExceeded_init, el16, ec16, rfl, by decide +kernel, by decide +kernel, rfl, rfl⟩ }, by decide, by decide, fun _ _ _ _ _ _ _ _ _ _ _ _ _ _ _ _ => by first | rfl | with_unfolding_all rfl⟩
  have T_UnknownRule : L2.ErrOk OwnE.bLE "UnknownRule" "rule" "UnknownRule.__init__" K mg eC7 ei7 := ⟨OwnE.bLE_ok, { gC := PySem.W.mg_of X G eaC7, cls := ⟨nm7, eq7, eN7, bs7, _, sn7, sub7, ab7, col7, dd7, m07, m17, m27, m37, m57, exL7, by decide +kernel⟩, sa := esa7, ga := ega7, gg := egg7, noN := enb7, iC := ea17, tC := et17, kC := ekC7, exC := eeC7, tyC := etC7, hdC := ehC7, te := OwnE.exm_own eeC7 eiC7 etC7 esC7, fn := ⟨eoc7, eod7, edc7, epm7, ean7, ecd7, ect7, esl7, _, _, _, _, _, _, defScope s_UnknownRule_init, el17, ec17, rfl, by decide +kernel, by decide +kernel, rfl, rfl⟩ }, by decide, by decide, fun _ _ _ _ _ _ _ _ _ _ _ _ _ _ _ _ => by first | rfl | with_unfolding_all rfl⟩
  have T : Tx K mg := {
    Watcher := ⟨C_Watcher, ⟨pg_Watcher, hd_Watcher, po_Watcher, sa_Watcher⟩, PySem.W.mg_of X G wC_Watcher⟩
    nf_Watcherwords := nf_Watcherwords
    nf_Watcher_verdicts := nf_Watcher_verdicts
    nf_Watcher_held := nf_Watcher_held
    nf_Watcher_rules := nf_Watcher_rules
    is_integer := ⟨f_is_integer, _, F_is_integer, b_is_integer, PySem.W.mg_of X G a0⟩
    is_between := ⟨f_is_between, _, F_is_between, b_is_between, PySem.W.mg_of X G a1⟩
    Watcher_init := ⟨f_Watcher_init, _, F_Watcher_init, b_Watcher_init, ⟨a2, i2, k2⟩⟩
    Watcher_len := ⟨f_Watcher_len, _, F_Watcher_len, b_Watcher_len, ⟨a3, i3, k3⟩⟩
    Watcher_add_state := ⟨f_Watcher_add_state, _, F_Watcher_add_state, b_Watcher_add_state, ⟨a4, i4, k4⟩⟩
    Watcher_set_verdict := ⟨f_Watcher_set_verdict, _, F_Watcher_set_verdict, b_Watcher_set_verdict, ⟨a5, i5, k5⟩⟩
    Watcher_add_rule := ⟨f_Watcher_add_rule, _, F_Watcher_add_rule, b_Watcher_add_rule, ⟨a6, i6, k6⟩⟩
    Watcher_remove_rule := ⟨f_Watcher_remove_rule, _, F_Watcher_remove_rule, b_Watcher_remove_rule, ⟨a7, i7, k7⟩⟩
    Watcher_verdicts := ⟨f_Watcher_verdicts, _, F_Watcher_verdicts, b_Watcher_verdicts, ⟨a8, i8, k8⟩⟩
    Watcher_held_counts := ⟨f_Watcher_held_counts, _, F_Watcher_held_counts, b_Watcher_held_counts, ⟨a9, i9, k9⟩⟩
    Watcher_rules := ⟨f_Watcher_rules, _, F_Watcher_rules, b_Watcher_rules, ⟨a10, i10, k10⟩⟩
    Watcher_require_state := ⟨f_Watcher_require_state, _, F_Watcher_require_state, b_Watcher_require_state, ⟨a11, i11, k11⟩⟩
    Watcher_require_word := ⟨f_Watcher_require_word, _, F_Watcher_require_word, b_Watcher_require_word, ⟨a12, i12, k12⟩⟩
    require_verdict := ⟨f_require_verdict, _, F_require_verdict, b_require_verdict, PySem.W.mg_of X G a13⟩
    is_test := ⟨f_is_test, _, F_is_test, b_is_test, PySem.W.mg_of X G a14⟩
    are_sources := ⟨f_are_sources, _, F_are_sources, b_are_sources, PySem.W.mg_of X G a15⟩
    is_source := ⟨f_is_source, _, F_is_source, b_is_source, PySem.W.mg_of X G a16⟩
    may_be_rule := ⟨f_may_be_rule, _, F_may_be_rule, b_may_be_rule, PySem.W.mg_of X G a17⟩
    rule_order := ⟨f_rule_order, _, F_rule_order, b_rule_order, PySem.W.mg_of X G a18⟩
    part_order := ⟨f_part_order, _, F_part_order, b_part_order, PySem.W.mg_of X G a19⟩
    law_pen := ⟨f_law_pen, _, F_law_pen, b_law_pen, PySem.W.mg_of X G a20⟩
    law_fresh := ⟨f_law_fresh, _, F_law_fresh, b_law_fresh, PySem.W.mg_of X G a21⟩
    law_draw := ⟨f_law_draw, _, F_law_draw, b_law_draw, PySem.W.mg_of X G a22⟩
    law_some_sources := ⟨f_law_some_sources, _, F_law_some_sources, b_law_some_sources, PySem.W.mg_of X G a23⟩
    law_rank := ⟨f_law_rank, _, F_law_rank, b_law_rank, PySem.W.mg_of X G a24⟩
    law_outcome := ⟨f_law_outcome, _, F_law_outcome, b_law_outcome, PySem.W.mg_of X G a25⟩
    law_in := ⟨f_law_in, _, F_law_in, b_law_in, PySem.W.mg_of X G a26⟩
    law_state_due := ⟨f_law_state_due, _, F_law_state_due, b_law_state_due, PySem.W.mg_of X G a27⟩
    law_sources_fit := ⟨f_law_sources_fit, _, F_law_sources_fit, b_law_sources_fit, PySem.W.mg_of X G a28⟩
    law_rule_due := ⟨f_law_rule_due, _, F_law_rule_due, b_law_rule_due, PySem.W.mg_of X G a29⟩
    law_gone_due := ⟨f_law_gone_due, _, F_law_gone_due, b_law_gone_due, PySem.W.mg_of X G a30⟩
    law_odd := ⟨f_law_odd, _, F_law_odd, b_law_odd, PySem.W.mg_of X G a31⟩
    law_verdict_due := ⟨f_law_verdict_due, _, F_law_verdict_due, b_law_verdict_due, PySem.W.mg_of X G a32⟩
    law_rule_parts := ⟨f_law_rule_parts, _, F_law_rule_parts, b_law_rule_parts, PySem.W.mg_of X G a33⟩
    mk_Watcher := ⟨mk_Watcher, a2, i2, kc_Watcher⟩
    bt_rule_order := fun s v => .of_eq rfl
    bt_part_order := fun s v => .of_eq rfl
    tf_Watcher_len := tf_Watcher_len
    NotAWord := ⟨eC0, ei0, T_NotAWord⟩
    NotAVerdict := ⟨eC1, ei1, T_NotAVerdict⟩
    InvalidTest := ⟨eC2, ei2, T_InvalidTest⟩
    InvalidSources := ⟨eC3, ei3, T_InvalidSources⟩
    UnknownState := ⟨eC4, ei4, T_UnknownState⟩
    RuleExists := ⟨eC5, ei5, T_RuleExists⟩
    LimitExceeded := ⟨eC6, ei6, T_LimitExceeded⟩
    UnknownRule := ⟨eC7, ei7, T_UnknownRule⟩
    ap_LimitExceeded_NotAVerdict := ap_LimitExceeded_NotAVerdict
    ap_UnknownState_NotAVerdict := ap_UnknownState_NotAVerdict
    ap_UnknownState_LimitExceeded := ap_UnknownState_LimitExceeded
    ap_NotAWord_NotAVerdict := ap_NotAWord_NotAVerdict
    ap_NotAWord_LimitExceeded := ap_NotAWord_LimitExceeded
    ap_NotAWord_UnknownState := ap_NotAWord_UnknownState
    ap_InvalidTest_NotAVerdict := ap_InvalidTest_NotAVerdict
    ap_InvalidTest_LimitExceeded := ap_InvalidTest_LimitExceeded
    ap_InvalidTest_UnknownState := ap_InvalidTest_UnknownState
    ap_InvalidTest_NotAWord := ap_InvalidTest_NotAWord
    ap_InvalidSources_NotAVerdict := ap_InvalidSources_NotAVerdict
    ap_InvalidSources_LimitExceeded := ap_InvalidSources_LimitExceeded
    ap_InvalidSources_UnknownState := ap_InvalidSources_UnknownState
    ap_InvalidSources_NotAWord := ap_InvalidSources_NotAWord
    ap_InvalidSources_InvalidTest := ap_InvalidSources_InvalidTest
    ap_RuleExists_NotAVerdict := ap_RuleExists_NotAVerdict
    ap_RuleExists_LimitExceeded := ap_RuleExists_LimitExceeded
    ap_RuleExists_UnknownState := ap_RuleExists_UnknownState
    ap_RuleExists_NotAWord := ap_RuleExists_NotAWord
    ap_RuleExists_InvalidTest := ap_RuleExists_InvalidTest
    ap_RuleExists_InvalidSources := ap_RuleExists_InvalidSources
    ap_UnknownRule_NotAVerdict := ap_UnknownRule_NotAVerdict
    ap_UnknownRule_LimitExceeded := ap_UnknownRule_LimitExceeded
    ap_UnknownRule_UnknownState := ap_UnknownRule_UnknownState
    ap_UnknownRule_NotAWord := ap_UnknownRule_NotAWord
    ap_UnknownRule_InvalidTest := ap_UnknownRule_InvalidTest
    ap_UnknownRule_InvalidSources := ap_UnknownRule_InvalidSources
    ap_UnknownRule_RuleExists := ap_UnknownRule_RuleExists
    ck_MOST_WORDS := ck_MOST_WORDS
    g_MOST_WORDS := PySem.W.mg_of X G ka_MOST_WORDS
    ck_MOST_STATES := ck_MOST_STATES
    g_MOST_STATES := PySem.W.mg_of X G ka_MOST_STATES
    ck_MOST_HELD := ck_MOST_HELD
    g_MOST_HELD := PySem.W.mg_of X G ka_MOST_HELD
    ck_MOST_VERDICT := ck_MOST_VERDICT
    g_MOST_VERDICT := PySem.W.mg_of X G ka_MOST_VERDICT
    ck_NEW := ck_NEW
    g_NEW := PySem.W.mg_of X G ka_NEW
    ck_VALUE := ck_VALUE
    g_VALUE := PySem.W.mg_of X G ka_VALUE
    m_list := PySem.W.mg_none_of X G z0
    m_len := PySem.W.mg_none_of X G z1
    m_range := PySem.W.mg_none_of X G z2
    m_tuple := PySem.W.mg_none_of X G z3
    m_isinstance := PySem.W.mg_none_of X G z4
    m_bool := PySem.W.mg_none_of X G z5
    m_int := PySem.W.mg_none_of X G z6
    m_sorted := PySem.W.mg_none_of X G z7
    m_set := PySem.W.mg_none_of X G z8
    m_repr := PySem.W.mg_none_of X G z9
    m_enumerate := PySem.W.mg_none_of X G z10
    m_str := PySem.W.mg_none_of X G z11 }
  exact ⟨PySem.W.fnOf "law" "law" (defArgs s_law) (defBody s_law) (defScope s_law) .none kV34 dc34 pm34 an34 (.ref cC) ct34, cC, cT, tab_by a34 l34 rfl lcC vT, nT, fun s v => .of_eq rfl, fun base _ _ TB => ok_law T ⟨oc34, od34, kV34, dc34, pm34, an34, ct34, sl34, rfl, l34, c34⟩ TB⟩
theorem walk {l : PySem.W.OpenLaw} {q : Program} {loose : List Str} {XP : (Str → Option Value) → Heap → Prop} {YP : World → Heap → Prop} {d : DefRec} {K : Params → PySem.W.Frag} (hn : l.most = some 63) (hdf : d.params.defaults = [])
    (hY : ∀ (w : World) (h : Heap), YP w h → (K w.params).In h) (hrec : (recsOf q).find? (fun e => e.name == d.name) = some d)
    (F : ∀ (w : World) (mg : Str → Option Value) (fa : Addr) (h : Heap), (K w.params).In h → h.Ns mainGlobals mg → mg d.name = some (.ref fa) →
      ∃ (fd : FuncData) (cC cT : Addr), PySem.W.tabIn (K w.params) d.name = some (cC, cT) ∧ (K w.params).lookup cT = none ∧ (∀ (s : Shared) (u : Value), BindsTo s fd ⟨[u], []⟩ [("script", u)]) ∧ ∀ base : Heap, (K w.params).In base → base.Ns mainGlobals mg → LamX.TabB base mg cC cT → FnG l.prog w (K w.params) mg base CX0 9 fa fd ["script"] (sp_law (K w.params) cT)) :
    PySem.W.WalkO q loose XP YP l.row.toRowW d [] (fun f vs => PySem.call f vs) :=
  walk_ofGT (n := 63) (k := 9) (x := "script") (sp := fun K _ cT => sp_law K cT) hn (by decide) hdf ⟨rfl, by decide, by decide⟩ hY hrec F fun K cC cT H a ns hl hT hS => ⟨a, ns, rfl, hS, hl, hT, fun _ => rfl⟩
end Sb
open PySem PySem.W PyProof.Rows
set_option maxRecDepth 100000 in
set_option maxHeartbeats 0 in
theorem PySem.Challenge.cw_seenbefore_k06_watchers_edited_holds : PySem.Challenge.rw_seenbefore_k06_watchers_edited.Holds := by
  w_on; o_law; k_head; (case hw => w_witness2)
  k_fill
  refine Sb.walk (l := PySem.Challenge.rw_seenbefore_k06_watchers_edited) rfl rfl (fun w h Y => PySem.W.km_in_of Y) ?hrec ?F
  case hrec => first | kernel_rfl | rfl
  case F =>
    intro w mg fa h KX G hmg
    refine' Sb.all_mk KX G hmg ?a0 ?l0 ?c0 ?k0 ?a1 ?l1 ?c1 ?k1 ?a2 ?i2 ?l2 ?c2 ?k2 ?a3 ?i3 ?l3 ?c3 ?k3 ?a4 ?i4 ?l4 ?c4 ?k4 ?a5 ?i5 ?l5 ?c5 ?k5 ?a6 ?i6 ?l6 ?c6 ?k6 ?a7 ?i7 ?l7 ?c7 ?k7 ?a8 ?i8 ?l8 ?c8 ?k8 ?a9 ?i9 ?l9 ?c9 ?k9 ?a10 ?i10 ?l10 ?c10 ?k10 ?a11 ?i11 ?l11 ?c11 ?k11 ?a12 ?i12 ?l12 ?c12 ?k12 ?a13 ?l13 ?c13 ?k13 ?a14 ?l14 ?c14 ?k14 ?a15 ?l15 ?c15 ?k15 ?a16 ?l16 ?c16 ?k16 ?a17 ?l17 ?c17 ?k17 ?a18 ?l18 ?c18 ?k18 ?a19 ?l19 ?c19 ?k19 ?a20 ?l20 ?c20 ?k20 ?a21 ?l21 ?c21 ?k21 ?a22 ?l22 ?c22 ?k22 ?a23 ?l23 ?c23 ?k23 ?a24 ?l24 ?c24 ?k24 ?a25 ?l25 ?c25 ?k25 ?a26 ?l26 ?c26 ?k26 ?a27 ?l27 ?c27 ?k27 ?a28 ?l28 ?c28 ?k28 ?a29 ?l29 ?c29 ?k29 ?a30 ?l30 ?c30 ?k30 ?a31 ?l31 ?c31 ?k31 ?a32 ?l32 ?c32 ?k32 ?a33 ?l33 ?c33 ?k33 ?a34 ?l34 ?c34 ?k34 ?tf_Watcher_len ?wC_Watcher ?pg_Watcher ?hd_Watcher ?po_Watcher ?sa_Watcher ?mk_Watcher ?kc_Watcher ?nf_Watcherwords ?nf_Watcher_verdicts ?nf_Watcher_held ?nf_Watcher_rules ?eaC0 ?exL0 ?esa0 ?ega0 ?egg0 ?enb0 ?ea10 ?et10 ?el10 ?ec10 ?ekC0 ?eeC0 ?etC0 ?ehC0 ?eiC0 ?esC0 ?eaC1 ?exL1 ?esa1 ?ega1 ?egg1 ?enb1 ?ea11 ?et11 ?el11 ?ec11 ?ekC1 ?eeC1 ?etC1 ?ehC1 ?eiC1 ?esC1 ?eaC2 ?exL2 ?esa2 ?ega2 ?egg2 ?enb2 ?ea12 ?et12 ?el12 ?ec12 ?ekC2 ?eeC2 ?etC2 ?ehC2 ?eiC2 ?esC2 ?eaC3 ?exL3 ?esa3 ?ega3 ?egg3 ?enb3 ?ea13 ?et13 ?el13 ?ec13 ?ekC3 ?eeC3 ?etC3 ?ehC3 ?eiC3 ?esC3 ?eaC4 ?exL4 ?esa4 ?ega4 ?egg4 ?enb4 ?ea14 ?et14 ?el14 ?ec14 ?ekC4 ?eeC4 ?etC4 ?ehC4 ?eiC4 ?esC4 ?eaC5 ?exL5 ?esa5 ?ega5 ?egg5 ?enb5 ?ea15 ?et15 ?el15 ?ec15 ?ekC5 ?eeC5 ?etC5 ?ehC5 ?eiC5 ?esC5 ?eaC6 ?exL6 ?esa6 ?ega6 ?egg6 ?enb6 ?ea16 ?et16 ?el16 ?ec16 ?ekC6 ?eeC6 ?etC6 ?ehC6 ?eiC6 ?esC6 ?eaC7 ?exL7 ?esa7 ?ega7 ?egg7 ?enb7 ?ea17 ?et17 ?el17 ?ec17 ?ekC7 ?eeC7 ?etC7 ?ehC7 ?eiC7 ?esC7 ?ap_LimitExceeded_NotAVerdict ?ap_UnknownState_NotAVerdict ?ap_UnknownState_LimitExceeded ?ap_NotAWord_NotAVerdict ?ap_NotAWord_LimitExceeded ?ap_NotAWord_UnknownState ?ap_InvalidTest_NotAVerdict ?ap_InvalidTest_LimitExceeded ?ap_InvalidTest_UnknownState ?ap_InvalidTest_NotAWord ?ap_InvalidSources_NotAVerdict ?ap_InvalidSources_LimitExceeded ?ap_InvalidSources_UnknownState ?ap_InvalidSources_NotAWord ?ap_InvalidSources_InvalidTest ?ap_RuleExists_NotAVerdict ?ap_RuleExists_LimitExceeded ?ap_RuleExists_UnknownState ?ap_RuleExists_NotAWord ?ap_RuleExists_InvalidTest ?ap_RuleExists_InvalidSources ?ap_UnknownRule_NotAVerdict ?ap_UnknownRule_LimitExceeded ?ap_UnknownRule_UnknownState ?ap_UnknownRule_NotAWord ?ap_UnknownRule_InvalidTest ?ap_UnknownRule_InvalidSources ?ap_UnknownRule_RuleExists ?ka_MOST_WORDS ?ka_MOST_STATES ?ka_MOST_HELD ?ka_MOST_VERDICT ?ka_NEW ?ka_VALUE ?z0 ?z1 ?z2 ?z3 ?z4 ?z5 ?z6 ?z7 ?z8 ?z9 ?z10 ?z11 ?lcC ?vT ?nT
    case wC_Watcher => k_is
    case a0 => k_is
    case l0 => k_is
    case c0 => k_is
    case k0 => k_is
    case a1 => k_is
    case l1 => k_is
    case c1 => k_is
    case k1 => k_is
    case a2 => k_is
    case i2 => k_is
    case l2 => k_is
    case c2 => k_is
    case k2 => k_is
    case a3 => k_is
    case i3 => k_is
    case l3 => k_is
    case c3 => k_is
    case k3 => k_is
    case a4 => k_is
    case i4 => k_is
    case l4 => k_is
    case c4 => k_is
    case k4 => k_is
    case a5 => k_is
    case i5 => k_is
    case l5 => k_is
    case c5 => k_is
    case k5 => k_is
    case a6 => k_is
    case i6 => k_is
    case l6 => k_is
    case c6 => k_is
    case k6 => k_is
    case a7 => k_is
    case i7 => k_is
    case l7 => k_is
    case c7 => k_is
    case k7 => k_is
    case a8 => k_is
    case i8 => k_is
    case l8 => k_is
    case c8 => k_is
    case k8 => k_is
    case a9 => k_is
    case i9 => k_is
    case l9 => k_is
    case c9 => k_is
    case k9 => k_is
    case a10 => k_is
    case i10 => k_is
    case l10 => k_is
    case c10 => k_is
    case k10 => k_is
    case a11 => k_is
    case i11 => k_is
    case l11 => k_is
    case c11 => k_is
    case k11 => k_is
    case a12 => k_is
    case i12 => k_is
    case l12 => k_is
    case c12 => k_is
    case k12 => k_is
    case a13 => k_is
    case l13 => k_is
    case c13 => k_is
    case k13 => k_is
    case a14 => k_is
    case l14 => k_is
    case c14 => k_is
    case k14 => k_is
    case a15 => k_is
    case l15 => k_is
    case c15 => k_is
    case k15 => k_is
    case a16 => k_is
    case l16 => k_is
    case c16 => k_is
    case k16 => k_is
    case a17 => k_is
    case l17 => k_is
    case c17 => k_is
    case k17 => k_is
    case a18 => k_is
    case l18 => k_is
    case c18 => k_is
    case k18 => k_is
    case a19 => k_is
    case l19 => k_is
    case c19 => k_is
    case k19 => k_is
    case a20 => k_is
    case l20 => k_is
    case c20 => k_is
    case k20 => k_is
    case a21 => k_is
    case l21 => k_is
    case c21 => k_is
    case k21 => k_is
    case a22 => k_is
    case l22 => k_is
    case c22 => k_is
    case k22 => k_is
    case a23 => k_is
    case l23 => k_is
    case c23 => k_is
    case k23 => k_is
    case a24 => k_is
    case l24 => k_is
    case c24 => k_is
    case k24 => k_is
    case a25 => k_is
    case l25 => k_is
    case c25 => k_is
    case k25 => k_is
    case a26 => k_is
    case l26 => k_is
    case c26 => k_is
    case k26 => k_is
    case a27 => k_is
    case l27 => k_is
    case c27 => k_is
    case k27 => k_is
    case a28 => k_is
    case l28 => k_is
    case c28 => k_is
    case k28 => k_is
    case a29 => k_is
    case l29 => k_is
    case c29 => k_is
    case k29 => k_is
    case a30 => k_is
    case l30 => k_is
    case c30 => k_is
    case k30 => k_is
    case a31 => k_is
    case l31 => k_is
    case c31 => k_is
    case k31 => k_is
    case a32 => k_is
    case l32 => k_is
    case c32 => k_is
    case k32 => k_is
    case a33 => k_is
    case l33 => k_is
    case c33 => k_is
    case k33 => k_is
    case a34 => k_is
    case l34 => k_is
    case c34 => k_is
    case k34 => k_is
    case tf_Watcher_len => k_is
    case pg_Watcher => k_is
    case hd_Watcher => k_is
    case po_Watcher => k_is
    case sa_Watcher => k_is
    case mk_Watcher => k_is
    case kc_Watcher => k_is
    case nf_Watcherwords => k_is
    case nf_Watcher_verdicts => k_is
    case nf_Watcher_held => k_is
    case nf_Watcher_rules => k_is
    case eaC0 => k_is
    case exL0 => k_is
    case esa0 => k_is
    case ega0 => k_is
    case egg0 => k_is
    case enb0 => k_is
    case ea10 => k_is
    case et10 => k_is
    case el10 => k_is
    case ec10 => k_is
    case ekC0 => k_is
    case eeC0 => k_is
    case etC0 => k_is
    case ehC0 => k_is
    case eiC0 => k_is
    case esC0 => first | rfl | k_is
    case eaC1 => k_is
    case exL1 => k_is
    case esa1 => k_is
    case ega1 => k_is
    case egg1 => k_is
    case enb1 => k_is
    case ea11 => k_is
    case et11 => k_is
    case el11 => k_is
    case ec11 => k_is
    case ekC1 => k_is
    case eeC1 => k_is
    case etC1 => k_is
    case ehC1 => k_is
    case eiC1 => k_is
    case esC1 => first | rfl | k_is
    case eaC2 => k_is
    case exL2 => k_is
    case esa2 => k_is
    case ega2 => k_is
    case egg2 => k_is
    case enb2 => k_is
    case ea12 => k_is
    case et12 => k_is
    case el12 => k_is
    case ec12 => k_is
    case ekC2 => k_is
    case eeC2 => k_is
    case etC2 => k_is
    case ehC2 => k_is
    case eiC2 => k_is
    case esC2 => first | rfl | k_is
    case eaC3 => k_is
    case exL3 => k_is
    case esa3 => k_is
    case ega3 => k_is
    case egg3 => k_is
    case enb3 => k_is
    case ea13 => k_is
    case et13 => k_is
    case el13 => k_is
    case ec13 => k_is
    case ekC3 => k_is
    case eeC3 => k_is
    case etC3 => k_is
    case ehC3 => k_is
    case eiC3 => k_is
    case esC3 => first | rfl | k_is
    case eaC4 => k_is
    case exL4 => k_is
    case esa4 => k_is
    case ega4 => k_is
    case egg4 => k_is
    case enb4 => k_is
    case ea14 => k_is
    case et14 => k_is
    case el14 => k_is
    case ec14 => k_is
    case ekC4 => k_is
    case eeC4 => k_is
    case etC4 => k_is
    case ehC4 => k_is
    case eiC4 => k_is
    case esC4 => first | rfl | k_is
    case eaC5 => k_is
    case exL5 => k_is
    case esa5 => k_is
    case ega5 => k_is
    case egg5 => k_is
    case enb5 => k_is
    case ea15 => k_is
    case et15 => k_is
    case el15 => k_is
    case ec15 => k_is
    case ekC5 => k_is
    case eeC5 => k_is
    case etC5 => k_is
    case ehC5 => k_is
    case eiC5 => k_is
    case esC5 => first | rfl | k_is
    case eaC6 => k_is
    case exL6 => k_is
    case esa6 => k_is
    case ega6 => k_is
    case egg6 => k_is
    case enb6 => k_is
    case ea16 => k_is
    case et16 => k_is
    case el16 => k_is
    case ec16 => k_is
    case ekC6 => k_is
    case eeC6 => k_is
    case etC6 => k_is
    case ehC6 => k_is
    case eiC6 => k_is
    case esC6 => first | rfl | k_is
    case eaC7 => k_is
    case exL7 => k_is
    case esa7 => k_is
    case ega7 => k_is
    case egg7 => k_is
    case enb7 => k_is
    case ea17 => k_is
    case et17 => k_is
    case el17 => k_is
    case ec17 => k_is
    case ekC7 => k_is
    case eeC7 => k_is
    case etC7 => k_is
    case ehC7 => k_is
    case eiC7 => k_is
    case esC7 => first | rfl | k_is
    case ap_LimitExceeded_NotAVerdict => first | rfl | k_is
    case ap_UnknownState_NotAVerdict => first | rfl | k_is
    case ap_UnknownState_LimitExceeded => first | rfl | k_is
    case ap_NotAWord_NotAVerdict => first | rfl | k_is
    case ap_NotAWord_LimitExceeded => first | rfl | k_is
    case ap_NotAWord_UnknownState => first | rfl | k_is
    case ap_InvalidTest_NotAVerdict => first | rfl | k_is
    case ap_InvalidTest_LimitExceeded => first | rfl | k_is
    case ap_InvalidTest_UnknownState => first | rfl | k_is
    case ap_InvalidTest_NotAWord => first | rfl | k_is
    case ap_InvalidSources_NotAVerdict => first | rfl | k_is
    case ap_InvalidSources_LimitExceeded => first | rfl | k_is
    case ap_InvalidSources_UnknownState => first | rfl | k_is
    case ap_InvalidSources_NotAWord => first | rfl | k_is
    case ap_InvalidSources_InvalidTest => first | rfl | k_is
    case ap_RuleExists_NotAVerdict => first | rfl | k_is
    case ap_RuleExists_LimitExceeded => first | rfl | k_is
    case ap_RuleExists_UnknownState => first | rfl | k_is
    case ap_RuleExists_NotAWord => first | rfl | k_is
    case ap_RuleExists_InvalidTest => first | rfl | k_is
    case ap_RuleExists_InvalidSources => first | rfl | k_is
    case ap_UnknownRule_NotAVerdict => first | rfl | k_is
    case ap_UnknownRule_LimitExceeded => first | rfl | k_is
    case ap_UnknownRule_UnknownState => first | rfl | k_is
    case ap_UnknownRule_NotAWord => first | rfl | k_is
    case ap_UnknownRule_InvalidTest => first | rfl | k_is
    case ap_UnknownRule_InvalidSources => first | rfl | k_is
    case ap_UnknownRule_RuleExists => first | rfl | k_is
    case ka_MOST_WORDS => k_is
    case ka_MOST_STATES => k_is
    case ka_MOST_HELD => k_is
    case ka_MOST_VERDICT => k_is
    case ka_NEW => k_is
    case ka_VALUE => k_is
    case z0 => k_is
    case z1 => k_is
    case z2 => k_is
    case z3 => k_is
    case z4 => k_is
    case z5 => k_is
    case z6 => k_is
    case z7 => k_is
    case z8 => k_is
    case z9 => k_is
    case z10 => k_is
    case z11 => k_is
    case lcC => k_is
    case vT => rfl
    case nT => first | kernel_rfl | rfl
