import PyProof.Rows.All
import Wide.All
import OpenK.AllK
import Wide.FinOn
import HandS.ForMost
import HandS.ExcOwn
import HandS.EndBits
import HandS.Codes
import HandS.Wide
import HandS.TupAny
import HandS.ForExc
import HandS.IsInst
import HandS.Strs
import HandS.SetKeys
import HandS.TupMul
import HandS.TryMany
import HandS.DictComp
import HandS.Conv
import HandS.SortKw
import KE.KExcInit
import KE.SortKeyHeap
import KE.KDictSum
import PyProof.NeData
import PyProof.EqKinds
import OpenK.KMake
import HandS.TupLen
import HandS.Walk
import HandS.Iter
import HandS.StrMore
import KE.IntTextLaws
import HandS.WrittenGet
import HandS.FStr
import PyProof.StrBlock2
import PySem.Challenge.RW_seenbefore_k77_streams_written_and_read
set_option Elab.async false
set_option linter.all false
set_option maxRecDepth 100000
set_option maxHeartbeats 4000000

/-! Promises of defs where no repr is under way (guards = []): so the repr of made data is known to the sign. -/
namespace Sb
open PySem PySem.Spec PyProof.Rows L2
/-- as FnOk, for calls around which no repr is under way -/
structure FnG (P : Program) (w : World) (K : PySem.W.Frag) (mg : Str → Option Value) (base : Heap) (CX : CXT) (k : Nat) (f : Addr)
    (fd : FuncData) (ps : List Str) (sp : Sp) : Prop where
  len : ∀ vs H Q E, sp vs H Q E → vs.length = ps.length
  run : ∀ (A : Around) (outer : List Env) (s : Shared) (H : Hp) (args : Args) (us : List Value) (vs : List V) (Q : VK) (E : XK),
    A.guards = some [] → Room k A → Env0 P w K mg base A outer s H → BindsTo s fd args (ps.zip us) → Vals vs us → sp vs H Q E →
    codeAny (model P w) A (.call (.ref f) args) (CR CX outer P w H s Q E) s
section
variable {P : Program} {w : World} {K : PySem.W.Frag} {mg : Str → Option Value} {base : Heap} {CX : CXT} {k : Nat} {f : Addr}
theorem FnG.mono {j : Nat} {fd : FuncData} {ps : List Str} {sp : Sp} (F : FnG P w K mg base CX j f fd ps sp) (h : j ≤ k) : FnG P w K mg base CX k f fd ps sp :=
  { len := F.len, run := fun A o s H a us vs Q E g r => F.run A o s H a us vs Q E g (r.mono h) }
theorem FnG.imp {fd : FuncData} {ps : List Str} {sp sp' : Sp} (F : FnG P w K mg base CX k f fd ps sp) (h : ∀ vs H Q E, sp' vs H Q E → sp vs H Q E) :
    FnG P w K mg base CX k f fd ps sp' :=
  { len := fun vs H Q E z => F.len vs H Q E (h _ _ _ _ z), run := fun A o s H a us vs Q E g r e b v z => F.run A o s H a us vs Q E g r e b v (h _ _ _ _ z) }
theorem FnG.of {fd : FuncData} {ps : List Str} {sp : Sp} (F : FnOk P w K mg base CX k f fd ps sp) : FnG P w K mg base CX k f fd ps sp :=
  { len := F.len, run := fun A o s H a us vs Q E _ r => F.run A o s H a us vs Q E r }
/-- from a body to its def -/
theorem fnG_body {name qual : Str} {params : Arguments} {body : List Stmt} {sc : Scope} {dV kV doc pm cdv ct oc : Value} {an od : Option Addr} {osl : Array (Option Value)} {N ps : List Str} {sp : Sp}
    (lk : K.lookup f = some ⟨oc, od, .func (PySem.W.fnOf name qual params body sc dV kV doc pm an cdv ct), osl⟩) (hcd : PySem.W.codeIn K cdv qual = true) (S : FnScope N ps sc)
    (len : ∀ vs H Q E, sp vs H Q E → vs.length = ps.length)
    (walk : ∀ (A : Around) (outer : List Env) (s : Shared) (H : Hp) (vs : List V) (Q : VK) (E : XK), A.guards = some [] →
      Room k (A.deeper (envOfC qual sc s.heap.objs.size f cdv)) → sp vs H Q E →
      ∃ t, PSs (cxOf CX P w K mg base N qual sc f cdv A outer s H E) body t ∧ t { nx := fun _ H' => Q .non H', rt := Q } (start N vs) H) :
    FnG P w K mg base CX (k + 1) f (PySem.W.fnOf name qual params body sc dV kV doc pm an cdv ct) ps sp := by
  constructor
  · exact len
  intro A outer s H args us vs Q E gd room e0 bd rv want
  have inK : K.In s.heap := e0.mod.kin.keeps fun b o q => (e0.bs b o q).1
  have noLim : s.heap.NoLimit := e0.mod.nolimit.keeps fun b o q => (e0.bs b o q).1
  have kinds : ∀ y ∈ ps.zip us, sc.names.lookup y.1 = some .local ∨
      (sc.names.lookup y.1 = some .cell ∧ ((cellsFrom (s.heap.objs.size + 1) sc.names []).lookup y.1).isSome = true) := by
    rintro ⟨n, v⟩ hy
    cases S.par n (List.of_mem_zip hy).1 with
    | inl q => exact Or.inl q
    | inr q => exact Or.inr ⟨q, PySem.W.cellsFrom_some _ _ _ (Or.inl q)⟩
  apply codeAny_call_function room.depth (inK _ _ lk) rfl S.co S.gen rfl (PySem.W.codeRec_of inK hcd)
  apply bd
  apply wpAny_newFunctionEnv_cells S.kind kinds
  intro env he s1 x
  subst he
  refine ⟨noLim.keeps x.toInCall.keep, ?_⟩
  apply codeAny_func
  obtain ⟨t, ht, hq⟩ := walk A outer s H vs Q E gd (room.deeper _) want
  have I := inv_start (CX := CX) (E := E) S room.hd e0 (len _ _ _ _ want) rv x
  refine wpAny_mono (ht.run [] s1 (start N vs) H _ I hq) (fun fl s' hs => ?_) (fun _ _ hs => hs)
  match fl, hs with
  | .ret u, ⟨v, σ', H', J, r', q⟩ => exact ⟨v, H', J.os, J.bare, J.base, J.hok, r', q⟩
  | .next, ⟨σ', H', J, q⟩ => exact ⟨V.non, H', J.os, J.bare, J.base, J.hok, rfl, q⟩
  | .brk, ⟨_, _, _, q⟩ => exact q.elim
  | .cont, ⟨_, _, _, q⟩ => exact q.elim
/-- a def of the text; its walk may use that no repr is under way -/
theorem okG {x qual : Str} {st : Stmt} {fd : FuncData} {N ps : List Str} {sp : Sp} (F : Fun K x qual st f fd) (S : FnScope N ps (defScope st)) (len : ∀ vs H Q E, sp vs H Q E → vs.length = ps.length)
    (walk : ∀ (cdv : Value) (A : Around) (outer : List Env) (s : Shared) (H : Hp) (vs : List V) (Q : VK) (E : XK), A.guards = some [] →
      Room k (A.deeper (envOfC qual (defScope st) s.heap.objs.size f cdv)) → sp vs H Q E →
      ∃ t, PSs (cxOf CX0 P w K mg base N qual (defScope st) f cdv A outer s H E).nox (defBody st) t ∧ t { nx := fun _ H' => Q .non H', rt := Q } (start N vs) H) :
    FnG P w K mg base CX0 (k + 1) f fd ps sp := by
  obtain ⟨oc, od, kV, doc, pm, an, cdv, ct, osl, e, lk, hcd⟩ := F.ex
  subst e
  apply fnG_body lk hcd S len
  intro A outer s H vs Q E gd room want
  obtain ⟨t, h, q⟩ := walk cdv A outer s H vs Q E gd room want
  exact ⟨t, h.nox, q⟩
/-- the same for a def that may raise -/
theorem okGX {x qual : Str} {st : Stmt} {fd : FuncData} {N ps : List Str} {sp : Sp} (F : Fun K x qual st f fd) (S : FnScope N ps (defScope st)) (len : ∀ vs H Q E, sp vs H Q E → vs.length = ps.length)
    (walk : ∀ (cdv : Value) (A : Around) (outer : List Env) (s : Shared) (H : Hp) (vs : List V) (Q : VK) (E : XK), A.guards = some [] →
      Room k (A.deeper (envOfC qual (defScope st) s.heap.objs.size f cdv)) → sp vs H Q E →
      ∃ t, PSs (cxOf (L2.CX P w) P w K mg base N qual (defScope st) f cdv A outer s H E) (defBody st) t ∧ t { nx := fun _ H' => Q .non H', rt := Q } (start N vs) H) :
    FnG P w K mg base (L2.CX P w) (k + 1) f fd ps sp := by
  obtain ⟨oc, od, kV, doc, pm, an, cdv, ct, osl, e, lk, hcd⟩ := F.ex
  subst e
  exact fnG_body lk hcd S len fun A outer s H vs Q E gd room want => walk cdv A outer s H vs Q E gd room want
end

section
variable {X : Cx} {CX : CXT} {k : Nat} {f C : Addr} {fd : FuncData} {ps : List Str} {sp : Sp} {dvs : List V} {ds : List Value} {x m : Str} {p pos apos : Pos} {e o : Expr} {es : List Expr} {ta : TE} {t : TA}
/-- the callee runs; E hangs on the slots -/
theorem runG {pins : List (Addr × Obj)} {σ : L2.St} {H : Hp} {s : Shared} {Q : VK} {E : XK} {us : List Value} {vs : List V} (F : FnG X.prog X.w X.K X.mg X.base CX k f fd ps sp) (gd : X.A.guards = some []) (hr : Room k X.A)
    (hb : Binds X.K fd ps ds) (hd : Vals dvs ds) (hx : ∀ (e : Value) (s' : Shared), CX X.stack H s E e s' → X.xe e s') (I : Inv X pins σ H s) (r : Vals vs us) (h : sp (vs ++ dvs) H Q E) :
    wpAny (model X.prog X.w) X.A (call (.ref f) us) (EP X pins σ Q) X.xe s := by
  have rr := r.append hd
  have nl : (us ++ ds).length = ps.length := rr.length ▸ F.len _ _ _ _ h
  apply wpAny_call
  refine codeAny_mono (F.run X.A X.stack s H ⟨us, []⟩ _ _ Q E gd hr I.env0 (hb s us I.kIn nl) rr h) ?_
  intro res s' hres
  match res, hres with
  | .error er, z => exact hx er s' z
  | .ok (.ret u), z => exact I.after z
  | .ok .next, z => exact z.elim
  | .ok .brk, z => exact z.elim
  | .ok .cont, z => exact z.elim
/-- f(e, ..) -/
theorem pe_callG {E : XK} (F : FnG X.prog X.w X.K X.mg X.base CX k f fd ps sp) (gd : X.A.guards = some []) (hr : Room k X.A) (hg : Gl X x) (hm : X.mg x = some (.ref f)) (hk : PySem.W.keepIn X.K (.ref f) = true)
    (hb : Binds X.K fd ps ds) (hd : Vals dvs ds) (hx : Passes CX X E) (ha : PA X (e :: es) t) (hdb : (x == ("__debug__" : Str)) = false := by decide)
    (he : starEach (e :: es) X.env = (false, eval e X.env) :: starEach es X.env := by rfl)
    (hpl : (backTo pos (starEach es X.env)).any (·.1) = false := by rfl) : PE X (.Call (.Name x p) (e :: es) [] pos) (tCall sp dvs E t) := by
  constructor
  intro pins s σ H Q I h
  apply wpAny_Call_Name_kw
  apply ld_glob I hg hm _ hdb
  apply PySem.W.callWith_K (h₀ := X.base) I.ok.mod.kin hk _ he hpl
  refine thn (ha.run pos pins s σ H _ I h) ?_
  rintro us s1 ⟨vs, H1, I1, r, q⟩
  exact ⟨I1.kIn, runG F gd hr hb hd (fun er s' z => hx pins σ H1 s1 er s' I1 z) I1 r q⟩
/-- f(e, ..), what is raised wished for at the slots -/
theorem pe_callGS {E : L2.St → XK} (F : FnG X.prog X.w X.K X.mg X.base CX k f fd ps sp) (gd : X.A.guards = some []) (hr : Room k X.A) (hg : Gl X x) (hm : X.mg x = some (.ref f)) (hk : PySem.W.keepIn X.K (.ref f) = true)
    (hb : Binds X.K fd ps []) (hx : ∀ σ, PassesAt CX X σ (E σ)) (ha : PA X (e :: es) t) (hdb : (x == ("__debug__" : Str)) = false := by decide)
    (he : starEach (e :: es) X.env = (false, eval e X.env) :: starEach es X.env := by rfl)
    (hpl : (backTo pos (starEach es X.env)).any (·.1) = false := by rfl) : PE X (.Call (.Name x p) (e :: es) [] pos) (tCallS sp E t) := by
  constructor
  intro pins s σ H Q I h
  apply wpAny_Call_Name_kw
  apply ld_glob I hg hm _ hdb
  apply PySem.W.callWith_K (h₀ := X.base) I.ok.mod.kin hk _ he hpl
  refine thn (ha.run pos pins s σ H _ I h) ?_
  rintro us s1 ⟨vs, H1, I1, r, q⟩
  have q' : sp (vs ++ []) H1 Q (E σ) := by rw [List.append_nil]; exact q
  exact ⟨I1.kIn, runG F gd hr hb .nil (fun er s' z => hx σ pins H1 s1 er s' I1 z) I1 r q'⟩
/-- repr of data -/
theorem call_reprD (gd : X.A.guards = some []) (hu : X.A.units + 64 < cLine) : CallR X (.builtin "repr") (fun xs H Q => ∃ v d, xs = [v] ∧ Dp X.K H v d ∧ d.showable = true ∧ d.hasDict = false ∧ d.depth ≤ 60 ∧ d.shown.length ≤ sizeLine ∧ Q (.str d.shown) H) := by
  rintro pins s σ H xs us Q I r ⟨v, d, rfl, hd, hs, hnd, hdp, hz, q⟩
  obtain ⟨u, rfl, ru⟩ := vals1 r
  obtain ⟨as, rd⟩ := Dp.reads I d v u hd ru
  cases v with
  | ref a =>
    obtain rfl : u = Value.ref a := ru
    refine repr_of_reads' rd hs (PyData.noDict_hsm hnd) gd (by omega) (fun _ _ z => z) (fun h' u' tk hk => ?_) hz
    exact ⟨.str d.shown, H, I.kept (fun b o z => hk b o z), ⟨_, rfl⟩, q⟩
  | non =>
    cases hd
    obtain rfl : u = Value.none := ru
    exact PySem.P.repr_of_none ⟨.str _, H, I.tok _, ⟨_, rfl⟩, q⟩
  | bl b =>
    cases hd
    obtain rfl : u = Value.bool b := ru
    exact PySem.P.repr_of_bool ⟨.str _, H, I.tok _, ⟨_, rfl⟩, q⟩
  | int i =>
    cases hd
    obtain ⟨tk, rfl⟩ := ru
    have hi : i.natAbs.log2 < 1920 := by simpa [PyData.showable] using hs
    exact PySem.P.repr_of_int hi ⟨.str _, H, I.tok _, ⟨_, rfl⟩, q⟩
  | str z =>
    cases hd
    obtain ⟨tk, rfl⟩ := ru
    exact PySem.P.repr_of_str (hsz := by simpa only [PyData.shown] using hz) ⟨.str _, H, I.tok _, ⟨_, rfl⟩, q⟩
  | byt b => cases hd
  | flt b => cases hd
  | ty n => cases hd
end
end Sb

namespace Sb
open PySem PySem.Spec PyProof.Rows L2
section
variable {P : Program} {w : World} {K : PySem.W.Frag} {mg mb : Str → Option Value} {k : Nat} {fa a : Addr} {fd : FuncData} {x : Str} {sp : Sp} {s1 : Shared} {vs : List Value} {ns : List Int}
/-- what the row asks of the law's call -/
abbrev Done (P : Program) (w : World) (fa a : Addr) (s1 : Shared) : Prop := codeAny (model P w) callerA (.call (.ref fa) ⟨[.ref a], []⟩)
  (fun r s' => r = .ok (.ret (.bool true)) ∧ OldK s1.heap s'.heap ∧ s'.os = s1.os ∧ AllBare s'.gens) s1
/-- the law's call over an abstract heap that tracks the script at most -/
theorem overH {H : Hp} (KX : K.In s1.heap) (hns : s1.heap.Ns mainGlobals mg) (hb : s1.heap.Ns builtinsNs mb) (hbb : ∀ x : Str, x ≠ "__name__" → mb x = bootBuiltins x) (hlim : s1.heap.NoLimit) (hg : s1.gens = #[])
    (ha : s1.heap.get? a = some { cls := .type "list", data := .seq vs.toArray }) (hr : Room k callerA)
    (F : ∀ base : Heap, K.In base → base.Ns mainGlobals mg → FnG P w K mg base CX0 k fa fd [x] sp) (bd : ∀ (s : Shared) (u : Value), BindsTo s fd ⟨[u], []⟩ [(x, u)])
    (hO : Only H) (ok : HOk P w H s1.heap) (onlyA : ∀ b, H b ≠ none → b = a) (notK : H a ≠ none → K.lookup a = none)
    (want : sp [.ref a] H (fun v _ => v = .bl true) fun _ _ _ => False) : Done P w fa a s1 := by
  have free : ∀ {b : Addr} {o : Obj}, s1.heap.get? b = some o → (b = a → H b = none) → H b = none := by
    intro b o _ z
    cases q : H b with
    | none => rfl
    | some u =>
      have e : b = a := onlyA b (by simp [q])
      rw [z e] at q
      cases q
  have dict : ∀ {b : Addr} {o : Obj} {es : Array DictEntry} {ep : Nat}, s1.heap.get? b = some o → o.data = .dict es ep → H b = none := by
    intro b o es ep e d
    apply free e
    intro z
    subst z
    rw [ha] at e
    cases e
    cases (show Data.seq vs.toArray _ = Data.dict es ep from d)
  have spaces : ∀ {b : Addr} {m : Str → Option Value}, s1.heap.Ns b m → (hidT s1.heap H).Ns b m := by
    rintro b m ⟨o, es, ep, e, d, r⟩
    exact ⟨o, es, ep, hidT_get e (dict e d), d, r⟩
  have inB : K.In (hidT s1.heap H) := by
    intro b o e
    refine hidT_get (KX b o e) (free (KX b o e) fun z => ?_)
    subst z
    cases q : H b with
    | none => rfl
    | some u =>
      rw [notK (by simp [q])] at e
      cases e
  obtain ⟨mc, c1, c2⟩ := hlim
  have md : Mod K mg (hidT s1.heap H) := ⟨inB, spaces hns, ⟨mb, spaces hb, hbb⟩, ⟨mc, spaces c1, c2⟩⟩
  have e0 : Env0 P w K mg (hidT s1.heap H) callerA [] s1 H :=
    { frames := rfl, mod := md, bs := fun b o e => of_hidT e, bsz := Nat.le_of_eq (hidT_size _ _), funs := trivial, frf := (fun b z => (by cases z)), hok := ok, bare := .of_eq hg }
  have run := (F _ inB (spaces hns)).run callerA [] s1 H ⟨[.ref a], []⟩ [.ref a] [.ref a] _ _ rfl hr e0 (bd s1 (.ref a)) (.cons rfl .nil) want
  refine codeAny_mono run ?_
  intro r s' z
  match r, z with
  | .error e, z =>
    exact False.elim z
  | .ok .next, z => exact False.elim z
  | .ok .brk, z => exact False.elim z
  | .ok .cont, z => exact False.elim z
  | .ok (.ret u), ⟨v, H', os, bare, un, ok', rel, q⟩ =>
    subst q
    obtain rfl : u = Value.bool true := rel
    refine ⟨rfl, OldK.of_keep ?_, os, bare⟩
    intro b o e
    cases q : H b with
    | none => exact un.keep b o e q (fun z => by cases z) (fun z => by cases z)
    | some u =>
      cases hO b with
      | inl z =>
        rw [q] at z
        cases z
      | inr z =>
        obtain ⟨ob, xs, z⟩ := z
        have e1 := (ok b _ z).1
        have e2 := (ok' b _ (un.frzs b ob _ z)).1
        rw [e] at e1
        cases e1
        exact e2
/-- the law's call -/
theorem law_callG (KX : K.In s1.heap) (hns : s1.heap.Ns mainGlobals mg) (hb : s1.heap.Ns builtinsNs mb) (hbb : ∀ x : Str, x ≠ "__name__" → mb x = bootBuiltins x) (hlim : s1.heap.NoLimit) (hg : s1.gens = #[])
    (ha : s1.heap.get? a = some { cls := .type "list", data := .seq vs.toArray }) (hi : IntsAre vs ns) (hl : ns.length ≤ sizeLine) (hr : Room k callerA)
    (F : ∀ base : Heap, K.In base → base.Ns mainGlobals mg → FnG P w K mg base CX0 k fa fd [x] sp) (bd : ∀ (s : Shared) (u : Value), BindsTo s fd ⟨[u], []⟩ [(x, u)])
    (want : ∀ H : Hp, Only H → SqL K H a (ns.map V.int) → sp [.ref a] H (fun v _ => v = .bl true) fun _ _ _ => False) : Done P w fa a s1 := by
  have rv := vals_ints hi
  have nv := hi.length
  by_cases hk : K.lookup a = none
  · let H : Hp := fun b => if b = a then some (.frz { cls := .type "list", data := .seq vs.toArray } (.lst (ns.map V.int))) else none
    have at_a : H a = some (.frz { cls := .type "list", data := .seq vs.toArray } (.lst (ns.map V.int))) := if_pos rfl
    have off : ∀ b, b ≠ a → H b = none := fun b z => if_neg z
    have hO : Only H := by
      intro b
      by_cases e : b = a
      · subst e
        exact Or.inr ⟨_, _, at_a⟩
      · exact Or.inl (off b e)
    refine overH (H := H) KX hns hb hbb hlim hg ha hr F bd hO ?_ ?_ (fun _ => hk) (want H hO (Or.inl (Or.inr ⟨_, at_a⟩)))
    · intro b u z
      by_cases e : b = a
      · subst e
        rw [at_a] at z
        cases z
        exact ⟨ha, by rw [List.length_map]; exact hl, vs, _, rv, ha⟩
      · rw [off b e] at z
        cases z
    · intro b z
      by_cases e : b = a
      · exact e
      · exact absurd (off b e) z
  · cases q : K.lookup a with
    | none => exact absurd q hk
    | some o =>
      have e := KX a o q
      rw [ha] at e
      cases e
      have hO : Only fun _ => none := fun _ => Or.inl rfl
      refine overH (H := fun _ => none) KX hns hb hbb hlim hg ha hr F bd hO (fun b u z => by cases z) (fun b z => absurd rfl z) (fun z => absurd rfl z) (want _ hO (Or.inr ?_))
      exact ⟨_, vs.toArray, _, q, rfl, rfl, rfl, by rw [List.size_toArray, nv]; exact hl, by simpa using rv⟩
end
/-- the row's end, from the law's promise -/
theorem walk_ofG {l : PySem.W.OpenLaw} {n k : Nat} {q : Program} {loose : List Str} {XP : (Str → Option Value) → Heap → Prop} {YP : World → Heap → Prop} {d : DefRec} {K : Params → PySem.W.Frag} {sp : PySem.W.Frag → Sp} {x : Str}
    (hn : l.most = some n) (hn2 : n ≤ sizeLine) (hdf : d.params.defaults = []) (hr : Room k callerA) (hY : ∀ (w : World) (h : Heap), YP w h → (K w.params).In h)
    (F : ∀ (w : World) (mg : Str → Option Value) (fa : Addr) (h : Heap), (K w.params).In h → h.Ns mainGlobals mg → mg d.name = some (.ref fa) →
      ∃ fd : FuncData, (∀ (s : Shared) (u : Value), BindsTo s fd ⟨[u], []⟩ [(x, u)]) ∧
        ∀ base : Heap, (K w.params).In base → base.Ns mainGlobals mg → FnG l.prog w (K w.params) mg base CX0 k fa fd [x] (sp (K w.params)))
    (want : ∀ (K : PySem.W.Frag) (H : Hp) (a : Addr) (ns : List Int), ns.length ≤ n → (∀ z ∈ ns, Builtin.Int.intBits z ≤ 1048576) → Only H → SqL K H a (ns.map V.int) →
      sp K [.ref a] H (fun v _ => v = .bl true) fun _ _ _ => False) : PySem.W.WalkO q loose XP YP l.row.toRowW d [] (fun f vs => PySem.call f vs) := by
  apply Att.attach_callB hn hdf
  intro w s0 s1 mg mb fa o pm cd doc a vs ns G Y ho hd hcd hmg hobj hints hlen hbits hg
  obtain ⟨fd, bd, hF⟩ := F w mg fa _ (hY w _ Y) G.T.g hmg
  exact law_callG (hY w _ Y) G.T.g G.T.b G.T.builtins G.T.nolimit hg hobj hints (Nat.le_trans hlen hn2) hr hF bd (fun H hO hS => want _ H a ns hlen hbits hO hS)
end Sb

/-! Data that is small enough to be shown and compared. -/
namespace Sb
open PySem PySem.Spec PyProof.Rows L2
structure Nice (n m : Nat) (d : PyData) : Prop where
  lay : d.canLay0 = true
  dep : d.depth ≤ n
  sho : d.showable = true
  nod : d.hasDict = false
  len : d.shown.length ≤ m
theorem Nice.mono {n m n' m' : Nat} {d : PyData} (h : Nice n m d) (hn : n ≤ n') (hm : m ≤ m') : Nice n' m' d :=
  { h with dep := Nat.le_trans h.dep hn, len := Nat.le_trans h.len hm }
theorem Nice.shaped {n m : Nat} {d : PyData} (h : Nice n m d) (hn : n ≤ 64) : SeqAt.shaped d = true := by
  unfold SeqAt.shaped
  rw [h.lay, decide_eq_true (Nat.le_trans h.dep hn)]
  rfl
theorem log_small {i : Int} (h : i.natAbs < 10 ^ 99) : i.natAbs.log2 < 400 :=
  PySem.Flt.log2_lt_of (by decide) (Nat.lt_of_lt_of_le h (by decide +kernel))
theorem Nice.int {i : Int} (h : i.natAbs < 10 ^ 99) : Nice 0 100 (.int i) := by
  refine ⟨rfl, Nat.le_refl _, ?_, rfl, ?_⟩
  · have := log_small h
    simp only [PyData.showable, decide_eq_true_eq]
    omega
  · have e := int_text_length_le10 (k := 99) (by decide) h
    show (Str.ofString (toString i)).length ≤ 100
    rw [PySem.ofString_length]
    exact e
theorem Nice.bool (b : Bool) : Nice 0 5 (.bool b) := by
  refine ⟨rfl, Nat.le_refl _, rfl, rfl, ?_⟩
  cases b <;> decide
theorem Nice.none : Nice 0 4 .none := ⟨rfl, Nat.le_refl _, rfl, rfl, by decide⟩
theorem niceAll {n m : Nat} : ∀ {ds : List PyData}, (∀ d ∈ ds, Nice n m d) → PyData.canLayAll0 ds = true ∧ PyData.depthAll ds ≤ n ∧ PyData.showableAll ds = true ∧ PyData.hasDictAll ds = false ∧
    ((PyData.shownAll ds).map (·.length)).sum ≤ ds.length * m ∧ (PyData.shownAll ds).length = ds.length
  | [], _ => ⟨rfl, Nat.zero_le _, rfl, rfl, by simp [PyData.shownAll], rfl⟩
  | d :: ds, h => by
    have hd := h d List.mem_cons_self
    obtain ⟨a, b, c, e, f, g⟩ := niceAll (ds := ds) fun x hx => h x (List.mem_cons_of_mem _ hx)
    refine ⟨?_, ?_, ?_, ?_, ?_, ?_⟩
    · simp only [PyData.canLayAll0, hd.lay, a, Bool.and_self]
    · simp only [PyData.depthAll]
      exact Nat.max_le.mpr ⟨hd.dep, b⟩
    · simp only [PyData.showableAll, hd.sho, c, Bool.and_self]
    · simp only [PyData.hasDictAll, hd.nod, e, Bool.or_self]
    · simp only [PyData.shownAll, List.map_cons, List.sum_cons, List.length_cons]
      have := hd.len
      rw [Nat.succ_mul]
      omega
    · simp only [PyData.shownAll, List.length_cons, g]
theorem Nice.tuple {n m k : Nat} {ds : List PyData} (h : ∀ d ∈ ds, Nice n m d) (hk : ds.length ≤ k) : Nice (n + 1) (k * m + 2 * k + 3) (.tuple ds) := by
  obtain ⟨a, b, c, e, f, g⟩ := niceAll h
  refine ⟨a, by simp only [PyData.depth]; omega, c, e, ?_⟩
  have l := tupleText_len_le (PyData.shownAll ds)
  simp only [PyData.shown]
  rw [g] at l
  have l2 : ds.length * m ≤ k * m := Nat.mul_le_mul_right _ hk
  omega
theorem Nice.list {n m k : Nat} {ds : List PyData} (h : ∀ d ∈ ds, Nice n m d) (hk : ds.length ≤ k) : Nice (n + 1) (k * m + 2 * k + 3) (.list ds) := by
  obtain ⟨a, b, c, e, f, g⟩ := niceAll h
  refine ⟨a, by simp only [PyData.depth]; omega, c, e, ?_⟩
  have l := listText_len_le (PyData.shownAll ds)
  simp only [PyData.shown]
  rw [g] at l
  have l2 : ds.length * m ≤ k * m := Nat.mul_le_mul_right _ hk
  omega
theorem shaped_ints (l : List Int) : SeqAt.shaped (.list (l.map PyData.int)) = true := by
  unfold SeqAt.shaped
  have h : PyData.canLayAll0 (l.map PyData.int) = true ∧ PyData.depthAll (l.map PyData.int) = 0 := by
    induction l with
    | nil => exact ⟨rfl, rfl⟩
    | cons x r ih => exact ⟨by simp only [List.map_cons, PyData.canLayAll0, PyData.canLay0, ih.1, Bool.and_self], by simp only [List.map_cons, PyData.depthAll, PyData.depth, ih.2, Nat.max_self]⟩
  simp only [PyData.canLay0, PyData.depth, h.1, h.2, Bool.true_and, decide_eq_true_eq]
  decide
theorem dp_ints (K : PySem.W.Frag) (H : Hp) : ∀ l : List Int, DpAll K H (l.map V.int) (l.map PyData.int)
  | [] => .nil
  | x :: r => .cons (.int x) (dp_ints K H r)
theorem eqv_ints : ∀ l m : List Int, PyData.eqvAll (l.map PyData.int) (m.map PyData.int) = decide (l = m)
  | [], [] => rfl
  | [], _ :: _ => rfl
  | _ :: _, [] => rfl
  | x :: r, y :: t => by
    simp only [List.map_cons, PyData.eqvAll, PyData.eqv, eqv_ints r t, List.cons.injEq]
    by_cases h : x = y <;> simp [h]
theorem div_wide {i j : Int} (h : 0 < j) (h2 : j < 2 ^ 100) : CDivW i j := wide_div (b := 100) h (by omega) (by decide) (by decide)
end Sb

/-! Data that never changes: scalars and tuples of them, at any depth. -/
namespace Sb
open PySem PySem.Spec PyProof.Rows L2
mutual
inductive TD (H : Hp) : V → PyData → Prop
  | non : TD H .non .none
  | bl (b : Bool) : TD H (.bl b) (.bool b)
  | int (i : Int) : TD H (.int i) (.int i)
  | str (x : Str) : TD H (.str x) (.str x)
  | tup {a : Addr} {xs : List V} {ds : List PyData} : H a = some (.tup xs) → TDs H xs ds → TD H (.ref a) (.tuple ds)
inductive TDs (H : Hp) : List V → List PyData → Prop
  | nil : TDs H [] []
  | cons {v : V} {vs : List V} {d : PyData} {ds : List PyData} : TD H v d → TDs H vs ds → TDs H (v :: vs) (d :: ds)
end
/-- tuples stay -/
def Tups (H H' : Hp) : Prop := ∀ a xs, H a = some (.tup xs) → H' a = some (.tup xs)
theorem Tups.refl {H : Hp} : Tups H H := fun _ _ h => h
theorem Tups.trans {H H1 H2 : Hp} (a : Tups H H1) (b : Tups H1 H2) : Tups H H2 := fun x y h => b x y (a x y h)
theorem Tups.same {H H' : Hp} (h : Same H H') : Tups H H' := fun a xs e => h a _ e
theorem Tups.new {H : Hp} {a : Addr} {o : HO} (h : H a = none) : Tups H (upd H a o) := fun b xs e => by
  rw [upd_ne (ne_of_none e h)]
  exact e
theorem Tups.put {H : Hp} {a : Addr} {o u : HO} (h : H a = some u) (hu : ∀ xs, u ≠ .tup xs) : Tups H (upd H a o) := fun b xs e => by
  rw [upd_ne (ne_of e h (hu xs).symm)]
  exact e
theorem Tups.lst {H : Hp} {a : Addr} {o : HO} {l : List V} (h : H a = some (.lst l)) : Tups H (upd H a o) := Tups.put h (fun _ z => by cases z)
mutual
theorem TD.mono {H H' : Hp} (t : Tups H H') : ∀ {v : V} (d : PyData), TD H v d → TD H' v d
  | _, .none, h => by cases h; exact .non
  | _, .bool b, h => by cases h; exact .bl b
  | _, .int i, h => by cases h; exact .int i
  | _, .str x, h => by cases h; exact .str x
  | _, .tuple ds, h => by
    cases h with
    | tup e r => exact .tup (t _ _ e) (TDs.mono t ds r)
  | _, .list _, h => by cases h
  | _, .dict _, h => by cases h
theorem TDs.mono {H H' : Hp} (t : Tups H H') : ∀ {vs : List V} (ds : List PyData), TDs H vs ds → TDs H' vs ds
  | _, [], h => by cases h; exact .nil
  | _, d :: ds, h => by
    cases h with
    | cons a r => exact .cons (TD.mono t d a) (TDs.mono t ds r)
end
mutual
theorem TD.dp {K : PySem.W.Frag} {H : Hp} : ∀ {v : V} (d : PyData), TD H v d → Dp K H v d
  | _, .none, h => by cases h; exact .non
  | _, .bool b, h => by cases h; exact .bl b
  | _, .int i, h => by cases h; exact .int i
  | _, .str x, h => by cases h; exact .str x
  | _, .tuple ds, h => by
    cases h with
    | tup e r => exact .tup (SqT.of e) (TDs.dp ds r)
  | _, .list _, h => by cases h
  | _, .dict _, h => by cases h
theorem TDs.dp {K : PySem.W.Frag} {H : Hp} : ∀ {vs : List V} (ds : List PyData), TDs H vs ds → DpAll K H vs ds
  | _, [], h => by cases h; exact .nil
  | _, d :: ds, h => by
    cases h with
    | cons a r => exact .cons (TD.dp d a) (TDs.dp ds r)
end
theorem TDs.length {H : Hp} : ∀ {vs : List V} {ds : List PyData}, TDs H vs ds → vs.length = ds.length
  | _, _, .nil => rfl
  | _, _, .cons _ r => congrArg (· + 1) r.length
theorem TDs.get {H : Hp} : ∀ {vs : List V} {ds : List PyData} {i : Nat} {v : V}, TDs H vs ds → vs[i]? = some v → ∃ d, ds[i]? = some d ∧ TD H v d
  | _, _, _, _, .nil, e => by simp at e
  | _, _, 0, _, .cons a _, e => by
    simp at e
    subst e
    exact ⟨_, rfl, a⟩
  | _, _, i + 1, v, .cons _ r, e => by
    obtain ⟨d, h1, h2⟩ := TDs.get (i := i) (v := v) r (by simpa using e)
    exact ⟨d, by simpa using h1, h2⟩
theorem TDs.at {H : Hp} : ∀ {vs : List V} {ds : List PyData} {i : Nat} {d : PyData}, TDs H vs ds → ds[i]? = some d → ∃ v, vs[i]? = some v ∧ TD H v d
  | _, _, _, _, .nil, e => by simp at e
  | _, _, 0, _, .cons a _, e => by
    simp at e
    subst e
    exact ⟨_, rfl, a⟩
  | _, _, i + 1, v, .cons _ r, e => by
    obtain ⟨d, h1, h2⟩ := TDs.at (i := i) (d := v) r (by simpa using e)
    exact ⟨d, by simpa using h1, h2⟩
theorem TDs.app {H : Hp} : ∀ {vs us : List V} {ds es : List PyData}, TDs H vs ds → TDs H us es → TDs H (vs ++ us) (ds ++ es)
  | _, _, _, _, .nil, s => s
  | _, _, _, _, .cons a r, s => .cons a (r.app s)
theorem TDs.take {H : Hp} : ∀ {vs : List V} {ds : List PyData} (n : Nat), TDs H vs ds → TDs H (vs.take n) (ds.take n)
  | _, _, 0, _ => .nil
  | _, _, _ + 1, .nil => .nil
  | _, _, n + 1, .cons a r => .cons a (r.take n)
theorem TDs.drop {H : Hp} : ∀ {vs : List V} {ds : List PyData} (n : Nat), TDs H vs ds → TDs H (vs.drop n) (ds.drop n)
  | _, _, 0, r => r
  | _, _, _ + 1, .nil => .nil
  | _, _, n + 1, .cons _ r => r.drop n
theorem TDs.ints {H : Hp} : ∀ {vs : List V} {ns : List Int}, TDs H vs (ns.map PyData.int) → vs = ns.map V.int
  | _, [], h => by cases h; rfl
  | _, n :: ns, h => by
    cases h with
    | cons a r =>
      cases a
      rw [List.map_cons, r.ints]
theorem TDs.ofInts {H : Hp} : ∀ {ns : List Int}, TDs H (ns.map V.int) (ns.map PyData.int)
  | [] => .nil
  | n :: ns => .cons (.int n) TDs.ofInts
/-- a tuple at v -/
theorem TD.isTup {H : Hp} {v : V} {ds : List PyData} (h : TD H v (.tuple ds)) : ∃ a xs, v = .ref a ∧ H a = some (.tup xs) ∧ TDs H xs ds := by
  cases h with
  | tup e r => exact ⟨_, _, rfl, e, r⟩
theorem TD.isInt {H : Hp} {v : V} {i : Int} (h : TD H v (.int i)) : v = .int i := by cases h; rfl
/-- a pair of ints -/
theorem TD.pair {H : Hp} {v : V} {i j : Int} (h : TD H v (.tuple [.int i, .int j])) : ∃ a, v = .ref a ∧ H a = some (.tup [.int i, .int j]) := by
  obtain ⟨a, xs, rfl, e, r⟩ := h.isTup
  cases r with
  | cons h1 r =>
    cases r with
    | cons h2 r =>
      cases r
      cases h1
      cases h2
      exact ⟨a, rfl, e⟩
theorem TD.ofPair {H : Hp} {a : Addr} {i j : Int} (h : H a = some (.tup [.int i, .int j])) : TD H (.ref a) (.tuple [.int i, .int j]) := .tup h (.cons (.int i) (.cons (.int j) .nil))

/-! ### streams -/
def msgD (m : Int × Int) : PyData := .tuple [.int m.1, .int m.2]
def strmD (ms : List (Int × Int)) : PyData := .tuple (ms.map msgD)
theorem msgD_inj {a b : Int × Int} (h : PyData.eqv (msgD a) (msgD b) = true) : a = b := by
  obtain ⟨a1, a2⟩ := a
  obtain ⟨b1, b2⟩ := b
  simp only [msgD, PyData.eqv, PyData.eqvAll, Bool.and_true, Bool.and_eq_true, beq_iff_eq] at h
  rw [h.1, h.2]
theorem eqv_msgs : ∀ a b : List (Int × Int), PyData.eqvAll (a.map msgD) (b.map msgD) = decide (a = b)
  | [], [] => rfl
  | [], _ :: _ => rfl
  | _ :: _, [] => rfl
  | x :: r, y :: t => by
    have ih := eqv_msgs r t
    by_cases h : x = y
    · subst h
      have e : PyData.eqv (msgD x) (msgD x) = true := by simp [msgD, PyData.eqv, PyData.eqvAll]
      simp only [List.map_cons, PyData.eqvAll, e, ih, Bool.true_and, List.cons.injEq, true_and]
    · have e : PyData.eqv (msgD x) (msgD y) = false := by
        cases q : PyData.eqv (msgD x) (msgD y) with
        | false => rfl
        | true => exact absurd (msgD_inj q) h
      simp only [List.map_cons, PyData.eqvAll, e, Bool.false_and, List.cons.injEq, h, false_and, decide_false]
theorem eqv_strm (a b : List (Int × Int)) : PyData.eqv (strmD a) (strmD b) = decide (a = b) := by
  simp only [strmD, PyData.eqv]
  exact eqv_msgs a b
/-- a stream of ints that are not too long -/
def Short (ms : List (Int × Int)) : Prop := ∀ m ∈ ms, m.1.natAbs < 10 ^ 99 ∧ m.2.natAbs < 10 ^ 99
theorem nice_msg {m : Int × Int} (h : m.1.natAbs < 10 ^ 99 ∧ m.2.natAbs < 10 ^ 99) : Nice 1 207 (msgD m) := by
  refine Nice.tuple (n := 0) (m := 100) (k := 2) (fun d hd => ?_) (Nat.le_refl 2)
  simp only [List.mem_cons, List.not_mem_nil, or_false] at hd
  rcases hd with rfl | rfl
  · exact Nice.int h.1
  · exact Nice.int h.2
theorem nice_strm {ms : List (Int × Int)} {k : Nat} (h : Short ms) (hk : ms.length ≤ k) : Nice 2 (k * 207 + 2 * k + 3) (strmD ms) := by
  refine Nice.tuple (n := 1) (m := 207) (k := k) (fun d hd => ?_) (by rw [List.length_map]; exact hk)
  obtain ⟨m, hm, rfl⟩ := List.mem_map.mp hd
  exact nice_msg (h m hm)
theorem TDs.msg {H : Hp} {vs : List V} {ms : List (Int × Int)} {i : Nat} {v : V} (r : TDs H vs (ms.map msgD)) (h : vs[i]? = some v) : ∃ m a, ms[i]? = some m ∧ v = .ref a ∧ H a = some (.tup [.int m.1, .int m.2]) := by
  obtain ⟨d, h1, h2⟩ := r.get h
  rw [List.getElem?_map] at h1
  cases e : ms[i]? with
  | none => rw [e] at h1; cases h1
  | some m =>
    rw [e] at h1
    cases h1
    obtain ⟨a, h3, h4⟩ := TD.pair h2
    exact ⟨m, a, rfl, h3, h4⟩
theorem TDs.msgs_len {H : Hp} {vs : List V} {ms : List (Int × Int)} (r : TDs H vs (ms.map msgD)) : vs.length = ms.length := by
  rw [r.length, List.length_map]
end Sb

/-! Operators over data that never changes. -/
namespace Sb
open PySem PySem.Spec PyProof.Rows L2
theorem same_new {H : Hp} {p : Addr} {o : HO} (h : H p = none) : Same H (upd H p o) := fun b u e => by
  rw [upd_ne (ne_of_none e h)]
  exact e
section
variable {X : Cx}
theorem opImp {f : Value → Value → Sem Value} {r r' : R2} (h : OpR X f r) (i : ∀ x y H Q, r' x y H Q → r x y H Q) : OpR X f r' :=
  fun pins s σ H x y v u Q I rx ry z => h pins s σ H x y v u Q I rx ry (i x y H Q z)
/-- t + u -/
def rCatD : R2 := fun x y H Q => ∃ ds es, TD H x (.tuple ds) ∧ TD H y (.tuple es) ∧ ds.length + es.length ≤ 100000 ∧
  ∀ p H', Same H H' → TD H' (.ref p) (.tuple (ds ++ es)) → Q (.ref p) H'
theorem op_catD : OpR X (binaryOp .Add) rCatD := opImp op_catA fun x y H Q h => by
  obtain ⟨ds, es, h1, h2, hl, q⟩ := h
  obtain ⟨a, xs, rfl, ha, hx⟩ := h1.isTup
  obtain ⟨b, ys, rfl, hb, hy⟩ := h2.isTup
  have lx := hx.length
  have ly := hy.length
  refine ⟨a, b, xs, ys, rfl, rfl, SqT.of ha, SqT.of hb, ?_, ?_, ?_, ?_⟩
  · rw [lx, ly]
    exact Nat.le_trans hl (by decide)
  · intro e
    subst e
    cases hx
    exact q b H (Same.refl H) h2
  · intro _ e
    subst e
    cases hy
    exact q a H (Same.refl H) (by rw [List.append_nil]; exact h1)
  · intro _ _ p np
    exact q p _ (same_new np) (.tup upd_same (TDs.mono (Tups.new np) _ (hx.app hy)))
/-- a part of a list, by its bounds -/
def cutA {α : Type} (xs : List α) (lo hi : Option Int) : List α := (xs.drop (HT.sIx xs.length 0 lo)).take (HT.sIx xs.length xs.length hi - HT.sIx xs.length 0 lo)
theorem cutA_to {α : Type} (xs : List α) {k : Nat} (h : k ≤ xs.length) : cutA xs none (some (k : Int)) = xs.take k := by
  unfold cutA
  rw [HT.sIx_none, HT.sIx_nat, List.drop_zero, Nat.sub_zero, Nat.min_eq_left h]
theorem cutA_from {α : Type} (xs : List α) {k : Nat} (h : k ≤ xs.length) : cutA xs (some (k : Int)) none = xs.drop k := by
  unfold cutA
  rw [HT.sIx_none, HT.sIx_nat, Nat.min_eq_left h]
  exact List.take_of_length_le (by rw [List.length_drop]; exact Nat.le_refl _)
theorem TDs.cut {H : Hp} {xs : List V} {ds : List PyData} (h : TDs H xs ds) (lo hi : Option Int) : TDs H (cutV xs lo hi) (cutA ds lo hi) := by
  unfold cutV cutA
  rw [h.length]
  exact (h.drop _).take _
/-- t[lo:hi] -/
def rSlD : V → Option Int → Option Int → Hp → VK → Prop := fun x lo hi H Q => ∃ ds, TD H x (.tuple ds) ∧ ∀ p H', Same H H' → TD H' (.ref p) (.tuple (cutA ds lo hi)) → Q (.ref p) H'
theorem sl_D : SlR X rSlD := by
  intro pins s σ H x v vl vu lo hi sl Q I rx hs pl pu h
  refine sl_tupA pins s σ H x v vl vu lo hi sl Q I rx hs pl pu ?_
  obtain ⟨ds, hT, q⟩ := h
  obtain ⟨a, xs, rfl, ha, hx⟩ := hT.isTup
  refine ⟨a, xs, rfl, SqT.of ha, ?_, ?_⟩
  · rintro ⟨e1, e2⟩
    refine q a H (Same.refl H) ?_
    have e : cutA ds lo hi = ds := by
      unfold cutA
      rw [← hx.length, e1, e2, List.drop_zero, Nat.sub_zero]
      exact List.take_of_length_le (by rw [hx.length]; exact Nat.le_refl _)
    rw [e]
    exact hT
  · intro _ p np
    exact q p _ (same_new np) (.tup upd_same (TDs.mono (Tups.new np) _ (hx.cut lo hi)))
/-- x == y, x != y over data that never changes -/
def rEqT : R2 := fun x y H Q => ∃ d e, TD H x d ∧ TD H y e ∧ SeqAt.shaped d = true ∧ SeqAt.shaped e = true ∧ Q (.bl (PyData.eqv d e)) H
def rNeT : R2 := fun x y H Q => ∃ d e, TD H x d ∧ TD H y e ∧ SeqAt.shaped d = true ∧ SeqAt.shaped e = true ∧ Q (.bl (!PyData.eqv d e)) H
theorem op_eqT (hu : X.A.units + 64 < cLine) : OpR X (compareOp .Eq) rEqT := opImp (op_eqD hu) fun x y H Q ⟨d, e, h1, h2, r⟩ => ⟨d, e, h1.dp _, h2.dp _, r⟩
theorem op_neT (hu : X.A.units + 64 < cLine) : OpR X (compareOp .NotEq) rNeT := opImp (op_neD hu) fun x y H Q ⟨d, e, h1, h2, r⟩ => ⟨d, e, h1.dp _, h2.dp _, r⟩
end
theorem shaped_strm (ms : List (Int × Int)) : SeqAt.shaped (strmD ms) = true := by
  have h : PyData.canLayAll0 (ms.map msgD) = true ∧ PyData.depthAll (ms.map msgD) ≤ 1 := by
    induction ms with
    | nil => exact ⟨rfl, Nat.zero_le _⟩
    | cons x r ih => exact ⟨by simp only [List.map_cons, PyData.canLayAll0, ih.1, Bool.and_true]; rfl, by simp only [List.map_cons, PyData.depthAll]; exact Nat.max_le.mpr ⟨Nat.le_refl _, ih.2⟩⟩
  unfold SeqAt.shaped
  simp only [strmD, PyData.canLay0, PyData.depth, h.1, Bool.true_and, decide_eq_true_eq]
  have := h.2
  omega
end Sb

/-! An own error class over a built-in one, its __init__ storing its one argument under the argument's name. -/
namespace PySem
namespace OwnE
open PySem.W PySem.Calls PyProof.Rows PySem.HandSPX Builtin Builtin.ObjectAttr
/-- the base: its name, its __new__, its __init__, its mro -/
structure Base where
  B : String
  newId : String
  initId : String
  bm : List Value
structure Base.Ok (b : Base) : Prop where
  fb : ExcBaseFacts b.B b.newId b.initId b.bm
  sb : StoreFacts b.B b.bm "object.__setattr__" "object"
  ne : b.bm.isEmpty = false
section
variable {prog : Program} {w : World} {A : Around} {R : Result → Shared → Prop} {hp : Heap} {g : Array GenState} {d : Drawn} {t : Nat} {os : OsState}
theorem tail_some {b : Base} (ok : b.Ok) : ∀ l : List Value, excTail b.bm l = true → l.isEmpty = false
  | [], e => by
    have z : b.bm = [] := (beq_iff_eq.mp e).symm
    have n := ok.ne
    rw [z] at n
    exact absurd n (by decide)
  | _ :: _, _ => rfl
/-- x.name = v, x a new error -/
theorem stored {b : Base} (ok : b.Ok) {K : W.Frag} {name : Str} {tk : Tok} {v : Value} {x C : Addr} {fv : Array Value} {cd : ClassData} (inK : K.In hp)
    (at_x : hp.get? x = some { cls := .ref C, data := .fields fv }) (at_C : W.clsIn K C = some cd) (tail : excTail b.bm cd.mro = true) (own : cd.hasDict = true) (free : W.findIn K (.ref C) name = some none)
    (want : ∀ h' tk' dx, (∀ c o, c ≠ x → hp.get? c = some o → h'.get? c = some o) → hp.objs.size ≤ dx → dx ≠ x →
      h'.get? x = some { cls := .ref C, dict := some dx, data := .fields fv } → h'.Ns1 dx (fun y => if y = name then some v else none) →
      R (.ok (.ret .none)) ⟨h', g, d, tk', os⟩) :
    codeAny (model prog w) A (.call (.builtin "object.__setattr__") ⟨[.ref x, .str name tk, v], []⟩) R ⟨hp, g, d, t, os⟩ := by
  have inst : W.InstAt hp x { cls := .ref C, data := .fields fv } C none := ⟨at_x, rfl, rfl, trivial⟩
  have so := F.store_object
  have some_ := tail_some ok _ tail
  have object : cd.mro.contains (.type "object") = true := by rw [excTail_contains "object" _ tail]; exact ok.sb.hasOwner
  have apart : x ≠ hp.objs.size := Nat.ne_of_lt (Heap.lt_size at_x)
  have under : W.Looks (model prog w) hp (isInstance (.ref x) (.type "object")) true := by
    refine inst.type.andThen (W.looks_mroIn inK ?_)
    unfold W.mroIn
    rw [at_C, Option.bind_some, if_neg (by rw [some_]; decide), object]
  have data : W.Looks (model prog w) hp (classData C) cd := W.looks_clsIn inK at_C
  have order : W.Looks (model prog w) hp (mroOf (.ref C)) cd.mro := data.andThen .now
  have nobody : W.Looks (model prog w) hp (storeTaker? none) none := .now
  apply codeAny_call_builtin so.slot.plain so.entry
  apply @W.check_slot (model prog w) _ _ ⟨hp, g, d, t, os⟩ "object.__setattr__" "object" "__setattr__" (.ref x) [.str name tk, v] [] _ so.kind so.split under (so.args (.ref x) (.str name tk) v)
  rw [W.osa_eq, refuse_eq]
  apply wpAny_bind
  apply wpAny_bind
  apply inst.type.at
  apply wpAny_bind
  apply order.at
  rw [excTail_pass _ (ok.sb.passes _) _ tail]
  apply wpAny_pure
  apply wpAny_bind
  apply inst.type.at
  apply wpAny_bind
  apply (W.looks_findIn inK free).at
  apply wpAny_bind
  apply nobody.at
  show wpAny _ _ (storeInOwnDict (.ref x) (.ref C) (.str name tk) name v false) _ _ _
  obtain ⟨nm, bs, mro, ns, qn, hd, sn, sb, ab, col, del⟩ := cd
  dsimp only at own
  subst own
  unfold storeInOwnDict ownDictForStores
  repeat (first
    | with_reducible refine store_in_new ?_ ?_
    | with_reducible refine wpAny_loadPart_at at_x ?_
    | with_reducible refine data.at ?_
    | wp_step)
  · exact ⟨_, #[], _, (Heap.get?_update_ne _ _ _ _ apart.symm).trans (Heap.get?_push_at rfl rfl), rfl, (fun e he => absurd he (by simp)), (fun _ => rfl)⟩
  · intro h' tk' ns1 but
    have still : (hp.push { cls := .type "dict", data := .dict #[] }).get? x = some { cls := .ref C, data := .fields fv } := Heap.get?_push_of_some _ at_x
    refine want h' tk' hp.objs.size ?_ (Nat.le_refl _) apart.symm ?_ ns1
    · intro c o hc ho
      rw [but.2 c (Nat.ne_of_lt (Heap.lt_size ho)), Heap.get?_update_ne _ _ _ _ hc]
      exact Heap.get?_push_of_some _ ho
    · rw [but.2 x apart]
      exact Heap.get?_update_self _ still rfl
end
/-! the text of __init__ -/
def iA (f : Str) (p1 p2 : Pos) : Arguments := { posonlyargs := [], args := [{ arg := "self", annotation := none, pos := p1 }, { arg := f, annotation := none, pos := p2 }], vararg := none, kwonlyargs := [], kw_defaults := [], kwarg := none, defaults := [] }
def iB (f : Str) (q1 q2 q3 q4 : Pos) : List Stmt := [.Assign [.Attribute (.Name "self" q1) f q2] (.Name f q3) q4]
/-- what the written part says of the class x, at C, and of its __init__, at fI -/
structure ErrTxt (b : Base) (x f qual : Str) (K : Frag) (mg : Str → Option Value) (C fI : Addr) : Prop where
  gC : mg x = some (.ref C)
  cls : ∃ nm q N bs bm sn sub ab col dd k0 k1 k2 k3 k5, K.lookup C = some (excClassObj nm q C N bs bm true sn sub ab col dd k0 k1 k2 k3 k5 b.newId) ∧ excTail b.bm bm = true
  sa : findIn K (.ref C) "__setattr__" = some (some (.builtin "object.__setattr__"))
  ga : findIn K (.ref C) "__getattribute__" = some (some (.builtin "BaseException.__getattribute__"))
  gg : findIn K (.ref C) "__getattr__" = some none
  noN : findIn K (.ref C) f = some none
  iC : findIn K (.ref C) "__init__" = some (some (.ref fI))
  tC : typeIn K (.ref fI) = some (.type "function")
  kC : keepIn K (.ref C) = true
  exC : subIn K (.ref C) (.type "BaseException") = some true
  tyC : typeIn K (.ref C) = some (.type "type")
  hdC : hasDictIn K C = true
  te : exmOne K (.ref C) (.ref C) = some true
  fn : ∃ (oc : Value) (od : Option Addr) (doc pm : Value) (an : Option Addr) (cdv ct : Value) (osl : Array (Option Value)) (p1 p2 q1 q2 q3 q4 : Pos) (iS : Scope),
    K.lookup fI = some ⟨oc, od, .func (fnOf "__init__" qual (iA f p1 p2) (iB f q1 q2 q3 q4) iS .none .none doc pm an cdv ct), osl⟩ ∧ codeIn K cdv qual = true ∧
    iS.kind = .function ∧ iS.names.lookup ("self" : Str) = some .local ∧ iS.names.lookup f = some .local ∧ iS.isCoroutine = false ∧ iS.isGenerator = false
theorem one_le_line (v : Value) : [v].length ≤ sizeLine := by
  show 1 ≤ sizeLine
  decide
theorem ldE {M : Model} {s : Shared} {name : Str} {scope : Scope} {L a : Addr} {cd : Value} {m : Str → Option Value} {x : Str} {pos : Pos} {v : Value} {Q : Value → Shared → Prop} {A : Around} {E : Value → Shared → Prop} (hn : s.heap.Ns L m) (hv : m x = some v) (h : Q v s)
    (hk : scope.kind = .function) (hl : scope.names.lookup x = some .local) (hd : (x == ("__debug__" : Str)) = false) :
    wpAny M A (eval (.Name x pos) (envOfC name scope L a cd)) Q E s := wpAny_Name (wpAny_loadName_local hk hl hn hv h) hd
/-- what __init__ leaves of a fresh exception at x -/
structure Left (h h' : Heap) (x C dx t1 : Addr) (f : Str) (v : Value) : Prop where
  keep : ∀ b o, b ≠ x → h.get? b = some o → h'.get? b = some o
  obj : h'.get? x = some { cls := .ref C, dict := some dx, data := .fields #[.ref t1, .none, .none, .none, .bool false, .none] }
  dbig : h.objs.size ≤ dx
  dne : dx ≠ x
  ns : h'.Ns1 dx (fun y => if y = f then some v else none)
/-- a made error -/
structure Made1 (h h' : Heap) (e C d : Addr) (f : Str) (v : Value) : Prop where
  keep : ∀ b o, h.get? b = some o → h'.get? b = some o
  new : h.objs.size ≤ e
  obj : ∃ oe vs, h'.get? e = some oe ∧ oe.cls = .ref C ∧ oe.dict = some d ∧ oe.data = .fields vs ∧ vs[1]? = some .none
  dbig : h.objs.size ≤ d
  dne : d ≠ e
  ns : h'.Ns1 d (fun y => if y = f then some v else none)
section
variable {prog : Program} {w : World} {A : Around} {E : Value → Shared → Prop} {R : Result → Shared → Prop} {s : Shared} {b : Base} {x f qual : Str} {K : Frag} {mg : Str → Option Value} {C fI : Addr}
theorem run_init (ok : b.Ok) (T : ErrTxt b x f qual K mg C fI) (hf1 : ¬ f = ("self" : Str)) (hf2 : (f == ("__debug__" : Str)) = false)
    (bind : ∀ (oc : Value) (od : Option Addr) (doc pm : Value) (an : Option Addr) (cdv ct : Value) (p1 p2 q1 q2 q3 q4 : Pos) (iS : Scope) (u v : Value),
      bindArgs (fnOf "__init__" qual (iA f p1 p2) (iB f q1 q2 q3 q4) iS .none .none doc pm an cdv ct) ⟨[u, v], []⟩ = pure [(("self" : Str), u), (f, v)])
    {e t0 : Addr} {v : Value} (X : K.In s.heap) (hlim : s.heap.NoLimit) (he : s.heap.get? e = some (excO C t0)) (hnx : K.lookup e = none) (hroom : A.depth < recursionLimit)
    (want : ∀ h' tk dx, Left s.heap h' e C dx t0 f v → R (.ok (.ret .none)) { s with heap := h', toks := tk }) :
    codeAny (model prog w) A (.call (.ref fI) ⟨[.ref e, v], []⟩) R s := by
  obtain ⟨oc, od, doc, pm, an, cdv, ct, osl, p1, p2, q1, q2, q3, q4, iS, ho, hcd, sk, s1, s2, s3, s4⟩ := T.fn
  obtain ⟨nm, q, N, bs, bm, sn, sub, ab, col, dd, k0, k1, k2, k3, k5, hC, hbm⟩ := T.cls
  have hcl : clsIn K C = some { name := nm, bases := bs, mro := .ref C :: bm, ns := N, qualname := q, hasDict := true, slotNames := sn, subclasses := sub, abstract := ab, collection := col, hasDel := false } := by
    unfold clsIn
    rw [hC] <;> rfl
  refine Att.call_fn (binds := [(("self" : Str), .ref e), (f, v)]) X hlim ho hcd hroom (BindsTo.of_eq (bind oc od doc pm an cdv ct p1 p2 q1 q2 q3 q4 iS _ _)) ?_ (fun z IC => ?_) s3 s4 sk
  · simp [s1, s2]
  obtain ⟨hh, tk1, rfl⟩ := IC.toInCall.same
  have keep := IC.toInCall.keep
  have ns := IC.toInCall.ns
  have X1 : K.In hh := X.keeps keep
  have at_e := keep _ _ he
  have of_f : bindL (envOfC qual iS s.heap.objs.size fI cdv).kindOf [(("self" : Str), .ref e), (f, v)] (fun _ => none) f = some v := by
    have a1 : (envOfC qual iS s.heap.objs.size fI cdv).kindOf f = some .local := s2
    simp only [bindL, a1, if_true]
  have of_s : bindL (envOfC qual iS s.heap.objs.size fI cdv).kindOf [(("self" : Str), .ref e), (f, v)] (fun _ => none) ("self" : Str) = some (.ref e) := by
    have a1 : (envOfC qual iS s.heap.objs.size fI cdv).kindOf f = some .local := s2
    have a2 : (envOfC qual iS s.heap.objs.size fI cdv).kindOf ("self" : Str) = some .local := s1
    simp only [bindL, a1, a2, if_true]
    rw [if_neg (fun z => hf1 z.symm)]
  show wpAny _ _ (execs _ _) _ _ _
  refine wpAny_execs_cons (plainObj_wpAny_Assign_Attribute ?_)
  apply ldE (v := v) ns of_f _ sk s2 hf2
  apply ldE (v := .ref e) ns of_s _ sk s1 (by decide)
  refine set_plain X1 (ox := excO C t0) (od := none) ⟨at_e, rfl, rfl, trivial⟩ T.sa ?_
  refine stored ok X1 at_e hcl (show excTail b.bm (.ref C :: bm) = true from hbm) rfl T.noN ?_
  intro h3 tk3 dx keep3 dn dne at3 ns3
  show wpAny _ _ (execs _ _) _ _ _
  have z : s.heap.objs.size < hh.objs.size := ns.lt
  refine wpAny_execs_nil (want h3 tk3 dx ?_)
  exact { keep := fun c o hc q => keep3 c o hc (keep c o q), obj := at3, dbig := Nat.le_of_lt (Nat.lt_of_lt_of_le z dn), dne := dne, ns := ns3 }
theorem run_made (ok : b.Ok) (T : ErrTxt b x f qual K mg C fI) (hf1 : ¬ f = ("self" : Str)) (hf2 : (f == ("__debug__" : Str)) = false)
    (bind : ∀ (oc : Value) (od : Option Addr) (doc pm : Value) (an : Option Addr) (cdv ct : Value) (p1 p2 q1 q2 q3 q4 : Pos) (iS : Scope) (u v : Value),
      bindArgs (fnOf "__init__" qual (iA f p1 p2) (iB f q1 q2 q3 q4) iS .none .none doc pm an cdv ct) ⟨[u, v], []⟩ = pure [(("self" : Str), u), (f, v)])
    {v : Value} (X : K.In s.heap) (hlim : s.heap.NoLimit) (hroom : A.depth + 1 < recursionLimit)
    (want : ∀ h' tk e d, Made1 s.heap h' e C d f v → R (.ok (.ret (.ref e))) { s with heap := h', toks := tk }) :
    codeAny (model prog w) A (.call (.ref C) ⟨[v], []⟩) R s := by
  obtain ⟨nm, q, N, bs, bm, sn, sub, ab, col, dd, k0, k1, k2, k3, k5, hC, hbm⟩ := T.cls
  obtain ⟨hp, g, dr, tk, os⟩ := s
  have keep : ∀ c o, hp.get? c = some o → ((hp.push (kdv_tup [v])).push (excO C hp.objs.size)).get? c = some o := by
    intro c o z
    exact Heap.get?_push_of_some _ (Heap.get?_push_of_some _ z)
  have there : ((hp.push (kdv_tup [v])).push (excO C hp.objs.size)).get? (hp.objs.size + 1) = some (excO C hp.objs.size) := by heap_get
  have new : K.lookup (hp.objs.size + 1) = none := by
    cases e : K.lookup (hp.objs.size + 1) with
    | none => rfl
    | some o => exact absurd (Nat.lt_of_succ_lt (Heap.lt_size (X _ _ e))) (Nat.lt_irrefl _)
  apply call_own ok.fb (fun X => excTail_contains X bm hbm) (X _ _ hC) (looks_findIn X T.iC) (fun self => bind_fn X self T.tC) (one_le_line v)
  refine run_init (s := ⟨(hp.push (kdv_tup [v])).push (excO C hp.objs.size), g, dr, tk, os⟩) ok T hf1 hf2 bind (X.keeps keep) (hlim.keeps keep) there new hroom ?_
  rintro h' tk' dx ⟨keep2, at2, dn, dne, ns2⟩
  have z : hp.objs.size + 1 + 1 ≤ dx := by
    have q := dn
    rw [Heap.size_push, Heap.size_push] at q
    exact q
  refine ⟨rfl, want h' tk' (hp.objs.size + 1) dx ?_⟩
  refine { keep := fun c o q => keep2 c o ?_ (keep c o q), new := Nat.le_succ _, obj := ⟨_, _, at2, rfl, rfl, rfl, rfl⟩, dbig := (by show hp.objs.size ≤ dx; omega), dne := dne, ns := ns2 }
  exact Nat.ne_of_lt (Nat.lt_succ_of_lt (Heap.lt_size q))
end
end OwnE
end PySem
namespace L2
open PySem PySem.Spec PyProof.Rows
theorem relO_one {f : Str} {v : V} {v' : Value} (r : RelV v v') (y : Str) : RelO (List.lookup y [(f, v)]) (if y = f then some v' else none) := by
  by_cases h : y = f
  · subst h
    rw [if_pos rfl]
    have q : List.lookup y [(y, v)] = some v := by simp [List.lookup]
    rw [q]
    exact r
  · rw [if_neg h]
    have q1 : (y == f) = false := by simpa using h
    have q : List.lookup y [(f, v)] = none := by simp [List.lookup, q1]
    rw [q]
    trivial
section
variable {X : Cx} {b : OwnE.Base} {x f qual : Str} {C fI : Addr}
/-- what an error class's text gives, at any state -/
structure ErrOk (b : OwnE.Base) (x f qual : Str) (K : PySem.W.Frag) (mg : Str → Option Value) (C fI : Addr) : Prop where
  ok : b.Ok
  T : PySem.OwnE.ErrTxt b x f qual K mg C fI
  hf1 : ¬ f = ("self" : Str)
  hf2 : (f == ("__debug__" : Str)) = false
  bind : ∀ (oc : Value) (od : Option Addr) (doc pm : Value) (an : Option Addr) (cdv ct : Value) (p1 p2 q1 q2 q3 q4 : Pos) (iS : Scope) (u v : Value),
      bindArgs (PySem.W.fnOf "__init__" qual (OwnE.iA f p1 p2) (OwnE.iB f q1 q2 q3 q4) iS .none .none doc pm an cdv ct) ⟨[u, v], []⟩ = pure [(("self" : Str), u), (f, v)]
/-- x(e) -/
def tMkE (C : Addr) (f : Str) (ta : TA) : St → Hp → XK → Prop := fun σ H Q => ta σ H fun vs H1 => ∃ v, vs = [v] ∧ ∀ d, H1 d = none → Q (.ref C) (some d) (upd H1 d (.xd [(f, v)]))
theorem pmk_E {a : Expr} {ta : TA} {p pos : Pos} {k : Nat} (T : ErrOk b x f qual X.K X.mg C fI) (hr : Room k X.A) (ha : PA X [a] ta) (hg : Gl X x := by rfl) (hdb : (x == ("__debug__" : Str)) = false := by decide)
    (he : starEach (a :: []) X.env = (false, eval a X.env) :: starEach [] X.env := by rfl) (hpl : (backTo pos (starEach [] X.env)).any (·.1) = false := by rfl) :
    PMk X (.Call (.Name x p) [a] [] pos) (tMkE C f ta) := by
  intro pins s σ H Q I h
  apply wpAny_Call_Name_kw
  apply ld_glob I hg T.T.gC _ hdb
  apply PySem.W.callWith_K (h₀ := X.base) I.ok.mod.kin T.T.kC _ he hpl
  refine thn (ha.run pos pins s σ H _ I h) ?_
  rintro us s1 ⟨vs, H1, I1, r1, v, ev, q1⟩
  subst ev
  refine ⟨I1.kIn, ?_⟩
  match us, r1 with
  | [v'], .cons rv .nil =>
    show wpAny _ _ (call (.ref C) [v']) _ _ _
    have hlim := I1.nolimit
    obtain ⟨hp, g, dr, tk, os⟩ := s1
    apply wpAny_call
    refine PySem.OwnE.run_made T.ok T.T T.hf1 T.hf2 T.bind I1.kIn hlim (by have := hr.dp; omega) ?_
    intro h' tk' e d M
    show MkP X pins σ Q (.ref e) ⟨h', g, dr, tk', os⟩
    obtain ⟨oe, fv, hoe, hc, hd, hdat, h1⟩ := M.obj
    have hns := M.ns
    obtain ⟨G', g1, g2⟩ := restrict h' fun c => decide (c ≠ e)
    have gk : ∀ c, c ≠ e → G'.get? c = h'.get? c := fun c hc => g1 c (decide_eq_true hc)
    have ge : G'.get? e = none := g2 e (by simp)
    have old : ∀ c o, hp.get? c = some o → G'.get? c = some o := by
      intro c o q
      rw [gk c (Nat.ne_of_lt (Nat.lt_of_lt_of_le (Heap.lt_size q) M.new))]
      exact M.keep c o q
    have ob : ObjOk X.prog X.w (upd H1 d (.xd [(f, v)])) G' d (.xd [(f, v)]) := ⟨_, hns.at (fun o q => (gk d M.dne).trans q), fun y => relO_one rv y⟩
    have J : Inv X pins σ (upd H1 d (.xd [(f, v)])) ⟨G', g, dr, tk', os⟩ := I1.laid (t' := tk') old M.dbig ob
    refine ⟨e, oe, fv, ⟨G', g, dr, tk', os⟩, _, .ref C, some d, rfl, J, ?_, ge, hoe, ⟨hc, hd⟩, hdat, h1, ?_, rfl, I1.bare, raises_own T.T.exC T.T.tyC, q1 d (I1.hok.fresh M.dbig)⟩
    · intro c o q
      by_cases hc : c = e
      · have q' : G'.get? c = some o := q
        rw [hc, ge] at q'
        cases q'
      · exact (gk c hc).symm.trans q
    · rw [upd_ne (Ne.symm M.dne)]
      exact I1.hok.fresh M.new
/-- raise x(e) -/
def tRaiseE (C : Addr) (f : Str) (W : WX) (ta : TA) : TS := fun _ σ H => tMkE C f ta σ H fun cls d H' => W cls d σ H'
theorem ps_raiseE {a : Expr} {ta : TA} {W : WX} {p pos pos2 : Pos} {k : Nat} (hc : X.calm = true) (T : ErrOk b x f qual X.K X.mg C fI) (hr : Room k X.A) (tk : Takes X W) (ha : PA X [a] ta) (hg : Gl X x := by rfl) (hdb : (x == ("__debug__" : Str)) = false := by decide)
    (he : starEach (a :: []) X.env = (false, eval a X.env) :: starEach [] X.env := by rfl) (hpl : (backTo pos (starEach [] X.env)).any (·.1) = false := by rfl) :
    PS X (.Raise (some (.Call (.Name x p) [a] [] pos)) none pos2) (tRaiseE C f W ta) := ps_raise hc tk (pmk_E T hr ha hg hdb he hpl)
/-- e.f, e the error that the suite holds (at a; its class cls, its dict d) -/
def tByE (C : Addr) (f : Str) (a : Addr) (cls : Value) (d : Option Addr) (te : TE) : TE := fun σ H Q => te σ H fun y H1 => y = .ref a ∧ cls = .ref C ∧ ∃ (dd : Addr) (v : V), d = some dd ∧ H1 dd = some (.xd [(f, v)]) ∧ Q v H1
theorem pe_byE {a : Addr} {oe : Obj} {cls : Value} {d : Option Addr} {pn : List (Addr × Obj)} {e : Expr} {te : TE} {pos : Pos} (T : ErrOk b x f qual X.K X.mg C fI) (hz : Zc cls d oe) (hf : ∃ vs, oe.data = .fields vs) (he : PE (X.suite a ((a, oe) :: pn)) e te)
    (hb : attributeBase e f X.env (eval e X.env) = eval e X.env := by rfl) :
    PE (X.suite a ((a, oe) :: pn)) (.Attribute e f pos) (tByE C f a cls d te) := by
  constructor
  intro pins s σ H Q I h
  refine attr_of hb (thn (he.run pins s σ H _ I h) ?_)
  rintro u s1 ⟨y, H1, I1, ry, ey, ec, dd, v, ed, ea, q⟩
  subst ey ec ed
  obtain rfl : u = Value.ref a := ry
  have ha := (I1.pin (a, oe) (List.mem_append_left _ List.mem_cons_self)).1
  obtain ⟨vs, hd⟩ := hf
  obtain ⟨mA, hns, hr⟩ := (I1.hok dd _ ea : ObjOk X.prog X.w H1 s1.heap dd (.xd [(f, v)]))
  obtain ⟨od, ho, hl⟩ := lookIn_ns hns
  have l : List.lookup f [(f, v)] = some v := by simp [List.lookup]
  obtain ⟨u, hu, ru⟩ := RelO.some_of (v := v) (o := mA f) (by rw [← l]; exact hr f)
  have J : PySem.W.InstAt s1.heap a oe C (some od) := by
    refine ⟨ha, hz.1, ?_, ?_⟩
    · unfold PySem.W.notCls
      rw [hd] <;> rfl
    · rw [hz.2]
      exact ho
  exact HandSPX.exc_get I1.kIn J T.T.ga T.T.gg T.T.exC (PySem.W.findObj_own T.T.hdC T.T.noN rfl (by rw [hl, hu])) (handed_of ru) ⟨v, H1, I1.tok _, ru, q⟩
end
end L2
namespace PySem.OwnE
def bVE : Base := ⟨"ValueError", "ValueError.__new__", "ValueError.__init__", [Value.type "ValueError", Value.type "Exception", Value.type "BaseException", Value.type "object"]⟩
def bLE : Base := ⟨"LookupError", "LookupError.__new__", "LookupError.__init__", [Value.type "LookupError", Value.type "Exception", Value.type "BaseException", Value.type "object"]⟩
def bRE : Base := ⟨"RuntimeError", "RuntimeError.__new__", "RuntimeError.__init__", [Value.type "RuntimeError", Value.type "Exception", Value.type "BaseException", Value.type "object"]⟩
def bOE : Base := ⟨"OverflowError", "OverflowError.__new__", "OverflowError.__init__", [Value.type "OverflowError", Value.type "ArithmeticError", Value.type "Exception", Value.type "BaseException", Value.type "object"]⟩
theorem bVE_ok : bVE.Ok := ⟨F.excBase_ValueError, F.store_ValueError, rfl⟩
theorem bLE_ok : bLE.Ok := ⟨F.excBase_LookupError, F.store_LookupError, rfl⟩
theorem bRE_ok : bRE.Ok := ⟨F.excBase_RuntimeError, F.store_RuntimeError, rfl⟩
theorem bOE_ok : bOE.Ok := ⟨F.excBase_OverflowError, F.store_OverflowError, rfl⟩
/-- an error of its own class is what the class's clause names -/
theorem exm_own {K : W.Frag} {S : Addr} (h1 : W.subIn K (.ref S) (.type "BaseException") = some true) (h2 : W.isClsIn K S = true) (h3 : W.typeIn K (.ref S) = some (.type "type")) (h4 : W.subIn K (.ref S) (.ref S) = some true) : W.exmOne K (.ref S) (.ref S) = some true := by
  have e1 : (W.subIn K (.ref S) (.type "BaseException") == some true) = true := by
    rw [h1]
    rfl
  have e2 : ((W.clsIn K S).isSome && W.typeIn K (.ref S) == some (.type "type")) = true := by
    rw [show (W.clsIn K S).isSome = true from h2, h3]
    rfl
  unfold W.exmOne
  rw [if_pos e1]
  show (if ((W.clsIn K S).isSome && W.typeIn K (.ref S) == some (.type "type")) = true then W.subIn K (.ref S) (.ref S) else none) = some true
  rw [if_pos e2]
  exact h4
/-- what a clause of the class S says of an error of the class R -/
theorem exm_to {K : W.Frag} {R S : Addr} {b : Bool} (h1 : W.subIn K (.ref S) (.type "BaseException") = some true) (h2 : W.isClsIn K S = true) (h3 : W.typeIn K (.ref S) = some (.type "type")) (h4 : W.subIn K (.ref R) (.ref S) = some b) : W.exmOne K (.ref R) (.ref S) = some b := by
  have e1 : (W.subIn K (.ref S) (.type "BaseException") == some true) = true := by
    rw [h1]
    rfl
  have e2 : ((W.clsIn K S).isSome && W.typeIn K (.ref S) == some (.type "type")) = true := by
    rw [show (W.clsIn K S).isSome = true from h2, h3]
    rfl
  unfold W.exmOne
  rw [if_pos e1]
  show (if ((W.clsIn K S).isSome && W.typeIn K (.ref S) == some (.type "type")) = true then W.subIn K (.ref R) (.ref S) else none) = some b
  rw [if_pos e2]
  exact h4
end PySem.OwnE

/-! Where the text's defs, methods, classes and errors stand. -/
namespace Sb
open PySem PySem.Spec PyProof.Rows L2
structure Dn (K : PySem.W.Frag) (mg : Str → Option Value) (nm : Str) (st : Stmt) (ps : List Str) where
  f : Addr
  fd : FuncData
  F : Fun K nm nm st f fd
  b : Binds K fd ps []
  g : mg nm = some (.ref f)
structure Mn (K : PySem.W.Frag) (C : Addr) (nm qual : Str) (st : Stmt) (ps : List Str) where
  f : Addr
  fd : FuncData
  F : Fun K nm qual st f fd
  b : Binds K fd ps []
  M : Meth K C nm f
structure Cn (K : PySem.W.Frag) (mg : Str → Option Value) (nm : Str) where
  C : Addr
  cl : Cls K C
  g : mg nm = some (.ref C)
structure En (K : PySem.W.Frag) (mg : Str → Option Value) (bs : OwnE.Base) (nm fld qual : Str) where
  C : Addr
  i : Addr
  e : L2.ErrOk bs nm fld qual K mg C i
end Sb

/-! Data of any kind: scalars, tuples, lists, the empty dict; none of it lies at p. -/
namespace Sb
open PySem PySem.Spec PyProof.Rows L2
mutual
inductive LD (p : Addr) (H : Hp) : V → PyData → Prop
  | non : LD p H .non .none
  | bl (b : Bool) : LD p H (.bl b) (.bool b)
  | int (i : Int) : LD p H (.int i) (.int i)
  | str (x : Str) : LD p H (.str x) (.str x)
  | tup {a : Addr} {xs : List V} {ds : List PyData} : a ≠ p → H a = some (.tup xs) → LDs p H xs ds → LD p H (.ref a) (.tuple ds)
  | lst {a : Addr} {xs : List V} {ds : List PyData} : a ≠ p → a ≠ sysModules → H a = some (.lst xs) → LDs p H xs ds → LD p H (.ref a) (.list ds)
  | dic {a : Addr} : a ≠ p → H a = some (.dK []) → LD p H (.ref a) (.dict [])
  | dct {a : Addr} : a ≠ p → H a = some (.dT []) → LD p H (.ref a) (.dict [])
inductive LDs (p : Addr) (H : Hp) : List V → List PyData → Prop
  | nil : LDs p H [] []
  | cons {v : V} {vs : List V} {d : PyData} {ds : List PyData} : LD p H v d → LDs p H vs ds → LDs p H (v :: vs) (d :: ds)
end
/-- all but p stands -/
abbrev But (p : Addr) (H H' : Hp) : Prop := ∀ b o, H b = some o → b ≠ p → H' b = some o
theorem But.same {p : Addr} {H H' : Hp} (h : Same H H') : But p H H' := fun b o e _ => h b o e
mutual
theorem LD.mono {p : Addr} {H H' : Hp} (t : But p H H') : ∀ {v : V} (d : PyData), LD p H v d → LD p H' v d
  | _, .none, h => by cases h; exact .non
  | _, .bool b, h => by cases h; exact .bl b
  | _, .int i, h => by cases h; exact .int i
  | _, .str x, h => by cases h; exact .str x
  | _, .tuple ds, h => by
    cases h with
    | tup n e r => exact .tup n (t _ _ e n) (LDs.mono t ds r)
  | _, .list ds, h => by
    cases h with
    | lst n m e r => exact .lst n m (t _ _ e n) (LDs.mono t ds r)
  | _, .dict _, h => by
    cases h with
    | dic n e => exact .dic n (t _ _ e n)
    | dct n e => exact .dct n (t _ _ e n)
theorem LDs.mono {p : Addr} {H H' : Hp} (t : But p H H') : ∀ {vs : List V} (ds : List PyData), LDs p H vs ds → LDs p H' vs ds
  | _, [], h => by cases h; exact .nil
  | _, d :: ds, h => by
    cases h with
    | cons a r => exact .cons (LD.mono t d a) (LDs.mono t ds r)
end
theorem LDs.length {p : Addr} {H : Hp} : ∀ {vs : List V} {ds : List PyData}, LDs p H vs ds → vs.length = ds.length
  | _, _, .nil => rfl
  | _, _, .cons _ r => congrArg (· + 1) r.length
theorem LDs.get {p : Addr} {H : Hp} : ∀ {vs : List V} {ds : List PyData} {i : Nat} {v : V}, LDs p H vs ds → vs[i]? = some v → ∃ d, ds[i]? = some d ∧ LD p H v d
  | _, _, _, _, .nil, e => by simp at e
  | _, _, 0, _, .cons a _, e => by
    simp at e
    subst e
    exact ⟨_, rfl, a⟩
  | _, _, i + 1, v, .cons _ r, e => by
    obtain ⟨d, h1, h2⟩ := LDs.get (i := i) (v := v) r (by simpa using e)
    exact ⟨d, by simpa using h1, h2⟩
theorem LDs.at {p : Addr} {H : Hp} : ∀ {vs : List V} {ds : List PyData} {i : Nat} {d : PyData}, LDs p H vs ds → ds[i]? = some d → ∃ v, vs[i]? = some v ∧ LD p H v d
  | _, _, _, _, .nil, e => by simp at e
  | _, _, 0, _, .cons a _, e => by
    simp at e
    subst e
    exact ⟨_, rfl, a⟩
  | _, _, i + 1, v, .cons _ r, e => by
    obtain ⟨d, h1, h2⟩ := LDs.at (i := i) (d := v) r (by simpa using e)
    exact ⟨d, by simpa using h1, h2⟩
theorem LDs.app {p : Addr} {H : Hp} : ∀ {vs us : List V} {ds es : List PyData}, LDs p H vs ds → LDs p H us es → LDs p H (vs ++ us) (ds ++ es)
  | _, _, _, _, .nil, s => s
  | _, _, _, _, .cons a r, s => .cons a (r.app s)
theorem LDs.take {p : Addr} {H : Hp} : ∀ {vs : List V} {ds : List PyData} (n : Nat), LDs p H vs ds → LDs p H (vs.take n) (ds.take n)
  | _, _, 0, _ => .nil
  | _, _, _ + 1, .nil => .nil
  | _, _, n + 1, .cons a r => .cons a (r.take n)
theorem LDs.drop {p : Addr} {H : Hp} : ∀ {vs : List V} {ds : List PyData} (n : Nat), LDs p H vs ds → LDs p H (vs.drop n) (ds.drop n)
  | _, _, 0, r => r
  | _, _, _ + 1, .nil => .nil
  | _, _, n + 1, .cons _ r => r.drop n
mutual
theorem TD.ld {p : Addr} {H : Hp} (hp : ∀ xs, H p ≠ some (.tup xs)) : ∀ {v : V} (d : PyData), TD H v d → LD p H v d
  | _, .none, h => by cases h; exact .non
  | _, .bool b, h => by cases h; exact .bl b
  | _, .int i, h => by cases h; exact .int i
  | _, .str x, h => by cases h; exact .str x
  | _, .tuple ds, h => by
    cases h with
    | tup e r => exact .tup (fun z => hp _ (z ▸ e)) e (TDs.ld hp ds r)
  | _, .list _, h => by cases h
  | _, .dict _, h => by cases h
theorem TDs.ld {p : Addr} {H : Hp} (hp : ∀ xs, H p ≠ some (.tup xs)) : ∀ {vs : List V} (ds : List PyData), TDs H vs ds → LDs p H vs ds
  | _, [], h => by cases h; exact .nil
  | _, d :: ds, h => by
    cases h with
    | cons a r => exact .cons (TD.ld hp d a) (TDs.ld hp ds r)
end
/-! it is read off the heap -/
section
variable {X : Cx} {pins : List (Addr × Obj)} {σ : L2.St} {H : Hp} {s : Shared} {p : Addr}
mutual
theorem LD.reads (I : L2.Inv X pins σ H s) : ∀ (d : PyData) (v : V) (u : Value), LD p H v d → RelV v u → ∃ as, Reads s.heap u d as ∧ sysModules ∉ as
  | .none, _, _, h, r => by cases h; cases r; exact ⟨_, Reads.none, List.not_mem_nil⟩
  | .bool b, _, _, h, r => by cases h; cases r; exact ⟨_, Reads.bool b, List.not_mem_nil⟩
  | .int i, _, _, h, r => by cases h; obtain ⟨t, rfl⟩ := r; exact ⟨_, Reads.int i t, List.not_mem_nil⟩
  | .str x, _, _, h, r => by cases h; obtain ⟨t, rfl⟩ := r; exact ⟨_, Reads.str x t, List.not_mem_nil⟩
  | .list ds, _, _, h, r => by
    cases h with
    | lst n m e hs =>
      cases r
      obtain ⟨its, rv, ⟨o, k, ho, hc, _, hd⟩, _⟩ := I.list (SqL.of e)
      obtain ⟨as, hr, hn⟩ := LDs.reads I ds _ its hs rv
      refine ⟨_, Reads.list ho hc hd hr, fun z => ?_⟩
      rcases List.mem_cons.mp z with z | z
      · exact m z.symm
      · exact hn z
  | .tuple ds, _, _, h, r => by
    cases h with
    | tup n e hs =>
      cases r
      obtain ⟨its, rv, ⟨o, ho, hc, k, hd⟩, _⟩ := I.tuple (SqT.of e)
      obtain ⟨as, hr, hn⟩ := LDs.reads I ds _ its hs rv
      exact ⟨_, Reads.tuple ho hc hd hr, hn⟩
  | .dict _, _, _, h, r => by
    cases h with
    | @dic a n e =>
      cases r
      obtain ⟨_, low, vs, rel, o, es, ep, ho, ex, hd, _, pr, _⟩ := dk_of I.hok e
      cases rel
      have hes : es.toList = [] := List.eq_nil_of_length_eq_zero (Pairs.length pr)
      refine ⟨_, Reads.dict (kvs := []) ho ex.1 hd (by rw [hes]; exact .nil) (by rw [hes]; exact .nil), fun z => ?_⟩
      have z' : sysModules = a := by simpa using z
      rw [← z'] at low
      simp at low
    | @dct a n e =>
      cases r
      obtain ⟨_, low, xs, rel, o, es, ep, ho, ex, hd, pr, _⟩ := dt_of I.hok e
      cases rel
      have hes : es.toList = [] := pr
      refine ⟨_, Reads.dict (kvs := []) ho ex.1 hd (by rw [hes]; exact .nil) (by rw [hes]; exact .nil), fun z => ?_⟩
      have z' : sysModules = a := by simpa using z
      rw [← z'] at low
      simp at low
theorem LDs.reads (I : L2.Inv X pins σ H s) : ∀ (ds : List PyData) (vs : List V) (us : List Value), LDs p H vs ds → Vals vs us → ∃ as, ReadsAll s.heap us ds as ∧ sysModules ∉ as
  | [], _, _, h, r => by cases h; cases r; exact ⟨_, ReadsAll.nil, List.not_mem_nil⟩
  | d :: ds, _, _, h, r => by
    cases h with
    | cons h1 h2 =>
      cases r with
      | cons r1 r2 =>
        obtain ⟨as, q1, n1⟩ := LD.reads I d _ _ h1 r1
        obtain ⟨bs, q2, n2⟩ := LDs.reads I ds _ _ h2 r2
        refine ⟨_, ReadsAll.cons q1 q2, fun z => ?_⟩
        rcases List.mem_append.mp z with z | z
        · exact n1 z
        · exact n2 z
end
end
/-- its type -/
def tyN : PyData → String
  | .none => "NoneType"
  | .bool _ => "bool"
  | .int _ => "int"
  | .str _ => "str"
  | .list _ => "list"
  | .tuple _ => "tuple"
  | .dict _ => "dict"
theorem LD.ty {K : PySem.W.Frag} {p : Addr} {H : Hp} {v : V} {d : PyData} (h : LD p H v d) : TyX K H v (.type (tyN d)) := by
  cases h with
  | non => exact .base .non
  | bl b => exact .base (.bl b)
  | int i => exact .base (.int i)
  | str x => exact .base (.str x)
  | tup n e r => exact .base (.tup e)
  | lst n m e r => exact .base (.lst e)
  | dic n e => exact .base (.dK e)
  | dct n e => exact .base (.dT e)
def isIntD : PyData → Bool
  | .int _ => true
  | .bool _ => true
  | _ => false
def isBoolD : PyData → Bool
  | .bool _ => true
  | _ => false
def isTupD : PyData → Bool
  | .tuple _ => true
  | _ => false
theorem kit_int (K : PySem.W.Frag) (d : PyData) : PySem.W.kitOne K (.type (tyN d)) (.type "int") = some (isIntD d) := by
  cases d <;> first | rfl | decide +kernel | kernel_rfl
theorem kit_bool (K : PySem.W.Frag) (d : PyData) : PySem.W.kitOne K (.type (tyN d)) (.type "bool") = some (isBoolD d) := by
  cases d <;> first | rfl | decide +kernel | kernel_rfl
theorem kit_tup (K : PySem.W.Frag) (d : PyData) : PySem.W.kitOne K (.type (tyN d)) (.type "tuple") = some (isTupD d) := by
  cases d <;> first | rfl | decide +kernel | kernel_rfl
section
variable {X : Cx}
/-- isinstance(x, T) -/
def rIsL (T : String) (f : PyData → Bool) : List V → Hp → VK → Prop := fun xs H Q => ∃ p v d, xs = [v, .ty T] ∧ LD p H v d ∧ Q (.bl (f d)) H
theorem call_isL {T : String} {f : PyData → Bool} (hf : ∀ K d, PySem.W.kitOne K (.type (tyN d)) (.type T) = some (f d)) : CallR X (.builtin "isinstance") (rIsL T f) := by
  intro pins s σ H xs us Q I r h
  obtain ⟨p, v, d, rfl, hv, q⟩ := h
  exact call_isi pins s σ H _ us Q I r ⟨v, .ty T, _, _, _, rfl, .ty T, hv.ty, hf _ d, q⟩
/-- repr -/
def rReprL : List V → Hp → VK → Prop := fun xs H Q => ∃ p v d, xs = [v] ∧ LD p H v d ∧ d.showable = true ∧ d.depth ≤ 60 ∧ d.shown.length ≤ sizeLine ∧ Q (.str d.shown) H
theorem call_reprL (gd : X.A.guards = some []) (hu : X.A.units + 64 < cLine) : CallR X (.builtin "repr") rReprL := by
  intro pins s σ H xs us Q I r h
  obtain ⟨p, v, d, rfl, hv, hs, hd, hz, q⟩ := h
  by_cases hn : d.hasDict = false ∧ ∀ a, v ≠ .ref a
  · have dp : Dp X.K H v d := by
      cases hv with
      | non => exact .non
      | bl b => exact .bl b
      | int i => exact .int i
      | str x => exact .str x
      | tup n e r => exact absurd rfl (hn.2 _)
      | lst n m e r => exact absurd rfl (hn.2 _)
      | dic n e => exact absurd rfl (hn.2 _)
      | dct n e => exact absurd rfl (hn.2 _)
    exact call_reprD gd hu pins s σ H _ us Q I r ⟨v, d, rfl, dp, hs, hn.1, hd, hz, q⟩
  · obtain ⟨a, rfl⟩ : ∃ a, v = .ref a := by
      cases hv with
      | non => exact absurd ⟨rfl, fun _ z => by cases z⟩ hn
      | bl b => exact absurd ⟨rfl, fun _ z => by cases z⟩ hn
      | int i => exact absurd ⟨rfl, fun _ z => by cases z⟩ hn
      | str x => exact absurd ⟨rfl, fun _ z => by cases z⟩ hn
      | tup n e r => exact ⟨_, rfl⟩
      | lst n m e r => exact ⟨_, rfl⟩
      | dic n e => exact ⟨_, rfl⟩
      | dct n e => exact ⟨_, rfl⟩
    obtain ⟨u, rfl, ru⟩ := vals1 r
    obtain rfl : u = Value.ref a := ru
    obtain ⟨as, rd, low⟩ := LD.reads I d _ _ hv rfl
    exact repr_of_reads' rd hs (fun _ => low) gd (by omega) (fun _ _ z => z) (fun h' u' tk hk => ⟨.str d.shown, H, I.kept (fun b o z => hk b o z), ⟨_, rfl⟩, q⟩) hz
/-- list(t), where it lies -/
def rLstL : List V → Hp → VK → Prop := fun xs H Q => ∃ a ys, xs = [.ref a] ∧ H a = some (.tup ys) ∧ ∀ l, H l = none → l ≠ sysModules → Q (.ref l) (upd H l (.lst ys))
theorem call_lstL : CallR X (.type "list") rLstL := by
  intro pins s σ H xs us Q I r h
  obtain ⟨a, ys, rfl, ha, q⟩ := h
  obtain ⟨u, rfl, rx⟩ := vals1 r
  obtain rfl : u = Value.ref a := rx
  obtain ⟨its, rv, ⟨o, ho, hc, n, hd⟩, hz⟩ := I.tuple (SqT.of ha)
  have hl := rv.length
  refine call_list_seq a (.inr rfl) ho hc hd (fun h' c' kp e => ?_) (by simp only [List.size_toArray] <;> omega)
  exact ⟨.ref s.heap.objs.size, _, I.laid (t' := s.toks) kp (Nat.le_refl _) (show ObjOk X.prog X.w _ h' _ (.lst ys) from ⟨hz, its, c', rv, e⟩), rfl, q _ (I.hok.fresh (Nat.le_refl _)) (Nat.ne_of_gt I.big)⟩
/-- t != () -/
def rNe0 : R2 := fun x y H Q => ∃ a b xs, x = .ref a ∧ y = .ref b ∧ H a = some (.tup xs) ∧ H b = some (.tup []) ∧ Q (.bl (!xs.isEmpty)) H
theorem op_ne0 (hu : X.A.units + 64 < cLine) : OpR X (compareOp .NotEq) rNe0 := by
  intro pins s σ H x y v u Q I rx ry h
  obtain ⟨a, b, xs, rfl, rfl, ha, hb, q⟩ := h
  cases rx
  cases ry
  obtain ⟨its, r1, t1, _⟩ := I.tuple (SqT.of ha)
  obtain ⟨its2, r2, t2, _⟩ := I.tuple (SqT.of hb)
  cases r2
  have l1 := r1.length
  refine SeqAt.RcNeAt.tuples (e := fun _ => true) t1 t2 (by omega) (fun j _ h2 => absurd h2 (Nat.not_lt_zero _)) X.prog X.w X.xe (EP X pins σ Q) ⟨.bl _, H, I, rfl, ?_⟩
  have e : (!((List.range (min its.toArray.size ([] : List Value).toArray.size)).all (fun _ => true) && its.toArray.size == ([] : List Value).toArray.size)) = !xs.isEmpty := by
    cases xs with
    | nil => cases r1; rfl
    | cons z zs => cases r1; simp
  rw [e]
  exact q
/-- two pairs of texts, != -/
def rNeS : R2 := fun x y H Q => ∃ a b s1 s2 t1 t2, x = .ref a ∧ y = .ref b ∧ H a = some (.tup [.str s1, .str s2]) ∧ H b = some (.tup [.str t1, .str t2]) ∧ Q (.bl (!(s1 == t1 && s2 == t2))) H
theorem op_neS (hu : X.A.units + 64 < cLine) : OpR X (compareOp .NotEq) rNeS := by
  intro pins s σ H x y v u Q I rx ry h
  obtain ⟨a, b, s1, s2, t1, t2, rfl, rfl, ha, hb, q⟩ := h
  cases rx
  cases ry
  obtain ⟨its, r1, T1, _⟩ := I.tuple (SqT.of ha)
  obtain ⟨its2, r2, T2, _⟩ := I.tuple (SqT.of hb)
  obtain ⟨a1, a2, rfl, ra1, ra2⟩ := vals2 r1
  obtain ⟨b1, b2, rfl, rb1, rb2⟩ := vals2 r2
  obtain ⟨k1, rfl⟩ := ra1
  obtain ⟨k2, rfl⟩ := ra2
  obtain ⟨k3, rfl⟩ := rb1
  obtain ⟨k4, rfl⟩ := rb2
  refine SeqAt.RcNeAt.tuples (e := fun j => if j = 0 then s1 == t1 else s2 == t2) T1 T2 (by omega) (fun j h1 h2 => ?_) X.prog X.w X.xe (EP X pins σ Q) ⟨.bl _, H, I, rfl, ?_⟩
  · match j, h1, h2 with
    | 0, _, _ => exact SeqAt.EqAt.str_str _ _ _ _
    | 1, _, _ => exact SeqAt.EqAt.str_str _ _ _ _
  · have e : ((List.range (min 2 2)).all (fun j => if j = 0 then s1 == t1 else s2 == t2) && (2 == 2 : Bool)) = (s1 == t1 && s2 == t2) := by
      simp [List.range, List.range.loop]
    show Q (.bl (!((List.range (min 2 2)).all (fun j => if j = 0 then s1 == t1 else s2 == t2) && (2 == 2 : Bool)))) H
    rw [e]
    exact q
/-- t[lo:hi], t + u -/
def rSlL (p : Addr) : V → Option Int → Option Int → Hp → VK → Prop := fun x lo hi H Q => ∃ ds, LD p H x (.tuple ds) ∧ H p ≠ none ∧ ∀ a H', Same H H' → LD p H' (.ref a) (.tuple (cutA ds lo hi)) → Q (.ref a) H'
theorem LDs.cut {p : Addr} {H : Hp} {xs : List V} {ds : List PyData} (h : LDs p H xs ds) (lo hi : Option Int) : LDs p H (cutV xs lo hi) (cutA ds lo hi) := by
  unfold cutV cutA
  rw [h.length]
  exact (h.drop _).take _
theorem LD.isTup {p : Addr} {H : Hp} {v : V} {ds : List PyData} (h : LD p H v (.tuple ds)) : ∃ a xs, v = .ref a ∧ a ≠ p ∧ H a = some (.tup xs) ∧ LDs p H xs ds := by
  cases h with
  | tup n e r => exact ⟨_, _, rfl, n, e, r⟩
theorem ne_at {p q : Addr} {H : Hp} (hp : H p ≠ none) (hq : H q = none) : q ≠ p := fun e => hp (e ▸ hq)
theorem sl_L {p : Addr} : SlR X (rSlL p) := by
  intro pins s σ H x v vl vu lo hi sl Q I rx hs pl pu h
  refine sl_tupA pins s σ H x v vl vu lo hi sl Q I rx hs pl pu ?_
  obtain ⟨ds, hT, hp, q⟩ := h
  obtain ⟨a, xs, rfl, n, ha, hx⟩ := hT.isTup
  refine ⟨a, xs, rfl, SqT.of ha, ?_, ?_⟩
  · rintro ⟨e1, e2⟩
    refine q a H (Same.refl H) ?_
    have e : cutA ds lo hi = ds := by
      unfold cutA
      rw [← hx.length, e1, e2, List.drop_zero, Nat.sub_zero]
      exact List.take_of_length_le (by rw [hx.length]; exact Nat.le_refl _)
    rw [e]
    exact hT
  · intro _ t nt
    exact q t _ (same_new nt) (.tup (ne_at hp nt) upd_same (LDs.mono (But.same (same_new nt)) _ (hx.cut lo hi)))
def rCatL (p : Addr) : R2 := fun x y H Q => ∃ ds es, LD p H x (.tuple ds) ∧ LD p H y (.tuple es) ∧ H p ≠ none ∧ ds.length + es.length ≤ 100000 ∧ ∀ a H', Same H H' → LD p H' (.ref a) (.tuple (ds ++ es)) → Q (.ref a) H'
theorem op_catL {p : Addr} : OpR X (binaryOp .Add) (rCatL p) := opImp op_catA fun x y H Q h => by
  obtain ⟨ds, es, h1, h2, hp, hl, q⟩ := h
  obtain ⟨a, xs, rfl, n1, ha, hx⟩ := h1.isTup
  obtain ⟨b, ys, rfl, n2, hb, hy⟩ := h2.isTup
  have lx := hx.length
  have ly := hy.length
  refine ⟨a, b, xs, ys, rfl, rfl, SqT.of ha, SqT.of hb, ?_, ?_, ?_, ?_⟩
  · rw [lx, ly]
    exact Nat.le_trans hl (by decide)
  · intro e
    subst e
    cases hx
    exact q b H (Same.refl H) h2
  · intro _ e
    subst e
    cases hy
    exact q a H (Same.refl H) (by rw [List.append_nil]; exact h1)
  · intro _ _ t nt
    exact q t _ (same_new nt) (.tup (ne_at hp nt) upd_same (LDs.mono (But.same (same_new nt)) _ (hx.app hy)))
end
/-! small enough to be shown -/
mutual
def wt : PyData → Nat
  | .list xs => wts xs + 1
  | .tuple xs => wts xs + 1
  | .dict _ => 1
  | _ => 1
def wts : List PyData → Nat
  | [] => 0
  | x :: r => wt x + wts r
end
mutual
def Sm : PyData → Prop
  | .int i => i.natAbs < 10 ^ 99
  | .str x => (reprText x).length ≤ 100
  | .list xs => Sms xs
  | .tuple xs => Sms xs
  | .dict kvs => kvs = []
  | _ => True
def Sms : List PyData → Prop
  | [] => True
  | x :: r => Sm x ∧ Sms r
end
theorem Sms.get : ∀ {ds : List PyData} {i : Nat} {d : PyData}, Sms ds → ds[i]? = some d → Sm d
  | _ :: _, 0, _, h, e => by simp at e; exact e ▸ h.1
  | _ :: r, i + 1, _, h, e => Sms.get (ds := r) (i := i) h.2 (by simpa using e)
theorem Sms.app : ∀ {ds es : List PyData}, Sms ds → Sms es → Sms (ds ++ es)
  | [], _, _, h => h
  | _ :: _, _, h, g => ⟨h.1, Sms.app h.2 g⟩
theorem Sms.take : ∀ {ds : List PyData} (n : Nat), Sms ds → Sms (ds.take n)
  | _, 0, _ => trivial
  | [], _ + 1, _ => trivial
  | _ :: _, n + 1, h => ⟨h.1, Sms.take n h.2⟩
theorem Sms.drop : ∀ {ds : List PyData} (n : Nat), Sms ds → Sms (ds.drop n)
  | _, 0, h => h
  | [], _ + 1, _ => trivial
  | _ :: _, n + 1, h => Sms.drop n h.2
theorem wts_app : ∀ (ds es : List PyData), wts (ds ++ es) = wts ds + wts es
  | [], es => by simp [wts]
  | d :: r, es => by
    simp only [List.cons_append, wts, wts_app r es]
    omega
theorem wts_take_drop (ds : List PyData) (n : Nat) : wts (ds.take n) + wts (ds.drop n) = wts ds := by
  rw [← wts_app, List.take_append_drop]
theorem wts_get : ∀ {ds : List PyData} {i : Nat} {d : PyData}, ds[i]? = some d → wt d ≤ wts ds
  | _ :: _, 0, _, e => by
    simp at e
    subst e
    simp only [wts]
    omega
  | _ :: r, i + 1, _, e => by
    have := wts_get (ds := r) (i := i) (by simpa using e)
    simp only [wts]
    omega
theorem depthAll_app : ∀ (ds es : List PyData), PyData.depthAll (ds ++ es) = max (PyData.depthAll ds) (PyData.depthAll es)
  | [], es => by simp [PyData.depthAll]
  | d :: r, es => by
    simp only [List.cons_append, PyData.depthAll, depthAll_app r es]
    omega
theorem depth_get : ∀ {ds : List PyData} {i : Nat} {d : PyData}, ds[i]? = some d → d.depth ≤ PyData.depthAll ds
  | _ :: _, 0, _, e => by
    simp at e
    subst e
    simp only [PyData.depthAll]
    omega
  | _ :: r, i + 1, _, e => by
    have := depth_get (ds := r) (i := i) (by simpa using e)
    simp only [PyData.depthAll]
    omega
theorem depth_cut (ds : List PyData) (n : Nat) : PyData.depthAll (ds.take n) ≤ PyData.depthAll ds ∧ PyData.depthAll (ds.drop n) ≤ PyData.depthAll ds := by
  have h := depthAll_app (ds.take n) (ds.drop n)
  rw [List.take_append_drop] at h
  omega
mutual
theorem sm_shown : ∀ d : PyData, Sm d → d.showable = true ∧ d.shown.length + 2 ≤ 110 * wt d
  | .none, _ => ⟨rfl, by decide⟩
  | .bool b, _ => ⟨rfl, by cases b <;> decide⟩
  | .int i, h => by
    have n := Nice.int h
    refine ⟨n.sho, ?_⟩
    have := n.len
    show _ ≤ 110 * 1
    omega
  | .str x, h => by
    refine ⟨rfl, ?_⟩
    have h' : (reprText x).length ≤ 100 := h
    show (reprText x).length + 2 ≤ 110 * 1
    omega
  | .list xs, h => by
    obtain ⟨a, b, c⟩ := sms_shown xs h
    refine ⟨a, ?_⟩
    have l := listText_len_le (PyData.shownAll xs)
    simp only [PyData.shown, wt]
    omega
  | .tuple xs, h => by
    obtain ⟨a, b, c⟩ := sms_shown xs h
    refine ⟨a, ?_⟩
    have l := tupleText_len_le (PyData.shownAll xs)
    simp only [PyData.shown, wt]
    omega
  | .dict kvs, h => by
    have h' : kvs = [] := h
    subst h'
    exact ⟨rfl, by decide⟩
theorem sms_shown : ∀ ds : List PyData, Sms ds → PyData.showableAll ds = true ∧ ((PyData.shownAll ds).map (·.length)).sum + 2 * (PyData.shownAll ds).length ≤ 110 * wts ds ∧ (PyData.shownAll ds).length = ds.length
  | [], _ => ⟨rfl, by decide, rfl⟩
  | d :: ds, h => by
    obtain ⟨a, b⟩ := sm_shown d h.1
    obtain ⟨c, e, f⟩ := sms_shown ds h.2
    refine ⟨by simp only [PyData.showableAll, a, c, Bool.and_self], ?_, by simp only [PyData.shownAll, List.length_cons, f]⟩
    simp only [PyData.shownAll, List.map_cons, List.sum_cons, List.length_cons, wts]
    omega
end
end Sb

/-! t * k for tuples of data, the empty one too. -/
namespace Sb
open PySem PySem.Spec PyProof.Rows L2
theorem tuple_mul0 (l : Addr) (n : Nat) (dd : Option Addr) (sl : Array (Option Value)) (x : Int) (u : Tok) (hx : -(2 ^ 63) ≤ x ∧ x < 2 ^ 63) :
    Meets (Builtin.«tuple.__mul__» ⟨[.ref l, .int x u], []⟩) (fun _ R s => s.heap.get? l = some { cls := .type "tuple", dict := dd, data := .seq #[] n, slots := sl } ∧ R (.ok (.ret (Value.ref l))) s) :=
  .of_wp fun P w A R s h => by
    obtain ⟨hp, g, d, tk, os⟩ := s
    obtain ⟨hl, h⟩ := h
    have f1 := AutoSeq1.idx_int
    have c0 : (decide (x < -(2 ^ 63)) || decide (x ≥ 2 ^ 63)) = false := by
      rw [decide_eq_false (by omega), decide_eq_false (by omega)] <;> rfl
    wp_walk using wpAny_loadPart' hl
    refine wpAny_ite_false (decide_eq_false (by rw [c0]; exact Bool.false_ne_true)) ?_
    wp_walk using wpAny_loadPart' hl
    exact ⟨_, rfl, h⟩
theorem TDs.flat {H : Hp} {xs : List V} {ds : List PyData} (h : TDs H xs ds) : ∀ k, TDs H (List.replicate k xs).flatten (List.replicate k ds).flatten
  | 0 => .nil
  | k + 1 => h.app (h.flat k)
def rMulD : R2 := fun x y H Q => ∃ ds k, TD H x (.tuple ds) ∧ y = .int k ∧ 2 ≤ k ∧ k ≤ 1000 ∧ ds.length ≤ 1000 ∧ ∀ p H', Same H H' → TD H' (.ref p) (.tuple (List.replicate k.toNat ds).flatten) → Q (.ref p) H'
section
variable {X : Cx}
theorem op_mulD : OpR X (binaryOp .Mult) rMulD := by
  intro pins s σ H x y v u Q I rx ry h
  obtain ⟨ds, k, hT, rfl, h1, h2, hz, q⟩ := h
  obtain ⟨l, xs, rfl, hl, hx⟩ := hT.isTup
  have lx := hx.length
  by_cases hne : xs = []
  · subst hne
    cases hx
    cases rx
    obtain ⟨t, rfl⟩ := ry
    obtain ⟨its, r, ⟨⟨cls, dd, data, sl⟩, ho, hc, n, hd⟩, hs⟩ := I.tuple (SqT.of hl)
    cases r
    simp only at hc hd
    subst hc hd
    refine wpAny_binaryOp_repeat_ref (T := "tuple") (U := "int") (by decide) ⟨_, ho, rfl⟩ (fun s' => typeIs_int s' k t) noFill_tuple_mul PySem.F.fills_int_mul PySem.F.slot_int_rmul repeat_tuple PySem.F.slot_int_index.lookup
      (call_meets PySem.F.slot_int_rmul (typeIs_int s k t) PySem.F.entry_int_rmul (PySem.F.args_int_rmul_2 _ _) (int_rmul_tuple k t l #[] n dd sl)
        ⟨ho, rfl, ⟨_, ho, rfl⟩, call_meets PySem.F.slot_tuple_mul ⟨_, ho, rfl⟩ PySem.F.entry_tuple_mul (PySem.F.args_tuple_mul_2 _ _) (tuple_mul0 l n dd sl k t (by omega)) ⟨ho, ?_⟩⟩)
    refine ⟨.ref l, H, I, rfl, q l H (Same.refl H) ?_⟩
    have e : (List.replicate k.toNat ([] : List PyData)).flatten = [] := by simp
    rw [e]
    exact hT
  · exact op_repT pins s σ H _ _ v u Q I rx ry ⟨l, k, xs, rfl, rfl, SqT.of hl, hne, h1, h2, by omega, fun p np => q p _ (same_new np) (.tup upd_same (TDs.mono (Tups.new np) _ (hx.flat k.toNat)))⟩
end
end Sb

/-! Texts of streams: written, cut, read back. -/
namespace Sb
open PySem PySem.Spec PyProof.Rows L2 TL
/-! ### a number's signs -/
def intL (v : Int) : List Nat := if v < 0 then 45 :: numL v.natAbs else numL v.natAbs
theorem tl_int (v : Int) : tl (Str.ofString (toString v)) = intL v := by
  unfold intL
  by_cases h : v < 0
  · rw [if_pos h]
    obtain ⟨n, rfl⟩ : ∃ n : Nat, v = -((n + 1 : Nat) : Int) := ⟨v.natAbs - 1, by omega⟩
    rw [tl_ofString]
    have e : (toString (-((n + 1 : Nat) : Int))) = "-" ++ toString (((n + 1 : Nat) : Int)) := rfl
    rw [e, String.toList_append, List.map_append]
    have e2 := tl_num (n + 1)
    rw [tl_ofString] at e2
    rw [e2]
    have e3 : (-((n + 1 : Nat) : Int)).natAbs = n + 1 := by omega
    rw [e3]
    rfl
  · rw [if_neg h]
    obtain ⟨n, rfl⟩ : ∃ n : Nat, v = (n : Int) := ⟨v.natAbs, by omega⟩
    rw [tl_num]
    rfl
theorem numL_head0 : ∀ n : Nat, n ≠ 0 → ∃ c r, numL n = c :: r ∧ c ≠ 48 := by
  intro n
  induction n using Nat.strongRecOn with
  | _ n ih =>
    intro h0
    by_cases h : n < 10
    · exact ⟨48 + n, [], numL_lt h, by omega⟩
    · obtain ⟨c, r, e, hc⟩ := ih (n / 10) (by omega) (by omega)
      exact ⟨c, r ++ [48 + n % 10], by rw [numL_step (by omega), e]; rfl, hc⟩
theorem digitsVal_snoc (l : List Nat) (c : Nat) : NumText.digitsVal (l ++ [c]) = NumText.digitsVal l * 10 + (c - 48) := by
  unfold NumText.digitsVal
  rw [List.foldl_append]
  rfl
theorem digitsVal_pos : ∀ (l : List Nat) (a : Nat), 0 < a → 0 < l.foldl (fun acc c => acc * 10 + (c - 48)) a
  | [], _, h => h
  | c :: r, a, h => digitsVal_pos r (a * 10 + (c - 48)) (Nat.lt_of_lt_of_le (by omega : 0 < a * 10) (Nat.le_add_right _ _))
/-- signs that are a number's own -/
def Canon (l : List Nat) : Prop := NumText.AllDigits l ∧ l ≠ [] ∧ (l.head? ≠ some 48 ∨ l = [48])
theorem canon_numL (n : Nat) : Canon (numL n) := by
  refine ⟨numL_digits n, numL_ne n, ?_⟩
  by_cases h : n = 0
  · subst h
    exact .inr (numL_lt (by decide))
  · obtain ⟨c, r, e, hc⟩ := numL_head0 n h
    rw [e]
    exact .inl (fun z => hc (Option.some.inj z))
theorem canon_back : ∀ (k : Nat) (l : List Nat), l.length = k → Canon l → numL (NumText.digitsVal l) = l := by
  intro k
  induction k with
  | zero =>
    intro l hl h
    exact absurd (List.length_eq_zero_iff.mp hl) h.2.1
  | succ k ih =>
    intro l hl h
    obtain ⟨h1, h2, h3⟩ := h
    obtain ⟨r, c, rfl⟩ : ∃ r c, l = r ++ [c] := by
      rcases List.eq_nil_or_concat l with e | ⟨r, c, e⟩
      · exact absurd e h2
      · exact ⟨r, c, by rw [e, List.concat_eq_append]⟩
    have hc := h1 c (List.mem_append_right _ (List.mem_singleton.mpr rfl))
    rw [digitsVal_snoc]
    by_cases hr : r = []
    · subst hr
      show numL (0 * 10 + (c - 48)) = [c]
      rw [Nat.zero_mul, Nat.zero_add, numL_lt (by omega)]
      congr 1
      omega
    · have hr3 : r.head? ≠ some 48 := by
        rcases h3 with h3 | h3
        · intro z
          apply h3
          rw [List.head?_append, z]
          rfl
        · exfalso
          have := congrArg List.length h3
          rw [List.length_append] at this
          cases r with
          | nil => exact hr rfl
          | cons a b => simp at this
      have hcan : Canon r := ⟨fun d hd => h1 d (List.mem_append_left _ hd), hr, .inl hr3⟩
      have er := ih r (by rw [List.length_append] at hl; simp only [List.length_cons, List.length_nil] at hl; omega) hcan
      have hpos : 0 < NumText.digitsVal r := by
        cases r with
        | nil => exact absurd rfl hr
        | cons a b =>
          have ha := hcan.1 a List.mem_cons_self
          have : a ≠ 48 := fun z => hr3 (by rw [z]; rfl)
          show 0 < List.foldl (fun acc c => acc * 10 + (c - 48)) (0 * 10 + (a - 48)) b
          exact digitsVal_pos b _ (by omega)
      rw [numL_step (by omega)]
      have e1 : (NumText.digitsVal r * 10 + (c - 48)) / 10 = NumText.digitsVal r := by omega
      have e2 : (NumText.digitsVal r * 10 + (c - 48)) % 10 = c - 48 := by omega
      rw [e1, e2, er]
      congr 2
      omega
/-- the number that signs tell, with a minus ahead or not -/
def valOf : List Nat → Int
  | 45 :: r => -((NumText.digitsVal r : Nat) : Int)
  | l => ((NumText.digitsVal l : Nat) : Int)
/-- the digits of a value's signs -/
def digOf : List Nat → List Nat
  | 45 :: r => r
  | l => l
def allDig (l : List Nat) : Bool := l.all fun c => decide (48 ≤ c) && decide (c ≤ 57)
theorem allDig_iff {l : List Nat} : allDig l = true ↔ NumText.AllDigits l := by
  unfold allDig NumText.AllDigits
  rw [List.all_eq_true]
  constructor
  · intro h c hc
    have := h c hc
    simp only [Bool.and_eq_true, decide_eq_true_eq] at this
    exact this
  · intro h c hc
    have := h c hc
    simp only [Bool.and_eq_true, decide_eq_true_eq]
    exact this
/-- signs of a value as it is written -/
def goodVal (l : List Nat) : Bool := decide ((digOf l).length ≤ 60) && allDig (digOf l) && ((match digOf l with | [] => false | c :: _ => !decide (c = 48)) || decide (l = [48]))
theorem goodVal_ne {l : List Nat} (h : goodVal l = true) : digOf l ≠ [] := by
  intro z
  unfold goodVal at h
  rw [z] at h
  simp only [Bool.and_eq_true, Bool.or_eq_true, decide_eq_true_eq, Bool.false_eq_true, false_or] at h
  rw [h.2] at z
  cases z
theorem digOf_minus (r : List Nat) : digOf (45 :: r) = r := rfl
theorem valOf_minus (r : List Nat) : valOf (45 :: r) = -((NumText.digitsVal r : Nat) : Int) := rfl
theorem digOf_else {l : List Nat} (h : l.head? ≠ some 45) : digOf l = l := by
  unfold digOf
  split
  · exact absurd rfl h
  · rfl
theorem valOf_else {l : List Nat} (h : l.head? ≠ some 45) : valOf l = ((NumText.digitsVal l : Nat) : Int) := by
  unfold valOf
  split
  · exact absurd rfl h
  · rfl
theorem minus_or (l : List Nat) : (∃ r, l = 45 :: r) ∨ l.head? ≠ some 45 := by
  cases l with
  | nil => exact .inr (fun z => by cases z)
  | cons c r =>
    by_cases h : c = 45
    · exact .inl ⟨r, by rw [h]⟩
    · exact .inr (fun z => h (Option.some.inj z))
theorem goodVal_back {l : List Nat} (h : goodVal l = true) : intL (valOf l) = l := by
  have hne := goodVal_ne h
  unfold goodVal at h
  simp only [Bool.and_eq_true, Bool.or_eq_true, decide_eq_true_eq] at h
  obtain ⟨⟨h1, h2⟩, h3⟩ := h
  have h2 := allDig_iff.mp h2
  rcases minus_or l with ⟨r, rfl⟩ | hm
  · rw [digOf_minus] at h1 h2 h3 hne
    have h4 : r.head? ≠ some 48 := by
      rcases h3 with h3 | h3
      · cases r with
        | nil => exact absurd rfl hne
        | cons c s =>
          intro z
          cases Option.some.inj z
          simp at h3
      · cases h3
    have hc : Canon r := ⟨h2, hne, .inl h4⟩
    have e := canon_back _ r rfl hc
    have hp : 0 < NumText.digitsVal r := by
      rcases Nat.eq_zero_or_pos (NumText.digitsVal r) with z | z
      · exfalso
        rw [z, numL_lt (by decide)] at e
        rw [← e] at h4
        exact h4 rfl
      · exact z
    rw [valOf_minus]
    unfold intL
    rw [if_pos (by omega)]
    have : (-((NumText.digitsVal r : Nat) : Int)).natAbs = NumText.digitsVal r := by omega
    rw [this, e]
  · rw [digOf_else hm] at h1 h2 h3 hne
    have hc : Canon l := by
      refine ⟨h2, hne, ?_⟩
      rcases h3 with h3 | h3
      · cases l with
        | nil => exact absurd rfl hne
        | cons c s =>
          refine .inl fun z => ?_
          cases Option.some.inj z
          simp at h3
      · exact .inr h3
    rw [valOf_else hm]
    unfold intL
    rw [if_neg (by omega)]
    exact canon_back _ l rfl hc
theorem intL_head (n : Nat) : (numL n).head? ≠ some 45 := by
  intro z
  cases e : numL n with
  | nil => exact numL_ne n e
  | cons c r =>
    rw [e] at z
    cases Option.some.inj z
    have := numL_digits n 45 (by rw [e]; exact List.mem_cons_self)
    omega
theorem goodVal_int {v : Int} (h : v.natAbs < 10 ^ 60) : goodVal (intL v) = true ∧ valOf (intL v) = v := by
  have hl := numL_len (n := v.natAbs) (k := 60) (by decide) h
  have hc := canon_numL v.natAbs
  unfold intL
  by_cases hv : v < 0
  · rw [if_pos hv]
    constructor
    · unfold goodVal
      rw [digOf_minus]
      simp only [Bool.and_eq_true, Bool.or_eq_true, decide_eq_true_eq]
      refine ⟨⟨hl, allDig_iff.mpr hc.1⟩, .inl ?_⟩
      obtain ⟨c, r, e, h48⟩ := numL_head0 v.natAbs (by omega)
      rw [e]
      simp only [Bool.not_eq_true', decide_eq_false_iff_not]
      exact h48
    · rw [valOf_minus, numL_val]
      omega
  · rw [if_neg hv]
    constructor
    · unfold goodVal
      rw [digOf_else (intL_head _)]
      simp only [Bool.and_eq_true, Bool.or_eq_true, decide_eq_true_eq]
      refine ⟨⟨hl, allDig_iff.mpr hc.1⟩, ?_⟩
      rcases hc.2.2 with h3 | h3
      · left
        cases e : numL v.natAbs with
        | nil => exact absurd e hc.2.1
        | cons c r =>
          rw [e] at h3
          simp only [Bool.not_eq_true', decide_eq_false_iff_not]
          exact fun z => h3 (by rw [z]; rfl)
      · exact .inr h3
    · rw [valOf_else (intL_head _), numL_val]
      omega
theorem goodVal_free {l : List Nat} (h : goodVal l = true) {s : Nat} (hs : s < 45 ∨ s = 46 ∨ s = 47 ∨ 57 < s) : s ∉ l := by
  unfold goodVal at h
  simp only [Bool.and_eq_true, Bool.or_eq_true, decide_eq_true_eq] at h
  have h2 := allDig_iff.mp h.1.2
  rcases minus_or l with ⟨r, rfl⟩ | hm
  · rw [digOf_minus] at h2
    intro z
    rcases List.mem_cons.mp z with e | z
    · omega
    · have := h2 s z
      omega
  · rw [digOf_else hm] at h2
    intro z
    have := h2 s z
    omega
/-! ### messages -/
abbrev cS : Str := Str.ofString ":"
abbrev spS : Str := Str.ofString " "
abbrev miS : Str := Str.ofString "-"
def msgS (m : Int × Int) : Str := Str.ofString (toString m.1) ++ cS ++ Str.ofString (toString m.2)
def textOf (ms : List (Int × Int)) : Str := if ms = [] then miS else Txt.join spS (ms.map msgS)
/-- a part of a text that is a message -/
def goodPart (many : Int) : List Nat → Bool
  | c :: 58 :: v => decide (48 ≤ c) && decide (c ≤ 53) && decide ((c : Int) - 48 < many) && goodVal v
  | _ => false
def msgOf : List Nat → Int × Int
  | c :: 58 :: v => ((c : Int) - 48, valOf v)
  | _ => (0, 0)
def goodText (many : Int) (z : Str) : Bool := decide (z = miS) || (Txt.split z spS).all fun p => goodPart many (tl p)
def msgsOf (z : Str) : List (Int × Int) := if z = miS then [] else (Txt.split z spS).map fun p => msgOf (tl p)
theorem tl_msg (m : Int × Int) : tl (msgS m) = intL m.1 ++ 58 :: intL m.2 := by
  unfold msgS
  rw [tl_append, tl_append, tl_int, tl_int, List.append_assoc]
  rfl
theorem intL_word {w : Int} (h0 : 0 ≤ w) (h1 : w < 10) : intL w = [48 + w.toNat] := by
  unfold intL
  rw [if_neg (by omega), numL_lt (by omega)]
  congr 2
  omega
theorem goodPart_msg {many : Int} {m : Int × Int} (h0 : 0 ≤ m.1) (h1 : m.1 < many) (h2 : m.1 < 6) (hv : m.2.natAbs < 10 ^ 60) : goodPart many (tl (msgS m)) = true ∧ msgOf (tl (msgS m)) = m := by
  have g := goodVal_int hv
  rw [tl_msg, intL_word h0 (by omega)]
  show (decide (48 ≤ 48 + m.1.toNat) && decide (48 + m.1.toNat ≤ 53) && decide (((48 + m.1.toNat : Nat) : Int) - 48 < many) && goodVal (intL m.2)) = true ∧ ((((48 + m.1.toNat : Nat) : Int) - 48, valOf (intL m.2)) : Int × Int) = m
  constructor
  · rw [g.1, decide_eq_true (by omega), decide_eq_true (by omega), decide_eq_true (by omega)]
    rfl
  · rw [g.2]
    have : (((48 + m.1.toNat : Nat) : Int) - 48) = m.1 := by omega
    rw [this]
theorem goodPart_form {many : Int} {l : List Nat} (h : goodPart many l = true) : ∃ c v, l = c :: 58 :: v ∧ 48 ≤ c ∧ c ≤ 53 ∧ (c : Int) - 48 < many ∧ goodVal v = true := by
  unfold goodPart at h
  split at h
  · rename_i c v
    simp only [Bool.and_eq_true, decide_eq_true_eq] at h
    exact ⟨c, v, rfl, h.1.1.1, h.1.1.2, h.1.2, h.2⟩
  · cases h
theorem msg_back {many : Int} {p : Str} (h : goodPart many (tl p) = true) : msgS (msgOf (tl p)) = p := by
  obtain ⟨c, v, e, h1, h2, h3, h4⟩ := goodPart_form h
  refine ext_tl ?_
  rw [tl_msg, e]
  show intL ((c : Int) - 48) ++ 58 :: intL (valOf v) = c :: 58 :: v
  rw [intL_word (by omega) (by omega), goodVal_back h4]
  have : 48 + ((c : Int) - 48).toNat = c := by omega
  rw [this]
  rfl
theorem msg_free {m : Int × Int} (h0 : 0 ≤ m.1) (h2 : m.1 < 6) (hv : m.2.natAbs < 10 ^ 60) : 32 ∉ tl (msgS m) := by
  have g := goodVal_int hv
  rw [tl_msg, intL_word h0 (by omega)]
  intro z
  rcases List.mem_append.mp z with z | z
  · have := List.mem_singleton.mp z
    omega
  · rcases List.mem_cons.mp z with z | z
    · omega
    · exact goodVal_free g.1 (.inl (by decide)) z
theorem sp_kind : spS.cps.all (· < 256) = true := by decide +kernel
theorem c_kind : cS.cps.all (· < 256) = true := by decide +kernel
theorem tl_sp : tl spS = 32 :: [] := by decide +kernel
theorem tl_c : tl cS = 58 :: [] := by decide +kernel
theorem tl_mi : tl miS = 45 :: [] := by decide +kernel
def InRange (many : Int) (ms : List (Int × Int)) : Prop := ∀ m ∈ ms, 0 ≤ m.1 ∧ m.1 < many ∧ m.2.natAbs < 10 ^ 60
theorem split_text {many : Int} {ms : List (Int × Int)} (hm : many ≤ 6) (h : InRange many ms) (hne : ms ≠ []) : Txt.split (Txt.join spS (ms.map msgS)) spS = ms.map msgS := by
  refine split_join tl_sp sp_kind (fun z => hne (List.map_eq_nil_iff.mp z)) fun p hp => ?_
  obtain ⟨m, hm', rfl⟩ := List.mem_map.mp hp
  obtain ⟨a, b, c⟩ := h m hm'
  exact msg_free a (by omega) c
theorem join_ne {many : Int} {ms : List (Int × Int)} (hm : many ≤ 6) (h : InRange many ms) (hne : ms ≠ []) : Txt.join spS (ms.map msgS) ≠ miS := by
  intro z
  have e := split_text hm h hne
  have e2 : Txt.split miS spS = [miS] := by decide +kernel
  rw [z, e2] at e
  cases ms with
  | nil => exact hne rfl
  | cons m r =>
    simp only [List.map_cons, List.cons.injEq] at e
    have := congrArg tl e.1
    rw [tl_mi, tl_msg] at this
    obtain ⟨a, b, c⟩ := h m List.mem_cons_self
    rw [intL_word a (by omega)] at this
    simp at this
theorem text_good {many : Int} {ms : List (Int × Int)} (hm : many ≤ 6) (h : InRange many ms) : goodText many (textOf ms) = true ∧ msgsOf (textOf ms) = ms := by
  unfold textOf goodText msgsOf
  by_cases hne : ms = []
  · subst hne
    exact ⟨by rw [if_pos rfl, decide_eq_true rfl]; rfl, by rw [if_pos rfl, if_pos rfl]⟩
  · rw [if_neg hne, if_neg (join_ne hm h hne), split_text hm h hne]
    constructor
    · rw [List.all_map, Bool.or_eq_true]
      right
      rw [List.all_eq_true]
      intro m hm'
      obtain ⟨a, b, c⟩ := h m hm'
      exact (goodPart_msg a b (by omega) c).1
    · rw [List.map_map]
      conv => rhs; rw [← List.map_id ms]
      refine List.map_congr_left fun m hm' => ?_
      obtain ⟨a, b, c⟩ := h m hm'
      exact (goodPart_msg a b (by omega) c).2
theorem spl_len (S : List Nat) : ∀ (l : List Nat) (k : Nat) (acc : List Nat), (spl S k acc l).length ≤ l.length + 1 ∧ 1 ≤ (spl S k acc l).length ∧ ∀ p ∈ spl S k acc l, p.length ≤ acc.length + l.length
  | [], k, acc => by
    rw [spl_nil]
    refine ⟨Nat.le_refl _, Nat.le_refl _, fun p hp => ?_⟩
    rw [List.mem_singleton.mp hp]
    exact Nat.le_add_right _ _
  | c :: r, 0, acc => by
    by_cases h : pre S (c :: r) = true
    · rw [spl_hit h]
      obtain ⟨a, b, d⟩ := spl_len S r (S.length - 1) []
      simp only [List.length_cons]
      refine ⟨by omega, by omega, fun p hp => ?_⟩
      rcases List.mem_cons.mp hp with e | hp
      · rw [e]
        omega
      · have := d p hp
        simp only [List.length_nil] at this
        omega
    · rw [spl_miss (by cases e : pre S (c :: r) with | true => exact absurd e h | false => rfl)]
      obtain ⟨a, b, d⟩ := spl_len S r 0 (acc ++ [c])
      simp only [List.length_cons]
      refine ⟨by omega, by omega, fun p hp => ?_⟩
      have := d p hp
      simp only [List.length_append, List.length_cons, List.length_nil] at this
      omega
  | c :: r, k + 1, acc => by
    show (spl S k acc r).length ≤ _ ∧ 1 ≤ (spl S k acc r).length ∧ ∀ p ∈ spl S k acc r, _
    obtain ⟨a, b, d⟩ := spl_len S r k acc
    simp only [List.length_cons]
    refine ⟨by omega, by omega, fun p hp => ?_⟩
    have := d p hp
    omega
theorem split_len {x y : Str} (hy : tl y ≠ []) (hk : y.cps.all (· < 256) = true) : (Txt.split x y).length ≤ x.length + 1 ∧ 1 ≤ (Txt.split x y).length ∧ ∀ p ∈ Txt.split x y, p.length ≤ x.length := by
  have e := split_spl x y hy (kind_ok hk)
  obtain ⟨a, b, d⟩ := spl_len (tl y) (tl x) 0 []
  rw [← e, List.length_map] at a b
  rw [← len_tl] at a
  refine ⟨a, b, fun p hp => ?_⟩
  have := d (tl p) (by rw [← e]; exact List.mem_map.mpr ⟨p, hp, rfl⟩)
  rw [← len_tl, ← len_tl] at this
  simpa using this
theorem split_ne (x : Str) : Txt.split x spS ≠ [] := by
  intro z
  have := (split_len (x := x) (y := spS) (by rw [tl_sp]; simp) sp_kind).2.1
  rw [z] at this
  exact absurd this (by decide)
theorem fold_lt : ∀ (l : List Nat) (a k : Nat), NumText.AllDigits l → a < 10 ^ k → l.foldl (fun acc c => acc * 10 + (c - 48)) a < 10 ^ (k + l.length)
  | [], _, _, _, h => h
  | c :: r, a, k, h, ha => by
    have hc := h.head
    have e : 10 ^ (k + (c :: r).length) = 10 ^ (k + 1 + r.length) := by
      congr 1
      simp only [List.length_cons]
      omega
    rw [e]
    refine fold_lt r (a * 10 + (c - 48)) (k + 1) h.tail ?_
    rw [Nat.pow_succ]
    omega
theorem goodVal_lt {l : List Nat} (h : goodVal l = true) : (valOf l).natAbs < 10 ^ 60 := by
  unfold goodVal at h
  simp only [Bool.and_eq_true, Bool.or_eq_true, decide_eq_true_eq] at h
  obtain ⟨⟨h1, h2⟩, h3⟩ := h
  have h2 := allDig_iff.mp h2
  have key : ∀ d : List Nat, d.length ≤ 60 → NumText.AllDigits d → NumText.digitsVal d < 10 ^ 60 := fun d hd ha => by
    have := fold_lt d 0 0 ha (by decide)
    unfold NumText.digitsVal
    rw [Nat.zero_add] at this
    exact Nat.lt_of_lt_of_le this (Nat.pow_le_pow_right (by decide) hd)
  rcases minus_or l with ⟨r, rfl⟩ | hm
  · rw [digOf_minus] at h1 h2
    rw [valOf_minus]
    have := key r h1 h2
    omega
  · rw [digOf_else hm] at h1 h2
    rw [valOf_else hm]
    have := key l h1 h2
    omega
theorem good_back {many : Int} {z : Str} (h : goodText many z = true) : textOf (msgsOf z) = z := by
  unfold goodText at h
  unfold textOf msgsOf
  by_cases hz : z = miS
  · rw [if_pos hz, if_pos rfl, hz]
  · rw [if_neg hz, if_neg (fun e => split_ne z (List.map_eq_nil_iff.mp e)), List.map_map]
    rw [decide_eq_false hz, Bool.false_or, List.all_eq_true] at h
    have : (Txt.split z spS).map (msgS ∘ fun p => msgOf (tl p)) = Txt.split z spS := by
      conv => rhs; rw [← List.map_id (Txt.split z spS)]
      exact List.map_congr_left fun p hp => msg_back (h p hp)
    rw [this, join_eq, PySem.StrLaws.join_split]
theorem good_range {many : Int} {z : Str} (h : goodText many z = true) : InRange many (msgsOf z) := by
  unfold goodText at h
  unfold msgsOf
  by_cases hz : z = miS
  · rw [if_pos hz]
    exact fun _ z => by cases z
  · rw [if_neg hz]
    rw [decide_eq_false hz, Bool.false_or, List.all_eq_true] at h
    intro m hm
    obtain ⟨p, hp, rfl⟩ := List.mem_map.mp hm
    obtain ⟨c, v, e, h1, h2, h3, h4⟩ := goodPart_form (h p hp)
    rw [e]
    show 0 ≤ (c : Int) - 48 ∧ (c : Int) - 48 < many ∧ (valOf v).natAbs < 10 ^ 60
    exact ⟨by omega, h3, goodVal_lt h4⟩
end Sb

/-! What the parts of a text are asked. -/
namespace Sb
open PySem PySem.Spec PyProof.Rows L2 TL
theorem starts_minus (z : Str) : Txt.startswith z miS = decide ((tl z).head? = some 45) := by
  have hl : miS.length = 1 := by decide +kernel
  unfold Txt.startswith
  rw [PySem.StrLaws.subAt_eq, hl, List.drop_zero, show miS.cps.toList = [45] from tl_mi]
  have e : z.length = (tl z).length := len_tl z
  rw [e]
  show (decide (0 + 1 ≤ (tl z).length) && ((tl z).take 1 == [45])) = _
  cases tl z with
  | nil => rfl
  | cons c r =>
    simp only [List.length_cons, List.take_succ_cons, List.take_zero, List.head?_cons, Option.some.injEq]
    rw [decide_eq_true (by omega), Bool.true_and]
    by_cases h : c = 45
    · subst h; rfl
    · rw [decide_eq_false h]
      exact beq_eq_false_iff_ne.mpr (fun z => h (List.cons.inj z).1)
theorem tl_cut_from (z : Str) (k : Nat) : tl (cutS z (some (k : Int)) none) = (tl z).drop k := by
  unfold cutS
  rw [HT.sIx_nat, HT.sIx_none]
  show ((tl z).drop (min k z.length)).take (z.length - min k z.length) = (tl z).drop k
  rw [len_tl]
  by_cases h : k ≤ (tl z).length
  · rw [Nat.min_eq_left h]
    exact List.take_of_length_le (by rw [List.length_drop]; exact Nat.le_refl _)
  · rw [Nat.min_eq_right (by omega), List.drop_eq_nil_of_le (Nat.le_refl _), List.drop_eq_nil_of_le (by omega), List.take_nil]
theorem tl_cut_to (z : Str) (k : Nat) : tl (cutS z none (some (k : Int))) = (tl z).take k := by
  unfold cutS
  rw [HT.sIx_nat, HT.sIx_none]
  show ((tl z).drop 0).take (min k z.length - 0) = (tl z).take k
  rw [len_tl, List.drop_zero, Nat.sub_zero]
  by_cases h : k ≤ (tl z).length
  · rw [Nat.min_eq_left h]
  · rw [Nat.min_eq_right (by omega), List.take_of_length_le (Nat.le_refl _), List.take_of_length_le (by omega)]
theorem digit_low : ∀ c : Nat, c < 128 → Unicode.isDigit c = (decide (48 ≤ c) && decide (c ≤ 57)) := by decide +kernel
theorem asc_dig (z : Str) (h : Txt.isascii z = true) : Txt.isdigit z = (!decide (tl z = []) && allDig (tl z)) := by
  unfold Txt.isascii at h
  unfold Txt.isdigit allDig
  rw [← Array.all_toList] at h ⊢
  rw [len_tl]
  have e : ∀ l : List Nat, l.all (fun c => decide (c < 128)) = true → l.all Unicode.isDigit = l.all fun c => decide (48 ≤ c) && decide (c ≤ 57) := by
    intro l hl
    induction l with
    | nil => rfl
    | cons c r ih =>
      simp only [List.all_cons, Bool.and_eq_true, decide_eq_true_eq] at hl ⊢
      rw [ih (by exact hl.2), digit_low c hl.1]
  rw [e _ h]
  show (decide ((tl z).length > 0) && (tl z).all fun c => decide (48 ≤ c) && decide (c ≤ 57)) = (!decide (tl z = []) && (tl z).all fun c => decide (48 ≤ c) && decide (c ≤ 57))
  generalize tl z = l
  cases l with
  | nil => rfl
  | cons c r => congr 1
theorem dig_asc (z : Str) (h : allDig (tl z) = true) : Txt.isascii z = true := by
  unfold Txt.isascii
  rw [← Array.all_toList, List.all_eq_true]
  intro c hc
  have := allDig_iff.mp h c hc
  exact decide_eq_true (by omega)
/-- what is_written_value asks of the digits -/
theorem written_iff {z d : Str} (ed : tl d = digOf (tl z)) : goodVal (tl z) = (if d.length > 60 ∨ Txt.isascii d = false ∨ Txt.isdigit d = false then false else (!decide ((tl d).head? = some 48) || decide (tl z = [48]))) := by
  unfold goodVal
  rw [← ed, len_tl]
  by_cases h1 : (tl d).length > 60
  · rw [if_pos (.inl h1), decide_eq_false (by omega)]
    rfl
  · rw [decide_eq_true (show (tl d).length ≤ 60 by omega), Bool.true_and]
    by_cases h2 : Txt.isascii d = true
    · rw [asc_dig d h2]
      by_cases h3 : tl d = []
      · rw [if_pos (.inr (.inr (by rw [decide_eq_true h3]; rfl))), h3]
        have : tl z ≠ [48] := by
          intro e
          rw [e] at ed
          rw [h3] at ed
          cases ed
        rw [decide_eq_false this]
        rfl
      · by_cases h4 : allDig (tl d) = true
        · rw [if_neg (by rintro (z | z | z) <;> first | omega | (rw [h2] at z; cases z) | (rw [decide_eq_false h3, h4] at z; cases z)), h4, Bool.true_and]
          cases e : tl d with
          | nil => exact absurd e h3
          | cons c r =>
            simp only [List.head?_cons, Option.some.injEq]
        · have h4 : allDig (tl d) = false := by cases e : allDig (tl d) with | true => exact absurd e h4 | false => rfl
          rw [if_pos (.inr (.inr (by rw [h4, Bool.and_false]))), h4, Bool.false_and]
    · have h2' : Txt.isascii d = false := by cases e : Txt.isascii d with | true => exact absurd e h2 | false => rfl
      rw [if_pos (.inr (.inl h2'))]
      have : allDig (tl d) = false := by
        cases e : allDig (tl d) with
        | false => rfl
        | true => exact absurd (dig_asc d e) h2
      rw [this]
      rfl
theorem goodVal_int? {z : Str} (h : goodVal (tl z) = true) : intText? z = some (valOf (tl z)) ∧ z.length ≤ 61 := by
  have hne := goodVal_ne h
  unfold goodVal at h
  simp only [Bool.and_eq_true, Bool.or_eq_true, decide_eq_true_eq] at h
  obtain ⟨⟨h1, h2⟩, h3⟩ := h
  have h2 := allDig_iff.mp h2
  rcases minus_or (tl z) with ⟨r, e⟩ | hm
  · rw [e] at h1 h2 hne ⊢
    rw [digOf_minus] at h1 h2 hne
    have hl : z.length = r.length + 1 := by rw [len_tl, e]; rfl
    exact ⟨intText_neg e h2 hne (by omega), by omega⟩
  · rw [digOf_else hm] at h1 h2 hne
    rw [valOf_else hm]
    have hl := len_tl z
    exact ⟨intText_digits h2 hne (by omega), by omega⟩
/-! ### the law's own questions -/
def isNum (k : Int) (l : List Nat) : Bool := !decide (l = []) && !decide ((l.length : Int) > k) && allDig l && (decide (l = [48]) || !decide (l.head? = some 48))
theorem goodVal_num (l : List Nat) : goodVal l = (if l.head? = some 45 then !decide (l.drop 1 = [48]) && isNum 60 (l.drop 1) else isNum 60 l) := by
  have key : ∀ d : List Nat, decide (d.length ≤ 60) = !decide ((d.length : Int) > 60) := fun d => by
    by_cases h : d.length ≤ 60
    · rw [decide_eq_true h, decide_eq_false (by omega)]; rfl
    · rw [decide_eq_false h, decide_eq_true (by omega)]; rfl
  rcases minus_or l with ⟨r, rfl⟩ | hm
  · rw [if_pos (show (45 :: r).head? = some 45 from rfl)]
    show goodVal (45 :: r) = (!decide (r = [48]) && isNum 60 r)
    unfold goodVal isNum
    rw [digOf_minus, key]
    cases r with
    | nil => rfl
    | cons c s =>
      simp only [List.head?_cons, Option.some.injEq]
      rw [decide_eq_false (show ¬ (45 :: c :: s = [48]) by intro z; cases z), Bool.or_false, decide_eq_false (show ¬ (c :: s = []) by intro z; cases z)]
      by_cases h48 : c = 48
      · subst h48
        rw [decide_eq_true rfl]
        by_cases hs : s = []
        · subst hs
          simp
        · rw [decide_eq_false (show ¬ (48 :: s = [48]) by intro z; exact hs (List.cons.inj z).2)]
          simp
      · rw [decide_eq_false h48, decide_eq_false (show ¬ (c :: s = [48]) by intro z; exact h48 (List.cons.inj z).1)]
        simp
  · rw [if_neg hm]
    unfold goodVal isNum
    rw [digOf_else hm, key]
    cases l with
    | nil => rfl
    | cons c s =>
      simp only [List.head?_cons, Option.some.injEq]
      rw [decide_eq_false (show ¬ (c :: s = []) by intro z; cases z), Bool.not_false, Bool.true_and, Bool.or_comm]
/-- a part by the law's cut at the colons -/
theorem goodPart_cut {many : Int} (hm : many ≤ 6) (p : Str) : goodPart many (tl p) = (match Txt.split p cS with | [a, b] => isNum 1 (tl a) && decide (valOf (tl a) < many) && goodVal (tl b) | _ => false) := by
  have e := split_spl p cS (by rw [tl_c]; simp) (kind_ok c_kind)
  rw [tl_c] at e
  cases h : goodPart many (tl p) with
  | true =>
    obtain ⟨c, v, el, h1, h2, h3, h4⟩ := goodPart_form h
    have hf : 58 ∉ v := goodVal_free h4 (.inr (.inr (.inr (by decide))))
    have e2 : spl [58] 0 [] (tl p) = [[c], v] := by
      rw [el]
      show spl (58 :: []) 0 [] ([c] ++ (58 :: [] ++ v)) = _
      rw [spl_part1 (by intro z; have := List.mem_singleton.mp z; omega), spl_last1 hf]
      rfl
    rw [e2] at e
    cases es : Txt.split p cS with
    | nil => rw [es] at e; simp at e
    | cons a r =>
      cases r with
      | nil => rw [es] at e; simp at e
      | cons b r =>
        cases r with
        | cons _ _ => rw [es] at e; simp at e
        | nil =>
          rw [es] at e
          simp only [List.map_cons, List.map_nil, List.cons.injEq, and_true] at e
          obtain ⟨ea, eb⟩ := e
          show true = (isNum 1 (tl a) && decide (valOf (tl a) < many) && goodVal (tl b))
          rw [ea, eb, h4]
          have hv : valOf [c] = (c : Int) - 48 := by
            rw [valOf_else (by intro z; have := Option.some.inj z; omega)]
            show ((0 * 10 + (c - 48) : Nat) : Int) = _
            omega
          rw [hv, decide_eq_true h3]
          unfold isNum
          have ad : allDig [c] = true := allDig_iff.mpr fun d hd => by rw [List.mem_singleton.mp hd]; omega
          rw [ad]
          by_cases h48 : c = 48
          · subst h48; rfl
          · rw [show decide (([c] : List Nat).head? = some 48) = false from decide_eq_false (fun z => h48 (Option.some.inj z))]
            simp
  | false =>
    split
    · rename_i a b es
      rw [es] at e
      simp only [List.map_cons, List.map_nil] at e
      have ep : p = a ++ cS ++ b := by
        have := PySem.StrLaws.join_split p cS
        rw [es] at this
        exact this.symm
      symm
      rw [Bool.eq_false_iff]
      intro hh
      simp only [Bool.and_eq_true, decide_eq_true_eq] at hh
      obtain ⟨⟨h1, h2⟩, h3⟩ := hh
      unfold isNum at h1
      simp only [Bool.and_eq_true, Bool.not_eq_true', decide_eq_false_iff_not] at h1
      obtain ⟨⟨⟨g1, g2⟩, g3⟩, g4⟩ := h1
      have hc : ∃ c, tl a = [c] := by
        match hta : tl a, g1, g2 with
        | [], g1, _ => exact absurd rfl g1
        | [c], _, _ => exact ⟨c, rfl⟩
        | _ :: _ :: r, _, g2 => simp only [List.length_cons] at g2; omega
      obtain ⟨c, ec⟩ := hc
      rw [ec] at g3 h2
      have hc2 := allDig_iff.mp g3 c (List.mem_singleton.mpr rfl)
      have hv : valOf [c] = (c : Int) - 48 := by
        rw [valOf_else (by intro z; have := Option.some.inj z; omega)]
        show ((0 * 10 + (c - 48) : Nat) : Int) = _
        omega
      rw [hv] at h2
      have : goodPart many (tl p) = true := by
        rw [ep, tl_append, tl_append, ec, tl_c]
        show (decide (48 ≤ c) && decide (c ≤ 53) && decide ((c : Int) - 48 < many) && goodVal (tl b)) = true
        rw [h3, decide_eq_true (by omega), decide_eq_true (by omega), decide_eq_true h2]
        rfl
      rw [this] at h
      cases h
    · rfl
/-- the digit that a word of one sign tells -/
def wordVal (l : List Nat) : Option Int := match l with
  | [c] => if 48 ≤ c ∧ c ≤ 53 then some ((c : Int) - 48) else none
  | _ => none
def ltO (many : Int) : Option Int → Bool
  | some d => decide (d < many)
  | none => false
/-- a part by the program's cut at the first colon -/
theorem goodPart_par {many : Int} (p : Str) : goodPart many (tl p) = (ltO many (wordVal (tl (Txt.partition p cS).1)) && goodVal (tl (Txt.partition p cS).2.2))
    ∧ (goodPart many (tl p) = true → ∃ d, wordVal (tl (Txt.partition p cS).1) = some d ∧ msgOf (tl p) = (d, valOf (tl (Txt.partition p cS).2.2))) := by
  have e := partition_par p cS (by rw [tl_c]; simp)
  rw [tl_c] at e
  have form : ∀ (l acc : List Nat), (58 ∉ l ∧ par [58] acc l = none) ∨ ∃ a b, l = a ++ 58 :: b ∧ 58 ∉ a ∧ par [58] acc l = some (acc ++ a, b) := by
    intro l
    induction l with
    | nil => exact fun _ => .inl ⟨by simp, rfl⟩
    | cons c r ih =>
      intro acc
      by_cases h : c = 58
      · subst h
        exact .inr ⟨[], r, rfl, by simp, by rw [par_hit (by rfl), List.append_nil]; rfl⟩
      · rw [par_miss (pre_of_head [] r h)]
        rcases ih (acc ++ [c]) with ⟨h1, h2⟩ | ⟨a, b, h1, h2, h3⟩
        · refine .inl ⟨fun z => ?_, h2⟩
          rcases List.mem_cons.mp z with z | z
          · exact h z.symm
          · exact h1 z
        · refine .inr ⟨c :: a, b, by rw [h1]; rfl, fun z => ?_, by rw [h3, List.append_assoc]; rfl⟩
          rcases List.mem_cons.mp z with z | z
          · exact h z.symm
          · exact h2 z
  rcases form (tl p) [] with ⟨hn, hp⟩ | ⟨a, b, ep, ha, hp⟩
  · rw [hp] at e
    rw [e]
    have hg : goodPart many (tl p) = false := by
      cases h : goodPart many (tl p) with
      | false => rfl
      | true =>
        obtain ⟨c, v, el, _⟩ := goodPart_form h
        exact absurd (by rw [el]; simp) hn
    have hv : goodVal (tl Str.empty) = false := by decide +kernel
    rw [hg]
    exact ⟨by show false = (_ && goodVal (tl Str.empty)); rw [hv, Bool.and_false], fun z => by cases z⟩
  · rw [hp] at e
    rw [e]
    show goodPart many (tl p) = (ltO many (wordVal a) && goodVal b) ∧ (goodPart many (tl p) = true → ∃ d, wordVal a = some d ∧ msgOf (tl p) = (d, valOf b))
    rw [ep]
    match a, ha with
    | [], _ =>
      have hg : goodPart many (([] : List Nat) ++ 58 :: b) = false := by
        cases h : goodPart many (([] : List Nat) ++ 58 :: b) with
        | false => rfl
        | true =>
          obtain ⟨c, v, el, h1, h2, _⟩ := goodPart_form h
          simp only [List.nil_append, List.cons.injEq] at el
          omega
      rw [hg]
      exact ⟨rfl, fun z => by cases z⟩
    | [c], _ =>
      show (decide (48 ≤ c) && decide (c ≤ 53) && decide ((c : Int) - 48 < many) && goodVal b) = _ ∧ _
      have hw : wordVal [c] = if 48 ≤ c ∧ c ≤ 53 then some ((c : Int) - 48) else none := rfl
      rw [hw]
      by_cases h : 48 ≤ c ∧ c ≤ 53
      · rw [if_pos h, decide_eq_true h.1, decide_eq_true h.2]
        exact ⟨rfl, fun _ => ⟨_, rfl, rfl⟩⟩
      · rw [if_neg h]
        have : (decide (48 ≤ c) && decide (c ≤ 53)) = false := by
          rw [Bool.eq_false_iff]
          intro z
          simp only [Bool.and_eq_true, decide_eq_true_eq] at z
          exact h z
        rw [this]
        refine ⟨rfl, fun z => ?_⟩
        have z2 : (decide (48 ≤ c) && decide (c ≤ 53) && decide ((c : Int) - 48 < many) && goodVal b) = true := z
        rw [this] at z2
        cases z2
    | x :: y :: r, ha =>
      have hy : y ≠ 58 := fun z => ha (by rw [z]; simp)
      have hg : goodPart many (x :: y :: r ++ 58 :: b) = false := by
        cases h : goodPart many (x :: y :: r ++ 58 :: b) with
        | false => rfl
        | true =>
          obtain ⟨c, v, el, _⟩ := goodPart_form h
          simp only [List.cons_append, List.cons.injEq] at el
          exact absurd el.2.1 hy
      rw [hg]
      exact ⟨rfl, fun z => by cases z⟩
end Sb

/-! A written table of words asked by get, a text many times. -/
namespace Sb
open PySem PySem.Spec PyProof.Rows L2 TL
/-- at a the module's table: f z the number of the word z -/
def DigD (K : PySem.W.Frag) (w : World) (a : Addr) (f : Str → Option Int) : Prop := ∃ es n, K.lookup a = some ⟨.type "dict", none, .dict es n, #[]⟩ ∧ PySem.W.KeysLit w.params es.toList ∧ (a == sysModules) = false ∧
  ∀ z, (∃ i t, f z = some i ∧ PySem.W.nsIn K a z = some (some (.int i t))) ∨ (f z = none ∧ PySem.W.nsIn K a z = some none)
/-- a table as it is written -/
def litF (l : List (Str × Int)) (z : Str) : Option Int := (l.find? fun p => p.1 == z).map (·.2)
def optV : Option Int → V
  | some i => .int i
  | none => .non
def tKGet (K : PySem.W.Frag) (w : World) (td ty : TE) : TE := fun σ H Q => td σ H fun x H1 => ∃ a f, x = .ref a ∧ DigD K w a f ∧ ty σ H1 fun y H2 => ∃ z, y = .str z ∧ Q (optV (f z)) H2
section
variable {X : Cx} {o e : Expr} {td ty : TE} {apos cpos : Pos}
theorem pe_kget (ho : PE X o td) (he : PE X e ty) (m : M1 X o "get" apos e cpos) : PE X (.Call (.Attribute o "get" apos) [e] [] cpos) (tKGet X.K X.w td ty) := by
  refine ⟨fun pins s σ H Q I h => ?_⟩
  refine wpAny_Call_method m.base m.few m.line PySem.F.plainAttrs_dict PySem.F.slot_dict_get PySem.F.type_dict_get (thn (ho.run pins s σ H _ I h) fun u s1 ⟨x, H1, I1, rx, a, f, ex, ⟨es, n, hl, hk, low, hf⟩, q1⟩ => ?_)
  subst ex
  obtain rfl : u = Value.ref a := rx
  have hm := PySem.W.mapOf_K (prog := X.prog) (w := X.w) I1.kIn hl hk
  refine ⟨hm.typeIs, hm.noDict, ?_⟩
  rw [m.trees]
  refine Calls.callWith_builtin rfl (Calls.evalArgs_plain (Calls.spliced_cons (thn (he.run pins s1 σ H1 _ I1 q1) fun iv s2 ⟨y, H2, I2, ry, z, ey, q2⟩ => Calls.spliced_nil ?_)))
  subst ey
  obtain ⟨t, rfl⟩ := (show ∃ t, iv = Value.str z t from ry)
  have hm2 := PySem.W.mapOf_K (prog := X.prog) (w := X.w) I2.kIn hl hk
  refine call_meetsIn PySem.F.slot_dict_get hm2.typeIs PySem.F.entry_dict_get (PySem.F.args_dict_get_2 _ _) (meets_dict_get (strKind X.prog X.w) a (strKind_is X.prog X.w z t) low) ⟨_, hm2, ?_⟩
  rcases hf z with ⟨i, t', ef, en⟩ | ⟨ef, en⟩
  · rw [PySem.W.find_K hl en]
    rw [ef] at q2
    exact ⟨.int i, H2, I2.tok _, ⟨t', rfl⟩, q2⟩
  · rw [PySem.W.find_K hl en]
    rw [ef] at q2
    exact ⟨.non, H2, I2.tok _, rfl, q2⟩
/-- f'..' of two parts or more -/
def tJoin (ts : List TE) : TE := fun σ H Q => tJs ts Str.empty σ H fun out H1 => Q (.str out) H1
theorem pe_joinF {v1 v2 : Expr} {rest : List Expr} {ts : List TE} {pos : Pos} (h : PJ X (v1 :: v2 :: rest) ts) : PE X (.JoinedStr (v1 :: v2 :: rest) pos) (tJoin ts) := pe_joined h
theorem DigD.kd {K : PySem.W.Frag} {w : World} {a : Addr} {f : Str → Option Int} {z : Str} {i : Int} (h : DigD K w a f) (e : f z = some i) : KDct K w a z (.int i) := by
  obtain ⟨es, n, hl, hk, low, hf⟩ := h
  rcases hf z with ⟨j, t, ej, en⟩ | ⟨ej, en⟩
  · rw [e] at ej
    cases ej
    exact ⟨es, n, _, hl, hk, en, ⟨t, rfl⟩⟩
  · rw [e] at ej
    cases ej
theorem op_mulS : OpR X (binaryOp .Mult) (fun x y H Q => ∃ z k, x = .str z ∧ y = .int k ∧ MulOk z k ∧ Q (.str (Txt.mul z k)) H) := by
  intro pins s σ H x y v u Q I rx ry h
  obtain ⟨z, k, rfl, rfl, hz, q⟩ := h
  obtain ⟨t, rfl⟩ := rx
  obtain ⟨t', rfl⟩ := ry
  exact PySem.SB.mul hz fun t' tk => ⟨.str (Txt.mul z k), H, I.tok _, ⟨_, rfl⟩, q⟩
end
end Sb
namespace Sb
open PySem PySem.Spec PyProof.Rows L2 TL
/-- the entries of a table are those that are written -/
def LitD : List (Str × Int) → List DictEntry → Prop
  | [], [] => True
  | p :: l, e :: r => (∃ t, e.key = .str p.1 t) ∧ (∃ u, e.val = .int p.2 u) ∧ LitD l r
  | _, _ => False
theorem LitD.find {z : Str} : ∀ {l : List (Str × Int)} {es : List DictEntry}, LitD l es → es.any (·.refKey) = false ∧
    ((∃ i t e, litF l z = some i ∧ es.find? (·.key.isStr z) = some e ∧ e.val = .int i t) ∨ (litF l z = none ∧ es.find? (·.key.isStr z) = none))
  | [], [], _ => ⟨rfl, .inr ⟨rfl, rfl⟩⟩
  | [], _ :: _, h => h.elim
  | _ :: _, [], h => h.elim
  | p :: l, e :: r, ⟨⟨t, hk⟩, ⟨u, hv⟩, h⟩ => by
    obtain ⟨h1, h2⟩ := LitD.find (z := z) h
    have e1 : e.refKey = false := by unfold DictEntry.refKey; rw [hk]
    have e2 : e.key.isStr z = (p.1 == z) := by rw [hk]; rfl
    refine ⟨by rw [List.any_cons, e1, h1]; rfl, ?_⟩
    unfold litF at h2 ⊢
    rw [List.find?_cons, List.find?_cons, e2]
    cases hz : p.1 == z with
    | true => exact .inl ⟨p.2, u, e, rfl, rfl, hv⟩
    | false => exact h2
theorem digD_of {K : PySem.W.Frag} {w : World} {a : Addr} {es : Array DictEntry} {n : Nat} {l : List (Str × Int)} (hl : K.lookup a = some ⟨.type "dict", none, .dict es n, #[]⟩) (hk : PySem.W.KeysLit w.params es.toList) (hs : (a == sysModules) = false) (he : LitD l es.toList) :
    DigD K w a (litF l) := by
  refine ⟨es, n, hl, hk, hs, fun z => ?_⟩
  obtain ⟨h1, h2⟩ := LitD.find (z := z) he
  have e : PySem.W.nsIn K a z = (match es.toList.find? (·.key.isStr z) with
      | some e => some (some e.val)
      | none => if es.toList.any (·.refKey) then none else some none) := by
    unfold PySem.W.nsIn
    rw [hl]
    rfl
  rw [e]
  rcases h2 with ⟨i, t, e, h3, h4, h5⟩ | ⟨h3, h4⟩
  · exact .inl ⟨i, t, h3, by rw [h4, ← h5]⟩
  · refine .inr ⟨h3, ?_⟩
    rw [h4, h1]
    rfl
end Sb

namespace Sb
open PySem PySem.Spec PyProof.Rows L2
theorem ne_fr {H : Hp} {a b : Addr} {o : HO} (n : H b = none) (h : H a = some o) : a ≠ b := ne_of_none h n
theorem ne_fr' {H : Hp} {a b : Addr} {o : HO} (n : H b = none) (h : H a = some o) : b ≠ a := (ne_of_none h n).symm
theorem upd_off {H : Hp} {a b : Addr} {o u : HO} (n : b ≠ a) (h : H b = some u) : upd H a o b = some u := by rw [upd_ne n]; exact h
theorem upd_offN {H : Hp} {a b : Addr} {o : HO} (n : b ≠ a) (h : H b = none) : upd H a o b = none := by rw [upd_ne n]; exact h
theorem upd_none {H : Hp} {a b : Addr} {o : HO} (h : upd H a o b = none) : b ≠ a ∧ H b = none := by
  by_cases e : b = a
  · subst e
    rw [upd_same] at h
    cases h
  · rw [upd_ne e] at h
    exact ⟨e, h⟩
local macro_rules | `(tactic| walk_at "ne") => `(tactic| first
  | assumption
  | exact Ne.symm (by assumption)
  | exact ne_fr (by assumption) (by walk_at "hp")
  | exact ne_fr' (by assumption) (by walk_at "hp"))
local macro_rules | `(tactic| walk_at "hp") => `(tactic| first
  | assumption
  | exact upd_same
  | exact upd_off (by walk_at "ne") (by walk_at "hp"))

def top (i : Nat) : Stmt := PySem.Challenge.pw_seenbefore_k77_streams_written_and_read.main.body.getD i (.Pass ⟨0, 0, 0, 0⟩)
abbrev s_is_integer : Stmt := top 3
abbrev s_is_between : Stmt := top 4
abbrev s_format_stream : Stmt := top 9
abbrev s_parse_stream : Stmt := top 10
abbrev s_is_written_value : Stmt := top 11
abbrev s_law_pen : Stmt := top 13
abbrev s_law_fresh : Stmt := top 14
abbrev s_law_draw : Stmt := top 15
abbrev s_law_stream : Stmt := top 16
abbrev s_law_text : Stmt := top 17
abbrev s_law_is_number : Stmt := top 18
abbrev s_law_good : Stmt := top 19
abbrev s_law_raised : Stmt := top 20
abbrev s_law : Stmt := top 21
abbrev s_ParseError_init : Stmt := inClass (top 1) 0
def lit_DIGITS : List (Str × Int) := [("0", 0), ("1", 1), ("2", 2), ("3", 3), ("4", 4), ("5", 5)]
/-- where all stands -/
structure Tx (K : PySem.W.Frag) (mg : Str → Option Value) where
  is_integer : Dn K mg "is_integer" s_is_integer ["value"]
  is_between : Dn K mg "is_between" s_is_between ["value", "low", "high"]
  format_stream : Dn K mg "format_stream" s_format_stream ["stream"]
  parse_stream : Dn K mg "parse_stream" s_parse_stream ["text", "words"]
  is_written_value : Dn K mg "is_written_value" s_is_written_value ["text"]
  law_pen : Dn K mg "_law_pen" s_law_pen ["script"]
  law_fresh : Dn K mg "_law_fresh" s_law_fresh ["pen"]
  law_draw : Dn K mg "_law_draw" s_law_draw ["pen", "many"]
  law_stream : Dn K mg "_law_stream" s_law_stream ["pen", "words", "most", "values"]
  law_text : Dn K mg "_law_text" s_law_text ["stream"]
  law_is_number : Dn K mg "_law_is_number" s_law_is_number ["word", "digits"]
  law_good : Dn K mg "_law_good" s_law_good ["text", "many"]
  law_raised : Dn K mg "_law_raised" s_law_raised ["text", "many"]
  ParseError : En K mg OwnE.bVE "ParseError" "line" "ParseError.__init__"
  ck_EMPTY : Tok
  g_EMPTY : mg "EMPTY" = some (.str "-" ck_EMPTY)
  ck_MOST_DIGITS : Tok
  g_MOST_DIGITS : mg "MOST_DIGITS" = some (.int 60 ck_MOST_DIGITS)
  pr : Params
  aDIGITS : Addr
  g_DIGITS : mg "DIGITS" = some (.ref aDIGITS)
  dg_DIGITS : ∀ w : World, pr = w.params → DigD K w aDIGITS (litF lit_DIGITS)
  m_list : mg "list" = none
  m_len : mg "len" = none
  m_range : mg "range" = none
  m_tuple : mg "tuple" = none
  m_isinstance : mg "isinstance" = none
  m_bool : mg "bool" = none
  m_int : mg "int" = none
  m_repr : mg "repr" = none
  m_str : mg "str" = none
/-! ### the pen: cells of the script, drawn one by one -/
def cutAll (ns : List Int) (h : ns.length ≤ 63) : cutV (ns.map V.int) none (some 63) = ns.map V.int := by
  unfold cutV
  rw [show HT.sIx (ns.map V.int).length 0 none = 0 from HT.sIx_none _ _, show HT.sIx (ns.map V.int).length (ns.map V.int).length (some 63) = min 63 (ns.map V.int).length from HT.sIx_nat _ _ 63]
  rw [List.drop_zero, Nat.sub_zero, List.length_map, Nat.min_eq_right h]
  exact List.take_of_length_le (by rw [List.length_map]; exact Nat.le_refl _)
/-- but at p, what was tracked is as it was -/
def Keep (p : Addr) (H H' : Hp) : Prop := ∀ b o, H b = some o → b ≠ p → H' b = some o
theorem Keep.refl {p : Addr} {H : Hp} : Keep p H H := fun _ _ h _ => h
theorem Keep.trans {p : Addr} {H H1 H2 : Hp} (a : Keep p H H1) (b : Keep p H1 H2) : Keep p H H2 := fun c o h n => b c o (a c o h n) n
theorem Keep.new {p q : Addr} {H : Hp} {o : HO} (h : H q = none) : Keep p H (upd H q o) := fun b u e _ => by rw [upd_ne (ne_of_none e h)]; exact e
theorem Keep.at {p : Addr} {H H1 : Hp} {o : HO} (a : Keep p H H1) : Keep p H (upd H1 p o) := fun b u e n => by rw [upd_ne n]; exact a b u e n
theorem Keep.same {p : Addr} {H H1 : Hp} (h : Same H H1) : Keep p H H1 := fun b o e _ => h b o e
/-- the pen stands at p, its cells at c -/
def PenIs (H : Hp) (p c : Addr) (ns : List Int) (at_ st : Int) : Prop := H p = some (.lst [.ref c, .int at_, .int st]) ∧ H c = some (.lst (ns.map V.int))
def Pen (H : Hp) (p c : Addr) : Prop := ∃ ns at_ st, PenIs H p c ns at_ st ∧ 0 ≤ at_ ∧ 0 ≤ st ∧ ns.length ≤ 63
theorem PenIs.ne {H : Hp} {p c : Addr} {ns : List Int} {a z : Int} (h : PenIs H p c ns a z) : p ≠ c := by
  refine ne_of h.1 h.2 ?_
  intro e
  cases ns with
  | nil => cases e
  | cons x r => cases e
theorem Pen.ne {H : Hp} {p c : Addr} (h : Pen H p c) : p ≠ c := by
  obtain ⟨_, _, _, h, _⟩ := h
  exact h.ne
theorem Pen.mono {H H' : Hp} {p c : Addr} (h : Pen H p c) (e : Same H H') : Pen H' p c := by
  obtain ⟨ns, a, z, h, r⟩ := h
  exact ⟨ns, a, z, ⟨e _ _ h.1, e _ _ h.2⟩, r⟩
theorem Pen.free {H : Hp} {p c q : Addr} (h : Pen H p c) (e : H q = none) : p ≠ q ∧ c ≠ q := by
  obtain ⟨ns, a, z, h, r⟩ := h
  exact ⟨ne_of_none h.1 e, ne_of_none h.2 e⟩
theorem Pen.tups {H H' : Hp} {p c : Addr} (h : Pen H p c) (k : Keep p H H') : Tups H H' := fun a xs e => by
  obtain ⟨ns, x, z, ⟨h1, _⟩, _⟩ := h
  exact k a _ e (ne_of e h1 (fun z => by cases z))
theorem Pen.at {H : Hp} {p c : Addr} (h : Pen H p c) : ∃ l, H p = some (.lst l) := by
  obtain ⟨ns, x, z, ⟨h1, _⟩, _⟩ := h
  exact ⟨_, h1⟩
theorem Pen.put {H : Hp} {p c a : Addr} {o : HO} (h : Pen H p c) (n1 : a ≠ p) (n2 : a ≠ c) : Pen (upd H a o) p c := by
  obtain ⟨ns, x, z, ⟨h1, h2⟩, r⟩ := h
  exact ⟨ns, x, z, ⟨by rw [upd_ne n1.symm]; exact h1, by rw [upd_ne n2.symm]; exact h2⟩, r⟩
def sp_law_pen (K : PySem.W.Frag) : Sp := fun vs H Q _ => ∃ (a : Addr) (ns : List Int), vs = [.ref a] ∧ SqL K H a (ns.map V.int) ∧ ns.length ≤ 63 ∧
  ∀ p c H', Same H H' → H p = none → H c = none → Pen H' p c → Q (.ref p) H'
def sp_law_fresh : Sp := fun vs H Q _ => ∃ (p c : Addr) (ns : List Int) (a z : Int), vs = [.ref p] ∧ PenIs H p c ns a z ∧ 0 ≤ a ∧ ns.length ≤ 63 ∧
  ∀ r H', 0 ≤ r → Keep p H H' → PenIs H' p c ns (a + 1) z → Q (.int r) H'
def sp_law_draw : Sp := fun vs H Q _ => ∃ (p c : Addr) (many : Int), vs = [.ref p, .int many] ∧ Pen H p c ∧ 0 < many ∧ many < 2 ^ 100 ∧
  ∀ d H', 0 ≤ d → d < many → Keep p H H' → Pen H' p c → Q (.int d) H'
section
variable {P : Program} {w : World} {K : PySem.W.Frag} {mg : Str → Option Value} {base : Heap}
abbrev N_law_pen : List Str := ["script"]
theorem sc_law_pen : FnScope N_law_pen ["script"] (defScope s_law_pen) := ⟨rfl, rfl, rfl, by decide +kernel, rfl, by decide +kernel, by decide +kernel⟩
theorem ok_law_pen {f : Addr} {fd : FuncData} {k : Nat} (F : Fun K "_law_pen" "_law_pen" s_law_pen f fd) (m_list : mg "list" = none) : FnG P w K mg base CX0 (k + 1) f fd ["script"] (sp_law_pen K) := by
  refine okG F sc_law_pen (fun vs H Q E h => ?_) (fun cdv A outer s H vs Q E gd hr h => ?_)
  · obtain ⟨a, ns, rfl, _⟩ := h
    rfl
  · obtain ⟨a, ns, rfl, hS, hl, q⟩ := h
    refine ⟨_,
      (pss_one (ps_ret (pe_lst (pa_cons (pe_callTy call_list_of (by rfl) m_list (by decide +kernel) (pa_cons (pe_slice sl_list (pv 0) po_none (po_some pe_int)) pa_nil)) (pa_cons pe_int (pa_cons pe_int pa_nil))))))
       , ?_⟩
    refine ⟨.ref a, rfl, 63, rfl, a, ns.map V.int, rfl, hS, fun b nb => ?_⟩
    rw [cutAll ns hl]
    refine ⟨b, ns.map V.int, rfl, .inl (.inl (.inl upd_same)), fun c nc => ?_⟩
    refine ⟨(by show 3 ≤ sizeLine; decide), fun p np => ?_⟩
    have s1 : Same H (upd H b (.lst (ns.map V.int))) := fun x o e => by walk_at "hp"
    have nc0 : H c = none := s1.free nc
    have s2 : Same H (upd (upd H b (.lst (ns.map V.int))) c (.lst (ns.map V.int))) := fun x o e => (by walk_at "hp")
    have np0 : H p = none := s2.free np
    have npc : c ≠ p := ne_of_none upd_same np
    refine q p c _ (fun x o e => ?_) np0 nc0 ⟨ns, 0, 0, ⟨upd_same, ?_⟩, by decide, by decide, hl⟩
    · have := s2 x o e
      walk_at "hp"
    · walk_at "hp"
abbrev N_law_fresh : List Str := ["pen", "at", "cell", "p", "state", "found", "turn"]
theorem sc_law_fresh : FnScope N_law_fresh ["pen"] (defScope s_law_fresh) := ⟨rfl, rfl, rfl, by decide +kernel, rfl, by decide +kernel, by decide +kernel⟩
theorem ok_law_fresh {f : Addr} {fd : FuncData} {k : Nat} (F : Fun K "_law_fresh" "_law_fresh" s_law_fresh f fd) (m_len : mg "len" = none) (m_range : mg "range" = none) : FnG P w K mg base CX0 (k + 1) f fd ["pen"] sp_law_fresh := by
  refine okG F sc_law_fresh (fun vs H Q E h => ?_) (fun cdv A outer s H vs Q E gd hr h => ?_)
  · obtain ⟨p, c, ns, a, z, rfl, _⟩ := h
    rfl
  · obtain ⟨p, c, ns, a, z, rfl, hP, ha, hl, q⟩ := h
    obtain ⟨hp, hc⟩ := id hP
    have npc := hP.ne
    refine ⟨_,
      (pss_cons (ps_set (i := 1) sc_law_fresh.nd rfl (.inl rfl) (pe_ix ix_list (pv 0) pe_int (fun _ _ => rfl))) -- at = pen[1]
      (pss_cons (ps_asg (pe_op op_add (pv 1) pe_int) (pg_sub (pv 0) pe_int set_list)) -- pen[1] = at + 1
      (pss_cons (ps_set (i := 2) sc_law_fresh.nd rfl (.inl rfl) pe_int) -- cell = 0
      (C8.pss_cut (ps_if (pt_cmpR (op_neD hr.units) (pe_ix ix_list (pv 0) pe_int (fun _ _ => rfl)) (pe_lst pa_nil) (nomark _)) 
        (pss_one (ps_set (i := 2) sc_law_fresh.nd rfl (.inl rfl) (pe_ix ix_list (pe_ix ix_list (pv 0) pe_int (fun _ _ => rfl)) (pe_op op_mod (pv 1) (pe_callB call_len_seq (by rfl) m_len PySem.boot_len (pa_cons (pe_ix ix_list (pv 0) pe_int (fun _ _ => rfl)) pa_nil))) (fun _ _ => rfl)))) -- cell = pen[0][at % len(pen[0])]
         pss_nil) -- if pen[0] != []:
      (C8.pss_cut (ps_if (PW.pt (pw_and (pt_cmpR op_lt (pv 1) (pe_callB call_len_seq (by rfl) m_len PySem.boot_len (pa_cons (pe_ix ix_list (pv 0) pe_int (fun _ _ => rfl)) pa_nil)) (nomark _)) (pw_and1 (pt_cmpR op_ge (pv 2) (pe_op op_pow pe_int pe_int) (nomark _))))) 
        (pss_one (ps_ret (pe_op op_sub (pv 2) (pe_op op_pow pe_int pe_int)))) -- return cell - 10 ** 18
         pss_nil) -- if at < len(pen[0]) and cell >= 10 ** 18:
      (pss_cons (ps_set (i := 3) sc_law_fresh.nd rfl (.inl rfl) pe_int) -- p = 2305843009213693951
      (pss_cons (ps_set (i := 4) sc_law_fresh.nd rfl (.inl rfl) (pe_op op_mod (pe_op op_add (pe_op op_add (pe_op op_mul (pv 2) pe_int) (pe_op op_mul pe_int (pv 1))) pe_int) (pv 3))) -- state = (cell * 48271 + 40692 * at + 31) % p
      (pss_cons (ps_set (i := 5) sc_law_fresh.nd rfl (.inl rfl) (pv 4)) -- found = state
      (pss_cons (ps_for PassesOwn.never rfl (pi_range1 rfl m_range (pa_cons pe_int pa_nil)) (pg_name (i := 6) sc_law_fresh.nd rfl (.inl rfl)) 
        (pss_cons (ps_set (i := 4) sc_law_fresh.nd rfl (.inl rfl) (pe_op op_mod (pe_op op_add (pe_op op_add (pe_op op_mul (pv 4) (pv 4)) (pe_op op_mul (pe_op op_mul pe_int (pe_op op_add (pv 6) pe_int)) (pe_op op_add (pv 1) pe_int))) (pv 2)) (pv 3))) -- state = (state * state + 69621 * (turn + 1) * (at + 1) + cell) % p
        (pss_one (ps_set (i := 5) sc_law_fresh.nd rfl (.inl rfl) (pe_op op_add (pe_op op_mul (pv 5) (pv 3)) (pv 4)))) -- found = found * p + state
        )) -- for turn in range(6):
      (pss_one (ps_ret (pv 5))) -- return found
      ))))))))) , ?_⟩
    -- at = pen[1]; pen[1] = at + 1; cell = 0
    refine ⟨.ref p, rfl, p, _, 1, .int a, rfl, rfl, .inl (.inl hp), rfl, ?_⟩
    refine ⟨.int a, rfl, a, 1, rfl, rfl, .ref p, rfl, p, _, 1, 1, rfl, rfl, hp, rfl, ?_⟩
    generalize hH1 : upd H p (.lst ([V.ref c, V.int a, V.int z].set 1 (V.int (a + 1)))) = H1
    have hp1 : H1 p = some (.lst [.ref c, .int (a + 1), .int z]) := by rw [← hH1]; exact upd_same
    have hc1 : H1 c = some (.lst (ns.map V.int)) := by rw [← hH1, upd_ne npc.symm]; exact hc
    have kp1 : Keep p H H1 := by rw [← hH1]; exact Keep.refl.at
    clear hH1
    -- if pen[0] != []: cell = ..
    refine ⟨fun σ H' => ∃ cell : Int, σ = [some (.ref p), some (.int a), some (.int cell), none, none, none, none] ∧ Keep p H H' ∧ H' p = some (.lst [.ref c, .int (a + 1), .int z]) ∧ H' c = some (.lst (ns.map V.int)), ?_, ?_⟩
    · refine ⟨.ref p, rfl, p, _, 0, .ref c, rfl, rfl, .inl (.inl hp1), rfl, by show 0 ≤ sizeLine; decide, fun e ne => ?_⟩
      have hc2 : (upd H1 e (.lst [])) c = some (.lst (ns.map V.int)) := by walk_at "hp"
      have hp2 : (upd H1 e (.lst [])) p = some (.lst [.ref c, .int (a + 1), .int z]) := by walk_at "hp"
      have kp2 : Keep p H (upd H1 e (.lst [])) := kp1.trans (Keep.new ne)
      have he2 : (upd H1 e (.lst [])) e = some (.lst []) := upd_same
      generalize upd H1 e (.lst []) = H2 at hc2 hp2 kp2 he2 ⊢
      refine ⟨.list (ns.map PyData.int), .list [], .lst (.inl (.inl hc2)) (dp_ints _ _ ns), .lst (.inl (.inl he2)) .nil, shaped_ints ns, rfl, _, rfl, ite2 (fun hb => ?_) (fun hb => ?_)⟩
      · have hn : 0 < ns.length := by
          cases ns with
          | nil => cases hb
          | cons x r => exact Nat.succ_pos _
        obtain ⟨j, hj, ej⟩ : ∃ j : Nat, j < ns.length ∧ a % (ns.length : Int) = j := by
          refine ⟨(a % (ns.length : Int)).toNat, ?_, ?_⟩
          · have := Int.emod_lt_of_pos a (show (0 : Int) < ns.length by omega)
            have := Int.emod_nonneg a (show (ns.length : Int) ≠ 0 by omega)
            omega
          · have := Int.emod_nonneg a (show (ns.length : Int) ≠ 0 by omega)
            omega
        refine ⟨.ref p, rfl, p, _, 0, .ref c, rfl, rfl, .inl (.inl hp2), rfl, .int a, rfl, .ref p, rfl, p, _, 0, .ref c, rfl, rfl, .inl (.inl hp2), rfl, c, _, rfl, .inl (.inl (.inl hc2)), a, _, rfl, rfl, (by rw [List.length_map]; show (0 : Int) < ns.length; omega), c, _, _, .int ns[j], rfl, rfl, .inl (.inl hc2), ?_, ?_⟩
        · rw [List.length_map, ej]
          exact atI_nat (by rw [List.getElem?_map, List.getElem?_eq_getElem hj]; rfl)
        · exact ⟨ns[j], rfl, kp2, hp2, hc2⟩
      · exact ⟨0, rfl, kp2, hp2, hc2⟩
    · rintro σ H2 ⟨cell, rfl, kp2, hp2, hc2⟩
      have done : ∀ r : Int, 0 ≤ r → Q (.int r) H2 := fun r h0 => q r H2 h0 kp2 ⟨hp2, hc2⟩
      -- if at < len(pen[0]) and cell >= 10 ** 18: return cell - 10 ** 18
      refine ⟨fun σ H' => σ = [some (.ref p), some (.int a), some (.int cell), none, none, none, none] ∧ H' = H2, ?_, ?_⟩
      · refine ⟨.int a, rfl, .ref p, rfl, p, _, 0, .ref c, rfl, rfl, .inl (.inl hp2), rfl, c, _, rfl, .inl (.inl (.inl hc2)), a, _, rfl, rfl, _, rfl, ite2 (fun h1 => ?_) (fun h1 => ?_)⟩
        · refine ⟨.int cell, rfl, 10, 18, rfl, rfl, ⟨by decide, by decide, by decide⟩, cell, _, rfl, rfl, _, rfl, ite2 (fun h2 => ?_) (fun h2 => ?_)⟩
          · refine ⟨.int cell, rfl, 10, 18, rfl, rfl, ⟨by decide, by decide, by decide⟩, cell, _, rfl, rfl, done _ ?_⟩
            have := of_decide_eq_true h2
            omega
          · exact ⟨rfl, rfl⟩
        · exact ⟨rfl, rfl⟩
      · rintro σ H3 ⟨rfl, rfl⟩
        -- p = ..; state = (cell * 48271 + 40692 * at + 31) % p; found = state
        refine ⟨.int cell, rfl, cell, 48271, rfl, rfl, .inr ⟨by decide, by decide⟩, .int a, rfl, 40692, a, rfl, rfl, .inl ⟨by decide, by decide⟩, _, _, rfl, rfl, _, _, rfl, rfl, .int 2305843009213693951, rfl, _, _, rfl, rfl, (by show (0 : Int) < 2305843009213693951; decide), ?_⟩
        dsimp only
        generalize hst : (cell * 48271 + 40692 * a + 31) % 2305843009213693951 = st
        have h0 : 0 ≤ st := by rw [← hst]; exact Int.emod_nonneg _ (by decide)
        have h1 : st < 2305843009213693951 := by rw [← hst]; exact Int.emod_lt_of_pos _ (by decide)
        clear hst
        refine ⟨.int st, rfl, 6, rfl, by decide, by decide, ?_⟩
        refine for_range (n := 6) (fun _ σ H' => ∃ st fd tn, σ = [some (.ref p), some (.int a), some (.int cell), some (.int 2305843009213693951), some (.int st), some (.int fd), tn] ∧ H' = H3 ∧ 0 ≤ st ∧ st < 2305843009213693951 ∧ 0 ≤ fd) ?_ ?_ ?_
        · exact ⟨st, st, none, rfl, rfl, h0, h1, h0⟩
        · rintro i σ H4 hi ⟨st, fd, tn, rfl, rfl, h0, h1, h2⟩
          have hi' : (i : Int) < 6 := by omega
          refine ⟨.int st, rfl, .int st, rfl, st, st, rfl, rfl, .inl ⟨by omega, by omega⟩, .int (0 + (i : Int)), rfl, 0 + (i : Int), 1, rfl, rfl, 69621, _, rfl, rfl, .inl ⟨by decide, by decide⟩, .int a, rfl, a, 1, rfl, rfl, 69621 * (0 + (i : Int) + 1), a + 1, rfl, rfl, .inl ⟨by omega, by omega⟩, _, _, rfl, rfl, .int cell, rfl, _, _, rfl, rfl, .int 2305843009213693951, rfl, _, _, rfl, rfl, (by show (0 : Int) < 2305843009213693951; decide), ?_⟩
          dsimp only
          generalize hst : (st * st + 69621 * (0 + (i : Int) + 1) * (a + 1) + cell) % 2305843009213693951 = st'
          have h0' : 0 ≤ st' := by rw [← hst]; exact Int.emod_nonneg _ (by decide)
          have h1' : st' < 2305843009213693951 := by rw [← hst]; exact Int.emod_lt_of_pos _ (by decide)
          refine ⟨.int fd, rfl, .int 2305843009213693951, rfl, fd, 2305843009213693951, rfl, rfl, .inr ⟨by decide, by decide⟩, .int st', rfl, _, _, rfl, rfl, ?_⟩
          exact ⟨st', fd * 2305843009213693951 + st', _, rfl, rfl, h0', h1', by omega⟩
        · rintro σ H4 ⟨st, fd, tn, rfl, rfl, h0, h1, h2⟩
          exact ⟨.int fd, rfl, done fd h2⟩
abbrev N_law_draw : List Str := ["pen", "many", "digit"]
theorem sc_law_draw : FnScope N_law_draw ["pen", "many"] (defScope s_law_draw) := ⟨rfl, rfl, rfl, by decide +kernel, rfl, by decide +kernel, by decide +kernel⟩
theorem ok_law_draw {f f_law_fresh : Addr} {fd fd_law_fresh : FuncData} (F : Fun K "_law_draw" "_law_draw" s_law_draw f fd) (F_law_fresh : Fun K "_law_fresh" "_law_fresh" s_law_fresh f_law_fresh fd_law_fresh) (b_law_fresh : Binds K fd_law_fresh ["pen"] []) (g_law_fresh : mg "_law_fresh" = some (.ref f_law_fresh))
    (m_len : mg "len" = none) (m_range : mg "range" = none) : FnG P w K mg base CX0 2 f fd ["pen", "many"] sp_law_draw := by
  have G_law_fresh : FnG P w K mg base CX0 1 f_law_fresh fd_law_fresh ["pen"] sp_law_fresh := ok_law_fresh F_law_fresh m_len m_range
  refine okG F sc_law_draw (fun vs H Q E h => ?_) (fun cdv A outer s H vs Q E gd hr h => ?_)
  · obtain ⟨p, c, m, rfl, _⟩ := h
    rfl
  · obtain ⟨p, c, m, rfl, hP, m0, m1, q⟩ := h
    obtain ⟨ns, a, z, hI, ha, hz, hl⟩ := id hP
    refine ⟨_,
      (C8.pss_cut (ps_if (pt_cmpR op_lt (pe_ix ix_list (pv 0) pe_int (fun _ _ => rfl)) (pv 1) (nomark _)) 
        (pss_one (ps_asg (pe_callG G_law_fresh gd (hr.mono (by decide)) rfl g_law_fresh F_law_fresh.kp b_law_fresh .nil pass0 (pa_cons (pv 0) pa_nil)) (pg_sub (pv 0) pe_int set_list))) -- pen[2] = _law_fresh(pen)
         pss_nil) -- if pen[2] < many:
      (pss_cons (ps_set (i := 2) sc_law_draw.nd rfl (.inl rfl) (pe_op op_mod (pe_ix ix_list (pv 0) pe_int (fun _ _ => rfl)) (pv 1))) -- digit = pen[2] % many
      (pss_cons (ps_asg (pe_op op_fdivW (pe_ix ix_list (pv 0) pe_int (fun _ _ => rfl)) (pv 1)) (pg_sub (pv 0) pe_int set_list)) -- pen[2] = pen[2] // many
      (pss_one (ps_ret (pv 2))) -- return digit
      ))) , ?_⟩
    refine ⟨fun σ H' => σ = [some (.ref p), some (.int m), none] ∧ Keep p H H' ∧ ∃ a z : Int, PenIs H' p c ns a z ∧ 0 ≤ a ∧ 0 ≤ z, ?_, ?_⟩
    · refine ⟨.ref p, rfl, p, _, 2, .int z, rfl, rfl, .inl (.inl hI.1), rfl, .int m, rfl, z, m, rfl, rfl, _, rfl, ite2 (fun h1 => ?_) (fun h1 => ?_)⟩
      · refine ⟨.ref p, rfl, p, c, ns, a, z, rfl, hI, ha, hl, fun r H1 hr0 kp hI1 => ?_⟩
        have ne := hI1.ne
        refine ⟨.ref p, rfl, p, _, 2, 2, rfl, rfl, hI1.1, rfl, rfl, kp.at, a + 1, r, ⟨upd_same, ?_⟩, by omega, hr0⟩
        rw [upd_ne ne.symm]
        exact hI1.2
      · exact ⟨rfl, Keep.refl, a, z, hI, ha, hz⟩
    · rintro σ H1 ⟨rfl, kp, a, z, hI, ha, hz⟩
      have ne := hI.ne
      refine ⟨.ref p, rfl, p, _, 2, .int z, rfl, rfl, .inl (.inl hI.1), rfl, .int m, rfl, z, m, rfl, rfl, m0, ?_⟩
      refine ⟨.ref p, rfl, p, _, 2, .int z, rfl, rfl, .inl (.inl hI.1), rfl, .int m, rfl, z, m, rfl, rfl, div_wide m0 m1, .ref p, rfl, p, _, 2, 2, rfl, rfl, hI.1, rfl, ?_⟩
      refine ⟨.int (z % m), rfl, q _ _ (Int.emod_nonneg _ (by omega)) (Int.emod_lt_of_pos _ m0) kp.at ⟨ns, a, z / m, ⟨upd_same, ?_⟩, ha, Int.ediv_nonneg hz (by omega), hl⟩⟩
      rw [upd_ne ne.symm]
      exact hI.2
end

/-! ### drawn streams -/
def sp_law_stream : Sp := fun vs H Q _ => ∃ (p c : Addr) (w m n : Int), vs = [.ref p, .int w, .int m, .int n] ∧ Pen H p c ∧ 0 < w ∧ w ≤ 3 ∧ 0 ≤ m ∧ m ≤ 100 ∧ 0 < n ∧ n ≤ 90 ∧
  ∀ t ms H', Keep p H H' → Tups H H' → Pen H' p c → TD H' (.ref t) (strmD ms) → (ms.length : Int) ≤ m → (∀ x ∈ ms, 0 ≤ x.1 ∧ x.1 < w ∧ x.2.natAbs < 10 ^ 60) → Q (.ref t) H'
section
variable {P : Program} {w : World} {K : PySem.W.Frag} {mg : Str → Option Value} {base : Heap}
abbrev N_law_stream : List Str := ["pen", "words", "most", "values", "large", "found", "lap"]
theorem sc_law_stream : FnScope N_law_stream ["pen", "words", "most", "values"] (defScope s_law_stream) := ⟨rfl, rfl, rfl, by decide +kernel, rfl, by decide +kernel, by decide +kernel⟩
theorem large_val {x : Int} (h : x = 1 ∨ x = 10 ^ 25 ∨ x = -10 ^ 58) {d n : Int} (h0 : 0 ≤ d) (h1 : d < n) (hn : n ≤ 90) : ((d - 1) * x).natAbs < 10 ^ 60 := by
  rcases h with rfl | rfl | rfl <;> omega
theorem ok_law_stream {f f_law_draw : Addr} {fd fd_law_draw : FuncData} (F : Fun K "_law_stream" "_law_stream" s_law_stream f fd) (F_law_draw : Fun K "_law_draw" "_law_draw" s_law_draw f_law_draw fd_law_draw) (b_law_draw : Binds K fd_law_draw ["pen", "many"] [])
    (g_law_draw : mg "_law_draw" = some (.ref f_law_draw)) (G_law_draw : FnG P w K mg base CX0 2 f_law_draw fd_law_draw ["pen", "many"] sp_law_draw)
    (m_len : mg "len" = none) (m_range : mg "range" = none) (m_tuple : mg "tuple" = none) : FnG P w K mg base CX0 3 f fd ["pen", "words", "most", "values"] sp_law_stream := by
  refine okG F sc_law_stream (fun vs H Q E h => ?_) (fun cdv A outer s H vs Q E gd hr h => ?_)
  · obtain ⟨p, c, w, m, n, rfl, _⟩ := h
    rfl
  · obtain ⟨p, c, w, m, n, rfl, hP, w0, w1, m0, m1, n0, n1, q⟩ := h
    refine ⟨_,
      (C8.pss_cut (ps_set (i := 4) sc_law_stream.nd rfl (.inl rfl) (pe_ix ix_list (pe_lst (pa_cons pe_int (pa_cons pe_int (pa_cons (pe_op op_pow pe_int pe_int) (pa_cons (pe_un un_neg (pe_op op_pow pe_int pe_int)) pa_nil))))) (pe_callG G_law_draw gd (hr.mono (by decide)) rfl g_law_draw F_law_draw.kp b_law_draw .nil pass0 (pa_cons (pv 0) (pa_cons pe_int pa_nil))) (fun _ _ => rfl))) -- large = [1, 1, 10 ** 25, -10 ** 58][_law_draw(pen, 4)]
      (pss_cons (ps_set (i := 5) sc_law_stream.nd rfl (.inl rfl) (pe_lst pa_nil)) -- found = []
      (pss_cons (ps_for PassesOwn.never rfl (pi_range1 rfl m_range (pa_cons (pe_callG G_law_draw gd (hr.mono (by decide)) rfl g_law_draw F_law_draw.kp b_law_draw .nil pass0 (pa_cons (pv 0) (pa_cons (pe_op op_add (pv 2) pe_int) pa_nil))) pa_nil)) (pg_name (i := 6) sc_law_stream.nd rfl (.inl rfl)) 
        (pss_one (ps_expr (pe_bm PySem.F.plainAttrs_list PySem.F.slot_list_append PySem.F.type_list_append mt_append (pv 5) (pa_cons (pe_tup (pa_cons (pe_callG G_law_draw gd (hr.mono (by decide)) rfl g_law_draw F_law_draw.kp b_law_draw .nil pass0 (pa_cons (pv 0) (pa_cons (pv 1) pa_nil))) (pa_cons (pe_op op_mul (pe_op op_sub (pe_callG G_law_draw gd (hr.mono (by decide)) rfl g_law_draw F_law_draw.kp b_law_draw .nil pass0 (pa_cons (pv 0) (pa_cons (pv 3) pa_nil))) pe_int) (pv 4)) pa_nil))) pa_nil)))) -- found.append((_law_draw(pen, words), (_law_draw(pen, values) - 1) * large))
        ) -- for lap in range(_law_draw(pen, most + 1)):
      (pss_one (ps_ret (pe_callTy call_tuple_of (by rfl) m_tuple (by decide +kernel) (pa_cons (pv 5) pa_nil)))) -- return tuple(found)
      ))) , ?_⟩
    -- large = [..][draw]
    refine ⟨fun σ H' => ∃ x : Int, (x = 1 ∨ x = 10 ^ 25 ∨ x = -10 ^ 58) ∧ σ = [some (.ref p), some (.int w), some (.int m), some (.int n), some (.int x), none, none] ∧ Keep p H H' ∧ Tups H H' ∧ Pen H' p c, ?_, ?_⟩
    · refine ⟨10, 25, rfl, rfl, ⟨by decide, by decide, by decide⟩, 10, 58, rfl, rfl, ⟨by decide, by decide, by decide⟩, _, rfl, by show 4 ≤ sizeLine; decide, fun l nl => ?_⟩
      have sm : Same H (upd H l (.lst [.int 1, .int 1, .int (10 ^ 25), .int (-10 ^ 58)])) := fun b o e => by walk_at "hp"
      refine ⟨.ref p, rfl, p, c, 4, rfl, hP.mono sm, by decide, by decide, fun d H1 d0 d1 kp hP1 => ?_⟩
      have hl : H1 l = some (.lst [.int 1, .int 1, .int (10 ^ 25), .int (-10 ^ 58)]) := kp _ _ upd_same (hP.free nl).1.symm
      have k2 : Keep p H H1 := (Keep.same sm).trans kp
      have fin : ∀ x : Int, atI [V.int 1, V.int 1, V.int (10 ^ 25), V.int (-10 ^ 58)] d = some (.int x) → (x = 1 ∨ x = 10 ^ 25 ∨ x = -10 ^ 58) → tVar 0 [some (V.ref l)] H1 (fun _ _ => True) := fun _ _ _ => ⟨_, rfl, trivial⟩
      obtain ⟨x, ex, hx⟩ : ∃ x : Int, atI [V.int 1, V.int 1, V.int (10 ^ 25), V.int (-10 ^ 58)] d = some (.int x) ∧ (x = 1 ∨ x = 10 ^ 25 ∨ x = -10 ^ 58) := by
        have : d = 0 ∨ d = 1 ∨ d = 2 ∨ d = 3 := by omega
        rcases this with rfl | rfl | rfl | rfl
        · exact ⟨1, rfl, .inl rfl⟩
        · exact ⟨1, rfl, .inl rfl⟩
        · exact ⟨10 ^ 25, rfl, .inr (.inl rfl)⟩
        · exact ⟨-10 ^ 58, rfl, .inr (.inr rfl)⟩
      exact ⟨l, _, d, .int x, rfl, rfl, SqL.of hl, ex, x, hx, rfl, k2, hP.tups k2, hP1⟩
    · rintro σ H1 ⟨x, hx, rfl, kp, tp, hP⟩
      -- found = []; for lap in range(draw(pen, most + 1))
      refine ⟨by show 0 ≤ sizeLine; decide, fun l nl => ?_⟩
      have npl := (hP.free nl).1
      have ncl := (hP.free nl).2
      have sm : Same H1 (upd H1 l (.lst [])) := fun b o e => by walk_at "hp"
      refine ⟨.ref p, rfl, .int m, rfl, m, 1, rfl, rfl, p, c, m + 1, rfl, hP.mono sm, by omega, by omega, fun d H2 d0 d1 kp2 hP2 => ?_⟩
      have hl2 : H2 l = some (.lst []) := kp2 _ _ upd_same npl.symm
      have kp3 : Keep p H H2 := kp.trans ((Keep.same sm).trans kp2)
      have tp3 : Tups H H2 := (tp.trans (Tups.same sm)).trans ((hP.mono sm).tups kp2)
      have nlH : H l = none := by
        cases e : H l with
        | none => rfl
        | some o =>
          have z := kp l o e npl.symm
          rw [nl] at z
          cases z
      obtain ⟨n', rfl⟩ : ∃ n' : Nat, d = n' := ⟨d.toNat, by omega⟩
      refine ⟨(n' : Int), rfl, by omega, by omega, ?_⟩
      rw [Int.toNat_natCast]
      refine for_range (n := n') (fun i σ H' => ∃ (y : Option V) (vs : List V) (ms : List (Int × Int)), σ = [some (.ref p), some (.int w), some (.int m), some (.int n), some (.int x), some (.ref l), y] ∧ Keep p H H' ∧ Tups H H' ∧ Pen H' p c ∧
        H' l = some (.lst vs) ∧ TDs H' vs (ms.map msgD) ∧ ms.length = i ∧ ∀ x ∈ ms, 0 ≤ x.1 ∧ x.1 < w ∧ x.2.natAbs < 10 ^ 60) ?_ ?_ ?_
      · exact ⟨none, [], [], rfl, kp3, tp3, hP2, hl2, .nil, rfl, fun _ z => by cases z⟩
      · rintro i σ H3 hi ⟨y, vs, ms, rfl, kp, tp, hP, hl, ht, hlen, hms⟩
        obtain ⟨l0, hl0⟩ := hP.at
        have npl : l ≠ p := by
          intro e
          subst e
          exact absurd rfl npl
        refine ⟨.ref l, rfl, .inl ⟨rfl, _, SqL.of hl⟩, .ref p, rfl, .int w, rfl, p, c, w, rfl, hP, w0, by omega, fun d1 H4 a0 a1 kp4 hP4 => ?_⟩
        refine ⟨.ref p, rfl, .int n, rfl, p, c, n, rfl, hP4, n0, by omega, fun d2 H5 b0 b1 kp5 hP5 => ?_⟩
        refine ⟨d2, 1, rfl, rfl, .int x, rfl, d2 - 1, x, rfl, rfl, .inl ⟨by omega, by omega⟩, by show 2 ≤ sizeLine; decide, fun t nt => ?_⟩
        have kp6 : Keep p H3 H5 := kp4.trans kp5
        have hl5 : H5 l = some (.lst vs) := kp6 _ _ hl npl
        have nlt : l ≠ t := ne_of_none hl5 nt
        have tp6 : Tups H3 (upd H5 t (.tup [.int d1, .int ((d2 - 1) * x)])) := (hP.tups kp6).trans (Tups.new nt)
        have hP6 : Pen (upd H5 t (.tup [.int d1, .int ((d2 - 1) * x)])) p c := hP5.mono (fun b o e => by walk_at "hp")
        have ml : vs.length = i := by rw [ht.msgs_len, hlen]
        refine ⟨l, vs, .ref t, rfl, rfl, by walk_at "hp", small1000 (by omega), _, vs ++ [.ref t], ms ++ [(d1, (d2 - 1) * x)], rfl, ?_, ?_, ?_, upd_same, ?_, by rw [List.length_append, hlen]; rfl, ?_⟩
        · intro b o e ne
          have nbl : b ≠ l := ne_of_none e nlH
          rw [upd_ne nbl, upd_ne (ne_of_none (kp6 b o (kp b o e ne) ne) nt)]
          exact kp6 b o (kp b o e ne) ne
        · exact (tp.trans tp6).trans (Tups.lst (l := vs) (by walk_at "hp"))
        · exact hP6.put npl ncl.symm
        · rw [List.map_append]
          have tl : Tups (upd H5 t (.tup [.int d1, .int ((d2 - 1) * x)])) (upd (upd H5 t (.tup [.int d1, .int ((d2 - 1) * x)])) l (.lst (vs ++ [.ref t]))) := Tups.lst (l := vs) (by walk_at "hp")
          exact ((ht.mono tp6).mono tl).app (.cons (TD.mono tl _ (TD.ofPair upd_same)) .nil)
        · intro y hy
          rcases List.mem_append.mp hy with hy | hy
          · exact hms y hy
          · simp only [List.mem_cons, List.not_mem_nil, or_false] at hy
            subst hy
            exact ⟨a0, a1, large_val hx b0 b1 n1⟩
      · rintro σ H3 ⟨y, vs, ms, rfl, kp, tp, hP, hl, ht, hlen, hms⟩
        refine ⟨.ref l, rfl, l, vs, rfl, .inl ⟨SqL.of hl, fun t nt => ?_⟩⟩
        refine q t ms _ (fun b o e ne => ?_) (tp.trans (Tups.new nt)) (hP.mono fun b o e => by walk_at "hp") (.tup upd_same (ht.mono (Tups.new nt))) (by omega) hms
        rw [upd_ne (ne_of_none (kp b o e ne) nt)]
        exact kp b o e ne
end

/-! ### integers -/
/-- an integer from lo to hi -/
def btw (d : PyData) (lo hi : Int) : Bool := match d with
  | .int n => decide (lo ≤ n) && decide (n ≤ hi)
  | _ => false
def isI (d : PyData) : Bool := isIntD d && !isBoolD d
def sp_is_integer : Sp := fun vs H Q _ => ∃ (p : Addr) (v : V) (d : PyData), vs = [v] ∧ LD p H v d ∧ Q (.bl (isI d)) H
def sp_is_between : Sp := fun vs H Q _ => ∃ (p : Addr) (v : V) (d : PyData) (lo hi : Int), vs = [v, .int lo, .int hi] ∧ LD p H v d ∧ Q (.bl (btw d lo hi)) H
section
variable {P : Program} {w : World} {K : PySem.W.Frag} {mg : Str → Option Value} {base : Heap}
abbrev N_is_integer : List Str := ["value"]
theorem sc_is_integer : FnScope N_is_integer ["value"] (defScope s_is_integer) := ⟨rfl, rfl, rfl, by decide +kernel, rfl, by decide +kernel, by decide +kernel⟩
theorem ok_is_integer {f : Addr} {fd : FuncData} {k : Nat} (F : Fun K "is_integer" "is_integer" s_is_integer f fd) (m_isinstance : mg "isinstance" = none) (m_int : mg "int" = none) (m_bool : mg "bool" = none) : FnG P w K mg base CX0 (k + 1) f fd ["value"] sp_is_integer := by
  refine okG F sc_is_integer (fun vs H Q E h => ?_) (fun cdv A outer s H vs Q E gd hr h => ?_)
  · obtain ⟨p, v, d, rfl, _⟩ := h
    rfl
  · obtain ⟨p, v, d, rfl, hv, q⟩ := h
    refine ⟨_, 
      (pss_one (ps_ret (pe_and (pe_callB (call_isL kit_int) (by rfl) m_isinstance (by decide +kernel) (pa_cons (pv 0) (pa_cons (pe_bltn (v := .ty "int") (by rfl) m_int (by decide +kernel) (show RelV (.ty "int") (.type "int") from rfl)) pa_nil))) (pe_one (pe_not (pe_callB (call_isL kit_bool) (by rfl) m_isinstance (by decide +kernel) (pa_cons (pv 0) (pa_cons (pe_bltn (v := .ty "bool") (by rfl) m_bool (by decide +kernel) (show RelV (.ty "bool") (.type "bool") from rfl)) pa_nil)))))))) -- return isinstance(value, int) and (not isinstance(value, bool))
       , ?_⟩
    refine ⟨v, rfl, p, v, d, rfl, hv, _, rfl, ?_⟩
    unfold isI at q
    cases hi : isIntD d with
    | false =>
      rw [hi] at q
      exact q
    | true =>
      rw [hi] at q
      exact ⟨v, rfl, p, v, d, rfl, hv, _, rfl, q⟩
abbrev N_is_between : List Str := ["value", "low", "high"]
theorem sc_is_between : FnScope N_is_between ["value", "low", "high"] (defScope s_is_between) := ⟨rfl, rfl, rfl, by decide +kernel, rfl, by decide +kernel, by decide +kernel⟩
theorem ok_is_between {f f_is_integer : Addr} {fd fd_is_integer : FuncData} (F : Fun K "is_between" "is_between" s_is_between f fd) (F_is_integer : Fun K "is_integer" "is_integer" s_is_integer f_is_integer fd_is_integer) (b_is_integer : Binds K fd_is_integer ["value"] [])
    (g_is_integer : mg "is_integer" = some (.ref f_is_integer)) (m_isinstance : mg "isinstance" = none) (m_int : mg "int" = none) (m_bool : mg "bool" = none) : FnG P w K mg base CX0 2 f fd ["value", "low", "high"] sp_is_between := by
  have G_is_integer : FnG P w K mg base CX0 1 f_is_integer fd_is_integer ["value"] sp_is_integer := ok_is_integer F_is_integer m_isinstance m_int m_bool
  refine okG F sc_is_between (fun vs H Q E h => ?_) (fun cdv A outer s H vs Q E gd hr h => ?_)
  · obtain ⟨p, v, d, lo, hi, rfl, _⟩ := h
    rfl
  · obtain ⟨p, v, d, lo, hi, rfl, hv, q⟩ := h
    refine ⟨_, 
      (pss_one (ps_ret (pe_and (pe_callG G_is_integer gd (hr.mono (by decide)) rfl g_is_integer F_is_integer.kp b_is_integer .nil pass0 (pa_cons (pv 0) pa_nil)) (pe_one (pe_chain op_le op_le (pv 1) (pv 0) (pv 2)))))) -- return is_integer(value) and low <= value <= high
       , ?_⟩
    refine ⟨v, rfl, p, v, d, rfl, hv, _, rfl, ?_⟩
    cases hv with
    | int n => 
      refine ⟨.int lo, rfl, .int n, rfl, lo, n, rfl, rfl, _, rfl, ite2 (fun h1 => ?_) (fun h1 => ?_)⟩
      · refine ⟨.int hi, rfl, n, hi, rfl, rfl, ?_⟩
        have q' : Q (.bl (decide (lo ≤ n) && decide (n ≤ hi))) H := q
        rw [h1] at q'
        exact q'
      · have q' : Q (.bl (decide (lo ≤ n) && decide (n ≤ hi))) H := q
        rw [Bool.eq_false_iff.mpr h1] at q'
        exact q'
    | _ => exact q
end

open TL
/-! ### streams' texts -/
section
variable {P : Program} {w : World} {K : PySem.W.Frag} {mg : Str → Option Value} {base : Heap}
theorem G_law_draw (T : Tx K mg) : FnG P w K mg base CX0 2 T.law_draw.f T.law_draw.fd ["pen", "many"] sp_law_draw := ok_law_draw T.law_draw.F T.law_fresh.F T.law_fresh.b T.law_fresh.g T.m_len T.m_range
theorem G_law_pen (T : Tx K mg) : FnG P w K mg base CX0 1 T.law_pen.f T.law_pen.fd ["script"] (sp_law_pen K) := ok_law_pen T.law_pen.F T.m_list
theorem G_is_between (T : Tx K mg) : FnG P w K mg base CX0 2 T.is_between.f T.is_between.fd ["value", "low", "high"] sp_is_between := ok_is_between T.is_between.F T.is_integer.F T.is_integer.b T.is_integer.g T.m_isinstance T.m_int T.m_bool
theorem G_law_stream (T : Tx K mg) : FnG P w K mg base CX0 3 T.law_stream.f T.law_stream.fd ["pen", "words", "most", "values"] sp_law_stream := ok_law_stream T.law_stream.F T.law_draw.F T.law_draw.b T.law_draw.g (G_law_draw T) T.m_len T.m_range T.m_tuple
end
theorem len_int {i : Int} (h : i.natAbs < 10 ^ 60) : (Str.ofString (toString i)).length ≤ 61 := by
  rw [len_tl, tl_int]
  have := numL_len (n := i.natAbs) (k := 60) (by decide) h
  unfold intL
  split
  · simp only [List.length_cons]; omega
  · omega
theorem log_int {i : Int} (h : i.natAbs < 10 ^ 60) : i.natAbs.log2 < 1920 := by
  have := log_small (i := i) (Nat.lt_of_lt_of_le h (by decide))
  omega
theorem len_c : cS.length = 1 := by decide +kernel
theorem len_msg {m : Int × Int} (h1 : m.1.natAbs < 10 ^ 60) (h2 : m.2.natAbs < 10 ^ 60) : (msgS m).length ≤ 123 ∧ (Str.ofString (toString m.1) ++ cS).length ≤ 62 := by
  have a := len_int h1
  have b := len_int h2
  unfold msgS
  rw [Str.length_append, Str.length_append, len_c]
  omega
theorem sum_len {B : Nat} : ∀ ys : List Str, (∀ y ∈ ys, y.length ≤ B) → (ys.map (·.length)).sum ≤ ys.length * B
  | [], _ => by simp
  | y :: r, h => by
    have := sum_len r fun z hz => h z (List.mem_cons_of_mem _ hz)
    have h1 := h y List.mem_cons_self
    simp only [List.map_cons, List.sum_cons, List.length_cons, Nat.succ_mul]
    omega
theorem line5 : 200000 ≤ sizeLine := by decide
theorem big_take {α β γ : Type} {f : α → β} {g : β → γ} {ms : List α} {i : Nat} (h : ms.length ≤ 100001) : (((ms.take i).map f).map g).length < sizeLine := by
  rw [List.length_map, List.length_map]
  have := List.length_take_le' i ms
  have := line5
  omega
theorem line200 : 200 ≤ sizeLine := by decide
theorem Rng.at {many : Int} {ms : List (Int × Int)} (hm : many ≤ 6) (h : InRange many ms) {i : Nat} {m : Int × Int} (e : ms[i]? = some m) : m.1.natAbs < 10 ^ 60 ∧ m.2.natAbs < 10 ^ 60 := by
  obtain ⟨a, b, c⟩ := h m (List.mem_of_getElem? e)
  refine ⟨?_, c⟩
  have : m.1.natAbs < 6 := by omega
  exact Nat.lt_trans this (by decide)
theorem join_fits {many : Int} {ms : List (Int × Int)} (hm : many ≤ 6) (h : InRange many ms) (hl : ms.length ≤ 100001) : ((ms.map msgS).map (·.length)).sum + (ms.map msgS).length * spS.length ≤ 16777216 := by
  have e : spS.length = 1 := by decide +kernel
  have := sum_len (B := 123) (ms.map msgS) fun y hy => by
    obtain ⟨m, hm', rfl⟩ := List.mem_map.mp hy
    obtain ⟨i, hi⟩ := List.mem_iff_getElem?.mp hm'
    obtain ⟨a, b⟩ := Rng.at hm h hi
    exact (len_msg a b).1
  rw [e]
  rw [List.length_map] at this ⊢
  omega
def sp_format_stream : Sp := fun vs H Q _ => ∃ (t : Addr) (ms : List (Int × Int)) (many : Int), vs = [.ref t] ∧ TD H (.ref t) (strmD ms) ∧ ms.length ≤ 100001 ∧ many ≤ 6 ∧ InRange many ms ∧
  ∀ H', Same H H' → Q (.str (textOf ms)) H'
section
variable {P : Program} {w : World} {K : PySem.W.Frag} {mg : Str → Option Value} {base : Heap}
abbrev N_format_stream : List Str := ["stream", "word", "value"]
theorem sc_format_stream : FnScope N_format_stream ["stream"] (defScope s_format_stream) := ⟨rfl, rfl, rfl, by decide +kernel, rfl, by decide +kernel, by decide +kernel⟩
theorem G_format_stream (T : Tx K mg) : FnG P w K mg base CX0 1 T.format_stream.f T.format_stream.fd ["stream"] sp_format_stream := by
  refine okG T.format_stream.F sc_format_stream (fun vs H Q E h => ?_) (fun cdv A outer s H vs Q E gd hr h => ?_)
  · obtain ⟨t, ms, many, rfl, _⟩ := h
    rfl
  · obtain ⟨t, ms, many, rfl, hT, hl, hm, hR, q⟩ := h
    refine ⟨_, 
      (pss_cons (ps_if (pt_cmpR (op_eqT hr.units) (pv 0) (pe_tup pa_nil) (nomark _)) 
        (pss_one (ps_ret (pe_glob (v := .str "-") rfl T.g_EMPTY ⟨_, rfl⟩))) -- return EMPTY
         pss_nil) -- if stream == ():
      (pss_one (ps_ret (pe_join pe_str (pe_lc (own := [("word", 1), ("value", 2)]) (g := gTup K 2 (gCons (gName 1) (gCons (gName 2) gNil))) rfl sc_format_stream.nd (pi_tup (pv 0)) (blkOk_by (N := N_format_stream) (sc := defScope s_format_stream) (by decide +kernel)) (fun _ _ _ _ _ => (pg_tup rfl (pgs_cons (pg_name (i := 1) sc_format_stream.nd rfl (.inl rfl)) (pgs_cons (pg_name (i := 2) sc_format_stream.nd rfl (.inl rfl)) pgs_nil)))) (fun _ _ _ _ _ => pts_nil) (fun _ _ _ _ _ => (pe_joinF (.cons (pe_fmt (pv 1)) (.cons pe_str (.cons (pe_fmt (pv 2)) .nil))))))))) -- return ' '.join([f'{word}:{value}' for word, value in stream])
      ) , ?_⟩
    refine ⟨.ref t, rfl, by show 0 ≤ sizeLine; decide, fun p np => ?_⟩
    have s1 : Same H (upd H p (.tup [])) := same_new np
    have hT1 := TD.mono (Tups.same s1) _ hT
    refine ⟨strmD ms, strmD [], hT1, .tup upd_same .nil, shaped_strm ms, rfl, _, rfl, ?_⟩
    rw [eqv_strm]
    refine ite2 (fun hb => ?_) (fun hb => ?_)
    · have e := of_decide_eq_true hb
      subst e
      exact q _ s1
    · have hne : ms ≠ [] := fun e => absurd (decide_eq_true e) hb
      obtain ⟨t1, xs, e0, ht, hx⟩ := hT1.isTup
      cases e0
      refine ⟨⟨_, rfl⟩, .ref t, rfl, t, rfl, ⟨_, SqT.of ht⟩, fun D nD => ?_⟩
      generalize upd H p (.tup []) = H1 at s1 hT1 ht hx nD ⊢
      refine lc_tup (K := K) (a := t) (xs := xs) (fun i H' => Same H1 H' ∧ H' D = some (.lst (((ms.take i).map msgS).map V.str))) ?_ ?_ ?_ ?_
      · exact ⟨same_new nD, upd_same⟩
      · rintro i H2 hi ⟨s2, hD⟩
        exact SqT.of (s2 _ _ ht)
      · rintro i x H2 hi ⟨s2, hD⟩
        obtain ⟨m, ar, em, rfl, har⟩ := hx.msg hi
        have har2 := s2 _ _ har
        obtain ⟨w1, w2⟩ := Rng.at hm hR em
        have lm := len_msg w1 w2
        have li := len_int w1
        have L2 := line200
        refine ⟨ar, [.int m.1, .int m.2], rfl, SqT.of har2, rfl, .int m.1, [.int m.2], rfl, .int m.2, [], rfl, rfl, rfl, ?_⟩
        refine ⟨.int m.1, rfl, .inr ⟨m.1, rfl, log_int w1, _, rfl, ?_, _, rfl, ?_, .int m.2, rfl, .inr ⟨m.2, rfl, log_int w2, _, rfl, ?_, ?_⟩⟩⟩
        · rw [Str.empty_append]
          exact Nat.le_trans li (by omega)
        · rw [Str.empty_append]
          exact Nat.le_trans lm.2 (by omega)
        · rw [Str.empty_append]
          exact Nat.le_trans lm.1 (by omega)
        · rw [Str.empty_append]
          refine ⟨_, hD, big_take hl, ?_, ?_⟩
          · intro b o e
            have : b ≠ D := ne_of_none e nD
            rw [upd_ne this]
            exact s2 _ _ e
          · rw [upd_same, List.take_add_one, em, List.map_append, List.map_append]
            rfl
      · rintro H2 ⟨s2, hD⟩
        rw [hx.msgs_len, List.take_length] at hD
        refine ⟨_, D, ms.map msgS, rfl, rfl, .inl (SqL.of hD), join_fits hm hR hl, ?_⟩
        have e : textOf ms = Txt.join spS (ms.map msgS) := if_neg hne
        rw [e] at q
        exact q _ (s1.trans s2)
end

open TL
/-! ### the law's text; a value's text -/
def sp_is_written_value : Sp := fun vs H Q _ => ∃ z : Str, vs = [.str z] ∧ z.length ≤ 100000 ∧ Q (.bl (goodVal (tl z))) H
theorem atI_head {l : List Nat} {c : Nat} (h : l.head? = some c) : atI l 0 = some c := by
  cases l with
  | nil => cases h
  | cons x r =>
    cases Option.some.inj h
    exact atI_nat (j := 0) rfl
theorem v_str {a b : Str} : decide (V.str a = V.str b) = decide (tl a = tl b) := by
  by_cases h : a = b
  · subst h
    rw [decide_eq_true rfl, decide_eq_true rfl]
  · rw [decide_eq_false (fun e => h (V.str.inj e)), decide_eq_false (fun e => h (ext_tl e))]
section
variable {P : Program} {w : World} {K : PySem.W.Frag} {mg : Str → Option Value} {base : Heap}
abbrev N_law_text : List Str := ["stream", "word", "value"]
theorem sc_law_text : FnScope N_law_text ["stream"] (defScope s_law_text) := ⟨rfl, rfl, rfl, by decide +kernel, rfl, by decide +kernel, by decide +kernel⟩
theorem G_law_text (T : Tx K mg) : FnG P w K mg base CX0 1 T.law_text.f T.law_text.fd ["stream"] sp_format_stream := by
  refine okG T.law_text.F sc_law_text (fun vs H Q E h => ?_) (fun cdv A outer s H vs Q E gd hr h => ?_)
  · obtain ⟨t, ms, many, rfl, _⟩ := h
    rfl
  · obtain ⟨t, ms, many, rfl, hT, hl, hm, hR, q⟩ := h
    refine ⟨_, 
      (pss_one (ps_ret (pe_ifExp (pt_cmpR (op_neT hr.units) (pv 0) (pe_tup pa_nil) (nomark _)) (pe_join pe_str (pe_lc (own := [("word", 1), ("value", 2)]) (g := gTup K 2 (gCons (gName 1) (gCons (gName 2) gNil))) rfl sc_law_text.nd (pi_tup (pv 0)) (blkOk_by (N := N_law_text) (sc := defScope s_law_text) (by decide +kernel)) (fun _ _ _ _ _ => (pg_tup rfl (pgs_cons (pg_name (i := 1) sc_law_text.nd rfl (.inl rfl)) (pgs_cons (pg_name (i := 2) sc_law_text.nd rfl (.inl rfl)) pgs_nil)))) (fun _ _ _ _ _ => pts_nil) (fun _ _ _ _ _ => (pe_op op_add_str (pe_op op_add_str (pe_callTy call_str_int (by rfl) T.m_str (by decide +kernel) (pa_cons (pv 1) pa_nil)) pe_str) (pe_callTy call_str_int (by rfl) T.m_str (by decide +kernel) (pa_cons (pv 2) pa_nil)))))) pe_str))) -- return ' '.join([str(word) + ':' + str(value) for word, value in stream]) if stream != () else '-'
       , ?_⟩
    refine ⟨.ref t, rfl, by show 0 ≤ sizeLine; decide, fun p np => ?_⟩
    have s1 : Same H (upd H p (.tup [])) := same_new np
    have hT1 := TD.mono (Tups.same s1) _ hT
    refine ⟨strmD ms, strmD [], hT1, .tup upd_same .nil, shaped_strm ms, rfl, _, rfl, ?_⟩
    rw [eqv_strm]
    refine ite2 (fun hb => ?_) (fun hb => ?_)
    · have hne : ms ≠ [] := fun e => by subst e; cases hb
      obtain ⟨t1, xs, e0, ht, hx⟩ := hT1.isTup
      cases e0
      refine ⟨⟨_, rfl⟩, .ref t, rfl, t, rfl, ⟨_, SqT.of ht⟩, fun D nD => ?_⟩
      generalize upd H p (.tup []) = H1 at s1 hT1 ht hx nD ⊢
      refine lc_tup (K := K) (a := t) (xs := xs) (fun i H' => Same H1 H' ∧ H' D = some (.lst (((ms.take i).map msgS).map V.str))) ?_ ?_ ?_ ?_
      · exact ⟨same_new nD, upd_same⟩
      · rintro i H2 hi ⟨s2, hD⟩
        exact SqT.of (s2 _ _ ht)
      · rintro i x H2 hi ⟨s2, hD⟩
        obtain ⟨m, ar, em, rfl, har⟩ := hx.msg hi
        have har2 := s2 _ _ har
        obtain ⟨w1, w2⟩ := Rng.at hm hR em
        have lm := len_msg w1 w2
        have li := len_int w1
        have lj := len_int w2
        have L2 := line200
        have lc := len_c
        refine ⟨ar, [.int m.1, .int m.2], rfl, SqT.of har2, rfl, .int m.1, [.int m.2], rfl, .int m.2, [], rfl, rfl, rfl, ?_⟩
        refine ⟨.int m.1, rfl, m.1, rfl, log_int w1, _, cS, rfl, rfl, ?_, .int m.2, rfl, m.2, rfl, log_int w2, _, _, rfl, rfl, ?_, ?_⟩
        · exact Nat.le_trans (Nat.add_le_add li (Nat.le_of_eq lc)) (by omega)
        · exact Nat.le_trans (Nat.add_le_add lm.2 lj) (by omega)
        · refine ⟨_, hD, big_take hl, ?_, ?_⟩
          · intro b o e
            have : b ≠ D := ne_of_none e nD
            rw [upd_ne this]
            exact s2 _ _ e
          · rw [upd_same, List.take_add_one, em, List.map_append, List.map_append]
            rfl
      · rintro H2 ⟨s2, hD⟩
        rw [hx.msgs_len, List.take_length] at hD
        refine ⟨_, D, ms.map msgS, rfl, rfl, .inl (SqL.of hD), join_fits hm hR hl, ?_⟩
        have e : textOf ms = Txt.join spS (ms.map msgS) := if_neg hne
        rw [e] at q
        exact q _ (s1.trans s2)
    · have e : ms = [] := Classical.byContradiction fun z => hb (by rw [decide_eq_false z]; rfl)
      subst e
      exact q _ s1
abbrev N_is_written_value : List Str := ["text", "digits"]
theorem sc_is_written_value : FnScope N_is_written_value ["text"] (defScope s_is_written_value) := ⟨rfl, rfl, rfl, by decide +kernel, rfl, by decide +kernel, by decide +kernel⟩
theorem G_is_written_value (T : Tx K mg) : FnG P w K mg base CX0 1 T.is_written_value.f T.is_written_value.fd ["text"] sp_is_written_value := by
  refine okG T.is_written_value.F sc_is_written_value (fun vs H Q E h => ?_) (fun cdv A outer s H vs Q E gd hr h => ?_)
  · obtain ⟨z, rfl, _⟩ := h
    rfl
  · obtain ⟨z, rfl, hz, q⟩ := h
    have L5 := line5
    refine ⟨_, 
      (C8.pss_cut (ps_set (i := 1) sc_is_written_value.nd rfl (.inl rfl) (pe_ifExp (pt_val (pe_m1 PySem.F.slot_str_startswith PySem.F.type_str_startswith mt_startswith (pv 0) pe_str)) (pe_slice sl_str (pv 0) (po_some pe_int) po_none) (pv 0))) -- digits = text[1:] if text.startswith('-') else text
      (pss_cons (ps_if (PW.pt (pw_or (pt_cmpR op_gt (pe_callB call_len (by rfl) T.m_len PySem.boot_len (pa_cons (pv 1) pa_nil)) (pe_glob (v := .int 60) rfl T.g_MOST_DIGITS ⟨_, rfl⟩) (nomark _)) (pw_or (pt_not (pt_val (pe_m0 PySem.F.slot_str_isascii PySem.F.type_str_isascii mt_isascii (pv 1)))) (pw_or1 (pt_not (pt_val (pe_m0 PySem.F.slot_str_isdigit PySem.F.type_str_isdigit mt_isdigit (pv 1)))))))) 
        (pss_one (ps_ret pe_bl)) -- return False
         pss_nil) -- if len(digits) > MOST_DIGITS or not digits.isascii() or (not digits.isdigit()):
      (pss_one (ps_ret (pe_or (pe_cmpR op_ne (pe_ix ix_str (pv 1) pe_int (fun _ _ => rfl)) pe_str (nomark _)) (pe_one (pe_cmpR op_eq (pv 0) pe_str (nomark _)))))) -- return digits[0] != '0' or text == '0'
      )) , ?_⟩
    refine ⟨fun σ H' => ∃ d, σ = [some (.str z), some (.str d)] ∧ H' = H ∧ tl d = digOf (tl z) ∧ d.length ≤ z.length, ?_, ?_⟩
    · refine ⟨.str z, rfl, ⟨_, rfl⟩, z, miS, rfl, rfl, _, rfl, ?_⟩
      rw [starts_minus]
      refine ite2 (fun hb => ?_) (fun hb => ?_)
      · have hb := of_decide_eq_true hb
        refine ⟨.str z, rfl, 1, rfl, z, rfl, by omega, cutS z (some 1) none, rfl, rfl, ?_, ?_⟩
        · rw [show (1 : Int) = ((1 : Nat) : Int) from rfl, tl_cut_from]
          cases e : tl z with
          | nil => rw [e] at hb; cases hb
          | cons c r =>
            rw [e] at hb
            cases Option.some.inj hb
            rfl
        · rw [len_tl, len_tl, show (1 : Int) = ((1 : Nat) : Int) from rfl, tl_cut_from, List.length_drop]
          omega
      · refine ⟨.str z, rfl, z, rfl, rfl, ?_, Nat.le_refl _⟩
        rw [digOf_else (fun e => hb (decide_eq_true e))]
    rintro σ H1 ⟨d, rfl, rfl, hd, ld⟩
    rw [written_iff hd] at q
    refine ⟨.str d, rfl, _, d.length, rfl, ⟨by omega, rfl⟩, _, _, rfl, rfl, _, rfl, ite2 (fun h1 => ?_) (fun h1 => ?_)⟩
    · have h1 := of_decide_eq_true h1
      rw [if_pos (.inl (by omega))] at q
      exact q
    have h1 : ¬ d.length > 60 := fun z => h1 (decide_eq_true (by omega))
    refine ⟨.str d, rfl, ⟨_, rfl⟩, d, rfl, rfl, trivial, _, rfl, ?_⟩
    cases h2 : Txt.isascii d with
    | false =>
      rw [if_pos (.inr (.inl h2))] at q
      exact q
    | true =>
      refine ⟨.str d, rfl, ⟨_, rfl⟩, d, rfl, rfl, trivial, _, rfl, ?_⟩
      cases h3 : Txt.isdigit d with
      | false =>
        rw [if_pos (.inr (.inr h3))] at q
        exact q
      | true =>
        rw [if_neg (by rintro (z | z | z) <;> first | omega | (rw [h2] at z; cases z) | (rw [h3] at z; cases z))] at q
        obtain ⟨c, hc⟩ : ∃ c, (tl d).head? = some c := by
          rw [asc_dig d h2] at h3
          cases e : tl d with
          | nil => rw [e] at h3; cases h3
          | cons c r => exact ⟨c, rfl⟩
        refine ⟨.str d, rfl, d, 0, c, rfl, rfl, by omega, atI_head hc, rfl, ?_⟩
        rw [hc] at q
        have e0 : decide (V.str ⟨#[c]⟩ = V.str (Str.ofString "0")) = decide (some c = some 48) := by
          rw [v_str]
          show decide ([c] = tl (Str.ofString "0")) = _
          rw [show tl (Str.ofString "0") = [48] by decide +kernel]
          by_cases h : c = 48
          · subst h; rfl
          · rw [decide_eq_false (fun z => h (List.cons.inj z).1), decide_eq_false (fun z => h (Option.some.inj z))]
        refine ⟨_, rfl, ?_⟩
        rw [e0]
        cases hh : decide (some c = some 48) with
        | false =>
          rw [hh] at q
          exact q
        | true =>
          rw [hh] at q
          refine ⟨.str z, rfl, rfl, ?_⟩
          rw [v_str, show tl (Str.ofString "0") = [48] by decide +kernel]
          exact q
end

open TL
/-! ### a text read -/
def optD : Option Int → PyData
  | some i => .int i
  | none => .none
theorem digits_word (z : Str) : litF lit_DIGITS z = wordVal (tl z) := by
  have hw : wordVal (tl z) = match tl z with | [c] => if 48 ≤ c ∧ c ≤ 53 then some ((c : Int) - 48) else none | _ => none := rfl
  by_cases h : ∃ k : Nat, k < 6 ∧ tl z = [48 + k]
  · obtain ⟨k, hk, e⟩ := h
    have : z = ⟨#[48 + k]⟩ := ext_tl (by rw [e])
    subst this
    have : k = 0 ∨ k = 1 ∨ k = 2 ∨ k = 3 ∨ k = 4 ∨ k = 5 := by omega
    rcases this with rfl | rfl | rfl | rfl | rfl | rfl <;> decide +kernel
  · have e1 : litF lit_DIGITS z = none := by
      unfold litF
      rw [List.find?_eq_none.mpr]
      · rfl
      · intro p hp hz
        have hz : p.1 = z := by simpa using hz
        subst hz
        apply h
        unfold lit_DIGITS at hp
        simp only [List.mem_cons, List.not_mem_nil, or_false] at hp
        rcases hp with rfl | rfl | rfl | rfl | rfl | rfl
        · exact ⟨0, by decide, by decide +kernel⟩
        · exact ⟨1, by decide, by decide +kernel⟩
        · exact ⟨2, by decide, by decide +kernel⟩
        · exact ⟨3, by decide, by decide +kernel⟩
        · exact ⟨4, by decide, by decide +kernel⟩
        · exact ⟨5, by decide, by decide +kernel⟩
    rw [e1]
    symm
    unfold wordVal
    split
    · rename_i c e
      split
      · rename_i hc
        exact absurd ⟨c - 48, by omega, by rw [e]; congr 1; omega⟩ h
      · rfl
    · rfl
theorem ld_opt {p : Addr} {H : Hp} : ∀ o : Option Int, LD p H (optV o) (optD o)
  | some i => .int i
  | none => .non
def sp_parse_stream (CP : Addr) : Sp := fun vs H Q E => ∃ (z : Str) (many : Int), vs = [.str z, .int many] ∧ z.length ≤ 100000 ∧ 1 ≤ many ∧ many ≤ 3 ∧
  (goodText many z = true → ∀ t H', Same H H' → TD H' (.ref t) (strmD (msgsOf z)) → Q (.ref t) H') ∧
  (goodText many z = false → ∀ e H', Same H H' → H' e = none → E (.ref CP) (some e) (upd H' e (.xd [(("line" : Str), .int 0)])))
theorem cut_lens (p : Str) : (Txt.partition p cS).1.length ≤ p.length ∧ (Txt.partition p cS).2.2.length ≤ p.length := by
  rw [partition_par p cS (by rw [tl_c]; simp)]
  have key : ∀ (l acc a b : List Nat), par [58] acc l = some (a, b) → a.length ≤ acc.length + l.length ∧ b.length ≤ l.length := by
    intro l
    induction l with
    | nil => intro acc a b h; cases h
    | cons c r ih =>
      intro acc a b h
      by_cases hc : pre [58] (c :: r) = true
      · rw [par_hit hc] at h
        cases h
        simp only [List.length_cons, List.length_drop]
        omega
      · rw [par_miss (by cases e : pre [58] (c :: r) with | true => exact absurd e hc | false => rfl)] at h
        have := ih _ _ _ h
        simp only [List.length_append, List.length_cons, List.length_nil] at this ⊢
        omega
  have hp := len_tl p
  rw [tl_c]
  cases e : par [58] [] (tl p) with
  | none => exact ⟨Nat.le_refl _, Nat.zero_le _⟩
  | some q =>
    obtain ⟨a, b⟩ := q
    have := key _ _ _ _ e
    simp only [List.length_nil, Nat.zero_add] at this
    show (⟨a.toArray⟩ : Str).length ≤ _ ∧ (⟨b.toArray⟩ : Str).length ≤ _
    rw [hp, len_tl, len_tl]
    exact this
section
variable {P : Program} {w : World} {K : PySem.W.Frag} {mg : Str → Option Value} {base : Heap}
abbrev N_parse_stream : List Str := ["text", "words", "messages", "part", "word", "_", "value"]
theorem sc_parse_stream : FnScope N_parse_stream ["text", "words"] (defScope s_parse_stream) := ⟨rfl, rfl, rfl, by decide +kernel, rfl, by decide +kernel, by decide +kernel⟩
theorem G_parse_stream (T : Tx K mg) (hw : T.pr = w.params) : FnG P w K mg base (L2.CX P w) 4 T.parse_stream.f T.parse_stream.fd ["text", "words"] (sp_parse_stream T.ParseError.C) := by
  refine okGX T.parse_stream.F sc_parse_stream (fun vs H Q E h => ?_) (fun cdv A outer s H vs Q E gd hr h => ?_)
  · obtain ⟨z, many, rfl, _⟩ := h
    rfl
  · obtain ⟨z, many, rfl, hz, m0, m1, q1, q2⟩ := h
    have L5 := line5
    refine ⟨_, 
      (pss_cons (ps_if (pt_cmpR op_eq (pv 0) (pe_glob (v := .str "-") rfl T.g_EMPTY ⟨_, rfl⟩) (nomark _)) 
        (pss_one (ps_ret (pe_tup pa_nil))) -- return ()
         pss_nil) -- if text == EMPTY:
      (pss_cons (ps_set (i := 2) sc_parse_stream.nd rfl (.inl rfl) (pe_lst pa_nil)) -- messages = []
      (pss_cons (ps_for (passes_of rfl) rfl (pi_list (pe_split (pv 0) pe_str)) (pg_name (i := 3) sc_parse_stream.nd rfl (.inl rfl)) 
        (pss_cons (ps_asg (pe_partition (pv 3) pe_str) (pg_tup rfl (pgs_cons (pg_name (i := 4) sc_parse_stream.nd rfl (.inl rfl)) (pgs_cons (pg_name (i := 5) sc_parse_stream.nd rfl (.inl rfl)) (pgs_cons (pg_name (i := 6) sc_parse_stream.nd rfl (.inl rfl)) pgs_nil))))) -- word, _, value = part.partition(':')
        (pss_cons (ps_if (PW.pt (pw_or (pt_not (pt_val (pe_callG (G_is_between T) gd (hr.mono (by decide)) rfl T.is_between.g T.is_between.F.kp T.is_between.b .nil pass0 (pa_cons (pe_kget (pe_glob (v := .ref T.aDIGITS) rfl T.g_DIGITS rfl) (pv 4) ⟨by rfl, by rfl, by rfl, by rfl⟩) (pa_cons pe_int (pa_cons (pe_op op_sub (pv 1) pe_int) pa_nil)))))) (pw_or1 (pt_not (pt_val (pe_callG (G_is_written_value T) gd (hr.mono (by decide)) rfl T.is_written_value.g T.is_written_value.F.kp T.is_written_value.b .nil pass0 (pa_cons (pv 6) pa_nil))))))) 
          (pss_one (L2.ps_raiseE (W := fun cls d _ H => E cls d H) rfl T.ParseError.e (show Room 1 _ from hr.mono (by decide)) (takes_of rfl rfl rfl rfl) (by exact (pa_cons pe_int pa_nil)))) -- raise ParseError(0)
           pss_nil) -- if not is_between(DIGITS.get(word), 0, words - 1) or not is_written_value(value):
        (pss_one (ps_expr (pe_bm PySem.F.plainAttrs_list PySem.F.slot_list_append PySem.F.type_list_append mt_append (pv 2) (pa_cons (pe_tup (pa_cons (pe_ix ix_kdict (pe_glob (v := .ref T.aDIGITS) rfl T.g_DIGITS rfl) (pv 4) (fun _ _ => rfl)) (pa_cons (pe_callTy call_int_str (by rfl) T.m_int (by decide +kernel) (pa_cons (pv 6) pa_nil)) pa_nil))) pa_nil)))) -- messages.append((DIGITS[word], int(value)))
        ))) -- for part in text.split(' '):
      (pss_one (ps_ret (pe_callTy call_tuple_of (by rfl) T.m_tuple (by decide +kernel) (pa_cons (pv 2) pa_nil)))) -- return tuple(messages)
      ))) , ?_⟩
    refine ⟨.str z, rfl, rfl, _, rfl, ?_⟩
    have ez : decide (V.str z = V.str (Str.ofString "-")) = decide (z = miS) := by
      by_cases h : z = miS
      · rw [decide_eq_true h, decide_eq_true (by rw [h])]
      · rw [decide_eq_false h, decide_eq_false (fun e => h (V.str.inj e))]
    rw [ez]
    refine ite2 (fun hb => ?_) (fun hb => ?_)
    · have e := of_decide_eq_true hb
      refine ⟨by show 0 ≤ sizeLine; decide, fun p np => ?_⟩
      refine q1 (by unfold goodText; rw [decide_eq_true e]; rfl) p _ (same_new np) ?_
      have : msgsOf z = [] := if_pos e
      rw [this]
      exact .tup upd_same .nil
    have hne : z ≠ miS := fun e => hb (decide_eq_true e)
    have eg : goodText many z = (Txt.split z spS).all fun p => goodPart many (tl p) := by
      unfold goodText
      rw [decide_eq_false hne, Bool.false_or]
    have em : msgsOf z = (Txt.split z spS).map fun p => msgOf (tl p) := if_neg hne
    obtain ⟨pl1, pl2, pl3⟩ := split_len (x := z) (y := spS) (by rw [tl_sp]; simp) sp_kind
    rw [eg, em] at q1
    rw [eg] at q2
    refine ⟨by show 0 ≤ sizeLine; decide, fun lm nm => ?_⟩
    have s1 : Same H (upd H lm (.lst [])) := same_new nm
    refine ⟨.str z, rfl, ⟨_, rfl⟩, z, spS, rfl, rfl, by rfl, by omega, fun l nl => ?_⟩
    generalize hps : Txt.split z spS = ps at q1 q2 pl1 pl2 pl3 ⊢
    have s2 : Same (upd H lm (.lst [])) (upd (upd H lm (.lst [])) l (.lst (ps.map V.str))) := same_new nl
    have h1 : (upd (upd H lm (.lst [])) l (.lst (ps.map V.str))) lm = some (.lst []) := s2 _ _ upd_same
    have h2 : (upd (upd H lm (.lst [])) l (.lst (ps.map V.str))) l = some (.lst (ps.map V.str)) := upd_same
    have nll : l ≠ lm := (ne_of_none upd_same nl).symm
    have s3 := s1.trans s2
    generalize upd (upd H lm (.lst [])) l (.lst (ps.map V.str)) = H1 at s2 h1 h2 s3 ⊢
    refine ⟨l, rfl, ⟨_, SqL.of h2⟩, for_list (xs := ps.map V.str) (fun i σ H' => ∃ y3 y4 y5 y6 vs, σ = [some (.str z), some (.int many), some (.ref lm), y3, y4, y5, y6] ∧ (∀ b o, H1 b = some o → b ≠ lm → H' b = some o) ∧ H' lm = some (.lst vs) ∧
      TDs H' vs (((ps.take i).map fun p => msgOf (tl p)).map msgD) ∧ (ps.take i).all (fun p => goodPart many (tl p)) = true) ?_ ?_ ?_ ?_⟩
    · exact ⟨none, none, none, none, [], rfl, fun b o e _ => e, h1, .nil, rfl⟩
    · rintro i σ H2 hi ⟨y3, y4, y5, y6, vs, rfl, k2, hm2, ht2, ha2⟩
      exact SqL.of (k2 _ _ h2 nll)
    · rintro i x σ H2 hi ⟨y3, y4, y5, y6, vs, rfl, k2, hm2, ht2, ha2⟩
      have hi' := hi
      rw [List.getElem?_map] at hi'
      obtain ⟨p, hp, rfl⟩ := Option.map_eq_some_iff.mp hi'
      have lp := pl3 p (List.mem_of_getElem? hp)
      obtain ⟨gp, gm⟩ := goodPart_par (many := many) p
      obtain ⟨lc1, lc2⟩ := cut_lens p
      have hll : vs.length ≤ i := by
        rw [ht2.length, List.length_map, List.length_map]
        exact List.length_take_le _ _
      have hi3 : i < ps.length := by
        rw [List.getElem?_eq_some_iff] at hp
        exact hp.1
      refine ⟨.str p, rfl, ⟨_, rfl⟩, p, cS, rfl, rfl, by rfl, by omega, fun TT nT => ?_⟩
      generalize hw1 : (Txt.partition p cS).1 = wd at gp gm lc1 ⊢
      generalize hw2 : (Txt.partition p cS).2.2 = vl at gp gm lc2 ⊢
      have sT : Same H2 (upd H2 TT (.tup [.str wd, .str (Txt.partition p cS).2.1, .str vl])) := same_new nT
      refine ⟨TT, _, rfl, SqT.of upd_same, rfl, .str wd, [.str (Txt.partition p cS).2.1, .str vl], rfl, .str (Txt.partition p cS).2.1, [.str vl], rfl, .str vl, [], rfl, rfl, ?_⟩
      have hm3 := sT _ _ hm2
      have ht3 := ht2.mono (Tups.same sT)
      have k3 : ∀ b o, H1 b = some o → b ≠ lm → (upd H2 TT (.tup [.str wd, .str (Txt.partition p cS).2.1, .str vl])) b = some o := fun b o e n => sT _ _ (k2 b o e n)
      generalize upd H2 TT (.tup [.str wd, .str (Txt.partition p cS).2.1, .str vl]) = H3 at hm3 ht3 k3 ⊢
      have sH : Same H H3 := fun b o e => k3 b o (s3 b o e) (ne_of_none e nm)
      have bad : goodPart many (tl p) = false → ∀ e, H3 e = none → E (.ref T.ParseError.C) (some e) (upd H3 e (.xd [(("line" : Str), .int 0)])) := fun hf e he =>
        q2 (by
          cases ea : ps.all (fun p => goodPart many (tl p)) with
          | false => rfl
          | true =>
            have := List.all_eq_true.mp ea p (List.mem_of_getElem? hp)
            rw [hf] at this
            cases this) e H3 sH he
      refine ⟨T.aDIGITS, litF lit_DIGITS, rfl, T.dg_DIGITS w hw, .str wd, rfl, wd, rfl, .int many, rfl, many, 1, rfl, rfl, ?_⟩
      rw [digits_word]
      refine ⟨TT, _, optD (wordVal (tl wd)), 0, many - 1, rfl, ld_opt _, _, rfl, ?_⟩
      have eb : btw (optD (wordVal (tl wd))) 0 (many - 1) = ltO many (wordVal (tl wd)) := by
        cases e : wordVal (tl wd) with
        | none => rfl
        | some d =>
          show (decide (0 ≤ d) && decide (d ≤ many - 1)) = decide (d < many)
          have : 0 ≤ d := by
            unfold wordVal at e
            split at e
            · split at e
              · cases e; omega
              · cases e
            · cases e
          rw [decide_eq_true this, Bool.true_and]
          by_cases h : d < many
          · rw [decide_eq_true h, decide_eq_true (by omega)]
          · rw [decide_eq_false h, decide_eq_false (by omega)]
      rw [eb]
      cases h1b : ltO many (wordVal (tl wd)) with
      | false =>
        rw [h1b] at gp
        refine iteT ⟨_, rfl, fun e he => bad gp e he⟩
      | true =>
        rw [h1b] at gp
        refine iteF ⟨.str vl, rfl, vl, rfl, by omega, _, rfl, ?_⟩
        cases h2b : goodVal (tl vl) with
        | false =>
          rw [h2b] at gp
          exact iteT ⟨_, rfl, fun e he => bad gp e he⟩
        | true =>
          rw [h2b] at gp
          obtain ⟨d, ed, emo⟩ := gm gp
          obtain ⟨ei, li⟩ := goodVal_int? h2b
          refine iteF ⟨.ref lm, rfl, .inl ⟨rfl, _, SqL.of hm3⟩, .str wd, rfl, T.aDIGITS, wd, .int d, rfl, rfl, (T.dg_DIGITS w hw).kd (by rw [digits_word]; exact ed), .str vl, rfl, vl, _, rfl, ei, by omega, by show 2 ≤ sizeLine; decide, fun U nU => ?_⟩
          have sU : Same H3 (upd H3 U (.tup [.int d, .int (valOf (tl vl))])) := same_new nU
          have nUm : lm ≠ U := ne_of_none hm3 nU
          refine ⟨lm, vs, .ref U, rfl, rfl, sU _ _ hm3, by omega, _, _, _, _, vs ++ [.ref U], rfl, ?_, upd_same, ?_, ?_⟩
          · intro b o e n
            rw [upd_ne n]
            exact sU _ _ (k3 b o e n)
          · rw [List.take_add_one, hp, List.map_append, List.map_append]
            have tl1 : Tups (upd H3 U (.tup [.int d, .int (valOf (tl vl))])) (upd (upd H3 U (.tup [.int d, .int (valOf (tl vl))])) lm (.lst (vs ++ [.ref U]))) := Tups.lst (l := vs) (sU _ _ hm3)
            refine ((ht3.mono (Tups.same sU)).mono tl1).app (.cons (TD.mono tl1 _ ?_) .nil)
            show TD _ (.ref U) (msgD (msgOf (tl p)))
            rw [emo]
            exact TD.ofPair upd_same
          · rw [List.take_add_one, hp, List.all_append, ha2]
            show (true && (goodPart many (tl p) && true)) = true
            rw [gp]
            rfl
    · rintro σ H2 ⟨y3, y4, y5, y6, vs, rfl, k2, hm2, ht2, ha2⟩
      rw [List.length_map, List.take_length] at ht2 ha2
      refine ⟨.ref lm, rfl, lm, vs, rfl, .inl ⟨SqL.of hm2, fun t nt => ?_⟩⟩
      refine q1 ha2 t _ (fun b o e => ?_) (.tup upd_same (ht2.mono (Tups.new nt)))
      have := k2 b o (s3 b o e) (ne_of_none e nm)
      exact same_new nt _ _ this
end

open TL
/-! ### the law's own reader -/
def strsD (l : List Str) : PyData := .list (l.map PyData.str)
theorem dp_strs (K : PySem.W.Frag) (H : Hp) : ∀ l : List Str, DpAll K H (l.map V.str) (l.map PyData.str)
  | [] => .nil
  | x :: r => .cons (.str x) (dp_strs K H r)
/-- signs that are signs -/
def OkT (z : Str) : Prop := ∀ c ∈ tl z, c < 0x110000
theorem OkT.str {z : Str} (h : OkT z) : PyData.strOk z = true := by
  unfold PyData.strOk
  rw [← Array.all_toList, List.all_eq_true]
  exact fun c hc => decide_eq_true (h c hc)
theorem OkT.sub {z x : Str} (h : OkT z) (e : ∀ c ∈ tl x, c ∈ tl z) : OkT x := fun c hc => h c (e c hc)
theorem spl_mem (S : List Nat) : ∀ (l : List Nat) (k : Nat) (acc : List Nat), ∀ p ∈ spl S k acc l, ∀ c ∈ p, c ∈ acc ∨ c ∈ l
  | [], k, acc, p, hp, c, hc => by
    rw [spl_nil] at hp
    rw [List.mem_singleton.mp hp] at hc
    exact .inl hc
  | a :: r, 0, acc, p, hp, c, hc => by
    by_cases h : pre S (a :: r) = true
    · rw [spl_hit h] at hp
      rcases List.mem_cons.mp hp with e | hp
      · rw [e] at hc
        exact .inl hc
      · rcases spl_mem S r (S.length - 1) [] p hp c hc with z | z
        · cases z
        · exact .inr (List.mem_cons_of_mem _ z)
    · rw [spl_miss (by cases e : pre S (a :: r) with | true => exact absurd e h | false => rfl)] at hp
      rcases spl_mem S r 0 (acc ++ [a]) p hp c hc with z | z
      · rcases List.mem_append.mp z with z | z
        · exact .inl z
        · rw [List.mem_singleton.mp z]
          exact .inr List.mem_cons_self
      · exact .inr (List.mem_cons_of_mem _ z)
  | a :: r, k + 1, acc, p, hp, c, hc => by
    rcases spl_mem S r k acc p hp c hc with z | z
    · exact .inl z
    · exact .inr (List.mem_cons_of_mem _ z)
theorem OkT.part {x y p : Str} (h : OkT x) (hy : tl y ≠ []) (hk : y.cps.all (· < 256) = true) (hp : p ∈ Txt.split x y) : OkT p := by
  have e := split_spl x y hy (kind_ok hk)
  refine h.sub fun c hc => ?_
  rcases spl_mem (tl y) (tl x) 0 [] (tl p) (by rw [← e]; exact List.mem_map.mpr ⟨p, hp, rfl⟩) c hc with z | z
  · cases z
  · exact z
theorem shaped_strs (l : List Str) (hl : ∀ x ∈ l, OkT x) : SeqAt.shaped (strsD l) = true := by
  unfold SeqAt.shaped strsD
  have h : PyData.canLayAll0 (l.map PyData.str) = true ∧ PyData.depthAll (l.map PyData.str) = 0 := by
    induction l with
    | nil => exact ⟨rfl, rfl⟩
    | cons x r ih =>
      have ih := ih fun y hy => hl y (List.mem_cons_of_mem _ hy)
      exact ⟨by simp only [List.map_cons, PyData.canLayAll0, PyData.canLay0, ih.1, (hl x List.mem_cons_self).str, Bool.and_self], by simp only [List.map_cons, PyData.depthAll, PyData.depth, ih.2, Nat.max_self]⟩
  simp only [PyData.canLay0, PyData.depth, h.1, h.2, Bool.true_and, decide_eq_true_eq]
  decide
def isDg (c : Nat) : Bool := decide (48 ≤ c) && decide (c ≤ 57)
theorem in_digits (c : Nat) : decide (c ∈ (Str.ofString "0123456789").cps.toList) = isDg c := by
  have e : (Str.ofString "0123456789").cps.toList = [48, 49, 50, 51, 52, 53, 54, 55, 56, 57] := by decide +kernel
  rw [e]
  unfold isDg
  by_cases h : 48 ≤ c ∧ c ≤ 57
  · rw [decide_eq_true h.1, decide_eq_true h.2]
    refine decide_eq_true ?_
    have : c = 48 ∨ c = 49 ∨ c = 50 ∨ c = 51 ∨ c = 52 ∨ c = 53 ∨ c = 54 ∨ c = 55 ∨ c = 56 ∨ c = 57 := by omega
    rcases this with rfl | rfl | rfl | rfl | rfl | rfl | rfl | rfl | rfl | rfl <;> decide
  · rw [decide_eq_false (by
      intro z
      simp only [List.mem_cons, List.not_mem_nil, or_false] at z
      omega)]
    by_cases h1 : 48 ≤ c
    · rw [decide_eq_false (show ¬ c ≤ 57 by omega), Bool.and_false]
    · rw [decide_eq_false h1, Bool.false_and]
theorem filt_dig (l : List Nat) : decide (l.filter (fun c => !isDg c) = []) = allDig l := by
  unfold allDig
  induction l with
  | nil => rfl
  | cons c r ih =>
    rw [List.all_cons, List.filter_cons, ← ih]
    show _ = (isDg c && _)
    cases isDg c with
    | true => rfl
    | false => simp
theorem eqv_str_nil (l : List Str) : PyData.eqv (strsD l) (strsD []) = decide (l = []) := by
  cases l with
  | nil => rfl
  | cons x r => rfl
def sp_law_is_number : Sp := fun vs H Q _ => ∃ (z : Str) (k : Int), vs = [.str z, .int k] ∧ z.length ≤ 100000 ∧ OkT z ∧ ∀ H', Same H H' → Q (.bl (isNum k (tl z))) H'
theorem tl0 : tl (Str.ofString "0") = [48] := by decide +kernel
section
variable {P : Program} {w : World} {K : PySem.W.Frag} {mg : Str → Option Value} {base : Heap}
abbrev N_law_is_number : List Str := ["word", "digits", "sign"]
theorem sc_law_is_number : FnScope N_law_is_number ["word", "digits"] (defScope s_law_is_number) := ⟨rfl, rfl, rfl, by decide +kernel, rfl, by decide +kernel, by decide +kernel⟩
theorem G_law_is_number (T : Tx K mg) : FnG P w K mg base CX0 1 T.law_is_number.f T.law_is_number.fd ["word", "digits"] sp_law_is_number := by
  refine okG T.law_is_number.F sc_law_is_number (fun vs H Q E h => ?_) (fun cdv A outer s H vs Q E gd hr h => ?_)
  · obtain ⟨z, k, rfl, _⟩ := h
    rfl
  · obtain ⟨z, k, rfl, hz, hok, q⟩ := h
    have L5 := line5
    refine ⟨_, 
      (pss_cons (ps_if (PW.pt (pw_or (pt_cmpR op_eq (pv 0) pe_str (nomark _)) (pw_or (pt_cmpR op_gt (pe_callB call_len (by rfl) T.m_len PySem.boot_len (pa_cons (pv 0) pa_nil)) (pv 1) (nomark _)) (pw_or1 (pt_cmpR (op_neD hr.units) (pe_lc (own := [("sign", 2)]) (g := gName 2) rfl sc_law_is_number.nd (pi_str (pv 0)) (blkOk_by (N := N_law_is_number) (sc := defScope s_law_is_number) (by decide +kernel)) (fun _ _ _ _ _ => (pg_name (i := 2) sc_law_is_number.nd rfl (.inl rfl))) (fun _ _ _ _ _ => (pts_one (pt_cmpR op_notIn_sign (pv 2) pe_str rfl))) (fun _ _ _ _ _ => (pv 2))) (pe_lst pa_nil) (nomark _)))))) 
        (pss_one (ps_ret pe_bl)) -- return False
         pss_nil) -- if word == '' or len(word) > digits or [sign for sign in word if sign not in '0123456789'] != []:
      (pss_one (ps_ret (pe_or (pe_cmpR op_eq (pv 0) pe_str (nomark _)) (pe_one (pe_cmpR op_ne (pe_ix ix_str (pv 0) pe_int (fun _ _ => rfl)) pe_str (nomark _)))))) -- return word == '0' or word[0] != '0'
      ) , ?_⟩
    unfold isNum at q
    refine ⟨.str z, rfl, rfl, _, rfl, ?_⟩
    have e1 : decide (V.str z = V.str (Str.ofString "")) = decide (tl z = []) := by rw [v_str]; rfl
    rw [e1]
    refine ite2 (fun h1 => ?_) (fun h1 => ?_)
    · rw [h1] at q
      exact q _ (Same.refl H)
    have h1' : decide (tl z = []) = false := by cases e : decide (tl z = []) with | true => exact absurd e h1 | false => rfl
    rw [h1'] at q
    have hl := len_tl z
    refine ⟨.str z, rfl, _, z.length, rfl, ⟨by omega, rfl⟩, .int k, rfl, _, _, rfl, rfl, _, rfl, ?_⟩
    rw [show ((z.length : Nat) : Int) = ((tl z).length : Int) by rw [hl]]
    refine ite2 (fun h2 => ?_) (fun h2 => ?_)
    · rw [h2] at q
      exact q _ (Same.refl H)
    have h2' : decide (((tl z).length : Int) > k) = false := by cases e : decide (((tl z).length : Int) > k) with | true => exact absurd e h2 | false => rfl
    rw [h2'] at q
    refine ⟨.str z, rfl, z, rfl, fun D nD => ?_⟩
    have sz : z.cps.size = (tl z).length := by show _ = z.cps.toList.length; rw [Array.length_toList]
    refine lc_it (D := D) walk_str (fun i H' => Same H H' ∧ H' D = some (.lst (((((tl z).take i).filter fun c => !isDg c).map fun c => (⟨#[c]⟩ : Str)).map V.str))) ?_ ?_ ?_ ?_
    · exact ⟨same_new nD, upd_same⟩
    · exact fun _ _ _ _ => trivial
    · rintro i x H2 H3 hi ⟨s2, hD⟩ ⟨rfl, c, hc, rfl⟩
      have hc' : (tl z)[i]? = some c := by show z.cps.toList[i]? = _; rw [Array.getElem?_toList]; exact hc
      refine ⟨rfl, .str ⟨#[c]⟩, rfl, c, _, rfl, rfl, _, rfl, ?_⟩
      rw [in_digits]
      have et : ((tl z).take (i + 1)).filter (fun c => !isDg c) = ((tl z).take i).filter (fun c => !isDg c) ++ (if (!isDg c) = true then [c] else []) := by
        rw [List.take_add_one, hc', List.filter_append]
        congr 1
        show List.filter _ [c] = _
        rw [List.filter_cons]
        cases isDg c <;> rfl
      rw [et]
      refine ite2 (fun hb => ?_) (fun hb => ?_)
      · rw [if_pos hb]
        refine ⟨.str ⟨#[c]⟩, rfl, _, hD, ?_, ?_, ?_⟩
        · rw [List.length_map, List.length_map]
          have a := List.length_filter_le (fun c => !isDg c) ((tl z).take i)
          have b := List.length_take_le' i (tl z)
          omega
        · intro b o e
          have : b ≠ D := ne_of_none e nD
          rw [upd_ne this]
          exact s2 _ _ e
        · rw [upd_same, List.map_append, List.map_append]
          rfl
      · rw [if_neg hb, List.append_nil]
        exact ⟨s2, hD⟩
    · rintro H2 ⟨s2, hD⟩
      rw [sz, List.take_length] at hD
      refine ⟨by show 0 ≤ sizeLine; decide, fun e ne => ?_⟩
      have s3 : Same H2 (upd H2 e (.lst [])) := same_new ne
      refine ⟨strsD (((tl z).filter fun c => !isDg c).map fun c => (⟨#[c]⟩ : Str)), strsD [], .lst (SqL.of (s3 _ _ hD)) (dp_strs _ _ _), .lst (SqL.of upd_same) .nil, shaped_strs _ (fun x hx => by
        obtain ⟨c, hc, rfl⟩ := List.mem_map.mp hx
        exact hok.sub fun d hd => by rw [List.mem_singleton.mp hd]; exact (List.mem_filter.mp hc).1), shaped_strs _ (fun x hx => by cases hx), _, rfl, ?_⟩
      rw [eqv_str_nil]
      have e3 : decide ((((tl z).filter fun c => !isDg c).map fun c => (⟨#[c]⟩ : Str)) = []) = allDig (tl z) := by
        rw [← filt_dig]
        by_cases h : (tl z).filter (fun c => !isDg c) = []
        · rw [h]; rfl
        · rw [decide_eq_false h, decide_eq_false (fun z => h (List.map_eq_nil_iff.mp z))]
      rw [e3]
      cases h3 : allDig (tl z) with
      | false =>
        rw [h3] at q
        exact iteT (q _ (s2.trans s3))
      | true =>
        rw [h3] at q
        refine iteF ?_
        obtain ⟨c, hc⟩ : ∃ c, (tl z).head? = some c := by
          cases e : tl z with
          | nil => rw [e] at h1'; cases h1'
          | cons c r => exact ⟨c, rfl⟩
        refine ⟨.str z, rfl, rfl, _, rfl, ?_⟩
        rw [v_str, tl0]
        cases h4 : decide (tl z = [48]) with
        | true =>
          rw [h4] at q
          exact q _ (s2.trans s3)
        | false =>
          rw [h4, hc] at q
          refine ⟨.str z, rfl, z, 0, c, rfl, rfl, by omega, atI_head hc, rfl, ?_⟩
          have e0 : decide (V.str ⟨#[c]⟩ = V.str (Str.ofString "0")) = decide (some c = some 48) := by
            rw [v_str, tl0]
            show decide ([c] = [48]) = _
            by_cases h : c = 48
            · subst h; rfl
            · rw [decide_eq_false (fun z => h (List.cons.inj z).1), decide_eq_false (fun z => h (Option.some.inj z))]
          rw [e0]
          exact q _ (s2.trans s3)
end

open TL
/-! ### what the law calls good; what is read, or the error -/
def sp_law_good : Sp := fun vs H Q _ => ∃ (z : Str) (many : Int), vs = [.str z, .int many] ∧ z.length ≤ 100000 ∧ OkT z ∧ 1 ≤ many ∧ many ≤ 3 ∧ ∀ H', Same H H' → Q (.bl (goodText many z)) H'
def sp_law_raised : Sp := fun vs H Q _ => ∃ (z : Str) (many : Int), vs = [.str z, .int many] ∧ z.length ≤ 100000 ∧ 1 ≤ many ∧ many ≤ 3 ∧
  (goodText many z = true → ∀ H', Same H H' → Q (.str z) H') ∧
  (goodText many z = false → ∀ a H', Same H H' → H' a = some (.tup [.str "error", .int 0]) → Q (.ref a) H')
theorem int_one {a : Str} (h : isNum 1 (tl a) = true) : intText? a = some (valOf (tl a)) ∧ a.length ≤ 1 := by
  unfold isNum at h
  simp only [Bool.and_eq_true, Bool.not_eq_true', decide_eq_false_iff_not] at h
  obtain ⟨⟨⟨g1, g2⟩, g3⟩, g4⟩ := h
  have hl := len_tl a
  have g3 := allDig_iff.mp g3
  have h45 : (tl a).head? ≠ some 45 := by
    intro z
    cases e : tl a with
    | nil => exact g1 e
    | cons c r =>
      rw [e] at z g3
      cases Option.some.inj z
      have := g3 45 List.mem_cons_self
      omega
  rw [valOf_else h45]
  exact ⟨intText_digits g3 g1 (by omega), by omega⟩
theorem cut_head (b : Str) : decide (V.str (cutS b none (some 1)) = V.str (Str.ofString "-")) = decide ((tl b).head? = some 45) := by
  rw [v_str, show (1 : Int) = ((1 : Nat) : Int) from rfl, tl_cut_to, show tl (Str.ofString "-") = [45] by decide +kernel]
  cases tl b with
  | nil => rfl
  | cons c r =>
    show decide ([c] = [45]) = decide (some c = some 45)
    by_cases h : c = 45
    · subst h; rfl
    · rw [decide_eq_false (fun z => h (List.cons.inj z).1), decide_eq_false (fun z => h (Option.some.inj z))]
section
variable {P : Program} {w : World} {K : PySem.W.Frag} {mg : Str → Option Value} {base : Heap}
abbrev N_law_good : List Str := ["text", "many", "part", "sides", "value"]
theorem sc_law_good : FnScope N_law_good ["text", "many"] (defScope s_law_good) := ⟨rfl, rfl, rfl, by decide +kernel, rfl, by decide +kernel, by decide +kernel⟩
theorem G_law_good (T : Tx K mg) : FnG P w K mg base CX0 2 T.law_good.f T.law_good.fd ["text", "many"] sp_law_good := by
  refine okG T.law_good.F sc_law_good (fun vs H Q E h => ?_) (fun cdv A outer s H vs Q E gd hr h => ?_)
  · obtain ⟨z, many, rfl, _⟩ := h
    rfl
  · obtain ⟨z, many, rfl, hz, hok, m0, m1, q⟩ := h
    have L5 := line5
    refine ⟨_, 
      (pss_cons (ps_if (pt_cmpR op_eq (pv 0) pe_str (nomark _)) 
        (pss_one (ps_ret pe_bl)) -- return True
         pss_nil) -- if text == '-':
      (pss_cons (ps_for PassesOwn.never rfl (pi_list (pe_split (pv 0) pe_str)) (pg_name (i := 2) sc_law_good.nd rfl (.inl rfl)) 
        (pss_cons (ps_set (i := 3) sc_law_good.nd rfl (.inl rfl) (pe_split (pv 2) pe_str)) -- sides = part.split(':')
        (pss_cons (ps_if (PW.pt (pw_or (pt_cmpR op_ne (pe_callB call_len_seq (by rfl) T.m_len PySem.boot_len (pa_cons (pv 3) pa_nil)) pe_int (nomark _)) (pw_or (pt_not (pt_val (pe_callG (G_law_is_number T) gd (hr.mono (by decide)) rfl T.law_is_number.g T.law_is_number.F.kp T.law_is_number.b .nil pass0 (pa_cons (pe_ix ix_list (pv 3) pe_int (fun _ _ => rfl)) (pa_cons pe_int pa_nil))))) (pw_or1 (pt_cmpR op_ge (pe_callTy call_int_str (by rfl) T.m_int (by decide +kernel) (pa_cons (pe_ix ix_list (pv 3) pe_int (fun _ _ => rfl)) pa_nil)) (pv 1) (nomark _)))))) 
          (pss_one (ps_ret pe_bl)) -- return False
           pss_nil) -- if len(sides) != 2 or not _law_is_number(sides[0], 1) or int(sides[0]) >= many:
        (pss_cons (ps_set (i := 4) sc_law_good.nd rfl (.inl rfl) (pe_ix ix_list (pv 3) pe_int (fun _ _ => rfl))) -- value = sides[1]
        (C8.pss_cut (ps_if (pt_cmpR op_eq (pe_slice sl_str (pv 4) po_none (po_some pe_int)) pe_str (nomark _)) 
          (pss_cons (ps_set (i := 4) sc_law_good.nd rfl (.inl rfl) (pe_slice sl_str (pv 4) (po_some pe_int) po_none)) -- value = value[1:]
          (pss_one (ps_if (pt_cmpR op_eq (pv 4) pe_str (nomark _)) 
            (pss_one (ps_ret pe_bl)) -- return False
             pss_nil)) -- if value == '0':
          ) pss_nil) -- if value[:1] == '-':
        (pss_one (ps_if (pt_not (pt_val (pe_callG (G_law_is_number T) gd (hr.mono (by decide)) rfl T.law_is_number.g T.law_is_number.F.kp T.law_is_number.b .nil pass0 (pa_cons (pv 4) (pa_cons pe_int pa_nil))))) 
          (pss_one (ps_ret pe_bl)) -- return False
           pss_nil)) -- if not _law_is_number(value, 60):
        ))))) -- for part in text.split(' '):
      (pss_one (ps_ret pe_bl)) -- return True
      )) , ?_⟩
    refine ⟨.str z, rfl, rfl, _, rfl, ?_⟩
    have ez : decide (V.str z = V.str (Str.ofString "-")) = decide (z = miS) := by
      by_cases h : z = miS
      · rw [decide_eq_true h, decide_eq_true (by rw [h])]
      · rw [decide_eq_false h, decide_eq_false (fun e => h (V.str.inj e))]
    rw [ez]
    refine ite2 (fun hb => ?_) (fun hb => ?_)
    · have e := of_decide_eq_true hb
      have eg : goodText many z = true := by unfold goodText; rw [decide_eq_true e]; rfl
      rw [eg] at q
      exact q _ (Same.refl H)
    have hne : z ≠ miS := fun e => hb (decide_eq_true e)
    have eg : goodText many z = (Txt.split z spS).all fun p => goodPart many (tl p) := by
      unfold goodText
      rw [decide_eq_false hne, Bool.false_or]
    obtain ⟨pl1, pl2, pl3⟩ := split_len (x := z) (y := spS) (by rw [tl_sp]; simp) sp_kind
    have okp : ∀ p ∈ Txt.split z spS, OkT p := fun p hp => hok.part (by rw [tl_sp]; simp) sp_kind hp
    rw [eg] at q
    refine ⟨.str z, rfl, ⟨_, rfl⟩, z, spS, rfl, rfl, by rfl, by omega, fun l nl => ?_⟩
    generalize hps : Txt.split z spS = ps at q pl1 pl2 pl3 okp ⊢
    have s1 : Same H (upd H l (.lst (ps.map V.str))) := same_new nl
    have h1 : (upd H l (.lst (ps.map V.str))) l = some (.lst (ps.map V.str)) := upd_same
    generalize upd H l (.lst (ps.map V.str)) = H1 at s1 h1 ⊢
    refine ⟨l, rfl, ⟨_, SqL.of h1⟩, for_list (xs := ps.map V.str) (fun i σ H' => ∃ y2 y3 y4, σ = [some (.str z), some (.int many), y2, y3, y4] ∧ Same H1 H' ∧ (ps.take i).all (fun p => goodPart many (tl p)) = true) ?_ ?_ ?_ ?_⟩
    · exact ⟨none, none, none, rfl, Same.refl _, rfl⟩
    · rintro i σ H2 hi ⟨y2, y3, y4, rfl, s2, ha2⟩
      exact SqL.of (s2 _ _ h1)
    · rintro i x σ H2 hi ⟨y2, y3, y4, rfl, s2, ha2⟩
      have hi' := hi
      rw [List.getElem?_map] at hi'
      obtain ⟨p, hp, rfl⟩ := Option.map_eq_some_iff.mp hi'
      have pm := List.mem_of_getElem? hp
      have lp := pl3 p pm
      have op := okp p pm
      have gp := goodPart_cut (many := many) (by omega) p
      obtain ⟨sl1, sl2, sl3⟩ := split_len (x := p) (y := cS) (by rw [tl_c]; simp) c_kind
      have oks : ∀ x ∈ Txt.split p cS, OkT x := fun x hx => op.part (by rw [tl_c]; simp) c_kind hx
      refine ⟨.str p, rfl, ⟨_, rfl⟩, p, cS, rfl, rfl, by rfl, by omega, fun m nm => ?_⟩
      generalize hsd : Txt.split p cS = sd at gp sl1 sl2 sl3 oks ⊢
      have s3 : Same H2 (upd H2 m (.lst (sd.map V.str))) := same_new nm
      have h3 : (upd H2 m (.lst (sd.map V.str))) m = some (.lst (sd.map V.str)) := upd_same
      generalize upd H2 m (.lst (sd.map V.str)) = H3 at s3 h3 ⊢
      have sH : Same H H3 := s1.trans (s2.trans s3)
      have bad : goodPart many (tl p) = false → ∀ H', Same H3 H' → Q (.bl false) H' := fun hf H' sh => by
        have ea : ps.all (fun p => goodPart many (tl p)) = false := by
          cases ea : ps.all (fun p => goodPart many (tl p)) with
          | false => rfl
          | true =>
            have := List.all_eq_true.mp ea p pm
            rw [hf] at this
            cases this
        rw [ea] at q
        exact q H' (sH.trans sh)
      refine ⟨.ref m, rfl, m, _, rfl, .inl (SqL.of h3), rfl, _, rfl, ?_⟩
      match sd, gp, sl3, oks, h3 with
      | [], gp, _, _, _ => exact iteT (bad gp _ (Same.refl _))
      | [_], gp, _, _, _ => exact iteT (bad gp _ (Same.refl _))
      | _ :: _ :: _ :: r, gp, _, _, _ =>
        refine ite2 (fun _ => bad gp _ (Same.refl _)) (fun z => absurd ?_ z)
        rw [Bool.not_eq_true']
        refine decide_eq_false fun e => ?_
        have e := V.int.inj e
        rw [List.length_map] at e
        simp only [List.length_cons] at e
        omega
      | [a, b], gp, sl3, oks, h3 =>
        have gp : goodPart many (tl p) = (isNum 1 (tl a) && decide (valOf (tl a) < many) && goodVal (tl b)) := gp
        have la := sl3 a List.mem_cons_self
        have lb := sl3 b (List.mem_cons_of_mem _ List.mem_cons_self)
        have oa := oks a List.mem_cons_self
        have ob := oks b (List.mem_cons_of_mem _ List.mem_cons_self)
        refine iteF ⟨.ref m, rfl, m, _, 0, .str a, rfl, rfl, SqL.of h3, atI_nat (j := 0) rfl, a, 1, rfl, by omega, oa, fun H4 s4 => ?_⟩
        refine ⟨_, rfl, ?_⟩
        cases g1 : isNum 1 (tl a) with
        | false =>
          rw [g1] at gp
          exact iteT (bad gp _ s4)
        | true =>
          rw [g1] at gp
          obtain ⟨ia, l1⟩ := int_one g1
          refine iteF ⟨.ref m, rfl, m, _, 0, .str a, rfl, rfl, SqL.of (s4 _ _ h3), atI_nat (j := 0) rfl, a, _, rfl, ia, by omega, .int many, rfl, _, _, rfl, rfl, _, rfl, ?_⟩
          refine ite2 (fun g2 => ?_) (fun g2 => ?_)
          · have g2 := of_decide_eq_true g2
            rw [decide_eq_false (show ¬ valOf (tl a) < many by omega)] at gp
            exact bad gp _ s4
          have g2 : valOf (tl a) < many := by
            have : ¬ valOf (tl a) ≥ many := fun z => g2 (decide_eq_true z)
            omega
          rw [decide_eq_true g2] at gp
          have gp : goodPart many (tl p) = goodVal (tl b) := gp
          rw [goodVal_num] at gp
          refine ⟨.ref m, rfl, m, _, 1, .str b, rfl, rfl, SqL.of (s4 _ _ h3), atI_nat (j := 1) rfl, ?_⟩
          refine ⟨fun σ H' => ∃ v, σ = [some (.str z), some (.int many), some (.str p), some (.ref m), some (.str v)] ∧ H' = H4 ∧ v.length ≤ 100000 ∧ OkT v ∧ goodPart many (tl p) = isNum 60 (tl v), ?_, ?_⟩
          · refine ⟨.str b, rfl, 1, rfl, b, rfl, by omega, rfl, _, rfl, ?_⟩
            rw [cut_head]
            refine ite2 (fun g3 => ?_) (fun g3 => ?_)
            · have g3 := of_decide_eq_true g3
              rw [if_pos g3] at gp
              have ec : tl (cutS b (some 1) none) = (tl b).drop 1 := by rw [show (1 : Int) = ((1 : Nat) : Int) from rfl, tl_cut_from]
              refine ⟨.str b, rfl, 1, rfl, b, rfl, by omega, .str (cutS b (some 1) none), rfl, rfl, _, rfl, ?_⟩
              rw [v_str, tl0, ec]
              cases g4 : decide ((tl b).drop 1 = [48]) with
              | true =>
                rw [g4] at gp
                exact iteT (bad gp _ s4)
              | false =>
                rw [g4] at gp
                refine iteF ⟨_, rfl, rfl, ?_, ob.sub fun c hc => by rw [ec] at hc; exact List.mem_of_mem_drop hc, by rw [ec]; exact gp⟩
                rw [len_tl, ec, List.length_drop, ← len_tl]
                omega
            · rw [if_neg (fun z => g3 (decide_eq_true z))] at gp
              exact ⟨b, rfl, rfl, by omega, ob, gp⟩
          rintro σ H5 ⟨v, rfl, rfl, lv, ov, gv⟩
          refine ⟨.str v, rfl, v, 60, rfl, lv, ov, fun H6 s6 => ⟨_, rfl, ?_⟩⟩
          cases g5 : isNum 60 (tl v) with
          | false =>
            rw [g5] at gv
            exact iteT (bad gv _ (s4.trans s6))
          | true =>
            rw [g5] at gv
            refine iteF ⟨_, _, _, rfl, s2.trans (s3.trans (s4.trans s6)), ?_⟩
            rw [List.take_add_one, hp, List.all_append, ha2]
            show (true && (goodPart many (tl p) && true)) = true
            rw [gv]
            rfl
    · rintro σ H2 ⟨y2, y3, y4, rfl, s2, ha2⟩
      rw [List.length_map, List.take_length] at ha2
      rw [ha2] at q
      exact q _ (s1.trans s2)
abbrev N_law_raised : List Str := ["text", "many", "found", "e"]
theorem sc_law_raised : FnScope N_law_raised ["text", "many"] (defScope s_law_raised) := ⟨rfl, rfl, rfl, by decide +kernel, rfl, by decide +kernel, by decide +kernel⟩
theorem G_law_raised (T : Tx K mg) (hw : T.pr = w.params) : FnG P w K mg base CX0 6 T.law_raised.f T.law_raised.fd ["text", "many"] sp_law_raised := by
  refine okG T.law_raised.F sc_law_raised (fun vs H Q E h => ?_) (fun cdv A outer s H vs Q E gd hr h => ?_)
  · obtain ⟨z, many, rfl, _⟩ := h
    rfl
  · obtain ⟨z, many, rfl, hz, m0, m1, q1, q2⟩ := h
    have L5 := line5
    refine ⟨_,
      (pss_cons (ps_set (i := 2) sc_law_raised.nd rfl (.inl rfl) pe_non) -- found = None
      (pss_cons (ps_try_as (i := 3) (Wout := fun _ _ _ _ => False) rfl rfl sc_law_raised.nd rfl rfl ⟨rfl, by decide, Or.inl T.ParseError.e.T.gC⟩ takes0
        (fun W pn xe tk _ => pss_one (ps_set (i := 2) sc_law_raised.nd rfl (.inl rfl) (by exact (pe_callG (G_law_text T) gd (hr.mono (by decide)) rfl T.law_text.g T.law_text.F.kp T.law_text.b .nil pass0 (pa_cons (pe_callGS (G_parse_stream T hw) gd (hr.mono (by decide)) rfl T.parse_stream.g T.parse_stream.F.kp T.parse_stream.b (fun σ => passAt tk σ) (pa_cons (pv 0) (pa_cons (pv 1) pa_nil))) pa_nil)))))
        (fun a oe cls d pn hz hf => pss_one (ps_set (i := 2) sc_law_raised.nd rfl (.inl rfl) (by exact (pe_tup (pa_cons pe_str (pa_cons (L2.pe_byE T.ParseError.e hz hf (pv 3)) pa_nil))))))) -- try
      (pss_one (ps_ret (pv 2))) -- return found
      )), ?_⟩
    refine ⟨.str z, rfl, .int many, rfl, z, many, rfl, hz, m0, m1, fun ok t H1 s1 hT => ?_, fun bad e H1 s1 he => ?_⟩
    · have hr := good_range ok
      have hb := good_back ok
      have hlen : (msgsOf z).length ≤ 100001 := by
        obtain ⟨pl1, _, _⟩ := split_len (x := z) (y := spS) (by rw [tl_sp]; simp) sp_kind
        unfold msgsOf
        split
        · exact Nat.zero_le _
        · rw [List.length_map]; omega
      refine ⟨t, msgsOf z, many, rfl, hT, hlen, by omega, hr, fun H2 s2 => ?_⟩
      rw [hb]
      exact ⟨.str z, rfl, q1 ok _ (s1.trans s2)⟩
    · refine ⟨true, T.ParseError.e.T.te, fun _ a0 na0 => ?_, fun z => Bool.noConfusion z⟩
      have s2 : Same H (upd H1 e (.xd [(("line" : Str), .int 0)])) := s1.trans (same_new he)
      refine ⟨.ref a0, rfl, rfl, rfl, e, .int 0, rfl, upd_same, by show 2 ≤ sizeLine; decide, fun t nt => ?_⟩
      exact ⟨.ref t, rfl, q2 bad t _ (s2.trans (same_new nt)) upd_same⟩
end

open TL
/-! ### the law -/
theorem fold_app (k c : Nat) : ∀ acc : Array Nat, ((List.replicate k #[c]).foldl (· ++ ·) acc).toList = acc.toList ++ List.replicate k c := by
  induction k with
  | zero => intro acc; simp
  | succ k ih =>
    intro acc
    rw [List.replicate_succ, List.foldl_cons, ih, List.replicate_succ]
    simp
theorem tl_mul {c : Nat} {n : Nat} (h : 2 ≤ n) : tl (Txt.mul ⟨#[c]⟩ (n : Int)) = List.replicate n c := by
  unfold Txt.mul
  rw [if_neg (by omega), if_neg (by
    have : ((n : Int) == 1) = false := beq_eq_false_iff_ne.mpr (by omega)
    rw [this]
    exact Bool.false_ne_true)]
  show ((List.replicate n #[c]).foldl (· ++ ·) #[]).toList = _
  rw [fold_app]
  rfl
theorem goodText_one {many : Int} {z : Str} (h1 : z ≠ miS) (h2 : 32 ∉ tl z) : goodText many z = goodPart many (tl z) := by
  have e : Txt.split z spS = [z] := by
    refine map_tl_inj ?_
    rw [split_spl z spS (by rw [tl_sp]; simp) (kind_ok sp_kind), tl_sp, spl_last1 h2]
    rfl
  unfold goodText
  rw [decide_eq_false h1, e]
  simp
theorem goodPart_eq (many : Int) (c : Nat) (v : List Nat) : goodPart many (c :: 58 :: v) = (decide (48 ≤ c) && decide (c ≤ 53) && decide ((c : Int) - 48 < many) && goodVal v) := rfl
theorem long_bad {l : List Nat} (h : 60 < (digOf l).length) : goodVal l = false := by
  unfold goodVal
  rw [decide_eq_false (by omega)]
  rfl
theorem ne_mi {z : Str} (h : tl z ≠ [45]) : z ≠ miS := fun e => h (by rw [e]; exact tl_mi)
theorem tl_nine {n : Nat} (h : 2 ≤ n) : tl (Txt.mul (Str.ofString "9") (n : Int)) = List.replicate n 57 := by
  rw [show Str.ofString "9" = ⟨#[57]⟩ by decide +kernel]
  exact tl_mul h
theorem tl_seven {n : Nat} (h : 2 ≤ n) : tl (Txt.mul (Str.ofString "7") (n : Int)) = List.replicate n 55 := by
  rw [show Str.ofString "7" = ⟨#[55]⟩ by decide +kernel]
  exact tl_mul h
theorem digOf_rep {n c : Nat} (h : c ≠ 45) : digOf (List.replicate n c) = List.replicate n c := digOf_else (by
  cases n with
  | zero => exact fun z => by cases z
  | succ n => rw [List.replicate_succ]; exact fun z => h (Option.some.inj z))
def L1 : List Str := (["", " ", "--", "0:", ":0", "0:-0", "0:01", "0:1 ", " 0:1", "0:1  0:1"] : List Str) ++ [Str.ofString "0:" ++ (Txt.mul (Str.ofString "9") 61), "1:0"]
def L2' : List Str := [Str.ofString "0:" ++ (Txt.mul (Str.ofString "7") 4400), (Txt.mul (Str.ofString "7") 4400) ++ Str.ofString ":0", Str.ofString "0:-" ++ (Txt.mul (Str.ofString "7") 4400), "0:1_0", "0:1\n", "0:1:1", "3:0"]
def Bad (many : Int) (s : Str) : Prop := s.length ≤ 100000 ∧ goodText many s = false
theorem mem_rep {n c d : Nat} (h : c ∈ List.replicate n d) : c = d := (List.mem_replicate.mp h).2
theorem tl_zc : tl (Str.ofString "0:") = [48, 58] := by decide +kernel
theorem tl_zcm : tl (Str.ofString "0:-") = [48, 58, 45] := by decide +kernel
theorem tl_cz : tl (Str.ofString ":0") = [58, 48] := by decide +kernel
theorem bad_nine : Bad 1 (Str.ofString "0:" ++ (Txt.mul (Str.ofString "9") 61)) := by
  have e : tl (Str.ofString "0:" ++ (Txt.mul (Str.ofString "9") 61)) = 48 :: 58 :: List.replicate 61 57 := by
    rw [tl_append, show (61 : Int) = ((61 : Nat) : Int) from rfl, tl_nine (by decide), tl_zc]
    rfl
  refine ⟨?_, ?_⟩
  · rw [len_tl, e]
    decide
  · rw [goodText_one (ne_mi (by rw [e]; intro z; cases z)) (by rw [e]; decide), e]
    decide +kernel
theorem good_nine : goodText 1 (Str.ofString "0:" ++ (Txt.mul (Str.ofString "9") 60)) = true ∧ (Str.ofString "0:" ++ (Txt.mul (Str.ofString "9") 60)).length ≤ 100000 := by
  have e : tl (Str.ofString "0:" ++ (Txt.mul (Str.ofString "9") 60)) = 48 :: 58 :: List.replicate 60 57 := by
    rw [tl_append, show (60 : Int) = ((60 : Nat) : Int) from rfl, tl_nine (by decide), tl_zc]
    rfl
  refine ⟨?_, ?_⟩
  · rw [goodText_one (ne_mi (by rw [e]; intro z; cases z)) (by rw [e]; decide), e]
    decide +kernel
  · rw [len_tl, e]
    decide
theorem bad_s1 : Bad 3 (Str.ofString "0:" ++ (Txt.mul (Str.ofString "7") 4400)) := by
  have e : tl (Str.ofString "0:" ++ (Txt.mul (Str.ofString "7") 4400)) = 48 :: 58 :: List.replicate 4400 55 := by
    rw [tl_append, show (4400 : Int) = ((4400 : Nat) : Int) from rfl, tl_seven (by decide), tl_zc]
    rfl
  refine ⟨?_, ?_⟩
  · rw [len_tl, e, List.length_cons, List.length_cons, List.length_replicate]
    decide
  · rw [goodText_one (ne_mi (by rw [e]; intro z; cases z)) (by
      rw [e]
      intro z
      rcases List.mem_cons.mp z with z | z
      · cases z
      · rcases List.mem_cons.mp z with z | z
        · cases z
        · exact absurd (mem_rep z) (by decide)), e]
    rw [goodPart_eq, long_bad (by rw [digOf_rep (by decide), List.length_replicate]; decide), Bool.and_false]
theorem bad_s2 : Bad 3 ((Txt.mul (Str.ofString "7") 4400) ++ Str.ofString ":0") := by
  have e : tl ((Txt.mul (Str.ofString "7") 4400) ++ Str.ofString ":0") = 55 :: 55 :: (List.replicate 4398 55 ++ [58, 48]) := by
    rw [tl_append, show (4400 : Int) = ((4398 + 1 + 1 : Nat) : Int) from rfl, tl_seven (by decide), tl_cz, List.replicate_succ, List.replicate_succ]
    rfl
  refine ⟨?_, ?_⟩
  · rw [len_tl, e, List.length_cons, List.length_cons, List.length_append, List.length_replicate]
    decide
  · rw [goodText_one (ne_mi (by rw [e]; intro z; cases z)) (by
      rw [e]
      intro z
      rcases List.mem_cons.mp z with z | z
      · cases z
      · rcases List.mem_cons.mp z with z | z
        · cases z
        · rcases List.mem_append.mp z with z | z
          · exact absurd (mem_rep z) (by decide)
          · revert z
            decide), e]
    rfl
theorem bad_s3 : Bad 3 (Str.ofString "0:-" ++ (Txt.mul (Str.ofString "7") 4400)) := by
  have e : tl (Str.ofString "0:-" ++ (Txt.mul (Str.ofString "7") 4400)) = 48 :: 58 :: 45 :: List.replicate 4400 55 := by
    rw [tl_append, show (4400 : Int) = ((4400 : Nat) : Int) from rfl, tl_seven (by decide), tl_zcm]
    rfl
  refine ⟨?_, ?_⟩
  · rw [len_tl, e, List.length_cons, List.length_cons, List.length_cons, List.length_replicate]
    decide
  · rw [goodText_one (ne_mi (by rw [e]; intro z; cases z)) (by
      rw [e]
      intro z
      rcases List.mem_cons.mp z with z | z
      · cases z
      · rcases List.mem_cons.mp z with z | z
        · cases z
        · rcases List.mem_cons.mp z with z | z
          · cases z
          · exact absurd (mem_rep z) (by decide)), e]
    rw [goodPart_eq, long_bad (by rw [digOf_minus, List.length_replicate]; decide), Bool.and_false]
theorem bad_L1 : ∀ s ∈ L1, Bad 1 s := by
  intro s hs
  unfold L1 at hs
  simp only [List.cons_append, List.nil_append, List.mem_cons, List.not_mem_nil, or_false] at hs
  rcases hs with rfl | rfl | rfl | rfl | rfl | rfl | rfl | rfl | rfl | rfl | rfl | rfl
  case inr.inr.inr.inr.inr.inr.inr.inr.inr.inr.inl => exact bad_nine
  all_goals exact ⟨by decide +kernel, by decide +kernel⟩
theorem bad_L2 : ∀ s ∈ L2', Bad 3 s := by
  intro s hs
  unfold L2' at hs
  simp only [List.mem_cons, List.not_mem_nil, or_false] at hs
  rcases hs with rfl | rfl | rfl | rfl | rfl | rfl | rfl
  · exact bad_s1
  · exact bad_s2
  · exact bad_s3
  all_goals exact ⟨by decide +kernel, by decide +kernel⟩
theorem mul_ok {z : Str} {n : Int} (hz : z.length = 1) (h1 : n = 60 ∨ n = 61 ∨ n = 4400) : MulOk z n := by
  unfold MulOk
  rw [hz]
  rcases h1 with rfl | rfl | rfl <;> exact ⟨by decide, fun _ _ => by decide, fun _ _ => by decide⟩
theorem mul_len {z : Str} (hz : ∃ c, z = ⟨#[c]⟩) {n : Nat} (h : 2 ≤ n) : (Txt.mul z (n : Int)).length = n := by
  obtain ⟨c, rfl⟩ := hz
  rw [len_tl, tl_mul h, List.length_replicate]

open TL
theorem passNo {X : Cx} : Passes (L2.CX X.prog X.w) X fun _ _ _ => False := L2.passes_call (W := fun _ _ _ _ => False) L2.takes_none5 (fun _ _ _ _ h => h)
def errD : PyData := .tuple [.str "error", .int 0]
theorem big_val {x : Int} (h : x = 10 ^ 60 - 1 ∨ x = 1 - 10 ^ 60 ∨ (∃ e : Int, 0 ≤ e ∧ e < 10 ^ 30 ∧ x = e - 5 * 10 ^ 29)) : x.natAbs < 10 ^ 60 := by
  rcases h with rfl | rfl | ⟨e, h0, h1, rfl⟩
  · decide
  · decide
  · omega
theorem short_of {many : Int} {ms : List (Int × Int)} (hm : many ≤ 6) (h : InRange many ms) : Short ms := fun m hm' => by
  obtain ⟨a, b, c⟩ := h m hm'
  refine ⟨?_, Nat.lt_trans c (by decide)⟩
  have : m.1.natAbs < 6 := by omega
  exact Nat.lt_trans this (by decide)
theorem len_text {many : Int} {ms : List (Int × Int)} (hm : many ≤ 6) (h : InRange many ms) (hl : ms.length ≤ 225) : (textOf ms).length ≤ 30000 := by
  unfold textOf
  split
  · decide
  · rw [join_eq]
    have key : ∀ l : List Str, (∀ y ∈ l, y.length ≤ 123) → (Str.join spS l).length ≤ l.length * 124 := by
      intro l
      induction l with
      | nil => intro _; decide
      | cons x r ih =>
        intro hx
        have h1 := hx x List.mem_cons_self
        cases r with
        | nil =>
          show x.length ≤ 1 * 124
          omega
        | cons y s =>
          have h2 := ih fun z hz => hx z (List.mem_cons_of_mem _ hz)
          have e : Str.join spS (x :: y :: s) = x ++ spS ++ Str.join spS (y :: s) := rfl
          have e1 : spS.length = 1 := by decide +kernel
          rw [e, Str.length_append, Str.length_append, e1]
          simp only [List.length_cons] at h2 ⊢
          omega
    have := key (ms.map msgS) fun y hy => by
      obtain ⟨m, hm', rfl⟩ := List.mem_map.mp hy
      obtain ⟨i, hi⟩ := List.mem_iff_getElem?.mp hm'
      obtain ⟨a, b⟩ := Rng.at hm h hi
      exact (len_msg a b).1
    rw [List.length_map] at this
    omega
theorem intL_low (v : Int) : ∀ c ∈ intL v, c < 0x110000 := fun c hc => by
  have key : ∀ n : Nat, ∀ c ∈ numL n, c < 0x110000 := fun n c hc => by
    have := numL_digits n c hc
    omega
  unfold intL at hc
  split at hc
  · rcases List.mem_cons.mp hc with e | hc
    · omega
    · exact key _ c hc
  · exact key _ c hc
theorem join_mem {c s : Nat} : ∀ {ps : List (List Nat)}, c ∈ joinL [s] ps → c = s ∨ ∃ p ∈ ps, c ∈ p
  | [], h => by cases h
  | [p], h => .inr ⟨p, List.mem_cons_self, h⟩
  | p :: q :: r, h => by
    rcases List.mem_append.mp (show c ∈ p ++ ([s] ++ joinL [s] (q :: r)) from h) with h | h
    · exact .inr ⟨p, List.mem_cons_self, h⟩
    · rcases List.mem_append.mp h with h | h
      · exact .inl (List.mem_singleton.mp h)
      · rcases join_mem h with h | ⟨p', h1, h2⟩
        · exact .inl h
        · exact .inr ⟨p', List.mem_cons_of_mem _ h1, h2⟩
theorem ok_text (ms : List (Int × Int)) : OkT (textOf ms) := by
  unfold textOf
  split
  · intro c hc
    rw [tl_mi, List.mem_singleton] at hc
    omega
  · intro c hc
    rw [join_eq, tl_join, tl_sp] at hc
    rcases join_mem hc with e | ⟨p, hp, h⟩
    · omega
    · rw [List.map_map] at hp
      obtain ⟨m, _, rfl⟩ := List.mem_map.mp hp
      have h : c ∈ tl (msgS m) := h
      rw [tl_msg] at h
      rcases List.mem_append.mp h with h | h
      · exact intL_low _ c h
      · rcases List.mem_cons.mp h with h | h
        · omega
        · exact intL_low _ c h
def signs : Str := " 0123456789:-_\n\t+a"
theorem tl_signs : (tl signs).length = 18 ∧ (tl signs).all (fun c => decide (c < 0x110000)) = true := by decide +kernel
theorem cut_mem_from {z : Str} {lo hi : Option Int} {c : Nat} (h : c ∈ tl (cutS z lo hi)) : c ∈ tl z := by
  unfold cutS at h
  exact List.mem_of_mem_drop (List.mem_of_mem_take h)
theorem cut_len_le (z : Str) (lo hi : Option Int) : (cutS z lo hi).length ≤ z.length := by
  rw [len_tl, len_tl]
  unfold cutS
  show (((tl z).drop _).take _).length ≤ _
  rw [List.length_take, List.length_drop]
  omega
theorem rep_range {many : Int} {ms : List (Int × Int)} {n : Nat} (h : InRange many ms) : InRange many (List.replicate n ms).flatten := fun m hm => by
  obtain ⟨l', hl', hm'⟩ := List.mem_flatten.mp hm
  rw [List.eq_of_mem_replicate hl'] at hm'
  exact h m hm'
section
variable {P : Program} {w : World} {K : PySem.W.Frag} {mg : Str → Option Value} {base : Heap}
def sp_law (K : PySem.W.Frag) : Sp := fun vs H Q _ => ∃ (a : Addr) (ns : List Int), vs = [.ref a] ∧ SqL K H a (ns.map V.int) ∧ ns.length ≤ 63 ∧ ∀ H', Q (.bl true) H'
abbrev N_law : List Str := ["script", "pen", "turn", "many", "stream", "value", "page", "place", "sign", "due", "odd"]
theorem sc_law : FnScope N_law ["script"] (defScope s_law) := ⟨rfl, rfl, rfl, by decide +kernel, rfl, by decide +kernel, by decide +kernel⟩
theorem ok_law (T : Tx K mg) (hw : T.pr = w.params) {f : Addr} {fd : FuncData} (F : Fun K "law" "law" s_law f fd) : FnG P w K mg base CX0 8 f fd ["script"] (sp_law K) := by
  refine okG F sc_law (fun vs H Q E h => ?_) (fun cdv A outer s H vs Q E gd hr h => ?_)
  · obtain ⟨a, ns, rfl, _⟩ := h
    rfl
  · obtain ⟨a, ns, rfl, hS, hl, q⟩ := h
    have L5 := line5
    refine ⟨_, 
      (pss_cons (ps_set (i := 1) sc_law.nd rfl (.inl rfl) (pe_callG (G_law_pen T) gd (hr.mono (by decide)) rfl T.law_pen.g T.law_pen.F.kp T.law_pen.b .nil pass0 (pa_cons (pv 0) pa_nil))) -- pen = _law_pen(script)
      (C8.pss_cut (ps_for PassesOwn.never rfl (pi_range1 rfl T.m_range (pa_cons pe_int pa_nil)) (pg_name (i := 2) sc_law.nd rfl (.inl rfl)) 
        (pss_cons (ps_set (i := 3) sc_law.nd rfl (.inl rfl) (pe_op op_add pe_int (pe_callG (G_law_draw T) gd (hr.mono (by decide)) rfl T.law_draw.g T.law_draw.F.kp T.law_draw.b .nil pass0 (pa_cons (pv 1) (pa_cons pe_int pa_nil))))) -- many = 1 + _law_draw(pen, 3)
        (C8.pss_cut (ps_set (i := 4) sc_law.nd rfl (.inl rfl) (pe_callG (G_law_stream T) gd (hr.mono (by decide)) rfl T.law_stream.g T.law_stream.F.kp T.law_stream.b .nil pass0 (pa_cons (pv 1) (pa_cons (pv 3) (pa_cons pe_int (pa_cons pe_int pa_nil)))))) -- stream = _law_stream(pen, many, 8, 5)
        (C8.pss_cut (ps_if (pt_cmpR op_eq (pe_callG (G_law_draw T) gd (hr.mono (by decide)) rfl T.law_draw.g T.law_draw.F.kp T.law_draw.b .nil pass0 (pa_cons (pv 1) (pa_cons pe_int pa_nil))) pe_int (nomark _)) 
          (pss_cons (ps_set (i := 5) sc_law.nd rfl (.inl rfl) (pe_ix ix_list (pe_lst (pa_cons (pe_op op_sub (pe_op op_pow pe_int pe_int) pe_int) (pa_cons (pe_op op_sub pe_int (pe_op op_pow pe_int pe_int)) (pa_cons (pe_op op_sub (pe_callG (G_law_draw T) gd (hr.mono (by decide)) rfl T.law_draw.g T.law_draw.F.kp T.law_draw.b .nil pass0 (pa_cons (pv 1) (pa_cons (pe_op op_pow pe_int pe_int) pa_nil))) (pe_op op_mul pe_int (pe_op op_pow pe_int pe_int))) pa_nil)))) (pe_callG (G_law_draw T) gd (hr.mono (by decide)) rfl T.law_draw.g T.law_draw.F.kp T.law_draw.b .nil pass0 (pa_cons (pv 1) (pa_cons pe_int pa_nil))) (fun _ _ => rfl))) -- value = [10 ** 60 - 1, 1 - 10 ** 60, _law_draw(pen, 10 ** 30) - 5 * 10 ** 29][_law_draw(pen, 3)]
          (pss_one (ps_set (i := 4) sc_law.nd rfl (.inl rfl) (pe_op op_catD (pv 4) (pe_tup (pa_cons (pe_tup (pa_cons pe_int (pa_cons (pv 5) pa_nil))) pa_nil))))) -- stream = stream + ((0, value),)
          ) pss_nil) -- if _law_draw(pen, 3) == 0:
        (C8.pss_cut (ps_if (pt_cmpR op_eq (pe_callG (G_law_draw T) gd (hr.mono (by decide)) rfl T.law_draw.g T.law_draw.F.kp T.law_draw.b .nil pass0 (pa_cons (pv 1) (pa_cons pe_int pa_nil))) pe_int (nomark _)) 
          (pss_one (ps_set (i := 4) sc_law.nd rfl (.inl rfl) (pe_op op_mulD (pv 4) pe_int))) -- stream = stream * 25
           pss_nil) -- if _law_draw(pen, 6) == 0:
        (pss_cons (ps_set (i := 6) sc_law.nd rfl (.inl rfl) (pe_callG (G_law_text T) gd (hr.mono (by decide)) rfl T.law_text.g T.law_text.F.kp T.law_text.b .nil pass0 (pa_cons (pv 4) pa_nil))) -- page = _law_text(stream)
        (pss_cons (ps_if (pt_cmpR op_ne (pe_callG (G_format_stream T) gd (hr.mono (by decide)) rfl T.format_stream.g T.format_stream.F.kp T.format_stream.b .nil pass0 (pa_cons (pv 4) pa_nil)) (pv 6) (nomark _)) 
          (pss_one (ps_ret pe_bl)) -- return False
           pss_nil) -- if format_stream(stream) != page:
        (pss_cons (ps_if (pt_cmpR op_ne (pe_callB (call_reprD gd hr.units) (by rfl) T.m_repr (by decide +kernel) (pa_cons (pe_callG (G_parse_stream T hw) gd (hr.mono (by decide)) rfl T.parse_stream.g T.parse_stream.F.kp T.parse_stream.b .nil passNo (pa_cons (pv 6) (pa_cons (pv 3) pa_nil))) pa_nil)) (pe_callB (call_reprD gd hr.units) (by rfl) T.m_repr (by decide +kernel) (pa_cons (pv 4) pa_nil)) (nomark _)) 
          (pss_one (ps_ret pe_bl)) -- return False
           pss_nil) -- if repr(parse_stream(page, many)) != repr(stream):
        (pss_cons (ps_set (i := 7) sc_law.nd rfl (.inl rfl) (pe_callG (G_law_draw T) gd (hr.mono (by decide)) rfl T.law_draw.g T.law_draw.F.kp T.law_draw.b .nil pass0 (pa_cons (pv 1) (pa_cons (pe_op op_add (pe_callB call_len (by rfl) T.m_len PySem.boot_len (pa_cons (pv 6) pa_nil)) pe_int) pa_nil)))) -- place = _law_draw(pen, len(page) + 1)
        (pss_cons (ps_set (i := 8) sc_law.nd rfl (.inl rfl) (pe_ix ix_str pe_str (pe_callG (G_law_draw T) gd (hr.mono (by decide)) rfl T.law_draw.g T.law_draw.F.kp T.law_draw.b .nil pass0 (pa_cons (pv 1) (pa_cons pe_int pa_nil))) (fun _ _ => rfl))) -- sign = ' 0123456789:-_\n\t+a'[_law_draw(pen, 18)]
        (C8.pss_cut (ps_set (i := 6) sc_law.nd rfl (.inl rfl) (pe_op op_add_str (pe_op op_add_str (pe_slice sl_str (pv 6) po_none (po_some (pv 7))) (pv 8)) (pe_slice sl_str (pv 6) (po_some (pe_op op_add (pv 7) (pe_callG (G_law_draw T) gd (hr.mono (by decide)) rfl T.law_draw.g T.law_draw.F.kp T.law_draw.b .nil pass0 (pa_cons (pv 1) (pa_cons pe_int pa_nil))))) po_none))) -- page = page[:place] + sign + page[place + _law_draw(pen, 2):]
        (pss_cons (ps_set (i := 9) sc_law.nd rfl (.inl rfl) (pe_ifExp (pt_val (pe_callG (G_law_good T) gd (hr.mono (by decide)) rfl T.law_good.g T.law_good.F.kp T.law_good.b .nil pass0 (pa_cons (pv 6) (pa_cons (pv 3) pa_nil)))) (pv 6) (pe_tup (pa_cons pe_str (pa_cons pe_int pa_nil))))) -- due = page if _law_good(page, many) else ('error', 0)
        (pss_one (ps_if (pt_cmpR (op_neT hr.units) (pe_callG (G_law_raised T hw) gd (hr.mono (by decide)) rfl T.law_raised.g T.law_raised.F.kp T.law_raised.b .nil pass0 (pa_cons (pv 6) (pa_cons (pv 3) pa_nil))) (pv 9) (nomark _)) 
          (pss_one (ps_ret pe_bl)) -- return False
           pss_nil)) -- if _law_raised(page, many) != due:
        )))))))))))) -- for turn in range(8):
      (pss_cons (ps_set (i := 10) sc_law.nd rfl (.inl rfl) (pe_lst (pa_cons pe_str (pa_cons pe_str (pa_cons pe_str (pa_cons pe_str (pa_cons pe_str (pa_cons pe_str (pa_cons pe_str (pa_cons pe_str (pa_cons pe_str (pa_cons pe_str pa_nil)))))))))))) -- odd = ['', ' ', '--', '0:', ':0', '0:-0', '0:01', '0:1 ', ' 0:1', '0:1  0:1']
      (pss_cons (ps_set (i := 10) sc_law.nd rfl (.inl rfl) (pe_op op_cat (pv 10) (pe_lst (pa_cons (pe_op op_add_str pe_str (pe_op op_mulS pe_str pe_int)) (pa_cons pe_str pa_nil))))) -- odd = odd + ['0:' + '9' * 61, '1:0']
      (C8.pss_cut (ps_for PassesOwn.never rfl (pi_list (pv 10)) (pg_name (i := 6) sc_law.nd rfl (.inl rfl)) 
        (pss_one (ps_if (pt_cmpR (op_neT hr.units) (pe_callG (G_law_raised T hw) gd (hr.mono (by decide)) rfl T.law_raised.g T.law_raised.F.kp T.law_raised.b .nil pass0 (pa_cons (pv 6) (pa_cons pe_int pa_nil))) (pe_tup (pa_cons pe_str (pa_cons pe_int pa_nil))) (nomark _)) 
          (pss_one (ps_ret pe_bl)) -- return False
           pss_nil)) -- if _law_raised(page, 1) != ('error', 0):
        ) -- for page in odd:
      (pss_cons (ps_set (i := 10) sc_law.nd rfl (.inl rfl) (pe_lst (pa_cons (pe_op op_add_str pe_str (pe_op op_mulS pe_str pe_int)) (pa_cons (pe_op op_add_str (pe_op op_mulS pe_str pe_int) pe_str) (pa_cons (pe_op op_add_str pe_str (pe_op op_mulS pe_str pe_int)) (pa_cons pe_str (pa_cons pe_str (pa_cons pe_str (pa_cons pe_str pa_nil))))))))) -- odd = ['0:' + '7' * 4400, '7' * 4400 + ':0', '0:-' + '7' * 4400, '0:1_0', '0:1\n', '0:1:1', '3:0']
      (C8.pss_cut (ps_for PassesOwn.never rfl (pi_list (pv 10)) (pg_name (i := 6) sc_law.nd rfl (.inl rfl)) 
        (pss_one (ps_if (pt_cmpR (op_neT hr.units) (pe_callG (G_law_raised T hw) gd (hr.mono (by decide)) rfl T.law_raised.g T.law_raised.F.kp T.law_raised.b .nil pass0 (pa_cons (pv 6) (pa_cons pe_int pa_nil))) (pe_tup (pa_cons pe_str (pa_cons pe_int pa_nil))) (nomark _)) 
          (pss_one (ps_ret pe_bl)) -- return False
           pss_nil)) -- if _law_raised(page, 3) != ('error', 0):
        ) -- for page in odd:
      (pss_one (ps_ret (pe_cmpR op_eq (pe_callG (G_law_raised T hw) gd (hr.mono (by decide)) rfl T.law_raised.g T.law_raised.F.kp T.law_raised.b .nil pass0 (pa_cons (pe_op op_add_str pe_str (pe_op op_mulS pe_str pe_int)) (pa_cons pe_int pa_nil))) (pe_op op_add_str pe_str (pe_op op_mulS pe_str pe_int)) (nomark _)))) -- return _law_raised('0:' + '9' * 60, 1) == '0:' + '9' * 60
      ))))))) , ?_⟩
    refine ⟨.ref a, rfl, a, ns, rfl, hS, hl, fun p c H1 s1 np nc hP => ?_⟩
    refine ⟨fun σ H' => ∃ y2 y3 y4 y5 y6 y7 y8 y9 y10, σ = [some (.ref a), some (.ref p), y2, y3, y4, y5, y6, y7, y8, y9, y10], ?_, ?_⟩
    · refine ⟨8, rfl, by decide, by decide, ?_⟩
      refine for_range (n := 8) (fun i σ H' => ∃ y2 y3 y4 y5 y6 y7 y8 y9 y10, σ = [some (.ref a), some (.ref p), y2, y3, y4, y5, y6, y7, y8, y9, y10] ∧ Pen H' p c) ?_ ?_ ?_
      · exact ⟨none, none, none, none, none, none, none, none, none, rfl, hP⟩
      · rintro i σ H2 hi ⟨y2, y3, y4, y5, y6, y7, y8, y9, y10, rfl, hP⟩
        generalize 0 + (i : Int) = tn
        refine ⟨.ref p, rfl, p, c, 3, rfl, hP, by decide, by decide, fun d H3 d0 d1 k3 hP3 => ?_⟩
        refine ⟨1, d, rfl, rfl, ?_⟩
        dsimp only
        generalize hmn : 1 + d = many
        have m0 : 1 ≤ many := by omega
        have m1 : many ≤ 3 := by omega
        refine ⟨fun σ H' => ∃ t ms, σ = [some (.ref a), some (.ref p), some (.int tn), some (.int many), some (.ref t), y5, y6, y7, y8, y9, y10] ∧ Pen H' p c ∧ TD H' (.ref t) (strmD ms) ∧ ms.length ≤ 8 ∧ InRange many ms, ?_, ?_⟩
        · refine ⟨.ref p, rfl, .int many, rfl, p, c, many, 8, 5, rfl, hP3, by omega, by omega, by decide, by decide, by decide, by decide, fun t ms H4 k4 _ hP4 ht lms hms => ?_⟩
          exact ⟨t, ms, rfl, hP4, ht, by omega, hms⟩
        rintro σ H4 ⟨t, ms, rfl, hP4, ht4, lms, hR⟩
        refine ⟨fun σ H' => ∃ t ms y5, σ = [some (.ref a), some (.ref p), some (.int tn), some (.int many), some (.ref t), y5, y6, y7, y8, y9, y10] ∧ Pen H' p c ∧ TD H' (.ref t) (strmD ms) ∧ ms.length ≤ 9 ∧ InRange many ms, ?_, ?_⟩
        · refine ⟨.ref p, rfl, p, c, 3, rfl, hP4, by decide, by decide, fun d H5 d0 d1 k5 hP5 => ?_⟩
          have ht5 := TD.mono (hP4.tups k5) _ ht4
          refine ⟨rfl, _, rfl, ite2 (fun _ => ?_) (fun _ => ?_)⟩
          · refine ⟨10, 60, rfl, rfl, ⟨by decide, by decide, by decide⟩, _, _, rfl, rfl, 10, 60, rfl, rfl, ⟨by decide, by decide, by decide⟩, _, _, rfl, rfl, .ref p, rfl, 10, 30, rfl, rfl, ⟨by decide, by decide, by decide⟩, p, c, _, rfl, hP5, by decide, by decide, fun e H6 e0 e1 k6 hP6 => ?_⟩
            refine ⟨10, 29, rfl, rfl, ⟨by decide, by decide, by decide⟩, 5, _, rfl, rfl, .inl ⟨by decide, by decide⟩, _, _, rfl, rfl, by show 3 ≤ sizeLine; decide, fun l nl => ?_⟩
            have s7 : Same H6 (upd H6 l (.lst [.int (10 ^ 60 - 1), .int (1 - 10 ^ 60), .int (e - 5 * 10 ^ 29)])) := same_new nl
            have hl7 : (upd H6 l (.lst [.int (10 ^ 60 - 1), .int (1 - 10 ^ 60), .int (e - 5 * 10 ^ 29)])) l = some (.lst [.int (10 ^ 60 - 1), .int (1 - 10 ^ 60), .int (e - 5 * 10 ^ 29)]) := upd_same
            have hP7 := hP6.mono s7
            have nlp := (hP6.free nl).1.symm
            have ht7 := TD.mono (Tups.same s7) _ (TD.mono (hP5.tups k6) _ ht5)
            refine ⟨.ref p, rfl, p, c, 3, rfl, hP7, by decide, by decide, fun f' H8 f0 f1 k8 hP8 => ?_⟩
            have hl8 := k8 _ _ hl7 nlp
            have ht8 := TD.mono (hP7.tups k8) _ ht7
            obtain ⟨v, ev, hv⟩ : ∃ v : Int, atI [V.int (10 ^ 60 - 1), V.int (1 - 10 ^ 60), V.int (e - 5 * 10 ^ 29)] f' = some (.int v) ∧ v.natAbs < 10 ^ 60 := by
              have : f' = 0 ∨ f' = 1 ∨ f' = 2 := by omega
              rcases this with rfl | rfl | rfl
              · exact ⟨_, rfl, big_val (.inl rfl)⟩
              · exact ⟨_, rfl, big_val (.inr (.inl rfl))⟩
              · exact ⟨_, rfl, big_val (.inr (.inr ⟨e, e0, e1, rfl⟩))⟩
            refine ⟨l, _, f', .int v, rfl, rfl, SqL.of hl8, ev, .ref t, rfl, .int v, rfl, by show 2 ≤ sizeLine; decide, fun u nu => ⟨by show 1 ≤ sizeLine; decide, fun u2 nu2 => ?_⟩⟩
            have s9 : Same H8 (upd H8 u (.tup [.int 0, .int v])) := same_new nu
            have s10 : Same (upd H8 u (.tup [.int 0, .int v])) (upd (upd H8 u (.tup [.int 0, .int v])) u2 (.tup [.ref u])) := same_new nu2
            have s11 := s9.trans s10
            refine ⟨_, [msgD (0, v)], TD.mono (Tups.same s11) _ ht8, .tup upd_same (.cons (TD.ofPair (s10 _ _ upd_same)) .nil), by rw [List.length_map]; show ms.length + 1 ≤ _; omega, fun p' H12 s12 hT12 => ?_⟩
            refine ⟨p', ms ++ [(0, v)], _, rfl, hP8.mono (s11.trans s12), ?_, by rw [List.length_append]; show ms.length + 1 ≤ 9; omega, ?_⟩
            · have e2 : strmD (ms ++ [(0, v)]) = .tuple (ms.map msgD ++ [msgD (0, v)]) := by unfold strmD; rw [List.map_append]; rfl
              rw [e2]
              exact hT12
            · intro m hm
              rcases List.mem_append.mp hm with hm | hm
              · exact hR m hm
              · rw [List.mem_singleton.mp hm]
                exact ⟨Int.le_refl _, by omega, hv⟩
          · exact ⟨t, ms, y5, rfl, hP5, ht5, by omega, hR⟩
        rintro σ H5 ⟨t, ms, y5, rfl, hP5, ht5, lms, hR⟩
        refine ⟨fun σ H' => ∃ t ms, σ = [some (.ref a), some (.ref p), some (.int tn), some (.int many), some (.ref t), y5, y6, y7, y8, y9, y10] ∧ Pen H' p c ∧ TD H' (.ref t) (strmD ms) ∧ ms.length ≤ 225 ∧ InRange many ms, ?_, ?_⟩
        · refine ⟨.ref p, rfl, p, c, 6, rfl, hP5, by decide, by decide, fun d H6 d0 d1 k6 hP6 => ?_⟩
          have ht6 := TD.mono (hP5.tups k6) _ ht5
          refine ⟨rfl, _, rfl, ite2 (fun _ => ?_) (fun _ => ?_)⟩
          · refine ⟨.ref t, rfl, _, 25, ht6, rfl, by decide, by decide, by rw [List.length_map]; omega, fun t2 H8 s8 ht8 => ?_⟩
            have em : (List.replicate (25 : Int).toNat (ms.map msgD)).flatten = ((List.replicate 25 ms).flatten).map msgD := by
              rw [List.map_flatten, List.map_replicate]
              rfl
            rw [em] at ht8
            refine ⟨t2, (List.replicate 25 ms).flatten, rfl, hP6.mono s8, ht8, ?_, rep_range hR⟩
            rw [List.length_flatten, List.map_replicate, List.sum_replicate_nat]
            omega
          · exact ⟨t, ms, rfl, hP6, ht6, by omega, hR⟩
        rintro σ H6 ⟨t, ms, rfl, hP6, ht6, lms, hR⟩
        have lt := len_text (by omega) hR lms
        have ot := ok_text ms
        have gt := text_good (by omega) hR
        -- page = _law_text(stream)
        refine ⟨.ref t, rfl, t, ms, many, rfl, ht6, by omega, by omega, hR, fun H7 s7 => ?_⟩
        have hP7 := hP6.mono s7
        have ht7 := TD.mono (Tups.same s7) _ ht6
        generalize hz : textOf ms = z at lt ot gt ⊢
        -- if format_stream(stream) != page
        refine ⟨.ref t, rfl, t, ms, many, rfl, ht7, by omega, by omega, hR, fun H8 s8 => ?_⟩
        rw [hz]
        have hP8 := hP7.mono s8
        have ht8 := TD.mono (Tups.same s8) _ ht7
        refine ⟨.str z, rfl, rfl, _, rfl, ?_⟩
        rw [decide_eq_true rfl]
        refine iteF ?_
        -- if repr(parse_stream(page, many)) != repr(stream)
        refine ⟨.str z, rfl, .int many, rfl, z, many, rfl, by omega, m0, m1, fun _ t2 H9 s9 ht9 => ?_, fun bad => absurd bad (by rw [gt.1]; exact Bool.noConfusion)⟩
        rw [gt.2] at ht9
        have hP9 := hP8.mono s9
        have ht9' := TD.mono (Tups.same s9) _ ht8
        have nn := nice_strm (k := 225) (short_of (by omega) hR) lms
        refine ⟨.ref t2, strmD ms, rfl, ht9.dp _, nn.sho, nn.nod, Nat.le_trans nn.dep (by decide), Nat.le_trans nn.len (by decide), .ref t, rfl, .ref t, strmD ms, rfl, ht9'.dp _, nn.sho, nn.nod, Nat.le_trans nn.dep (by decide), Nat.le_trans nn.len (by decide), rfl, _, rfl, ?_⟩
        rw [decide_eq_true rfl]
        refine iteF ?_
        -- place, sign
        refine ⟨.ref p, rfl, .str z, rfl, _, z.length, rfl, ⟨by omega, rfl⟩, _, _, rfl, rfl, p, c, _, rfl, hP9, by omega, by omega, fun pl H10 pl0 pl1 k10 hP10 => ?_⟩
        refine ⟨.ref p, rfl, p, c, 18, rfl, hP10, by decide, by decide, fun sg H11 sg0 sg1 k11 hP11 => ?_⟩
        obtain ⟨sc, esc, lsc⟩ : ∃ sc, atI signs.cps.toList sg = some sc ∧ sc < 0x110000 := by
          obtain ⟨n, rfl⟩ : ∃ n : Nat, sg = n := ⟨sg.toNat, by omega⟩
          have hn : n < (tl signs).length := by rw [tl_signs.1]; omega
          refine ⟨(tl signs)[n], atI_nat (List.getElem?_eq_getElem hn), ?_⟩
          have := List.all_eq_true.mp tl_signs.2 (tl signs)[n] (List.getElem_mem hn)
          exact of_decide_eq_true this
        refine ⟨signs, sg, sc, rfl, rfl, by decide, esc, ?_⟩
        refine ⟨fun σ H' => ∃ z', σ = [some (.ref a), some (.ref p), some (.int tn), some (.int many), some (.ref t), y5, some (.str z'), some (.int pl), some (.str ⟨#[sc]⟩), y9, y10] ∧ Pen H' p c ∧ z'.length ≤ 100000 ∧ OkT z', ?_, ?_⟩
        · have c1 := cut_len_le z none (some pl)
          have lsg : (⟨#[sc]⟩ : Str).length = 1 := rfl
          refine ⟨.str z, rfl, .int pl, rfl, pl, rfl, z, rfl, by omega, .str ⟨#[sc]⟩, rfl, _, _, rfl, rfl, by rw [lsg]; omega, .str z, rfl, .int pl, rfl, .ref p, rfl, p, c, 2, rfl, hP11, by decide, by decide, fun d H12 d0 d1 k12 hP12 => ?_⟩
          have c2 := cut_len_le z (some (pl + d)) none
          refine ⟨pl, d, rfl, rfl, _, rfl, z, rfl, by omega, _, _, rfl, rfl, by rw [Str.length_append, lsg]; omega, ?_⟩
          refine ⟨_, rfl, hP12, by rw [Str.length_append, Str.length_append, lsg]; omega, ?_⟩
          intro x hx
          rw [tl_append, tl_append] at hx
          rcases List.mem_append.mp hx with hx | hx
          · rcases List.mem_append.mp hx with hx | hx
            · exact ot x (cut_mem_from hx)
            · rw [List.mem_singleton.mp (show x ∈ [sc] from hx)]
              exact lsc
          · exact ot x (cut_mem_from hx)
        rintro σ H12 ⟨z', rfl, hP12, lz, oz⟩
        refine ⟨.str z', rfl, .int many, rfl, z', many, rfl, lz, oz, m0, m1, fun H13 s13 => ⟨_, rfl, ?_⟩⟩
        have hP13 := hP12.mono s13
        cases hg : goodText many z' with
        | true =>
          refine iteT ⟨.str z', rfl, .str z', rfl, .int many, rfl, z', many, rfl, lz, m0, m1, fun _ H14 s14 => ?_, fun bad => absurd bad (by rw [hg]; exact Bool.noConfusion)⟩
          have shp : SeqAt.shaped (.str z') = true := by
            show (PyData.strOk z' && decide (0 ≤ 64)) = true
            rw [oz.str]
            rfl
          refine ⟨.str z', rfl, .str z', .str z', .str _, .str _, shp, shp, _, rfl, ?_⟩
          have e : PyData.eqv (.str z') (.str z') = true := by simp [PyData.eqv]
          rw [e]
          exact iteF ⟨_, _, _, _, _, _, _, _, _, rfl, hP13.mono s14⟩
        | false =>
          refine iteF ⟨by show 2 ≤ sizeLine; decide, fun u nu => ?_⟩
          have s14 : Same H13 (upd H13 u (.tup [.str "error", .int 0])) := same_new nu
          have hu : (upd H13 u (.tup [.str "error", .int 0])) u = some (.tup [.str "error", .int 0]) := upd_same
          refine ⟨.str z', rfl, .int many, rfl, z', many, rfl, lz, m0, m1, fun ok => absurd ok (by rw [hg]; exact Bool.noConfusion), fun _ a2 H15 s15 ha2 => ?_⟩
          refine ⟨.ref u, rfl, errD, errD, .tup ha2 (.cons (.str _) (.cons (.int _) .nil)), .tup (s15 _ _ hu) (.cons (.str _) (.cons (.int _) .nil)), by decide +kernel, by decide +kernel, _, rfl, ?_⟩
          rw [show PyData.eqv errD errD = true by decide +kernel]
          exact iteF ⟨_, _, _, _, _, _, _, _, _, rfl, hP13.mono (s14.trans s15)⟩
      · rintro σ H2 ⟨y2, y3, y4, y5, y6, y7, y8, y9, y10, rfl, _⟩
        exact ⟨y2, y3, y4, y5, y6, y7, y8, y9, y10, rfl⟩
    rintro σ H2 ⟨y2, y3, y4, y5, y6, y7, y8, y9, y10, rfl⟩
    have lz : (Str.ofString "0:").length = 2 := by decide +kernel
    have lcz : (Str.ofString ":0").length = 2 := by decide +kernel
    have lzm : (Str.ofString "0:-").length = 3 := by decide +kernel
    have l9 : (Str.ofString "9").length = 1 := by decide +kernel
    have l7 : (Str.ofString "7").length = 1 := by decide +kernel
    have q9 : ∃ c, Str.ofString "9" = ⟨#[c]⟩ := ⟨57, by decide +kernel⟩
    have q7 : ∃ c, Str.ofString "7" = ⟨#[c]⟩ := ⟨55, by decide +kernel⟩
    have n61 : (Txt.mul (Str.ofString "9") 61).length = 61 := mul_len (n := 61) q9 (by decide)
    have n60 : (Txt.mul (Str.ofString "9") 60).length = 60 := mul_len (n := 60) q9 (by decide)
    have s44 : (Txt.mul (Str.ofString "7") 4400).length = 4400 := mul_len (n := 4400) q7 (by decide)
    have b61 : (Str.ofString "0:").length + (Txt.mul (Str.ofString "9") 61).length ≤ sizeLine := by rw [lz, n61]; omega
    have b60 : (Str.ofString "0:").length + (Txt.mul (Str.ofString "9") 60).length ≤ sizeLine := by rw [lz, n60]; omega
    have b441 : (Str.ofString "0:").length + (Txt.mul (Str.ofString "7") 4400).length ≤ sizeLine := by rw [lz, s44]; omega
    have b442 : (Txt.mul (Str.ofString "7") 4400).length + (Str.ofString ":0").length ≤ sizeLine := by rw [lcz, s44]; omega
    have b443 : (Str.ofString "0:-").length + (Txt.mul (Str.ofString "7") 4400).length ≤ sizeLine := by rw [lzm, s44]; omega
    clear n61 n60 s44 lz lcz lzm
    -- the odd texts
    refine ⟨by show 10 ≤ sizeLine; decide, fun l1 nl1 => ?_⟩
    refine ⟨.ref l1, rfl, _, _, rfl, rfl, mul_ok l9 (.inr (.inl rfl)), _, _, rfl, rfl, b61, by show 2 ≤ sizeLine; decide, fun l2 nl2 => ?_⟩
    refine ⟨_, _, _, _, rfl, rfl, (by rw [upd_ne (ne_of_none upd_same nl2)]; exact upd_same), upd_same, by show 12 ≤ sizeLine; decide, fun l3 nl3 => ?_⟩
    generalize hH3 : upd (upd (upd H2 l1 _) l2 _) l3 _ = H3
    have h3 : H3 l3 = some (.lst (L1.map V.str)) := by rw [← hH3]; exact upd_same
    clear hH3
    refine ⟨fun σ H' => ∃ y6 y10, σ = [some (.ref a), some (.ref p), y2, y3, y4, y5, y6, y7, y8, y9, y10], ?_, ?_⟩
    · refine ⟨.ref l3, rfl, l3, rfl, ⟨_, SqL.of h3⟩, for_list (xs := L1.map V.str) (fun i σ H' => ∃ y6, σ = [some (.ref a), some (.ref p), y2, y3, y4, y5, y6, y7, y8, y9, some (.ref l3)] ∧ Same H3 H') ?_ ?_ ?_ ?_⟩
      · exact ⟨y6, rfl, Same.refl _⟩
      · rintro i σ H4 hi ⟨y6, rfl, s4⟩
        exact SqL.of (s4 _ _ h3)
      · rintro i x σ H4 hi ⟨y6, rfl, s4⟩
        rw [List.getElem?_map] at hi
        obtain ⟨s, hs, rfl⟩ := Option.map_eq_some_iff.mp hi
        have hb := bad_L1 s (List.mem_of_getElem? hs)
        refine ⟨.str s, rfl, s, 1, rfl, hb.1, by decide, by decide, fun ok => absurd ok (by rw [hb.2]; exact Bool.noConfusion), fun _ a2 H5 s5 ha => ?_⟩
        refine ⟨by show 2 ≤ sizeLine; decide, fun u nu => ?_⟩
        have s6 : Same H5 (upd H5 u (.tup [.str "error", .int 0])) := same_new nu
        refine ⟨errD, errD, .tup (s6 _ _ ha) (.cons (.str _) (.cons (.int _) .nil)), .tup upd_same (.cons (.str _) (.cons (.int _) .nil)), by decide +kernel, by decide +kernel, _, rfl, ?_⟩
        rw [show PyData.eqv errD errD = true by decide +kernel]
        exact iteF ⟨_, rfl, s4.trans (s5.trans s6)⟩
      · rintro σ H4 ⟨y6, rfl, s4⟩
        exact ⟨y6, _, rfl⟩
    rintro σ H4 ⟨y6, y10, rfl⟩
    refine ⟨_, _, rfl, rfl, mul_ok l7 (.inr (.inr rfl)), _, _, rfl, rfl, b441, ?_⟩
    refine ⟨_, _, rfl, rfl, mul_ok l7 (.inr (.inr rfl)), _, _, rfl, rfl, b442, ?_⟩
    refine ⟨_, _, rfl, rfl, mul_ok l7 (.inr (.inr rfl)), _, _, rfl, rfl, b443, by show 7 ≤ sizeLine; decide, fun l4 nl4 => ?_⟩
    generalize hH5 : upd H4 l4 _ = H5
    have h5 : H5 l4 = some (.lst (L2'.map V.str)) := by rw [← hH5]; exact upd_same
    clear hH5
    refine ⟨fun σ H' => ∃ y6 y10, σ = [some (.ref a), some (.ref p), y2, y3, y4, y5, y6, y7, y8, y9, y10], ?_, ?_⟩
    · refine ⟨.ref l4, rfl, l4, rfl, ⟨_, SqL.of h5⟩, for_list (xs := L2'.map V.str) (fun i σ H' => ∃ y6, σ = [some (.ref a), some (.ref p), y2, y3, y4, y5, y6, y7, y8, y9, some (.ref l4)] ∧ Same H5 H') ?_ ?_ ?_ ?_⟩
      · exact ⟨y6, rfl, Same.refl _⟩
      · rintro i σ H4 hi ⟨y6, rfl, s4⟩
        exact SqL.of (s4 _ _ h5)
      · rintro i x σ H4 hi ⟨y6, rfl, s4⟩
        rw [List.getElem?_map] at hi
        obtain ⟨s, hs, rfl⟩ := Option.map_eq_some_iff.mp hi
        have hb := bad_L2 s (List.mem_of_getElem? hs)
        refine ⟨.str s, rfl, s, 3, rfl, hb.1, by decide, by decide, fun ok => absurd ok (by rw [hb.2]; exact Bool.noConfusion), fun _ a2 H5 s5 ha => ?_⟩
        refine ⟨by show 2 ≤ sizeLine; decide, fun u nu => ?_⟩
        have s6 : Same H5 (upd H5 u (.tup [.str "error", .int 0])) := same_new nu
        refine ⟨errD, errD, .tup (s6 _ _ ha) (.cons (.str _) (.cons (.int _) .nil)), .tup upd_same (.cons (.str _) (.cons (.int _) .nil)), by decide +kernel, by decide +kernel, _, rfl, ?_⟩
        rw [show PyData.eqv errD errD = true by decide +kernel]
        exact iteF ⟨_, rfl, s4.trans (s5.trans s6)⟩
      · rintro σ H4 ⟨y6, rfl, s4⟩
        exact ⟨y6, _, rfl⟩
    rintro σ H6 ⟨y6, y10, rfl⟩
    refine ⟨_, _, rfl, rfl, mul_ok l9 (.inl rfl), _, _, rfl, rfl, b60, ?_⟩
    refine ⟨_, _, rfl, good_nine.2, by decide, by decide, fun _ H7 s7 => ?_, fun bad => absurd bad (by rw [good_nine.1]; exact Bool.noConfusion)⟩
    refine ⟨_, _, rfl, rfl, mul_ok l9 (.inl rfl), _, _, rfl, rfl, b60, rfl, ?_⟩
    rw [decide_eq_true rfl]
    exact q _
end

theorem all_mk {l : PySem.W.OpenLaw} {w : World} {K : PySem.W.Frag} {h : Heap} {mg : Str → Option Value} {fa f_is_integer f_is_between f_format_stream f_parse_stream f_is_written_value f_law_pen f_law_fresh f_law_draw f_law_stream f_law_text f_law_is_number f_law_good f_law_raised f_law : Addr} (X : K.In h) (G : h.Ns mainGlobals mg) (hfa : mg "law" = some (.ref fa))
    {od0 an0 od1 an1 od2 an2 od3 an3 od4 an4 od5 an5 od6 an6 od7 an7 od8 an8 od9 an9 od10 an10 od11 an11 od12 an12 od13 an13 : Option Addr} {sl0 sl1 sl2 sl3 sl4 sl5 sl6 sl7 sl8 sl9 sl10 sl11 sl12 sl13 : Array (Option Value)} {oc0 kV0 dc0 pm0 cd0 ct0 oc1 kV1 dc1 pm1 cd1 ct1 oc2 kV2 dc2 pm2 cd2 ct2 oc3 kV3 dc3 pm3 cd3 ct3 oc4 kV4 dc4 pm4 cd4 ct4 oc5 kV5 dc5 pm5 cd5 ct5 oc6 kV6 dc6 pm6 cd6 ct6 oc7 kV7 dc7 pm7 cd7 ct7 oc8 kV8 dc8 pm8 cd8 ct8 oc9 kV9 dc9 pm9 cd9 ct9 oc10 kV10 dc10 pm10 cd10 ct10 oc11 kV11 dc11 pm11 cd11 ct11 oc12 kV12 dc12 pm12 cd12 ct12 oc13 kV13 dc13 pm13 cd13 ct13 : Value}
    {ck_EMPTY ck_MOST_DIGITS : Tok}
    (a0 : PySem.W.nsIn K mainGlobals "is_integer" = some (some (.ref f_is_integer)))
    (l0 : K.lookup f_is_integer = some ⟨oc0, od0, .func (PySem.W.fnOf "is_integer" "is_integer" (defArgs s_is_integer) (defBody s_is_integer) (defScope s_is_integer) .none kV0 dc0 pm0 an0 cd0 ct0), sl0⟩) (c0 : PySem.W.codeIn K cd0 "is_integer" = true) (k0 : PySem.W.keepIn K (.ref f_is_integer) = true)
    (a1 : PySem.W.nsIn K mainGlobals "is_between" = some (some (.ref f_is_between)))
    (l1 : K.lookup f_is_between = some ⟨oc1, od1, .func (PySem.W.fnOf "is_between" "is_between" (defArgs s_is_between) (defBody s_is_between) (defScope s_is_between) .none kV1 dc1 pm1 an1 cd1 ct1), sl1⟩) (c1 : PySem.W.codeIn K cd1 "is_between" = true) (k1 : PySem.W.keepIn K (.ref f_is_between) = true)
    (a2 : PySem.W.nsIn K mainGlobals "format_stream" = some (some (.ref f_format_stream)))
    (l2 : K.lookup f_format_stream = some ⟨oc2, od2, .func (PySem.W.fnOf "format_stream" "format_stream" (defArgs s_format_stream) (defBody s_format_stream) (defScope s_format_stream) .none kV2 dc2 pm2 an2 cd2 ct2), sl2⟩) (c2 : PySem.W.codeIn K cd2 "format_stream" = true) (k2 : PySem.W.keepIn K (.ref f_format_stream) = true)
    (a3 : PySem.W.nsIn K mainGlobals "parse_stream" = some (some (.ref f_parse_stream)))
    (l3 : K.lookup f_parse_stream = some ⟨oc3, od3, .func (PySem.W.fnOf "parse_stream" "parse_stream" (defArgs s_parse_stream) (defBody s_parse_stream) (defScope s_parse_stream) .none kV3 dc3 pm3 an3 cd3 ct3), sl3⟩) (c3 : PySem.W.codeIn K cd3 "parse_stream" = true) (k3 : PySem.W.keepIn K (.ref f_parse_stream) = true)
    (a4 : PySem.W.nsIn K mainGlobals "is_written_value" = some (some (.ref f_is_written_value)))
    (l4 : K.lookup f_is_written_value = some ⟨oc4, od4, .func (PySem.W.fnOf "is_written_value" "is_written_value" (defArgs s_is_written_value) (defBody s_is_written_value) (defScope s_is_written_value) .none kV4 dc4 pm4 an4 cd4 ct4), sl4⟩) (c4 : PySem.W.codeIn K cd4 "is_written_value" = true) (k4 : PySem.W.keepIn K (.ref f_is_written_value) = true)
    (a5 : PySem.W.nsIn K mainGlobals "_law_pen" = some (some (.ref f_law_pen)))
    (l5 : K.lookup f_law_pen = some ⟨oc5, od5, .func (PySem.W.fnOf "_law_pen" "_law_pen" (defArgs s_law_pen) (defBody s_law_pen) (defScope s_law_pen) .none kV5 dc5 pm5 an5 cd5 ct5), sl5⟩) (c5 : PySem.W.codeIn K cd5 "_law_pen" = true) (k5 : PySem.W.keepIn K (.ref f_law_pen) = true)
    (a6 : PySem.W.nsIn K mainGlobals "_law_fresh" = some (some (.ref f_law_fresh)))
    (l6 : K.lookup f_law_fresh = some ⟨oc6, od6, .func (PySem.W.fnOf "_law_fresh" "_law_fresh" (defArgs s_law_fresh) (defBody s_law_fresh) (defScope s_law_fresh) .none kV6 dc6 pm6 an6 cd6 ct6), sl6⟩) (c6 : PySem.W.codeIn K cd6 "_law_fresh" = true) (k6 : PySem.W.keepIn K (.ref f_law_fresh) = true)
    (a7 : PySem.W.nsIn K mainGlobals "_law_draw" = some (some (.ref f_law_draw)))
    (l7 : K.lookup f_law_draw = some ⟨oc7, od7, .func (PySem.W.fnOf "_law_draw" "_law_draw" (defArgs s_law_draw) (defBody s_law_draw) (defScope s_law_draw) .none kV7 dc7 pm7 an7 cd7 ct7), sl7⟩) (c7 : PySem.W.codeIn K cd7 "_law_draw" = true) (k7 : PySem.W.keepIn K (.ref f_law_draw) = true)
    (a8 : PySem.W.nsIn K mainGlobals "_law_stream" = some (some (.ref f_law_stream)))
    (l8 : K.lookup f_law_stream = some ⟨oc8, od8, .func (PySem.W.fnOf "_law_stream" "_law_stream" (defArgs s_law_stream) (defBody s_law_stream) (defScope s_law_stream) .none kV8 dc8 pm8 an8 cd8 ct8), sl8⟩) (c8 : PySem.W.codeIn K cd8 "_law_stream" = true) (k8 : PySem.W.keepIn K (.ref f_law_stream) = true)
    (a9 : PySem.W.nsIn K mainGlobals "_law_text" = some (some (.ref f_law_text)))
    (l9 : K.lookup f_law_text = some ⟨oc9, od9, .func (PySem.W.fnOf "_law_text" "_law_text" (defArgs s_law_text) (defBody s_law_text) (defScope s_law_text) .none kV9 dc9 pm9 an9 cd9 ct9), sl9⟩) (c9 : PySem.W.codeIn K cd9 "_law_text" = true) (k9 : PySem.W.keepIn K (.ref f_law_text) = true)
    (a10 : PySem.W.nsIn K mainGlobals "_law_is_number" = some (some (.ref f_law_is_number)))
    (l10 : K.lookup f_law_is_number = some ⟨oc10, od10, .func (PySem.W.fnOf "_law_is_number" "_law_is_number" (defArgs s_law_is_number) (defBody s_law_is_number) (defScope s_law_is_number) .none kV10 dc10 pm10 an10 cd10 ct10), sl10⟩) (c10 : PySem.W.codeIn K cd10 "_law_is_number" = true) (k10 : PySem.W.keepIn K (.ref f_law_is_number) = true)
    (a11 : PySem.W.nsIn K mainGlobals "_law_good" = some (some (.ref f_law_good)))
    (l11 : K.lookup f_law_good = some ⟨oc11, od11, .func (PySem.W.fnOf "_law_good" "_law_good" (defArgs s_law_good) (defBody s_law_good) (defScope s_law_good) .none kV11 dc11 pm11 an11 cd11 ct11), sl11⟩) (c11 : PySem.W.codeIn K cd11 "_law_good" = true) (k11 : PySem.W.keepIn K (.ref f_law_good) = true)
    (a12 : PySem.W.nsIn K mainGlobals "_law_raised" = some (some (.ref f_law_raised)))
    (l12 : K.lookup f_law_raised = some ⟨oc12, od12, .func (PySem.W.fnOf "_law_raised" "_law_raised" (defArgs s_law_raised) (defBody s_law_raised) (defScope s_law_raised) .none kV12 dc12 pm12 an12 cd12 ct12), sl12⟩) (c12 : PySem.W.codeIn K cd12 "_law_raised" = true) (k12 : PySem.W.keepIn K (.ref f_law_raised) = true)
    (a13 : PySem.W.nsIn K mainGlobals "law" = some (some (.ref f_law)))
    (l13 : K.lookup f_law = some ⟨oc13, od13, .func (PySem.W.fnOf "law" "law" (defArgs s_law) (defBody s_law) (defScope s_law) .none kV13 dc13 pm13 an13 cd13 ct13), sl13⟩) (c13 : PySem.W.codeIn K cd13 "law" = true) (k13 : PySem.W.keepIn K (.ref f_law) = true)
    {eC0 ei0 : Addr} {nm0 eq0 : Str} {eN0 : Addr} {bs0 : List Value} {sn0 : List Str} {sub0 : List Value} {ab0 : Bool} {col0 : Option Bool} {dd0 : Option Addr} {m00 m10 m20 m30 m50 : Option Value} {eod0 ean0 : Option Addr} {esl0 : Array (Option Value)} {eoc0 edc0 epm0 ecd0 ect0 : Value}
    (eaC0 : PySem.W.nsIn K mainGlobals "ParseError" = some (some (.ref eC0))) (exL0 : K.lookup eC0 = some (excClassObj nm0 eq0 eC0 eN0 bs0 [.type "ValueError", .type "Exception", .type "BaseException", .type "object"] true sn0 sub0 ab0 col0 dd0 m00 m10 m20 m30 m50 "ValueError.__new__"))
    (esa0 : PySem.W.findIn K (.ref eC0) "__setattr__" = some (some (.builtin "object.__setattr__"))) (ega0 : PySem.W.findIn K (.ref eC0) "__getattribute__" = some (some (.builtin "BaseException.__getattribute__"))) (egg0 : PySem.W.findIn K (.ref eC0) "__getattr__" = some none) (enb0 : PySem.W.findIn K (.ref eC0) "line" = some none)
    (ea10 : PySem.W.findIn K (.ref eC0) "__init__" = some (some (.ref ei0))) (et10 : PySem.W.typeIn K (.ref ei0) = some (.type "function"))
    (el10 : K.lookup ei0 = some ⟨eoc0, eod0, .func (PySem.W.fnOf "__init__" "ParseError.__init__" (defArgs s_ParseError_init) (defBody s_ParseError_init) (defScope s_ParseError_init) .none .none edc0 epm0 ean0 ecd0 ect0), esl0⟩) (ec10 : PySem.W.codeIn K ecd0 "ParseError.__init__" = true)
    (ekC0 : PySem.W.keepIn K (.ref eC0) = true) (eeC0 : PySem.W.subIn K (.ref eC0) (.type "BaseException") = some true) (etC0 : PySem.W.typeIn K (.ref eC0) = some (.type "type")) (ehC0 : PySem.W.hasDictIn K eC0 = true) (eiC0 : PySem.W.isClsIn K eC0 = true) (esC0 : PySem.W.subIn K (.ref eC0) (.ref eC0) = some true)
    (ka_EMPTY : PySem.W.nsIn K mainGlobals "EMPTY" = some (some (.str "-" ck_EMPTY)))
    (ka_MOST_DIGITS : PySem.W.nsIn K mainGlobals "MOST_DIGITS" = some (some (.int 60 ck_MOST_DIGITS)))
    {aD_DIGITS : Addr} {es_DIGITS : Array DictEntry} {nD_DIGITS : Nat} (dA_DIGITS : PySem.W.nsIn K mainGlobals "DIGITS" = some (some (.ref aD_DIGITS))) (dL_DIGITS : K.lookup aD_DIGITS = some ⟨.type "dict", none, .dict es_DIGITS nD_DIGITS, #[]⟩) (dK_DIGITS : PySem.W.KeysLit w.params es_DIGITS.toList) (dS_DIGITS : (aD_DIGITS == sysModules) = false) (dE_DIGITS : LitD lit_DIGITS es_DIGITS.toList)
    (z0 : PySem.W.nsIn K mainGlobals "list" = some none)
    (z1 : PySem.W.nsIn K mainGlobals "len" = some none)
    (z2 : PySem.W.nsIn K mainGlobals "range" = some none)
    (z3 : PySem.W.nsIn K mainGlobals "tuple" = some none)
    (z4 : PySem.W.nsIn K mainGlobals "isinstance" = some none)
    (z5 : PySem.W.nsIn K mainGlobals "bool" = some none)
    (z6 : PySem.W.nsIn K mainGlobals "int" = some none)
    (z7 : PySem.W.nsIn K mainGlobals "repr" = some none)
    (z8 : PySem.W.nsIn K mainGlobals "str" = some none)
    : ∃ fd : FuncData, (∀ (s : Shared) (v : Value), BindsTo s fd ⟨[v], []⟩ [("script", v)]) ∧ ∀ base : Heap, K.In base → base.Ns mainGlobals mg → FnG l.prog w K mg base CX0 8 fa fd ["script"] (sp_law K) := by
  have e := hfa.symm.trans (PySem.W.mg_of X G a13)
  cases e
  have F_is_integer := fun_mk (st := s_is_integer) l0 c0 k0
  have b_is_integer := F_is_integer.binds (ps := ["value"]) fun _ _ _ _ _ _ us hl => match us, hl with | [_], _ => rfl
  have F_is_between := fun_mk (st := s_is_between) l1 c1 k1
  have b_is_between := F_is_between.binds (ps := ["value", "low", "high"]) fun _ _ _ _ _ _ us hl => match us, hl with | [_, _, _], _ => rfl
  have F_format_stream := fun_mk (st := s_format_stream) l2 c2 k2
  have b_format_stream := F_format_stream.binds (ps := ["stream"]) fun _ _ _ _ _ _ us hl => match us, hl with | [_], _ => rfl
  have F_parse_stream := fun_mk (st := s_parse_stream) l3 c3 k3
  have b_parse_stream := F_parse_stream.binds (ps := ["text", "words"]) fun _ _ _ _ _ _ us hl => match us, hl with | [_, _], _ => rfl
  have F_is_written_value := fun_mk (st := s_is_written_value) l4 c4 k4
  have b_is_written_value := F_is_written_value.binds (ps := ["text"]) fun _ _ _ _ _ _ us hl => match us, hl with | [_], _ => rfl
  have F_law_pen := fun_mk (st := s_law_pen) l5 c5 k5
  have b_law_pen := F_law_pen.binds (ps := ["script"]) fun _ _ _ _ _ _ us hl => match us, hl with | [_], _ => rfl
  have F_law_fresh := fun_mk (st := s_law_fresh) l6 c6 k6
  have b_law_fresh := F_law_fresh.binds (ps := ["pen"]) fun _ _ _ _ _ _ us hl => match us, hl with | [_], _ => rfl
  have F_law_draw := fun_mk (st := s_law_draw) l7 c7 k7
  have b_law_draw := F_law_draw.binds (ps := ["pen", "many"]) fun _ _ _ _ _ _ us hl => match us, hl with | [_, _], _ => rfl
  have F_law_stream := fun_mk (st := s_law_stream) l8 c8 k8
  have b_law_stream := F_law_stream.binds (ps := ["pen", "words", "most", "values"]) fun _ _ _ _ _ _ us hl => match us, hl with | [_, _, _, _], _ => rfl
  have F_law_text := fun_mk (st := s_law_text) l9 c9 k9
  have b_law_text := F_law_text.binds (ps := ["stream"]) fun _ _ _ _ _ _ us hl => match us, hl with | [_], _ => rfl
  have F_law_is_number := fun_mk (st := s_law_is_number) l10 c10 k10
  have b_law_is_number := F_law_is_number.binds (ps := ["word", "digits"]) fun _ _ _ _ _ _ us hl => match us, hl with | [_, _], _ => rfl
  have F_law_good := fun_mk (st := s_law_good) l11 c11 k11
  have b_law_good := F_law_good.binds (ps := ["text", "many"]) fun _ _ _ _ _ _ us hl => match us, hl with | [_, _], _ => rfl
  have F_law_raised := fun_mk (st := s_law_raised) l12 c12 k12
  have b_law_raised := F_law_raised.binds (ps := ["text", "many"]) fun _ _ _ _ _ _ us hl => match us, hl with | [_, _], _ => rfl
  have F_law := fun_mk (st := s_law) l13 c13 k13
  have T_ParseError : L2.ErrOk OwnE.bVE "ParseError" "line" "ParseError.__init__" K mg eC0 ei0 := ⟨OwnE.bVE_ok, { gC := PySem.W.mg_of X G eaC0, cls := ⟨nm0, eq0, eN0, bs0, _, sn0, sub0, ab0, col0, dd0, m00, m10, m20, m30, m50, exL0, by decide +kernel⟩, sa := esa0, ga := ega0, gg := egg0, noN := enb0, iC := ea10, tC := et10, kC := ekC0, exC := eeC0, tyC := etC0, hdC := ehC0, te := OwnE.exm_own eeC0 eiC0 etC0 esC0, fn := ⟨eoc0, eod0, edc0, epm0, ean0, ecd0, ect0, esl0, _, _, _, _, _, _, defScope s_ParseError_init, el10, ec10, rfl, by decide +kernel, by decide +kernel, rfl, rfl⟩ }, by decide, by decide, fun _ _ _ _ _ _ _ _ _ _ _ _ _ _ _ _ => by first | rfl | with_unfolding_all rfl⟩
  obtain ⟨T, hwT⟩ : ∃ T : Tx K mg, T.pr = w.params := ⟨{
    is_integer := ⟨f_is_integer, _, F_is_integer, b_is_integer, PySem.W.mg_of X G a0⟩
    is_between := ⟨f_is_between, _, F_is_between, b_is_between, PySem.W.mg_of X G a1⟩
    format_stream := ⟨f_format_stream, _, F_format_stream, b_format_stream, PySem.W.mg_of X G a2⟩
    parse_stream := ⟨f_parse_stream, _, F_parse_stream, b_parse_stream, PySem.W.mg_of X G a3⟩
    is_written_value := ⟨f_is_written_value, _, F_is_written_value, b_is_written_value, PySem.W.mg_of X G a4⟩
    law_pen := ⟨f_law_pen, _, F_law_pen, b_law_pen, PySem.W.mg_of X G a5⟩
    law_fresh := ⟨f_law_fresh, _, F_law_fresh, b_law_fresh, PySem.W.mg_of X G a6⟩
    law_draw := ⟨f_law_draw, _, F_law_draw, b_law_draw, PySem.W.mg_of X G a7⟩
    law_stream := ⟨f_law_stream, _, F_law_stream, b_law_stream, PySem.W.mg_of X G a8⟩
    law_text := ⟨f_law_text, _, F_law_text, b_law_text, PySem.W.mg_of X G a9⟩
    law_is_number := ⟨f_law_is_number, _, F_law_is_number, b_law_is_number, PySem.W.mg_of X G a10⟩
    law_good := ⟨f_law_good, _, F_law_good, b_law_good, PySem.W.mg_of X G a11⟩
    law_raised := ⟨f_law_raised, _, F_law_raised, b_law_raised, PySem.W.mg_of X G a12⟩
    ParseError := ⟨eC0, ei0, T_ParseError⟩
    ck_EMPTY := ck_EMPTY
    g_EMPTY := PySem.W.mg_of X G ka_EMPTY
    ck_MOST_DIGITS := ck_MOST_DIGITS
    g_MOST_DIGITS := PySem.W.mg_of X G ka_MOST_DIGITS
    pr := w.params
    aDIGITS := aD_DIGITS
    g_DIGITS := PySem.W.mg_of X G dA_DIGITS
    dg_DIGITS := fun w' e => digD_of dL_DIGITS (by rw [← e]; exact dK_DIGITS) dS_DIGITS dE_DIGITS
    m_list := PySem.W.mg_none_of X G z0
    m_len := PySem.W.mg_none_of X G z1
    m_range := PySem.W.mg_none_of X G z2
    m_tuple := PySem.W.mg_none_of X G z3
    m_isinstance := PySem.W.mg_none_of X G z4
    m_bool := PySem.W.mg_none_of X G z5
    m_int := PySem.W.mg_none_of X G z6
    m_repr := PySem.W.mg_none_of X G z7
    m_str := PySem.W.mg_none_of X G z8 }, rfl⟩
  exact ⟨PySem.W.fnOf "law" "law" (defArgs s_law) (defBody s_law) (defScope s_law) .none kV13 dc13 pm13 an13 cd13 ct13, fun s v => .of_eq rfl, fun base _ _ => ok_law T hwT F_law⟩
theorem walk {l : PySem.W.OpenLaw} {q : Program} {loose : List Str} {XP : (Str → Option Value) → Heap → Prop} {YP : World → Heap → Prop} {d : DefRec} {K : Params → PySem.W.Frag} (hn : l.most = some 63) (hdf : d.params.defaults = [])
    (hY : ∀ (w : World) (h : Heap), YP w h → (K w.params).In h)
    (F : ∀ (w : World) (mg : Str → Option Value) (fa : Addr) (h : Heap), (K w.params).In h → h.Ns mainGlobals mg → mg d.name = some (.ref fa) →
      ∃ fd : FuncData, (∀ (s : Shared) (u : Value), BindsTo s fd ⟨[u], []⟩ [("script", u)]) ∧ ∀ base : Heap, (K w.params).In base → base.Ns mainGlobals mg → FnG l.prog w (K w.params) mg base CX0 8 fa fd ["script"] (sp_law (K w.params))) :
    PySem.W.WalkO q loose XP YP l.row.toRowW d [] (fun f vs => PySem.call f vs) :=
  walk_ofG (n := 63) (k := 8) (x := "script") (sp := sp_law) hn (by decide) hdf ⟨rfl, by decide, by decide⟩ hY F fun _ _ a ns hl hb _ hS => ⟨a, ns, rfl, hS, hl, fun _ => rfl⟩
end Sb
open PySem PySem.W PyProof.Rows
set_option maxRecDepth 100000 in
set_option maxHeartbeats 0 in
theorem PySem.Challenge.cw_seenbefore_k77_streams_written_and_read_holds : PySem.Challenge.rw_seenbefore_k77_streams_written_and_read.Holds := by
  w_on; o_law; k_head; (case hw => w_witness2)
  k_fill
  refine Sb.walk (l := PySem.Challenge.rw_seenbefore_k77_streams_written_and_read) rfl rfl (fun w h Y => PySem.W.kIn_of Y) ?F
  case F =>
    intro w mg fa h KX G hmg
    refine' Sb.all_mk KX G hmg ?a0 ?l0 ?c0 ?k0 ?a1 ?l1 ?c1 ?k1 ?a2 ?l2 ?c2 ?k2 ?a3 ?l3 ?c3 ?k3 ?a4 ?l4 ?c4 ?k4 ?a5 ?l5 ?c5 ?k5 ?a6 ?l6 ?c6 ?k6 ?a7 ?l7 ?c7 ?k7 ?a8 ?l8 ?c8 ?k8 ?a9 ?l9 ?c9 ?k9 ?a10 ?l10 ?c10 ?k10 ?a11 ?l11 ?c11 ?k11 ?a12 ?l12 ?c12 ?k12 ?a13 ?l13 ?c13 ?k13 ?eaC0 ?exL0 ?esa0 ?ega0 ?egg0 ?enb0 ?ea10 ?et10 ?el10 ?ec10 ?ekC0 ?eeC0 ?etC0 ?ehC0 ?eiC0 ?esC0 ?ka_EMPTY ?ka_MOST_DIGITS ?dA_DIGITS ?dL_DIGITS ?dK_DIGITS ?dS_DIGITS ?dE_DIGITS ?z0 ?z1 ?z2 ?z3 ?z4 ?z5 ?z6 ?z7 ?z8
    case dA_DIGITS => k_is
    case dL_DIGITS => k_is
    case a0 => k_is
    case l0 => k_is
    case c0 => k_is
    case k0 => k_is
    case a1 => k_is
    case l1 => k_is
    case c1 => k_is
    case k1 => k_is
    case a2 => k_is
    case l2 => k_is
    case c2 => k_is
    case k2 => k_is
    case a3 => k_is
    case l3 => k_is
    case c3 => k_is
    case k3 => k_is
    case a4 => k_is
    case l4 => k_is
    case c4 => k_is
    case k4 => k_is
    case a5 => k_is
    case l5 => k_is
    case c5 => k_is
    case k5 => k_is
    case a6 => k_is
    case l6 => k_is
    case c6 => k_is
    case k6 => k_is
    case a7 => k_is
    case l7 => k_is
    case c7 => k_is
    case k7 => k_is
    case a8 => k_is
    case l8 => k_is
    case c8 => k_is
    case k8 => k_is
    case a9 => k_is
    case l9 => k_is
    case c9 => k_is
    case k9 => k_is
    case a10 => k_is
    case l10 => k_is
    case c10 => k_is
    case k10 => k_is
    case a11 => k_is
    case l11 => k_is
    case c11 => k_is
    case k11 => k_is
    case a12 => k_is
    case l12 => k_is
    case c12 => k_is
    case k12 => k_is
    case a13 => k_is
    case l13 => k_is
    case c13 => k_is
    case k13 => k_is
    case eaC0 => k_is
    case exL0 => k_is
    case esa0 => k_is
    case ega0 => k_is
    case egg0 => k_is
    case enb0 => k_is
    case ea10 => k_is
    case et10 => k_is
    case el10 => k_is
    case ec10 => k_is
    case ekC0 => k_is
    case eeC0 => k_is
    case etC0 => k_is
    case ehC0 => k_is
    case eiC0 => k_is
    case esC0 => first | rfl | k_is
    case ka_EMPTY => k_is
    case ka_MOST_DIGITS => k_is
    case dK_DIGITS => first | k_is | exact ⟨⟨_, _, rfl, rfl⟩, ⟨⟨_, _, rfl, rfl⟩, ⟨⟨_, _, rfl, rfl⟩, ⟨⟨_, _, rfl, rfl⟩, ⟨⟨_, _, rfl, rfl⟩, ⟨⟨_, _, rfl, rfl⟩, True.intro⟩⟩⟩⟩⟩⟩
    case dS_DIGITS => first | rfl | decide +kernel | k_is
    case dE_DIGITS => first | k_is | exact ⟨⟨_, rfl⟩, ⟨_, rfl⟩, ⟨⟨_, rfl⟩, ⟨_, rfl⟩, ⟨⟨_, rfl⟩, ⟨_, rfl⟩, ⟨⟨_, rfl⟩, ⟨_, rfl⟩, ⟨⟨_, rfl⟩, ⟨_, rfl⟩, ⟨⟨_, rfl⟩, ⟨_, rfl⟩, True.intro⟩⟩⟩⟩⟩⟩
    case z0 => k_is
    case z1 => k_is
    case z2 => k_is
    case z3 => k_is
    case z4 => k_is
    case z5 => k_is
    case z6 => k_is
    case z7 => k_is
    case z8 => k_is
