import PyProof.Rows.All
import Wide.All
import OpenK.AllK
import Wide.FinOn
import HandS.ForMost
import HandS.ExcOwn
import HandS.EndBits
import HandS.Codes
import HandS.Wide
import HandS.TupAny
import HandS.ForExc
import HandS.IsInst
import KE.KExcInit
import PyProof.NeData
import PySem.Challenge.RW_seenbefore_k01_streams_required
set_option Elab.async false
set_option linter.all false
set_option maxRecDepth 100000
set_option maxHeartbeats 4000000

/-! Promises of defs where no repr is under way (guards = []): so the repr of made data is known to the sign. -/
namespace Sb
open PySem PySem.Spec PyProof.Rows L2
/-- as FnOk, for calls around which no repr is under way -/
structure FnG (P : Program) (w : World) (K : PySem.W.Frag) (mg : Str → Option Value) (base : Heap) (CX : CXT) (k : Nat) (f : Addr)
    (fd : FuncData) (ps : List Str) (sp : Sp) : Prop where
  len : ∀ vs H Q E, sp vs H Q E → vs.length = ps.length
  run : ∀ (A : Around) (outer : List Env) (s : Shared) (H : Hp) (args : Args) (us : List Value) (vs : List V) (Q : VK) (E : XK),
    A.guards = some [] → Room k A → Env0 P w K mg base A outer s H → BindsTo s fd args (ps.zip us) → Vals vs us → sp vs H Q E →
    codeAny (model P w) A (.call (.ref f) args) (CR CX outer P w H s Q E) s
section
variable {P : Program} {w : World} {K : PySem.W.Frag} {mg : Str → Option Value} {base : Heap} {CX : CXT} {k : Nat} {f : Addr}
theorem FnG.mono {j : Nat} {fd : FuncData} {ps : List Str} {sp : Sp} (F : FnG P w K mg base CX j f fd ps sp) (h : j ≤ k) : FnG P w K mg base CX k f fd ps sp :=
  { len := F.len, run := fun A o s H a us vs Q E g r => F.run A o s H a us vs Q E g (r.mono h) }
theorem FnG.imp {fd : FuncData} {ps : List Str} {sp sp' : Sp} (F : FnG P w K mg base CX k f fd ps sp) (h : ∀ vs H Q E, sp' vs H Q E → sp vs H Q E) :
    FnG P w K mg base CX k f fd ps sp' :=
  { len := fun vs H Q E z => F.len vs H Q E (h _ _ _ _ z), run := fun A o s H a us vs Q E g r e b v z => F.run A o s H a us vs Q E g r e b v (h _ _ _ _ z) }
theorem FnG.of {fd : FuncData} {ps : List Str} {sp : Sp} (F : FnOk P w K mg base CX k f fd ps sp) : FnG P w K mg base CX k f fd ps sp :=
  { len := F.len, run := fun A o s H a us vs Q E _ r => F.run A o s H a us vs Q E r }
/-- from a body to its def -/
theorem fnG_body {name qual : Str} {params : Arguments} {body : List Stmt} {sc : Scope} {dV kV doc pm cdv ct oc : Value} {an od : Option Addr} {osl : Array (Option Value)} {N ps : List Str} {sp : Sp}
    (lk : K.lookup f = some ⟨oc, od, .func (PySem.W.fnOf name qual params body sc dV kV doc pm an cdv ct), osl⟩) (hcd : PySem.W.codeIn K cdv qual = true) (S : FnScope N ps sc)
    (len : ∀ vs H Q E, sp vs H Q E → vs.length = ps.length)
    (walk : ∀ (A : Around) (outer : List Env) (s : Shared) (H : Hp) (vs : List V) (Q : VK) (E : XK), A.guards = some [] →
      Room k (A.deeper (envOfC qual sc s.heap.objs.size f cdv)) → sp vs H Q E →
      ∃ t, PSs (cxOf CX P w K mg base N qual sc f cdv A outer s H E) body t ∧ t { nx := fun _ H' => Q .non H', rt := Q } (start N vs) H) :
    FnG P w K mg base CX (k + 1) f (PySem.W.fnOf name qual params body sc dV kV doc pm an cdv ct) ps sp := by
  constructor
  · exact len
  intro A outer s H args us vs Q E gd room e0 bd rv want
  have inK : K.In s.heap := e0.mod.kin.keeps fun b o q => (e0.bs b o q).1
  have noLim : s.heap.NoLimit := e0.mod.nolimit.keeps fun b o q => (e0.bs b o q).1
  have kinds : ∀ y ∈ ps.zip us, sc.names.lookup y.1 = some .local ∨
      (sc.names.lookup y.1 = some .cell ∧ ((cellsFrom (s.heap.objs.size + 1) sc.names []).lookup y.1).isSome = true) := by
    rintro ⟨n, v⟩ hy
    cases S.par n (List.of_mem_zip hy).1 with
    | inl q => exact Or.inl q
    | inr q => exact Or.inr ⟨q, PySem.W.cellsFrom_some _ _ _ (Or.inl q)⟩
  apply codeAny_call_function room.depth (inK _ _ lk) rfl S.co S.gen rfl (PySem.W.codeRec_of inK hcd)
  apply bd
  apply wpAny_newFunctionEnv_cells S.kind kinds
  intro env he s1 x
  subst he
  refine ⟨noLim.keeps x.toInCall.keep, ?_⟩
  apply codeAny_func
  obtain ⟨t, ht, hq⟩ := walk A outer s H vs Q E gd (room.deeper _) want
  have I := inv_start (CX := CX) (E := E) S room.hd e0 (len _ _ _ _ want) rv x
  refine wpAny_mono (ht.run [] s1 (start N vs) H _ I hq) (fun fl s' hs => ?_) (fun _ _ hs => hs)
  match fl, hs with
  | .ret u, ⟨v, σ', H', J, r', q⟩ => exact ⟨v, H', J.os, J.bare, J.base, J.hok, r', q⟩
  | .next, ⟨σ', H', J, q⟩ => exact ⟨V.non, H', J.os, J.bare, J.base, J.hok, rfl, q⟩
  | .brk, ⟨_, _, _, q⟩ => exact q.elim
  | .cont, ⟨_, _, _, q⟩ => exact q.elim
/-- a def of the text; its walk may use that no repr is under way -/
theorem okG {x qual : Str} {st : Stmt} {fd : FuncData} {N ps : List Str} {sp : Sp} (F : Fun K x qual st f fd) (S : FnScope N ps (defScope st)) (len : ∀ vs H Q E, sp vs H Q E → vs.length = ps.length)
    (walk : ∀ (cdv : Value) (A : Around) (outer : List Env) (s : Shared) (H : Hp) (vs : List V) (Q : VK) (E : XK), A.guards = some [] →
      Room k (A.deeper (envOfC qual (defScope st) s.heap.objs.size f cdv)) → sp vs H Q E →
      ∃ t, PSs (cxOf CX0 P w K mg base N qual (defScope st) f cdv A outer s H E).nox (defBody st) t ∧ t { nx := fun _ H' => Q .non H', rt := Q } (start N vs) H) :
    FnG P w K mg base CX0 (k + 1) f fd ps sp := by
  obtain ⟨oc, od, kV, doc, pm, an, cdv, ct, osl, e, lk, hcd⟩ := F.ex
  subst e
  apply fnG_body lk hcd S len
  intro A outer s H vs Q E gd room want
  obtain ⟨t, h, q⟩ := walk cdv A outer s H vs Q E gd room want
  exact ⟨t, h.nox, q⟩
/-- the same for a def that may raise -/
theorem okGX {x qual : Str} {st : Stmt} {fd : FuncData} {N ps : List Str} {sp : Sp} (F : Fun K x qual st f fd) (S : FnScope N ps (defScope st)) (len : ∀ vs H Q E, sp vs H Q E → vs.length = ps.length)
    (walk : ∀ (cdv : Value) (A : Around) (outer : List Env) (s : Shared) (H : Hp) (vs : List V) (Q : VK) (E : XK), A.guards = some [] →
      Room k (A.deeper (envOfC qual (defScope st) s.heap.objs.size f cdv)) → sp vs H Q E →
      ∃ t, PSs (cxOf (L2.CX P w) P w K mg base N qual (defScope st) f cdv A outer s H E) (defBody st) t ∧ t { nx := fun _ H' => Q .non H', rt := Q } (start N vs) H) :
    FnG P w K mg base (L2.CX P w) (k + 1) f fd ps sp := by
  obtain ⟨oc, od, kV, doc, pm, an, cdv, ct, osl, e, lk, hcd⟩ := F.ex
  subst e
  exact fnG_body lk hcd S len fun A outer s H vs Q E gd room want => walk cdv A outer s H vs Q E gd room want
end

section
variable {X : Cx} {CX : CXT} {k : Nat} {f C : Addr} {fd : FuncData} {ps : List Str} {sp : Sp} {dvs : List V} {ds : List Value} {x m : Str} {p pos apos : Pos} {e o : Expr} {es : List Expr} {ta : TE} {t : TA}
/-- the callee runs; E hangs on the slots -/
theorem runG {pins : List (Addr × Obj)} {σ : L2.St} {H : Hp} {s : Shared} {Q : VK} {E : XK} {us : List Value} {vs : List V} (F : FnG X.prog X.w X.K X.mg X.base CX k f fd ps sp) (gd : X.A.guards = some []) (hr : Room k X.A)
    (hb : Binds X.K fd ps ds) (hd : Vals dvs ds) (hx : ∀ (e : Value) (s' : Shared), CX X.stack H s E e s' → X.xe e s') (I : Inv X pins σ H s) (r : Vals vs us) (h : sp (vs ++ dvs) H Q E) :
    wpAny (model X.prog X.w) X.A (call (.ref f) us) (EP X pins σ Q) X.xe s := by
  have rr := r.append hd
  have nl : (us ++ ds).length = ps.length := rr.length ▸ F.len _ _ _ _ h
  apply wpAny_call
  refine codeAny_mono (F.run X.A X.stack s H ⟨us, []⟩ _ _ Q E gd hr I.env0 (hb s us I.kIn nl) rr h) ?_
  intro res s' hres
  match res, hres with
  | .error er, z => exact hx er s' z
  | .ok (.ret u), z => exact I.after z
  | .ok .next, z => exact z.elim
  | .ok .brk, z => exact z.elim
  | .ok .cont, z => exact z.elim
/-- f(e, ..) -/
theorem pe_callG {E : XK} (F : FnG X.prog X.w X.K X.mg X.base CX k f fd ps sp) (gd : X.A.guards = some []) (hr : Room k X.A) (hg : Gl X x) (hm : X.mg x = some (.ref f)) (hk : PySem.W.keepIn X.K (.ref f) = true)
    (hb : Binds X.K fd ps ds) (hd : Vals dvs ds) (hx : Passes CX X E) (ha : PA X (e :: es) t) (hdb : (x == ("__debug__" : Str)) = false := by decide)
    (he : starEach (e :: es) X.env = (false, eval e X.env) :: starEach es X.env := by rfl)
    (hpl : (backTo pos (starEach es X.env)).any (·.1) = false := by rfl) : PE X (.Call (.Name x p) (e :: es) [] pos) (tCall sp dvs E t) := by
  constructor
  intro pins s σ H Q I h
  apply wpAny_Call_Name_kw
  apply ld_glob I hg hm _ hdb
  apply PySem.W.callWith_K (h₀ := X.base) I.ok.mod.kin hk _ he hpl
  refine thn (ha.run pos pins s σ H _ I h) ?_
  rintro us s1 ⟨vs, H1, I1, r, q⟩
  exact ⟨I1.kIn, runG F gd hr hb hd (fun er s' z => hx pins σ H1 s1 er s' I1 z) I1 r q⟩
/-- f(e, ..), what is raised wished for at the slots -/
theorem pe_callGS {E : L2.St → XK} (F : FnG X.prog X.w X.K X.mg X.base CX k f fd ps sp) (gd : X.A.guards = some []) (hr : Room k X.A) (hg : Gl X x) (hm : X.mg x = some (.ref f)) (hk : PySem.W.keepIn X.K (.ref f) = true)
    (hb : Binds X.K fd ps []) (hx : ∀ σ, PassesAt CX X σ (E σ)) (ha : PA X (e :: es) t) (hdb : (x == ("__debug__" : Str)) = false := by decide)
    (he : starEach (e :: es) X.env = (false, eval e X.env) :: starEach es X.env := by rfl)
    (hpl : (backTo pos (starEach es X.env)).any (·.1) = false := by rfl) : PE X (.Call (.Name x p) (e :: es) [] pos) (tCallS sp E t) := by
  constructor
  intro pins s σ H Q I h
  apply wpAny_Call_Name_kw
  apply ld_glob I hg hm _ hdb
  apply PySem.W.callWith_K (h₀ := X.base) I.ok.mod.kin hk _ he hpl
  refine thn (ha.run pos pins s σ H _ I h) ?_
  rintro us s1 ⟨vs, H1, I1, r, q⟩
  have q' : sp (vs ++ []) H1 Q (E σ) := by rw [List.append_nil]; exact q
  exact ⟨I1.kIn, runG F gd hr hb .nil (fun er s' z => hx σ pins H1 s1 er s' I1 z) I1 r q'⟩
/-- repr of data -/
theorem call_reprD (gd : X.A.guards = some []) (hu : X.A.units + 64 < cLine) : CallR X (.builtin "repr") (fun xs H Q => ∃ v d, xs = [v] ∧ Dp X.K H v d ∧ d.showable = true ∧ d.hasDict = false ∧ d.depth ≤ 60 ∧ d.shown.length ≤ sizeLine ∧ Q (.str d.shown) H) := by
  rintro pins s σ H xs us Q I r ⟨v, d, rfl, hd, hs, hnd, hdp, hz, q⟩
  obtain ⟨u, rfl, ru⟩ := vals1 r
  obtain ⟨as, rd⟩ := Dp.reads I d v u hd ru
  cases v with
  | ref a =>
    obtain rfl : u = Value.ref a := ru
    refine repr_of_reads' rd hs (PyData.noDict_hsm hnd) gd (by omega) (fun _ _ z => z) (fun h' u' tk hk => ?_) hz
    exact ⟨.str d.shown, H, I.kept (fun b o z => hk b o z), ⟨_, rfl⟩, q⟩
  | non =>
    cases hd
    obtain rfl : u = Value.none := ru
    exact PySem.P.repr_of_none ⟨.str _, H, I.tok _, ⟨_, rfl⟩, q⟩
  | bl b =>
    cases hd
    obtain rfl : u = Value.bool b := ru
    exact PySem.P.repr_of_bool ⟨.str _, H, I.tok _, ⟨_, rfl⟩, q⟩
  | int i =>
    cases hd
    obtain ⟨tk, rfl⟩ := ru
    have hi : i.natAbs.log2 < 1920 := by simpa [PyData.showable] using hs
    exact PySem.P.repr_of_int hi ⟨.str _, H, I.tok _, ⟨_, rfl⟩, q⟩
  | str z =>
    cases hd
    obtain ⟨tk, rfl⟩ := ru
    exact PySem.P.repr_of_str (hsz := by simpa only [PyData.shown] using hz) ⟨.str _, H, I.tok _, ⟨_, rfl⟩, q⟩
  | byt b => cases hd
  | flt b => cases hd
  | ty n => cases hd
end
end Sb

namespace Sb
open PySem PySem.Spec PyProof.Rows L2
section
variable {P : Program} {w : World} {K : PySem.W.Frag} {mg mb : Str → Option Value} {k : Nat} {fa a : Addr} {fd : FuncData} {x : Str} {sp : Sp} {s1 : Shared} {vs : List Value} {ns : List Int}
/-- what the row asks of the law's call -/
abbrev Done (P : Program) (w : World) (fa a : Addr) (s1 : Shared) : Prop := codeAny (model P w) callerA (.call (.ref fa) ⟨[.ref a], []⟩)
  (fun r s' => r = .ok (.ret (.bool true)) ∧ OldK s1.heap s'.heap ∧ s'.os = s1.os ∧ AllBare s'.gens) s1
/-- the law's call over an abstract heap that tracks the script at most -/
theorem overH {H : Hp} (KX : K.In s1.heap) (hns : s1.heap.Ns mainGlobals mg) (hb : s1.heap.Ns builtinsNs mb) (hbb : ∀ x : Str, x ≠ "__name__" → mb x = bootBuiltins x) (hlim : s1.heap.NoLimit) (hg : s1.gens = #[])
    (ha : s1.heap.get? a = some { cls := .type "list", data := .seq vs.toArray }) (hr : Room k callerA)
    (F : ∀ base : Heap, K.In base → base.Ns mainGlobals mg → FnG P w K mg base CX0 k fa fd [x] sp) (bd : ∀ (s : Shared) (u : Value), BindsTo s fd ⟨[u], []⟩ [(x, u)])
    (hO : Only H) (ok : HOk P w H s1.heap) (onlyA : ∀ b, H b ≠ none → b = a) (notK : H a ≠ none → K.lookup a = none)
    (want : sp [.ref a] H (fun v _ => v = .bl true) fun _ _ _ => False) : Done P w fa a s1 := by
  have free : ∀ {b : Addr} {o : Obj}, s1.heap.get? b = some o → (b = a → H b = none) → H b = none := by
    intro b o _ z
    cases q : H b with
    | none => rfl
    | some u =>
      have e : b = a := onlyA b (by simp [q])
      rw [z e] at q
      cases q
  have dict : ∀ {b : Addr} {o : Obj} {es : Array DictEntry} {ep : Nat}, s1.heap.get? b = some o → o.data = .dict es ep → H b = none := by
    intro b o es ep e d
    apply free e
    intro z
    subst z
    rw [ha] at e
    cases e
    cases (show Data.seq vs.toArray _ = Data.dict es ep from d)
  have spaces : ∀ {b : Addr} {m : Str → Option Value}, s1.heap.Ns b m → (hidT s1.heap H).Ns b m := by
    rintro b m ⟨o, es, ep, e, d, r⟩
    exact ⟨o, es, ep, hidT_get e (dict e d), d, r⟩
  have inB : K.In (hidT s1.heap H) := by
    intro b o e
    refine hidT_get (KX b o e) (free (KX b o e) fun z => ?_)
    subst z
    cases q : H b with
    | none => rfl
    | some u =>
      rw [notK (by simp [q])] at e
      cases e
  obtain ⟨mc, c1, c2⟩ := hlim
  have md : Mod K mg (hidT s1.heap H) := ⟨inB, spaces hns, ⟨mb, spaces hb, hbb⟩, ⟨mc, spaces c1, c2⟩⟩
  have e0 : Env0 P w K mg (hidT s1.heap H) callerA [] s1 H :=
    { frames := rfl, mod := md, bs := fun b o e => of_hidT e, bsz := Nat.le_of_eq (hidT_size _ _), funs := trivial, frf := (fun b z => (by cases z)), hok := ok, bare := .of_eq hg }
  have run := (F _ inB (spaces hns)).run callerA [] s1 H ⟨[.ref a], []⟩ [.ref a] [.ref a] _ _ rfl hr e0 (bd s1 (.ref a)) (.cons rfl .nil) want
  refine codeAny_mono run ?_
  intro r s' z
  match r, z with
  | .error e, z =>
    exact False.elim z
  | .ok .next, z => exact False.elim z
  | .ok .brk, z => exact False.elim z
  | .ok .cont, z => exact False.elim z
  | .ok (.ret u), ⟨v, H', os, bare, un, ok', rel, q⟩ =>
    subst q
    obtain rfl : u = Value.bool true := rel
    refine ⟨rfl, OldK.of_keep ?_, os, bare⟩
    intro b o e
    cases q : H b with
    | none => exact un.keep b o e q (fun z => by cases z) (fun z => by cases z)
    | some u =>
      cases hO b with
      | inl z =>
        rw [q] at z
        cases z
      | inr z =>
        obtain ⟨ob, xs, z⟩ := z
        have e1 := (ok b _ z).1
        have e2 := (ok' b _ (un.frzs b ob _ z)).1
        rw [e] at e1
        cases e1
        exact e2
/-- the law's call -/
theorem law_callG (KX : K.In s1.heap) (hns : s1.heap.Ns mainGlobals mg) (hb : s1.heap.Ns builtinsNs mb) (hbb : ∀ x : Str, x ≠ "__name__" → mb x = bootBuiltins x) (hlim : s1.heap.NoLimit) (hg : s1.gens = #[])
    (ha : s1.heap.get? a = some { cls := .type "list", data := .seq vs.toArray }) (hi : IntsAre vs ns) (hl : ns.length ≤ sizeLine) (hr : Room k callerA)
    (F : ∀ base : Heap, K.In base → base.Ns mainGlobals mg → FnG P w K mg base CX0 k fa fd [x] sp) (bd : ∀ (s : Shared) (u : Value), BindsTo s fd ⟨[u], []⟩ [(x, u)])
    (want : ∀ H : Hp, Only H → SqL K H a (ns.map V.int) → sp [.ref a] H (fun v _ => v = .bl true) fun _ _ _ => False) : Done P w fa a s1 := by
  have rv := vals_ints hi
  have nv := hi.length
  by_cases hk : K.lookup a = none
  · let H : Hp := fun b => if b = a then some (.frz { cls := .type "list", data := .seq vs.toArray } (.lst (ns.map V.int))) else none
    have at_a : H a = some (.frz { cls := .type "list", data := .seq vs.toArray } (.lst (ns.map V.int))) := if_pos rfl
    have off : ∀ b, b ≠ a → H b = none := fun b z => if_neg z
    have hO : Only H := by
      intro b
      by_cases e : b = a
      · subst e
        exact Or.inr ⟨_, _, at_a⟩
      · exact Or.inl (off b e)
    refine overH (H := H) KX hns hb hbb hlim hg ha hr F bd hO ?_ ?_ (fun _ => hk) (want H hO (Or.inl (Or.inr ⟨_, at_a⟩)))
    · intro b u z
      by_cases e : b = a
      · subst e
        rw [at_a] at z
        cases z
        exact ⟨ha, by rw [List.length_map]; exact hl, vs, _, rv, ha⟩
      · rw [off b e] at z
        cases z
    · intro b z
      by_cases e : b = a
      · exact e
      · exact absurd (off b e) z
  · cases q : K.lookup a with
    | none => exact absurd q hk
    | some o =>
      have e := KX a o q
      rw [ha] at e
      cases e
      have hO : Only fun _ => none := fun _ => Or.inl rfl
      refine overH (H := fun _ => none) KX hns hb hbb hlim hg ha hr F bd hO (fun b u z => by cases z) (fun b z => absurd rfl z) (fun z => absurd rfl z) (want _ hO (Or.inr ?_))
      exact ⟨_, vs.toArray, _, q, rfl, rfl, rfl, by rw [List.size_toArray, nv]; exact hl, by simpa using rv⟩
end
/-- the row's end, from the law's promise -/
theorem walk_ofG {l : PySem.W.OpenLaw} {n k : Nat} {q : Program} {loose : List Str} {XP : (Str → Option Value) → Heap → Prop} {YP : World → Heap → Prop} {d : DefRec} {K : Params → PySem.W.Frag} {sp : PySem.W.Frag → Sp} {x : Str}
    (hn : l.most = some n) (hn2 : n ≤ sizeLine) (hdf : d.params.defaults = []) (hr : Room k callerA) (hY : ∀ (w : World) (h : Heap), YP w h → (K w.params).In h)
    (F : ∀ (w : World) (mg : Str → Option Value) (fa : Addr) (h : Heap), (K w.params).In h → h.Ns mainGlobals mg → mg d.name = some (.ref fa) →
      ∃ fd : FuncData, (∀ (s : Shared) (u : Value), BindsTo s fd ⟨[u], []⟩ [(x, u)]) ∧
        ∀ base : Heap, (K w.params).In base → base.Ns mainGlobals mg → FnG l.prog w (K w.params) mg base CX0 k fa fd [x] (sp (K w.params)))
    (want : ∀ (K : PySem.W.Frag) (H : Hp) (a : Addr) (ns : List Int), ns.length ≤ n → (∀ z ∈ ns, Builtin.Int.intBits z ≤ 1048576) → Only H → SqL K H a (ns.map V.int) →
      sp K [.ref a] H (fun v _ => v = .bl true) fun _ _ _ => False) : PySem.W.WalkO q loose XP YP l.row.toRowW d [] (fun f vs => PySem.call f vs) := by
  apply Att.attach_callB hn hdf
  intro w s0 s1 mg mb fa o pm cd doc a vs ns G Y ho hd hcd hmg hobj hints hlen hbits hg
  obtain ⟨fd, bd, hF⟩ := F w mg fa _ (hY w _ Y) G.T.g hmg
  exact law_callG (hY w _ Y) G.T.g G.T.b G.T.builtins G.T.nolimit hg hobj hints (Nat.le_trans hlen hn2) hr hF bd (fun H hO hS => want _ H a ns hlen hbits hO hS)
end Sb

/-! Data that is small enough to be shown and compared. -/
namespace Sb
open PySem PySem.Spec PyProof.Rows L2
structure Nice (n m : Nat) (d : PyData) : Prop where
  lay : d.canLay0 = true
  dep : d.depth ≤ n
  sho : d.showable = true
  nod : d.hasDict = false
  len : d.shown.length ≤ m
theorem Nice.mono {n m n' m' : Nat} {d : PyData} (h : Nice n m d) (hn : n ≤ n') (hm : m ≤ m') : Nice n' m' d :=
  { h with dep := Nat.le_trans h.dep hn, len := Nat.le_trans h.len hm }
theorem Nice.shaped {n m : Nat} {d : PyData} (h : Nice n m d) (hn : n ≤ 64) : SeqAt.shaped d = true := by
  unfold SeqAt.shaped
  rw [h.lay, decide_eq_true (Nat.le_trans h.dep hn)]
  rfl
theorem log_small {i : Int} (h : i.natAbs < 10 ^ 99) : i.natAbs.log2 < 400 :=
  PySem.Flt.log2_lt_of (by decide) (Nat.lt_of_lt_of_le h (by decide +kernel))
theorem Nice.int {i : Int} (h : i.natAbs < 10 ^ 99) : Nice 0 100 (.int i) := by
  refine ⟨rfl, Nat.le_refl _, ?_, rfl, ?_⟩
  · have := log_small h
    simp only [PyData.showable, decide_eq_true_eq]
    omega
  · have e := int_text_length_le10 (k := 99) (by decide) h
    show (Str.ofString (toString i)).length ≤ 100
    rw [PySem.ofString_length]
    exact e
theorem Nice.bool (b : Bool) : Nice 0 5 (.bool b) := by
  refine ⟨rfl, Nat.le_refl _, rfl, rfl, ?_⟩
  cases b <;> decide
theorem Nice.none : Nice 0 4 .none := ⟨rfl, Nat.le_refl _, rfl, rfl, by decide⟩
theorem niceAll {n m : Nat} : ∀ {ds : List PyData}, (∀ d ∈ ds, Nice n m d) → PyData.canLayAll0 ds = true ∧ PyData.depthAll ds ≤ n ∧ PyData.showableAll ds = true ∧ PyData.hasDictAll ds = false ∧
    ((PyData.shownAll ds).map (·.length)).sum ≤ ds.length * m ∧ (PyData.shownAll ds).length = ds.length
  | [], _ => ⟨rfl, Nat.zero_le _, rfl, rfl, by simp [PyData.shownAll], rfl⟩
  | d :: ds, h => by
    have hd := h d List.mem_cons_self
    obtain ⟨a, b, c, e, f, g⟩ := niceAll (ds := ds) fun x hx => h x (List.mem_cons_of_mem _ hx)
    refine ⟨?_, ?_, ?_, ?_, ?_, ?_⟩
    · simp only [PyData.canLayAll0, hd.lay, a, Bool.and_self]
    · simp only [PyData.depthAll]
      exact Nat.max_le.mpr ⟨hd.dep, b⟩
    · simp only [PyData.showableAll, hd.sho, c, Bool.and_self]
    · simp only [PyData.hasDictAll, hd.nod, e, Bool.or_self]
    · simp only [PyData.shownAll, List.map_cons, List.sum_cons, List.length_cons]
      have := hd.len
      rw [Nat.succ_mul]
      omega
    · simp only [PyData.shownAll, List.length_cons, g]
theorem Nice.tuple {n m k : Nat} {ds : List PyData} (h : ∀ d ∈ ds, Nice n m d) (hk : ds.length ≤ k) : Nice (n + 1) (k * m + 2 * k + 3) (.tuple ds) := by
  obtain ⟨a, b, c, e, f, g⟩ := niceAll h
  refine ⟨a, by simp only [PyData.depth]; omega, c, e, ?_⟩
  have l := tupleText_len_le (PyData.shownAll ds)
  simp only [PyData.shown]
  rw [g] at l
  have l2 : ds.length * m ≤ k * m := Nat.mul_le_mul_right _ hk
  omega
theorem Nice.list {n m k : Nat} {ds : List PyData} (h : ∀ d ∈ ds, Nice n m d) (hk : ds.length ≤ k) : Nice (n + 1) (k * m + 2 * k + 3) (.list ds) := by
  obtain ⟨a, b, c, e, f, g⟩ := niceAll h
  refine ⟨a, by simp only [PyData.depth]; omega, c, e, ?_⟩
  have l := listText_len_le (PyData.shownAll ds)
  simp only [PyData.shown]
  rw [g] at l
  have l2 : ds.length * m ≤ k * m := Nat.mul_le_mul_right _ hk
  omega
theorem shaped_ints (l : List Int) : SeqAt.shaped (.list (l.map PyData.int)) = true := by
  unfold SeqAt.shaped
  have h : PyData.canLayAll0 (l.map PyData.int) = true ∧ PyData.depthAll (l.map PyData.int) = 0 := by
    induction l with
    | nil => exact ⟨rfl, rfl⟩
    | cons x r ih => exact ⟨by simp only [List.map_cons, PyData.canLayAll0, PyData.canLay0, ih.1, Bool.and_self], by simp only [List.map_cons, PyData.depthAll, PyData.depth, ih.2, Nat.max_self]⟩
  simp only [PyData.canLay0, PyData.depth, h.1, h.2, Bool.true_and, decide_eq_true_eq]
  decide
theorem dp_ints (K : PySem.W.Frag) (H : Hp) : ∀ l : List Int, DpAll K H (l.map V.int) (l.map PyData.int)
  | [] => .nil
  | x :: r => .cons (.int x) (dp_ints K H r)
theorem eqv_ints : ∀ l m : List Int, PyData.eqvAll (l.map PyData.int) (m.map PyData.int) = decide (l = m)
  | [], [] => rfl
  | [], _ :: _ => rfl
  | _ :: _, [] => rfl
  | x :: r, y :: t => by
    simp only [List.map_cons, PyData.eqvAll, PyData.eqv, eqv_ints r t, List.cons.injEq]
    by_cases h : x = y <;> simp [h]
theorem div_wide {i j : Int} (h : 0 < j) (h2 : j < 2 ^ 100) : CDivW i j := wide_div (b := 100) h (by omega) (by decide) (by decide)
end Sb

/-! Data that never changes: scalars and tuples of them, at any depth. -/
namespace Sb
open PySem PySem.Spec PyProof.Rows L2
mutual
inductive TD (H : Hp) : V → PyData → Prop
  | non : TD H .non .none
  | bl (b : Bool) : TD H (.bl b) (.bool b)
  | int (i : Int) : TD H (.int i) (.int i)
  | str (x : Str) : TD H (.str x) (.str x)
  | tup {a : Addr} {xs : List V} {ds : List PyData} : H a = some (.tup xs) → TDs H xs ds → TD H (.ref a) (.tuple ds)
inductive TDs (H : Hp) : List V → List PyData → Prop
  | nil : TDs H [] []
  | cons {v : V} {vs : List V} {d : PyData} {ds : List PyData} : TD H v d → TDs H vs ds → TDs H (v :: vs) (d :: ds)
end
/-- tuples stay -/
def Tups (H H' : Hp) : Prop := ∀ a xs, H a = some (.tup xs) → H' a = some (.tup xs)
theorem Tups.refl {H : Hp} : Tups H H := fun _ _ h => h
theorem Tups.trans {H H1 H2 : Hp} (a : Tups H H1) (b : Tups H1 H2) : Tups H H2 := fun x y h => b x y (a x y h)
theorem Tups.same {H H' : Hp} (h : Same H H') : Tups H H' := fun a xs e => h a _ e
theorem Tups.new {H : Hp} {a : Addr} {o : HO} (h : H a = none) : Tups H (upd H a o) := fun b xs e => by
  rw [upd_ne (ne_of_none e h)]
  exact e
theorem Tups.put {H : Hp} {a : Addr} {o u : HO} (h : H a = some u) (hu : ∀ xs, u ≠ .tup xs) : Tups H (upd H a o) := fun b xs e => by
  rw [upd_ne (ne_of e h (hu xs).symm)]
  exact e
theorem Tups.lst {H : Hp} {a : Addr} {o : HO} {l : List V} (h : H a = some (.lst l)) : Tups H (upd H a o) := Tups.put h (fun _ z => by cases z)
mutual
theorem TD.mono {H H' : Hp} (t : Tups H H') : ∀ {v : V} (d : PyData), TD H v d → TD H' v d
  | _, .none, h => by cases h; exact .non
  | _, .bool b, h => by cases h; exact .bl b
  | _, .int i, h => by cases h; exact .int i
  | _, .str x, h => by cases h; exact .str x
  | _, .tuple ds, h => by
    cases h with
    | tup e r => exact .tup (t _ _ e) (TDs.mono t ds r)
  | _, .list _, h => by cases h
  | _, .dict _, h => by cases h
theorem TDs.mono {H H' : Hp} (t : Tups H H') : ∀ {vs : List V} (ds : List PyData), TDs H vs ds → TDs H' vs ds
  | _, [], h => by cases h; exact .nil
  | _, d :: ds, h => by
    cases h with
    | cons a r => exact .cons (TD.mono t d a) (TDs.mono t ds r)
end
mutual
theorem TD.dp {K : PySem.W.Frag} {H : Hp} : ∀ {v : V} (d : PyData), TD H v d → Dp K H v d
  | _, .none, h => by cases h; exact .non
  | _, .bool b, h => by cases h; exact .bl b
  | _, .int i, h => by cases h; exact .int i
  | _, .str x, h => by cases h; exact .str x
  | _, .tuple ds, h => by
    cases h with
    | tup e r => exact .tup (SqT.of e) (TDs.dp ds r)
  | _, .list _, h => by cases h
  | _, .dict _, h => by cases h
theorem TDs.dp {K : PySem.W.Frag} {H : Hp} : ∀ {vs : List V} (ds : List PyData), TDs H vs ds → DpAll K H vs ds
  | _, [], h => by cases h; exact .nil
  | _, d :: ds, h => by
    cases h with
    | cons a r => exact .cons (TD.dp d a) (TDs.dp ds r)
end
theorem TDs.length {H : Hp} : ∀ {vs : List V} {ds : List PyData}, TDs H vs ds → vs.length = ds.length
  | _, _, .nil => rfl
  | _, _, .cons _ r => congrArg (· + 1) r.length
theorem TDs.get {H : Hp} : ∀ {vs : List V} {ds : List PyData} {i : Nat} {v : V}, TDs H vs ds → vs[i]? = some v → ∃ d, ds[i]? = some d ∧ TD H v d
  | _, _, _, _, .nil, e => by simp at e
  | _, _, 0, _, .cons a _, e => by
    simp at e
    subst e
    exact ⟨_, rfl, a⟩
  | _, _, i + 1, v, .cons _ r, e => by
    obtain ⟨d, h1, h2⟩ := TDs.get (i := i) (v := v) r (by simpa using e)
    exact ⟨d, by simpa using h1, h2⟩
theorem TDs.at {H : Hp} : ∀ {vs : List V} {ds : List PyData} {i : Nat} {d : PyData}, TDs H vs ds → ds[i]? = some d → ∃ v, vs[i]? = some v ∧ TD H v d
  | _, _, _, _, .nil, e => by simp at e
  | _, _, 0, _, .cons a _, e => by
    simp at e
    subst e
    exact ⟨_, rfl, a⟩
  | _, _, i + 1, v, .cons _ r, e => by
    obtain ⟨d, h1, h2⟩ := TDs.at (i := i) (d := v) r (by simpa using e)
    exact ⟨d, by simpa using h1, h2⟩
theorem TDs.app {H : Hp} : ∀ {vs us : List V} {ds es : List PyData}, TDs H vs ds → TDs H us es → TDs H (vs ++ us) (ds ++ es)
  | _, _, _, _, .nil, s => s
  | _, _, _, _, .cons a r, s => .cons a (r.app s)
theorem TDs.take {H : Hp} : ∀ {vs : List V} {ds : List PyData} (n : Nat), TDs H vs ds → TDs H (vs.take n) (ds.take n)
  | _, _, 0, _ => .nil
  | _, _, _ + 1, .nil => .nil
  | _, _, n + 1, .cons a r => .cons a (r.take n)
theorem TDs.drop {H : Hp} : ∀ {vs : List V} {ds : List PyData} (n : Nat), TDs H vs ds → TDs H (vs.drop n) (ds.drop n)
  | _, _, 0, r => r
  | _, _, _ + 1, .nil => .nil
  | _, _, n + 1, .cons _ r => r.drop n
theorem TDs.ints {H : Hp} : ∀ {vs : List V} {ns : List Int}, TDs H vs (ns.map PyData.int) → vs = ns.map V.int
  | _, [], h => by cases h; rfl
  | _, n :: ns, h => by
    cases h with
    | cons a r =>
      cases a
      rw [List.map_cons, r.ints]
theorem TDs.ofInts {H : Hp} : ∀ {ns : List Int}, TDs H (ns.map V.int) (ns.map PyData.int)
  | [] => .nil
  | n :: ns => .cons (.int n) TDs.ofInts
/-- a tuple at v -/
theorem TD.isTup {H : Hp} {v : V} {ds : List PyData} (h : TD H v (.tuple ds)) : ∃ a xs, v = .ref a ∧ H a = some (.tup xs) ∧ TDs H xs ds := by
  cases h with
  | tup e r => exact ⟨_, _, rfl, e, r⟩
theorem TD.isInt {H : Hp} {v : V} {i : Int} (h : TD H v (.int i)) : v = .int i := by cases h; rfl
/-- a pair of ints -/
theorem TD.pair {H : Hp} {v : V} {i j : Int} (h : TD H v (.tuple [.int i, .int j])) : ∃ a, v = .ref a ∧ H a = some (.tup [.int i, .int j]) := by
  obtain ⟨a, xs, rfl, e, r⟩ := h.isTup
  cases r with
  | cons h1 r =>
    cases r with
    | cons h2 r =>
      cases r
      cases h1
      cases h2
      exact ⟨a, rfl, e⟩
theorem TD.ofPair {H : Hp} {a : Addr} {i j : Int} (h : H a = some (.tup [.int i, .int j])) : TD H (.ref a) (.tuple [.int i, .int j]) := .tup h (.cons (.int i) (.cons (.int j) .nil))

/-! ### streams -/
def msgD (m : Int × Int) : PyData := .tuple [.int m.1, .int m.2]
def strmD (ms : List (Int × Int)) : PyData := .tuple (ms.map msgD)
theorem msgD_inj {a b : Int × Int} (h : PyData.eqv (msgD a) (msgD b) = true) : a = b := by
  obtain ⟨a1, a2⟩ := a
  obtain ⟨b1, b2⟩ := b
  simp only [msgD, PyData.eqv, PyData.eqvAll, Bool.and_true, Bool.and_eq_true, beq_iff_eq] at h
  rw [h.1, h.2]
theorem eqv_msgs : ∀ a b : List (Int × Int), PyData.eqvAll (a.map msgD) (b.map msgD) = decide (a = b)
  | [], [] => rfl
  | [], _ :: _ => rfl
  | _ :: _, [] => rfl
  | x :: r, y :: t => by
    have ih := eqv_msgs r t
    by_cases h : x = y
    · subst h
      have e : PyData.eqv (msgD x) (msgD x) = true := by simp [msgD, PyData.eqv, PyData.eqvAll]
      simp only [List.map_cons, PyData.eqvAll, e, ih, Bool.true_and, List.cons.injEq, true_and]
    · have e : PyData.eqv (msgD x) (msgD y) = false := by
        cases q : PyData.eqv (msgD x) (msgD y) with
        | false => rfl
        | true => exact absurd (msgD_inj q) h
      simp only [List.map_cons, PyData.eqvAll, e, Bool.false_and, List.cons.injEq, h, false_and, decide_false]
theorem eqv_strm (a b : List (Int × Int)) : PyData.eqv (strmD a) (strmD b) = decide (a = b) := by
  simp only [strmD, PyData.eqv]
  exact eqv_msgs a b
/-- a stream of ints that are not too long -/
def Short (ms : List (Int × Int)) : Prop := ∀ m ∈ ms, m.1.natAbs < 10 ^ 99 ∧ m.2.natAbs < 10 ^ 99
theorem nice_msg {m : Int × Int} (h : m.1.natAbs < 10 ^ 99 ∧ m.2.natAbs < 10 ^ 99) : Nice 1 207 (msgD m) := by
  refine Nice.tuple (n := 0) (m := 100) (k := 2) (fun d hd => ?_) (Nat.le_refl 2)
  simp only [List.mem_cons, List.not_mem_nil, or_false] at hd
  rcases hd with rfl | rfl
  · exact Nice.int h.1
  · exact Nice.int h.2
theorem nice_strm {ms : List (Int × Int)} {k : Nat} (h : Short ms) (hk : ms.length ≤ k) : Nice 2 (k * 207 + 2 * k + 3) (strmD ms) := by
  refine Nice.tuple (n := 1) (m := 207) (k := k) (fun d hd => ?_) (by rw [List.length_map]; exact hk)
  obtain ⟨m, hm, rfl⟩ := List.mem_map.mp hd
  exact nice_msg (h m hm)
theorem TDs.msg {H : Hp} {vs : List V} {ms : List (Int × Int)} {i : Nat} {v : V} (r : TDs H vs (ms.map msgD)) (h : vs[i]? = some v) : ∃ m a, ms[i]? = some m ∧ v = .ref a ∧ H a = some (.tup [.int m.1, .int m.2]) := by
  obtain ⟨d, h1, h2⟩ := r.get h
  rw [List.getElem?_map] at h1
  cases e : ms[i]? with
  | none => rw [e] at h1; cases h1
  | some m =>
    rw [e] at h1
    cases h1
    obtain ⟨a, h3, h4⟩ := TD.pair h2
    exact ⟨m, a, rfl, h3, h4⟩
theorem TDs.msgs_len {H : Hp} {vs : List V} {ms : List (Int × Int)} (r : TDs H vs (ms.map msgD)) : vs.length = ms.length := by
  rw [r.length, List.length_map]
end Sb

/-! Operators over data that never changes. -/
namespace Sb
open PySem PySem.Spec PyProof.Rows L2
theorem same_new {H : Hp} {p : Addr} {o : HO} (h : H p = none) : Same H (upd H p o) := fun b u e => by
  rw [upd_ne (ne_of_none e h)]
  exact e
section
variable {X : Cx}
theorem opImp {f : Value → Value → Sem Value} {r r' : R2} (h : OpR X f r) (i : ∀ x y H Q, r' x y H Q → r x y H Q) : OpR X f r' :=
  fun pins s σ H x y v u Q I rx ry z => h pins s σ H x y v u Q I rx ry (i x y H Q z)
/-- t + u -/
def rCatD : R2 := fun x y H Q => ∃ ds es, TD H x (.tuple ds) ∧ TD H y (.tuple es) ∧ ds.length + es.length ≤ 100000 ∧
  ∀ p H', Same H H' → TD H' (.ref p) (.tuple (ds ++ es)) → Q (.ref p) H'
theorem op_catD : OpR X (binaryOp .Add) rCatD := opImp op_catA fun x y H Q h => by
  obtain ⟨ds, es, h1, h2, hl, q⟩ := h
  obtain ⟨a, xs, rfl, ha, hx⟩ := h1.isTup
  obtain ⟨b, ys, rfl, hb, hy⟩ := h2.isTup
  have lx := hx.length
  have ly := hy.length
  refine ⟨a, b, xs, ys, rfl, rfl, SqT.of ha, SqT.of hb, ?_, ?_, ?_, ?_⟩
  · rw [lx, ly]
    exact Nat.le_trans hl (by decide)
  · intro e
    subst e
    cases hx
    exact q b H (Same.refl H) h2
  · intro _ e
    subst e
    cases hy
    exact q a H (Same.refl H) (by rw [List.append_nil]; exact h1)
  · intro _ _ p np
    exact q p _ (same_new np) (.tup upd_same (TDs.mono (Tups.new np) _ (hx.app hy)))
/-- a part of a list, by its bounds -/
def cutA {α : Type} (xs : List α) (lo hi : Option Int) : List α := (xs.drop (HT.sIx xs.length 0 lo)).take (HT.sIx xs.length xs.length hi - HT.sIx xs.length 0 lo)
theorem cutA_to {α : Type} (xs : List α) {k : Nat} (h : k ≤ xs.length) : cutA xs none (some (k : Int)) = xs.take k := by
  unfold cutA
  rw [HT.sIx_none, HT.sIx_nat, List.drop_zero, Nat.sub_zero, Nat.min_eq_left h]
theorem cutA_from {α : Type} (xs : List α) {k : Nat} (h : k ≤ xs.length) : cutA xs (some (k : Int)) none = xs.drop k := by
  unfold cutA
  rw [HT.sIx_none, HT.sIx_nat, Nat.min_eq_left h]
  exact List.take_of_length_le (by rw [List.length_drop]; exact Nat.le_refl _)
theorem TDs.cut {H : Hp} {xs : List V} {ds : List PyData} (h : TDs H xs ds) (lo hi : Option Int) : TDs H (cutV xs lo hi) (cutA ds lo hi) := by
  unfold cutV cutA
  rw [h.length]
  exact (h.drop _).take _
/-- t[lo:hi] -/
def rSlD : V → Option Int → Option Int → Hp → VK → Prop := fun x lo hi H Q => ∃ ds, TD H x (.tuple ds) ∧ ∀ p H', Same H H' → TD H' (.ref p) (.tuple (cutA ds lo hi)) → Q (.ref p) H'
theorem sl_D : SlR X rSlD := by
  intro pins s σ H x v vl vu lo hi sl Q I rx hs pl pu h
  refine sl_tupA pins s σ H x v vl vu lo hi sl Q I rx hs pl pu ?_
  obtain ⟨ds, hT, q⟩ := h
  obtain ⟨a, xs, rfl, ha, hx⟩ := hT.isTup
  refine ⟨a, xs, rfl, SqT.of ha, ?_, ?_⟩
  · rintro ⟨e1, e2⟩
    refine q a H (Same.refl H) ?_
    have e : cutA ds lo hi = ds := by
      unfold cutA
      rw [← hx.length, e1, e2, List.drop_zero, Nat.sub_zero]
      exact List.take_of_length_le (by rw [hx.length]; exact Nat.le_refl _)
    rw [e]
    exact hT
  · intro _ p np
    exact q p _ (same_new np) (.tup upd_same (TDs.mono (Tups.new np) _ (hx.cut lo hi)))
/-- x == y, x != y over data that never changes -/
def rEqT : R2 := fun x y H Q => ∃ d e, TD H x d ∧ TD H y e ∧ SeqAt.shaped d = true ∧ SeqAt.shaped e = true ∧ Q (.bl (PyData.eqv d e)) H
def rNeT : R2 := fun x y H Q => ∃ d e, TD H x d ∧ TD H y e ∧ SeqAt.shaped d = true ∧ SeqAt.shaped e = true ∧ Q (.bl (!PyData.eqv d e)) H
theorem op_eqT (hu : X.A.units + 64 < cLine) : OpR X (compareOp .Eq) rEqT := opImp (op_eqD hu) fun x y H Q ⟨d, e, h1, h2, r⟩ => ⟨d, e, h1.dp _, h2.dp _, r⟩
theorem op_neT (hu : X.A.units + 64 < cLine) : OpR X (compareOp .NotEq) rNeT := opImp (op_neD hu) fun x y H Q ⟨d, e, h1, h2, r⟩ => ⟨d, e, h1.dp _, h2.dp _, r⟩
end
theorem shaped_strm (ms : List (Int × Int)) : SeqAt.shaped (strmD ms) = true := by
  have h : PyData.canLayAll0 (ms.map msgD) = true ∧ PyData.depthAll (ms.map msgD) ≤ 1 := by
    induction ms with
    | nil => exact ⟨rfl, Nat.zero_le _⟩
    | cons x r ih => exact ⟨by simp only [List.map_cons, PyData.canLayAll0, ih.1, Bool.and_true]; rfl, by simp only [List.map_cons, PyData.depthAll]; exact Nat.max_le.mpr ⟨Nat.le_refl _, ih.2⟩⟩
  unfold SeqAt.shaped
  simp only [strmD, PyData.canLay0, PyData.depth, h.1, Bool.true_and, decide_eq_true_eq]
  have := h.2
  omega
end Sb

/-! An own error class over a built-in one, its __init__ storing its one argument under the argument's name. -/
namespace PySem
namespace OwnE
open PySem.W PySem.Calls PyProof.Rows PySem.HandSPX Builtin Builtin.ObjectAttr
/-- the base: its name, its __new__, its __init__, its mro -/
structure Base where
  B : String
  newId : String
  initId : String
  bm : List Value
structure Base.Ok (b : Base) : Prop where
  fb : ExcBaseFacts b.B b.newId b.initId b.bm
  sb : StoreFacts b.B b.bm "object.__setattr__" "object"
  ne : b.bm.isEmpty = false
section
variable {prog : Program} {w : World} {A : Around} {R : Result → Shared → Prop} {hp : Heap} {g : Array GenState} {d : Drawn} {t : Nat} {os : OsState}
theorem tail_some {b : Base} (ok : b.Ok) : ∀ l : List Value, excTail b.bm l = true → l.isEmpty = false
  | [], e => by
    have z : b.bm = [] := (beq_iff_eq.mp e).symm
    have n := ok.ne
    rw [z] at n
    exact absurd n (by decide)
  | _ :: _, _ => rfl
/-- x.name = v, x a new error -/
theorem stored {b : Base} (ok : b.Ok) {K : W.Frag} {name : Str} {tk : Tok} {v : Value} {x C : Addr} {fv : Array Value} {cd : ClassData} (inK : K.In hp)
    (at_x : hp.get? x = some { cls := .ref C, data := .fields fv }) (at_C : W.clsIn K C = some cd) (tail : excTail b.bm cd.mro = true) (own : cd.hasDict = true) (free : W.findIn K (.ref C) name = some none)
    (want : ∀ h' tk' dx, (∀ c o, c ≠ x → hp.get? c = some o → h'.get? c = some o) → hp.objs.size ≤ dx → dx ≠ x →
      h'.get? x = some { cls := .ref C, dict := some dx, data := .fields fv } → h'.Ns1 dx (fun y => if y = name then some v else none) →
      R (.ok (.ret .none)) ⟨h', g, d, tk', os⟩) :
    codeAny (model prog w) A (.call (.builtin "object.__setattr__") ⟨[.ref x, .str name tk, v], []⟩) R ⟨hp, g, d, t, os⟩ := by
  have inst : W.InstAt hp x { cls := .ref C, data := .fields fv } C none := ⟨at_x, rfl, rfl, trivial⟩
  have so := F.store_object
  have some_ := tail_some ok _ tail
  have object : cd.mro.contains (.type "object") = true := by rw [excTail_contains "object" _ tail]; exact ok.sb.hasOwner
  have apart : x ≠ hp.objs.size := Nat.ne_of_lt (Heap.lt_size at_x)
  have under : W.Looks (model prog w) hp (isInstance (.ref x) (.type "object")) true := by
    refine inst.type.andThen (W.looks_mroIn inK ?_)
    unfold W.mroIn
    rw [at_C, Option.bind_some, if_neg (by rw [some_]; decide), object]
  have data : W.Looks (model prog w) hp (classData C) cd := W.looks_clsIn inK at_C
  have order : W.Looks (model prog w) hp (mroOf (.ref C)) cd.mro := data.andThen .now
  have nobody : W.Looks (model prog w) hp (storeTaker? none) none := .now
  apply codeAny_call_builtin so.slot.plain so.entry
  apply @W.check_slot (model prog w) _ _ ⟨hp, g, d, t, os⟩ "object.__setattr__" "object" "__setattr__" (.ref x) [.str name tk, v] [] _ so.kind so.split under (so.args (.ref x) (.str name tk) v)
  rw [W.osa_eq, refuse_eq]
  apply wpAny_bind
  apply wpAny_bind
  apply inst.type.at
  apply wpAny_bind
  apply order.at
  rw [excTail_pass _ (ok.sb.passes _) _ tail]
  apply wpAny_pure
  apply wpAny_bind
  apply inst.type.at
  apply wpAny_bind
  apply (W.looks_findIn inK free).at
  apply wpAny_bind
  apply nobody.at
  show wpAny _ _ (storeInOwnDict (.ref x) (.ref C) (.str name tk) name v false) _ _ _
  obtain ⟨nm, bs, mro, ns, qn, hd, sn, sb, ab, col, del⟩ := cd
  dsimp only at own
  subst own
  unfold storeInOwnDict ownDictForStores
  repeat (first
    | with_reducible refine store_in_new ?_ ?_
    | with_reducible refine wpAny_loadPart_at at_x ?_
    | with_reducible refine data.at ?_
    | wp_step)
  · exact ⟨_, #[], _, (Heap.get?_update_ne _ _ _ _ apart.symm).trans (Heap.get?_push_at rfl rfl), rfl, (fun e he => absurd he (by simp)), (fun _ => rfl)⟩
  · intro h' tk' ns1 but
    have still : (hp.push { cls := .type "dict", data := .dict #[] }).get? x = some { cls := .ref C, data := .fields fv } := Heap.get?_push_of_some _ at_x
    refine want h' tk' hp.objs.size ?_ (Nat.le_refl _) apart.symm ?_ ns1
    · intro c o hc ho
      rw [but.2 c (Nat.ne_of_lt (Heap.lt_size ho)), Heap.get?_update_ne _ _ _ _ hc]
      exact Heap.get?_push_of_some _ ho
    · rw [but.2 x apart]
      exact Heap.get?_update_self _ still rfl
end
/-! the text of __init__ -/
def iA (f : Str) (p1 p2 : Pos) : Arguments := { posonlyargs := [], args := [{ arg := "self", annotation := none, pos := p1 }, { arg := f, annotation := none, pos := p2 }], vararg := none, kwonlyargs := [], kw_defaults := [], kwarg := none, defaults := [] }
def iB (f : Str) (q1 q2 q3 q4 : Pos) : List Stmt := [.Assign [.Attribute (.Name "self" q1) f q2] (.Name f q3) q4]
/-- what the written part says of the class x, at C, and of its __init__, at fI -/
structure ErrTxt (b : Base) (x f qual : Str) (K : Frag) (mg : Str → Option Value) (C fI : Addr) : Prop where
  gC : mg x = some (.ref C)
  cls : ∃ nm q N bs bm sn sub ab col dd k0 k1 k2 k3 k5, K.lookup C = some (excClassObj nm q C N bs bm true sn sub ab col dd k0 k1 k2 k3 k5 b.newId) ∧ excTail b.bm bm = true
  sa : findIn K (.ref C) "__setattr__" = some (some (.builtin "object.__setattr__"))
  ga : findIn K (.ref C) "__getattribute__" = some (some (.builtin "BaseException.__getattribute__"))
  gg : findIn K (.ref C) "__getattr__" = some none
  noN : findIn K (.ref C) f = some none
  iC : findIn K (.ref C) "__init__" = some (some (.ref fI))
  tC : typeIn K (.ref fI) = some (.type "function")
  kC : keepIn K (.ref C) = true
  exC : subIn K (.ref C) (.type "BaseException") = some true
  tyC : typeIn K (.ref C) = some (.type "type")
  hdC : hasDictIn K C = true
  te : exmOne K (.ref C) (.ref C) = some true
  fn : ∃ (oc : Value) (od : Option Addr) (doc pm : Value) (an : Option Addr) (cdv ct : Value) (osl : Array (Option Value)) (p1 p2 q1 q2 q3 q4 : Pos) (iS : Scope),
    K.lookup fI = some ⟨oc, od, .func (fnOf "__init__" qual (iA f p1 p2) (iB f q1 q2 q3 q4) iS .none .none doc pm an cdv ct), osl⟩ ∧ codeIn K cdv qual = true ∧
    iS.kind = .function ∧ iS.names.lookup ("self" : Str) = some .local ∧ iS.names.lookup f = some .local ∧ iS.isCoroutine = false ∧ iS.isGenerator = false
theorem one_le_line (v : Value) : [v].length ≤ sizeLine := by
  show 1 ≤ sizeLine
  decide
theorem ldE {M : Model} {s : Shared} {name : Str} {scope : Scope} {L a : Addr} {cd : Value} {m : Str → Option Value} {x : Str} {pos : Pos} {v : Value} {Q : Value → Shared → Prop} {A : Around} {E : Value → Shared → Prop} (hn : s.heap.Ns L m) (hv : m x = some v) (h : Q v s)
    (hk : scope.kind = .function) (hl : scope.names.lookup x = some .local) (hd : (x == ("__debug__" : Str)) = false) :
    wpAny M A (eval (.Name x pos) (envOfC name scope L a cd)) Q E s := wpAny_Name (wpAny_loadName_local hk hl hn hv h) hd
/-- what __init__ leaves of a fresh exception at x -/
structure Left (h h' : Heap) (x C dx t1 : Addr) (f : Str) (v : Value) : Prop where
  keep : ∀ b o, b ≠ x → h.get? b = some o → h'.get? b = some o
  obj : h'.get? x = some { cls := .ref C, dict := some dx, data := .fields #[.ref t1, .none, .none, .none, .bool false, .none] }
  dbig : h.objs.size ≤ dx
  dne : dx ≠ x
  ns : h'.Ns1 dx (fun y => if y = f then some v else none)
/-- a made error -/
structure Made1 (h h' : Heap) (e C d : Addr) (f : Str) (v : Value) : Prop where
  keep : ∀ b o, h.get? b = some o → h'.get? b = some o
  new : h.objs.size ≤ e
  obj : ∃ oe vs, h'.get? e = some oe ∧ oe.cls = .ref C ∧ oe.dict = some d ∧ oe.data = .fields vs ∧ vs[1]? = some .none
  dbig : h.objs.size ≤ d
  dne : d ≠ e
  ns : h'.Ns1 d (fun y => if y = f then some v else none)
section
variable {prog : Program} {w : World} {A : Around} {E : Value → Shared → Prop} {R : Result → Shared → Prop} {s : Shared} {b : Base} {x f qual : Str} {K : Frag} {mg : Str → Option Value} {C fI : Addr}
theorem run_init (ok : b.Ok) (T : ErrTxt b x f qual K mg C fI) (hf1 : ¬ f = ("self" : Str)) (hf2 : (f == ("__debug__" : Str)) = false)
    (bind : ∀ (oc : Value) (od : Option Addr) (doc pm : Value) (an : Option Addr) (cdv ct : Value) (p1 p2 q1 q2 q3 q4 : Pos) (iS : Scope) (u v : Value),
      bindArgs (fnOf "__init__" qual (iA f p1 p2) (iB f q1 q2 q3 q4) iS .none .none doc pm an cdv ct) ⟨[u, v], []⟩ = pure [(("self" : Str), u), (f, v)])
    {e t0 : Addr} {v : Value} (X : K.In s.heap) (hlim : s.heap.NoLimit) (he : s.heap.get? e = some (excO C t0)) (hnx : K.lookup e = none) (hroom : A.depth < recursionLimit)
    (want : ∀ h' tk dx, Left s.heap h' e C dx t0 f v → R (.ok (.ret .none)) { s with heap := h', toks := tk }) :
    codeAny (model prog w) A (.call (.ref fI) ⟨[.ref e, v], []⟩) R s := by
  obtain ⟨oc, od, doc, pm, an, cdv, ct, osl, p1, p2, q1, q2, q3, q4, iS, ho, hcd, sk, s1, s2, s3, s4⟩ := T.fn
  obtain ⟨nm, q, N, bs, bm, sn, sub, ab, col, dd, k0, k1, k2, k3, k5, hC, hbm⟩ := T.cls
  have hcl : clsIn K C = some { name := nm, bases := bs, mro := .ref C :: bm, ns := N, qualname := q, hasDict := true, slotNames := sn, subclasses := sub, abstract := ab, collection := col, hasDel := false } := by
    unfold clsIn
    rw [hC] <;> rfl
  refine Att.call_fn (binds := [(("self" : Str), .ref e), (f, v)]) X hlim ho hcd hroom (BindsTo.of_eq (bind oc od doc pm an cdv ct p1 p2 q1 q2 q3 q4 iS _ _)) ?_ (fun z IC => ?_) s3 s4 sk
  · simp [s1, s2]
  obtain ⟨hh, tk1, rfl⟩ := IC.toInCall.same
  have keep := IC.toInCall.keep
  have ns := IC.toInCall.ns
  have X1 : K.In hh := X.keeps keep
  have at_e := keep _ _ he
  have of_f : bindL (envOfC qual iS s.heap.objs.size fI cdv).kindOf [(("self" : Str), .ref e), (f, v)] (fun _ => none) f = some v := by
    have a1 : (envOfC qual iS s.heap.objs.size fI cdv).kindOf f = some .local := s2
    simp only [bindL, a1, if_true]
  have of_s : bindL (envOfC qual iS s.heap.objs.size fI cdv).kindOf [(("self" : Str), .ref e), (f, v)] (fun _ => none) ("self" : Str) = some (.ref e) := by
    have a1 : (envOfC qual iS s.heap.objs.size fI cdv).kindOf f = some .local := s2
    have a2 : (envOfC qual iS s.heap.objs.size fI cdv).kindOf ("self" : Str) = some .local := s1
    simp only [bindL, a1, a2, if_true]
    rw [if_neg (fun z => hf1 z.symm)]
  show wpAny _ _ (execs _ _) _ _ _
  refine wpAny_execs_cons (plainObj_wpAny_Assign_Attribute ?_)
  apply ldE (v := v) ns of_f _ sk s2 hf2
  apply ldE (v := .ref e) ns of_s _ sk s1 (by decide)
  refine set_plain X1 (ox := excO C t0) (od := none) ⟨at_e, rfl, rfl, trivial⟩ T.sa ?_
  refine stored ok X1 at_e hcl (show excTail b.bm (.ref C :: bm) = true from hbm) rfl T.noN ?_
  intro h3 tk3 dx keep3 dn dne at3 ns3
  show wpAny _ _ (execs _ _) _ _ _
  have z : s.heap.objs.size < hh.objs.size := ns.lt
  refine wpAny_execs_nil (want h3 tk3 dx ?_)
  exact { keep := fun c o hc q => keep3 c o hc (keep c o q), obj := at3, dbig := Nat.le_of_lt (Nat.lt_of_lt_of_le z dn), dne := dne, ns := ns3 }
theorem run_made (ok : b.Ok) (T : ErrTxt b x f qual K mg C fI) (hf1 : ¬ f = ("self" : Str)) (hf2 : (f == ("__debug__" : Str)) = false)
    (bind : ∀ (oc : Value) (od : Option Addr) (doc pm : Value) (an : Option Addr) (cdv ct : Value) (p1 p2 q1 q2 q3 q4 : Pos) (iS : Scope) (u v : Value),
      bindArgs (fnOf "__init__" qual (iA f p1 p2) (iB f q1 q2 q3 q4) iS .none .none doc pm an cdv ct) ⟨[u, v], []⟩ = pure [(("self" : Str), u), (f, v)])
    {v : Value} (X : K.In s.heap) (hlim : s.heap.NoLimit) (hroom : A.depth + 1 < recursionLimit)
    (want : ∀ h' tk e d, Made1 s.heap h' e C d f v → R (.ok (.ret (.ref e))) { s with heap := h', toks := tk }) :
    codeAny (model prog w) A (.call (.ref C) ⟨[v], []⟩) R s := by
  obtain ⟨nm, q, N, bs, bm, sn, sub, ab, col, dd, k0, k1, k2, k3, k5, hC, hbm⟩ := T.cls
  obtain ⟨hp, g, dr, tk, os⟩ := s
  have keep : ∀ c o, hp.get? c = some o → ((hp.push (kdv_tup [v])).push (excO C hp.objs.size)).get? c = some o := by
    intro c o z
    exact Heap.get?_push_of_some _ (Heap.get?_push_of_some _ z)
  have there : ((hp.push (kdv_tup [v])).push (excO C hp.objs.size)).get? (hp.objs.size + 1) = some (excO C hp.objs.size) := by heap_get
  have new : K.lookup (hp.objs.size + 1) = none := by
    cases e : K.lookup (hp.objs.size + 1) with
    | none => rfl
    | some o => exact absurd (Nat.lt_of_succ_lt (Heap.lt_size (X _ _ e))) (Nat.lt_irrefl _)
  apply call_own ok.fb (fun X => excTail_contains X bm hbm) (X _ _ hC) (looks_findIn X T.iC) (fun self => bind_fn X self T.tC) (one_le_line v)
  refine run_init (s := ⟨(hp.push (kdv_tup [v])).push (excO C hp.objs.size), g, dr, tk, os⟩) ok T hf1 hf2 bind (X.keeps keep) (hlim.keeps keep) there new hroom ?_
  rintro h' tk' dx ⟨keep2, at2, dn, dne, ns2⟩
  have z : hp.objs.size + 1 + 1 ≤ dx := by
    have q := dn
    rw [Heap.size_push, Heap.size_push] at q
    exact q
  refine ⟨rfl, want h' tk' (hp.objs.size + 1) dx ?_⟩
  refine { keep := fun c o q => keep2 c o ?_ (keep c o q), new := Nat.le_succ _, obj := ⟨_, _, at2, rfl, rfl, rfl, rfl⟩, dbig := (by show hp.objs.size ≤ dx; omega), dne := dne, ns := ns2 }
  exact Nat.ne_of_lt (Nat.lt_succ_of_lt (Heap.lt_size q))
end
end OwnE
end PySem
namespace L2
open PySem PySem.Spec PyProof.Rows
theorem relO_one {f : Str} {v : V} {v' : Value} (r : RelV v v') (y : Str) : RelO (List.lookup y [(f, v)]) (if y = f then some v' else none) := by
  by_cases h : y = f
  · subst h
    rw [if_pos rfl]
    have q : List.lookup y [(y, v)] = some v := by simp [List.lookup]
    rw [q]
    exact r
  · rw [if_neg h]
    have q1 : (y == f) = false := by simpa using h
    have q : List.lookup y [(f, v)] = none := by simp [List.lookup, q1]
    rw [q]
    trivial
section
variable {X : Cx} {b : OwnE.Base} {x f qual : Str} {C fI : Addr}
/-- what an error class's text gives, at any state -/
structure ErrOk (b : OwnE.Base) (x f qual : Str) (K : PySem.W.Frag) (mg : Str → Option Value) (C fI : Addr) : Prop where
  ok : b.Ok
  T : PySem.OwnE.ErrTxt b x f qual K mg C fI
  hf1 : ¬ f = ("self" : Str)
  hf2 : (f == ("__debug__" : Str)) = false
  bind : ∀ (oc : Value) (od : Option Addr) (doc pm : Value) (an : Option Addr) (cdv ct : Value) (p1 p2 q1 q2 q3 q4 : Pos) (iS : Scope) (u v : Value),
      bindArgs (PySem.W.fnOf "__init__" qual (OwnE.iA f p1 p2) (OwnE.iB f q1 q2 q3 q4) iS .none .none doc pm an cdv ct) ⟨[u, v], []⟩ = pure [(("self" : Str), u), (f, v)]
/-- x(e) -/
def tMkE (C : Addr) (f : Str) (ta : TA) : St → Hp → XK → Prop := fun σ H Q => ta σ H fun vs H1 => ∃ v, vs = [v] ∧ ∀ d, H1 d = none → Q (.ref C) (some d) (upd H1 d (.xd [(f, v)]))
theorem pmk_E {a : Expr} {ta : TA} {p pos : Pos} {k : Nat} (T : ErrOk b x f qual X.K X.mg C fI) (hr : Room k X.A) (ha : PA X [a] ta) (hg : Gl X x := by rfl) (hdb : (x == ("__debug__" : Str)) = false := by decide)
    (he : starEach (a :: []) X.env = (false, eval a X.env) :: starEach [] X.env := by rfl) (hpl : (backTo pos (starEach [] X.env)).any (·.1) = false := by rfl) :
    PMk X (.Call (.Name x p) [a] [] pos) (tMkE C f ta) := by
  intro pins s σ H Q I h
  apply wpAny_Call_Name_kw
  apply ld_glob I hg T.T.gC _ hdb
  apply PySem.W.callWith_K (h₀ := X.base) I.ok.mod.kin T.T.kC _ he hpl
  refine thn (ha.run pos pins s σ H _ I h) ?_
  rintro us s1 ⟨vs, H1, I1, r1, v, ev, q1⟩
  subst ev
  refine ⟨I1.kIn, ?_⟩
  match us, r1 with
  | [v'], .cons rv .nil =>
    show wpAny _ _ (call (.ref C) [v']) _ _ _
    have hlim := I1.nolimit
    obtain ⟨hp, g, dr, tk, os⟩ := s1
    apply wpAny_call
    refine PySem.OwnE.run_made T.ok T.T T.hf1 T.hf2 T.bind I1.kIn hlim (by have := hr.dp; omega) ?_
    intro h' tk' e d M
    show MkP X pins σ Q (.ref e) ⟨h', g, dr, tk', os⟩
    obtain ⟨oe, fv, hoe, hc, hd, hdat, h1⟩ := M.obj
    have hns := M.ns
    obtain ⟨G', g1, g2⟩ := restrict h' fun c => decide (c ≠ e)
    have gk : ∀ c, c ≠ e → G'.get? c = h'.get? c := fun c hc => g1 c (decide_eq_true hc)
    have ge : G'.get? e = none := g2 e (by simp)
    have old : ∀ c o, hp.get? c = some o → G'.get? c = some o := by
      intro c o q
      rw [gk c (Nat.ne_of_lt (Nat.lt_of_lt_of_le (Heap.lt_size q) M.new))]
      exact M.keep c o q
    have ob : ObjOk X.prog X.w (upd H1 d (.xd [(f, v)])) G' d (.xd [(f, v)]) := ⟨_, hns.at (fun o q => (gk d M.dne).trans q), fun y => relO_one rv y⟩
    have J : Inv X pins σ (upd H1 d (.xd [(f, v)])) ⟨G', g, dr, tk', os⟩ := I1.laid (t' := tk') old M.dbig ob
    refine ⟨e, oe, fv, ⟨G', g, dr, tk', os⟩, _, .ref C, some d, rfl, J, ?_, ge, hoe, ⟨hc, hd⟩, hdat, h1, ?_, rfl, I1.bare, raises_own T.T.exC T.T.tyC, q1 d (I1.hok.fresh M.dbig)⟩
    · intro c o q
      by_cases hc : c = e
      · have q' : G'.get? c = some o := q
        rw [hc, ge] at q'
        cases q'
      · exact (gk c hc).symm.trans q
    · rw [upd_ne (Ne.symm M.dne)]
      exact I1.hok.fresh M.new
/-- raise x(e) -/
def tRaiseE (C : Addr) (f : Str) (W : WX) (ta : TA) : TS := fun _ σ H => tMkE C f ta σ H fun cls d H' => W cls d σ H'
theorem ps_raiseE {a : Expr} {ta : TA} {W : WX} {p pos pos2 : Pos} {k : Nat} (hc : X.calm = true) (T : ErrOk b x f qual X.K X.mg C fI) (hr : Room k X.A) (tk : Takes X W) (ha : PA X [a] ta) (hg : Gl X x := by rfl) (hdb : (x == ("__debug__" : Str)) = false := by decide)
    (he : starEach (a :: []) X.env = (false, eval a X.env) :: starEach [] X.env := by rfl) (hpl : (backTo pos (starEach [] X.env)).any (·.1) = false := by rfl) :
    PS X (.Raise (some (.Call (.Name x p) [a] [] pos)) none pos2) (tRaiseE C f W ta) := ps_raise hc tk (pmk_E T hr ha hg hdb he hpl)
/-- e.f, e the error that the suite holds (at a; its class cls, its dict d) -/
def tByE (C : Addr) (f : Str) (a : Addr) (cls : Value) (d : Option Addr) (te : TE) : TE := fun σ H Q => te σ H fun y H1 => y = .ref a ∧ cls = .ref C ∧ ∃ (dd : Addr) (v : V), d = some dd ∧ H1 dd = some (.xd [(f, v)]) ∧ Q v H1
theorem pe_byE {a : Addr} {oe : Obj} {cls : Value} {d : Option Addr} {pn : List (Addr × Obj)} {e : Expr} {te : TE} {pos : Pos} (T : ErrOk b x f qual X.K X.mg C fI) (hz : Zc cls d oe) (hf : ∃ vs, oe.data = .fields vs) (he : PE (X.suite a ((a, oe) :: pn)) e te)
    (hb : attributeBase e f X.env (eval e X.env) = eval e X.env := by rfl) :
    PE (X.suite a ((a, oe) :: pn)) (.Attribute e f pos) (tByE C f a cls d te) := by
  constructor
  intro pins s σ H Q I h
  refine attr_of hb (thn (he.run pins s σ H _ I h) ?_)
  rintro u s1 ⟨y, H1, I1, ry, ey, ec, dd, v, ed, ea, q⟩
  subst ey ec ed
  obtain rfl : u = Value.ref a := ry
  have ha := (I1.pin (a, oe) (List.mem_append_left _ List.mem_cons_self)).1
  obtain ⟨vs, hd⟩ := hf
  obtain ⟨mA, hns, hr⟩ := (I1.hok dd _ ea : ObjOk X.prog X.w H1 s1.heap dd (.xd [(f, v)]))
  obtain ⟨od, ho, hl⟩ := lookIn_ns hns
  have l : List.lookup f [(f, v)] = some v := by simp [List.lookup]
  obtain ⟨u, hu, ru⟩ := RelO.some_of (v := v) (o := mA f) (by rw [← l]; exact hr f)
  have J : PySem.W.InstAt s1.heap a oe C (some od) := by
    refine ⟨ha, hz.1, ?_, ?_⟩
    · unfold PySem.W.notCls
      rw [hd] <;> rfl
    · rw [hz.2]
      exact ho
  exact HandSPX.exc_get I1.kIn J T.T.ga T.T.gg T.T.exC (PySem.W.findObj_own T.T.hdC T.T.noN rfl (by rw [hl, hu])) (handed_of ru) ⟨v, H1, I1.tok _, ru, q⟩
end
end L2
namespace PySem.OwnE
def bVE : Base := ⟨"ValueError", "ValueError.__new__", "ValueError.__init__", [Value.type "ValueError", Value.type "Exception", Value.type "BaseException", Value.type "object"]⟩
def bLE : Base := ⟨"LookupError", "LookupError.__new__", "LookupError.__init__", [Value.type "LookupError", Value.type "Exception", Value.type "BaseException", Value.type "object"]⟩
def bRE : Base := ⟨"RuntimeError", "RuntimeError.__new__", "RuntimeError.__init__", [Value.type "RuntimeError", Value.type "Exception", Value.type "BaseException", Value.type "object"]⟩
def bOE : Base := ⟨"OverflowError", "OverflowError.__new__", "OverflowError.__init__", [Value.type "OverflowError", Value.type "ArithmeticError", Value.type "Exception", Value.type "BaseException", Value.type "object"]⟩
theorem bVE_ok : bVE.Ok := ⟨F.excBase_ValueError, F.store_ValueError, rfl⟩
theorem bLE_ok : bLE.Ok := ⟨F.excBase_LookupError, F.store_LookupError, rfl⟩
theorem bRE_ok : bRE.Ok := ⟨F.excBase_RuntimeError, F.store_RuntimeError, rfl⟩
theorem bOE_ok : bOE.Ok := ⟨F.excBase_OverflowError, F.store_OverflowError, rfl⟩
/-- an error of its own class is what the class's clause names -/
theorem exm_own {K : W.Frag} {S : Addr} (h1 : W.subIn K (.ref S) (.type "BaseException") = some true) (h2 : W.isClsIn K S = true) (h3 : W.typeIn K (.ref S) = some (.type "type")) (h4 : W.subIn K (.ref S) (.ref S) = some true) : W.exmOne K (.ref S) (.ref S) = some true := by
  have e1 : (W.subIn K (.ref S) (.type "BaseException") == some true) = true := by
    rw [h1]
    rfl
  have e2 : ((W.clsIn K S).isSome && W.typeIn K (.ref S) == some (.type "type")) = true := by
    rw [show (W.clsIn K S).isSome = true from h2, h3]
    rfl
  unfold W.exmOne
  rw [if_pos e1]
  show (if ((W.clsIn K S).isSome && W.typeIn K (.ref S) == some (.type "type")) = true then W.subIn K (.ref S) (.ref S) else none) = some true
  rw [if_pos e2]
  exact h4
/-- what a clause of the class S says of an error of the class R -/
theorem exm_to {K : W.Frag} {R S : Addr} {b : Bool} (h1 : W.subIn K (.ref S) (.type "BaseException") = some true) (h2 : W.isClsIn K S = true) (h3 : W.typeIn K (.ref S) = some (.type "type")) (h4 : W.subIn K (.ref R) (.ref S) = some b) : W.exmOne K (.ref R) (.ref S) = some b := by
  have e1 : (W.subIn K (.ref S) (.type "BaseException") == some true) = true := by
    rw [h1]
    rfl
  have e2 : ((W.clsIn K S).isSome && W.typeIn K (.ref S) == some (.type "type")) = true := by
    rw [show (W.clsIn K S).isSome = true from h2, h3]
    rfl
  unfold W.exmOne
  rw [if_pos e1]
  show (if ((W.clsIn K S).isSome && W.typeIn K (.ref S) == some (.type "type")) = true then W.subIn K (.ref R) (.ref S) else none) = some b
  rw [if_pos e2]
  exact h4
end PySem.OwnE

/-! Data of any kind: scalars, tuples, lists, the empty dict; none of it lies at p. -/
namespace Sb
open PySem PySem.Spec PyProof.Rows L2
mutual
inductive LD (p : Addr) (H : Hp) : V → PyData → Prop
  | non : LD p H .non .none
  | bl (b : Bool) : LD p H (.bl b) (.bool b)
  | int (i : Int) : LD p H (.int i) (.int i)
  | str (x : Str) : LD p H (.str x) (.str x)
  | tup {a : Addr} {xs : List V} {ds : List PyData} : a ≠ p → H a = some (.tup xs) → LDs p H xs ds → LD p H (.ref a) (.tuple ds)
  | lst {a : Addr} {xs : List V} {ds : List PyData} : a ≠ p → a ≠ sysModules → H a = some (.lst xs) → LDs p H xs ds → LD p H (.ref a) (.list ds)
  | dic {a : Addr} : a ≠ p → H a = some (.dK []) → LD p H (.ref a) (.dict [])
  | dct {a : Addr} : a ≠ p → H a = some (.dT []) → LD p H (.ref a) (.dict [])
inductive LDs (p : Addr) (H : Hp) : List V → List PyData → Prop
  | nil : LDs p H [] []
  | cons {v : V} {vs : List V} {d : PyData} {ds : List PyData} : LD p H v d → LDs p H vs ds → LDs p H (v :: vs) (d :: ds)
end
/-- all but p stands -/
abbrev But (p : Addr) (H H' : Hp) : Prop := ∀ b o, H b = some o → b ≠ p → H' b = some o
theorem But.same {p : Addr} {H H' : Hp} (h : Same H H') : But p H H' := fun b o e _ => h b o e
mutual
theorem LD.mono {p : Addr} {H H' : Hp} (t : But p H H') : ∀ {v : V} (d : PyData), LD p H v d → LD p H' v d
  | _, .none, h => by cases h; exact .non
  | _, .bool b, h => by cases h; exact .bl b
  | _, .int i, h => by cases h; exact .int i
  | _, .str x, h => by cases h; exact .str x
  | _, .tuple ds, h => by
    cases h with
    | tup n e r => exact .tup n (t _ _ e n) (LDs.mono t ds r)
  | _, .list ds, h => by
    cases h with
    | lst n m e r => exact .lst n m (t _ _ e n) (LDs.mono t ds r)
  | _, .dict _, h => by
    cases h with
    | dic n e => exact .dic n (t _ _ e n)
    | dct n e => exact .dct n (t _ _ e n)
theorem LDs.mono {p : Addr} {H H' : Hp} (t : But p H H') : ∀ {vs : List V} (ds : List PyData), LDs p H vs ds → LDs p H' vs ds
  | _, [], h => by cases h; exact .nil
  | _, d :: ds, h => by
    cases h with
    | cons a r => exact .cons (LD.mono t d a) (LDs.mono t ds r)
end
theorem LDs.length {p : Addr} {H : Hp} : ∀ {vs : List V} {ds : List PyData}, LDs p H vs ds → vs.length = ds.length
  | _, _, .nil => rfl
  | _, _, .cons _ r => congrArg (· + 1) r.length
theorem LDs.get {p : Addr} {H : Hp} : ∀ {vs : List V} {ds : List PyData} {i : Nat} {v : V}, LDs p H vs ds → vs[i]? = some v → ∃ d, ds[i]? = some d ∧ LD p H v d
  | _, _, _, _, .nil, e => by simp at e
  | _, _, 0, _, .cons a _, e => by
    simp at e
    subst e
    exact ⟨_, rfl, a⟩
  | _, _, i + 1, v, .cons _ r, e => by
    obtain ⟨d, h1, h2⟩ := LDs.get (i := i) (v := v) r (by simpa using e)
    exact ⟨d, by simpa using h1, h2⟩
theorem LDs.at {p : Addr} {H : Hp} : ∀ {vs : List V} {ds : List PyData} {i : Nat} {d : PyData}, LDs p H vs ds → ds[i]? = some d → ∃ v, vs[i]? = some v ∧ LD p H v d
  | _, _, _, _, .nil, e => by simp at e
  | _, _, 0, _, .cons a _, e => by
    simp at e
    subst e
    exact ⟨_, rfl, a⟩
  | _, _, i + 1, v, .cons _ r, e => by
    obtain ⟨d, h1, h2⟩ := LDs.at (i := i) (d := v) r (by simpa using e)
    exact ⟨d, by simpa using h1, h2⟩
theorem LDs.app {p : Addr} {H : Hp} : ∀ {vs us : List V} {ds es : List PyData}, LDs p H vs ds → LDs p H us es → LDs p H (vs ++ us) (ds ++ es)
  | _, _, _, _, .nil, s => s
  | _, _, _, _, .cons a r, s => .cons a (r.app s)
theorem LDs.take {p : Addr} {H : Hp} : ∀ {vs : List V} {ds : List PyData} (n : Nat), LDs p H vs ds → LDs p H (vs.take n) (ds.take n)
  | _, _, 0, _ => .nil
  | _, _, _ + 1, .nil => .nil
  | _, _, n + 1, .cons a r => .cons a (r.take n)
theorem LDs.drop {p : Addr} {H : Hp} : ∀ {vs : List V} {ds : List PyData} (n : Nat), LDs p H vs ds → LDs p H (vs.drop n) (ds.drop n)
  | _, _, 0, r => r
  | _, _, _ + 1, .nil => .nil
  | _, _, n + 1, .cons _ r => r.drop n
mutual
theorem TD.ld {p : Addr} {H : Hp} (hp : ∀ xs, H p ≠ some (.tup xs)) : ∀ {v : V} (d : PyData), TD H v d → LD p H v d
  | _, .none, h => by cases h; exact .non
  | _, .bool b, h => by cases h; exact .bl b
  | _, .int i, h => by cases h; exact .int i
  | _, .str x, h => by cases h; exact .str x
  | _, .tuple ds, h => by
    cases h with
    | tup e r => exact .tup (fun z => hp _ (z ▸ e)) e (TDs.ld hp ds r)
  | _, .list _, h => by cases h
  | _, .dict _, h => by cases h
theorem TDs.ld {p : Addr} {H : Hp} (hp : ∀ xs, H p ≠ some (.tup xs)) : ∀ {vs : List V} (ds : List PyData), TDs H vs ds → LDs p H vs ds
  | _, [], h => by cases h; exact .nil
  | _, d :: ds, h => by
    cases h with
    | cons a r => exact .cons (TD.ld hp d a) (TDs.ld hp ds r)
end
/-! it is read off the heap -/
section
variable {X : Cx} {pins : List (Addr × Obj)} {σ : L2.St} {H : Hp} {s : Shared} {p : Addr}
mutual
theorem LD.reads (I : L2.Inv X pins σ H s) : ∀ (d : PyData) (v : V) (u : Value), LD p H v d → RelV v u → ∃ as, Reads s.heap u d as ∧ sysModules ∉ as
  | .none, _, _, h, r => by cases h; cases r; exact ⟨_, Reads.none, List.not_mem_nil⟩
  | .bool b, _, _, h, r => by cases h; cases r; exact ⟨_, Reads.bool b, List.not_mem_nil⟩
  | .int i, _, _, h, r => by cases h; obtain ⟨t, rfl⟩ := r; exact ⟨_, Reads.int i t, List.not_mem_nil⟩
  | .str x, _, _, h, r => by cases h; obtain ⟨t, rfl⟩ := r; exact ⟨_, Reads.str x t, List.not_mem_nil⟩
  | .list ds, _, _, h, r => by
    cases h with
    | lst n m e hs =>
      cases r
      obtain ⟨its, rv, ⟨o, k, ho, hc, _, hd⟩, _⟩ := I.list (SqL.of e)
      obtain ⟨as, hr, hn⟩ := LDs.reads I ds _ its hs rv
      refine ⟨_, Reads.list ho hc hd hr, fun z => ?_⟩
      rcases List.mem_cons.mp z with z | z
      · exact m z.symm
      · exact hn z
  | .tuple ds, _, _, h, r => by
    cases h with
    | tup n e hs =>
      cases r
      obtain ⟨its, rv, ⟨o, ho, hc, k, hd⟩, _⟩ := I.tuple (SqT.of e)
      obtain ⟨as, hr, hn⟩ := LDs.reads I ds _ its hs rv
      exact ⟨_, Reads.tuple ho hc hd hr, hn⟩
  | .dict _, _, _, h, r => by
    cases h with
    | @dic a n e =>
      cases r
      obtain ⟨_, low, vs, rel, o, es, ep, ho, ex, hd, _, pr, _⟩ := dk_of I.hok e
      cases rel
      have hes : es.toList = [] := List.eq_nil_of_length_eq_zero (Pairs.length pr)
      refine ⟨_, Reads.dict (kvs := []) ho ex.1 hd (by rw [hes]; exact .nil) (by rw [hes]; exact .nil), fun z => ?_⟩
      have z' : sysModules = a := by simpa using z
      rw [← z'] at low
      simp at low
    | @dct a n e =>
      cases r
      obtain ⟨_, low, xs, rel, o, es, ep, ho, ex, hd, pr, _⟩ := dt_of I.hok e
      cases rel
      have hes : es.toList = [] := pr
      refine ⟨_, Reads.dict (kvs := []) ho ex.1 hd (by rw [hes]; exact .nil) (by rw [hes]; exact .nil), fun z => ?_⟩
      have z' : sysModules = a := by simpa using z
      rw [← z'] at low
      simp at low
theorem LDs.reads (I : L2.Inv X pins σ H s) : ∀ (ds : List PyData) (vs : List V) (us : List Value), LDs p H vs ds → Vals vs us → ∃ as, ReadsAll s.heap us ds as ∧ sysModules ∉ as
  | [], _, _, h, r => by cases h; cases r; exact ⟨_, ReadsAll.nil, List.not_mem_nil⟩
  | d :: ds, _, _, h, r => by
    cases h with
    | cons h1 h2 =>
      cases r with
      | cons r1 r2 =>
        obtain ⟨as, q1, n1⟩ := LD.reads I d _ _ h1 r1
        obtain ⟨bs, q2, n2⟩ := LDs.reads I ds _ _ h2 r2
        refine ⟨_, ReadsAll.cons q1 q2, fun z => ?_⟩
        rcases List.mem_append.mp z with z | z
        · exact n1 z
        · exact n2 z
end
end
/-- its type -/
def tyN : PyData → String
  | .none => "NoneType"
  | .bool _ => "bool"
  | .int _ => "int"
  | .str _ => "str"
  | .list _ => "list"
  | .tuple _ => "tuple"
  | .dict _ => "dict"
theorem LD.ty {K : PySem.W.Frag} {p : Addr} {H : Hp} {v : V} {d : PyData} (h : LD p H v d) : TyX K H v (.type (tyN d)) := by
  cases h with
  | non => exact .base .non
  | bl b => exact .base (.bl b)
  | int i => exact .base (.int i)
  | str x => exact .base (.str x)
  | tup n e r => exact .base (.tup e)
  | lst n m e r => exact .base (.lst e)
  | dic n e => exact .base (.dK e)
  | dct n e => exact .base (.dT e)
def isIntD : PyData → Bool
  | .int _ => true
  | .bool _ => true
  | _ => false
def isBoolD : PyData → Bool
  | .bool _ => true
  | _ => false
def isTupD : PyData → Bool
  | .tuple _ => true
  | _ => false
theorem kit_int (K : PySem.W.Frag) (d : PyData) : PySem.W.kitOne K (.type (tyN d)) (.type "int") = some (isIntD d) := by
  cases d <;> first | rfl | decide +kernel | kernel_rfl
theorem kit_bool (K : PySem.W.Frag) (d : PyData) : PySem.W.kitOne K (.type (tyN d)) (.type "bool") = some (isBoolD d) := by
  cases d <;> first | rfl | decide +kernel | kernel_rfl
theorem kit_tup (K : PySem.W.Frag) (d : PyData) : PySem.W.kitOne K (.type (tyN d)) (.type "tuple") = some (isTupD d) := by
  cases d <;> first | rfl | decide +kernel | kernel_rfl
section
variable {X : Cx}
/-- isinstance(x, T) -/
def rIsL (T : String) (f : PyData → Bool) : List V → Hp → VK → Prop := fun xs H Q => ∃ p v d, xs = [v, .ty T] ∧ LD p H v d ∧ Q (.bl (f d)) H
theorem call_isL {T : String} {f : PyData → Bool} (hf : ∀ K d, PySem.W.kitOne K (.type (tyN d)) (.type T) = some (f d)) : CallR X (.builtin "isinstance") (rIsL T f) := by
  intro pins s σ H xs us Q I r h
  obtain ⟨p, v, d, rfl, hv, q⟩ := h
  exact call_isi pins s σ H _ us Q I r ⟨v, .ty T, _, _, _, rfl, .ty T, hv.ty, hf _ d, q⟩
/-- repr -/
def rReprL : List V → Hp → VK → Prop := fun xs H Q => ∃ p v d, xs = [v] ∧ LD p H v d ∧ d.showable = true ∧ d.depth ≤ 60 ∧ d.shown.length ≤ sizeLine ∧ Q (.str d.shown) H
theorem call_reprL (gd : X.A.guards = some []) (hu : X.A.units + 64 < cLine) : CallR X (.builtin "repr") rReprL := by
  intro pins s σ H xs us Q I r h
  obtain ⟨p, v, d, rfl, hv, hs, hd, hz, q⟩ := h
  by_cases hn : d.hasDict = false ∧ ∀ a, v ≠ .ref a
  · have dp : Dp X.K H v d := by
      cases hv with
      | non => exact .non
      | bl b => exact .bl b
      | int i => exact .int i
      | str x => exact .str x
      | tup n e r => exact absurd rfl (hn.2 _)
      | lst n m e r => exact absurd rfl (hn.2 _)
      | dic n e => exact absurd rfl (hn.2 _)
      | dct n e => exact absurd rfl (hn.2 _)
    exact call_reprD gd hu pins s σ H _ us Q I r ⟨v, d, rfl, dp, hs, hn.1, hd, hz, q⟩
  · obtain ⟨a, rfl⟩ : ∃ a, v = .ref a := by
      cases hv with
      | non => exact absurd ⟨rfl, fun _ z => by cases z⟩ hn
      | bl b => exact absurd ⟨rfl, fun _ z => by cases z⟩ hn
      | int i => exact absurd ⟨rfl, fun _ z => by cases z⟩ hn
      | str x => exact absurd ⟨rfl, fun _ z => by cases z⟩ hn
      | tup n e r => exact ⟨_, rfl⟩
      | lst n m e r => exact ⟨_, rfl⟩
      | dic n e => exact ⟨_, rfl⟩
      | dct n e => exact ⟨_, rfl⟩
    obtain ⟨u, rfl, ru⟩ := vals1 r
    obtain rfl : u = Value.ref a := ru
    obtain ⟨as, rd, low⟩ := LD.reads I d _ _ hv rfl
    exact repr_of_reads' rd hs (fun _ => low) gd (by omega) (fun _ _ z => z) (fun h' u' tk hk => ⟨.str d.shown, H, I.kept (fun b o z => hk b o z), ⟨_, rfl⟩, q⟩) hz
/-- list(t), where it lies -/
def rLstL : List V → Hp → VK → Prop := fun xs H Q => ∃ a ys, xs = [.ref a] ∧ H a = some (.tup ys) ∧ ∀ l, H l = none → l ≠ sysModules → Q (.ref l) (upd H l (.lst ys))
theorem call_lstL : CallR X (.type "list") rLstL := by
  intro pins s σ H xs us Q I r h
  obtain ⟨a, ys, rfl, ha, q⟩ := h
  obtain ⟨u, rfl, rx⟩ := vals1 r
  obtain rfl : u = Value.ref a := rx
  obtain ⟨its, rv, ⟨o, ho, hc, n, hd⟩, hz⟩ := I.tuple (SqT.of ha)
  have hl := rv.length
  refine call_list_seq a (.inr rfl) ho hc hd (fun h' c' kp e => ?_) (by simp only [List.size_toArray] <;> omega)
  exact ⟨.ref s.heap.objs.size, _, I.laid (t' := s.toks) kp (Nat.le_refl _) (show ObjOk X.prog X.w _ h' _ (.lst ys) from ⟨hz, its, c', rv, e⟩), rfl, q _ (I.hok.fresh (Nat.le_refl _)) (Nat.ne_of_gt I.big)⟩
/-- t != () -/
def rNe0 : R2 := fun x y H Q => ∃ a b xs, x = .ref a ∧ y = .ref b ∧ H a = some (.tup xs) ∧ H b = some (.tup []) ∧ Q (.bl (!xs.isEmpty)) H
theorem op_ne0 (hu : X.A.units + 64 < cLine) : OpR X (compareOp .NotEq) rNe0 := by
  intro pins s σ H x y v u Q I rx ry h
  obtain ⟨a, b, xs, rfl, rfl, ha, hb, q⟩ := h
  cases rx
  cases ry
  obtain ⟨its, r1, t1, _⟩ := I.tuple (SqT.of ha)
  obtain ⟨its2, r2, t2, _⟩ := I.tuple (SqT.of hb)
  cases r2
  have l1 := r1.length
  refine SeqAt.RcNeAt.tuples (e := fun _ => true) t1 t2 (by omega) (fun j _ h2 => absurd h2 (Nat.not_lt_zero _)) X.prog X.w X.xe (EP X pins σ Q) ⟨.bl _, H, I, rfl, ?_⟩
  have e : (!((List.range (min its.toArray.size ([] : List Value).toArray.size)).all (fun _ => true) && its.toArray.size == ([] : List Value).toArray.size)) = !xs.isEmpty := by
    cases xs with
    | nil => cases r1; rfl
    | cons z zs => cases r1; simp
  rw [e]
  exact q
/-- two pairs of texts, != -/
def rNeS : R2 := fun x y H Q => ∃ a b s1 s2 t1 t2, x = .ref a ∧ y = .ref b ∧ H a = some (.tup [.str s1, .str s2]) ∧ H b = some (.tup [.str t1, .str t2]) ∧ Q (.bl (!(s1 == t1 && s2 == t2))) H
theorem op_neS (hu : X.A.units + 64 < cLine) : OpR X (compareOp .NotEq) rNeS := by
  intro pins s σ H x y v u Q I rx ry h
  obtain ⟨a, b, s1, s2, t1, t2, rfl, rfl, ha, hb, q⟩ := h
  cases rx
  cases ry
  obtain ⟨its, r1, T1, _⟩ := I.tuple (SqT.of ha)
  obtain ⟨its2, r2, T2, _⟩ := I.tuple (SqT.of hb)
  obtain ⟨a1, a2, rfl, ra1, ra2⟩ := vals2 r1
  obtain ⟨b1, b2, rfl, rb1, rb2⟩ := vals2 r2
  obtain ⟨k1, rfl⟩ := ra1
  obtain ⟨k2, rfl⟩ := ra2
  obtain ⟨k3, rfl⟩ := rb1
  obtain ⟨k4, rfl⟩ := rb2
  refine SeqAt.RcNeAt.tuples (e := fun j => if j = 0 then s1 == t1 else s2 == t2) T1 T2 (by omega) (fun j h1 h2 => ?_) X.prog X.w X.xe (EP X pins σ Q) ⟨.bl _, H, I, rfl, ?_⟩
  · match j, h1, h2 with
    | 0, _, _ => exact SeqAt.EqAt.str_str _ _ _ _
    | 1, _, _ => exact SeqAt.EqAt.str_str _ _ _ _
  · have e : ((List.range (min 2 2)).all (fun j => if j = 0 then s1 == t1 else s2 == t2) && (2 == 2 : Bool)) = (s1 == t1 && s2 == t2) := by
      simp [List.range, List.range.loop]
    show Q (.bl (!((List.range (min 2 2)).all (fun j => if j = 0 then s1 == t1 else s2 == t2) && (2 == 2 : Bool)))) H
    rw [e]
    exact q
/-- t[lo:hi], t + u -/
def rSlL (p : Addr) : V → Option Int → Option Int → Hp → VK → Prop := fun x lo hi H Q => ∃ ds, LD p H x (.tuple ds) ∧ H p ≠ none ∧ ∀ a H', Same H H' → LD p H' (.ref a) (.tuple (cutA ds lo hi)) → Q (.ref a) H'
theorem LDs.cut {p : Addr} {H : Hp} {xs : List V} {ds : List PyData} (h : LDs p H xs ds) (lo hi : Option Int) : LDs p H (cutV xs lo hi) (cutA ds lo hi) := by
  unfold cutV cutA
  rw [h.length]
  exact (h.drop _).take _
theorem LD.isTup {p : Addr} {H : Hp} {v : V} {ds : List PyData} (h : LD p H v (.tuple ds)) : ∃ a xs, v = .ref a ∧ a ≠ p ∧ H a = some (.tup xs) ∧ LDs p H xs ds := by
  cases h with
  | tup n e r => exact ⟨_, _, rfl, n, e, r⟩
theorem ne_at {p q : Addr} {H : Hp} (hp : H p ≠ none) (hq : H q = none) : q ≠ p := fun e => hp (e ▸ hq)
theorem sl_L {p : Addr} : SlR X (rSlL p) := by
  intro pins s σ H x v vl vu lo hi sl Q I rx hs pl pu h
  refine sl_tupA pins s σ H x v vl vu lo hi sl Q I rx hs pl pu ?_
  obtain ⟨ds, hT, hp, q⟩ := h
  obtain ⟨a, xs, rfl, n, ha, hx⟩ := hT.isTup
  refine ⟨a, xs, rfl, SqT.of ha, ?_, ?_⟩
  · rintro ⟨e1, e2⟩
    refine q a H (Same.refl H) ?_
    have e : cutA ds lo hi = ds := by
      unfold cutA
      rw [← hx.length, e1, e2, List.drop_zero, Nat.sub_zero]
      exact List.take_of_length_le (by rw [hx.length]; exact Nat.le_refl _)
    rw [e]
    exact hT
  · intro _ t nt
    exact q t _ (same_new nt) (.tup (ne_at hp nt) upd_same (LDs.mono (But.same (same_new nt)) _ (hx.cut lo hi)))
def rCatL (p : Addr) : R2 := fun x y H Q => ∃ ds es, LD p H x (.tuple ds) ∧ LD p H y (.tuple es) ∧ H p ≠ none ∧ ds.length + es.length ≤ 100000 ∧ ∀ a H', Same H H' → LD p H' (.ref a) (.tuple (ds ++ es)) → Q (.ref a) H'
theorem op_catL {p : Addr} : OpR X (binaryOp .Add) (rCatL p) := opImp op_catA fun x y H Q h => by
  obtain ⟨ds, es, h1, h2, hp, hl, q⟩ := h
  obtain ⟨a, xs, rfl, n1, ha, hx⟩ := h1.isTup
  obtain ⟨b, ys, rfl, n2, hb, hy⟩ := h2.isTup
  have lx := hx.length
  have ly := hy.length
  refine ⟨a, b, xs, ys, rfl, rfl, SqT.of ha, SqT.of hb, ?_, ?_, ?_, ?_⟩
  · rw [lx, ly]
    exact Nat.le_trans hl (by decide)
  · intro e
    subst e
    cases hx
    exact q b H (Same.refl H) h2
  · intro _ e
    subst e
    cases hy
    exact q a H (Same.refl H) (by rw [List.append_nil]; exact h1)
  · intro _ _ t nt
    exact q t _ (same_new nt) (.tup (ne_at hp nt) upd_same (LDs.mono (But.same (same_new nt)) _ (hx.app hy)))
end
/-! small enough to be shown -/
mutual
def wt : PyData → Nat
  | .list xs => wts xs + 1
  | .tuple xs => wts xs + 1
  | .dict _ => 1
  | _ => 1
def wts : List PyData → Nat
  | [] => 0
  | x :: r => wt x + wts r
end
mutual
def Sm : PyData → Prop
  | .int i => i.natAbs < 10 ^ 99
  | .str x => (reprText x).length ≤ 100
  | .list xs => Sms xs
  | .tuple xs => Sms xs
  | .dict kvs => kvs = []
  | _ => True
def Sms : List PyData → Prop
  | [] => True
  | x :: r => Sm x ∧ Sms r
end
theorem Sms.get : ∀ {ds : List PyData} {i : Nat} {d : PyData}, Sms ds → ds[i]? = some d → Sm d
  | _ :: _, 0, _, h, e => by simp at e; exact e ▸ h.1
  | _ :: r, i + 1, _, h, e => Sms.get (ds := r) (i := i) h.2 (by simpa using e)
theorem Sms.app : ∀ {ds es : List PyData}, Sms ds → Sms es → Sms (ds ++ es)
  | [], _, _, h => h
  | _ :: _, _, h, g => ⟨h.1, Sms.app h.2 g⟩
theorem Sms.take : ∀ {ds : List PyData} (n : Nat), Sms ds → Sms (ds.take n)
  | _, 0, _ => trivial
  | [], _ + 1, _ => trivial
  | _ :: _, n + 1, h => ⟨h.1, Sms.take n h.2⟩
theorem Sms.drop : ∀ {ds : List PyData} (n : Nat), Sms ds → Sms (ds.drop n)
  | _, 0, h => h
  | [], _ + 1, _ => trivial
  | _ :: _, n + 1, h => Sms.drop n h.2
theorem wts_app : ∀ (ds es : List PyData), wts (ds ++ es) = wts ds + wts es
  | [], es => by simp [wts]
  | d :: r, es => by
    simp only [List.cons_append, wts, wts_app r es]
    omega
theorem wts_take_drop (ds : List PyData) (n : Nat) : wts (ds.take n) + wts (ds.drop n) = wts ds := by
  rw [← wts_app, List.take_append_drop]
theorem wts_get : ∀ {ds : List PyData} {i : Nat} {d : PyData}, ds[i]? = some d → wt d ≤ wts ds
  | _ :: _, 0, _, e => by
    simp at e
    subst e
    simp only [wts]
    omega
  | _ :: r, i + 1, _, e => by
    have := wts_get (ds := r) (i := i) (by simpa using e)
    simp only [wts]
    omega
theorem depthAll_app : ∀ (ds es : List PyData), PyData.depthAll (ds ++ es) = max (PyData.depthAll ds) (PyData.depthAll es)
  | [], es => by simp [PyData.depthAll]
  | d :: r, es => by
    simp only [List.cons_append, PyData.depthAll, depthAll_app r es]
    omega
theorem depth_get : ∀ {ds : List PyData} {i : Nat} {d : PyData}, ds[i]? = some d → d.depth ≤ PyData.depthAll ds
  | _ :: _, 0, _, e => by
    simp at e
    subst e
    simp only [PyData.depthAll]
    omega
  | _ :: r, i + 1, _, e => by
    have := depth_get (ds := r) (i := i) (by simpa using e)
    simp only [PyData.depthAll]
    omega
theorem depth_cut (ds : List PyData) (n : Nat) : PyData.depthAll (ds.take n) ≤ PyData.depthAll ds ∧ PyData.depthAll (ds.drop n) ≤ PyData.depthAll ds := by
  have h := depthAll_app (ds.take n) (ds.drop n)
  rw [List.take_append_drop] at h
  omega
mutual
theorem sm_shown : ∀ d : PyData, Sm d → d.showable = true ∧ d.shown.length + 2 ≤ 110 * wt d
  | .none, _ => ⟨rfl, by decide⟩
  | .bool b, _ => ⟨rfl, by cases b <;> decide⟩
  | .int i, h => by
    have n := Nice.int h
    refine ⟨n.sho, ?_⟩
    have := n.len
    show _ ≤ 110 * 1
    omega
  | .str x, h => by
    refine ⟨rfl, ?_⟩
    have h' : (reprText x).length ≤ 100 := h
    show (reprText x).length + 2 ≤ 110 * 1
    omega
  | .list xs, h => by
    obtain ⟨a, b, c⟩ := sms_shown xs h
    refine ⟨a, ?_⟩
    have l := listText_len_le (PyData.shownAll xs)
    simp only [PyData.shown, wt]
    omega
  | .tuple xs, h => by
    obtain ⟨a, b, c⟩ := sms_shown xs h
    refine ⟨a, ?_⟩
    have l := tupleText_len_le (PyData.shownAll xs)
    simp only [PyData.shown, wt]
    omega
  | .dict kvs, h => by
    have h' : kvs = [] := h
    subst h'
    exact ⟨rfl, by decide⟩
theorem sms_shown : ∀ ds : List PyData, Sms ds → PyData.showableAll ds = true ∧ ((PyData.shownAll ds).map (·.length)).sum + 2 * (PyData.shownAll ds).length ≤ 110 * wts ds ∧ (PyData.shownAll ds).length = ds.length
  | [], _ => ⟨rfl, by decide, rfl⟩
  | d :: ds, h => by
    obtain ⟨a, b⟩ := sm_shown d h.1
    obtain ⟨c, e, f⟩ := sms_shown ds h.2
    refine ⟨by simp only [PyData.showableAll, a, c, Bool.and_self], ?_, by simp only [PyData.shownAll, List.length_cons, f]⟩
    simp only [PyData.shownAll, List.map_cons, List.sum_cons, List.length_cons, wts]
    omega
end
end Sb

namespace Sb
open PySem PySem.Spec PyProof.Rows L2
theorem ne_fr {H : Hp} {a b : Addr} {o : HO} (n : H b = none) (h : H a = some o) : a ≠ b := ne_of_none h n
theorem ne_fr' {H : Hp} {a b : Addr} {o : HO} (n : H b = none) (h : H a = some o) : b ≠ a := (ne_of_none h n).symm
theorem upd_off {H : Hp} {a b : Addr} {o u : HO} (n : b ≠ a) (h : H b = some u) : upd H a o b = some u := by rw [upd_ne n]; exact h
theorem upd_offN {H : Hp} {a b : Addr} {o : HO} (n : b ≠ a) (h : H b = none) : upd H a o b = none := by rw [upd_ne n]; exact h
theorem upd_none {H : Hp} {a b : Addr} {o : HO} (h : upd H a o b = none) : b ≠ a ∧ H b = none := by
  by_cases e : b = a
  · subst e
    rw [upd_same] at h
    cases h
  · rw [upd_ne e] at h
    exact ⟨e, h⟩
local macro_rules | `(tactic| walk_at "ne") => `(tactic| first
  | assumption
  | exact Ne.symm (by assumption)
  | exact ne_fr (by assumption) (by walk_at "hp")
  | exact ne_fr' (by assumption) (by walk_at "hp"))
local macro_rules | `(tactic| walk_at "hp") => `(tactic| first
  | assumption
  | exact upd_same
  | exact upd_off (by walk_at "ne") (by walk_at "hp"))

def top (i : Nat) : Stmt := PySem.Challenge.pw_seenbefore_k01_streams_required.main.body.getD i (.Pass ⟨0, 0, 0, 0⟩)
abbrev s_is_integer : Stmt := top 3
abbrev s_is_between : Stmt := top 4
abbrev s_require_stream : Stmt := top 6
abbrev s_is_stream : Stmt := top 7
abbrev s_is_message : Stmt := top 8
abbrev s_is_message_value : Stmt := top 9
abbrev s_law_pen : Stmt := top 11
abbrev s_law_fresh : Stmt := top 12
abbrev s_law_draw : Stmt := top 13
abbrev s_law_stream : Stmt := top 14
abbrev s_law_is : Stmt := top 15
abbrev s_law_changed : Stmt := top 16
abbrev s_law_raised : Stmt := top 17
abbrev s_law : Stmt := top 18
abbrev s_NotAStream_init : Stmt := inClass (top 1) 0
/-! ### the pen: cells of the script, drawn one by one -/
def cutAll (ns : List Int) (h : ns.length ≤ 63) : cutV (ns.map V.int) none (some 63) = ns.map V.int := by
  unfold cutV
  rw [show HT.sIx (ns.map V.int).length 0 none = 0 from HT.sIx_none _ _, show HT.sIx (ns.map V.int).length (ns.map V.int).length (some 63) = min 63 (ns.map V.int).length from HT.sIx_nat _ _ 63]
  rw [List.drop_zero, Nat.sub_zero, List.length_map, Nat.min_eq_right h]
  exact List.take_of_length_le (by rw [List.length_map]; exact Nat.le_refl _)
/-- but at p, what was tracked is as it was -/
def Keep (p : Addr) (H H' : Hp) : Prop := ∀ b o, H b = some o → b ≠ p → H' b = some o
theorem Keep.refl {p : Addr} {H : Hp} : Keep p H H := fun _ _ h _ => h
theorem Keep.trans {p : Addr} {H H1 H2 : Hp} (a : Keep p H H1) (b : Keep p H1 H2) : Keep p H H2 := fun c o h n => b c o (a c o h n) n
theorem Keep.new {p q : Addr} {H : Hp} {o : HO} (h : H q = none) : Keep p H (upd H q o) := fun b u e _ => by rw [upd_ne (ne_of_none e h)]; exact e
theorem Keep.at {p : Addr} {H H1 : Hp} {o : HO} (a : Keep p H H1) : Keep p H (upd H1 p o) := fun b u e n => by rw [upd_ne n]; exact a b u e n
theorem Keep.same {p : Addr} {H H1 : Hp} (h : Same H H1) : Keep p H H1 := fun b o e _ => h b o e
/-- the pen stands at p, its cells at c -/
def PenIs (H : Hp) (p c : Addr) (ns : List Int) (at_ st : Int) : Prop := H p = some (.lst [.ref c, .int at_, .int st]) ∧ H c = some (.lst (ns.map V.int))
def Pen (H : Hp) (p c : Addr) : Prop := ∃ ns at_ st, PenIs H p c ns at_ st ∧ 0 ≤ at_ ∧ 0 ≤ st ∧ ns.length ≤ 63
theorem PenIs.ne {H : Hp} {p c : Addr} {ns : List Int} {a z : Int} (h : PenIs H p c ns a z) : p ≠ c := by
  refine ne_of h.1 h.2 ?_
  intro e
  cases ns with
  | nil => cases e
  | cons x r => cases e
theorem Pen.ne {H : Hp} {p c : Addr} (h : Pen H p c) : p ≠ c := by
  obtain ⟨_, _, _, h, _⟩ := h
  exact h.ne
theorem Pen.mono {H H' : Hp} {p c : Addr} (h : Pen H p c) (e : Same H H') : Pen H' p c := by
  obtain ⟨ns, a, z, h, r⟩ := h
  exact ⟨ns, a, z, ⟨e _ _ h.1, e _ _ h.2⟩, r⟩
theorem Pen.free {H : Hp} {p c q : Addr} (h : Pen H p c) (e : H q = none) : p ≠ q ∧ c ≠ q := by
  obtain ⟨ns, a, z, h, r⟩ := h
  exact ⟨ne_of_none h.1 e, ne_of_none h.2 e⟩
theorem Pen.tups {H H' : Hp} {p c : Addr} (h : Pen H p c) (k : Keep p H H') : Tups H H' := fun a xs e => by
  obtain ⟨ns, x, z, ⟨h1, _⟩, _⟩ := h
  exact k a _ e (ne_of e h1 (fun z => by cases z))
theorem Pen.at {H : Hp} {p c : Addr} (h : Pen H p c) : ∃ l, H p = some (.lst l) := by
  obtain ⟨ns, x, z, ⟨h1, _⟩, _⟩ := h
  exact ⟨_, h1⟩
theorem Pen.put {H : Hp} {p c a : Addr} {o : HO} (h : Pen H p c) (n1 : a ≠ p) (n2 : a ≠ c) : Pen (upd H a o) p c := by
  obtain ⟨ns, x, z, ⟨h1, h2⟩, r⟩ := h
  exact ⟨ns, x, z, ⟨by rw [upd_ne n1.symm]; exact h1, by rw [upd_ne n2.symm]; exact h2⟩, r⟩
def sp_law_pen (K : PySem.W.Frag) : Sp := fun vs H Q _ => ∃ (a : Addr) (ns : List Int), vs = [.ref a] ∧ SqL K H a (ns.map V.int) ∧ ns.length ≤ 63 ∧
  ∀ p c H', Same H H' → H p = none → H c = none → Pen H' p c → Q (.ref p) H'
def sp_law_fresh : Sp := fun vs H Q _ => ∃ (p c : Addr) (ns : List Int) (a z : Int), vs = [.ref p] ∧ PenIs H p c ns a z ∧ 0 ≤ a ∧ ns.length ≤ 63 ∧
  ∀ r H', 0 ≤ r → Keep p H H' → PenIs H' p c ns (a + 1) z → Q (.int r) H'
def sp_law_draw : Sp := fun vs H Q _ => ∃ (p c : Addr) (many : Int), vs = [.ref p, .int many] ∧ Pen H p c ∧ 0 < many ∧ many < 2 ^ 100 ∧
  ∀ d H', 0 ≤ d → d < many → Keep p H H' → Pen H' p c → Q (.int d) H'
section
variable {P : Program} {w : World} {K : PySem.W.Frag} {mg : Str → Option Value} {base : Heap}
abbrev N_law_pen : List Str := ["script"]
theorem sc_law_pen : FnScope N_law_pen ["script"] (defScope s_law_pen) := ⟨rfl, rfl, rfl, by decide +kernel, rfl, by decide +kernel, by decide +kernel⟩
theorem ok_law_pen {f : Addr} {fd : FuncData} {k : Nat} (F : Fun K "_law_pen" "_law_pen" s_law_pen f fd) (m_list : mg "list" = none) : FnG P w K mg base CX0 (k + 1) f fd ["script"] (sp_law_pen K) := by
  refine okG F sc_law_pen (fun vs H Q E h => ?_) (fun cdv A outer s H vs Q E gd hr h => ?_)
  · obtain ⟨a, ns, rfl, _⟩ := h
    rfl
  · obtain ⟨a, ns, rfl, hS, hl, q⟩ := h
    refine ⟨_,
      (pss_one (ps_ret (pe_lst (pa_cons (pe_callTy call_list_of (by rfl) m_list (by decide +kernel) (pa_cons (pe_slice sl_list (pv 0) po_none (po_some pe_int)) pa_nil)) (pa_cons pe_int (pa_cons pe_int pa_nil))))))
       , ?_⟩
    refine ⟨.ref a, rfl, 63, rfl, a, ns.map V.int, rfl, hS, fun b nb => ?_⟩
    rw [cutAll ns hl]
    refine ⟨b, ns.map V.int, rfl, .inl (.inl (.inl upd_same)), fun c nc => ?_⟩
    refine ⟨(by show 3 ≤ sizeLine; decide), fun p np => ?_⟩
    have s1 : Same H (upd H b (.lst (ns.map V.int))) := fun x o e => by walk_at "hp"
    have nc0 : H c = none := s1.free nc
    have s2 : Same H (upd (upd H b (.lst (ns.map V.int))) c (.lst (ns.map V.int))) := fun x o e => (by walk_at "hp")
    have np0 : H p = none := s2.free np
    have npc : c ≠ p := ne_of_none upd_same np
    refine q p c _ (fun x o e => ?_) np0 nc0 ⟨ns, 0, 0, ⟨upd_same, ?_⟩, by decide, by decide, hl⟩
    · have := s2 x o e
      walk_at "hp"
    · walk_at "hp"
abbrev N_law_fresh : List Str := ["pen", "at", "cell", "p", "state", "found", "turn"]
theorem sc_law_fresh : FnScope N_law_fresh ["pen"] (defScope s_law_fresh) := ⟨rfl, rfl, rfl, by decide +kernel, rfl, by decide +kernel, by decide +kernel⟩
theorem ok_law_fresh {f : Addr} {fd : FuncData} {k : Nat} (F : Fun K "_law_fresh" "_law_fresh" s_law_fresh f fd) (m_len : mg "len" = none) (m_range : mg "range" = none) : FnG P w K mg base CX0 (k + 1) f fd ["pen"] sp_law_fresh := by
  refine okG F sc_law_fresh (fun vs H Q E h => ?_) (fun cdv A outer s H vs Q E gd hr h => ?_)
  · obtain ⟨p, c, ns, a, z, rfl, _⟩ := h
    rfl
  · obtain ⟨p, c, ns, a, z, rfl, hP, ha, hl, q⟩ := h
    obtain ⟨hp, hc⟩ := id hP
    have npc := hP.ne
    refine ⟨_,
      (pss_cons (ps_set (i := 1) sc_law_fresh.nd rfl (.inl rfl) (pe_ix ix_list (pv 0) pe_int (fun _ _ => rfl))) -- at = pen[1]
      (pss_cons (ps_asg (pe_op op_add (pv 1) pe_int) (pg_sub (pv 0) pe_int set_list)) -- pen[1] = at + 1
      (pss_cons (ps_set (i := 2) sc_law_fresh.nd rfl (.inl rfl) pe_int) -- cell = 0
      (C8.pss_cut (ps_if (pt_cmpR (op_neD hr.units) (pe_ix ix_list (pv 0) pe_int (fun _ _ => rfl)) (pe_lst pa_nil) (nomark _)) 
        (pss_one (ps_set (i := 2) sc_law_fresh.nd rfl (.inl rfl) (pe_ix ix_list (pe_ix ix_list (pv 0) pe_int (fun _ _ => rfl)) (pe_op op_mod (pv 1) (pe_callB call_len_seq (by rfl) m_len PySem.boot_len (pa_cons (pe_ix ix_list (pv 0) pe_int (fun _ _ => rfl)) pa_nil))) (fun _ _ => rfl)))) -- cell = pen[0][at % len(pen[0])]
         pss_nil) -- if pen[0] != []:
      (C8.pss_cut (ps_if (PW.pt (pw_and (pt_cmpR op_lt (pv 1) (pe_callB call_len_seq (by rfl) m_len PySem.boot_len (pa_cons (pe_ix ix_list (pv 0) pe_int (fun _ _ => rfl)) pa_nil)) (nomark _)) (pw_and1 (pt_cmpR op_ge (pv 2) (pe_op op_pow pe_int pe_int) (nomark _))))) 
        (pss_one (ps_ret (pe_op op_sub (pv 2) (pe_op op_pow pe_int pe_int)))) -- return cell - 10 ** 18
         pss_nil) -- if at < len(pen[0]) and cell >= 10 ** 18:
      (pss_cons (ps_set (i := 3) sc_law_fresh.nd rfl (.inl rfl) pe_int) -- p = 2305843009213693951
      (pss_cons (ps_set (i := 4) sc_law_fresh.nd rfl (.inl rfl) (pe_op op_mod (pe_op op_add (pe_op op_add (pe_op op_mul (pv 2) pe_int) (pe_op op_mul pe_int (pv 1))) pe_int) (pv 3))) -- state = (cell * 48271 + 40692 * at + 31) % p
      (pss_cons (ps_set (i := 5) sc_law_fresh.nd rfl (.inl rfl) (pv 4)) -- found = state
      (pss_cons (ps_for PassesOwn.never rfl (pi_range1 rfl m_range (pa_cons pe_int pa_nil)) (pg_name (i := 6) sc_law_fresh.nd rfl (.inl rfl)) 
        (pss_cons (ps_set (i := 4) sc_law_fresh.nd rfl (.inl rfl) (pe_op op_mod (pe_op op_add (pe_op op_add (pe_op op_mul (pv 4) (pv 4)) (pe_op op_mul (pe_op op_mul pe_int (pe_op op_add (pv 6) pe_int)) (pe_op op_add (pv 1) pe_int))) (pv 2)) (pv 3))) -- state = (state * state + 69621 * (turn + 1) * (at + 1) + cell) % p
        (pss_one (ps_set (i := 5) sc_law_fresh.nd rfl (.inl rfl) (pe_op op_add (pe_op op_mul (pv 5) (pv 3)) (pv 4)))) -- found = found * p + state
        )) -- for turn in range(6):
      (pss_one (ps_ret (pv 5))) -- return found
      ))))))))) , ?_⟩
    -- at = pen[1]; pen[1] = at + 1; cell = 0
    refine ⟨.ref p, rfl, p, _, 1, .int a, rfl, rfl, .inl (.inl hp), rfl, ?_⟩
    refine ⟨.int a, rfl, a, 1, rfl, rfl, .ref p, rfl, p, _, 1, 1, rfl, rfl, hp, rfl, ?_⟩
    generalize hH1 : upd H p (.lst ([V.ref c, V.int a, V.int z].set 1 (V.int (a + 1)))) = H1
    have hp1 : H1 p = some (.lst [.ref c, .int (a + 1), .int z]) := by rw [← hH1]; exact upd_same
    have hc1 : H1 c = some (.lst (ns.map V.int)) := by rw [← hH1, upd_ne npc.symm]; exact hc
    have kp1 : Keep p H H1 := by rw [← hH1]; exact Keep.refl.at
    clear hH1
    -- if pen[0] != []: cell = ..
    refine ⟨fun σ H' => ∃ cell : Int, σ = [some (.ref p), some (.int a), some (.int cell), none, none, none, none] ∧ Keep p H H' ∧ H' p = some (.lst [.ref c, .int (a + 1), .int z]) ∧ H' c = some (.lst (ns.map V.int)), ?_, ?_⟩
    · refine ⟨.ref p, rfl, p, _, 0, .ref c, rfl, rfl, .inl (.inl hp1), rfl, by show 0 ≤ sizeLine; decide, fun e ne => ?_⟩
      have hc2 : (upd H1 e (.lst [])) c = some (.lst (ns.map V.int)) := by walk_at "hp"
      have hp2 : (upd H1 e (.lst [])) p = some (.lst [.ref c, .int (a + 1), .int z]) := by walk_at "hp"
      have kp2 : Keep p H (upd H1 e (.lst [])) := kp1.trans (Keep.new ne)
      have he2 : (upd H1 e (.lst [])) e = some (.lst []) := upd_same
      generalize upd H1 e (.lst []) = H2 at hc2 hp2 kp2 he2 ⊢
      refine ⟨.list (ns.map PyData.int), .list [], .lst (.inl (.inl hc2)) (dp_ints _ _ ns), .lst (.inl (.inl he2)) .nil, shaped_ints ns, rfl, _, rfl, ite2 (fun hb => ?_) (fun hb => ?_)⟩
      · have hn : 0 < ns.length := by
          cases ns with
          | nil => cases hb
          | cons x r => exact Nat.succ_pos _
        obtain ⟨j, hj, ej⟩ : ∃ j : Nat, j < ns.length ∧ a % (ns.length : Int) = j := by
          refine ⟨(a % (ns.length : Int)).toNat, ?_, ?_⟩
          · have := Int.emod_lt_of_pos a (show (0 : Int) < ns.length by omega)
            have := Int.emod_nonneg a (show (ns.length : Int) ≠ 0 by omega)
            omega
          · have := Int.emod_nonneg a (show (ns.length : Int) ≠ 0 by omega)
            omega
        refine ⟨.ref p, rfl, p, _, 0, .ref c, rfl, rfl, .inl (.inl hp2), rfl, .int a, rfl, .ref p, rfl, p, _, 0, .ref c, rfl, rfl, .inl (.inl hp2), rfl, c, _, rfl, .inl (.inl (.inl hc2)), a, _, rfl, rfl, (by rw [List.length_map]; show (0 : Int) < ns.length; omega), c, _, _, .int ns[j], rfl, rfl, .inl (.inl hc2), ?_, ?_⟩
        · rw [List.length_map, ej]
          exact atI_nat (by rw [List.getElem?_map, List.getElem?_eq_getElem hj]; rfl)
        · exact ⟨ns[j], rfl, kp2, hp2, hc2⟩
      · exact ⟨0, rfl, kp2, hp2, hc2⟩
    · rintro σ H2 ⟨cell, rfl, kp2, hp2, hc2⟩
      have done : ∀ r : Int, 0 ≤ r → Q (.int r) H2 := fun r h0 => q r H2 h0 kp2 ⟨hp2, hc2⟩
      -- if at < len(pen[0]) and cell >= 10 ** 18: return cell - 10 ** 18
      refine ⟨fun σ H' => σ = [some (.ref p), some (.int a), some (.int cell), none, none, none, none] ∧ H' = H2, ?_, ?_⟩
      · refine ⟨.int a, rfl, .ref p, rfl, p, _, 0, .ref c, rfl, rfl, .inl (.inl hp2), rfl, c, _, rfl, .inl (.inl (.inl hc2)), a, _, rfl, rfl, _, rfl, ite2 (fun h1 => ?_) (fun h1 => ?_)⟩
        · refine ⟨.int cell, rfl, 10, 18, rfl, rfl, ⟨by decide, by decide, by decide⟩, cell, _, rfl, rfl, _, rfl, ite2 (fun h2 => ?_) (fun h2 => ?_)⟩
          · refine ⟨.int cell, rfl, 10, 18, rfl, rfl, ⟨by decide, by decide, by decide⟩, cell, _, rfl, rfl, done _ ?_⟩
            have := of_decide_eq_true h2
            omega
          · exact ⟨rfl, rfl⟩
        · exact ⟨rfl, rfl⟩
      · rintro σ H3 ⟨rfl, rfl⟩
        -- p = ..; state = (cell * 48271 + 40692 * at + 31) % p; found = state
        refine ⟨.int cell, rfl, cell, 48271, rfl, rfl, .inr ⟨by decide, by decide⟩, .int a, rfl, 40692, a, rfl, rfl, .inl ⟨by decide, by decide⟩, _, _, rfl, rfl, _, _, rfl, rfl, .int 2305843009213693951, rfl, _, _, rfl, rfl, (by show (0 : Int) < 2305843009213693951; decide), ?_⟩
        dsimp only
        generalize hst : (cell * 48271 + 40692 * a + 31) % 2305843009213693951 = st
        have h0 : 0 ≤ st := by rw [← hst]; exact Int.emod_nonneg _ (by decide)
        have h1 : st < 2305843009213693951 := by rw [← hst]; exact Int.emod_lt_of_pos _ (by decide)
        clear hst
        refine ⟨.int st, rfl, 6, rfl, by decide, by decide, ?_⟩
        refine for_range (n := 6) (fun _ σ H' => ∃ st fd tn, σ = [some (.ref p), some (.int a), some (.int cell), some (.int 2305843009213693951), some (.int st), some (.int fd), tn] ∧ H' = H3 ∧ 0 ≤ st ∧ st < 2305843009213693951 ∧ 0 ≤ fd) ?_ ?_ ?_
        · exact ⟨st, st, none, rfl, rfl, h0, h1, h0⟩
        · rintro i σ H4 hi ⟨st, fd, tn, rfl, rfl, h0, h1, h2⟩
          have hi' : (i : Int) < 6 := by omega
          refine ⟨.int st, rfl, .int st, rfl, st, st, rfl, rfl, .inl ⟨by omega, by omega⟩, .int (0 + (i : Int)), rfl, 0 + (i : Int), 1, rfl, rfl, 69621, _, rfl, rfl, .inl ⟨by decide, by decide⟩, .int a, rfl, a, 1, rfl, rfl, 69621 * (0 + (i : Int) + 1), a + 1, rfl, rfl, .inl ⟨by omega, by omega⟩, _, _, rfl, rfl, .int cell, rfl, _, _, rfl, rfl, .int 2305843009213693951, rfl, _, _, rfl, rfl, (by show (0 : Int) < 2305843009213693951; decide), ?_⟩
          dsimp only
          generalize hst : (st * st + 69621 * (0 + (i : Int) + 1) * (a + 1) + cell) % 2305843009213693951 = st'
          have h0' : 0 ≤ st' := by rw [← hst]; exact Int.emod_nonneg _ (by decide)
          have h1' : st' < 2305843009213693951 := by rw [← hst]; exact Int.emod_lt_of_pos _ (by decide)
          refine ⟨.int fd, rfl, .int 2305843009213693951, rfl, fd, 2305843009213693951, rfl, rfl, .inr ⟨by decide, by decide⟩, .int st', rfl, _, _, rfl, rfl, ?_⟩
          exact ⟨st', fd * 2305843009213693951 + st', _, rfl, rfl, h0', h1', by omega⟩
        · rintro σ H4 ⟨st, fd, tn, rfl, rfl, h0, h1, h2⟩
          exact ⟨.int fd, rfl, done fd h2⟩
abbrev N_law_draw : List Str := ["pen", "many", "digit"]
theorem sc_law_draw : FnScope N_law_draw ["pen", "many"] (defScope s_law_draw) := ⟨rfl, rfl, rfl, by decide +kernel, rfl, by decide +kernel, by decide +kernel⟩
theorem ok_law_draw {f f_law_fresh : Addr} {fd fd_law_fresh : FuncData} (F : Fun K "_law_draw" "_law_draw" s_law_draw f fd) (F_law_fresh : Fun K "_law_fresh" "_law_fresh" s_law_fresh f_law_fresh fd_law_fresh) (b_law_fresh : Binds K fd_law_fresh ["pen"] []) (g_law_fresh : mg "_law_fresh" = some (.ref f_law_fresh))
    (m_len : mg "len" = none) (m_range : mg "range" = none) : FnG P w K mg base CX0 2 f fd ["pen", "many"] sp_law_draw := by
  have G_law_fresh : FnG P w K mg base CX0 1 f_law_fresh fd_law_fresh ["pen"] sp_law_fresh := ok_law_fresh F_law_fresh m_len m_range
  refine okG F sc_law_draw (fun vs H Q E h => ?_) (fun cdv A outer s H vs Q E gd hr h => ?_)
  · obtain ⟨p, c, m, rfl, _⟩ := h
    rfl
  · obtain ⟨p, c, m, rfl, hP, m0, m1, q⟩ := h
    obtain ⟨ns, a, z, hI, ha, hz, hl⟩ := id hP
    refine ⟨_,
      (C8.pss_cut (ps_if (pt_cmpR op_lt (pe_ix ix_list (pv 0) pe_int (fun _ _ => rfl)) (pv 1) (nomark _)) 
        (pss_one (ps_asg (pe_callG G_law_fresh gd (hr.mono (by decide)) rfl g_law_fresh F_law_fresh.kp b_law_fresh .nil pass0 (pa_cons (pv 0) pa_nil)) (pg_sub (pv 0) pe_int set_list))) -- pen[2] = _law_fresh(pen)
         pss_nil) -- if pen[2] < many:
      (pss_cons (ps_set (i := 2) sc_law_draw.nd rfl (.inl rfl) (pe_op op_mod (pe_ix ix_list (pv 0) pe_int (fun _ _ => rfl)) (pv 1))) -- digit = pen[2] % many
      (pss_cons (ps_asg (pe_op op_fdivW (pe_ix ix_list (pv 0) pe_int (fun _ _ => rfl)) (pv 1)) (pg_sub (pv 0) pe_int set_list)) -- pen[2] = pen[2] // many
      (pss_one (ps_ret (pv 2))) -- return digit
      ))) , ?_⟩
    refine ⟨fun σ H' => σ = [some (.ref p), some (.int m), none] ∧ Keep p H H' ∧ ∃ a z : Int, PenIs H' p c ns a z ∧ 0 ≤ a ∧ 0 ≤ z, ?_, ?_⟩
    · refine ⟨.ref p, rfl, p, _, 2, .int z, rfl, rfl, .inl (.inl hI.1), rfl, .int m, rfl, z, m, rfl, rfl, _, rfl, ite2 (fun h1 => ?_) (fun h1 => ?_)⟩
      · refine ⟨.ref p, rfl, p, c, ns, a, z, rfl, hI, ha, hl, fun r H1 hr0 kp hI1 => ?_⟩
        have ne := hI1.ne
        refine ⟨.ref p, rfl, p, _, 2, 2, rfl, rfl, hI1.1, rfl, rfl, kp.at, a + 1, r, ⟨upd_same, ?_⟩, by omega, hr0⟩
        rw [upd_ne ne.symm]
        exact hI1.2
      · exact ⟨rfl, Keep.refl, a, z, hI, ha, hz⟩
    · rintro σ H1 ⟨rfl, kp, a, z, hI, ha, hz⟩
      have ne := hI.ne
      refine ⟨.ref p, rfl, p, _, 2, .int z, rfl, rfl, .inl (.inl hI.1), rfl, .int m, rfl, z, m, rfl, rfl, m0, ?_⟩
      refine ⟨.ref p, rfl, p, _, 2, .int z, rfl, rfl, .inl (.inl hI.1), rfl, .int m, rfl, z, m, rfl, rfl, div_wide m0 m1, .ref p, rfl, p, _, 2, 2, rfl, rfl, hI.1, rfl, ?_⟩
      refine ⟨.int (z % m), rfl, q _ _ (Int.emod_nonneg _ (by omega)) (Int.emod_lt_of_pos _ m0) kp.at ⟨ns, a, z / m, ⟨upd_same, ?_⟩, ha, Int.ediv_nonneg hz (by omega), hl⟩⟩
      rw [upd_ne ne.symm]
      exact hI.2
end

/-! ### drawn streams -/
def sp_law_stream : Sp := fun vs H Q _ => ∃ (p c : Addr) (w m n : Int), vs = [.ref p, .int w, .int m, .int n] ∧ Pen H p c ∧ 0 < w ∧ w ≤ 3 ∧ 0 ≤ m ∧ m ≤ 100 ∧ 0 < n ∧ n ≤ 90 ∧
  ∀ t ms H', Keep p H H' → Tups H H' → Pen H' p c → TD H' (.ref t) (strmD ms) → (ms.length : Int) ≤ m → (∀ x ∈ ms, 0 ≤ x.1 ∧ x.1 < w ∧ x.2.natAbs < 10 ^ 60) → Q (.ref t) H'
section
variable {P : Program} {w : World} {K : PySem.W.Frag} {mg : Str → Option Value} {base : Heap}
abbrev N_law_stream : List Str := ["pen", "words", "most", "values", "large", "found", "lap"]
theorem sc_law_stream : FnScope N_law_stream ["pen", "words", "most", "values"] (defScope s_law_stream) := ⟨rfl, rfl, rfl, by decide +kernel, rfl, by decide +kernel, by decide +kernel⟩
theorem large_val {x : Int} (h : x = 1 ∨ x = 10 ^ 25 ∨ x = -10 ^ 58) {d n : Int} (h0 : 0 ≤ d) (h1 : d < n) (hn : n ≤ 90) : ((d - 1) * x).natAbs < 10 ^ 60 := by
  rcases h with rfl | rfl | rfl <;> omega
theorem ok_law_stream {f f_law_draw : Addr} {fd fd_law_draw : FuncData} (F : Fun K "_law_stream" "_law_stream" s_law_stream f fd) (F_law_draw : Fun K "_law_draw" "_law_draw" s_law_draw f_law_draw fd_law_draw) (b_law_draw : Binds K fd_law_draw ["pen", "many"] [])
    (g_law_draw : mg "_law_draw" = some (.ref f_law_draw)) (G_law_draw : FnG P w K mg base CX0 2 f_law_draw fd_law_draw ["pen", "many"] sp_law_draw)
    (m_len : mg "len" = none) (m_range : mg "range" = none) (m_tuple : mg "tuple" = none) : FnG P w K mg base CX0 3 f fd ["pen", "words", "most", "values"] sp_law_stream := by
  refine okG F sc_law_stream (fun vs H Q E h => ?_) (fun cdv A outer s H vs Q E gd hr h => ?_)
  · obtain ⟨p, c, w, m, n, rfl, _⟩ := h
    rfl
  · obtain ⟨p, c, w, m, n, rfl, hP, w0, w1, m0, m1, n0, n1, q⟩ := h
    refine ⟨_,
      (C8.pss_cut (ps_set (i := 4) sc_law_stream.nd rfl (.inl rfl) (pe_ix ix_list (pe_lst (pa_cons pe_int (pa_cons pe_int (pa_cons (pe_op op_pow pe_int pe_int) (pa_cons (pe_un un_neg (pe_op op_pow pe_int pe_int)) pa_nil))))) (pe_callG G_law_draw gd (hr.mono (by decide)) rfl g_law_draw F_law_draw.kp b_law_draw .nil pass0 (pa_cons (pv 0) (pa_cons pe_int pa_nil))) (fun _ _ => rfl))) -- large = [1, 1, 10 ** 25, -10 ** 58][_law_draw(pen, 4)]
      (pss_cons (ps_set (i := 5) sc_law_stream.nd rfl (.inl rfl) (pe_lst pa_nil)) -- found = []
      (pss_cons (ps_for PassesOwn.never rfl (pi_range1 rfl m_range (pa_cons (pe_callG G_law_draw gd (hr.mono (by decide)) rfl g_law_draw F_law_draw.kp b_law_draw .nil pass0 (pa_cons (pv 0) (pa_cons (pe_op op_add (pv 2) pe_int) pa_nil))) pa_nil)) (pg_name (i := 6) sc_law_stream.nd rfl (.inl rfl)) 
        (pss_one (ps_expr (pe_bm PySem.F.plainAttrs_list PySem.F.slot_list_append PySem.F.type_list_append mt_append (pv 5) (pa_cons (pe_tup (pa_cons (pe_callG G_law_draw gd (hr.mono (by decide)) rfl g_law_draw F_law_draw.kp b_law_draw .nil pass0 (pa_cons (pv 0) (pa_cons (pv 1) pa_nil))) (pa_cons (pe_op op_mul (pe_op op_sub (pe_callG G_law_draw gd (hr.mono (by decide)) rfl g_law_draw F_law_draw.kp b_law_draw .nil pass0 (pa_cons (pv 0) (pa_cons (pv 3) pa_nil))) pe_int) (pv 4)) pa_nil))) pa_nil)))) -- found.append((_law_draw(pen, words), (_law_draw(pen, values) - 1) * large))
        ) -- for lap in range(_law_draw(pen, most + 1)):
      (pss_one (ps_ret (pe_callTy call_tuple_of (by rfl) m_tuple (by decide +kernel) (pa_cons (pv 5) pa_nil)))) -- return tuple(found)
      ))) , ?_⟩
    -- large = [..][draw]
    refine ⟨fun σ H' => ∃ x : Int, (x = 1 ∨ x = 10 ^ 25 ∨ x = -10 ^ 58) ∧ σ = [some (.ref p), some (.int w), some (.int m), some (.int n), some (.int x), none, none] ∧ Keep p H H' ∧ Tups H H' ∧ Pen H' p c, ?_, ?_⟩
    · refine ⟨10, 25, rfl, rfl, ⟨by decide, by decide, by decide⟩, 10, 58, rfl, rfl, ⟨by decide, by decide, by decide⟩, _, rfl, by show 4 ≤ sizeLine; decide, fun l nl => ?_⟩
      have sm : Same H (upd H l (.lst [.int 1, .int 1, .int (10 ^ 25), .int (-10 ^ 58)])) := fun b o e => by walk_at "hp"
      refine ⟨.ref p, rfl, p, c, 4, rfl, hP.mono sm, by decide, by decide, fun d H1 d0 d1 kp hP1 => ?_⟩
      have hl : H1 l = some (.lst [.int 1, .int 1, .int (10 ^ 25), .int (-10 ^ 58)]) := kp _ _ upd_same (hP.free nl).1.symm
      have k2 : Keep p H H1 := (Keep.same sm).trans kp
      have fin : ∀ x : Int, atI [V.int 1, V.int 1, V.int (10 ^ 25), V.int (-10 ^ 58)] d = some (.int x) → (x = 1 ∨ x = 10 ^ 25 ∨ x = -10 ^ 58) → tVar 0 [some (V.ref l)] H1 (fun _ _ => True) := fun _ _ _ => ⟨_, rfl, trivial⟩
      obtain ⟨x, ex, hx⟩ : ∃ x : Int, atI [V.int 1, V.int 1, V.int (10 ^ 25), V.int (-10 ^ 58)] d = some (.int x) ∧ (x = 1 ∨ x = 10 ^ 25 ∨ x = -10 ^ 58) := by
        have : d = 0 ∨ d = 1 ∨ d = 2 ∨ d = 3 := by omega
        rcases this with rfl | rfl | rfl | rfl
        · exact ⟨1, rfl, .inl rfl⟩
        · exact ⟨1, rfl, .inl rfl⟩
        · exact ⟨10 ^ 25, rfl, .inr (.inl rfl)⟩
        · exact ⟨-10 ^ 58, rfl, .inr (.inr rfl)⟩
      exact ⟨l, _, d, .int x, rfl, rfl, SqL.of hl, ex, x, hx, rfl, k2, hP.tups k2, hP1⟩
    · rintro σ H1 ⟨x, hx, rfl, kp, tp, hP⟩
      -- found = []; for lap in range(draw(pen, most + 1))
      refine ⟨by show 0 ≤ sizeLine; decide, fun l nl => ?_⟩
      have npl := (hP.free nl).1
      have ncl := (hP.free nl).2
      have sm : Same H1 (upd H1 l (.lst [])) := fun b o e => by walk_at "hp"
      refine ⟨.ref p, rfl, .int m, rfl, m, 1, rfl, rfl, p, c, m + 1, rfl, hP.mono sm, by omega, by omega, fun d H2 d0 d1 kp2 hP2 => ?_⟩
      have hl2 : H2 l = some (.lst []) := kp2 _ _ upd_same npl.symm
      have kp3 : Keep p H H2 := kp.trans ((Keep.same sm).trans kp2)
      have tp3 : Tups H H2 := (tp.trans (Tups.same sm)).trans ((hP.mono sm).tups kp2)
      have nlH : H l = none := by
        cases e : H l with
        | none => rfl
        | some o =>
          have z := kp l o e npl.symm
          rw [nl] at z
          cases z
      obtain ⟨n', rfl⟩ : ∃ n' : Nat, d = n' := ⟨d.toNat, by omega⟩
      refine ⟨(n' : Int), rfl, by omega, by omega, ?_⟩
      rw [Int.toNat_natCast]
      refine for_range (n := n') (fun i σ H' => ∃ (y : Option V) (vs : List V) (ms : List (Int × Int)), σ = [some (.ref p), some (.int w), some (.int m), some (.int n), some (.int x), some (.ref l), y] ∧ Keep p H H' ∧ Tups H H' ∧ Pen H' p c ∧
        H' l = some (.lst vs) ∧ TDs H' vs (ms.map msgD) ∧ ms.length = i ∧ ∀ x ∈ ms, 0 ≤ x.1 ∧ x.1 < w ∧ x.2.natAbs < 10 ^ 60) ?_ ?_ ?_
      · exact ⟨none, [], [], rfl, kp3, tp3, hP2, hl2, .nil, rfl, fun _ z => by cases z⟩
      · rintro i σ H3 hi ⟨y, vs, ms, rfl, kp, tp, hP, hl, ht, hlen, hms⟩
        obtain ⟨l0, hl0⟩ := hP.at
        have npl : l ≠ p := by
          intro e
          subst e
          exact absurd rfl npl
        refine ⟨.ref l, rfl, .inl ⟨rfl, _, SqL.of hl⟩, .ref p, rfl, .int w, rfl, p, c, w, rfl, hP, w0, by omega, fun d1 H4 a0 a1 kp4 hP4 => ?_⟩
        refine ⟨.ref p, rfl, .int n, rfl, p, c, n, rfl, hP4, n0, by omega, fun d2 H5 b0 b1 kp5 hP5 => ?_⟩
        refine ⟨d2, 1, rfl, rfl, .int x, rfl, d2 - 1, x, rfl, rfl, .inl ⟨by omega, by omega⟩, by show 2 ≤ sizeLine; decide, fun t nt => ?_⟩
        have kp6 : Keep p H3 H5 := kp4.trans kp5
        have hl5 : H5 l = some (.lst vs) := kp6 _ _ hl npl
        have nlt : l ≠ t := ne_of_none hl5 nt
        have tp6 : Tups H3 (upd H5 t (.tup [.int d1, .int ((d2 - 1) * x)])) := (hP.tups kp6).trans (Tups.new nt)
        have hP6 : Pen (upd H5 t (.tup [.int d1, .int ((d2 - 1) * x)])) p c := hP5.mono (fun b o e => by walk_at "hp")
        have ml : vs.length = i := by rw [ht.msgs_len, hlen]
        refine ⟨l, vs, .ref t, rfl, rfl, by walk_at "hp", small1000 (by omega), _, vs ++ [.ref t], ms ++ [(d1, (d2 - 1) * x)], rfl, ?_, ?_, ?_, upd_same, ?_, by rw [List.length_append, hlen]; rfl, ?_⟩
        · intro b o e ne
          have nbl : b ≠ l := ne_of_none e nlH
          rw [upd_ne nbl, upd_ne (ne_of_none (kp6 b o (kp b o e ne) ne) nt)]
          exact kp6 b o (kp b o e ne) ne
        · exact (tp.trans tp6).trans (Tups.lst (l := vs) (by walk_at "hp"))
        · exact hP6.put npl ncl.symm
        · rw [List.map_append]
          have tl : Tups (upd H5 t (.tup [.int d1, .int ((d2 - 1) * x)])) (upd (upd H5 t (.tup [.int d1, .int ((d2 - 1) * x)])) l (.lst (vs ++ [.ref t]))) := Tups.lst (l := vs) (by walk_at "hp")
          exact ((ht.mono tp6).mono tl).app (.cons (TD.mono tl _ (TD.ofPair upd_same)) .nil)
        · intro y hy
          rcases List.mem_append.mp hy with hy | hy
          · exact hms y hy
          · simp only [List.mem_cons, List.not_mem_nil, or_false] at hy
            subst hy
            exact ⟨a0, a1, large_val hx b0 b1 n1⟩
      · rintro σ H3 ⟨y, vs, ms, rfl, kp, tp, hP, hl, ht, hlen, hms⟩
        refine ⟨.ref l, rfl, l, vs, rfl, .inl ⟨SqL.of hl, fun t nt => ?_⟩⟩
        refine q t ms _ (fun b o e ne => ?_) (tp.trans (Tups.new nt)) (hP.mono fun b o e => by walk_at "hp") (.tup upd_same (ht.mono (Tups.new nt))) (by omega) hms
        rw [upd_ne (ne_of_none (kp b o e ne) nt)]
        exact kp b o e ne
end

/-! ### integers -/
/-- an integer from lo to hi -/
def btw (d : PyData) (lo hi : Int) : Bool := match d with
  | .int n => decide (lo ≤ n) && decide (n ≤ hi)
  | _ => false
def isI (d : PyData) : Bool := isIntD d && !isBoolD d
def sp_is_integer : Sp := fun vs H Q _ => ∃ (p : Addr) (v : V) (d : PyData), vs = [v] ∧ LD p H v d ∧ Q (.bl (isI d)) H
def sp_is_between : Sp := fun vs H Q _ => ∃ (p : Addr) (v : V) (d : PyData) (lo hi : Int), vs = [v, .int lo, .int hi] ∧ LD p H v d ∧ Q (.bl (btw d lo hi)) H
section
variable {P : Program} {w : World} {K : PySem.W.Frag} {mg : Str → Option Value} {base : Heap}
abbrev N_is_integer : List Str := ["value"]
theorem sc_is_integer : FnScope N_is_integer ["value"] (defScope s_is_integer) := ⟨rfl, rfl, rfl, by decide +kernel, rfl, by decide +kernel, by decide +kernel⟩
theorem ok_is_integer {f : Addr} {fd : FuncData} {k : Nat} (F : Fun K "is_integer" "is_integer" s_is_integer f fd) (m_isinstance : mg "isinstance" = none) (m_int : mg "int" = none) (m_bool : mg "bool" = none) : FnG P w K mg base CX0 (k + 1) f fd ["value"] sp_is_integer := by
  refine okG F sc_is_integer (fun vs H Q E h => ?_) (fun cdv A outer s H vs Q E gd hr h => ?_)
  · obtain ⟨p, v, d, rfl, _⟩ := h
    rfl
  · obtain ⟨p, v, d, rfl, hv, q⟩ := h
    refine ⟨_, 
      (pss_one (ps_ret (pe_and (pe_callB (call_isL kit_int) (by rfl) m_isinstance (by decide +kernel) (pa_cons (pv 0) (pa_cons (pe_bltn (v := .ty "int") (by rfl) m_int (by decide +kernel) (show RelV (.ty "int") (.type "int") from rfl)) pa_nil))) (pe_one (pe_not (pe_callB (call_isL kit_bool) (by rfl) m_isinstance (by decide +kernel) (pa_cons (pv 0) (pa_cons (pe_bltn (v := .ty "bool") (by rfl) m_bool (by decide +kernel) (show RelV (.ty "bool") (.type "bool") from rfl)) pa_nil)))))))) -- return isinstance(value, int) and (not isinstance(value, bool))
       , ?_⟩
    refine ⟨v, rfl, p, v, d, rfl, hv, _, rfl, ?_⟩
    unfold isI at q
    cases hi : isIntD d with
    | false =>
      rw [hi] at q
      exact q
    | true =>
      rw [hi] at q
      exact ⟨v, rfl, p, v, d, rfl, hv, _, rfl, q⟩
abbrev N_is_between : List Str := ["value", "low", "high"]
theorem sc_is_between : FnScope N_is_between ["value", "low", "high"] (defScope s_is_between) := ⟨rfl, rfl, rfl, by decide +kernel, rfl, by decide +kernel, by decide +kernel⟩
theorem ok_is_between {f f_is_integer : Addr} {fd fd_is_integer : FuncData} (F : Fun K "is_between" "is_between" s_is_between f fd) (F_is_integer : Fun K "is_integer" "is_integer" s_is_integer f_is_integer fd_is_integer) (b_is_integer : Binds K fd_is_integer ["value"] [])
    (g_is_integer : mg "is_integer" = some (.ref f_is_integer)) (m_isinstance : mg "isinstance" = none) (m_int : mg "int" = none) (m_bool : mg "bool" = none) : FnG P w K mg base CX0 2 f fd ["value", "low", "high"] sp_is_between := by
  have G_is_integer : FnG P w K mg base CX0 1 f_is_integer fd_is_integer ["value"] sp_is_integer := ok_is_integer F_is_integer m_isinstance m_int m_bool
  refine okG F sc_is_between (fun vs H Q E h => ?_) (fun cdv A outer s H vs Q E gd hr h => ?_)
  · obtain ⟨p, v, d, lo, hi, rfl, _⟩ := h
    rfl
  · obtain ⟨p, v, d, lo, hi, rfl, hv, q⟩ := h
    refine ⟨_, 
      (pss_one (ps_ret (pe_and (pe_callG G_is_integer gd (hr.mono (by decide)) rfl g_is_integer F_is_integer.kp b_is_integer .nil pass0 (pa_cons (pv 0) pa_nil)) (pe_one (pe_chain op_le op_le (pv 1) (pv 0) (pv 2)))))) -- return is_integer(value) and low <= value <= high
       , ?_⟩
    refine ⟨v, rfl, p, v, d, rfl, hv, _, rfl, ?_⟩
    cases hv with
    | int n => 
      refine ⟨.int lo, rfl, .int n, rfl, lo, n, rfl, rfl, _, rfl, ite2 (fun h1 => ?_) (fun h1 => ?_)⟩
      · refine ⟨.int hi, rfl, n, hi, rfl, rfl, ?_⟩
        have q' : Q (.bl (decide (lo ≤ n) && decide (n ≤ hi))) H := q
        rw [h1] at q'
        exact q'
      · have q' : Q (.bl (decide (lo ≤ n) && decide (n ≤ hi))) H := q
        rw [Bool.eq_false_iff.mpr h1] at q'
        exact q'
    | _ => exact q
end
/-! ### messages, streams -/
def big60 : Int := 10 ^ 60 - 1
def isMsg (d : PyData) (w : Int) : Bool := match d with
  | .tuple [a, b] => btw a 0 (w - 1) && btw b (-big60) big60
  | _ => false
def isStrm (d : PyData) (w : Int) : Bool := match d with
  | .tuple ds => ds.all fun m => isMsg m w
  | _ => false
def sp_is_message_value : Sp := fun vs H Q _ => ∃ (p : Addr) (v : V) (d : PyData), vs = [v] ∧ LD p H v d ∧ Q (.bl (btw d (-big60) big60)) H
def sp_is_message : Sp := fun vs H Q _ => ∃ (p : Addr) (v : V) (d : PyData) (w : Int), vs = [v, .int w] ∧ LD p H v d ∧ Q (.bl (isMsg d w)) H
def sp_is_stream : Sp := fun vs H Q _ => ∃ (p : Addr) (v : V) (d : PyData) (w : Int), vs = [v, .int w] ∧ LD p H v d ∧ Q (.bl (isStrm d w)) H
def sp_require_stream (C : Addr) : Sp := fun vs H Q E => ∃ (p : Addr) (v : V) (d : PyData) (w : Int), vs = [v, .int w] ∧ LD p H v d ∧
  (isStrm d w = true → Q v H) ∧ (isStrm d w = false → ∀ e : Addr, H e = none → E (.ref C) (some e) (upd H e (.xd [(("value" : Str), v)])))
section
variable {P : Program} {w : World} {K : PySem.W.Frag} {mg : Str → Option Value} {base : Heap}
abbrev N_is_message_value : List Str := ["value", "most"]
theorem sc_is_message_value : FnScope N_is_message_value ["value"] (defScope s_is_message_value) := ⟨rfl, rfl, rfl, by decide +kernel, rfl, by decide +kernel, by decide +kernel⟩
theorem ok_is_message_value {f f_is_between : Addr} {fd fd_is_between : FuncData} (F : Fun K "is_message_value" "is_message_value" s_is_message_value f fd) (F_is_between : Fun K "is_between" "is_between" s_is_between f_is_between fd_is_between) (b_is_between : Binds K fd_is_between ["value", "low", "high"] [])
    (g_is_between : mg "is_between" = some (.ref f_is_between)) (G_is_between : FnG P w K mg base CX0 2 f_is_between fd_is_between ["value", "low", "high"] sp_is_between) : FnG P w K mg base CX0 3 f fd ["value"] sp_is_message_value := by
  refine okG F sc_is_message_value (fun vs H Q E h => ?_) (fun cdv A outer s H vs Q E gd hr h => ?_)
  · obtain ⟨p, v, d, rfl, _⟩ := h
    rfl
  · obtain ⟨p, v, d, rfl, hv, q⟩ := h
    refine ⟨_, 
      (pss_cons (ps_set (i := 1) sc_is_message_value.nd rfl (.inl rfl) (pe_op op_sub (pe_op op_pow pe_int pe_int) pe_int)) -- most = 10 ** 60 - 1
      (pss_one (ps_ret (pe_callG G_is_between gd (hr.mono (by decide)) rfl g_is_between F_is_between.kp b_is_between .nil pass0 (pa_cons (pv 0) (pa_cons (pe_un un_neg (pv 1)) (pa_cons (pv 1) pa_nil)))))) -- return is_between(value, -most, most)
      ) , ?_⟩
    refine ⟨10, 60, rfl, rfl, ⟨by decide, by decide, by decide⟩, _, _, rfl, rfl, ?_⟩
    exact ⟨v, rfl, .int big60, rfl, big60, rfl, .int big60, rfl, p, v, d, -big60, big60, rfl, hv, q⟩
abbrev N_is_message : List Str := ["message", "words", "word", "value"]
theorem sc_is_message : FnScope N_is_message ["message", "words"] (defScope s_is_message) := ⟨rfl, rfl, rfl, by decide +kernel, rfl, by decide +kernel, by decide +kernel⟩
theorem ok_is_message {f f_is_between f_is_message_value : Addr} {fd fd_is_between fd_is_message_value : FuncData} (F : Fun K "is_message" "is_message" s_is_message f fd) (F_is_between : Fun K "is_between" "is_between" s_is_between f_is_between fd_is_between) (b_is_between : Binds K fd_is_between ["value", "low", "high"] [])
    (F_is_message_value : Fun K "is_message_value" "is_message_value" s_is_message_value f_is_message_value fd_is_message_value) (b_is_message_value : Binds K fd_is_message_value ["value"] []) (g_is_message_value : mg "is_message_value" = some (.ref f_is_message_value))
    (g_is_between : mg "is_between" = some (.ref f_is_between)) (G_is_between : FnG P w K mg base CX0 2 f_is_between fd_is_between ["value", "low", "high"] sp_is_between) (m_isinstance : mg "isinstance" = none) (m_tuple : mg "tuple" = none) (m_len : mg "len" = none) : FnG P w K mg base CX0 4 f fd ["message", "words"] sp_is_message := by
  have G_is_message_value : FnG P w K mg base CX0 3 f_is_message_value fd_is_message_value ["value"] sp_is_message_value := ok_is_message_value F_is_message_value F_is_between b_is_between g_is_between G_is_between
  refine okG F sc_is_message (fun vs H Q E h => ?_) (fun cdv A outer s H vs Q E gd hr h => ?_)
  · obtain ⟨p, v, d, w, rfl, _⟩ := h
    rfl
  · obtain ⟨p, v, d, w, rfl, hv, q⟩ := h
    refine ⟨_, 
      (pss_cons (ps_if (PW.pt (pw_or (pt_not (pt_val (pe_callB (call_isL kit_tup) (by rfl) m_isinstance (by decide +kernel) (pa_cons (pv 0) (pa_cons (pe_bltn (v := .ty "tuple") (by rfl) m_tuple (by decide +kernel) (show RelV (.ty "tuple") (.type "tuple") from rfl)) pa_nil))))) (pw_or1 (pt_cmpR op_ne (pe_callB call_len_seq (by rfl) m_len PySem.boot_len (pa_cons (pv 0) pa_nil)) pe_int (nomark _))))) 
        (pss_one (ps_ret pe_bl)) -- return False
         pss_nil) -- if not isinstance(message, tuple) or len(message) != 2:
      (pss_cons (ps_asg (pv 0) (pg_tup rfl (pgs_cons (pg_name (i := 2) sc_is_message.nd rfl (.inl rfl)) (pgs_cons (pg_name (i := 3) sc_is_message.nd rfl (.inl rfl)) pgs_nil)))) -- word, value = message
      (pss_one (ps_ret (pe_and (pe_callG G_is_between gd (hr.mono (by decide)) rfl g_is_between F_is_between.kp b_is_between .nil pass0 (pa_cons (pv 2) (pa_cons pe_int (pa_cons (pe_op op_sub (pv 1) pe_int) pa_nil)))) (pe_one (pe_callG G_is_message_value gd (hr.mono (by decide)) rfl g_is_message_value F_is_message_value.kp b_is_message_value .nil pass0 (pa_cons (pv 3) pa_nil)))))) -- return is_between(word, 0, words - 1) and is_message_value(value)
      )) , ?_⟩
    refine ⟨v, rfl, p, v, d, rfl, hv, _, rfl, ?_⟩
    cases hv with
    | @tup a xs ds na ha hs =>
      refine ⟨.ref a, rfl, a, xs, rfl, .inr (SqT.of ha), rfl, _, rfl, ?_⟩
      have lx := hs.length
      cases hs with
      | nil => exact q
      | @cons v1 r1 d1 e1 h1 hs =>
        cases hs with
        | nil => exact q
        | @cons v2 r2 d2 e2 h2 hs =>
          cases hs with
          | @cons v3 r3 d3 e3 h3 hs =>
            have ne : V.int ((v1 :: v2 :: v3 :: r3).length : Nat) ≠ V.int 2 := fun z => by
              have z' := V.int.inj z
              simp only [List.length_cons] at z'
              omega
            rw [decide_eq_false ne]
            exact q
          | nil =>
            refine iteF ?_
            refine ⟨.ref a, rfl, a, [v1, v2], rfl, SqT.of ha, rfl, v1, [v2], rfl, v2, [], rfl, rfl, ?_⟩
            refine ⟨v1, rfl, .int w, rfl, w, 1, rfl, rfl, p, v1, d1, 0, w - 1, rfl, h1, _, rfl, ?_⟩
            have q' : Q (.bl (btw d1 0 (w - 1) && btw d2 (-big60) big60)) H := q
            cases hb : btw d1 0 (w - 1) with
            | false =>
              rw [hb] at q'
              exact q'
            | true =>
              rw [hb] at q'
              exact ⟨v2, rfl, p, v2, d2, rfl, h2, q'⟩
    | _ => exact q
abbrev N_is_stream : List Str := ["value", "words", "message"]
theorem sc_is_stream : FnScope N_is_stream ["value", "words"] (defScope s_is_stream) := ⟨rfl, rfl, rfl, by decide +kernel, rfl, by decide +kernel, by decide +kernel⟩
theorem ok_is_stream {f f_is_message : Addr} {fd fd_is_message : FuncData} (F : Fun K "is_stream" "is_stream" s_is_stream f fd) (F_is_message : Fun K "is_message" "is_message" s_is_message f_is_message fd_is_message) (b_is_message : Binds K fd_is_message ["message", "words"] [])
    (g_is_message : mg "is_message" = some (.ref f_is_message)) (G_is_message : FnG P w K mg base CX0 4 f_is_message fd_is_message ["message", "words"] sp_is_message) (m_isinstance : mg "isinstance" = none) (m_tuple : mg "tuple" = none) :
    FnG P w K mg base CX0 5 f fd ["value", "words"] sp_is_stream := by
  refine okG F sc_is_stream (fun vs H Q E h => ?_) (fun cdv A outer s H vs Q E gd hr h => ?_)
  · obtain ⟨p, v, d, w, rfl, _⟩ := h
    rfl
  · obtain ⟨p, v, d, w, rfl, hv, q⟩ := h
    refine ⟨_, 
      (pss_cons (ps_if (pt_not (pt_val (pe_callB (call_isL kit_tup) (by rfl) m_isinstance (by decide +kernel) (pa_cons (pv 0) (pa_cons (pe_bltn (v := .ty "tuple") (by rfl) m_tuple (by decide +kernel) (show RelV (.ty "tuple") (.type "tuple") from rfl)) pa_nil)))))
        (pss_one (ps_ret pe_bl))
         pss_nil) -- if not isinstance(value, tuple): return False
      (pss_cons (ps_for PassesOwn.never rfl (pi_tup (pv 0)) (pg_name (i := 2) sc_is_stream.nd rfl (.inl rfl))
        (pss_one (ps_if (pt_not (pt_val (pe_callG G_is_message gd (hr.mono (by decide)) rfl g_is_message F_is_message.kp b_is_message .nil pass0 (pa_cons (pv 2) (pa_cons (pv 1) pa_nil)))))
          (pss_one (ps_ret pe_bl))
           pss_nil))) -- for message in value: if not is_message(message, words): return False
      (pss_one (ps_ret pe_bl)) -- return True
      )), ?_⟩
    refine ⟨v, rfl, p, v, d, rfl, hv, _, rfl, ?_⟩
    have hv0 := hv
    cases hv with
    | @tup a xs ds na ha hs =>
      refine ⟨.ref a, rfl, a, rfl, ⟨_, SqT.of ha⟩, ?_⟩
      refine for_tup (K := K) (a := a) (xs := xs) (fun i σ H' => ∃ y : Option V, σ = [some (.ref a), some (.int w), y] ∧ H' = H ∧ (ds.take i).all (fun m => isMsg m w) = true) ?_ ?_ ?_ ?_
      · exact ⟨none, rfl, rfl, rfl⟩
      · rintro i σ H' hi ⟨y, rfl, rfl, ok⟩
        exact SqT.of ha
      · rintro i x σ H' hi ⟨y, rfl, rfl, ok⟩
        obtain ⟨m, em, hm⟩ := hs.get hi
        refine ⟨x, rfl, .int w, rfl, p, x, m, w, rfl, hm, _, rfl, ?_⟩
        cases hb : isMsg m w with
        | true =>
          refine ⟨_, rfl, rfl, ?_⟩
          rw [List.take_add_one, em, List.all_append, ok]
          simp [hb]
        | false =>
          have e : isStrm (.tuple ds) w = false := by
            show ds.all (fun m => isMsg m w) = false
            rw [← List.take_append_drop (i + 1) ds, List.take_add_one, em, List.all_append, List.all_append]
            simp [hb]
          rw [e] at q
          exact q
      · rintro σ H' ⟨y, rfl, rfl, ok⟩
        rw [hs.length, List.take_length] at ok
        have e : isStrm (.tuple ds) w = true := ok
        rw [e] at q
        exact q
    | _ => exact q
abbrev N_require_stream : List Str := ["value", "words"]
theorem sc_require_stream : FnScope N_require_stream ["value", "words"] (defScope s_require_stream) := ⟨rfl, rfl, rfl, by decide +kernel, rfl, by decide +kernel, by decide +kernel⟩
theorem ok_require_stream {f f_is_stream C fI : Addr} {fd fd_is_stream : FuncData} {qual : Str} {b : OwnE.Base} (F : Fun K "require_stream" "require_stream" s_require_stream f fd) (F_is_stream : Fun K "is_stream" "is_stream" s_is_stream f_is_stream fd_is_stream) (b_is_stream : Binds K fd_is_stream ["value", "words"] [])
    (g_is_stream : mg "is_stream" = some (.ref f_is_stream)) (G_is_stream : FnG P w K mg base CX0 5 f_is_stream fd_is_stream ["value", "words"] sp_is_stream) (T : L2.ErrOk b "NotAStream" "value" qual K mg C fI) :
    FnG P w K mg base (L2.CX P w) 6 f fd ["value", "words"] (sp_require_stream C) := by
  refine okGX F sc_require_stream (fun vs H Q E h => ?_) (fun cdv A outer s H vs Q E gd hr h => ?_)
  · obtain ⟨p, v, d, w, rfl, _⟩ := h
    rfl
  · obtain ⟨p, v, d, w, rfl, hv, q1, q2⟩ := h
    have hr1 : Room 1 _ := hr.mono (by decide)
    refine ⟨_, 
      (pss_cons (ps_if (pt_not (pt_val (pe_callG G_is_stream gd (hr.mono (by decide)) rfl g_is_stream F_is_stream.kp b_is_stream .nil pass0 (pa_cons (pv 0) (pa_cons (pv 1) pa_nil)))))
        (pss_one (L2.ps_raiseE (W := fun cls d _ H => E cls d H) rfl T hr1 (takes_of rfl rfl rfl rfl) (by exact (pa_cons (pv 0) pa_nil))))
         pss_nil) -- if not is_stream(value, words): raise NotAStream(value)
      (pss_one (ps_ret (pv 0))) -- return value
      ), ?_⟩
    refine ⟨v, rfl, .int w, rfl, p, v, d, w, rfl, hv, _, rfl, ?_⟩
    cases hb : isStrm d w with
    | true => exact ⟨v, rfl, q1 hb⟩
    | false => exact ⟨v, rfl, _, rfl, fun e he => q2 hb e he⟩
end

/-! ### the law's own reading of a stream -/
theorem isI_int {d : PyData} (h : isI d = true) : ∃ n, d = .int n := by
  cases d with
  | int n => exact ⟨n, rfl⟩
  | _ => exact absurd h (by first | decide | (intro z; cases z))
theorem btw_of {d : PyData} {lo hi : Int} (h : isI d = false) : btw d lo hi = false := by
  cases d with
  | int n => cases h
  | _ => rfl
def odds (ds : List PyData) : List Int := (ds.filter fun d => !isI d).map fun _ => 1
theorem odds_snoc (ds : List PyData) (d : PyData) : odds (ds ++ [d]) = if isI d = true then odds ds else odds ds ++ [1] := by
  unfold odds
  rw [List.filter_append, List.map_append]
  cases h : isI d with
  | true => simp [h]
  | false => simp [h]
theorem odds_len (ds : List PyData) : (odds ds).length ≤ ds.length := by
  unfold odds
  rw [List.length_map]
  exact List.length_filter_le _ _
def sp_law_is : Sp := fun vs H Q _ => ∃ (p : Addr) (v : V) (d : PyData) (w : Int), vs = [v, .int w] ∧ LD p H v d ∧ ∀ H', Same H H' → Q (.bl (isStrm d w)) H'
section
variable {P : Program} {w : World} {K : PySem.W.Frag} {mg : Str → Option Value} {base : Heap}
abbrev N_law_is : List Str := ["value", "words", "message", "one"]
theorem sc_law_is : FnScope N_law_is ["value", "words"] (defScope s_law_is) := ⟨rfl, rfl, rfl, by decide +kernel, rfl, by decide +kernel, by decide +kernel⟩
theorem ok_law_is {f : Addr} {fd : FuncData} {k : Nat} (F : Fun K "_law_is" "_law_is" s_law_is f fd) (m_isinstance : mg "isinstance" = none) (m_int : mg "int" = none) (m_bool : mg "bool" = none) (m_tuple : mg "tuple" = none) (m_len : mg "len" = none) (m_abs : mg "abs" = none) :
    FnG P w K mg base CX0 (k + 1) f fd ["value", "words"] sp_law_is := by
  refine okG F sc_law_is (fun vs H Q E h => ?_) (fun cdv A outer s H vs Q E gd hr h => ?_)
  · obtain ⟨p, v, d, w, rfl, _⟩ := h
    rfl
  · obtain ⟨p, v, d, w, rfl, hv, q⟩ := h
    refine ⟨_, 
      (pss_cons (ps_if (pt_not (pt_val (pe_callB (call_isL kit_tup) (by rfl) m_isinstance (by decide +kernel) (pa_cons (pv 0) (pa_cons (pe_bltn (v := .ty "tuple") (by rfl) m_tuple (by decide +kernel) (show RelV (.ty "tuple") (.type "tuple") from rfl)) pa_nil))))) 
        (pss_one (ps_ret pe_bl)) -- return False
         pss_nil) -- if not isinstance(value, tuple):
      (pss_cons (ps_for PassesOwn.never rfl (pi_tup (pv 0)) (pg_name (i := 2) sc_law_is.nd rfl (.inl rfl)) 
        (pss_cons (ps_if (PW.pt (pw_or (pt_not (pt_val (pe_callB (call_isL kit_tup) (by rfl) m_isinstance (by decide +kernel) (pa_cons (pv 2) (pa_cons (pe_bltn (v := .ty "tuple") (by rfl) m_tuple (by decide +kernel) (show RelV (.ty "tuple") (.type "tuple") from rfl)) pa_nil))))) (pw_or1 (pt_cmpR op_ne (pe_callB call_len_seq (by rfl) m_len PySem.boot_len (pa_cons (pv 2) pa_nil)) pe_int (nomark _))))) 
          (pss_one (ps_ret pe_bl)) -- return False
           pss_nil) -- if not isinstance(message, tuple) or len(message) != 2:
        (pss_cons (ps_if (pt_cmpR (op_neD hr.units) (pe_lc (own := [("one", 3)]) (g := gName 3) rfl sc_law_is.nd (pi_tup (pv 2)) (blkOk_by (N := N_law_is) (sc := defScope s_law_is) (by decide +kernel)) (fun _ _ _ _ _ => (pg_name (i := 3) sc_law_is.nd rfl (.inl rfl))) (fun _ _ _ _ _ => (pts_one (PW.pt (pw_or (pt_not (pt_val (pe_callB (r := rIsL "int" isIntD) (call_isL kit_int) (by rfl) m_isinstance (by decide +kernel) (pa_cons (pv 3) (pa_cons (pe_bltn (v := .ty "int") (by rfl) m_int (by decide +kernel) (show RelV (.ty "int") (.type "int") from rfl)) pa_nil))))) (pw_or1 (pt_val (pe_callB (r := rIsL "bool" isBoolD) (call_isL kit_bool) (by rfl) m_isinstance (by decide +kernel) (pa_cons (pv 3) (pa_cons (pe_bltn (v := .ty "bool") (by rfl) m_bool (by decide +kernel) (show RelV (.ty "bool") (.type "bool") from rfl)) pa_nil))))))))) (fun _ _ _ _ _ => pe_int)) (pe_lst pa_nil) (nomark _)) 
          (pss_one (ps_ret pe_bl)) -- return False
           pss_nil) -- if [1 for one in message if not isinstance(one, int) or isinstance(one, bool)] != []:
        (pss_one (ps_if (PW.pt (pw_or (pt_not (pt_chain op_le op_lt pe_int (pe_ix ix_tup (pv 2) pe_int (fun _ _ => rfl)) (pv 1))) (pw_or1 (pt_not (pt_cmpR op_lt (pe_callB call_abs (by rfl) m_abs (by decide +kernel) (pa_cons (pe_ix ix_tup (pv 2) pe_int (fun _ _ => rfl)) pa_nil)) (pe_op op_pow pe_int pe_int) (nomark _)))))) 
          (pss_one (ps_ret pe_bl)) -- return False
           pss_nil)) -- if not 0 <= message[0] < words or not abs(message[1]) < 10 ** 60:
        ))) -- for message in value:
      (pss_one (ps_ret pe_bl)) -- return True
      )) , ?_⟩
    refine ⟨v, rfl, p, v, d, rfl, hv, _, rfl, ?_⟩
    cases hv with
    | @tup a xs ds na ha hs =>
      refine ⟨.ref a, rfl, a, rfl, ⟨_, SqT.of ha⟩, ?_⟩
      refine for_tup (K := K) (a := a) (xs := xs) (fun i σ H' => ∃ y y3 : Option V, σ = [some (.ref a), some (.int w), y, y3] ∧ Same H H' ∧ (ds.take i).all (fun m => isMsg m w) = true) ?_ ?_ ?_ ?_
      · exact ⟨none, none, rfl, Same.refl _, rfl⟩
      · rintro i σ H' hi ⟨y, y3, rfl, sm, ok⟩
        exact SqT.of (sm _ _ ha)
      · rintro i x σ H' hi ⟨y, y3, rfl, sm, ok⟩
        obtain ⟨m, em, hm⟩ := hs.get hi
        replace hm := LD.mono (But.same sm) _ hm
        have no : isMsg m w = false → ∀ H2, Same H H2 → Q (.bl false) H2 := fun hb H2 s2 => by
          have e : isStrm (.tuple ds) w = false := by
            show ds.all (fun m => isMsg m w) = false
            rw [← List.take_append_drop (i + 1) ds, List.take_add_one, em, List.all_append, List.all_append]
            simp [hb]
          rw [e] at q
          exact q H2 s2
        have yes : isMsg m w = true → (ds.take (i + 1)).all (fun m => isMsg m w) = true := fun hb => by
          rw [List.take_add_one, em, List.all_append, ok]
          simp [hb]
        refine ⟨x, rfl, p, x, m, rfl, hm, _, rfl, ?_⟩
        cases hm with
        | @tup t ys es nt ht hes =>
          refine ⟨.ref t, rfl, t, ys, rfl, .inr (SqT.of ht), rfl, _, rfl, ?_⟩
          cases hes with
          | nil => exact no rfl _ sm
          | @cons v1 r1 d1 e1 h1 hes =>
            cases hes with
            | nil => exact no rfl _ sm
            | @cons v2 r2 d2 e2 h2 hes =>
              cases hes with
              | @cons v3 r3 d3 e3 h3 hes =>
                have ne : V.int ((v1 :: v2 :: v3 :: r3).length : Nat) ≠ V.int 2 := fun z => by
                  have z' := V.int.inj z
                  simp only [List.length_cons] at z'
                  omega
                rw [decide_eq_false ne]
                exact no rfl _ sm
              | nil =>
                refine iteF ?_
                refine ⟨.ref t, rfl, t, rfl, ⟨_, SqT.of ht⟩, fun D nD => ?_⟩
                refine lc_tup (K := K) (a := t) (xs := [v1, v2]) (fun i H2 => Same H' H2 ∧ H2 D = some (.lst ((odds ([d1, d2].take i)).map V.int))) ?_ ?_ ?_ ?_
                · exact ⟨same_new nD, upd_same⟩
                · rintro i H2 hi ⟨s2, hD⟩
                  exact SqT.of (s2 _ _ ht)
                · rintro i z H2 hi ⟨s2, hD⟩
                  obtain ⟨dz, ez, hz⟩ : ∃ dz, [d1, d2][i]? = some dz ∧ LD p H2 z dz := (LDs.cons (LD.mono (But.same s2) _ h1) (.cons (LD.mono (But.same s2) _ h2) .nil)).get hi
                  have et : ([d1, d2].take (i + 1)) = [d1, d2].take i ++ [dz] := by rw [List.take_add_one, ez]; rfl
                  have lo := odds_len ([d1, d2].take i)
                  have lo2 : ([d1, d2].take i).length ≤ 2 := List.length_take_le' _ _
                  have keepS : Same H' (upd H2 D (.lst ((odds ([d1, d2].take i)).map V.int ++ [V.int 1]))) := fun b o e => by
                    have : b ≠ D := ne_of_none e nD
                    rw [upd_ne this]
                    exact s2 _ _ e
                  have fin0 : isI dz = false → ∃ acc, H2 D = some (HO.lst acc) ∧ acc.length < sizeLine ∧ Same H' (upd H2 D (HO.lst (acc ++ [V.int 1]))) ∧ upd H2 D (HO.lst (acc ++ [V.int 1])) D = some (HO.lst ((odds ([d1, d2].take (i + 1))).map V.int)) := fun hf => by
                    refine ⟨_, hD, by rw [List.length_map]; exact small1000 (by omega), keepS, ?_⟩
                    rw [upd_same, et, odds_snoc, hf]
                    simp
                  refine ⟨rfl, z, rfl, p, z, dz, rfl, hz, _, rfl, ?_⟩
                  cases hi1 : isIntD dz with
                  | false => exact fin0 (by unfold isI; rw [hi1]; rfl)
                  | true =>
                    refine ⟨z, rfl, p, z, dz, rfl, hz, _, rfl, ?_⟩
                    cases hi2 : isBoolD dz with
                    | true => exact fin0 (by unfold isI; rw [hi1, hi2]; rfl)
                    | false =>
                      refine ⟨s2, ?_⟩
                      rw [et, odds_snoc, if_pos (by unfold isI; rw [hi1, hi2]; rfl)]
                      exact hD
                · rintro H2 ⟨s2, hD⟩
                  refine ⟨by show 0 ≤ sizeLine; decide, fun L nL => ?_⟩
                  have s3 : Same H2 (upd H2 L (.lst [])) := same_new nL
                  refine ⟨.list ((odds [d1, d2]).map PyData.int), .list (([] : List Int).map PyData.int), .lst (SqL.of (s3 _ _ hD)) (dp_ints K _ _), .lst (SqL.of (xs := ([] : List Int).map V.int) upd_same) (dp_ints K _ _), shaped_ints _, shaped_ints _, _, rfl, ?_⟩
                  have ee : PyData.eqv (.list ((odds [d1, d2]).map PyData.int)) (.list (([] : List Int).map PyData.int)) = decide (odds [d1, d2] = []) := eqv_ints _ _
                  rw [ee]
                  have sm3 : Same H (upd H2 L (.lst [])) := (sm.trans s2).trans s3
                  have ht3 := (s2.trans s3) _ _ ht
                  by_cases ho : odds [d1, d2] = []
                  · rw [decide_eq_true ho]
                    have i1 : isI d1 = true := by
                      cases e : isI d1 with
                      | true => rfl
                      | false => simp [odds, e] at ho
                    have i2 : isI d2 = true := by
                      cases e : isI d2 with
                      | true => rfl
                      | false => simp [odds, i1, e] at ho
                    obtain ⟨n1, rfl⟩ := isI_int i1
                    obtain ⟨n2, rfl⟩ := isI_int i2
                    cases h1
                    cases h2
                    have go : isMsg (.tuple [.int n1, .int n2]) w = ((decide (0 ≤ n1) && decide (n1 ≤ w - 1)) && (decide (-big60 ≤ n2) && decide (n2 ≤ big60))) := rfl
                    refine ⟨.ref t, rfl, t, [.int n1, .int n2], 0, .int n1, rfl, rfl, SqT.of ht3, rfl, 0, n1, rfl, rfl, _, rfl, ite2 (fun a1 => ?_) (fun a1 => ?_)⟩
                    · have b1 := of_decide_eq_true a1
                      refine ⟨.int w, rfl, n1, w, rfl, rfl, _, rfl, ?_⟩
                      by_cases b2 : n1 < w
                      · rw [decide_eq_true b2]
                        refine ⟨.ref t, rfl, t, [.int n1, .int n2], 1, .int n2, rfl, rfl, SqT.of ht3, rfl, n2, rfl, 10, 60, rfl, rfl, ⟨by decide, by decide, by decide⟩, _, _, rfl, rfl, _, rfl, ?_⟩
                        by_cases b3 : (if n2 < 0 then -n2 else n2) < 10 ^ (60 : Int).toNat
                        · rw [decide_eq_true b3]
                          refine ⟨_, _, rfl, sm3, yes ?_⟩
                          rw [go, decide_eq_true b1, decide_eq_true (show n1 ≤ w - 1 by omega)]
                          have b3' : (if n2 < 0 then -n2 else n2) < 10 ^ 60 := b3
                          unfold big60
                          rw [decide_eq_true (show -(10 ^ 60 - 1) ≤ n2 by split at b3' <;> omega), decide_eq_true (show n2 ≤ 10 ^ 60 - 1 by split at b3' <;> omega)]
                          rfl
                        · rw [decide_eq_false b3]
                          refine no ?_ _ sm3
                          rw [go]
                          have b3' : ¬ (if n2 < 0 then -n2 else n2) < 10 ^ 60 := b3
                          unfold big60
                          by_cases b4 : -(10 ^ 60 - 1) ≤ n2
                          · rw [decide_eq_false (show ¬ n2 ≤ 10 ^ 60 - 1 by split at b3' <;> omega)]
                            simp
                          · rw [decide_eq_false b4]
                            simp
                      · rw [decide_eq_false b2]
                        refine no ?_ _ sm3
                        rw [go, decide_eq_false (show ¬ n1 ≤ w - 1 by omega)]
                        simp
                    · refine ⟨_, rfl, no ?_ _ sm3⟩
                      rw [go, Bool.eq_false_iff.mpr a1]
                      rfl
                  · rw [decide_eq_false ho]
                    refine no ?_ _ sm3
                    show (btw d1 0 (w - 1) && btw d2 (-big60) big60) = false
                    cases e1 : isI d1 with
                    | false => rw [btw_of e1]; rfl
                    | true =>
                      cases e2 : isI d2 with
                      | false => rw [btw_of e2, Bool.and_false]
                      | true => exact absurd (by simp [odds, e1, e2]) ho
        | _ => exact no rfl _ sm
      · rintro σ H' ⟨y, y3, rfl, sm, ok⟩
        rw [hs.length, List.take_length] at ok
        have e : isStrm (.tuple ds) w = true := ok
        rw [e] at q
        exact q H' sm
    | _ => exact q H (Same.refl _)
end

/-! ### one part changed -/
theorem wts_split {ds : List PyData} {n : Nat} {d : PyData} (h : ds[n]? = some d) : wts (ds.take n) + wt d + wts (ds.drop (n + 1)) = wts ds := by
  have e := wts_take_drop ds (n + 1)
  rw [List.take_add_one, h, wts_app] at e
  simp only [Option.toList, wts] at e
  omega
theorem len_wts : ∀ ds : List PyData, ds.length ≤ wts ds
  | [] => Nat.le_refl _
  | d :: r => by
    have h := len_wts r
    have g : 1 ≤ wt d := by
      cases d <;> simp only [wt] <;> omega
    simp only [List.length_cons, wts]
    omega
/-- one part changed: what may come of d -/
structure Chg (d d' : PyData) : Prop where
  sm : Sm d'
  dep : d'.depth ≤ d.depth + 1
  wt : wt d' ≤ 2 * wt d + 4
def sp_ch (j : Nat) : Sp := fun vs H Q _ => ∃ (p c : Addr) (v : V) (d : PyData), vs = [.ref p, v] ∧ Pen H p c ∧ LD p H v d ∧ Sm d ∧ d.depth < j ∧ wt d ≤ 5000 ∧
  ∀ v' d' H', Keep p H H' → Pen H' p c → LD p H' v' d' → Chg d d' → Q v' H'
theorem Pen.has {H : Hp} {p c : Addr} (h : Pen H p c) : H p ≠ none := by
  obtain ⟨l, e⟩ := h.at
  rw [e]
  intro z
  cases z
theorem chg_tup {ds es : List PyData} (h : Sms es) (hd : PyData.depthAll es ≤ PyData.depthAll ds + 1) (hw : wts es ≤ 2 * wts ds + 4) : Chg (.tuple ds) (.tuple es) :=
  ⟨h, by simp only [PyData.depth]; omega, by simp only [Sb.wt]; omega⟩
def oddV (e0 t1 d1 : Addr) : List V := [.int 3, .int 2, .int (-1), .bl true, .bl false, .non, .str "0", .ref e0, .int (10 ^ 60), .int (-10 ^ 60), .int (10 ^ 60 - 1), .int (1 - 10 ^ 60), .ref t1, .ref d1]
def oddD : List PyData := [.int 3, .int 2, .int (-1), .bool true, .bool false, .none, .str "0", .tuple [], .int (10 ^ 60), .int (-10 ^ 60), .int (10 ^ 60 - 1), .int (1 - 10 ^ 60), .tuple [.int 0, .int 1], .dict []]
theorem odd_ld {p : Addr} {H : Hp} {e0 t1 d1 : Addr} (n0 : e0 ≠ p) (h0 : H e0 = some (.tup [])) (n1 : t1 ≠ p) (h1 : H t1 = some (.tup [.int 0, .int 1])) (n2 : d1 ≠ p) (h2 : H d1 = some (.dK [])) : LDs p H (oddV e0 t1 d1) oddD :=
  .cons (.int _) (.cons (.int _) (.cons (.int _) (.cons (.bl _) (.cons (.bl _) (.cons .non (.cons (.str _) (.cons (.tup n0 h0 .nil) (.cons (.int _) (.cons (.int _) (.cons (.int _) (.cons (.int _) (.cons (.tup n1 h1 (.cons (.int _) (.cons (.int _) .nil))) (.cons (.dic n2 h2) .nil)))))))))))))
theorem sms_one {d : PyData} (h : Sm d) : Sms [d] := ⟨h, trivial⟩
theorem sm_int {i : Int} (h : i.natAbs < 10 ^ 99) : Sm (.int i) := h
theorem odd_sms : Sms oddD :=
  ⟨sm_int (by decide +kernel), sm_int (by decide +kernel), sm_int (by decide +kernel), trivial, trivial, trivial, (by decide +kernel : (reprText "0").length ≤ 100), trivial, sm_int (by decide +kernel), sm_int (by decide +kernel), sm_int (by decide +kernel), sm_int (by decide +kernel),
    ⟨sm_int (by decide +kernel), sm_int (by decide +kernel), trivial⟩, rfl, trivial⟩
theorem odd_dep : ∀ d ∈ oddD, d.depth ≤ 1 ∧ wt d ≤ 4 := by
  intro d h
  simp only [oddD, List.mem_cons, List.not_mem_nil, or_false] at h
  rcases h with rfl | rfl | rfl | rfl | rfl | rfl | rfl | rfl | rfl | rfl | rfl | rfl | rfl | rfl <;> exact ⟨by decide, by decide⟩
section
variable {P : Program} {w : World} {K : PySem.W.Frag} {mg : Str → Option Value} {base : Heap}
abbrev N_law_changed : List Str := ["pen", "value", "at", "option", "odd"]
theorem sc_law_changed : FnScope N_law_changed ["pen", "value"] (defScope s_law_changed) := ⟨rfl, rfl, rfl, by decide +kernel, rfl, by decide +kernel, by decide +kernel⟩
theorem ok_law_changed {f f_law_draw : Addr} {fd fd_law_draw : FuncData} (F : Fun K "_law_changed" "_law_changed" s_law_changed f fd) (b_law_changed : Binds K fd ["pen", "value"] []) (g_law_changed : mg "_law_changed" = some (.ref f))
    (F_law_draw : Fun K "_law_draw" "_law_draw" s_law_draw f_law_draw fd_law_draw) (b_law_draw : Binds K fd_law_draw ["pen", "many"] []) (g_law_draw : mg "_law_draw" = some (.ref f_law_draw)) (G_law_draw : FnG P w K mg base CX0 2 f_law_draw fd_law_draw ["pen", "many"] sp_law_draw)
    (m_isinstance : mg "isinstance" = none) (m_tuple : mg "tuple" = none) (m_list : mg "list" = none) (m_len : mg "len" = none) : ∀ j : Nat, FnG P w K mg base CX0 (3 + j) f fd ["pen", "value"] (sp_ch j)
  | 0 => ⟨fun vs H Q E h => by obtain ⟨p, c, v, d, rfl, _⟩ := h; rfl, fun A o s H a us vs Q E g r e b vv h => by obtain ⟨p, c, v, d, rfl, _, _, _, hd, _⟩ := h; exact absurd hd (Nat.not_lt_zero _)⟩
  | j + 1 => by
    have G_law_changed := ok_law_changed F b_law_changed g_law_changed F_law_draw b_law_draw g_law_draw G_law_draw m_isinstance m_tuple m_list m_len j
    have F_law_changed := F
    show FnG P w K mg base CX0 ((3 + j) + 1) f fd ["pen", "value"] (sp_ch (j + 1))
    refine okG F sc_law_changed (fun vs H Q E h => ?_) (fun cdv A outer s H vs Q E gd hr h => ?_)
    · obtain ⟨p, c, v, d, rfl, _⟩ := h
      rfl
    · obtain ⟨p, c, v, d, rfl, hP, hv, hsm, hdj, hw, q⟩ := h
      refine ⟨_, 
      (C8.pss_cut (ps_if (PW.pt (pw_and (pt_val (pe_callB (call_isL kit_tup) (by rfl) m_isinstance (by decide +kernel) (pa_cons (pv 1) (pa_cons (pe_bltn (v := .ty "tuple") (by rfl) m_tuple (by decide +kernel) (show RelV (.ty "tuple") (.type "tuple") from rfl)) pa_nil)))) (pw_and (pt_cmpR (op_ne0 hr.units) (pv 1) (pe_tup pa_nil) (nomark _)) (pw_and1 (pt_cmpR op_gt (pe_callG G_law_draw gd (hr.mono (by omega)) rfl g_law_draw F_law_draw.kp b_law_draw .nil pass0 (pa_cons (pv 0) (pa_cons pe_int pa_nil))) pe_int (nomark _)))))) 
        (pss_cons (ps_par (i := 2) (j := 3) rfl sc_law_changed.nd rfl rfl (by decide) rfl rfl (pa_cons (pe_callG G_law_draw gd (hr.mono (by omega)) rfl g_law_draw F_law_draw.kp b_law_draw .nil pass0 (pa_cons (pv 0) (pa_cons (pe_callB call_len_seq (by rfl) m_len PySem.boot_len (pa_cons (pv 1) pa_nil)) pa_nil))) (pa_cons (pe_callG G_law_draw gd (hr.mono (by omega)) rfl g_law_draw F_law_draw.kp b_law_draw .nil pass0 (pa_cons (pv 0) (pa_cons pe_int pa_nil))) pa_nil)) rfl) -- at, option = (_law_draw(pen, len(value)), _law_draw(pen, 7))
        (pss_cons (ps_if (pt_cmpR op_eq (pv 3) pe_int (nomark _)) 
          (pss_one (ps_ret (pe_op (op_catL (p := p)) (pe_slice (sl_L (p := p)) (pv 1) po_none (po_some (pv 2))) (pe_slice (sl_L (p := p)) (pv 1) (po_some (pe_op op_add (pv 2) pe_int)) po_none)))) -- return value[:at] + value[at + 1:]
           pss_nil) -- if option == 0:
        (pss_cons (ps_if (pt_cmpR op_eq (pv 3) pe_int (nomark _)) 
          (pss_one (ps_ret (pe_op (op_catL (p := p)) (pe_op (op_catL (p := p)) (pe_slice (sl_L (p := p)) (pv 1) po_none (po_some (pv 2))) (pe_tup (pa_cons (pe_ix ix_tup (pv 1) (pv 2) (fun _ _ => rfl)) pa_nil))) (pe_slice (sl_L (p := p)) (pv 1) (po_some (pv 2)) po_none)))) -- return value[:at] + (value[at],) + value[at:]
           pss_nil) -- if option == 1:
        (pss_cons (ps_if (pt_cmpR op_eq (pv 3) pe_int (nomark _)) 
          (pss_one (ps_ret (pe_callTy call_lstL (by rfl) m_list (by decide +kernel) (pa_cons (pv 1) pa_nil)))) -- return list(value)
           pss_nil) -- if option == 2:
        (pss_one (ps_ret (pe_op (op_catL (p := p)) (pe_op (op_catL (p := p)) (pe_slice (sl_L (p := p)) (pv 1) po_none (po_some (pv 2))) (pe_tup (pa_cons (pe_callG G_law_changed gd (hr.mono (by omega)) rfl g_law_changed F_law_changed.kp b_law_changed .nil pass0 (pa_cons (pv 0) (pa_cons (pe_ix ix_tup (pv 1) (pv 2) (fun _ _ => rfl)) pa_nil))) pa_nil))) (pe_slice (sl_L (p := p)) (pv 1) (po_some (pe_op op_add (pv 2) pe_int)) po_none)))) -- return value[:at] + (_law_changed(pen, value[at]),) + value[at + 1:]
        )))) pss_nil) -- if isinstance(value, tuple) and value != () and (_law_draw(pen, 5) > 0):
      (C8.pss_cut (ps_set (i := 4) sc_law_changed.nd rfl (.inl rfl) (pe_lst (pa_cons pe_int (pa_cons pe_int (pa_cons (pe_un un_neg pe_int) (pa_cons pe_bl (pa_cons pe_bl (pa_cons pe_non (pa_cons pe_str (pa_cons (pe_tup pa_nil) (pa_cons (pe_op op_pow pe_int pe_int) (pa_cons (pe_un un_neg (pe_op op_pow pe_int pe_int)) (pa_cons (pe_op op_sub (pe_op op_pow pe_int pe_int) pe_int) (pa_cons (pe_op op_sub pe_int (pe_op op_pow pe_int pe_int)) pa_nil)))))))))))))) -- odd = [3, 2, -1, True, False, None, '0', (), 10 ** 60, -10 ** 60, 10 ** 60 - 1, 1 - 10 ** 60]
      (C8.pss_cut (ps_set (i := 4) sc_law_changed.nd rfl (.inl rfl) (pe_op op_cat (pv 4) (pe_lst (pa_cons (pe_tup (pa_cons pe_int (pa_cons pe_int pa_nil))) (pa_cons pe_dnewK pa_nil))))) -- odd = odd + [(0, 1), {}]
      (pss_one (ps_ret (pe_ix ix_list (pv 4) (pe_callG G_law_draw gd (hr.mono (by omega)) rfl g_law_draw F_law_draw.kp b_law_draw .nil pass0 (pa_cons (pv 0) (pa_cons (pe_callB call_len_seq (by rfl) m_len PySem.boot_len (pa_cons (pv 4) pa_nil)) pa_nil))) (fun _ _ => rfl)))) -- return odd[_law_draw(pen, len(odd))]
      ))) , ?_⟩
      refine ⟨fun σ H' => σ = [some (.ref p), some v, none, none, none] ∧ Keep p H H' ∧ Pen H' p c, ?_, ?_⟩
      · refine ⟨v, rfl, p, v, d, rfl, hv, _, rfl, ?_⟩
        have hv0 := hv
        cases hv with
        | @tup a xs ds na ha hs =>
          refine ⟨.ref a, rfl, by show 0 ≤ sizeLine; decide, fun e ne => ?_⟩
          have sE : Same H (upd H e (.tup [])) := same_new ne
          refine ⟨a, e, xs, rfl, rfl, sE _ _ ha, upd_same, _, rfl, ?_⟩
          have kE : Keep p H (upd H e (.tup [])) := Keep.same sE
          have hPE := hP.mono sE
          generalize upd H e (.tup []) = H1 at kE hPE
          by_cases hxe : xs = []
          · have eb : (!xs.isEmpty) = false := by rw [hxe]; rfl
            rw [eb]
            exact ⟨rfl, kE, hPE⟩
          · have eb : (!xs.isEmpty) = true := by
              cases xs with
              | nil => exact absurd rfl hxe
              | cons _ _ => rfl
            rw [eb]
            have lx := hs.length
            have hpos : 0 < xs.length := List.length_pos_iff.mpr hxe
            have wtd : wt (.tuple ds) = wts ds + 1 := rfl
            have depd : PyData.depth (.tuple ds) = PyData.depthAll ds + 1 := rfl
            have lds := len_wts ds
            refine ⟨.ref p, rfl, p, c, 5, rfl, hPE, by decide, by decide, fun d5 H2 a0 a1 k2 hP2 => ?_⟩
            have k2' := kE.trans k2
            refine ⟨d5, 0, rfl, rfl, _, rfl, ite2 (fun _ => ?_) (fun _ => ⟨rfl, k2', hP2⟩)⟩
            refine ⟨.ref p, rfl, .ref a, rfl, a, xs, rfl, .inr (SqT.of (k2' _ _ ha na)), p, c, _, rfl, hP2, by omega, by omega, fun at_ H3 b0 b1 k3 hP3 => ?_⟩
            obtain ⟨n, rfl⟩ : ∃ n : Nat, at_ = n := ⟨at_.toNat, by omega⟩
            refine ⟨.ref p, rfl, p, c, 7, rfl, hP3, by decide, by decide, fun op H4 c0 c1 k4 hP4 => ?_⟩
            refine ⟨.int n, .int op, rfl, ?_⟩
            have k4' := (k2'.trans k3).trans k4
            replace hv := LD.mono k4' _ hv0
            replace ha := k4' _ _ ha na
            replace hs := LDs.mono k4' _ hs
            have hn : n < xs.length := by omega
            obtain ⟨ed, ee, hed⟩ := hs.get (List.getElem?_eq_getElem hn)
            have ht := Sms.take n (show Sms ds from hsm)
            have hdr := Sms.drop n (show Sms ds from hsm)
            have hdr1 := Sms.drop (n + 1) (show Sms ds from hsm)
            have hes : Sm ed := Sms.get (show Sms ds from hsm) ee
            have dc := depth_cut ds n
            have dc1 := depth_cut ds (n + 1)
            have de := depth_get ee
            have we := wts_split ee
            have wd := wts_take_drop ds n
            have hnd : n ≤ ds.length := by omega
            have hnd1 : n + 1 ≤ ds.length := by omega
            have lt := len_wts (ds.take n)
            have ld := len_wts (ds.drop n)
            have ld1 := len_wts (ds.drop (n + 1))
            refine ⟨.int op, rfl, rfl, _, rfl, ite2 (fun _ => ?_) (fun _ => ?_)⟩
            · -- value[:at] + value[at + 1:]
              refine ⟨.ref a, rfl, .int n, rfl, n, rfl, ds, hv, hP4.has, fun u1 H5 s5 g1 => ?_⟩
              rw [cutA_to _ hnd] at g1
              refine ⟨.ref a, rfl, .int n, rfl, n, 1, rfl, rfl, ((n : Int) + 1), rfl, ds, LD.mono (But.same s5) _ hv, (hP4.mono s5).has, fun u2 H6 s6 g2 => ?_⟩
              rw [show ((n : Int) + 1) = ((n + 1 : Nat) : Int) by omega, cutA_from _ hnd1] at g2
              refine ⟨_, _, LD.mono (But.same s6) _ g1, g2, ((hP4.mono s5).mono s6).has, by omega, fun u3 H7 s7 g3 => ?_⟩
              have s57 := (s5.trans s6).trans s7
              refine q _ _ _ (k4'.trans (Keep.same s57)) (hP4.mono s57) g3 (chg_tup (ht.app hdr1) ?_ ?_)
              · rw [depthAll_app]; omega
              · rw [wts_app]; omega
            · refine ⟨.int op, rfl, rfl, _, rfl, ite2 (fun _ => ?_) (fun _ => ?_)⟩
              · -- value[:at] + (value[at],) + value[at:]
                refine ⟨.ref a, rfl, .int n, rfl, n, rfl, ds, hv, hP4.has, fun u1 H5 s5 g1 => ?_⟩
                rw [cutA_to _ hnd] at g1
                have ha5 := s5 _ _ ha
                refine ⟨.ref a, rfl, .int n, rfl, a, xs, n, xs[n], rfl, rfl, SqT.of ha5, atI_nat (List.getElem?_eq_getElem hn), by show 1 ≤ sizeLine; decide, fun u2 n2 => ?_⟩
                have s6 : Same H5 (upd H5 u2 (.tup [xs[n]])) := same_new n2
                have g2 : LD p (upd H5 u2 (.tup [xs[n]])) (.ref u2) (.tuple [ed]) := .tup (ne_at (hP4.mono s5).has n2) upd_same (.cons (LD.mono (But.same (s5.trans s6)) _ hed) .nil)
                refine ⟨_, _, LD.mono (But.same s6) _ g1, g2, ((hP4.mono s5).mono s6).has, by show _ + 1 ≤ _; omega, fun u3 H7 s7 g3 => ?_⟩
                have s57 := (s5.trans s6).trans s7
                refine ⟨.ref a, rfl, .int n, rfl, n, rfl, ds, LD.mono (But.same s57) _ hv, (hP4.mono s57).has, fun u4 H8 s8 g4 => ?_⟩
                rw [cutA_from _ hnd] at g4
                refine ⟨_, _, LD.mono (But.same s8) _ g3, g4, ((hP4.mono s57).mono s8).has, by rw [List.length_append]; show _ + 1 + _ ≤ _; omega, fun u5 H9 s9 g5 => ?_⟩
                have s59 := (s57.trans s8).trans s9
                refine q _ _ _ (k4'.trans (Keep.same s59)) (hP4.mono s59) g5 (chg_tup ((ht.app (sms_one hes)).app hdr) ?_ ?_)
                · rw [depthAll_app, depthAll_app]
                  simp only [PyData.depthAll]
                  omega
                · rw [wts_app, wts_app]
                  simp only [wts]
                  omega
              · refine ⟨.int op, rfl, rfl, _, rfl, ite2 (fun _ => ?_) (fun _ => ?_)⟩
                · -- list(value)
                  refine ⟨.ref a, rfl, a, xs, rfl, ha, fun L nL big => ?_⟩
                  have s5 : Same H4 (upd H4 L (.lst xs)) := same_new nL
                  refine q _ _ _ (k4'.trans (Keep.same s5)) (hP4.mono s5) (.lst (ne_at hP4.has nL) big upd_same (LDs.mono (But.same s5) _ hs)) ⟨hsm, ?_, ?_⟩
                  · simp only [PyData.depth]; omega
                  · simp only [Sb.wt]; omega
                · -- one part changed itself
                  refine ⟨.ref a, rfl, .int n, rfl, n, rfl, ds, hv, hP4.has, fun u1 H5 s5 g1 => ?_⟩
                  rw [cutA_to _ hnd] at g1
                  have ha5 := s5 _ _ ha
                  refine ⟨.ref p, rfl, .ref a, rfl, .int n, rfl, a, xs, n, xs[n], rfl, rfl, SqT.of ha5, atI_nat (List.getElem?_eq_getElem hn), p, c, xs[n], ed, rfl, hP4.mono s5, LD.mono (But.same s5) _ hed, hes, by omega, by omega, fun v' d' H6 k6 hP6 gv cg => ?_⟩
                  have b6 : But p H5 H6 := k6
                  refine ⟨by show 1 ≤ sizeLine; decide, fun u2 n2 => ?_⟩
                  have s7 : Same H6 (upd H6 u2 (.tup [v'])) := same_new n2
                  have g2 : LD p (upd H6 u2 (.tup [v'])) (.ref u2) (.tuple [d']) := .tup (ne_at hP6.has n2) upd_same (.cons (LD.mono (But.same s7) _ gv) .nil)
                  refine ⟨_, _, LD.mono (But.same s7) _ (LD.mono b6 _ g1), g2, (hP6.mono s7).has, by show _ + 1 ≤ _; omega, fun u3 H8 s8 g3 => ?_⟩
                  have s78 := s7.trans s8
                  refine ⟨.ref a, rfl, .int n, rfl, n, 1, rfl, rfl, ((n : Int) + 1), rfl, ds, LD.mono (But.same s78) _ (LD.mono b6 _ (LD.mono (But.same s5) _ hv)), (hP6.mono s78).has, fun u4 H9 s9 g4 => ?_⟩
                  rw [show ((n : Int) + 1) = ((n + 1 : Nat) : Int) by omega, cutA_from _ hnd1] at g4
                  refine ⟨_, _, LD.mono (But.same s9) _ g3, g4, ((hP6.mono s78).mono s9).has, by rw [List.length_append]; show _ + 1 + _ ≤ _; omega, fun u5 H10 s10 g5 => ?_⟩
                  have s710 := (s78.trans s9).trans s10
                  have cw := cg.wt
                  have cd := cg.dep
                  refine q _ _ _ (((k4'.trans (Keep.same s5)).trans k6).trans (Keep.same s710)) (hP6.mono s710) g5 (chg_tup ((ht.app (sms_one cg.sm)).app hdr1) ?_ ?_)
                  · rw [depthAll_app, depthAll_app]
                    simp only [PyData.depthAll]
                    omega
                  · rw [wts_app, wts_app]
                    simp only [wts]
                    omega
        | _ => exact ⟨rfl, Keep.refl, hP⟩
      rintro σ H1 ⟨rfl, k1, hP1⟩
      -- odd = [..]
      refine ⟨fun σ H' => ∃ e0 l : Addr, σ = [some (.ref p), some v, none, none, some (.ref l)] ∧ Same H1 H' ∧ H' e0 = some (.tup []) ∧ H1 e0 = none ∧ H' l = some (.lst [.int 3, .int 2, .int (-1), .bl true, .bl false, .non, .str "0", .ref e0, .int (10 ^ 60), .int (-10 ^ 60), .int (10 ^ 60 - 1), .int (1 - 10 ^ 60)]), ?_, ?_⟩
      · refine ⟨1, rfl, by show 0 ≤ sizeLine; decide, fun e0 n0 => ?_⟩
        refine ⟨10, 60, rfl, rfl, ⟨by decide, by decide, by decide⟩, 10, 60, rfl, rfl, ⟨by decide, by decide, by decide⟩, _, rfl, 10, 60, rfl, rfl, ⟨by decide, by decide, by decide⟩, _, _, rfl, rfl, 10, 60, rfl, rfl, ⟨by decide, by decide, by decide⟩, _, _, rfl, rfl, by show 12 ≤ sizeLine; decide, fun l nl => ?_⟩
        have s2 : Same (upd H1 e0 (.tup [])) (upd (upd H1 e0 (.tup [])) l (.lst [.int 3, .int 2, .int (-1), .bl true, .bl false, .non, .str "0", .ref e0, .int (10 ^ 60), .int (-10 ^ 60), .int (10 ^ 60 - 1), .int (1 - 10 ^ 60)])) := same_new nl
        exact ⟨e0, l, rfl, (same_new n0).trans s2, s2 _ _ upd_same, n0, upd_same⟩
      rintro σ H2 ⟨e0, l, rfl, s2, he0, ne0, hl⟩
      -- odd = odd + [(0, 1), {}]
      refine ⟨fun σ H' => ∃ t1 d1 l2 : Addr, σ = [some (.ref p), some v, none, none, some (.ref l2)] ∧ Same H1 H' ∧ H' e0 = some (.tup []) ∧ H1 t1 = none ∧ H1 d1 = none ∧ H' t1 = some (.tup [.int 0, .int 1]) ∧ H' d1 = some (.dK []) ∧ H' l2 = some (.lst (oddV e0 t1 d1)) ∧ l2 ≠ p, ?_, ?_⟩
      · refine ⟨.ref l, rfl, by show 2 ≤ sizeLine; decide, fun t1 n1 => fun d1 n2 => ⟨by show 2 ≤ sizeLine; decide, fun m n3 => ?_⟩⟩
        have sa : Same H2 (upd H2 t1 (.tup [.int 0, .int 1])) := same_new n1
        have sb : Same (upd H2 t1 (.tup [.int 0, .int 1])) (upd (upd H2 t1 (.tup [.int 0, .int 1])) d1 (.dK [])) := same_new n2
        have sc : Same (upd (upd H2 t1 (.tup [.int 0, .int 1])) d1 (.dK [])) (upd (upd (upd H2 t1 (.tup [.int 0, .int 1])) d1 (.dK [])) m (.lst [.ref t1, .ref d1])) := same_new n3
        have ht1 := (sb.trans sc) _ _ (upd_same (H := H2) (a := t1) (o := .tup [.int 0, .int 1]))
        have hd1 := sc _ _ (upd_same (H := upd H2 t1 (.tup [.int 0, .int 1])) (a := d1) (o := .dK []))
        have hm : upd (upd (upd H2 t1 (.tup [.int 0, .int 1])) d1 (.dK [])) m (.lst [.ref t1, .ref d1]) m = some (.lst [.ref t1, .ref d1]) := upd_same
        have sd := (sa.trans sb).trans sc
        generalize upd (upd (upd H2 t1 (.tup [.int 0, .int 1])) d1 (.dK [])) m (.lst [.ref t1, .ref d1]) = H3 at sd ht1 hd1 hm sb sc
        refine ⟨l, m, _, _, rfl, rfl, sd _ _ hl, hm, by show 14 ≤ sizeLine; decide, fun l2 n4 => ?_⟩
        have se : Same H3 (upd H3 l2 (.lst (oddV e0 t1 d1))) := same_new n4
        have sall := (s2.trans sd).trans se
        refine ⟨t1, d1, l2, rfl, sall, (sd.trans se) _ _ he0, s2.free n1, s2.free ((same_new (o := .tup [.int 0, .int 1]) n1).free n2), se _ _ ht1, se _ _ hd1, upd_same, ?_⟩
        exact ne_at (((hP1.mono s2).mono sd)).has n4
      rintro σ H3 ⟨t1, d1, l2, rfl, s3, he0, n1, n2, ht1, hd1, hl2, nlp⟩
      have hP3 := hP1.mono s3
      have lo := odd_ld (ne_at hP1.has ne0) he0 (ne_at hP1.has n1) ht1 (ne_at hP1.has n2) hd1
      -- return odd[draw]
      refine ⟨.ref l2, rfl, .ref p, rfl, .ref l2, rfl, l2, _, rfl, .inl (SqL.of hl2), p, c, _, rfl, hP3, by show (0 : Int) < 14; decide, by show (14 : Int) < 2 ^ 100; decide, fun k H4 a0 a1 k4 hP4 => ?_⟩
      have a1' : k < 14 := a1
      obtain ⟨k, rfl⟩ : ∃ n : Nat, k = n := ⟨k.toNat, by omega⟩
      have hk : k < (oddV e0 t1 d1).length := by show k < 14; omega
      have ek := List.getElem?_eq_getElem hk
      obtain ⟨dk, edk, hdk⟩ := lo.get ek
      obtain ⟨dd, dw⟩ := odd_dep dk (List.mem_of_getElem? edk)
      have b4 : But p H3 H4 := k4
      refine ⟨l2, _, k, _, rfl, rfl, SqL.of (k4 _ _ hl2 nlp), atI_nat ek, ?_⟩
      refine q _ dk _ ((k1.trans (Keep.same s3)).trans k4) hP4 (LD.mono b4 _ hdk) ⟨Sms.get odd_sms edk, by omega, by omega⟩
end

/-! ### the outcome -/
def sp_law_raised : Sp := fun vs H Q _ => ∃ (p : Addr) (v : V) (d : PyData) (w : Int), vs = [v, .int w] ∧ LD p H v d ∧ H p ≠ none ∧ d.showable = true ∧ d.depth ≤ 60 ∧ d.shown.length ≤ sizeLine ∧
  ∀ a H', Same H H' → H' a = some (.tup [.str (if isStrm d w = true then "stream" else "none"), .str d.shown]) → Q (.ref a) H'
section
variable {P : Program} {w : World} {K : PySem.W.Frag} {mg : Str → Option Value} {base : Heap}
abbrev N_law_raised : List Str := ["value", "words", "found", "e"]
theorem sc_law_raised : FnScope N_law_raised ["value", "words"] (defScope s_law_raised) := ⟨rfl, rfl, rfl, by decide +kernel, rfl, by decide +kernel, by decide +kernel⟩
theorem ok_law_raised {f f_require_stream C fI : Addr} {fd fd_require_stream : FuncData} {qual : Str} {b : OwnE.Base} (F : Fun K "_law_raised" "_law_raised" s_law_raised f fd) (F_require_stream : Fun K "require_stream" "require_stream" s_require_stream f_require_stream fd_require_stream) (b_require_stream : Binds K fd_require_stream ["value", "words"] [])
    (g_require_stream : mg "require_stream" = some (.ref f_require_stream)) (G_require_stream : FnG P w K mg base (L2.CX P w) 6 f_require_stream fd_require_stream ["value", "words"] (sp_require_stream C)) (T : L2.ErrOk b "NotAStream" "value" qual K mg C fI) (m_repr : mg "repr" = none) :
    FnG P w K mg base CX0 7 f fd ["value", "words"] sp_law_raised := by
  refine okG F sc_law_raised (fun vs H Q E h => ?_) (fun cdv A outer s H vs Q E gd hr h => ?_)
  · obtain ⟨p, v, d, w, rfl, _⟩ := h
    rfl
  · obtain ⟨p, v, d, w, rfl, hv, hp, sho, dep, len, q⟩ := h
    refine ⟨_, 
      (pss_cons (ps_set (i := 2) sc_law_raised.nd rfl (.inl rfl) pe_non) -- found = None
      (pss_cons (ps_try_as (i := 3) (Wout := fun _ _ _ _ => False) rfl rfl sc_law_raised.nd rfl rfl ⟨rfl, by decide, Or.inl T.T.gC⟩ takes0
        (fun W pn xe tk _ => pss_one (ps_set (i := 2) sc_law_raised.nd rfl (.inl rfl) (by exact (pe_tup (pa_cons pe_str (pa_cons (pe_callB (call_reprL gd hr.units) (by rfl) m_repr (by decide +kernel) (pa_cons (pe_callGS G_require_stream gd (hr.mono (by decide)) rfl g_require_stream F_require_stream.kp b_require_stream (fun σ => passAt tk σ) (pa_cons (pv 0) (pa_cons (pv 1) pa_nil))) pa_nil)) pa_nil))))))
        (fun a oe cls d pn hz hf => pss_one (ps_set (i := 2) sc_law_raised.nd rfl (.inl rfl) (by exact (pe_tup (pa_cons pe_str (pa_cons (pe_callB (call_reprL gd hr.units) (by rfl) m_repr (by decide +kernel) (pa_cons (L2.pe_byE T hz hf (pv 3)) pa_nil)) pa_nil)))))))
      (pss_one (ps_ret (pv 2))) -- return found
      )), ?_⟩
    refine ⟨v, rfl, .int w, rfl, p, v, d, w, rfl, hv, fun ok => ?_, fun bad e he => ?_⟩
    · refine ⟨p, v, d, rfl, hv, sho, dep, len, by show 2 ≤ sizeLine; decide, fun t nt => ?_⟩
      refine ⟨.ref t, rfl, q t _ (same_new nt) ?_⟩
      rw [if_pos ok]
      exact upd_same
    · refine ⟨true, T.T.te, fun _ a0 na0 => ?_, fun z => Bool.noConfusion z⟩
      have s1 : Same H (upd H e (.xd [(("value" : Str), v)])) := same_new he
      refine ⟨.ref a0, rfl, rfl, rfl, e, v, rfl, upd_same, ?_⟩
      refine ⟨p, v, d, rfl, LD.mono (But.same s1) _ hv, sho, dep, len, by show 2 ≤ sizeLine; decide, fun t nt => ?_⟩
      refine ⟨.ref t, rfl, q t _ (s1.trans (same_new nt)) ?_⟩
      rw [if_neg (by rw [bad]; exact Bool.false_ne_true)]
      exact upd_same
end

/-- where the defs stand -/
structure Txt (K : PySem.W.Frag) (mg : Str → Option Value) (f_is_integer f_is_between f_require_stream f_is_stream f_is_message f_is_message_value f_law_pen f_law_fresh f_law_draw f_law_stream f_law_is f_law_changed f_law_raised C_NotAStream i_NotAStream : Addr) (fd_is_integer fd_is_between fd_require_stream fd_is_stream fd_is_message fd_is_message_value fd_law_pen fd_law_fresh fd_law_draw fd_law_stream fd_law_is fd_law_changed fd_law_raised : FuncData) : Prop where
  F_is_integer : Fun K "is_integer" "is_integer" s_is_integer f_is_integer fd_is_integer
  b_is_integer : Binds K fd_is_integer ["value"] []
  g_is_integer : mg "is_integer" = some (.ref f_is_integer)
  F_is_between : Fun K "is_between" "is_between" s_is_between f_is_between fd_is_between
  b_is_between : Binds K fd_is_between ["value", "low", "high"] []
  g_is_between : mg "is_between" = some (.ref f_is_between)
  F_require_stream : Fun K "require_stream" "require_stream" s_require_stream f_require_stream fd_require_stream
  b_require_stream : Binds K fd_require_stream ["value", "words"] []
  g_require_stream : mg "require_stream" = some (.ref f_require_stream)
  F_is_stream : Fun K "is_stream" "is_stream" s_is_stream f_is_stream fd_is_stream
  b_is_stream : Binds K fd_is_stream ["value", "words"] []
  g_is_stream : mg "is_stream" = some (.ref f_is_stream)
  F_is_message : Fun K "is_message" "is_message" s_is_message f_is_message fd_is_message
  b_is_message : Binds K fd_is_message ["message", "words"] []
  g_is_message : mg "is_message" = some (.ref f_is_message)
  F_is_message_value : Fun K "is_message_value" "is_message_value" s_is_message_value f_is_message_value fd_is_message_value
  b_is_message_value : Binds K fd_is_message_value ["value"] []
  g_is_message_value : mg "is_message_value" = some (.ref f_is_message_value)
  F_law_pen : Fun K "_law_pen" "_law_pen" s_law_pen f_law_pen fd_law_pen
  b_law_pen : Binds K fd_law_pen ["script"] []
  g_law_pen : mg "_law_pen" = some (.ref f_law_pen)
  F_law_fresh : Fun K "_law_fresh" "_law_fresh" s_law_fresh f_law_fresh fd_law_fresh
  b_law_fresh : Binds K fd_law_fresh ["pen"] []
  g_law_fresh : mg "_law_fresh" = some (.ref f_law_fresh)
  F_law_draw : Fun K "_law_draw" "_law_draw" s_law_draw f_law_draw fd_law_draw
  b_law_draw : Binds K fd_law_draw ["pen", "many"] []
  g_law_draw : mg "_law_draw" = some (.ref f_law_draw)
  F_law_stream : Fun K "_law_stream" "_law_stream" s_law_stream f_law_stream fd_law_stream
  b_law_stream : Binds K fd_law_stream ["pen", "words", "most", "values"] []
  g_law_stream : mg "_law_stream" = some (.ref f_law_stream)
  F_law_is : Fun K "_law_is" "_law_is" s_law_is f_law_is fd_law_is
  b_law_is : Binds K fd_law_is ["value", "words"] []
  g_law_is : mg "_law_is" = some (.ref f_law_is)
  F_law_changed : Fun K "_law_changed" "_law_changed" s_law_changed f_law_changed fd_law_changed
  b_law_changed : Binds K fd_law_changed ["pen", "value"] []
  g_law_changed : mg "_law_changed" = some (.ref f_law_changed)
  F_law_raised : Fun K "_law_raised" "_law_raised" s_law_raised f_law_raised fd_law_raised
  b_law_raised : Binds K fd_law_raised ["value", "words"] []
  g_law_raised : mg "_law_raised" = some (.ref f_law_raised)
  T_NotAStream : L2.ErrOk OwnE.bVE "NotAStream" "value" "NotAStream.__init__" K mg C_NotAStream i_NotAStream
  m_list : mg "list" = none
  m_len : mg "len" = none
  m_range : mg "range" = none
  m_tuple : mg "tuple" = none
  m_repr : mg "repr" = none
  m_abs : mg "abs" = none
  m_isinstance : mg "isinstance" = none
  m_bool : mg "bool" = none
  m_int : mg "int" = none
/-! ### the law -/
theorem short_sm {ms : List (Int × Int)} (h : ∀ m ∈ ms, m.1.natAbs < 10 ^ 99 ∧ m.2.natAbs < 10 ^ 99) : Sms (ms.map msgD) ∧ PyData.depthAll (ms.map msgD) ≤ 1 ∧ wts (ms.map msgD) = 3 * ms.length := by
  induction ms with
  | nil => exact ⟨trivial, Nat.zero_le _, rfl⟩
  | cons m r ih =>
    obtain ⟨a, b, c⟩ := ih fun x hx => h x (List.mem_cons_of_mem _ hx)
    have hm := h m List.mem_cons_self
    refine ⟨⟨⟨sm_int hm.1, sm_int hm.2, trivial⟩, a⟩, ?_, ?_⟩
    · simp only [List.map_cons, PyData.depthAll]
      exact Nat.max_le.mpr ⟨Nat.le_refl 1, b⟩
    · simp only [List.map_cons, wts, c, List.length_cons, msgD, Sb.wt]
      omega
section
variable {P : Program} {w : World} {K : PySem.W.Frag} {mg : Str → Option Value} {base : Heap}
def sp_law (K : PySem.W.Frag) : Sp := fun vs H Q _ => ∃ (a : Addr) (ns : List Int), vs = [.ref a] ∧ SqL K H a (ns.map V.int) ∧ ns.length ≤ 63 ∧ ∀ H', Q (.bl true) H'
abbrev N_law : List Str := ["script", "pen", "turn", "many", "value", "lap", "before", "due"]
theorem sc_law : FnScope N_law ["script"] (defScope s_law) := ⟨rfl, rfl, rfl, by decide +kernel, rfl, by decide +kernel, by decide +kernel⟩
theorem ok_law {f f_is_integer f_is_between f_require_stream f_is_stream f_is_message f_is_message_value f_law_pen f_law_fresh f_law_draw f_law_stream f_law_is f_law_changed f_law_raised C_NotAStream i_NotAStream : Addr} {fd fd_is_integer fd_is_between fd_require_stream fd_is_stream fd_is_message fd_is_message_value fd_law_pen fd_law_fresh fd_law_draw fd_law_stream fd_law_is fd_law_changed fd_law_raised : FuncData} (F : Fun K "law" "law" s_law f fd)
    (T : Txt K mg f_is_integer f_is_between f_require_stream f_is_stream f_is_message f_is_message_value f_law_pen f_law_fresh f_law_draw f_law_stream f_law_is f_law_changed f_law_raised C_NotAStream i_NotAStream fd_is_integer fd_is_between fd_require_stream fd_is_stream fd_is_message fd_is_message_value fd_law_pen fd_law_fresh fd_law_draw fd_law_stream fd_law_is fd_law_changed fd_law_raised) : FnG P w K mg base CX0 10 f fd ["script"] (sp_law K) := by
  obtain ⟨F_is_integer, b_is_integer, g_is_integer, F_is_between, b_is_between, g_is_between, F_require_stream, b_require_stream, g_require_stream, F_is_stream, b_is_stream, g_is_stream, F_is_message, b_is_message, g_is_message, F_is_message_value, b_is_message_value, g_is_message_value, F_law_pen, b_law_pen, g_law_pen, F_law_fresh, b_law_fresh, g_law_fresh, F_law_draw, b_law_draw, g_law_draw, F_law_stream, b_law_stream, g_law_stream, F_law_is, b_law_is, g_law_is, F_law_changed, b_law_changed, g_law_changed, F_law_raised, b_law_raised, g_law_raised, T_NotAStream, m_list, m_len, m_range, m_tuple, m_repr, m_abs, m_isinstance, m_bool, m_int⟩ := T
  have G_law_pen : FnG P w K mg base CX0 1 f_law_pen fd_law_pen ["script"] (sp_law_pen K) := ok_law_pen F_law_pen m_list
  have G_law_draw : FnG P w K mg base CX0 2 f_law_draw fd_law_draw ["pen", "many"] sp_law_draw := ok_law_draw F_law_draw F_law_fresh b_law_fresh g_law_fresh m_len m_range
  have G_law_stream : FnG P w K mg base CX0 3 f_law_stream fd_law_stream ["pen", "words", "most", "values"] sp_law_stream := ok_law_stream F_law_stream F_law_draw b_law_draw g_law_draw G_law_draw m_len m_range m_tuple
  have G_is_between : FnG P w K mg base CX0 2 f_is_between fd_is_between ["value", "low", "high"] sp_is_between := ok_is_between F_is_between F_is_integer b_is_integer g_is_integer m_isinstance m_int m_bool
  have G_is_message : FnG P w K mg base CX0 4 f_is_message fd_is_message ["message", "words"] sp_is_message := ok_is_message F_is_message F_is_between b_is_between F_is_message_value b_is_message_value g_is_message_value g_is_between G_is_between m_isinstance m_tuple m_len
  have G_is_stream : FnG P w K mg base CX0 5 f_is_stream fd_is_stream ["value", "words"] sp_is_stream := ok_is_stream F_is_stream F_is_message b_is_message g_is_message G_is_message m_isinstance m_tuple
  have G_require_stream : FnG P w K mg base (L2.CX P w) 6 f_require_stream fd_require_stream ["value", "words"] (sp_require_stream C_NotAStream) := ok_require_stream F_require_stream F_is_stream b_is_stream g_is_stream G_is_stream T_NotAStream
  have G_law_is : FnG P w K mg base CX0 1 f_law_is fd_law_is ["value", "words"] sp_law_is := ok_law_is F_law_is m_isinstance m_int m_bool m_tuple m_len m_abs
  have G_law_changed : FnG P w K mg base CX0 9 f_law_changed fd_law_changed ["pen", "value"] (sp_ch 6) := ok_law_changed F_law_changed b_law_changed g_law_changed F_law_draw b_law_draw g_law_draw G_law_draw m_isinstance m_tuple m_list m_len 6
  have G_law_raised : FnG P w K mg base CX0 7 f_law_raised fd_law_raised ["value", "words"] sp_law_raised := ok_law_raised F_law_raised F_require_stream b_require_stream g_require_stream G_require_stream T_NotAStream m_repr
  refine okG F sc_law (fun vs H Q E h => ?_) (fun cdv A outer s H vs Q E gd hr h => ?_)
  · obtain ⟨a, ns, rfl, _⟩ := h
    rfl
  · obtain ⟨a, ns, rfl, hS, hl, q⟩ := h
    refine ⟨_, 
      (pss_cons (ps_set (i := 1) sc_law.nd rfl (.inl rfl) (pe_callG G_law_pen gd (hr.mono (by decide)) rfl g_law_pen F_law_pen.kp b_law_pen .nil pass0 (pa_cons (pv 0) pa_nil))) -- pen = _law_pen(script)
      (pss_cons (ps_for PassesOwn.never rfl (pi_range1 rfl m_range (pa_cons pe_int pa_nil)) (pg_name (i := 2) sc_law.nd rfl (.inl rfl)) 
        (C8.pss_cut (ps_set (i := 3) sc_law.nd rfl (.inl rfl) (pe_op op_add pe_int (pe_callG G_law_draw gd (hr.mono (by decide)) rfl g_law_draw F_law_draw.kp b_law_draw .nil pass0 (pa_cons (pv 1) (pa_cons pe_int pa_nil))))) -- many = 1 + _law_draw(pen, 3)
        (C8.pss_cut (ps_set (i := 4) sc_law.nd rfl (.inl rfl) (pe_callG G_law_stream gd (hr.mono (by decide)) rfl g_law_stream F_law_stream.kp b_law_stream .nil pass0 (pa_cons (pv 1) (pa_cons (pv 3) (pa_cons pe_int (pa_cons pe_int pa_nil)))))) -- value = _law_stream(pen, many, 6, 4)
        (C8.pss_cut (ps_for PassesOwn.never rfl (pi_range1 rfl m_range (pa_cons (pe_callG G_law_draw gd (hr.mono (by decide)) rfl g_law_draw F_law_draw.kp b_law_draw .nil pass0 (pa_cons (pv 1) (pa_cons pe_int pa_nil))) pa_nil)) (pg_name (i := 5) sc_law.nd rfl (.inl rfl)) 
          (pss_one (ps_set (i := 4) sc_law.nd rfl (.inl rfl) (pe_callG G_law_changed gd (hr.mono (by decide)) rfl g_law_changed F_law_changed.kp b_law_changed .nil pass0 (pa_cons (pv 1) (pa_cons (pv 4) pa_nil))))) -- value = _law_changed(pen, value)
          ) -- for lap in range(_law_draw(pen, 3)):
        (C8.pss_cut (ps_set (i := 6) sc_law.nd rfl (.inl rfl) (pe_callB (call_reprL gd hr.units) (by rfl) m_repr (by decide +kernel) (pa_cons (pv 4) pa_nil))) -- before = repr(value)
        (C8.pss_cut (ps_set (i := 7) sc_law.nd rfl (.inl rfl) (pe_tup (pa_cons (pe_ifExp (pt_val (pe_callG G_law_is gd (hr.mono (by decide)) rfl g_law_is F_law_is.kp b_law_is .nil pass0 (pa_cons (pv 4) (pa_cons (pv 3) pa_nil)))) pe_str pe_str) (pa_cons (pv 6) pa_nil)))) -- due = ('stream' if _law_is(value, many) else 'none', before)
        (pss_one (ps_if (PW.pt (pw_or (pt_cmpR (op_neS hr.units) (pe_callG G_law_raised gd (hr.mono (by decide)) rfl g_law_raised F_law_raised.kp b_law_raised .nil pass0 (pa_cons (pv 4) (pa_cons (pv 3) pa_nil))) (pv 7) (nomark _)) (pw_or1 (pt_cmpR op_ne (pe_callB (call_reprL gd hr.units) (by rfl) m_repr (by decide +kernel) (pa_cons (pv 4) pa_nil)) (pv 6) (nomark _))))) 
          (pss_one (ps_ret pe_bl)) -- return False
           pss_nil)) -- if _law_raised(value, many) != due or repr(value) != before:
        )))))) -- for turn in range(8):
      (pss_one (ps_ret pe_bl)) -- return True
      )) , ?_⟩
    refine ⟨.ref a, rfl, a, ns, rfl, hS, hl, fun p c H1 s1 np nc hP => ?_⟩
    refine ⟨8, rfl, by decide, by decide, ?_⟩
    refine for_range (n := 8) (fun _ σ H' => ∃ x2 x3 x4 x5 x6 x7 : Option V, σ = [some (.ref a), some (.ref p), x2, x3, x4, x5, x6, x7] ∧ Pen H' p c) ?_ ?_ ?_
    · exact ⟨_, _, _, _, _, _, rfl, hP⟩
    · rintro i σ H2 hi ⟨x2, x3, x4, x5, x6, x7, rfl, hP⟩
      -- many
      refine ⟨fun σ H' => ∃ k : Int, σ = [some (.ref a), some (.ref p), some (.int (0 + (i : Int))), some (.int k), x4, x5, x6, x7] ∧ 1 ≤ k ∧ k ≤ 3 ∧ Pen H' p c, ?_, ?_⟩
      · exact ⟨.ref p, rfl, p, c, 3, rfl, hP, by decide, by decide, fun d H3 a0 a1 kp hP3 => ⟨1, d, rfl, rfl, 1 + d, rfl, by omega, by omega, hP3⟩⟩
      rintro σ H3 ⟨k, rfl, k0, k1, hP⟩
      -- value
      refine ⟨fun σ H' => ∃ (t : Addr) (ms : List (Int × Int)), σ = [some (.ref a), some (.ref p), some (.int (0 + (i : Int))), some (.int k), some (.ref t), x5, x6, x7] ∧ Pen H' p c ∧ TD H' (.ref t) (strmD ms) ∧ ms.length ≤ 6 ∧ Short ms, ?_, ?_⟩
      · refine ⟨.ref p, rfl, .int k, rfl, p, c, k, 6, 4, rfl, hP, by omega, by omega, by decide, by decide, by decide, by decide, fun t ms H4 kp tp hP4 hT hlen hms => ?_⟩
        refine ⟨t, ms, rfl, hP4, hT, by omega, fun m hm => ?_⟩
        have := hms m hm
        omega
      rintro σ H4 ⟨t, ms, rfl, hP, hT, lm, sh⟩
      obtain ⟨s0, d0, w0⟩ := short_sm sh
      have hv0 : LD p H4 (.ref t) (strmD ms) := by
        obtain ⟨l, e⟩ := hP.at
        exact TD.ld (fun xs z => by rw [e] at z; cases z) _ hT
      -- for lap in range(draw)
      refine ⟨fun σ H' => ∃ (v : V) (d : PyData) (y5 : Option V), σ = [some (.ref a), some (.ref p), some (.int (0 + (i : Int))), some (.int k), some v, y5, x6, x7] ∧ Pen H' p c ∧ LD p H' v d ∧ Sm d ∧ d.depth ≤ 4 ∧ wt d ≤ 200, ?_, ?_⟩
      · refine ⟨.ref p, rfl, p, c, 3, rfl, hP, by decide, by decide, fun dn H5 a0 a1 kp hP5 => ?_⟩
        obtain ⟨n, rfl⟩ : ∃ n : Nat, dn = n := ⟨dn.toNat, by omega⟩
        have b5 : But p H4 H5 := kp
        refine ⟨n, rfl, by omega, by omega, ?_⟩
        rw [Int.toNat_natCast]
        refine for_range (n := n) (fun j σ H' => ∃ (v : V) (d : PyData) (y5 : Option V), σ = [some (.ref a), some (.ref p), some (.int (0 + (i : Int))), some (.int k), some v, y5, x6, x7] ∧ Pen H' p c ∧ LD p H' v d ∧ Sm d ∧ d.depth ≤ 2 + j ∧ wt d + 4 ≤ 23 * 2 ^ j) ?_ ?_ ?_
        · refine ⟨.ref t, strmD ms, _, rfl, hP5, LD.mono b5 _ hv0, s0, ?_, ?_⟩
          · show PyData.depthAll (ms.map msgD) + 1 ≤ 2 + 0
            omega
          · show wts (ms.map msgD) + 1 + 4 ≤ 23 * 1
            omega
        · rintro j σ H6 hj ⟨v, d, y5, rfl, hP6, hv, sm, hd, hw⟩
          have hj2 : j = 0 ∨ j = 1 := by omega
          have hw2 : wt d ≤ 42 := by rcases hj2 with rfl | rfl <;> omega
          refine ⟨.ref p, rfl, v, rfl, p, c, v, d, rfl, hP6, hv, sm, by omega, by omega, fun v' d' H7 k7 hP7 hv7 cg => ?_⟩
          have cw := cg.wt
          have cd := cg.dep
          refine ⟨v', d', _, rfl, hP7, hv7, cg.sm, by omega, ?_⟩
          rw [Nat.pow_succ]
          omega
        · rintro σ H6 ⟨v, d, y5, rfl, hP6, hv, sm, hd, hw⟩
          have hn2 : n = 0 ∨ n = 1 ∨ n = 2 := by omega
          refine ⟨v, d, y5, rfl, hP6, hv, sm, by omega, ?_⟩
          rcases hn2 with rfl | rfl | rfl <;> omega
      rintro σ H5 ⟨v, d, y5, rfl, hP, hv, sm, hd, hw⟩
      obtain ⟨sho, len⟩ := sm_shown d sm
      have len' : d.shown.length ≤ sizeLine := Nat.le_trans (show d.shown.length ≤ 22000 by omega) (by decide)
      have dep : d.depth ≤ 60 := by omega
      -- before
      refine ⟨fun σ H' => σ = [some (.ref a), some (.ref p), some (.int (0 + (i : Int))), some (.int k), some v, y5, some (.str d.shown), x7] ∧ H' = H5, ?_, ?_⟩
      · exact ⟨v, rfl, p, v, d, rfl, hv, sho, dep, len', rfl, rfl⟩
      rintro σ H6 ⟨rfl, rfl⟩
      -- due
      refine ⟨fun σ H' => ∃ u : Addr, σ = [some (.ref a), some (.ref p), some (.int (0 + (i : Int))), some (.int k), some v, y5, some (.str d.shown), some (.ref u)] ∧ Same H6 H' ∧ H' u = some (.tup [.str (if isStrm d k = true then "stream" else "none"), .str d.shown]), ?_, ?_⟩
      · refine ⟨v, rfl, .int k, rfl, p, v, d, k, rfl, hv, fun H7 s7 => ⟨_, rfl, ite2 (fun e => ?_) (fun e => ?_)⟩⟩
        · refine ⟨.str d.shown, rfl, by show 2 ≤ sizeLine; decide, fun u nu => ⟨u, rfl, s7.trans (same_new nu), ?_⟩⟩
          rw [if_pos e]
          exact upd_same
        · refine ⟨.str d.shown, rfl, by show 2 ≤ sizeLine; decide, fun u nu => ⟨u, rfl, s7.trans (same_new nu), ?_⟩⟩
          rw [if_neg e]
          exact upd_same
      rintro σ H7 ⟨u, rfl, s7, hu⟩
      replace hP := hP.mono s7
      replace hv := LD.mono (But.same s7) _ hv
      -- if _law_raised(value, many) != due or repr(value) != before
      refine ⟨v, rfl, .int k, rfl, p, v, d, k, rfl, hv, hP.has, sho, dep, len', fun r H8 s8 hr8 => ?_⟩
      refine ⟨.ref u, rfl, r, u, _, _, _, _, rfl, rfl, hr8, s8 _ _ hu, _, rfl, ?_⟩
      rw [beq_self_eq_true, beq_self_eq_true]
      refine ⟨v, rfl, p, v, d, rfl, LD.mono (But.same s8) _ hv, sho, dep, len', .str d.shown, rfl, rfl, _, rfl, ?_⟩
      refine iteNS rfl ?_
      exact ⟨_, _, _, _, _, _, rfl, hP.mono s8⟩
    · rintro σ H2 _
      exact q H2
end

theorem all_mk {l : PySem.W.OpenLaw} {w : World} {K : PySem.W.Frag} {h : Heap} {mg : Str → Option Value} {fa f0 f1 f2 f3 f4 f5 f6 f7 f8 f9 f10 f11 f12 f13 : Addr} (X : K.In h) (G : h.Ns mainGlobals mg) (hfa : mg "law" = some (.ref fa))
    {od0 an0 od1 an1 od2 an2 od3 an3 od4 an4 od5 an5 od6 an6 od7 an7 od8 an8 od9 an9 od10 an10 od11 an11 od12 an12 od13 an13 : Option Addr} {sl0 sl1 sl2 sl3 sl4 sl5 sl6 sl7 sl8 sl9 sl10 sl11 sl12 sl13 : Array (Option Value)} {oc0 kV0 dc0 pm0 cd0 ct0 oc1 kV1 dc1 pm1 cd1 ct1 oc2 kV2 dc2 pm2 cd2 ct2 oc3 kV3 dc3 pm3 cd3 ct3 oc4 kV4 dc4 pm4 cd4 ct4 oc5 kV5 dc5 pm5 cd5 ct5 oc6 kV6 dc6 pm6 cd6 ct6 oc7 kV7 dc7 pm7 cd7 ct7 oc8 kV8 dc8 pm8 cd8 ct8 oc9 kV9 dc9 pm9 cd9 ct9 oc10 kV10 dc10 pm10 cd10 ct10 oc11 kV11 dc11 pm11 cd11 ct11 oc12 kV12 dc12 pm12 cd12 ct12 oc13 kV13 dc13 pm13 cd13 ct13 : Value}
    (a0 : PySem.W.nsIn K mainGlobals "is_integer" = some (some (.ref f0))) (l0 : K.lookup f0 = some ⟨oc0, od0, .func (PySem.W.fnOf "is_integer" "is_integer" (defArgs s_is_integer) (defBody s_is_integer) (defScope s_is_integer) .none kV0 dc0 pm0 an0 cd0 ct0), sl0⟩) (c0 : PySem.W.codeIn K cd0 "is_integer" = true) (k0 : PySem.W.keepIn K (.ref f0) = true)
    (a1 : PySem.W.nsIn K mainGlobals "is_between" = some (some (.ref f1))) (l1 : K.lookup f1 = some ⟨oc1, od1, .func (PySem.W.fnOf "is_between" "is_between" (defArgs s_is_between) (defBody s_is_between) (defScope s_is_between) .none kV1 dc1 pm1 an1 cd1 ct1), sl1⟩) (c1 : PySem.W.codeIn K cd1 "is_between" = true) (k1 : PySem.W.keepIn K (.ref f1) = true)
    (a2 : PySem.W.nsIn K mainGlobals "require_stream" = some (some (.ref f2))) (l2 : K.lookup f2 = some ⟨oc2, od2, .func (PySem.W.fnOf "require_stream" "require_stream" (defArgs s_require_stream) (defBody s_require_stream) (defScope s_require_stream) .none kV2 dc2 pm2 an2 cd2 ct2), sl2⟩) (c2 : PySem.W.codeIn K cd2 "require_stream" = true) (k2 : PySem.W.keepIn K (.ref f2) = true)
    (a3 : PySem.W.nsIn K mainGlobals "is_stream" = some (some (.ref f3))) (l3 : K.lookup f3 = some ⟨oc3, od3, .func (PySem.W.fnOf "is_stream" "is_stream" (defArgs s_is_stream) (defBody s_is_stream) (defScope s_is_stream) .none kV3 dc3 pm3 an3 cd3 ct3), sl3⟩) (c3 : PySem.W.codeIn K cd3 "is_stream" = true) (k3 : PySem.W.keepIn K (.ref f3) = true)
    (a4 : PySem.W.nsIn K mainGlobals "is_message" = some (some (.ref f4))) (l4 : K.lookup f4 = some ⟨oc4, od4, .func (PySem.W.fnOf "is_message" "is_message" (defArgs s_is_message) (defBody s_is_message) (defScope s_is_message) .none kV4 dc4 pm4 an4 cd4 ct4), sl4⟩) (c4 : PySem.W.codeIn K cd4 "is_message" = true) (k4 : PySem.W.keepIn K (.ref f4) = true)
    (a5 : PySem.W.nsIn K mainGlobals "is_message_value" = some (some (.ref f5))) (l5 : K.lookup f5 = some ⟨oc5, od5, .func (PySem.W.fnOf "is_message_value" "is_message_value" (defArgs s_is_message_value) (defBody s_is_message_value) (defScope s_is_message_value) .none kV5 dc5 pm5 an5 cd5 ct5), sl5⟩) (c5 : PySem.W.codeIn K cd5 "is_message_value" = true) (k5 : PySem.W.keepIn K (.ref f5) = true)
    (a6 : PySem.W.nsIn K mainGlobals "_law_pen" = some (some (.ref f6))) (l6 : K.lookup f6 = some ⟨oc6, od6, .func (PySem.W.fnOf "_law_pen" "_law_pen" (defArgs s_law_pen) (defBody s_law_pen) (defScope s_law_pen) .none kV6 dc6 pm6 an6 cd6 ct6), sl6⟩) (c6 : PySem.W.codeIn K cd6 "_law_pen" = true) (k6 : PySem.W.keepIn K (.ref f6) = true)
    (a7 : PySem.W.nsIn K mainGlobals "_law_fresh" = some (some (.ref f7))) (l7 : K.lookup f7 = some ⟨oc7, od7, .func (PySem.W.fnOf "_law_fresh" "_law_fresh" (defArgs s_law_fresh) (defBody s_law_fresh) (defScope s_law_fresh) .none kV7 dc7 pm7 an7 cd7 ct7), sl7⟩) (c7 : PySem.W.codeIn K cd7 "_law_fresh" = true) (k7 : PySem.W.keepIn K (.ref f7) = true)
    (a8 : PySem.W.nsIn K mainGlobals "_law_draw" = some (some (.ref f8))) (l8 : K.lookup f8 = some ⟨oc8, od8, .func (PySem.W.fnOf "_law_draw" "_law_draw" (defArgs s_law_draw) (defBody s_law_draw) (defScope s_law_draw) .none kV8 dc8 pm8 an8 cd8 ct8), sl8⟩) (c8 : PySem.W.codeIn K cd8 "_law_draw" = true) (k8 : PySem.W.keepIn K (.ref f8) = true)
    (a9 : PySem.W.nsIn K mainGlobals "_law_stream" = some (some (.ref f9))) (l9 : K.lookup f9 = some ⟨oc9, od9, .func (PySem.W.fnOf "_law_stream" "_law_stream" (defArgs s_law_stream) (defBody s_law_stream) (defScope s_law_stream) .none kV9 dc9 pm9 an9 cd9 ct9), sl9⟩) (c9 : PySem.W.codeIn K cd9 "_law_stream" = true) (k9 : PySem.W.keepIn K (.ref f9) = true)
    (a10 : PySem.W.nsIn K mainGlobals "_law_is" = some (some (.ref f10))) (l10 : K.lookup f10 = some ⟨oc10, od10, .func (PySem.W.fnOf "_law_is" "_law_is" (defArgs s_law_is) (defBody s_law_is) (defScope s_law_is) .none kV10 dc10 pm10 an10 cd10 ct10), sl10⟩) (c10 : PySem.W.codeIn K cd10 "_law_is" = true) (k10 : PySem.W.keepIn K (.ref f10) = true)
    (a11 : PySem.W.nsIn K mainGlobals "_law_changed" = some (some (.ref f11))) (l11 : K.lookup f11 = some ⟨oc11, od11, .func (PySem.W.fnOf "_law_changed" "_law_changed" (defArgs s_law_changed) (defBody s_law_changed) (defScope s_law_changed) .none kV11 dc11 pm11 an11 cd11 ct11), sl11⟩) (c11 : PySem.W.codeIn K cd11 "_law_changed" = true) (k11 : PySem.W.keepIn K (.ref f11) = true)
    (a12 : PySem.W.nsIn K mainGlobals "_law_raised" = some (some (.ref f12))) (l12 : K.lookup f12 = some ⟨oc12, od12, .func (PySem.W.fnOf "_law_raised" "_law_raised" (defArgs s_law_raised) (defBody s_law_raised) (defScope s_law_raised) .none kV12 dc12 pm12 an12 cd12 ct12), sl12⟩) (c12 : PySem.W.codeIn K cd12 "_law_raised" = true) (k12 : PySem.W.keepIn K (.ref f12) = true)
    (a13 : PySem.W.nsIn K mainGlobals "law" = some (some (.ref f13))) (l13 : K.lookup f13 = some ⟨oc13, od13, .func (PySem.W.fnOf "law" "law" (defArgs s_law) (defBody s_law) (defScope s_law) .none kV13 dc13 pm13 an13 cd13 ct13), sl13⟩) (c13 : PySem.W.codeIn K cd13 "law" = true) (k13 : PySem.W.keepIn K (.ref f13) = true)
    {eC0 ei0 : Addr} {nm0 eq0 : Str} {eN0 : Addr} {bs0 : List Value} {sn0 : List Str} {sub0 : List Value} {ab0 : Bool} {col0 : Option Bool} {dd0 : Option Addr} {m00 m10 m20 m30 m50 : Option Value} {eod0 ean0 : Option Addr} {esl0 : Array (Option Value)} {eoc0 edc0 epm0 ecd0 ect0 : Value}
    (eaC0 : PySem.W.nsIn K mainGlobals "NotAStream" = some (some (.ref eC0))) (exL0 : K.lookup eC0 = some (excClassObj nm0 eq0 eC0 eN0 bs0 [.type "ValueError", .type "Exception", .type "BaseException", .type "object"] true sn0 sub0 ab0 col0 dd0 m00 m10 m20 m30 m50 "ValueError.__new__"))
    (esa0 : PySem.W.findIn K (.ref eC0) "__setattr__" = some (some (.builtin "object.__setattr__"))) (ega0 : PySem.W.findIn K (.ref eC0) "__getattribute__" = some (some (.builtin "BaseException.__getattribute__"))) (egg0 : PySem.W.findIn K (.ref eC0) "__getattr__" = some none) (enb0 : PySem.W.findIn K (.ref eC0) "value" = some none)
    (ea10 : PySem.W.findIn K (.ref eC0) "__init__" = some (some (.ref ei0))) (et10 : PySem.W.typeIn K (.ref ei0) = some (.type "function"))
    (el10 : K.lookup ei0 = some ⟨eoc0, eod0, .func (PySem.W.fnOf "__init__" "NotAStream.__init__" (defArgs s_NotAStream_init) (defBody s_NotAStream_init) (defScope s_NotAStream_init) .none .none edc0 epm0 ean0 ecd0 ect0), esl0⟩) (ec10 : PySem.W.codeIn K ecd0 "NotAStream.__init__" = true)
    (ekC0 : PySem.W.keepIn K (.ref eC0) = true) (eeC0 : PySem.W.subIn K (.ref eC0) (.type "BaseException") = some true) (etC0 : PySem.W.typeIn K (.ref eC0) = some (.type "type")) (ehC0 : PySem.W.hasDictIn K eC0 = true) (eiC0 : PySem.W.isClsIn K eC0 = true) (esC0 : PySem.W.subIn K (.ref eC0) (.ref eC0) = some true)
    (z0 : PySem.W.nsIn K mainGlobals "list" = some none)
    (z1 : PySem.W.nsIn K mainGlobals "len" = some none)
    (z2 : PySem.W.nsIn K mainGlobals "range" = some none)
    (z3 : PySem.W.nsIn K mainGlobals "tuple" = some none)
    (z4 : PySem.W.nsIn K mainGlobals "repr" = some none)
    (z5 : PySem.W.nsIn K mainGlobals "abs" = some none)
    (z6 : PySem.W.nsIn K mainGlobals "isinstance" = some none)
    (z7 : PySem.W.nsIn K mainGlobals "bool" = some none)
    (z8 : PySem.W.nsIn K mainGlobals "int" = some none)
    : ∃ fd : FuncData, (∀ (s : Shared) (v : Value), BindsTo s fd ⟨[v], []⟩ [("script", v)]) ∧ ∀ base : Heap, K.In base → base.Ns mainGlobals mg → FnG l.prog w K mg base CX0 10 fa fd ["script"] (sp_law K) := by
  have e := hfa.symm.trans (PySem.W.mg_of X G a13)
  cases e
  have F0 := fun_mk (st := s_is_integer) l0 c0 k0
  have F1 := fun_mk (st := s_is_between) l1 c1 k1
  have F2 := fun_mk (st := s_require_stream) l2 c2 k2
  have F3 := fun_mk (st := s_is_stream) l3 c3 k3
  have F4 := fun_mk (st := s_is_message) l4 c4 k4
  have F5 := fun_mk (st := s_is_message_value) l5 c5 k5
  have F6 := fun_mk (st := s_law_pen) l6 c6 k6
  have F7 := fun_mk (st := s_law_fresh) l7 c7 k7
  have F8 := fun_mk (st := s_law_draw) l8 c8 k8
  have F9 := fun_mk (st := s_law_stream) l9 c9 k9
  have F10 := fun_mk (st := s_law_is) l10 c10 k10
  have F11 := fun_mk (st := s_law_changed) l11 c11 k11
  have F12 := fun_mk (st := s_law_raised) l12 c12 k12
  have F13 := fun_mk (st := s_law) l13 c13 k13
  have b0 := F0.binds (ps := ["value"]) fun _ _ _ _ _ _ us hl => match us, hl with | [_], _ => rfl
  have b1 := F1.binds (ps := ["value", "low", "high"]) fun _ _ _ _ _ _ us hl => match us, hl with | [_, _, _], _ => rfl
  have b2 := F2.binds (ps := ["value", "words"]) fun _ _ _ _ _ _ us hl => match us, hl with | [_, _], _ => rfl
  have b3 := F3.binds (ps := ["value", "words"]) fun _ _ _ _ _ _ us hl => match us, hl with | [_, _], _ => rfl
  have b4 := F4.binds (ps := ["message", "words"]) fun _ _ _ _ _ _ us hl => match us, hl with | [_, _], _ => rfl
  have b5 := F5.binds (ps := ["value"]) fun _ _ _ _ _ _ us hl => match us, hl with | [_], _ => rfl
  have b6 := F6.binds (ps := ["script"]) fun _ _ _ _ _ _ us hl => match us, hl with | [_], _ => rfl
  have b7 := F7.binds (ps := ["pen"]) fun _ _ _ _ _ _ us hl => match us, hl with | [_], _ => rfl
  have b8 := F8.binds (ps := ["pen", "many"]) fun _ _ _ _ _ _ us hl => match us, hl with | [_, _], _ => rfl
  have b9 := F9.binds (ps := ["pen", "words", "most", "values"]) fun _ _ _ _ _ _ us hl => match us, hl with | [_, _, _, _], _ => rfl
  have b10 := F10.binds (ps := ["value", "words"]) fun _ _ _ _ _ _ us hl => match us, hl with | [_, _], _ => rfl
  have b11 := F11.binds (ps := ["pen", "value"]) fun _ _ _ _ _ _ us hl => match us, hl with | [_, _], _ => rfl
  have b12 := F12.binds (ps := ["value", "words"]) fun _ _ _ _ _ _ us hl => match us, hl with | [_, _], _ => rfl
  have T0 : L2.ErrOk OwnE.bVE "NotAStream" "value" "NotAStream.__init__" K mg eC0 ei0 := ⟨OwnE.bVE_ok, { gC := PySem.W.mg_of X G eaC0, cls := ⟨nm0, eq0, eN0, bs0, _, sn0, sub0, ab0, col0, dd0, m00, m10, m20, m30, m50, exL0, by decide +kernel⟩, sa := esa0, ga := ega0, gg := egg0, noN := enb0, iC := ea10, tC := et10, kC := ekC0, exC := eeC0, tyC := etC0, hdC := ehC0, te := OwnE.exm_own eeC0 eiC0 etC0 esC0, fn := ⟨eoc0, eod0, edc0, epm0, ean0, ecd0, ect0, esl0, _, _, _, _, _, _, defScope s_NotAStream_init, el10, ec10, rfl, by decide +kernel, by decide +kernel, rfl, rfl⟩ }, by decide, by decide, fun _ _ _ _ _ _ _ _ _ _ _ _ _ _ _ _ => by first | rfl | with_unfolding_all rfl⟩
  exact ⟨_, fun s v => .of_eq rfl, fun base _ _ => ok_law F13 ⟨F0, b0, PySem.W.mg_of X G a0, F1, b1, PySem.W.mg_of X G a1, F2, b2, PySem.W.mg_of X G a2, F3, b3, PySem.W.mg_of X G a3, F4, b4, PySem.W.mg_of X G a4, F5, b5, PySem.W.mg_of X G a5, F6, b6, PySem.W.mg_of X G a6, F7, b7, PySem.W.mg_of X G a7, F8, b8, PySem.W.mg_of X G a8, F9, b9, PySem.W.mg_of X G a9, F10, b10, PySem.W.mg_of X G a10, F11, b11, PySem.W.mg_of X G a11, F12, b12, PySem.W.mg_of X G a12, T0, PySem.W.mg_none_of X G z0, PySem.W.mg_none_of X G z1, PySem.W.mg_none_of X G z2, PySem.W.mg_none_of X G z3, PySem.W.mg_none_of X G z4, PySem.W.mg_none_of X G z5, PySem.W.mg_none_of X G z6, PySem.W.mg_none_of X G z7, PySem.W.mg_none_of X G z8⟩⟩
theorem walk {l : PySem.W.OpenLaw} {q : Program} {loose : List Str} {XP : (Str → Option Value) → Heap → Prop} {YP : World → Heap → Prop} {d : DefRec} {K : Params → PySem.W.Frag} (hn : l.most = some 63) (hdf : d.params.defaults = [])
    (hY : ∀ (w : World) (h : Heap), YP w h → (K w.params).In h)
    (F : ∀ (w : World) (mg : Str → Option Value) (fa : Addr) (h : Heap), (K w.params).In h → h.Ns mainGlobals mg → mg d.name = some (.ref fa) →
      ∃ fd : FuncData, (∀ (s : Shared) (u : Value), BindsTo s fd ⟨[u], []⟩ [("script", u)]) ∧ ∀ base : Heap, (K w.params).In base → base.Ns mainGlobals mg → FnG l.prog w (K w.params) mg base CX0 10 fa fd ["script"] (sp_law (K w.params))) :
    PySem.W.WalkO q loose XP YP l.row.toRowW d [] (fun f vs => PySem.call f vs) :=
  walk_ofG (n := 63) (k := 10) (x := "script") (sp := sp_law) hn (by decide) hdf ⟨rfl, by decide, by decide⟩ hY F fun _ _ a ns hl hb _ hS => ⟨a, ns, rfl, hS, hl, fun _ => rfl⟩
end Sb
open PySem PySem.W PyProof.Rows
set_option maxRecDepth 100000 in
set_option maxHeartbeats 0 in
theorem PySem.Challenge.cw_seenbefore_k01_streams_required_holds : PySem.Challenge.rw_seenbefore_k01_streams_required.Holds := by
  w_on; o_law; k_head; (case hw => w_witness2)
  k_fill
  refine Sb.walk (l := PySem.Challenge.rw_seenbefore_k01_streams_required) rfl rfl (fun w h Y => PySem.W.kIn_of Y) ?F
  case F =>
    intro w mg fa h KX G hmg
    refine' Sb.all_mk KX G hmg ?a0 ?l0 ?c0 ?k0 ?a1 ?l1 ?c1 ?k1 ?a2 ?l2 ?c2 ?k2 ?a3 ?l3 ?c3 ?k3 ?a4 ?l4 ?c4 ?k4 ?a5 ?l5 ?c5 ?k5 ?a6 ?l6 ?c6 ?k6 ?a7 ?l7 ?c7 ?k7 ?a8 ?l8 ?c8 ?k8 ?a9 ?l9 ?c9 ?k9 ?a10 ?l10 ?c10 ?k10 ?a11 ?l11 ?c11 ?k11 ?a12 ?l12 ?c12 ?k12 ?a13 ?l13 ?c13 ?k13 ?eaC0 ?exL0 ?esa0 ?ega0 ?egg0 ?enb0 ?ea10 ?et10 ?el10 ?ec10 ?ekC0 ?eeC0 ?etC0 ?ehC0 ?eiC0 ?esC0 ?z0 ?z1 ?z2 ?z3 ?z4 ?z5 ?z6 ?z7 ?z8
    (case a0 => k_is); (case l0 => k_is); (case c0 => k_is); (case k0 => k_is)
    (case a1 => k_is); (case l1 => k_is); (case c1 => k_is); (case k1 => k_is)
    (case a2 => k_is); (case l2 => k_is); (case c2 => k_is); (case k2 => k_is)
    (case a3 => k_is); (case l3 => k_is); (case c3 => k_is); (case k3 => k_is)
    (case a4 => k_is); (case l4 => k_is); (case c4 => k_is); (case k4 => k_is)
    (case a5 => k_is); (case l5 => k_is); (case c5 => k_is); (case k5 => k_is)
    (case a6 => k_is); (case l6 => k_is); (case c6 => k_is); (case k6 => k_is)
    (case a7 => k_is); (case l7 => k_is); (case c7 => k_is); (case k7 => k_is)
    (case a8 => k_is); (case l8 => k_is); (case c8 => k_is); (case k8 => k_is)
    (case a9 => k_is); (case l9 => k_is); (case c9 => k_is); (case k9 => k_is)
    (case a10 => k_is); (case l10 => k_is); (case c10 => k_is); (case k10 => k_is)
    (case a11 => k_is); (case l11 => k_is); (case c11 => k_is); (case k11 => k_is)
    (case a12 => k_is); (case l12 => k_is); (case c12 => k_is); (case k12 => k_is)
    (case a13 => k_is); (case l13 => k_is); (case c13 => k_is); (case k13 => k_is)
    (case eaC0 => k_is); (case exL0 => k_is); (case esa0 => k_is); (case ega0 => k_is)
    (case egg0 => k_is); (case enb0 => k_is); (case ea10 => k_is); (case et10 => k_is)
    (case el10 => k_is); (case ec10 => k_is); (case ekC0 => k_is); (case eeC0 => k_is)
    (case etC0 => k_is); (case ehC0 => k_is); (case eiC0 => k_is); (case esC0 => first | rfl | k_is)
    (case z0 => k_is); (case z1 => k_is); (case z2 => k_is); (case z3 => k_is)
    (case z4 => k_is); (case z5 => k_is); (case z6 => k_is); (case z7 => k_is)
    (case z8 => k_is)
