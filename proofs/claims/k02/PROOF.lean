import PyProof.Rows.All
import Wide.All
import OpenK.AllK
import Wide.FinOn
import HandS.ForMost
import HandS.ExcOwn
import HandS.EndBits
import HandS.Codes
import HandS.Wide
import HandS.TupAny
import HandS.Zip
import HandS.TupMul
import HandS.TupLe
import HandS.IsInst
import PySem.Challenge.RW_seenbefore_k02_streams_numbered
set_option Elab.async false
set_option linter.all false
set_option maxRecDepth 100000
set_option maxHeartbeats 4000000

/-! Promises of defs where no repr is under way (guards = []): so the repr of made data is known to the sign. -/
namespace Sb
open PySem PySem.Spec PyProof.Rows L2
/-- as FnOk, for calls around which no repr is under way -/
structure FnG (P : Program) (w : World) (K : PySem.W.Frag) (mg : Str → Option Value) (base : Heap) (CX : CXT) (k : Nat) (f : Addr)
    (fd : FuncData) (ps : List Str) (sp : Sp) : Prop where
  len : ∀ vs H Q E, sp vs H Q E → vs.length = ps.length
  run : ∀ (A : Around) (outer : List Env) (s : Shared) (H : Hp) (args : Args) (us : List Value) (vs : List V) (Q : VK) (E : XK),
    A.guards = some [] → Room k A → Env0 P w K mg base A outer s H → BindsTo s fd args (ps.zip us) → Vals vs us → sp vs H Q E →
    codeAny (model P w) A (.call (.ref f) args) (CR CX outer P w H s Q E) s
section
variable {P : Program} {w : World} {K : PySem.W.Frag} {mg : Str → Option Value} {base : Heap} {CX : CXT} {k : Nat} {f : Addr}
theorem FnG.mono {j : Nat} {fd : FuncData} {ps : List Str} {sp : Sp} (F : FnG P w K mg base CX j f fd ps sp) (h : j ≤ k) : FnG P w K mg base CX k f fd ps sp :=
  { len := F.len, run := fun A o s H a us vs Q E g r => F.run A o s H a us vs Q E g (r.mono h) }
theorem FnG.imp {fd : FuncData} {ps : List Str} {sp sp' : Sp} (F : FnG P w K mg base CX k f fd ps sp) (h : ∀ vs H Q E, sp' vs H Q E → sp vs H Q E) :
    FnG P w K mg base CX k f fd ps sp' :=
  { len := fun vs H Q E z => F.len vs H Q E (h _ _ _ _ z), run := fun A o s H a us vs Q E g r e b v z => F.run A o s H a us vs Q E g r e b v (h _ _ _ _ z) }
theorem FnG.of {fd : FuncData} {ps : List Str} {sp : Sp} (F : FnOk P w K mg base CX k f fd ps sp) : FnG P w K mg base CX k f fd ps sp :=
  { len := F.len, run := fun A o s H a us vs Q E _ r => F.run A o s H a us vs Q E r }
/-- from a body to its def -/
theorem fnG_body {name qual : Str} {params : Arguments} {body : List Stmt} {sc : Scope} {dV kV doc pm cdv ct oc : Value} {an od : Option Addr} {osl : Array (Option Value)} {N ps : List Str} {sp : Sp}
    (lk : K.lookup f = some ⟨oc, od, .func (PySem.W.fnOf name qual params body sc dV kV doc pm an cdv ct), osl⟩) (hcd : PySem.W.codeIn K cdv qual = true) (S : FnScope N ps sc)
    (len : ∀ vs H Q E, sp vs H Q E → vs.length = ps.length)
    (walk : ∀ (A : Around) (outer : List Env) (s : Shared) (H : Hp) (vs : List V) (Q : VK) (E : XK), A.guards = some [] →
      Room k (A.deeper (envOfC qual sc s.heap.objs.size f cdv)) → sp vs H Q E →
      ∃ t, PSs (cxOf CX P w K mg base N qual sc f cdv A outer s H E) body t ∧ t { nx := fun _ H' => Q .non H', rt := Q } (start N vs) H) :
    FnG P w K mg base CX (k + 1) f (PySem.W.fnOf name qual params body sc dV kV doc pm an cdv ct) ps sp := by
  constructor
  · exact len
  intro A outer s H args us vs Q E gd room e0 bd rv want
  have inK : K.In s.heap := e0.mod.kin.keeps fun b o q => (e0.bs b o q).1
  have noLim : s.heap.NoLimit := e0.mod.nolimit.keeps fun b o q => (e0.bs b o q).1
  have kinds : ∀ y ∈ ps.zip us, sc.names.lookup y.1 = some .local ∨
      (sc.names.lookup y.1 = some .cell ∧ ((cellsFrom (s.heap.objs.size + 1) sc.names []).lookup y.1).isSome = true) := by
    rintro ⟨n, v⟩ hy
    cases S.par n (List.of_mem_zip hy).1 with
    | inl q => exact Or.inl q
    | inr q => exact Or.inr ⟨q, PySem.W.cellsFrom_some _ _ _ (Or.inl q)⟩
  apply codeAny_call_function room.depth (inK _ _ lk) rfl S.co S.gen rfl (PySem.W.codeRec_of inK hcd)
  apply bd
  apply wpAny_newFunctionEnv_cells S.kind kinds
  intro env he s1 x
  subst he
  refine ⟨noLim.keeps x.toInCall.keep, ?_⟩
  apply codeAny_func
  obtain ⟨t, ht, hq⟩ := walk A outer s H vs Q E gd (room.deeper _) want
  have I := inv_start (CX := CX) (E := E) S room.hd e0 (len _ _ _ _ want) rv x
  refine wpAny_mono (ht.run [] s1 (start N vs) H _ I hq) (fun fl s' hs => ?_) (fun _ _ hs => hs)
  match fl, hs with
  | .ret u, ⟨v, σ', H', J, r', q⟩ => exact ⟨v, H', J.os, J.bare, J.base, J.hok, r', q⟩
  | .next, ⟨σ', H', J, q⟩ => exact ⟨V.non, H', J.os, J.bare, J.base, J.hok, rfl, q⟩
  | .brk, ⟨_, _, _, q⟩ => exact q.elim
  | .cont, ⟨_, _, _, q⟩ => exact q.elim
/-- a def of the text; its walk may use that no repr is under way -/
theorem okG {x qual : Str} {st : Stmt} {fd : FuncData} {N ps : List Str} {sp : Sp} (F : Fun K x qual st f fd) (S : FnScope N ps (defScope st)) (len : ∀ vs H Q E, sp vs H Q E → vs.length = ps.length)
    (walk : ∀ (cdv : Value) (A : Around) (outer : List Env) (s : Shared) (H : Hp) (vs : List V) (Q : VK) (E : XK), A.guards = some [] →
      Room k (A.deeper (envOfC qual (defScope st) s.heap.objs.size f cdv)) → sp vs H Q E →
      ∃ t, PSs (cxOf CX0 P w K mg base N qual (defScope st) f cdv A outer s H E).nox (defBody st) t ∧ t { nx := fun _ H' => Q .non H', rt := Q } (start N vs) H) :
    FnG P w K mg base CX0 (k + 1) f fd ps sp := by
  obtain ⟨oc, od, kV, doc, pm, an, cdv, ct, osl, e, lk, hcd⟩ := F.ex
  subst e
  apply fnG_body lk hcd S len
  intro A outer s H vs Q E gd room want
  obtain ⟨t, h, q⟩ := walk cdv A outer s H vs Q E gd room want
  exact ⟨t, h.nox, q⟩
/-- the same for a def that may raise -/
theorem okGX {x qual : Str} {st : Stmt} {fd : FuncData} {N ps : List Str} {sp : Sp} (F : Fun K x qual st f fd) (S : FnScope N ps (defScope st)) (len : ∀ vs H Q E, sp vs H Q E → vs.length = ps.length)
    (walk : ∀ (cdv : Value) (A : Around) (outer : List Env) (s : Shared) (H : Hp) (vs : List V) (Q : VK) (E : XK), A.guards = some [] →
      Room k (A.deeper (envOfC qual (defScope st) s.heap.objs.size f cdv)) → sp vs H Q E →
      ∃ t, PSs (cxOf (L2.CX P w) P w K mg base N qual (defScope st) f cdv A outer s H E) (defBody st) t ∧ t { nx := fun _ H' => Q .non H', rt := Q } (start N vs) H) :
    FnG P w K mg base (L2.CX P w) (k + 1) f fd ps sp := by
  obtain ⟨oc, od, kV, doc, pm, an, cdv, ct, osl, e, lk, hcd⟩ := F.ex
  subst e
  exact fnG_body lk hcd S len fun A outer s H vs Q E gd room want => walk cdv A outer s H vs Q E gd room want
end

section
variable {X : Cx} {CX : CXT} {k : Nat} {f C : Addr} {fd : FuncData} {ps : List Str} {sp : Sp} {dvs : List V} {ds : List Value} {x m : Str} {p pos apos : Pos} {e o : Expr} {es : List Expr} {ta : TE} {t : TA}
/-- the callee runs; E hangs on the slots -/
theorem runG {pins : List (Addr × Obj)} {σ : L2.St} {H : Hp} {s : Shared} {Q : VK} {E : XK} {us : List Value} {vs : List V} (F : FnG X.prog X.w X.K X.mg X.base CX k f fd ps sp) (gd : X.A.guards = some []) (hr : Room k X.A)
    (hb : Binds X.K fd ps ds) (hd : Vals dvs ds) (hx : ∀ (e : Value) (s' : Shared), CX X.stack H s E e s' → X.xe e s') (I : Inv X pins σ H s) (r : Vals vs us) (h : sp (vs ++ dvs) H Q E) :
    wpAny (model X.prog X.w) X.A (call (.ref f) us) (EP X pins σ Q) X.xe s := by
  have rr := r.append hd
  have nl : (us ++ ds).length = ps.length := rr.length ▸ F.len _ _ _ _ h
  apply wpAny_call
  refine codeAny_mono (F.run X.A X.stack s H ⟨us, []⟩ _ _ Q E gd hr I.env0 (hb s us I.kIn nl) rr h) ?_
  intro res s' hres
  match res, hres with
  | .error er, z => exact hx er s' z
  | .ok (.ret u), z => exact I.after z
  | .ok .next, z => exact z.elim
  | .ok .brk, z => exact z.elim
  | .ok .cont, z => exact z.elim
/-- f(e, ..) -/
theorem pe_callG {E : XK} (F : FnG X.prog X.w X.K X.mg X.base CX k f fd ps sp) (gd : X.A.guards = some []) (hr : Room k X.A) (hg : Gl X x) (hm : X.mg x = some (.ref f)) (hk : PySem.W.keepIn X.K (.ref f) = true)
    (hb : Binds X.K fd ps ds) (hd : Vals dvs ds) (hx : Passes CX X E) (ha : PA X (e :: es) t) (hdb : (x == ("__debug__" : Str)) = false := by decide)
    (he : starEach (e :: es) X.env = (false, eval e X.env) :: starEach es X.env := by rfl)
    (hpl : (backTo pos (starEach es X.env)).any (·.1) = false := by rfl) : PE X (.Call (.Name x p) (e :: es) [] pos) (tCall sp dvs E t) := by
  constructor
  intro pins s σ H Q I h
  apply wpAny_Call_Name_kw
  apply ld_glob I hg hm _ hdb
  apply PySem.W.callWith_K (h₀ := X.base) I.ok.mod.kin hk _ he hpl
  refine thn (ha.run pos pins s σ H _ I h) ?_
  rintro us s1 ⟨vs, H1, I1, r, q⟩
  exact ⟨I1.kIn, runG F gd hr hb hd (fun er s' z => hx pins σ H1 s1 er s' I1 z) I1 r q⟩
/-- f(e, ..), what is raised wished for at the slots -/
theorem pe_callGS {E : L2.St → XK} (F : FnG X.prog X.w X.K X.mg X.base CX k f fd ps sp) (gd : X.A.guards = some []) (hr : Room k X.A) (hg : Gl X x) (hm : X.mg x = some (.ref f)) (hk : PySem.W.keepIn X.K (.ref f) = true)
    (hb : Binds X.K fd ps []) (hx : ∀ σ, PassesAt CX X σ (E σ)) (ha : PA X (e :: es) t) (hdb : (x == ("__debug__" : Str)) = false := by decide)
    (he : starEach (e :: es) X.env = (false, eval e X.env) :: starEach es X.env := by rfl)
    (hpl : (backTo pos (starEach es X.env)).any (·.1) = false := by rfl) : PE X (.Call (.Name x p) (e :: es) [] pos) (tCallS sp E t) := by
  constructor
  intro pins s σ H Q I h
  apply wpAny_Call_Name_kw
  apply ld_glob I hg hm _ hdb
  apply PySem.W.callWith_K (h₀ := X.base) I.ok.mod.kin hk _ he hpl
  refine thn (ha.run pos pins s σ H _ I h) ?_
  rintro us s1 ⟨vs, H1, I1, r, q⟩
  have q' : sp (vs ++ []) H1 Q (E σ) := by rw [List.append_nil]; exact q
  exact ⟨I1.kIn, runG F gd hr hb .nil (fun er s' z => hx σ pins H1 s1 er s' I1 z) I1 r q'⟩
/-- repr of data -/
theorem call_reprD (gd : X.A.guards = some []) (hu : X.A.units + 64 < cLine) : CallR X (.builtin "repr") (fun xs H Q => ∃ v d, xs = [v] ∧ Dp X.K H v d ∧ d.showable = true ∧ d.hasDict = false ∧ d.depth ≤ 60 ∧ d.shown.length ≤ sizeLine ∧ Q (.str d.shown) H) := by
  rintro pins s σ H xs us Q I r ⟨v, d, rfl, hd, hs, hnd, hdp, hz, q⟩
  obtain ⟨u, rfl, ru⟩ := vals1 r
  obtain ⟨as, rd⟩ := Dp.reads I d v u hd ru
  cases v with
  | ref a =>
    obtain rfl : u = Value.ref a := ru
    refine repr_of_reads' rd hs (PyData.noDict_hsm hnd) gd (by omega) (fun _ _ z => z) (fun h' u' tk hk => ?_) hz
    exact ⟨.str d.shown, H, I.kept (fun b o z => hk b o z), ⟨_, rfl⟩, q⟩
  | non =>
    cases hd
    obtain rfl : u = Value.none := ru
    exact PySem.P.repr_of_none ⟨.str _, H, I.tok _, ⟨_, rfl⟩, q⟩
  | bl b =>
    cases hd
    obtain rfl : u = Value.bool b := ru
    exact PySem.P.repr_of_bool ⟨.str _, H, I.tok _, ⟨_, rfl⟩, q⟩
  | int i =>
    cases hd
    obtain ⟨tk, rfl⟩ := ru
    have hi : i.natAbs.log2 < 1920 := by simpa [PyData.showable] using hs
    exact PySem.P.repr_of_int hi ⟨.str _, H, I.tok _, ⟨_, rfl⟩, q⟩
  | str z =>
    cases hd
    obtain ⟨tk, rfl⟩ := ru
    exact PySem.P.repr_of_str (hsz := by simpa only [PyData.shown] using hz) ⟨.str _, H, I.tok _, ⟨_, rfl⟩, q⟩
  | byt b => cases hd
  | flt b => cases hd
  | ty n => cases hd
end
end Sb

namespace Sb
open PySem PySem.Spec PyProof.Rows L2
section
variable {P : Program} {w : World} {K : PySem.W.Frag} {mg mb : Str → Option Value} {k : Nat} {fa a : Addr} {fd : FuncData} {x : Str} {sp : Sp} {s1 : Shared} {vs : List Value} {ns : List Int}
/-- what the row asks of the law's call -/
abbrev Done (P : Program) (w : World) (fa a : Addr) (s1 : Shared) : Prop := codeAny (model P w) callerA (.call (.ref fa) ⟨[.ref a], []⟩)
  (fun r s' => r = .ok (.ret (.bool true)) ∧ OldK s1.heap s'.heap ∧ s'.os = s1.os ∧ AllBare s'.gens) s1
/-- the law's call over an abstract heap that tracks the script at most -/
theorem overH {H : Hp} (KX : K.In s1.heap) (hns : s1.heap.Ns mainGlobals mg) (hb : s1.heap.Ns builtinsNs mb) (hbb : ∀ x : Str, x ≠ "__name__" → mb x = bootBuiltins x) (hlim : s1.heap.NoLimit) (hg : s1.gens = #[])
    (ha : s1.heap.get? a = some { cls := .type "list", data := .seq vs.toArray }) (hr : Room k callerA)
    (F : ∀ base : Heap, K.In base → base.Ns mainGlobals mg → FnG P w K mg base CX0 k fa fd [x] sp) (bd : ∀ (s : Shared) (u : Value), BindsTo s fd ⟨[u], []⟩ [(x, u)])
    (hO : Only H) (ok : HOk P w H s1.heap) (onlyA : ∀ b, H b ≠ none → b = a) (notK : H a ≠ none → K.lookup a = none)
    (want : sp [.ref a] H (fun v _ => v = .bl true) fun _ _ _ => False) : Done P w fa a s1 := by
  have free : ∀ {b : Addr} {o : Obj}, s1.heap.get? b = some o → (b = a → H b = none) → H b = none := by
    intro b o _ z
    cases q : H b with
    | none => rfl
    | some u =>
      have e : b = a := onlyA b (by simp [q])
      rw [z e] at q
      cases q
  have dict : ∀ {b : Addr} {o : Obj} {es : Array DictEntry} {ep : Nat}, s1.heap.get? b = some o → o.data = .dict es ep → H b = none := by
    intro b o es ep e d
    apply free e
    intro z
    subst z
    rw [ha] at e
    cases e
    cases (show Data.seq vs.toArray _ = Data.dict es ep from d)
  have spaces : ∀ {b : Addr} {m : Str → Option Value}, s1.heap.Ns b m → (hidT s1.heap H).Ns b m := by
    rintro b m ⟨o, es, ep, e, d, r⟩
    exact ⟨o, es, ep, hidT_get e (dict e d), d, r⟩
  have inB : K.In (hidT s1.heap H) := by
    intro b o e
    refine hidT_get (KX b o e) (free (KX b o e) fun z => ?_)
    subst z
    cases q : H b with
    | none => rfl
    | some u =>
      rw [notK (by simp [q])] at e
      cases e
  obtain ⟨mc, c1, c2⟩ := hlim
  have md : Mod K mg (hidT s1.heap H) := ⟨inB, spaces hns, ⟨mb, spaces hb, hbb⟩, ⟨mc, spaces c1, c2⟩⟩
  have e0 : Env0 P w K mg (hidT s1.heap H) callerA [] s1 H :=
    { frames := rfl, mod := md, bs := fun b o e => of_hidT e, bsz := Nat.le_of_eq (hidT_size _ _), funs := trivial, frf := (fun b z => (by cases z)), hok := ok, bare := .of_eq hg }
  have run := (F _ inB (spaces hns)).run callerA [] s1 H ⟨[.ref a], []⟩ [.ref a] [.ref a] _ _ rfl hr e0 (bd s1 (.ref a)) (.cons rfl .nil) want
  refine codeAny_mono run ?_
  intro r s' z
  match r, z with
  | .error e, z =>
    exact False.elim z
  | .ok .next, z => exact False.elim z
  | .ok .brk, z => exact False.elim z
  | .ok .cont, z => exact False.elim z
  | .ok (.ret u), ⟨v, H', os, bare, un, ok', rel, q⟩ =>
    subst q
    obtain rfl : u = Value.bool true := rel
    refine ⟨rfl, OldK.of_keep ?_, os, bare⟩
    intro b o e
    cases q : H b with
    | none => exact un.keep b o e q (fun z => by cases z) (fun z => by cases z)
    | some u =>
      cases hO b with
      | inl z =>
        rw [q] at z
        cases z
      | inr z =>
        obtain ⟨ob, xs, z⟩ := z
        have e1 := (ok b _ z).1
        have e2 := (ok' b _ (un.frzs b ob _ z)).1
        rw [e] at e1
        cases e1
        exact e2
/-- the law's call -/
theorem law_callG (KX : K.In s1.heap) (hns : s1.heap.Ns mainGlobals mg) (hb : s1.heap.Ns builtinsNs mb) (hbb : ∀ x : Str, x ≠ "__name__" → mb x = bootBuiltins x) (hlim : s1.heap.NoLimit) (hg : s1.gens = #[])
    (ha : s1.heap.get? a = some { cls := .type "list", data := .seq vs.toArray }) (hi : IntsAre vs ns) (hl : ns.length ≤ sizeLine) (hr : Room k callerA)
    (F : ∀ base : Heap, K.In base → base.Ns mainGlobals mg → FnG P w K mg base CX0 k fa fd [x] sp) (bd : ∀ (s : Shared) (u : Value), BindsTo s fd ⟨[u], []⟩ [(x, u)])
    (want : ∀ H : Hp, Only H → SqL K H a (ns.map V.int) → sp [.ref a] H (fun v _ => v = .bl true) fun _ _ _ => False) : Done P w fa a s1 := by
  have rv := vals_ints hi
  have nv := hi.length
  by_cases hk : K.lookup a = none
  · let H : Hp := fun b => if b = a then some (.frz { cls := .type "list", data := .seq vs.toArray } (.lst (ns.map V.int))) else none
    have at_a : H a = some (.frz { cls := .type "list", data := .seq vs.toArray } (.lst (ns.map V.int))) := if_pos rfl
    have off : ∀ b, b ≠ a → H b = none := fun b z => if_neg z
    have hO : Only H := by
      intro b
      by_cases e : b = a
      · subst e
        exact Or.inr ⟨_, _, at_a⟩
      · exact Or.inl (off b e)
    refine overH (H := H) KX hns hb hbb hlim hg ha hr F bd hO ?_ ?_ (fun _ => hk) (want H hO (Or.inl (Or.inr ⟨_, at_a⟩)))
    · intro b u z
      by_cases e : b = a
      · subst e
        rw [at_a] at z
        cases z
        exact ⟨ha, by rw [List.length_map]; exact hl, vs, _, rv, ha⟩
      · rw [off b e] at z
        cases z
    · intro b z
      by_cases e : b = a
      · exact e
      · exact absurd (off b e) z
  · cases q : K.lookup a with
    | none => exact absurd q hk
    | some o =>
      have e := KX a o q
      rw [ha] at e
      cases e
      have hO : Only fun _ => none := fun _ => Or.inl rfl
      refine overH (H := fun _ => none) KX hns hb hbb hlim hg ha hr F bd hO (fun b u z => by cases z) (fun b z => absurd rfl z) (fun z => absurd rfl z) (want _ hO (Or.inr ?_))
      exact ⟨_, vs.toArray, _, q, rfl, rfl, rfl, by rw [List.size_toArray, nv]; exact hl, by simpa using rv⟩
end
/-- the row's end, from the law's promise -/
theorem walk_ofG {l : PySem.W.OpenLaw} {n k : Nat} {q : Program} {loose : List Str} {XP : (Str → Option Value) → Heap → Prop} {YP : World → Heap → Prop} {d : DefRec} {K : Params → PySem.W.Frag} {sp : PySem.W.Frag → Sp} {x : Str}
    (hn : l.most = some n) (hn2 : n ≤ sizeLine) (hdf : d.params.defaults = []) (hr : Room k callerA) (hY : ∀ (w : World) (h : Heap), YP w h → (K w.params).In h)
    (F : ∀ (w : World) (mg : Str → Option Value) (fa : Addr) (h : Heap), (K w.params).In h → h.Ns mainGlobals mg → mg d.name = some (.ref fa) →
      ∃ fd : FuncData, (∀ (s : Shared) (u : Value), BindsTo s fd ⟨[u], []⟩ [(x, u)]) ∧
        ∀ base : Heap, (K w.params).In base → base.Ns mainGlobals mg → FnG l.prog w (K w.params) mg base CX0 k fa fd [x] (sp (K w.params)))
    (want : ∀ (K : PySem.W.Frag) (H : Hp) (a : Addr) (ns : List Int), ns.length ≤ n → (∀ z ∈ ns, Builtin.Int.intBits z ≤ 1048576) → Only H → SqL K H a (ns.map V.int) →
      sp K [.ref a] H (fun v _ => v = .bl true) fun _ _ _ => False) : PySem.W.WalkO q loose XP YP l.row.toRowW d [] (fun f vs => PySem.call f vs) := by
  apply Att.attach_callB hn hdf
  intro w s0 s1 mg mb fa o pm cd doc a vs ns G Y ho hd hcd hmg hobj hints hlen hbits hg
  obtain ⟨fd, bd, hF⟩ := F w mg fa _ (hY w _ Y) G.T.g hmg
  exact law_callG (hY w _ Y) G.T.g G.T.b G.T.builtins G.T.nolimit hg hobj hints (Nat.le_trans hlen hn2) hr hF bd (fun H hO hS => want _ H a ns hlen hbits hO hS)
end Sb

/-! Data that is small enough to be shown and compared. -/
namespace Sb
open PySem PySem.Spec PyProof.Rows L2
structure Nice (n m : Nat) (d : PyData) : Prop where
  lay : d.canLay0 = true
  dep : d.depth ≤ n
  sho : d.showable = true
  nod : d.hasDict = false
  len : d.shown.length ≤ m
theorem Nice.mono {n m n' m' : Nat} {d : PyData} (h : Nice n m d) (hn : n ≤ n') (hm : m ≤ m') : Nice n' m' d :=
  { h with dep := Nat.le_trans h.dep hn, len := Nat.le_trans h.len hm }
theorem Nice.shaped {n m : Nat} {d : PyData} (h : Nice n m d) (hn : n ≤ 64) : SeqAt.shaped d = true := by
  unfold SeqAt.shaped
  rw [h.lay, decide_eq_true (Nat.le_trans h.dep hn)]
  rfl
theorem log_small {i : Int} (h : i.natAbs < 10 ^ 99) : i.natAbs.log2 < 400 :=
  PySem.Flt.log2_lt_of (by decide) (Nat.lt_of_lt_of_le h (by decide +kernel))
theorem Nice.int {i : Int} (h : i.natAbs < 10 ^ 99) : Nice 0 100 (.int i) := by
  refine ⟨rfl, Nat.le_refl _, ?_, rfl, ?_⟩
  · have := log_small h
    simp only [PyData.showable, decide_eq_true_eq]
    omega
  · have e := int_text_length_le10 (k := 99) (by decide) h
    show (Str.ofString (toString i)).length ≤ 100
    rw [PySem.ofString_length]
    exact e
theorem Nice.bool (b : Bool) : Nice 0 5 (.bool b) := by
  refine ⟨rfl, Nat.le_refl _, rfl, rfl, ?_⟩
  cases b <;> decide
theorem Nice.none : Nice 0 4 .none := ⟨rfl, Nat.le_refl _, rfl, rfl, by decide⟩
theorem niceAll {n m : Nat} : ∀ {ds : List PyData}, (∀ d ∈ ds, Nice n m d) → PyData.canLayAll0 ds = true ∧ PyData.depthAll ds ≤ n ∧ PyData.showableAll ds = true ∧ PyData.hasDictAll ds = false ∧
    ((PyData.shownAll ds).map (·.length)).sum ≤ ds.length * m ∧ (PyData.shownAll ds).length = ds.length
  | [], _ => ⟨rfl, Nat.zero_le _, rfl, rfl, by simp [PyData.shownAll], rfl⟩
  | d :: ds, h => by
    have hd := h d List.mem_cons_self
    obtain ⟨a, b, c, e, f, g⟩ := niceAll (ds := ds) fun x hx => h x (List.mem_cons_of_mem _ hx)
    refine ⟨?_, ?_, ?_, ?_, ?_, ?_⟩
    · simp only [PyData.canLayAll0, hd.lay, a, Bool.and_self]
    · simp only [PyData.depthAll]
      exact Nat.max_le.mpr ⟨hd.dep, b⟩
    · simp only [PyData.showableAll, hd.sho, c, Bool.and_self]
    · simp only [PyData.hasDictAll, hd.nod, e, Bool.or_self]
    · simp only [PyData.shownAll, List.map_cons, List.sum_cons, List.length_cons]
      have := hd.len
      rw [Nat.succ_mul]
      omega
    · simp only [PyData.shownAll, List.length_cons, g]
theorem Nice.tuple {n m k : Nat} {ds : List PyData} (h : ∀ d ∈ ds, Nice n m d) (hk : ds.length ≤ k) : Nice (n + 1) (k * m + 2 * k + 3) (.tuple ds) := by
  obtain ⟨a, b, c, e, f, g⟩ := niceAll h
  refine ⟨a, by simp only [PyData.depth]; omega, c, e, ?_⟩
  have l := tupleText_len_le (PyData.shownAll ds)
  simp only [PyData.shown]
  rw [g] at l
  have l2 : ds.length * m ≤ k * m := Nat.mul_le_mul_right _ hk
  omega
theorem Nice.list {n m k : Nat} {ds : List PyData} (h : ∀ d ∈ ds, Nice n m d) (hk : ds.length ≤ k) : Nice (n + 1) (k * m + 2 * k + 3) (.list ds) := by
  obtain ⟨a, b, c, e, f, g⟩ := niceAll h
  refine ⟨a, by simp only [PyData.depth]; omega, c, e, ?_⟩
  have l := listText_len_le (PyData.shownAll ds)
  simp only [PyData.shown]
  rw [g] at l
  have l2 : ds.length * m ≤ k * m := Nat.mul_le_mul_right _ hk
  omega
theorem shaped_ints (l : List Int) : SeqAt.shaped (.list (l.map PyData.int)) = true := by
  unfold SeqAt.shaped
  have h : PyData.canLayAll0 (l.map PyData.int) = true ∧ PyData.depthAll (l.map PyData.int) = 0 := by
    induction l with
    | nil => exact ⟨rfl, rfl⟩
    | cons x r ih => exact ⟨by simp only [List.map_cons, PyData.canLayAll0, PyData.canLay0, ih.1, Bool.and_self], by simp only [List.map_cons, PyData.depthAll, PyData.depth, ih.2, Nat.max_self]⟩
  simp only [PyData.canLay0, PyData.depth, h.1, h.2, Bool.true_and, decide_eq_true_eq]
  decide
theorem dp_ints (K : PySem.W.Frag) (H : Hp) : ∀ l : List Int, DpAll K H (l.map V.int) (l.map PyData.int)
  | [] => .nil
  | x :: r => .cons (.int x) (dp_ints K H r)
theorem eqv_ints : ∀ l m : List Int, PyData.eqvAll (l.map PyData.int) (m.map PyData.int) = decide (l = m)
  | [], [] => rfl
  | [], _ :: _ => rfl
  | _ :: _, [] => rfl
  | x :: r, y :: t => by
    simp only [List.map_cons, PyData.eqvAll, PyData.eqv, eqv_ints r t, List.cons.injEq]
    by_cases h : x = y <;> simp [h]
theorem div_wide {i j : Int} (h : 0 < j) (h2 : j < 2 ^ 100) : CDivW i j := wide_div (b := 100) h (by omega) (by decide) (by decide)
end Sb

/-! Data that never changes: scalars and tuples of them, at any depth. -/
namespace Sb
open PySem PySem.Spec PyProof.Rows L2
mutual
inductive TD (H : Hp) : V → PyData → Prop
  | non : TD H .non .none
  | bl (b : Bool) : TD H (.bl b) (.bool b)
  | int (i : Int) : TD H (.int i) (.int i)
  | str (x : Str) : TD H (.str x) (.str x)
  | tup {a : Addr} {xs : List V} {ds : List PyData} : H a = some (.tup xs) → TDs H xs ds → TD H (.ref a) (.tuple ds)
inductive TDs (H : Hp) : List V → List PyData → Prop
  | nil : TDs H [] []
  | cons {v : V} {vs : List V} {d : PyData} {ds : List PyData} : TD H v d → TDs H vs ds → TDs H (v :: vs) (d :: ds)
end
/-- tuples stay -/
def Tups (H H' : Hp) : Prop := ∀ a xs, H a = some (.tup xs) → H' a = some (.tup xs)
theorem Tups.refl {H : Hp} : Tups H H := fun _ _ h => h
theorem Tups.trans {H H1 H2 : Hp} (a : Tups H H1) (b : Tups H1 H2) : Tups H H2 := fun x y h => b x y (a x y h)
theorem Tups.same {H H' : Hp} (h : Same H H') : Tups H H' := fun a xs e => h a _ e
theorem Tups.new {H : Hp} {a : Addr} {o : HO} (h : H a = none) : Tups H (upd H a o) := fun b xs e => by
  rw [upd_ne (ne_of_none e h)]
  exact e
theorem Tups.put {H : Hp} {a : Addr} {o u : HO} (h : H a = some u) (hu : ∀ xs, u ≠ .tup xs) : Tups H (upd H a o) := fun b xs e => by
  rw [upd_ne (ne_of e h (hu xs).symm)]
  exact e
theorem Tups.lst {H : Hp} {a : Addr} {o : HO} {l : List V} (h : H a = some (.lst l)) : Tups H (upd H a o) := Tups.put h (fun _ z => by cases z)
mutual
theorem TD.mono {H H' : Hp} (t : Tups H H') : ∀ {v : V} (d : PyData), TD H v d → TD H' v d
  | _, .none, h => by cases h; exact .non
  | _, .bool b, h => by cases h; exact .bl b
  | _, .int i, h => by cases h; exact .int i
  | _, .str x, h => by cases h; exact .str x
  | _, .tuple ds, h => by
    cases h with
    | tup e r => exact .tup (t _ _ e) (TDs.mono t ds r)
  | _, .list _, h => by cases h
  | _, .dict _, h => by cases h
theorem TDs.mono {H H' : Hp} (t : Tups H H') : ∀ {vs : List V} (ds : List PyData), TDs H vs ds → TDs H' vs ds
  | _, [], h => by cases h; exact .nil
  | _, d :: ds, h => by
    cases h with
    | cons a r => exact .cons (TD.mono t d a) (TDs.mono t ds r)
end
mutual
theorem TD.dp {K : PySem.W.Frag} {H : Hp} : ∀ {v : V} (d : PyData), TD H v d → Dp K H v d
  | _, .none, h => by cases h; exact .non
  | _, .bool b, h => by cases h; exact .bl b
  | _, .int i, h => by cases h; exact .int i
  | _, .str x, h => by cases h; exact .str x
  | _, .tuple ds, h => by
    cases h with
    | tup e r => exact .tup (SqT.of e) (TDs.dp ds r)
  | _, .list _, h => by cases h
  | _, .dict _, h => by cases h
theorem TDs.dp {K : PySem.W.Frag} {H : Hp} : ∀ {vs : List V} (ds : List PyData), TDs H vs ds → DpAll K H vs ds
  | _, [], h => by cases h; exact .nil
  | _, d :: ds, h => by
    cases h with
    | cons a r => exact .cons (TD.dp d a) (TDs.dp ds r)
end
theorem TDs.length {H : Hp} : ∀ {vs : List V} {ds : List PyData}, TDs H vs ds → vs.length = ds.length
  | _, _, .nil => rfl
  | _, _, .cons _ r => congrArg (· + 1) r.length
theorem TDs.get {H : Hp} : ∀ {vs : List V} {ds : List PyData} {i : Nat} {v : V}, TDs H vs ds → vs[i]? = some v → ∃ d, ds[i]? = some d ∧ TD H v d
  | _, _, _, _, .nil, e => by simp at e
  | _, _, 0, _, .cons a _, e => by
    simp at e
    subst e
    exact ⟨_, rfl, a⟩
  | _, _, i + 1, v, .cons _ r, e => by
    obtain ⟨d, h1, h2⟩ := TDs.get (i := i) (v := v) r (by simpa using e)
    exact ⟨d, by simpa using h1, h2⟩
theorem TDs.at {H : Hp} : ∀ {vs : List V} {ds : List PyData} {i : Nat} {d : PyData}, TDs H vs ds → ds[i]? = some d → ∃ v, vs[i]? = some v ∧ TD H v d
  | _, _, _, _, .nil, e => by simp at e
  | _, _, 0, _, .cons a _, e => by
    simp at e
    subst e
    exact ⟨_, rfl, a⟩
  | _, _, i + 1, v, .cons _ r, e => by
    obtain ⟨d, h1, h2⟩ := TDs.at (i := i) (d := v) r (by simpa using e)
    exact ⟨d, by simpa using h1, h2⟩
theorem TDs.app {H : Hp} : ∀ {vs us : List V} {ds es : List PyData}, TDs H vs ds → TDs H us es → TDs H (vs ++ us) (ds ++ es)
  | _, _, _, _, .nil, s => s
  | _, _, _, _, .cons a r, s => .cons a (r.app s)
theorem TDs.take {H : Hp} : ∀ {vs : List V} {ds : List PyData} (n : Nat), TDs H vs ds → TDs H (vs.take n) (ds.take n)
  | _, _, 0, _ => .nil
  | _, _, _ + 1, .nil => .nil
  | _, _, n + 1, .cons a r => .cons a (r.take n)
theorem TDs.drop {H : Hp} : ∀ {vs : List V} {ds : List PyData} (n : Nat), TDs H vs ds → TDs H (vs.drop n) (ds.drop n)
  | _, _, 0, r => r
  | _, _, _ + 1, .nil => .nil
  | _, _, n + 1, .cons _ r => r.drop n
theorem TDs.ints {H : Hp} : ∀ {vs : List V} {ns : List Int}, TDs H vs (ns.map PyData.int) → vs = ns.map V.int
  | _, [], h => by cases h; rfl
  | _, n :: ns, h => by
    cases h with
    | cons a r =>
      cases a
      rw [List.map_cons, r.ints]
theorem TDs.ofInts {H : Hp} : ∀ {ns : List Int}, TDs H (ns.map V.int) (ns.map PyData.int)
  | [] => .nil
  | n :: ns => .cons (.int n) TDs.ofInts
/-- a tuple at v -/
theorem TD.isTup {H : Hp} {v : V} {ds : List PyData} (h : TD H v (.tuple ds)) : ∃ a xs, v = .ref a ∧ H a = some (.tup xs) ∧ TDs H xs ds := by
  cases h with
  | tup e r => exact ⟨_, _, rfl, e, r⟩
theorem TD.isInt {H : Hp} {v : V} {i : Int} (h : TD H v (.int i)) : v = .int i := by cases h; rfl
/-- a pair of ints -/
theorem TD.pair {H : Hp} {v : V} {i j : Int} (h : TD H v (.tuple [.int i, .int j])) : ∃ a, v = .ref a ∧ H a = some (.tup [.int i, .int j]) := by
  obtain ⟨a, xs, rfl, e, r⟩ := h.isTup
  cases r with
  | cons h1 r =>
    cases r with
    | cons h2 r =>
      cases r
      cases h1
      cases h2
      exact ⟨a, rfl, e⟩
theorem TD.ofPair {H : Hp} {a : Addr} {i j : Int} (h : H a = some (.tup [.int i, .int j])) : TD H (.ref a) (.tuple [.int i, .int j]) := .tup h (.cons (.int i) (.cons (.int j) .nil))

/-! ### streams -/
def msgD (m : Int × Int) : PyData := .tuple [.int m.1, .int m.2]
def strmD (ms : List (Int × Int)) : PyData := .tuple (ms.map msgD)
theorem msgD_inj {a b : Int × Int} (h : PyData.eqv (msgD a) (msgD b) = true) : a = b := by
  obtain ⟨a1, a2⟩ := a
  obtain ⟨b1, b2⟩ := b
  simp only [msgD, PyData.eqv, PyData.eqvAll, Bool.and_true, Bool.and_eq_true, beq_iff_eq] at h
  rw [h.1, h.2]
theorem eqv_msgs : ∀ a b : List (Int × Int), PyData.eqvAll (a.map msgD) (b.map msgD) = decide (a = b)
  | [], [] => rfl
  | [], _ :: _ => rfl
  | _ :: _, [] => rfl
  | x :: r, y :: t => by
    have ih := eqv_msgs r t
    by_cases h : x = y
    · subst h
      have e : PyData.eqv (msgD x) (msgD x) = true := by simp [msgD, PyData.eqv, PyData.eqvAll]
      simp only [List.map_cons, PyData.eqvAll, e, ih, Bool.true_and, List.cons.injEq, true_and]
    · have e : PyData.eqv (msgD x) (msgD y) = false := by
        cases q : PyData.eqv (msgD x) (msgD y) with
        | false => rfl
        | true => exact absurd (msgD_inj q) h
      simp only [List.map_cons, PyData.eqvAll, e, Bool.false_and, List.cons.injEq, h, false_and, decide_false]
theorem eqv_strm (a b : List (Int × Int)) : PyData.eqv (strmD a) (strmD b) = decide (a = b) := by
  simp only [strmD, PyData.eqv]
  exact eqv_msgs a b
/-- a stream of ints that are not too long -/
def Short (ms : List (Int × Int)) : Prop := ∀ m ∈ ms, m.1.natAbs < 10 ^ 99 ∧ m.2.natAbs < 10 ^ 99
theorem nice_msg {m : Int × Int} (h : m.1.natAbs < 10 ^ 99 ∧ m.2.natAbs < 10 ^ 99) : Nice 1 207 (msgD m) := by
  refine Nice.tuple (n := 0) (m := 100) (k := 2) (fun d hd => ?_) (Nat.le_refl 2)
  simp only [List.mem_cons, List.not_mem_nil, or_false] at hd
  rcases hd with rfl | rfl
  · exact Nice.int h.1
  · exact Nice.int h.2
theorem nice_strm {ms : List (Int × Int)} {k : Nat} (h : Short ms) (hk : ms.length ≤ k) : Nice 2 (k * 207 + 2 * k + 3) (strmD ms) := by
  refine Nice.tuple (n := 1) (m := 207) (k := k) (fun d hd => ?_) (by rw [List.length_map]; exact hk)
  obtain ⟨m, hm, rfl⟩ := List.mem_map.mp hd
  exact nice_msg (h m hm)
theorem TDs.msg {H : Hp} {vs : List V} {ms : List (Int × Int)} {i : Nat} {v : V} (r : TDs H vs (ms.map msgD)) (h : vs[i]? = some v) : ∃ m a, ms[i]? = some m ∧ v = .ref a ∧ H a = some (.tup [.int m.1, .int m.2]) := by
  obtain ⟨d, h1, h2⟩ := r.get h
  rw [List.getElem?_map] at h1
  cases e : ms[i]? with
  | none => rw [e] at h1; cases h1
  | some m =>
    rw [e] at h1
    cases h1
    obtain ⟨a, h3, h4⟩ := TD.pair h2
    exact ⟨m, a, rfl, h3, h4⟩
theorem TDs.msgs_len {H : Hp} {vs : List V} {ms : List (Int × Int)} (r : TDs H vs (ms.map msgD)) : vs.length = ms.length := by
  rw [r.length, List.length_map]
end Sb

/-! Operators over data that never changes. -/
namespace Sb
open PySem PySem.Spec PyProof.Rows L2
theorem same_new {H : Hp} {p : Addr} {o : HO} (h : H p = none) : Same H (upd H p o) := fun b u e => by
  rw [upd_ne (ne_of_none e h)]
  exact e
section
variable {X : Cx}
theorem opImp {f : Value → Value → Sem Value} {r r' : R2} (h : OpR X f r) (i : ∀ x y H Q, r' x y H Q → r x y H Q) : OpR X f r' :=
  fun pins s σ H x y v u Q I rx ry z => h pins s σ H x y v u Q I rx ry (i x y H Q z)
/-- t + u -/
def rCatD : R2 := fun x y H Q => ∃ ds es, TD H x (.tuple ds) ∧ TD H y (.tuple es) ∧ ds.length + es.length ≤ 100000 ∧
  ∀ p H', Same H H' → TD H' (.ref p) (.tuple (ds ++ es)) → Q (.ref p) H'
theorem op_catD : OpR X (binaryOp .Add) rCatD := opImp op_catA fun x y H Q h => by
  obtain ⟨ds, es, h1, h2, hl, q⟩ := h
  obtain ⟨a, xs, rfl, ha, hx⟩ := h1.isTup
  obtain ⟨b, ys, rfl, hb, hy⟩ := h2.isTup
  have lx := hx.length
  have ly := hy.length
  refine ⟨a, b, xs, ys, rfl, rfl, SqT.of ha, SqT.of hb, ?_, ?_, ?_, ?_⟩
  · rw [lx, ly]
    exact Nat.le_trans hl (by decide)
  · intro e
    subst e
    cases hx
    exact q b H (Same.refl H) h2
  · intro _ e
    subst e
    cases hy
    exact q a H (Same.refl H) (by rw [List.append_nil]; exact h1)
  · intro _ _ p np
    exact q p _ (same_new np) (.tup upd_same (TDs.mono (Tups.new np) _ (hx.app hy)))
/-- a part of a list, by its bounds -/
def cutA {α : Type} (xs : List α) (lo hi : Option Int) : List α := (xs.drop (HT.sIx xs.length 0 lo)).take (HT.sIx xs.length xs.length hi - HT.sIx xs.length 0 lo)
theorem cutA_to {α : Type} (xs : List α) {k : Nat} (h : k ≤ xs.length) : cutA xs none (some (k : Int)) = xs.take k := by
  unfold cutA
  rw [HT.sIx_none, HT.sIx_nat, List.drop_zero, Nat.sub_zero, Nat.min_eq_left h]
theorem cutA_from {α : Type} (xs : List α) {k : Nat} (h : k ≤ xs.length) : cutA xs (some (k : Int)) none = xs.drop k := by
  unfold cutA
  rw [HT.sIx_none, HT.sIx_nat, Nat.min_eq_left h]
  exact List.take_of_length_le (by rw [List.length_drop]; exact Nat.le_refl _)
theorem TDs.cut {H : Hp} {xs : List V} {ds : List PyData} (h : TDs H xs ds) (lo hi : Option Int) : TDs H (cutV xs lo hi) (cutA ds lo hi) := by
  unfold cutV cutA
  rw [h.length]
  exact (h.drop _).take _
/-- t[lo:hi] -/
def rSlD : V → Option Int → Option Int → Hp → VK → Prop := fun x lo hi H Q => ∃ ds, TD H x (.tuple ds) ∧ ∀ p H', Same H H' → TD H' (.ref p) (.tuple (cutA ds lo hi)) → Q (.ref p) H'
theorem sl_D : SlR X rSlD := by
  intro pins s σ H x v vl vu lo hi sl Q I rx hs pl pu h
  refine sl_tupA pins s σ H x v vl vu lo hi sl Q I rx hs pl pu ?_
  obtain ⟨ds, hT, q⟩ := h
  obtain ⟨a, xs, rfl, ha, hx⟩ := hT.isTup
  refine ⟨a, xs, rfl, SqT.of ha, ?_, ?_⟩
  · rintro ⟨e1, e2⟩
    refine q a H (Same.refl H) ?_
    have e : cutA ds lo hi = ds := by
      unfold cutA
      rw [← hx.length, e1, e2, List.drop_zero, Nat.sub_zero]
      exact List.take_of_length_le (by rw [hx.length]; exact Nat.le_refl _)
    rw [e]
    exact hT
  · intro _ p np
    exact q p _ (same_new np) (.tup upd_same (TDs.mono (Tups.new np) _ (hx.cut lo hi)))
/-- x == y, x != y over data that never changes -/
def rEqT : R2 := fun x y H Q => ∃ d e, TD H x d ∧ TD H y e ∧ SeqAt.shaped d = true ∧ SeqAt.shaped e = true ∧ Q (.bl (PyData.eqv d e)) H
def rNeT : R2 := fun x y H Q => ∃ d e, TD H x d ∧ TD H y e ∧ SeqAt.shaped d = true ∧ SeqAt.shaped e = true ∧ Q (.bl (!PyData.eqv d e)) H
theorem op_eqT (hu : X.A.units + 64 < cLine) : OpR X (compareOp .Eq) rEqT := opImp (op_eqD hu) fun x y H Q ⟨d, e, h1, h2, r⟩ => ⟨d, e, h1.dp _, h2.dp _, r⟩
theorem op_neT (hu : X.A.units + 64 < cLine) : OpR X (compareOp .NotEq) rNeT := opImp (op_neD hu) fun x y H Q ⟨d, e, h1, h2, r⟩ => ⟨d, e, h1.dp _, h2.dp _, r⟩
end
theorem shaped_strm (ms : List (Int × Int)) : SeqAt.shaped (strmD ms) = true := by
  have h : PyData.canLayAll0 (ms.map msgD) = true ∧ PyData.depthAll (ms.map msgD) ≤ 1 := by
    induction ms with
    | nil => exact ⟨rfl, Nat.zero_le _⟩
    | cons x r ih => exact ⟨by simp only [List.map_cons, PyData.canLayAll0, ih.1, Bool.and_true]; rfl, by simp only [List.map_cons, PyData.depthAll]; exact Nat.max_le.mpr ⟨Nat.le_refl _, ih.2⟩⟩
  unfold SeqAt.shaped
  simp only [strmD, PyData.canLay0, PyData.depth, h.1, Bool.true_and, decide_eq_true_eq]
  have := h.2
  omega
end Sb

/-! Numbered streams: the mathematics. -/
namespace Sb
open PySem PySem.Spec PyProof.Rows L2
def grow (names : List Int) (v : Int) : List Int := if v ∈ names then names else names ++ [v]
def numGo : List Int → List (Int × Int) → List (Int × Int)
  | _, [] => []
  | names, m :: r => (m.1, ((grow names m.2).idxOf m.2 : Nat)) :: numGo (grow names m.2) r
def numb (ms : List (Int × Int)) : List (Int × Int) := numGo [] ms
def seen (names : List Int) (ms : List (Int × Int)) : List Int := ms.foldl (fun n m => grow n m.2) names
theorem numGo_len : ∀ (ms : List (Int × Int)) (names : List Int), (numGo names ms).length = ms.length
  | [], _ => rfl
  | m :: r, names => by simp only [numGo, List.length_cons, numGo_len r]
theorem numb_len (ms : List (Int × Int)) : (numb ms).length = ms.length := numGo_len ms []
theorem numGo_snoc : ∀ (ms : List (Int × Int)) (names : List Int) (m : Int × Int), numGo names (ms ++ [m]) = numGo names ms ++ [(m.1, (((grow (seen names ms) m.2).idxOf m.2 : Nat) : Int))]
  | [], _, _ => rfl
  | x :: r, names, m => by
    simp only [List.cons_append, numGo, numGo_snoc r (grow names x.2) m]
    rfl
theorem numGo_take : ∀ (ms : List (Int × Int)) (names : List Int) (n : Nat), numGo names (ms.take n) = (numGo names ms).take n
  | [], _, n => by simp [numGo]
  | x :: r, names, 0 => by simp [numGo]
  | x :: r, names, n + 1 => by simp only [List.take_succ_cons, numGo, numGo_take r]
theorem numb_take (ms : List (Int × Int)) (n : Nat) : numb (ms.take n) = (numb ms).take n := numGo_take ms [] n
theorem seen_snoc (ms : List (Int × Int)) (names : List Int) (m : Int × Int) : seen names (ms ++ [m]) = grow (seen names ms) m.2 := by
  unfold seen
  rw [List.foldl_append]
  rfl
theorem grow_len (names : List Int) (v : Int) : (grow names v).length ≤ names.length + 1 := by
  unfold grow
  split
  · omega
  · simp
theorem seen_len : ∀ (ms : List (Int × Int)) (names : List Int), (seen names ms).length ≤ names.length + ms.length
  | [], names => Nat.le_refl _
  | m :: r, names => by
    have h := seen_len r (grow names m.2)
    have g := grow_len names m.2
    show (seen (grow names m.2) r).length ≤ _
    rw [List.length_cons]
    omega
theorem mem_grow (names : List Int) (v : Int) : v ∈ grow names v := by
  unfold grow
  split
  · assumption
  · simp
theorem idx_append {names : List Int} {v : Int} (h : v ∈ names) (t : List Int) : (names ++ t).idxOf v = names.idxOf v := by
  induction names with
  | nil => cases h
  | cons x r ih =>
    simp only [List.cons_append, List.idxOf_cons]
    by_cases e : x == v
    · simp [e]
    · rcases List.mem_cons.mp h with rfl | h
      · simp at e
      · simp [e, ih h]
theorem idx_new {names : List Int} {v : Int} (h : v ∉ names) : (names ++ [v]).idxOf v = names.length := by
  induction names with
  | nil => simp
  | cons x r ih =>
    have hx : ¬ x = v := fun e => h (by rw [e]; exact List.mem_cons_self)
    have hr : v ∉ r := fun e => h (List.mem_cons_of_mem _ e)
    simp only [List.cons_append, List.idxOf_cons, List.length_cons]
    rw [ih hr]
    have e1 : (x == v) = false := by simpa using hx
    rw [e1]
    rfl
theorem idx_lt {names : List Int} {v : Int} (h : v ∈ names) : names.idxOf v < names.length := List.idxOf_lt_length_iff.mpr h
/-! renaming -/
theorem idx_map {f : Int → Int} (hf : ∀ x y, f x = f y → x = y) (v : Int) : ∀ names : List Int, (names.map f).idxOf (f v) = names.idxOf v
  | [] => by simp
  | x :: r => by
    simp only [List.map_cons, List.idxOf_cons, idx_map hf v r]
    by_cases e : x = v
    · subst e; simp
    · have : ¬ f x = f v := fun z => e (hf _ _ z)
      have e1 : (x == v) = false := by simpa using e
      have e2 : (f x == f v) = false := by simpa using this
      rw [e1, e2]
theorem mem_map_inj {f : Int → Int} (hf : ∀ x y, f x = f y → x = y) {v : Int} {names : List Int} : f v ∈ names.map f ↔ v ∈ names := by
  constructor
  · intro h
    obtain ⟨u, hu, e⟩ := List.mem_map.mp h
    rw [← hf _ _ e]
    exact hu
  · intro h
    exact List.mem_map.mpr ⟨v, h, rfl⟩
theorem grow_map {f : Int → Int} (hf : ∀ x y, f x = f y → x = y) (names : List Int) (v : Int) : grow (names.map f) (f v) = (grow names v).map f := by
  unfold grow
  by_cases h : v ∈ names
  · rw [if_pos h, if_pos ((mem_map_inj hf).mpr h)]
  · rw [if_neg h, if_neg (fun z => h ((mem_map_inj hf).mp z)), List.map_append]
    rfl
theorem numGo_map {f : Int → Int} (hf : ∀ x y, f x = f y → x = y) : ∀ (ms : List (Int × Int)) (names : List Int), numGo (names.map f) (ms.map fun m => (m.1, f m.2)) = numGo names ms
  | [], _ => rfl
  | m :: r, names => by
    simp only [List.map_cons, numGo, grow_map hf, idx_map hf, numGo_map hf r]
theorem numb_map {f : Int → Int} (hf : ∀ x y, f x = f y → x = y) (ms : List (Int × Int)) : numb (ms.map fun m => (m.1, f m.2)) = numb ms := numGo_map hf ms []
/-! numbered twice -/
def iot (k : Nat) : List Int := (List.range k).map (fun i : Nat => (i : Int))
theorem iot_succ (k : Nat) : iot (k + 1) = iot k ++ [(k : Int)] := by
  unfold iot
  rw [List.range_succ, List.map_append]
  rfl
theorem mem_iot {j k : Nat} : (j : Int) ∈ iot k ↔ j < k := by
  unfold iot
  rw [List.mem_map]
  constructor
  · rintro ⟨a, ha, e⟩
    have := List.mem_range.mp ha
    omega
  · intro h
    exact ⟨j, List.mem_range.mpr h, rfl⟩
theorem idx_iot : ∀ {k j : Nat}, j < k → (iot k).idxOf (j : Int) = j
  | 0, _, h => absurd h (Nat.not_lt_zero _)
  | k + 1, j, h => by
    rw [iot_succ]
    by_cases e : j < k
    · rw [idx_append (mem_iot.mpr e), idx_iot e]
    · have : j = k := by omega
      subst this
      rw [idx_new (fun z => Nat.lt_irrefl _ (mem_iot.mp z))]
      simp [iot]
theorem iot_len (k : Nat) : (iot k).length = k := by simp [iot]
theorem numGo_idem : ∀ (ms : List (Int × Int)) (names : List Int), numGo (iot names.length) (numGo names ms) = numGo names ms
  | [], _ => rfl
  | m :: r, names => by
    by_cases h : m.2 ∈ names
    · have e : grow names m.2 = names := if_pos h
      have hl := idx_lt h
      have g : grow (iot names.length) (names.idxOf m.2 : Nat) = iot names.length := if_pos (mem_iot.mpr hl)
      simp only [numGo, e, g, idx_iot hl, numGo_idem r names]
    · have e : grow names m.2 = names ++ [m.2] := if_neg h
      have g : grow (iot names.length) ((names.length : Nat) : Int) = iot (names.length + 1) := by
        rw [iot_succ]
        exact if_neg (fun z => Nat.lt_irrefl _ (mem_iot.mp z))
      have ih := numGo_idem r (names ++ [m.2])
      rw [List.length_append] at ih
      simp only [numGo, e, idx_new h, g, idx_iot (Nat.lt_succ_self _)]
      exact congrArg _ ih
theorem numb_idem (ms : List (Int × Int)) : numb (numb ms) = numb ms := by
  have h := numGo_idem ms []
  exact h
theorem numGo_mem : ∀ (ms : List (Int × Int)) (names : List Int) (m : Int × Int), m ∈ numGo names ms → 0 ≤ m.2 ∧ m.2 < names.length + ms.length ∧ ∃ x ∈ ms, x.1 = m.1
  | [], _, _, h => by cases h
  | x :: r, names, m, h => by
    rcases List.mem_cons.mp h with rfl | h
    · refine ⟨by omega, ?_, x, List.mem_cons_self, rfl⟩
      have := idx_lt (mem_grow names x.2)
      have := grow_len names x.2
      rw [List.length_cons]
      show ((List.idxOf x.2 (grow names x.2) : Nat) : Int) < _
      omega
    · obtain ⟨a, b, y, hy, e⟩ := numGo_mem r (grow names x.2) m h
      have := grow_len names x.2
      refine ⟨a, ?_, y, List.mem_cons_of_mem _ hy, e⟩
      rw [List.length_cons]
      omega
theorem numb_short {ms : List (Int × Int)} (h : Short ms) (hl : ms.length ≤ 100000) : Short (numb ms) := by
  intro m hm
  obtain ⟨a, b, x, hx, e⟩ := numGo_mem ms [] m hm
  refine ⟨?_, ?_⟩
  · rw [← e]
    exact (h x hx).1
  · have : m.2 < 100000 + 1 := by simp at b; omega
    omega
/-! the dict of numbers -/
def DN (kvs : List (Key × V)) (names : List Int) : Prop := kvs.length = names.length ∧ ∀ v : Int, valV kvs (Sum.inl v : Key) = if v ∈ names then some (.int (names.idxOf v : Nat)) else none
theorem DN.nil : DN [] [] := ⟨rfl, fun v => by rw [if_neg (by simp)]; rfl⟩
theorem DN.in {kvs : List (Key × V)} {names : List Int} (h : DN kvs names) {v : Int} (hv : v ∈ names) : valV kvs (Sum.inl v : Key) = some (.int (names.idxOf v : Nat)) := by rw [h.2, if_pos hv]
theorem DN.out {kvs : List (Key × V)} {names : List Int} (h : DN kvs names) {v : Int} (hv : v ∉ names) : valV kvs (Sum.inl v : Key) = none := by rw [h.2, if_neg hv]
theorem DN.put {kvs : List (Key × V)} {names : List Int} (h : DN kvs names) {v : Int} (hv : v ∉ names) : DN (putK kvs (Sum.inl v : Key) (.int (kvs.length : Nat))) (names ++ [v]) := by
  refine ⟨?_, fun u => ?_⟩
  · rw [putK_new _ (h.out hv), List.length_append, List.length_append, h.1]
    rfl
  · rw [valV_put]
    by_cases e : u = v
    · subst e
      rw [if_pos rfl, if_pos (by simp), idx_new hv, h.1]
    · rw [if_neg (fun z => e (Sum.inl.inj z)), h.2]
      by_cases hu : u ∈ names
      · rw [if_pos hu, if_pos (List.mem_append_left _ hu), idx_append hu]
      · rw [if_neg hu, if_neg]
        intro z
        rcases List.mem_append.mp z with z | z
        · exact hu z
        · simp at z
          exact e z
end Sb

/-! zip of a tuple with a list: the model's zip over any two cursors. -/
namespace Sb
open PySem PySem.Spec PyProof.Rows L2
open Builtin.SmallTypes (nextOf)
/-- an iterator at `it` over xs, which lie at l; S h k: in h it stands at k -/
structure Cur (it l : Addr) (xs : Array Value) (S : Heap → Nat → Prop) : Prop where
  step : ∀ {P : Program} {w : World} {A : Around} {E : Value → Shared → Prop} {s : Shared} {k : Nat} {x : Value} {Q : Value → Shared → Prop}, S s.heap k → xs[k]? = some x →
    (∀ h', S h' (k + 1) → Heap.SameBut it s.heap h' → Q x { s with heap := h' }) → wpAny (model P w) A (nextOf (.ref it)) Q E s
  over : ∀ {P : Program} {w : World} {A : Around} {E : Value → Shared → Prop} {s : Shared} {k : Nat} {Q : Value → Shared → Prop}, A.handled = none → S s.heap k → xs[k]? = none →
    (∀ h' e, Heap.ExtBut it s.heap h' → (∃ o, h'.get? e = some o ∧ o.cls = .type "StopIteration") → E (.ref e) { s with heap := h' }) → wpAny (model P w) A (nextOf (.ref it)) Q E s
  far : ∀ {c : Addr} {h h' : Heap} {k : Nat}, S h k → Heap.ExtBut c h h' → it ≠ c → l ≠ c → S h' k
theorem cur_tup {it l : Addr} {xs : Array Value} (ne : l ≠ it) : Cur it l xs fun h k => h.IsTupleIter it l k ∧ h.IsTuple l xs where
  step := fun ⟨a, b⟩ e q => RZ.nextOf_tuple_item a b e fun h' c d => q h' ⟨c, b.extBut d.extBut ne⟩ d
  over := fun hh ⟨a, b⟩ e q => RZ.nextOf_tuple_end hh a b e q
  far := fun ⟨a, b⟩ x n m => ⟨a.extBut x n, b.extBut x m⟩
theorem cur_lst {it l : Addr} {xs : Array Value} (ne : l ≠ it) : Cur it l xs fun h k => h.IsListIter it l k ∧ h.IsList l xs where
  step := fun ⟨a, b⟩ e q => wpAny_nextOf_list_item a b e fun h' c d => q h' ⟨c, b.extBut d.extBut ne⟩ d
  over := fun hh ⟨a, b⟩ e q => wpAny_nextOf_list_end hh a b e q
  far := fun ⟨a, b⟩ x n m => ⟨a.extBut x n, b.extBut x m⟩
section
variable {P : Program} {w : World} {A : Around} {E : Value → Shared → Prop} {s : Shared} {z TI TO i1 i2 l1 l2 : Addr} {k1 k2 : Nat} {xs ys : Array Value} {x y a b : Value} {S1 S2 : Heap → Nat → Prop}
/-- all but the zip's own part stands -/
def ZFr (z TO i1 i2 : Addr) (h h' : Heap) : Prop := ∀ c o, c ≠ z → c ≠ TO → c ≠ i1 → c ≠ i2 → h.get? c = some o → h'.get? c = some o
structure ZAt (h : Heap) (z TI TO : Addr) (f x y : Value) (S1 S2 : Heap → Nat → Prop) (k1 k2 : Nat) : Prop where
  zip : IsZip h z TI TO f
  out : IsPair h TO x y
  s1 : S1 h k1
  s2 : S2 h k2
theorem cur_next (C1 : Cur i1 l1 xs S1) (C2 : Cur i2 l2 ys S2) (D : ZipApart z TI TO i1 i2 l1 l2) {Q : Value → Shared → Prop} (Z : ZAt s.heap z TI TO .none a b S1 S2 k1 k2) (hTI : IsPair s.heap TI (.ref i1) (.ref i2)) (hx : xs[k1]? = some x) (hy : ys[k2]? = some y)
    (hQ : ∀ h', ZAt h' z TI TO (rawInt s.heap.objs.size) x y S1 S2 (k1 + 1) (k2 + 1) → IsPair h' s.heap.objs.size x y → ZFr z TO i1 i2 s.heap h' → Q (.ref s.heap.objs.size) { s with heap := h' }) :
    wpAny (model P w) A (Builtin.«zip.__next__» ⟨[.ref z], []⟩) (fun fin s' => ∃ v, fin = .done (.ret v) ∧ Q v s') E s := by
  obtain ⟨hz, hTO, h1, h2⟩ := Z
  show wpAny _ _ (field (.ref z) 2 >>= _) _ _ _; apply wpAny_bind; apply wpAny_field hz rfl (x := .bool false) rfl
  show wpAny _ _ (field (.ref z) 3 >>= _) _ _ _; apply wpAny_bind; apply wpAny_field hz rfl (x := .ref TI) rfl
  apply wpAny_bind; apply wpAny_seqItems hTI rfl
  show wpAny _ _ (Builtin.SmallTypes.ownedTupleIsFree (.ref z) >>= _) _ _ _
  apply wpAny_bind; unfold Builtin.SmallTypes.ownedTupleIsFree
  apply wpAny_bind; apply wpAny_field hz rfl (x := .none) rfl; apply wpAny_pure
  simp only [if_true]
  apply wpAny_bind; apply wpAny_rule
  apply wpAny_bind; apply wpAny_field hz rfl (x := .ref TO) rfl
  refine wpAny_bind (wpAny_setField_rec hz (by simp) fun ha za sa => ?_)
  replace za : IsZip ha z TI TO .ellipsis := za
  apply wpAny_bind; simp only [List.zipIdx_cons, List.zipIdx_nil, List.forIn_cons, List.forIn_nil]
  -- the first one
  apply wpAny_bind; apply wpAny_bind; apply wpAny_onRaise
  show wpAny _ _ (nextOf (.ref i1) >>= _) _ _ _
  refine wpAny_bind (C1.step (C1.far h1 sa.extBut D.i1z D.l1z) hx fun hb q1 sb => ?_)
  apply wpAny_pure
  have Tb : IsPair hb TO a b := sb.extBut _ _ D.TOi1 (sa.extBut _ _ D.TOz hTO)
  apply wpAny_bind; apply wpAny_seqItems Tb rfl
  refine wpAny_bind (wpAny_updateSeq_pair Tb fun hc Tc sc => ?_)
  replace Tc : IsPair hc TO x b := Tc
  apply wpAny_bind; apply wpAny_letGo; apply wpAny_pure
  -- the second one
  apply wpAny_bind; apply wpAny_bind; apply wpAny_onRaise
  show wpAny _ _ (nextOf (.ref i2) >>= _) _ _ _
  have q2 : S2 hc k2 := C2.far (C2.far (C2.far h2 sa.extBut D.i2z D.l2z) sb.extBut D.i12.symm D.l2i1) sc.extBut D.TOi2.symm D.l2TO
  refine wpAny_bind (C2.step q2 hy fun hd q2 sd => ?_)
  apply wpAny_pure
  have Td : IsPair hd TO x b := sd.extBut _ _ D.TOi2 Tc
  apply wpAny_bind; apply wpAny_seqItems Td rfl
  refine wpAny_bind (wpAny_updateSeq_pair Td fun he Te se => ?_)
  replace Te : IsPair he TO x y := Te
  apply wpAny_bind; apply wpAny_letGo; apply wpAny_pure; apply wpAny_pure
  -- the pair
  apply wpAny_bind; apply wpAny_seqItems Te rfl
  apply wpAny_bind; refine wpAny_newTuple ?_
  have sz : he.objs.size = s.heap.objs.size := ((((se.1.trans sd.1).trans sc.1).trans sb.1).trans sa.1)
  have q1e : S1 he (k1 + 1) := C1.far (C1.far (C1.far q1 sc.extBut D.TOi1.symm D.l1TO) sd.extBut D.i12 D.l1i2) se.extBut D.TOi1.symm D.l1TO
  have q2e : S2 he (k2 + 1) := C2.far q2 se.extBut D.TOi2.symm D.l2TO
  have ze : IsZip he z TI TO .ellipsis := se.extBut _ _ D.TOz.symm (sd.extBut _ _ D.i2z.symm (sc.extBut _ _ D.TOz.symm (sb.extBut _ _ D.i1z.symm za)))
  have fr : ZFr z TO i1 i2 s.heap he := fun c o n1 n2 n3 n4 e => se.extBut _ _ n2 (sd.extBut _ _ n4 (sc.extBut _ _ n2 (sb.extBut _ _ n3 (sa.extBut _ _ n1 e))))
  show wpAny _ _ (Builtin.SmallTypes.ownedTupleHandOut (.ref z) (.ref he.objs.size) >>= _) _ _ _
  apply wpAny_bind; unfold Builtin.SmallTypes.ownedTupleHandOut
  have zf : IsZip (he.push { cls := .type "tuple", data := .seq #[x, y] }) z TI TO .ellipsis := Heap.get?_push_of_some _ ze
  refine wpAny_bind (wpAny_setField_rec zf (by simp) fun hg zg sg => ?_)
  replace zg : IsZip hg z TI TO (rawInt he.objs.size) := zg
  refine wpAny_setField_rec zg (by simp) fun hi zi si => ?_
  replace zi : IsZip hi z TI TO (rawInt he.objs.size) := zi
  have up : Heap.ExtBut z he hi := fun c o n e => si.extBut _ _ n (sg.extBut _ _ n (Heap.get?_push_of_some _ e))
  have nz : he.objs.size ≠ z := Nat.ne_of_gt (Heap.lt_size ze)
  have Ti : IsPair hi he.objs.size x y := si.extBut _ _ nz (sg.extBut _ _ nz (Heap.get?_push_size _ rfl))
  rw [sz] at zi Ti
  apply wpAny_pure
  refine ⟨_, rfl, ?_⟩
  show Q (.ref he.objs.size) _
  rw [sz]
  exact hQ hi ⟨zi, up _ _ D.TOz Te, C1.far q1e up D.i1z D.l1z, C2.far q2e up D.i2z D.l2z⟩ Ti fun c o n1 n2 n3 n4 e => up c o n1 (fr c o n1 n2 n3 n4 e)
theorem cur_end (hh : A.handled = none) (C1 : Cur i1 l1 xs S1) (C2 : Cur i2 l2 ys S2) (D : ZipApart z TI TO i1 i2 l1 l2) {Q : Fin → Shared → Prop} (Z : ZAt s.heap z TI TO .none a b S1 S2 k1 k2) (hTI : IsPair s.heap TI (.ref i1) (.ref i2)) (hend : xs[k1]? = none ∨ ys[k2]? = none)
    (hE : ∀ h' e, ZFr z TO i1 i2 s.heap h' → (∃ o, h'.get? e = some o ∧ o.cls = .type "StopIteration") → E (.ref e) { s with heap := h' }) :
    wpAny (model P w) A (Builtin.«zip.__next__» ⟨[.ref z], []⟩) Q E s := by
  obtain ⟨hz, hTO, h1, h2⟩ := Z
  show wpAny _ _ (field (.ref z) 2 >>= _) _ _ _; apply wpAny_bind; apply wpAny_field hz rfl (x := .bool false) rfl
  show wpAny _ _ (field (.ref z) 3 >>= _) _ _ _; apply wpAny_bind; apply wpAny_field hz rfl (x := .ref TI) rfl
  apply wpAny_bind; apply wpAny_seqItems hTI rfl
  show wpAny _ _ (Builtin.SmallTypes.ownedTupleIsFree (.ref z) >>= _) _ _ _
  apply wpAny_bind; unfold Builtin.SmallTypes.ownedTupleIsFree
  apply wpAny_bind; apply wpAny_field hz rfl (x := .none) rfl; apply wpAny_pure
  simp only [if_true]
  apply wpAny_bind; apply wpAny_rule
  apply wpAny_bind; apply wpAny_field hz rfl (x := .ref TO) rfl
  refine wpAny_bind (wpAny_setField_rec hz (by simp) fun ha za sa => ?_)
  replace za : IsZip ha z TI TO .ellipsis := za
  apply wpAny_bind; simp only [List.zipIdx_cons, List.zipIdx_nil, List.forIn_cons, List.forIn_nil]
  apply wpAny_bind; apply wpAny_bind; apply wpAny_onRaise
  show wpAny _ _ (nextOf (.ref i1) >>= _) _ _ _
  have q1 := C1.far h1 sa.extBut D.i1z D.l1z
  cases hx : xs[k1]? with
  | none =>
    refine wpAny_bind (C1.over hh q1 hx fun hb e sb ⟨oe, he, hc⟩ => ?_)
    have zb : IsZip hb z TI TO .ellipsis := sb _ _ D.i1z.symm za
    have nz : e ≠ z := fun q => by subst q; rw [zb] at he; cases he; simp at hc
    refine wpAny_setField_rec zb (by simp) fun hc' _ sc => hE hc' e (fun c o n1 _ n3 _ q => sc.extBut _ _ n1 (sb _ _ n3 (sa.extBut _ _ n1 q))) ⟨oe, sc.extBut _ _ nz he, hc⟩
  | some x =>
    have hy : ys[k2]? = none := hend.resolve_left fun q => by rw [hx] at q; cases q
    refine wpAny_bind (C1.step q1 hx fun hb q1 sb => ?_)
    apply wpAny_pure
    have Tb : IsPair hb TO a b := sb.extBut _ _ D.TOi1 (sa.extBut _ _ D.TOz hTO)
    apply wpAny_bind; apply wpAny_seqItems Tb rfl
    refine wpAny_bind (wpAny_updateSeq_pair Tb fun hc Tc sc => ?_)
    apply wpAny_bind; apply wpAny_letGo; apply wpAny_pure
    apply wpAny_bind; apply wpAny_bind; apply wpAny_onRaise
    show wpAny _ _ (nextOf (.ref i2) >>= _) _ _ _
    have q2 : S2 hc k2 := C2.far (C2.far (C2.far h2 sa.extBut D.i2z D.l2z) sb.extBut D.i12.symm D.l2i1) sc.extBut D.TOi2.symm D.l2TO
    refine wpAny_bind (C2.over hh q2 hy fun hd e sd ⟨oe, he, hc'⟩ => ?_)
    have zd : IsZip hd z TI TO .ellipsis := sd _ _ D.i2z.symm (sc.extBut _ _ D.TOz.symm (sb.extBut _ _ D.i1z.symm za))
    have nz : e ≠ z := fun q => by subst q; rw [zd] at he; cases he; simp at hc'
    exact wpAny_setField_rec zd (by simp) fun hf _ sf => hE hf e (fun c o n1 n2 n3 n4 q => sf.extBut _ _ n1 (sd _ _ n4 (sc.extBut _ _ n2 (sb.extBut _ _ n3 (sa.extBut _ _ n1 q))))) ⟨oe, sf.extBut _ _ nz he, hc'⟩
end
/-! the zip of a tuple with a list is made -/
abbrev zo1 (l : Addr) : Obj := { cls := .type "tuple_iterator", data := .fields #[.ref l, .int 0 0] }
abbrev zo2 (l : Addr) : Obj := { cls := .type "list_iterator", data := .fields #[.ref l, .int 0 0] }
abbrev zo3 (n : Addr) : Obj := { cls := .type "tuple", data := .seq #[.ref n, .ref (n + 1)] }
abbrev zo4 : Obj := { cls := .type "tuple", data := .seq #[.none, .none] }
abbrev zo5 (n : Addr) : Obj := { cls := .type "zip", data := .fields #[.none, .bool false, .bool false, .ref (n + 2), .ref (n + 3)] }
abbrev zipHm (h : Heap) (l1 l2 : Addr) : Heap := ((((h.push (zo1 l1)).push (zo2 l2)).push (zo3 h.objs.size)).push zo4).push (zo5 h.objs.size)
theorem meets_zipM (l1 l2 : Addr) (xs ys : Array Value) : Meets (Builtin.«zip.__new__» ⟨[.type "zip", .ref l1, .ref l2], []⟩)
    (fun _ R s => s.heap.IsTuple l1 xs ∧ s.heap.IsList l2 ys ∧ R (.ok (.ret (.ref (s.heap.objs.size + 4)))) { s with heap := zipHm s.heap l1 l2 }) :=
  .of_wp fun P w A R s h => by
    obtain ⟨hp, g, d, tk, os⟩ := s
    obtain ⟨a, b, h⟩ := h
    have hs := sub_zip
    have ha : Heap.IsTuple (Shared.heap ⟨hp, g, d, tk, os⟩) l1 xs := a
    have hb : Heap.IsList (Shared.heap ⟨hp.push (zo1 l1), g, d, tk, os⟩) l2 ys := Heap.IsList.push b _
    wp_walk using wpAny_pyIter_tuple ha, wpAny_pyIter_list hb
    simp only [Heap.size_push]
    exact ⟨_, rfl, h⟩

/-- a and b as they stand at each turn, the items in new pairs -/
def ItzM (K : PySem.W.Frag) (a b : Addr) : It :=
  ⟨fun i H => ∃ (xs ys : List V) (x y : V), SqT K H a xs ∧ SqL K H b ys ∧ xs[i]? = some x ∧ ys[i]? = some y,
    fun i H v H' => ∃ T x y, v = .ref T ∧ H T = none ∧ H' = upd H T (.tup [x, y]) ∧ (∀ xs, SqT K H a xs → xs[i]? = some x) ∧ ∀ ys, SqL K H b ys → ys[i]? = some y,
    fun i H => ∃ xs ys : List V, SqT K H a xs ∧ SqL K H b ys ∧ (xs.length ≤ i ∨ ys.length ≤ i)⟩
def zipFp (z TI TO i1 i2 : Addr) : List Addr := [z, TI, TO, i1, i2]
theorem zipFp_or {z TI TO i1 i2 c : Addr} (h : c ∈ zipFp z TI TO i1 i2) : c = z ∨ c = TI ∨ c = TO ∨ c = i1 ∨ c = i2 := by simpa [zipFp] using h
def ZSt (z TI TO i1 i2 a b : Addr) (i : Nat) (h : Heap) : Prop := IsZip h z TI TO .none ∧ IsPair h TI (.ref i1) (.ref i2) ∧ (∃ x y, IsPair h TO x y) ∧ h.IsTupleIter i1 a i ∧ h.IsListIter i2 b i
theorem ZSt.has {z TI TO i1 i2 a b c : Addr} {i : Nat} {h : Heap} (st : ZSt z TI TO i1 i2 a b i h) (hc : c ∈ zipFp z TI TO i1 i2) : ∃ o, h.get? c = some o ∧ ∀ v, o.data ≠ .cell v := by
  obtain ⟨hz, hTI, ⟨x, y, hTO⟩, ⟨o1, e1, _, d1⟩, ⟨o2, e2, _, d2⟩⟩ := st
  rcases zipFp_or hc with q | q | q | q | q
  · exact q ▸ ⟨_, hz, fun v q => nomatch q⟩
  · exact q ▸ ⟨_, hTI, fun v q => nomatch q⟩
  · exact q ▸ ⟨_, hTO, fun v q => nomatch q⟩
  · exact q ▸ ⟨o1, e1, fun v q => by rw [d1] at q; cases q⟩
  · exact q ▸ ⟨o2, e2, fun v q => by rw [d2] at q; cases q⟩
theorem ZSt.keep {z TI TO i1 i2 a b : Addr} {i : Nat} {h h' : Heap} (st : ZSt z TI TO i1 i2 a b i h) (k : ∀ c ∈ zipFp z TI TO i1 i2, ∀ o, h.get? c = some o → h'.get? c = some o) : ZSt z TI TO i1 i2 a b i h' := by
  obtain ⟨hz, hTI, ⟨x, y, hTO⟩, h1, h2⟩ := st
  have m : ∀ c, (c = z ∨ c = TI ∨ c = TO ∨ c = i1 ∨ c = i2) → c ∈ zipFp z TI TO i1 i2 := fun c q => by simpa [zipFp] using q
  exact ⟨k z (m _ (by simp)) _ hz, k TI (m _ (by simp)) _ hTI, ⟨x, y, k TO (m _ (by simp)) _ hTO⟩, h1.at fun o q => k i1 (m _ (by simp)) o q, h2.at fun o q => k i2 (m _ (by simp)) o q⟩
section
variable {P : Program} {w : World} {K : PySem.W.Frag} {elts : List Expr} {kk : Nat} {tpos : Pos} {a b z TI TO i1 i2 : Addr}
theorem turn_zipM (D : ZipApart z TI TO i1 i2 a b) : Turn P w K (.Tuple elts kk tpos) (ItzM K a b) (zipFp z TI TO i1 i2) z (ZSt z TI TO i1 i2 a b) where
  mem := List.mem_cons_self
  obj := fun i h st c hc => st.has hc
  keep := fun i h h' st k => st.keep k
  item := by
    intro X hP hw hK hc i pins s σ H E I hf st hg
    subst hP hw hK
    have has := fun c hc => st.has (c := c) hc
    obtain ⟨hz, hTI, ⟨x0, y0, hTO⟩, h1, h2⟩ := st
    obtain ⟨xs, ys, x, y, qx, qy, hx, hy⟩ := hg
    obtain ⟨its, rv, p, _⟩ := I.tuple qx
    obtain ⟨its2, rv2, p2, _⟩ := I.list qy
    obtain ⟨u, hu, ru⟩ := rv.get hx
    obtain ⟨u2, hu2, ru2⟩ := rv2.get hy
    have hT : s.TypeIs (.ref z) "zip" := ⟨_, hz, rfl⟩
    unfold pyNext
    apply wpAny_bind; apply wpAny_attempt
    refine wpAny_callSpecial?_slot (name := Str.ofString "__next__") hT PySem.F.slot_zip_next (wpAny_call_entry PySem.F.slot_zip_next hT PySem.F.entry_zip_next ?_ (PySem.F.args_zip_next_1 _))
    refine cur_next (cur_tup D.l1i1) (cur_lst D.l2i2) D ⟨hz, hTO, ⟨h1, p⟩, ⟨h2, p2.isList⟩⟩ hTI (by simpa using hu) (by simpa using hu2) fun h' Z' hT' fr => ?_
    apply wpAny_pure
    refine ⟨_, rfl, wpAny_letOwnedTupleGo_zip (s := { s with heap := h' }) Z'.zip fun h'' z'' sb => ?_⟩
    have nz : s.heap.objs.size ≠ z := Nat.ne_of_gt (Heap.lt_size hz)
    have T2 : IsPair h'' s.heap.objs.size u u2 := sb.extBut _ _ nz hT'
    have I1 : Inv X pins σ (upd H s.heap.objs.size (.tup [x, y])) { s with heap := h'' } :=
      I.turnedNew (t' := s.toks) (ch := zipFp z TI TO i1 i2) (fun c o hb q => sb.extBut c o (fun e => hb (by rw [e]; exact List.mem_cons_self)) (fr c o (fun e => hb (by simp [zipFp, e])) (fun e => hb (by simp [zipFp, e])) (fun e => hb (by simp [zipFp, e])) (fun e => hb (by simp [zipFp, e])) q))
        hf (Nat.le_refl _) ⟨by show 2 ≤ sizeLine; decide, [u, u2], .cons ru (.cons ru2 .nil), ⟨_, T2, rfl, _, rfl⟩⟩
    refine ⟨.ref s.heap.objs.size, _, I1, rfl, ⟨_, x, y, rfl, I.hok.fresh (Nat.le_refl _), rfl, fun l hl => by rw [I.tuple_inj hl qx]; exact hx, fun l hl => by rw [I.list_inj hl qy]; exact hy⟩, ⟨z'', ?_, ⟨u, u2, sb.extBut _ _ D.TOz Z'.out⟩, Z'.s1.1.at fun o q => sb.extBut _ _ D.i1z q, Z'.s2.1.at fun o q => sb.extBut _ _ D.i2z q⟩, fun c hcm => ?_⟩
    · exact sb.extBut _ _ D.TIz (fr _ _ D.TIz D.TITO D.TIi1 D.TIi2 hTI)
    · obtain ⟨o, ho, _⟩ := has c hcm
      rw [upd_ne (Nat.ne_of_lt (Heap.lt_size ho))]
      exact (hf c hcm).1
  done := by
    intro X hP hw hK hc i pins s σ H E I hf st hg
    subst hP hw hK
    obtain ⟨hz, hTI, ⟨x0, y0, hTO⟩, h1, h2⟩ := st
    obtain ⟨xs, ys, qx, qy, hend⟩ := hg
    obtain ⟨its, rv, p, _⟩ := I.tuple qx
    obtain ⟨its2, rv2, p2, _⟩ := I.list qy
    have l1 := rv.length
    have l2 := rv2.length
    have he : its.toArray[i]? = none ∨ its2.toArray[i]? = none := hend.imp (fun q => by simp; omega) (fun q => by simp; omega)
    have hT : s.TypeIs (.ref z) "zip" := ⟨_, hz, rfl⟩
    unfold pyNext
    apply wpAny_bind; apply wpAny_attempt
    refine wpAny_callSpecial?_slot (name := Str.ofString "__next__") hT PySem.F.slot_zip_next (wpAny_call_entry PySem.F.slot_zip_next hT PySem.F.entry_zip_next ?_ (PySem.F.args_zip_next_1 _))
    refine cur_end (show X.A.in1.handled = none from I.ok.hd hc) (cur_tup D.l1i1) (cur_lst D.l2i2) D ⟨hz, hTO, ⟨h1, p⟩, ⟨h2, p2.isList⟩⟩ hTI he fun h' e fr ⟨o, ho, hc⟩ => ?_
    refine wpAny_bind (wpAny_isInstance (T := "StopIteration") (b := true) ⟨o, ho, hc⟩ isSubtype_stop ?_)
    apply wpAny_pure
    exact ⟨rfl, I.turnedL (t' := s.toks) (ch := zipFp z TI TO i1 i2) (fun c o hb q => fr c o (fun e => hb (by simp [zipFp, e])) (fun e => hb (by simp [zipFp, e])) (fun e => hb (by simp [zipFp, e])) (fun e => hb (by simp [zipFp, e])) q) hf⟩
  self := fun A i s Q E st h => wpAny_pyIter_zip st.1 h
/-- zip(t, l): a tuple, a list -/
def iZipM (K : PySem.W.Frag) (ta : TA) : L2.TI := fun σ H R => ta σ H fun vs H1 => ∃ a b xs ys, vs = [.ref a, .ref b] ∧ SqT K H1 a xs ∧ SqL K H1 b ys ∧ R (ItzM K a b) H1
theorem pi_zipM {X : Cx} {e e2 : Expr} {ta : TA} {p pos : Pos} (hg : Gl X "zip") (hm : X.mg "zip" = none) (ha : PA X [e, e2] ta)
    (hs : starEach [e, e2] X.env = (false, eval e X.env) :: starEach [e2] X.env := by rfl) (hpl : (backTo pos (starEach [e2] X.env)).any (·.1) = false := by rfl) :
    PI X (.Tuple elts kk tpos) (.Call (.Name "zip" p) [e, e2] [] pos) (iZipM X.K ta) := by
  constructor
  intro pins s σ H R I h
  refine Call_ (ld_blt I hg hm PyProof.Rows.boot_zip ?_)
  refine PyProof.Rows.callWith_type1 (thn (ha.run pos pins s σ H _ I h) ?_) hs hpl
  rintro us s1 ⟨vs, H1, I1, r1, a, b, xs, ys, rfl, qx, qy, q⟩
  obtain ⟨u1, us', rfl, r, rr⟩ : ∃ u1 us', us = u1 :: us' ∧ RelV (.ref a) u1 ∧ Vals [.ref b] us' := by
    cases r1 with
    | cons r rr => exact ⟨_, _, rfl, r, rr⟩
  obtain ⟨u2, rfl, r2⟩ := vals1 rr
  cases r
  cases r2
  obtain ⟨its, rv, p1, _⟩ := I1.tuple qx
  obtain ⟨its2, rv2, p2, _⟩ := I1.list qy
  obtain ⟨o1, ho1, _⟩ := id p1
  refine callType_new PySem.F.called_zip (by decide) (PySem.F.typeCall_zip_2 _ _) (PySem.F.newCall_zip_2 _ _) (fun obj => PySem.F.args_object_init_3 obj _ _) PySem.F.entry_zip_new (meets_zipM a b its.toArray its2.toArray) ⟨p1, p2.isList, ?_⟩
  have z1 : (s1.heap.push (zo1 a)).objs.size = s1.heap.objs.size + 1 := Heap.size_push ..
  have z2 : ((s1.heap.push (zo1 a)).push (zo2 b)).objs.size = s1.heap.objs.size + 2 := by rw [Heap.size_push, z1]
  have z3 : (((s1.heap.push (zo1 a)).push (zo2 b)).push (zo3 s1.heap.objs.size)).objs.size = s1.heap.objs.size + 3 := by rw [Heap.size_push, z2]
  have z4 : ((((s1.heap.push (zo1 a)).push (zo2 b)).push (zo3 s1.heap.objs.size)).push zo4).objs.size = s1.heap.objs.size + 4 := by rw [Heap.size_push, z3]
  have up : ∀ {h : Heap} {c : Addr} {o o' : Obj}, h.get? c = some o → (h.push o').get? c = some o := fun e => Heap.get?_push_of_some _ e
  have g1 : (zipHm s1.heap a b).get? s1.heap.objs.size = some (zo1 a) := up (up (up (up (Heap.get?_push_size _ rfl))))
  have g2 : (zipHm s1.heap a b).get? (s1.heap.objs.size + 1) = some (zo2 b) := up (up (up (z1 ▸ Heap.get?_push_size _ rfl)))
  have g3 : (zipHm s1.heap a b).get? (s1.heap.objs.size + 2) = some (zo3 s1.heap.objs.size) := up (up (z2 ▸ Heap.get?_push_size _ rfl))
  have g4 : (zipHm s1.heap a b).get? (s1.heap.objs.size + 3) = some zo4 := up (z3 ▸ Heap.get?_push_size _ rfl)
  have g5 : (zipHm s1.heap a b).get? (s1.heap.objs.size + 4) = some (zo5 s1.heap.objs.size) := z4 ▸ Heap.get?_push_size _ rfl
  refine ⟨⟨_, g5, rfl⟩, wpAny_pyIter_zip g5 ?_⟩
  refine ⟨s1.heap.objs.size + 4, zipFp (s1.heap.objs.size + 4) (s1.heap.objs.size + 2) (s1.heap.objs.size + 3) s1.heap.objs.size (s1.heap.objs.size + 1), _, _, H1, rfl, I1.kept (t' := s1.toks) fun c o e => up (up (up (up (up e)))), turn_zipM (PySem.W.ktu_apart s1.heap.objs.size a b (Heap.lt_size ho1) p2.lt), ⟨g5, g3, ⟨_, _, g4⟩, ⟨_, g1, rfl, rfl⟩, ⟨_, g2, rfl, rfl⟩⟩, fun c hcm => ?_, q⟩
  have le : s1.heap.objs.size ≤ c := by
    rcases zipFp_or hcm with q | q | q | q | q <;> rw [q] <;> first | exact Nat.le_refl _ | exact Nat.le_add_right _ _
  exact I1.fpOk le (I1.hok.fresh le)
end
/-- what a comprehension's turns are to show -/
def LcW (J : It) (g : TG) (tt : TT) (te : TE) (vs : List Nat) (σ : L2.St) (D : Addr) (Qd : Hp → Prop) (H0 : Hp) : Prop := ∃ W : Nat → Nat → Hp → Prop, (∃ m, W 0 m H0) ∧ ∀ i m H, W i m H →
  (J.stop i H ∧ Qd H) ∨ (J.go i H ∧ ∃ Nx : Hp → Prop, (∀ H', Nx H' → ∃ m', m' < m ∧ W (i + 1) m' H') ∧ ∀ x H', J.yld i H x H' → g x (wipe σ vs) H' fun σ2 H2 => wipe σ2 vs = wipe σ vs ∧ tt σ2 H2 fun b H3 =>
    if b = true then te σ2 H3 fun y H4 => ∃ acc, H4 D = some (.lst acc) ∧ acc.length < sizeLine ∧ Nx (upd H4 D (.lst (acc ++ [y]))) else Nx H3)
theorem lc_zipM {K : PySem.W.Frag} {a b : Addr} {xs ys : List V} {g : TG} {tt : TT} {te : TE} {vs : List Nat} {σ : L2.St} {H0 : Hp} {D : Addr} {Qd : Hp → Prop} (hl : xs.length = ys.length) (Pv : Nat → Hp → Prop) (h0 : Pv 0 H0) (hq : ∀ i H, Pv i H → SqT K H a xs ∧ SqL K H b ys)
    (hs : ∀ i x y T H, xs[i]? = some x → ys[i]? = some y → Pv i H → H T = none → g (.ref T) (wipe σ vs) (upd H T (.tup [x, y])) fun σ2 H2 => wipe σ2 vs = wipe σ vs ∧ tt σ2 H2 fun b H3 =>
      if b = true then te σ2 H3 fun y H4 => ∃ acc, H4 D = some (.lst acc) ∧ acc.length < sizeLine ∧ Pv (i + 1) (upd H4 D (.lst (acc ++ [y]))) else Pv (i + 1) H3) (hd : ∀ H, Pv xs.length H → Qd H) : LcW (ItzM K a b) g tt te vs σ D Qd H0 := by
  refine ⟨fun i m H => m + i = xs.length ∧ Pv i H, ⟨xs.length, rfl, h0⟩, fun i m H ⟨hm, p⟩ => ?_⟩
  obtain ⟨qx, qy⟩ := hq i H p
  cases m with
  | zero =>
    have e : i = xs.length := by omega
    subst e
    exact .inl ⟨⟨xs, ys, qx, qy, .inl (Nat.le_refl _)⟩, hd H p⟩
  | succ m =>
    have h1 : i < xs.length := by omega
    have h2 : i < ys.length := by omega
    have hx := List.getElem?_eq_getElem h1
    have hy := List.getElem?_eq_getElem h2
    refine .inr ⟨⟨xs, ys, _, _, qx, qy, hx, hy⟩, Pv (i + 1), fun H' p' => ⟨m, Nat.lt_succ_self m, by omega, p'⟩, ?_⟩
    rintro v H' ⟨T, x', y', rfl, hT, rfl, f1, f2⟩
    exact hs i x' y' T H (f1 xs qx) (f2 ys qy) p hT
end Sb

/-! t * k for tuples of data, the empty one too. -/
namespace Sb
open PySem PySem.Spec PyProof.Rows L2
theorem tuple_mul0 (l : Addr) (n : Nat) (dd : Option Addr) (sl : Array (Option Value)) (x : Int) (u : Tok) (hx : -(2 ^ 63) ≤ x ∧ x < 2 ^ 63) :
    Meets (Builtin.«tuple.__mul__» ⟨[.ref l, .int x u], []⟩) (fun _ R s => s.heap.get? l = some { cls := .type "tuple", dict := dd, data := .seq #[] n, slots := sl } ∧ R (.ok (.ret (Value.ref l))) s) :=
  .of_wp fun P w A R s h => by
    obtain ⟨hp, g, d, tk, os⟩ := s
    obtain ⟨hl, h⟩ := h
    have f1 := AutoSeq1.idx_int
    have c0 : (decide (x < -(2 ^ 63)) || decide (x ≥ 2 ^ 63)) = false := by
      rw [decide_eq_false (by omega), decide_eq_false (by omega)] <;> rfl
    wp_walk using wpAny_loadPart' hl
    refine wpAny_ite_false (decide_eq_false (by rw [c0]; exact Bool.false_ne_true)) ?_
    wp_walk using wpAny_loadPart' hl
    exact ⟨_, rfl, h⟩
theorem TDs.flat {H : Hp} {xs : List V} {ds : List PyData} (h : TDs H xs ds) : ∀ k, TDs H (List.replicate k xs).flatten (List.replicate k ds).flatten
  | 0 => .nil
  | k + 1 => h.app (h.flat k)
def rMulD : R2 := fun x y H Q => ∃ ds k, TD H x (.tuple ds) ∧ y = .int k ∧ 2 ≤ k ∧ k ≤ 1000 ∧ ds.length ≤ 1000 ∧ ∀ p H', Same H H' → TD H' (.ref p) (.tuple (List.replicate k.toNat ds).flatten) → Q (.ref p) H'
section
variable {X : Cx}
theorem op_mulD : OpR X (binaryOp .Mult) rMulD := by
  intro pins s σ H x y v u Q I rx ry h
  obtain ⟨ds, k, hT, rfl, h1, h2, hz, q⟩ := h
  obtain ⟨l, xs, rfl, hl, hx⟩ := hT.isTup
  have lx := hx.length
  by_cases hne : xs = []
  · subst hne
    cases hx
    cases rx
    obtain ⟨t, rfl⟩ := ry
    obtain ⟨its, r, ⟨⟨cls, dd, data, sl⟩, ho, hc, n, hd⟩, hs⟩ := I.tuple (SqT.of hl)
    cases r
    simp only at hc hd
    subst hc hd
    refine wpAny_binaryOp_repeat_ref (T := "tuple") (U := "int") (by decide) ⟨_, ho, rfl⟩ (fun s' => typeIs_int s' k t) noFill_tuple_mul PySem.F.fills_int_mul PySem.F.slot_int_rmul repeat_tuple PySem.F.slot_int_index.lookup
      (call_meets PySem.F.slot_int_rmul (typeIs_int s k t) PySem.F.entry_int_rmul (PySem.F.args_int_rmul_2 _ _) (int_rmul_tuple k t l #[] n dd sl)
        ⟨ho, rfl, ⟨_, ho, rfl⟩, call_meets PySem.F.slot_tuple_mul ⟨_, ho, rfl⟩ PySem.F.entry_tuple_mul (PySem.F.args_tuple_mul_2 _ _) (tuple_mul0 l n dd sl k t (by omega)) ⟨ho, ?_⟩⟩)
    refine ⟨.ref l, H, I, rfl, q l H (Same.refl H) ?_⟩
    have e : (List.replicate k.toNat ([] : List PyData)).flatten = [] := by simp
    rw [e]
    exact hT
  · exact op_repT pins s σ H _ _ v u Q I rx ry ⟨l, k, xs, rfl, rfl, SqT.of hl, hne, h1, h2, by omega, fun p np => q p _ (same_new np) (.tup upd_same (TDs.mono (Tups.new np) _ (hx.flat k.toNat)))⟩
end
end Sb

namespace Sb
open PySem PySem.Spec PyProof.Rows L2
theorem ne_fr {H : Hp} {a b : Addr} {o : HO} (n : H b = none) (h : H a = some o) : a ≠ b := ne_of_none h n
theorem ne_fr' {H : Hp} {a b : Addr} {o : HO} (n : H b = none) (h : H a = some o) : b ≠ a := (ne_of_none h n).symm
theorem upd_off {H : Hp} {a b : Addr} {o u : HO} (n : b ≠ a) (h : H b = some u) : upd H a o b = some u := by rw [upd_ne n]; exact h
theorem upd_offN {H : Hp} {a b : Addr} {o : HO} (n : b ≠ a) (h : H b = none) : upd H a o b = none := by rw [upd_ne n]; exact h
theorem upd_none {H : Hp} {a b : Addr} {o : HO} (h : upd H a o b = none) : b ≠ a ∧ H b = none := by
  by_cases e : b = a
  · subst e
    rw [upd_same] at h
    cases h
  · rw [upd_ne e] at h
    exact ⟨e, h⟩
local macro_rules | `(tactic| walk_at "ne") => `(tactic| first
  | assumption
  | exact Ne.symm (by assumption)
  | exact ne_fr (by assumption) (by walk_at "hp")
  | exact ne_fr' (by assumption) (by walk_at "hp"))
local macro_rules | `(tactic| walk_at "hp") => `(tactic| first
  | assumption
  | exact upd_same
  | exact upd_off (by walk_at "ne") (by walk_at "hp"))

def top (i : Nat) : Stmt := PySem.Challenge.pw_seenbefore_k02_streams_numbered.main.body.getD i (.Pass ⟨0, 0, 0, 0⟩)
abbrev s_law_pen : Stmt := top 5
abbrev s_law_fresh : Stmt := top 6
abbrev s_law_draw : Stmt := top 7
abbrev s_law_stream : Stmt := top 8
abbrev s_law_numbered : Stmt := top 9
abbrev s_numbered : Stmt := top 1
abbrev s_is_numbered : Stmt := top 2
abbrev s_are_alike : Stmt := top 3
abbrev s_law : Stmt := top 10
/-! ### the pen: cells of the script, drawn one by one -/
def cutAll (ns : List Int) (h : ns.length ≤ 63) : cutV (ns.map V.int) none (some 63) = ns.map V.int := by
  unfold cutV
  rw [show HT.sIx (ns.map V.int).length 0 none = 0 from HT.sIx_none _ _, show HT.sIx (ns.map V.int).length (ns.map V.int).length (some 63) = min 63 (ns.map V.int).length from HT.sIx_nat _ _ 63]
  rw [List.drop_zero, Nat.sub_zero, List.length_map, Nat.min_eq_right h]
  exact List.take_of_length_le (by rw [List.length_map]; exact Nat.le_refl _)
/-- but at p, what was tracked is as it was -/
def Keep (p : Addr) (H H' : Hp) : Prop := ∀ b o, H b = some o → b ≠ p → H' b = some o
theorem Keep.refl {p : Addr} {H : Hp} : Keep p H H := fun _ _ h _ => h
theorem Keep.trans {p : Addr} {H H1 H2 : Hp} (a : Keep p H H1) (b : Keep p H1 H2) : Keep p H H2 := fun c o h n => b c o (a c o h n) n
theorem Keep.new {p q : Addr} {H : Hp} {o : HO} (h : H q = none) : Keep p H (upd H q o) := fun b u e _ => by rw [upd_ne (ne_of_none e h)]; exact e
theorem Keep.at {p : Addr} {H H1 : Hp} {o : HO} (a : Keep p H H1) : Keep p H (upd H1 p o) := fun b u e n => by rw [upd_ne n]; exact a b u e n
theorem Keep.same {p : Addr} {H H1 : Hp} (h : Same H H1) : Keep p H H1 := fun b o e _ => h b o e
/-- the pen stands at p, its cells at c -/
def PenIs (H : Hp) (p c : Addr) (ns : List Int) (at_ st : Int) : Prop := H p = some (.lst [.ref c, .int at_, .int st]) ∧ H c = some (.lst (ns.map V.int))
def Pen (H : Hp) (p c : Addr) : Prop := ∃ ns at_ st, PenIs H p c ns at_ st ∧ 0 ≤ at_ ∧ 0 ≤ st ∧ ns.length ≤ 63
theorem PenIs.ne {H : Hp} {p c : Addr} {ns : List Int} {a z : Int} (h : PenIs H p c ns a z) : p ≠ c := by
  refine ne_of h.1 h.2 ?_
  intro e
  cases ns with
  | nil => cases e
  | cons x r => cases e
theorem Pen.ne {H : Hp} {p c : Addr} (h : Pen H p c) : p ≠ c := by
  obtain ⟨_, _, _, h, _⟩ := h
  exact h.ne
theorem Pen.mono {H H' : Hp} {p c : Addr} (h : Pen H p c) (e : Same H H') : Pen H' p c := by
  obtain ⟨ns, a, z, h, r⟩ := h
  exact ⟨ns, a, z, ⟨e _ _ h.1, e _ _ h.2⟩, r⟩
theorem Pen.free {H : Hp} {p c q : Addr} (h : Pen H p c) (e : H q = none) : p ≠ q ∧ c ≠ q := by
  obtain ⟨ns, a, z, h, r⟩ := h
  exact ⟨ne_of_none h.1 e, ne_of_none h.2 e⟩
theorem Pen.tups {H H' : Hp} {p c : Addr} (h : Pen H p c) (k : Keep p H H') : Tups H H' := fun a xs e => by
  obtain ⟨ns, x, z, ⟨h1, _⟩, _⟩ := h
  exact k a _ e (ne_of e h1 (fun z => by cases z))
theorem Pen.at {H : Hp} {p c : Addr} (h : Pen H p c) : ∃ l, H p = some (.lst l) := by
  obtain ⟨ns, x, z, ⟨h1, _⟩, _⟩ := h
  exact ⟨_, h1⟩
theorem Pen.put {H : Hp} {p c a : Addr} {o : HO} (h : Pen H p c) (n1 : a ≠ p) (n2 : a ≠ c) : Pen (upd H a o) p c := by
  obtain ⟨ns, x, z, ⟨h1, h2⟩, r⟩ := h
  exact ⟨ns, x, z, ⟨by rw [upd_ne n1.symm]; exact h1, by rw [upd_ne n2.symm]; exact h2⟩, r⟩
def sp_law_pen (K : PySem.W.Frag) : Sp := fun vs H Q _ => ∃ (a : Addr) (ns : List Int), vs = [.ref a] ∧ SqL K H a (ns.map V.int) ∧ ns.length ≤ 63 ∧
  ∀ p c H', Same H H' → H p = none → H c = none → Pen H' p c → Q (.ref p) H'
def sp_law_fresh : Sp := fun vs H Q _ => ∃ (p c : Addr) (ns : List Int) (a z : Int), vs = [.ref p] ∧ PenIs H p c ns a z ∧ 0 ≤ a ∧ ns.length ≤ 63 ∧
  ∀ r H', 0 ≤ r → Keep p H H' → PenIs H' p c ns (a + 1) z → Q (.int r) H'
def sp_law_draw : Sp := fun vs H Q _ => ∃ (p c : Addr) (many : Int), vs = [.ref p, .int many] ∧ Pen H p c ∧ 0 < many ∧ many < 2 ^ 100 ∧
  ∀ d H', 0 ≤ d → d < many → Keep p H H' → Pen H' p c → Q (.int d) H'
section
variable {P : Program} {w : World} {K : PySem.W.Frag} {mg : Str → Option Value} {base : Heap}
abbrev N_law_pen : List Str := ["script"]
theorem sc_law_pen : FnScope N_law_pen ["script"] (defScope s_law_pen) := ⟨rfl, rfl, rfl, by decide +kernel, rfl, by decide +kernel, by decide +kernel⟩
theorem ok_law_pen {f : Addr} {fd : FuncData} {k : Nat} (F : Fun K "_law_pen" "_law_pen" s_law_pen f fd) (m_list : mg "list" = none) : FnG P w K mg base CX0 (k + 1) f fd ["script"] (sp_law_pen K) := by
  refine okG F sc_law_pen (fun vs H Q E h => ?_) (fun cdv A outer s H vs Q E gd hr h => ?_)
  · obtain ⟨a, ns, rfl, _⟩ := h
    rfl
  · obtain ⟨a, ns, rfl, hS, hl, q⟩ := h
    refine ⟨_,
      (pss_one (ps_ret (pe_lst (pa_cons (pe_callTy call_list_of (by rfl) m_list (by decide +kernel) (pa_cons (pe_slice sl_list (pv 0) po_none (po_some pe_int)) pa_nil)) (pa_cons pe_int (pa_cons pe_int pa_nil))))))
       , ?_⟩
    refine ⟨.ref a, rfl, 63, rfl, a, ns.map V.int, rfl, hS, fun b nb => ?_⟩
    rw [cutAll ns hl]
    refine ⟨b, ns.map V.int, rfl, .inl (.inl (.inl upd_same)), fun c nc => ?_⟩
    refine ⟨(by show 3 ≤ sizeLine; decide), fun p np => ?_⟩
    have s1 : Same H (upd H b (.lst (ns.map V.int))) := fun x o e => by walk_at "hp"
    have nc0 : H c = none := s1.free nc
    have s2 : Same H (upd (upd H b (.lst (ns.map V.int))) c (.lst (ns.map V.int))) := fun x o e => (by walk_at "hp")
    have np0 : H p = none := s2.free np
    have npc : c ≠ p := ne_of_none upd_same np
    refine q p c _ (fun x o e => ?_) np0 nc0 ⟨ns, 0, 0, ⟨upd_same, ?_⟩, by decide, by decide, hl⟩
    · have := s2 x o e
      walk_at "hp"
    · walk_at "hp"
abbrev N_law_fresh : List Str := ["pen", "at", "cell", "p", "state", "found", "turn"]
theorem sc_law_fresh : FnScope N_law_fresh ["pen"] (defScope s_law_fresh) := ⟨rfl, rfl, rfl, by decide +kernel, rfl, by decide +kernel, by decide +kernel⟩
theorem ok_law_fresh {f : Addr} {fd : FuncData} {k : Nat} (F : Fun K "_law_fresh" "_law_fresh" s_law_fresh f fd) (m_len : mg "len" = none) (m_range : mg "range" = none) : FnG P w K mg base CX0 (k + 1) f fd ["pen"] sp_law_fresh := by
  refine okG F sc_law_fresh (fun vs H Q E h => ?_) (fun cdv A outer s H vs Q E gd hr h => ?_)
  · obtain ⟨p, c, ns, a, z, rfl, _⟩ := h
    rfl
  · obtain ⟨p, c, ns, a, z, rfl, hP, ha, hl, q⟩ := h
    obtain ⟨hp, hc⟩ := id hP
    have npc := hP.ne
    refine ⟨_,
      (pss_cons (ps_set (i := 1) sc_law_fresh.nd rfl (.inl rfl) (pe_ix ix_list (pv 0) pe_int (fun _ _ => rfl))) -- at = pen[1]
      (pss_cons (ps_asg (pe_op op_add (pv 1) pe_int) (pg_sub (pv 0) pe_int set_list)) -- pen[1] = at + 1
      (pss_cons (ps_set (i := 2) sc_law_fresh.nd rfl (.inl rfl) pe_int) -- cell = 0
      (C8.pss_cut (ps_if (pt_cmpR (op_neD hr.units) (pe_ix ix_list (pv 0) pe_int (fun _ _ => rfl)) (pe_lst pa_nil) (nomark _)) 
        (pss_one (ps_set (i := 2) sc_law_fresh.nd rfl (.inl rfl) (pe_ix ix_list (pe_ix ix_list (pv 0) pe_int (fun _ _ => rfl)) (pe_op op_mod (pv 1) (pe_callB call_len_seq (by rfl) m_len PySem.boot_len (pa_cons (pe_ix ix_list (pv 0) pe_int (fun _ _ => rfl)) pa_nil))) (fun _ _ => rfl)))) -- cell = pen[0][at % len(pen[0])]
         pss_nil) -- if pen[0] != []:
      (C8.pss_cut (ps_if (PW.pt (pw_and (pt_cmpR op_lt (pv 1) (pe_callB call_len_seq (by rfl) m_len PySem.boot_len (pa_cons (pe_ix ix_list (pv 0) pe_int (fun _ _ => rfl)) pa_nil)) (nomark _)) (pw_and1 (pt_cmpR op_ge (pv 2) (pe_op op_pow pe_int pe_int) (nomark _))))) 
        (pss_one (ps_ret (pe_op op_sub (pv 2) (pe_op op_pow pe_int pe_int)))) -- return cell - 10 ** 18
         pss_nil) -- if at < len(pen[0]) and cell >= 10 ** 18:
      (pss_cons (ps_set (i := 3) sc_law_fresh.nd rfl (.inl rfl) pe_int) -- p = 2305843009213693951
      (pss_cons (ps_set (i := 4) sc_law_fresh.nd rfl (.inl rfl) (pe_op op_mod (pe_op op_add (pe_op op_add (pe_op op_mul (pv 2) pe_int) (pe_op op_mul pe_int (pv 1))) pe_int) (pv 3))) -- state = (cell * 48271 + 40692 * at + 31) % p
      (pss_cons (ps_set (i := 5) sc_law_fresh.nd rfl (.inl rfl) (pv 4)) -- found = state
      (pss_cons (ps_for PassesOwn.never rfl (pi_range1 rfl m_range (pa_cons pe_int pa_nil)) (pg_name (i := 6) sc_law_fresh.nd rfl (.inl rfl)) 
        (pss_cons (ps_set (i := 4) sc_law_fresh.nd rfl (.inl rfl) (pe_op op_mod (pe_op op_add (pe_op op_add (pe_op op_mul (pv 4) (pv 4)) (pe_op op_mul (pe_op op_mul pe_int (pe_op op_add (pv 6) pe_int)) (pe_op op_add (pv 1) pe_int))) (pv 2)) (pv 3))) -- state = (state * state + 69621 * (turn + 1) * (at + 1) + cell) % p
        (pss_one (ps_set (i := 5) sc_law_fresh.nd rfl (.inl rfl) (pe_op op_add (pe_op op_mul (pv 5) (pv 3)) (pv 4)))) -- found = found * p + state
        )) -- for turn in range(6):
      (pss_one (ps_ret (pv 5))) -- return found
      ))))))))) , ?_⟩
    -- at = pen[1]; pen[1] = at + 1; cell = 0
    refine ⟨.ref p, rfl, p, _, 1, .int a, rfl, rfl, .inl (.inl hp), rfl, ?_⟩
    refine ⟨.int a, rfl, a, 1, rfl, rfl, .ref p, rfl, p, _, 1, 1, rfl, rfl, hp, rfl, ?_⟩
    generalize hH1 : upd H p (.lst ([V.ref c, V.int a, V.int z].set 1 (V.int (a + 1)))) = H1
    have hp1 : H1 p = some (.lst [.ref c, .int (a + 1), .int z]) := by rw [← hH1]; exact upd_same
    have hc1 : H1 c = some (.lst (ns.map V.int)) := by rw [← hH1, upd_ne npc.symm]; exact hc
    have kp1 : Keep p H H1 := by rw [← hH1]; exact Keep.refl.at
    clear hH1
    -- if pen[0] != []: cell = ..
    refine ⟨fun σ H' => ∃ cell : Int, σ = [some (.ref p), some (.int a), some (.int cell), none, none, none, none] ∧ Keep p H H' ∧ H' p = some (.lst [.ref c, .int (a + 1), .int z]) ∧ H' c = some (.lst (ns.map V.int)), ?_, ?_⟩
    · refine ⟨.ref p, rfl, p, _, 0, .ref c, rfl, rfl, .inl (.inl hp1), rfl, by show 0 ≤ sizeLine; decide, fun e ne => ?_⟩
      have hc2 : (upd H1 e (.lst [])) c = some (.lst (ns.map V.int)) := by walk_at "hp"
      have hp2 : (upd H1 e (.lst [])) p = some (.lst [.ref c, .int (a + 1), .int z]) := by walk_at "hp"
      have kp2 : Keep p H (upd H1 e (.lst [])) := kp1.trans (Keep.new ne)
      have he2 : (upd H1 e (.lst [])) e = some (.lst []) := upd_same
      generalize upd H1 e (.lst []) = H2 at hc2 hp2 kp2 he2 ⊢
      refine ⟨.list (ns.map PyData.int), .list [], .lst (.inl (.inl hc2)) (dp_ints _ _ ns), .lst (.inl (.inl he2)) .nil, shaped_ints ns, rfl, _, rfl, ite2 (fun hb => ?_) (fun hb => ?_)⟩
      · have hn : 0 < ns.length := by
          cases ns with
          | nil => cases hb
          | cons x r => exact Nat.succ_pos _
        obtain ⟨j, hj, ej⟩ : ∃ j : Nat, j < ns.length ∧ a % (ns.length : Int) = j := by
          refine ⟨(a % (ns.length : Int)).toNat, ?_, ?_⟩
          · have := Int.emod_lt_of_pos a (show (0 : Int) < ns.length by omega)
            have := Int.emod_nonneg a (show (ns.length : Int) ≠ 0 by omega)
            omega
          · have := Int.emod_nonneg a (show (ns.length : Int) ≠ 0 by omega)
            omega
        refine ⟨.ref p, rfl, p, _, 0, .ref c, rfl, rfl, .inl (.inl hp2), rfl, .int a, rfl, .ref p, rfl, p, _, 0, .ref c, rfl, rfl, .inl (.inl hp2), rfl, c, _, rfl, .inl (.inl (.inl hc2)), a, _, rfl, rfl, (by rw [List.length_map]; show (0 : Int) < ns.length; omega), c, _, _, .int ns[j], rfl, rfl, .inl (.inl hc2), ?_, ?_⟩
        · rw [List.length_map, ej]
          exact atI_nat (by rw [List.getElem?_map, List.getElem?_eq_getElem hj]; rfl)
        · exact ⟨ns[j], rfl, kp2, hp2, hc2⟩
      · exact ⟨0, rfl, kp2, hp2, hc2⟩
    · rintro σ H2 ⟨cell, rfl, kp2, hp2, hc2⟩
      have done : ∀ r : Int, 0 ≤ r → Q (.int r) H2 := fun r h0 => q r H2 h0 kp2 ⟨hp2, hc2⟩
      -- if at < len(pen[0]) and cell >= 10 ** 18: return cell - 10 ** 18
      refine ⟨fun σ H' => σ = [some (.ref p), some (.int a), some (.int cell), none, none, none, none] ∧ H' = H2, ?_, ?_⟩
      · refine ⟨.int a, rfl, .ref p, rfl, p, _, 0, .ref c, rfl, rfl, .inl (.inl hp2), rfl, c, _, rfl, .inl (.inl (.inl hc2)), a, _, rfl, rfl, _, rfl, ite2 (fun h1 => ?_) (fun h1 => ?_)⟩
        · refine ⟨.int cell, rfl, 10, 18, rfl, rfl, ⟨by decide, by decide, by decide⟩, cell, _, rfl, rfl, _, rfl, ite2 (fun h2 => ?_) (fun h2 => ?_)⟩
          · refine ⟨.int cell, rfl, 10, 18, rfl, rfl, ⟨by decide, by decide, by decide⟩, cell, _, rfl, rfl, done _ ?_⟩
            have := of_decide_eq_true h2
            omega
          · exact ⟨rfl, rfl⟩
        · exact ⟨rfl, rfl⟩
      · rintro σ H3 ⟨rfl, rfl⟩
        -- p = ..; state = (cell * 48271 + 40692 * at + 31) % p; found = state
        refine ⟨.int cell, rfl, cell, 48271, rfl, rfl, .inr ⟨by decide, by decide⟩, .int a, rfl, 40692, a, rfl, rfl, .inl ⟨by decide, by decide⟩, _, _, rfl, rfl, _, _, rfl, rfl, .int 2305843009213693951, rfl, _, _, rfl, rfl, (by show (0 : Int) < 2305843009213693951; decide), ?_⟩
        dsimp only
        generalize hst : (cell * 48271 + 40692 * a + 31) % 2305843009213693951 = st
        have h0 : 0 ≤ st := by rw [← hst]; exact Int.emod_nonneg _ (by decide)
        have h1 : st < 2305843009213693951 := by rw [← hst]; exact Int.emod_lt_of_pos _ (by decide)
        clear hst
        refine ⟨.int st, rfl, 6, rfl, by decide, by decide, ?_⟩
        refine for_range (n := 6) (fun _ σ H' => ∃ st fd tn, σ = [some (.ref p), some (.int a), some (.int cell), some (.int 2305843009213693951), some (.int st), some (.int fd), tn] ∧ H' = H3 ∧ 0 ≤ st ∧ st < 2305843009213693951 ∧ 0 ≤ fd) ?_ ?_ ?_
        · exact ⟨st, st, none, rfl, rfl, h0, h1, h0⟩
        · rintro i σ H4 hi ⟨st, fd, tn, rfl, rfl, h0, h1, h2⟩
          have hi' : (i : Int) < 6 := by omega
          refine ⟨.int st, rfl, .int st, rfl, st, st, rfl, rfl, .inl ⟨by omega, by omega⟩, .int (0 + (i : Int)), rfl, 0 + (i : Int), 1, rfl, rfl, 69621, _, rfl, rfl, .inl ⟨by decide, by decide⟩, .int a, rfl, a, 1, rfl, rfl, 69621 * (0 + (i : Int) + 1), a + 1, rfl, rfl, .inl ⟨by omega, by omega⟩, _, _, rfl, rfl, .int cell, rfl, _, _, rfl, rfl, .int 2305843009213693951, rfl, _, _, rfl, rfl, (by show (0 : Int) < 2305843009213693951; decide), ?_⟩
          dsimp only
          generalize hst : (st * st + 69621 * (0 + (i : Int) + 1) * (a + 1) + cell) % 2305843009213693951 = st'
          have h0' : 0 ≤ st' := by rw [← hst]; exact Int.emod_nonneg _ (by decide)
          have h1' : st' < 2305843009213693951 := by rw [← hst]; exact Int.emod_lt_of_pos _ (by decide)
          refine ⟨.int fd, rfl, .int 2305843009213693951, rfl, fd, 2305843009213693951, rfl, rfl, .inr ⟨by decide, by decide⟩, .int st', rfl, _, _, rfl, rfl, ?_⟩
          exact ⟨st', fd * 2305843009213693951 + st', _, rfl, rfl, h0', h1', by omega⟩
        · rintro σ H4 ⟨st, fd, tn, rfl, rfl, h0, h1, h2⟩
          exact ⟨.int fd, rfl, done fd h2⟩
abbrev N_law_draw : List Str := ["pen", "many", "digit"]
theorem sc_law_draw : FnScope N_law_draw ["pen", "many"] (defScope s_law_draw) := ⟨rfl, rfl, rfl, by decide +kernel, rfl, by decide +kernel, by decide +kernel⟩
theorem ok_law_draw {f f_law_fresh : Addr} {fd fd_law_fresh : FuncData} (F : Fun K "_law_draw" "_law_draw" s_law_draw f fd) (F_law_fresh : Fun K "_law_fresh" "_law_fresh" s_law_fresh f_law_fresh fd_law_fresh) (b_law_fresh : Binds K fd_law_fresh ["pen"] []) (g_law_fresh : mg "_law_fresh" = some (.ref f_law_fresh))
    (m_len : mg "len" = none) (m_range : mg "range" = none) : FnG P w K mg base CX0 2 f fd ["pen", "many"] sp_law_draw := by
  have G_law_fresh : FnG P w K mg base CX0 1 f_law_fresh fd_law_fresh ["pen"] sp_law_fresh := ok_law_fresh F_law_fresh m_len m_range
  refine okG F sc_law_draw (fun vs H Q E h => ?_) (fun cdv A outer s H vs Q E gd hr h => ?_)
  · obtain ⟨p, c, m, rfl, _⟩ := h
    rfl
  · obtain ⟨p, c, m, rfl, hP, m0, m1, q⟩ := h
    obtain ⟨ns, a, z, hI, ha, hz, hl⟩ := id hP
    refine ⟨_,
      (C8.pss_cut (ps_if (pt_cmpR op_lt (pe_ix ix_list (pv 0) pe_int (fun _ _ => rfl)) (pv 1) (nomark _)) 
        (pss_one (ps_asg (pe_callG G_law_fresh gd (hr.mono (by decide)) rfl g_law_fresh F_law_fresh.kp b_law_fresh .nil pass0 (pa_cons (pv 0) pa_nil)) (pg_sub (pv 0) pe_int set_list))) -- pen[2] = _law_fresh(pen)
         pss_nil) -- if pen[2] < many:
      (pss_cons (ps_set (i := 2) sc_law_draw.nd rfl (.inl rfl) (pe_op op_mod (pe_ix ix_list (pv 0) pe_int (fun _ _ => rfl)) (pv 1))) -- digit = pen[2] % many
      (pss_cons (ps_asg (pe_op op_fdivW (pe_ix ix_list (pv 0) pe_int (fun _ _ => rfl)) (pv 1)) (pg_sub (pv 0) pe_int set_list)) -- pen[2] = pen[2] // many
      (pss_one (ps_ret (pv 2))) -- return digit
      ))) , ?_⟩
    refine ⟨fun σ H' => σ = [some (.ref p), some (.int m), none] ∧ Keep p H H' ∧ ∃ a z : Int, PenIs H' p c ns a z ∧ 0 ≤ a ∧ 0 ≤ z, ?_, ?_⟩
    · refine ⟨.ref p, rfl, p, _, 2, .int z, rfl, rfl, .inl (.inl hI.1), rfl, .int m, rfl, z, m, rfl, rfl, _, rfl, ite2 (fun h1 => ?_) (fun h1 => ?_)⟩
      · refine ⟨.ref p, rfl, p, c, ns, a, z, rfl, hI, ha, hl, fun r H1 hr0 kp hI1 => ?_⟩
        have ne := hI1.ne
        refine ⟨.ref p, rfl, p, _, 2, 2, rfl, rfl, hI1.1, rfl, rfl, kp.at, a + 1, r, ⟨upd_same, ?_⟩, by omega, hr0⟩
        rw [upd_ne ne.symm]
        exact hI1.2
      · exact ⟨rfl, Keep.refl, a, z, hI, ha, hz⟩
    · rintro σ H1 ⟨rfl, kp, a, z, hI, ha, hz⟩
      have ne := hI.ne
      refine ⟨.ref p, rfl, p, _, 2, .int z, rfl, rfl, .inl (.inl hI.1), rfl, .int m, rfl, z, m, rfl, rfl, m0, ?_⟩
      refine ⟨.ref p, rfl, p, _, 2, .int z, rfl, rfl, .inl (.inl hI.1), rfl, .int m, rfl, z, m, rfl, rfl, div_wide m0 m1, .ref p, rfl, p, _, 2, 2, rfl, rfl, hI.1, rfl, ?_⟩
      refine ⟨.int (z % m), rfl, q _ _ (Int.emod_nonneg _ (by omega)) (Int.emod_lt_of_pos _ m0) kp.at ⟨ns, a, z / m, ⟨upd_same, ?_⟩, ha, Int.ediv_nonneg hz (by omega), hl⟩⟩
      rw [upd_ne ne.symm]
      exact hI.2
end

/-! ### drawn streams -/
def sp_law_stream : Sp := fun vs H Q _ => ∃ (p c : Addr) (w m n : Int), vs = [.ref p, .int w, .int m, .int n] ∧ Pen H p c ∧ 0 < w ∧ w ≤ 3 ∧ 0 ≤ m ∧ m ≤ 100 ∧ 0 < n ∧ n ≤ 90 ∧
  ∀ t ms H', Keep p H H' → Tups H H' → Pen H' p c → TD H' (.ref t) (strmD ms) → (ms.length : Int) ≤ m → (∀ x ∈ ms, 0 ≤ x.1 ∧ x.1 < w ∧ x.2.natAbs < 10 ^ 60) → Q (.ref t) H'
section
variable {P : Program} {w : World} {K : PySem.W.Frag} {mg : Str → Option Value} {base : Heap}
abbrev N_law_stream : List Str := ["pen", "words", "most", "values", "large", "found", "lap"]
theorem sc_law_stream : FnScope N_law_stream ["pen", "words", "most", "values"] (defScope s_law_stream) := ⟨rfl, rfl, rfl, by decide +kernel, rfl, by decide +kernel, by decide +kernel⟩
theorem large_val {x : Int} (h : x = 1 ∨ x = 10 ^ 25 ∨ x = -10 ^ 58) {d n : Int} (h0 : 0 ≤ d) (h1 : d < n) (hn : n ≤ 90) : ((d - 1) * x).natAbs < 10 ^ 60 := by
  rcases h with rfl | rfl | rfl <;> omega
theorem ok_law_stream {f f_law_draw : Addr} {fd fd_law_draw : FuncData} (F : Fun K "_law_stream" "_law_stream" s_law_stream f fd) (F_law_draw : Fun K "_law_draw" "_law_draw" s_law_draw f_law_draw fd_law_draw) (b_law_draw : Binds K fd_law_draw ["pen", "many"] [])
    (g_law_draw : mg "_law_draw" = some (.ref f_law_draw)) (G_law_draw : FnG P w K mg base CX0 2 f_law_draw fd_law_draw ["pen", "many"] sp_law_draw)
    (m_len : mg "len" = none) (m_range : mg "range" = none) (m_tuple : mg "tuple" = none) : FnG P w K mg base CX0 3 f fd ["pen", "words", "most", "values"] sp_law_stream := by
  refine okG F sc_law_stream (fun vs H Q E h => ?_) (fun cdv A outer s H vs Q E gd hr h => ?_)
  · obtain ⟨p, c, w, m, n, rfl, _⟩ := h
    rfl
  · obtain ⟨p, c, w, m, n, rfl, hP, w0, w1, m0, m1, n0, n1, q⟩ := h
    refine ⟨_,
      (C8.pss_cut (ps_set (i := 4) sc_law_stream.nd rfl (.inl rfl) (pe_ix ix_list (pe_lst (pa_cons pe_int (pa_cons pe_int (pa_cons (pe_op op_pow pe_int pe_int) (pa_cons (pe_un un_neg (pe_op op_pow pe_int pe_int)) pa_nil))))) (pe_callG G_law_draw gd (hr.mono (by decide)) rfl g_law_draw F_law_draw.kp b_law_draw .nil pass0 (pa_cons (pv 0) (pa_cons pe_int pa_nil))) (fun _ _ => rfl))) -- large = [1, 1, 10 ** 25, -10 ** 58][_law_draw(pen, 4)]
      (pss_cons (ps_set (i := 5) sc_law_stream.nd rfl (.inl rfl) (pe_lst pa_nil)) -- found = []
      (pss_cons (ps_for PassesOwn.never rfl (pi_range1 rfl m_range (pa_cons (pe_callG G_law_draw gd (hr.mono (by decide)) rfl g_law_draw F_law_draw.kp b_law_draw .nil pass0 (pa_cons (pv 0) (pa_cons (pe_op op_add (pv 2) pe_int) pa_nil))) pa_nil)) (pg_name (i := 6) sc_law_stream.nd rfl (.inl rfl)) 
        (pss_one (ps_expr (pe_bm PySem.F.plainAttrs_list PySem.F.slot_list_append PySem.F.type_list_append mt_append (pv 5) (pa_cons (pe_tup (pa_cons (pe_callG G_law_draw gd (hr.mono (by decide)) rfl g_law_draw F_law_draw.kp b_law_draw .nil pass0 (pa_cons (pv 0) (pa_cons (pv 1) pa_nil))) (pa_cons (pe_op op_mul (pe_op op_sub (pe_callG G_law_draw gd (hr.mono (by decide)) rfl g_law_draw F_law_draw.kp b_law_draw .nil pass0 (pa_cons (pv 0) (pa_cons (pv 3) pa_nil))) pe_int) (pv 4)) pa_nil))) pa_nil)))) -- found.append((_law_draw(pen, words), (_law_draw(pen, values) - 1) * large))
        ) -- for lap in range(_law_draw(pen, most + 1)):
      (pss_one (ps_ret (pe_callTy call_tuple_of (by rfl) m_tuple (by decide +kernel) (pa_cons (pv 5) pa_nil)))) -- return tuple(found)
      ))) , ?_⟩
    -- large = [..][draw]
    refine ⟨fun σ H' => ∃ x : Int, (x = 1 ∨ x = 10 ^ 25 ∨ x = -10 ^ 58) ∧ σ = [some (.ref p), some (.int w), some (.int m), some (.int n), some (.int x), none, none] ∧ Keep p H H' ∧ Tups H H' ∧ Pen H' p c, ?_, ?_⟩
    · refine ⟨10, 25, rfl, rfl, ⟨by decide, by decide, by decide⟩, 10, 58, rfl, rfl, ⟨by decide, by decide, by decide⟩, _, rfl, by show 4 ≤ sizeLine; decide, fun l nl => ?_⟩
      have sm : Same H (upd H l (.lst [.int 1, .int 1, .int (10 ^ 25), .int (-10 ^ 58)])) := fun b o e => by walk_at "hp"
      refine ⟨.ref p, rfl, p, c, 4, rfl, hP.mono sm, by decide, by decide, fun d H1 d0 d1 kp hP1 => ?_⟩
      have hl : H1 l = some (.lst [.int 1, .int 1, .int (10 ^ 25), .int (-10 ^ 58)]) := kp _ _ upd_same (hP.free nl).1.symm
      have k2 : Keep p H H1 := (Keep.same sm).trans kp
      have fin : ∀ x : Int, atI [V.int 1, V.int 1, V.int (10 ^ 25), V.int (-10 ^ 58)] d = some (.int x) → (x = 1 ∨ x = 10 ^ 25 ∨ x = -10 ^ 58) → tVar 0 [some (V.ref l)] H1 (fun _ _ => True) := fun _ _ _ => ⟨_, rfl, trivial⟩
      obtain ⟨x, ex, hx⟩ : ∃ x : Int, atI [V.int 1, V.int 1, V.int (10 ^ 25), V.int (-10 ^ 58)] d = some (.int x) ∧ (x = 1 ∨ x = 10 ^ 25 ∨ x = -10 ^ 58) := by
        have : d = 0 ∨ d = 1 ∨ d = 2 ∨ d = 3 := by omega
        rcases this with rfl | rfl | rfl | rfl
        · exact ⟨1, rfl, .inl rfl⟩
        · exact ⟨1, rfl, .inl rfl⟩
        · exact ⟨10 ^ 25, rfl, .inr (.inl rfl)⟩
        · exact ⟨-10 ^ 58, rfl, .inr (.inr rfl)⟩
      exact ⟨l, _, d, .int x, rfl, rfl, SqL.of hl, ex, x, hx, rfl, k2, hP.tups k2, hP1⟩
    · rintro σ H1 ⟨x, hx, rfl, kp, tp, hP⟩
      -- found = []; for lap in range(draw(pen, most + 1))
      refine ⟨by show 0 ≤ sizeLine; decide, fun l nl => ?_⟩
      have npl := (hP.free nl).1
      have ncl := (hP.free nl).2
      have sm : Same H1 (upd H1 l (.lst [])) := fun b o e => by walk_at "hp"
      refine ⟨.ref p, rfl, .int m, rfl, m, 1, rfl, rfl, p, c, m + 1, rfl, hP.mono sm, by omega, by omega, fun d H2 d0 d1 kp2 hP2 => ?_⟩
      have hl2 : H2 l = some (.lst []) := kp2 _ _ upd_same npl.symm
      have kp3 : Keep p H H2 := kp.trans ((Keep.same sm).trans kp2)
      have tp3 : Tups H H2 := (tp.trans (Tups.same sm)).trans ((hP.mono sm).tups kp2)
      have nlH : H l = none := by
        cases e : H l with
        | none => rfl
        | some o =>
          have z := kp l o e npl.symm
          rw [nl] at z
          cases z
      obtain ⟨n', rfl⟩ : ∃ n' : Nat, d = n' := ⟨d.toNat, by omega⟩
      refine ⟨(n' : Int), rfl, by omega, by omega, ?_⟩
      rw [Int.toNat_natCast]
      refine for_range (n := n') (fun i σ H' => ∃ (y : Option V) (vs : List V) (ms : List (Int × Int)), σ = [some (.ref p), some (.int w), some (.int m), some (.int n), some (.int x), some (.ref l), y] ∧ Keep p H H' ∧ Tups H H' ∧ Pen H' p c ∧
        H' l = some (.lst vs) ∧ TDs H' vs (ms.map msgD) ∧ ms.length = i ∧ ∀ x ∈ ms, 0 ≤ x.1 ∧ x.1 < w ∧ x.2.natAbs < 10 ^ 60) ?_ ?_ ?_
      · exact ⟨none, [], [], rfl, kp3, tp3, hP2, hl2, .nil, rfl, fun _ z => by cases z⟩
      · rintro i σ H3 hi ⟨y, vs, ms, rfl, kp, tp, hP, hl, ht, hlen, hms⟩
        obtain ⟨l0, hl0⟩ := hP.at
        have npl : l ≠ p := by
          intro e
          subst e
          exact absurd rfl npl
        refine ⟨.ref l, rfl, .inl ⟨rfl, _, SqL.of hl⟩, .ref p, rfl, .int w, rfl, p, c, w, rfl, hP, w0, by omega, fun d1 H4 a0 a1 kp4 hP4 => ?_⟩
        refine ⟨.ref p, rfl, .int n, rfl, p, c, n, rfl, hP4, n0, by omega, fun d2 H5 b0 b1 kp5 hP5 => ?_⟩
        refine ⟨d2, 1, rfl, rfl, .int x, rfl, d2 - 1, x, rfl, rfl, .inl ⟨by omega, by omega⟩, by show 2 ≤ sizeLine; decide, fun t nt => ?_⟩
        have kp6 : Keep p H3 H5 := kp4.trans kp5
        have hl5 : H5 l = some (.lst vs) := kp6 _ _ hl npl
        have nlt : l ≠ t := ne_of_none hl5 nt
        have tp6 : Tups H3 (upd H5 t (.tup [.int d1, .int ((d2 - 1) * x)])) := (hP.tups kp6).trans (Tups.new nt)
        have hP6 : Pen (upd H5 t (.tup [.int d1, .int ((d2 - 1) * x)])) p c := hP5.mono (fun b o e => by walk_at "hp")
        have ml : vs.length = i := by rw [ht.msgs_len, hlen]
        refine ⟨l, vs, .ref t, rfl, rfl, by walk_at "hp", small1000 (by omega), _, vs ++ [.ref t], ms ++ [(d1, (d2 - 1) * x)], rfl, ?_, ?_, ?_, upd_same, ?_, by rw [List.length_append, hlen]; rfl, ?_⟩
        · intro b o e ne
          have nbl : b ≠ l := ne_of_none e nlH
          rw [upd_ne nbl, upd_ne (ne_of_none (kp6 b o (kp b o e ne) ne) nt)]
          exact kp6 b o (kp b o e ne) ne
        · exact (tp.trans tp6).trans (Tups.lst (l := vs) (by walk_at "hp"))
        · exact hP6.put npl ncl.symm
        · rw [List.map_append]
          have tl : Tups (upd H5 t (.tup [.int d1, .int ((d2 - 1) * x)])) (upd (upd H5 t (.tup [.int d1, .int ((d2 - 1) * x)])) l (.lst (vs ++ [.ref t]))) := Tups.lst (l := vs) (by walk_at "hp")
          exact ((ht.mono tp6).mono tl).app (.cons (TD.mono tl _ (TD.ofPair upd_same)) .nil)
        · intro y hy
          rcases List.mem_append.mp hy with hy | hy
          · exact hms y hy
          · simp only [List.mem_cons, List.not_mem_nil, or_false] at hy
            subst hy
            exact ⟨a0, a1, large_val hx b0 b1 n1⟩
      · rintro σ H3 ⟨y, vs, ms, rfl, kp, tp, hP, hl, ht, hlen, hms⟩
        refine ⟨.ref l, rfl, l, vs, rfl, .inl ⟨SqL.of hl, fun t nt => ?_⟩⟩
        refine q t ms _ (fun b o e ne => ?_) (tp.trans (Tups.new nt)) (hP.mono fun b o e => by walk_at "hp") (.tup upd_same (ht.mono (Tups.new nt))) (by omega) hms
        rw [upd_ne (ne_of_none (kp b o e ne) nt)]
        exact kp b o e ne
end

/-! ### numbered, is_numbered, are_alike -/
def sp_numbered : Sp := fun vs H Q _ => ∃ (v : V) (ms : List (Int × Int)), vs = [v] ∧ TD H v (strmD ms) ∧ ms.length ≤ 5000 ∧
  ∀ t' H', Same H H' → TD H' (.ref t') (strmD (numb ms)) → Q (.ref t') H'
def sp_is_numbered : Sp := fun vs H Q _ => ∃ (v : V) (ms : List (Int × Int)), vs = [v] ∧ TD H v (strmD ms) ∧ ms.length ≤ 5000 ∧ ∀ H', Same H H' → Q (.bl (decide (ms = numb ms))) H'
def sp_are_alike : Sp := fun vs H Q _ => ∃ (v u : V) (ms ns : List (Int × Int)), vs = [v, u] ∧ TD H v (strmD ms) ∧ TD H u (strmD ns) ∧ ms.length ≤ 5000 ∧ ns.length ≤ 5000 ∧
  ∀ H', Same H H' → Q (.bl (decide (numb ms = numb ns))) H'
section
variable {P : Program} {w : World} {K : PySem.W.Frag} {mg : Str → Option Value} {base : Heap}
abbrev N_numbered : List Str := ["stream", "numbers", "messages", "word", "value"]
theorem sc_numbered : FnScope N_numbered ["stream"] (defScope s_numbered) := ⟨rfl, rfl, rfl, by decide +kernel, rfl, by decide +kernel, by decide +kernel⟩
theorem ok_numbered {f : Addr} {fd : FuncData} {k : Nat} (F : Fun K "numbered" "numbered" s_numbered f fd) (m_len : mg "len" = none) (m_tuple : mg "tuple" = none) : FnG P w K mg base CX0 (k + 1) f fd ["stream"] sp_numbered := by
  refine okG F sc_numbered (fun vs H Q E h => ?_) (fun cdv A outer s H vs Q E gd hr h => ?_)
  · obtain ⟨v, ms, rfl, _⟩ := h
    rfl
  · obtain ⟨v, ms, rfl, hT, hl, q⟩ := h
    refine ⟨_, 
      (pss_cons (ps_set (i := 1) sc_numbered.nd rfl (.inl rfl) pe_dnewK) -- numbers = {}
      (pss_cons (ps_set (i := 2) sc_numbered.nd rfl (.inl rfl) (pe_lst pa_nil)) -- messages = []
      (pss_cons (ps_for PassesOwn.never rfl (pi_tup (pv 0)) (pg_tup rfl (pgs_cons (pg_name (i := 3) sc_numbered.nd rfl (.inl rfl)) (pgs_cons (pg_name (i := 4) sc_numbered.nd rfl (.inl rfl)) pgs_nil))) 
        (C8.pss_cut (ps_if (pt_cmp (pc_dnotin (hu_of hr) (pv 4) (pv 1))) 
          (pss_one (ps_dput (hu_of hr) (pv 1) (pv 4) (pe_callB call_lenD (by rfl) m_len PySem.boot_len (pa_cons (pv 1) pa_nil)) rfl)) -- numbers[value] = len(numbers)
           pss_nil) -- if value not in numbers:
        (pss_one (ps_expr (pe_bm PySem.F.plainAttrs_list PySem.F.slot_list_append PySem.F.type_list_append mt_append (pv 2) (pa_cons (pe_tup (pa_cons (pv 3) (pa_cons (pe_dget (hu_of hr) (pv 1) (pv 4) (fun _ _ => rfl)) pa_nil))) pa_nil)))) -- messages.append((word, numbers[value]))
        )) -- for word, value in stream:
      (pss_one (ps_ret (pe_callTy call_tuple_of (by rfl) m_tuple (by decide +kernel) (pa_cons (pv 2) pa_nil)))) -- return tuple(messages)
      ))) , ?_⟩
    obtain ⟨t, xs, rfl, ht, hx⟩ := hT.isTup
    -- numbers = {}; messages = []
    refine fun d nd => ⟨by show 0 ≤ sizeLine; decide, fun l nl => ?_⟩
    have s1 : Same H (upd H d (.dK [])) := same_new nd
    have s2 : Same (upd H d (.dK [])) (upd (upd H d (.dK [])) l (.lst [])) := same_new nl
    have nlH : H l = none := s1.free nl
    have ndl : d ≠ l := ne_of_none upd_same nl
    have hd : upd (upd H d (.dK [])) l (.lst []) d = some (.dK []) := s2 _ _ upd_same
    have hl0 : upd (upd H d (.dK [])) l (.lst []) l = some (.lst []) := upd_same
    have s3 := s1.trans s2
    generalize upd (upd H d (.dK [])) l (.lst []) = H1 at s3 hd hl0 ⊢
    refine ⟨.ref t, rfl, t, rfl, ⟨_, SqT.of (s3 _ _ ht)⟩, ?_⟩
    refine for_tup (K := K) (a := t) (xs := xs) (fun j σ H' => ∃ (y3 y4 : Option V) (vs : List V) (kvs : List (Key × V)), σ = [some (.ref t), some (.ref d), some (.ref l), y3, y4] ∧ Same H H' ∧ H' d = some (.dK kvs) ∧ H' l = some (.lst vs) ∧ DN kvs (seen [] (ms.take j)) ∧ TDs H' vs ((numb (ms.take j)).map msgD)) ?_ ?_ ?_ ?_
    · exact ⟨none, none, [], [], rfl, s3, hd, hl0, DN.nil, .nil⟩
    · rintro j σ H' hj ⟨y3, y4, vs, kvs, rfl, sm, hd, hl', dn, hv⟩
      exact SqT.of (sm _ _ ht)
    · rintro j x σ H' hj ⟨y3, y4, vs, kvs, rfl, sm, hd, hl', dn, hv⟩
      obtain ⟨m, ar, em, rfl, har⟩ := hx.msg hj
      have et : ms.take (j + 1) = ms.take j ++ [m] := by rw [List.take_add_one, em]; rfl
      refine ⟨ar, [.int m.1, .int m.2], rfl, SqT.of (sm _ _ har), rfl, .int m.1, [.int m.2], rfl, .int m.2, [], rfl, rfl, ?_⟩
      have ln : kvs.length ≤ 5000 := by
        rw [dn.1]
        have h1 := seen_len (ms.take j) []
        rw [List.length_take] at h1
        simp only [List.length_nil] at h1
        omega
      have lv : vs.length ≤ 5000 := by
        rw [hv.msgs_len, numb_len, List.length_take]
        omega
      -- if value not in numbers: numbers[value] = len(numbers)
      refine ⟨fun σ H'' => ∃ kvs, σ = [some (.ref t), some (.ref d), some (.ref l), some (.int m.1), some (.int m.2)] ∧ Same H H'' ∧ Tups H' H'' ∧ H'' d = some (.dK kvs) ∧ H'' l = some (.lst vs) ∧ DN kvs (grow (seen [] (ms.take j)) m.2), ?_, ?_⟩
      · refine ⟨.int m.2, rfl, .ref d, rfl, d, _, rfl, DGet.k (k := Sum.inl m.2) hd, _, rfl, ?_⟩
        by_cases hm : m.2 ∈ seen [] (ms.take j)
        · rw [dn.in hm]
          refine ⟨kvs, rfl, sm, Tups.refl, hd, hl', ?_⟩
          unfold grow
          rw [if_pos hm]
          exact dn
        · rw [dn.out hm]
          refine ⟨.ref d, rfl, d, kvs, rfl, hd, .ref d, rfl, .int m.2, rfl, d, _, rfl, DPut.k (k := Sum.inl m.2) hd (Nat.lt_of_le_of_lt ln (by decide)), _, rfl, ?_, Tups.put hd (fun _ z => by cases z), upd_same, ?_, ?_⟩
          · intro b o e
            have : b ≠ d := ne_of_none e nd
            rw [upd_ne this]
            exact sm _ _ e
          · rw [upd_ne ndl.symm]
            exact hl'
          · unfold grow
            rw [if_neg hm]
            exact dn.put hm
      · rintro σ H'' ⟨kvs', rfl, sm2, tp, hd2, hl2, dn2⟩
        have gv := dn2.in (mem_grow (seen [] (ms.take j)) m.2)
        have gd2 := DGet.k (k := Sum.inl m.2) hd2
        rw [gv] at gd2
        refine ⟨.ref l, rfl, .inl ⟨rfl, _, SqL.of hl2⟩, .int m.1, rfl, .ref d, rfl, .int m.2, rfl, d, _, rfl, gd2, by show 2 ≤ sizeLine; decide, fun T nT => ?_⟩
        generalize hz : ((List.idxOf m.2 (grow (seen [] (ms.take j)) m.2) : Nat) : Int) = z
        have nlT : l ≠ T := ne_of_none hl2 nT
        have ndT : d ≠ T := ne_of_none hd2 nT
        have sT : Same H'' (upd H'' T (.tup [.int m.1, .int z])) := same_new nT
        have tl : Tups (upd H'' T (.tup [.int m.1, .int z])) (upd (upd H'' T (.tup [.int m.1, .int z])) l (.lst (vs ++ [.ref T]))) := Tups.lst (l := vs) (by walk_at "hp")
        refine ⟨l, vs, .ref T, rfl, rfl, by walk_at "hp", Nat.lt_of_le_of_lt lv (by decide), _, _, vs ++ [.ref T], kvs', rfl, ?_, ?_, upd_same, ?_, ?_⟩
        · intro b o e
          have : b ≠ l := ne_of_none e nlH
          rw [upd_ne this]
          exact sT _ _ (sm2 _ _ e)
        · walk_at "hp"
        · rw [et, seen_snoc]
          exact dn2
        · have en : numb (ms.take (j + 1)) = numb (ms.take j) ++ [(m.1, z)] := by
            rw [et, ← hz]
            exact numGo_snoc (ms.take j) [] m
          rw [en, List.map_append]
          exact ((TDs.mono ((tp.trans (Tups.same sT)).trans tl) _ hv)).app (.cons (TD.mono tl _ (TD.ofPair upd_same)) .nil)
    · rintro σ H' ⟨y3, y4, vs, kvs, rfl, sm, hd, hl', dn, hv⟩
      rw [hx.msgs_len, List.take_length] at hv
      refine ⟨.ref l, rfl, l, vs, rfl, .inl ⟨SqL.of hl', fun t' nt => ?_⟩⟩
      exact q t' _ (sm.trans (same_new nt)) (.tup upd_same (TDs.mono (Tups.new nt) _ hv))
abbrev N_is_numbered : List Str := ["stream"]
theorem sc_is_numbered : FnScope N_is_numbered ["stream"] (defScope s_is_numbered) := ⟨rfl, rfl, rfl, by decide +kernel, rfl, by decide +kernel, by decide +kernel⟩
theorem ok_is_numbered {f f_numbered : Addr} {fd fd_numbered : FuncData} (F : Fun K "is_numbered" "is_numbered" s_is_numbered f fd) (F_numbered : Fun K "numbered" "numbered" s_numbered f_numbered fd_numbered) (b_numbered : Binds K fd_numbered ["stream"] [])
    (g_numbered : mg "numbered" = some (.ref f_numbered)) (m_len : mg "len" = none) (m_tuple : mg "tuple" = none) : FnG P w K mg base CX0 2 f fd ["stream"] sp_is_numbered := by
  have G_numbered : FnG P w K mg base CX0 1 f_numbered fd_numbered ["stream"] sp_numbered := ok_numbered F_numbered m_len m_tuple
  refine okG F sc_is_numbered (fun vs H Q E h => ?_) (fun cdv A outer s H vs Q E gd hr h => ?_)
  · obtain ⟨v, ms, rfl, _⟩ := h
    rfl
  · obtain ⟨v, ms, rfl, hT, hl, q⟩ := h
    refine ⟨_, 
      (pss_one (ps_ret (pe_cmpR (op_eqT hr.units) (pv 0) (pe_callG G_numbered gd (hr.mono (by decide)) rfl g_numbered F_numbered.kp b_numbered .nil pass0 (pa_cons (pv 0) pa_nil)) (nomark _)))) -- return stream == numbered(stream)
       , ?_⟩
    refine ⟨v, rfl, v, rfl, v, ms, rfl, hT, hl, fun t H1 sm hT1 => ?_⟩
    refine ⟨_, _, TD.mono (Tups.same sm) _ hT, hT1, shaped_strm _, shaped_strm _, ?_⟩
    rw [eqv_strm]
    exact q H1 sm
abbrev N_are_alike : List Str := ["one", "two"]
theorem sc_are_alike : FnScope N_are_alike ["one", "two"] (defScope s_are_alike) := ⟨rfl, rfl, rfl, by decide +kernel, rfl, by decide +kernel, by decide +kernel⟩
theorem ok_are_alike {f f_numbered : Addr} {fd fd_numbered : FuncData} (F : Fun K "are_alike" "are_alike" s_are_alike f fd) (F_numbered : Fun K "numbered" "numbered" s_numbered f_numbered fd_numbered) (b_numbered : Binds K fd_numbered ["stream"] [])
    (g_numbered : mg "numbered" = some (.ref f_numbered)) (m_len : mg "len" = none) (m_tuple : mg "tuple" = none) : FnG P w K mg base CX0 2 f fd ["one", "two"] sp_are_alike := by
  have G_numbered : FnG P w K mg base CX0 1 f_numbered fd_numbered ["stream"] sp_numbered := ok_numbered F_numbered m_len m_tuple
  refine okG F sc_are_alike (fun vs H Q E h => ?_) (fun cdv A outer s H vs Q E gd hr h => ?_)
  · obtain ⟨v, u, ms, ns, rfl, _⟩ := h
    rfl
  · obtain ⟨v, u, ms, ns, rfl, hT, hU, hl, hl2, q⟩ := h
    refine ⟨_, 
      (pss_one (ps_ret (pe_cmpR (op_eqT hr.units) (pe_callG G_numbered gd (hr.mono (by decide)) rfl g_numbered F_numbered.kp b_numbered .nil pass0 (pa_cons (pv 0) pa_nil)) (pe_callG G_numbered gd (hr.mono (by decide)) rfl g_numbered F_numbered.kp b_numbered .nil pass0 (pa_cons (pv 1) pa_nil)) (nomark _)))) -- return numbered(one) == numbered(two)
       , ?_⟩
    refine ⟨v, rfl, v, ms, rfl, hT, hl, fun t H1 sm hT1 => ?_⟩
    refine ⟨u, rfl, u, ns, rfl, TD.mono (Tups.same sm) _ hU, hl2, fun t2 H2 sm2 hT2 => ?_⟩
    refine ⟨_, _, TD.mono (Tups.same sm2) _ hT1, hT2, shaped_strm _, shaped_strm _, ?_⟩
    rw [eqv_strm]
    exact q H2 (sm.trans sm2)
end

/-! ### the law's own numbering -/
def pnFlat (ns : List Int) : (ns.map V.int).all flatV = true := by
  rw [List.all_map]
  exact List.all_eq_true.mpr fun _ _ => rfl
theorem inV_ints (v : Int) (ns : List Int) : inV (.int v) (ns.map V.int) = decide (v ∈ ns) := by
  unfold inV
  rw [List.any_map]
  induction ns with
  | nil => simp
  | cons x r ih =>
    rw [List.any_cons, ih]
    have e : ((fun y => eqV y (V.int v)) ∘ V.int) x = decide (v = x) := by
      show (x == v) = decide (v = x)
      by_cases h : x = v
      · simp [h]
      · simp [h, Ne.symm h]
    rw [e]
    by_cases h : v = x <;> simp [h]
theorem idx_at {v : Int} : ∀ {ns : List Int}, v ∈ ns → ns[ns.idxOf v]? = some v
  | [], h => by cases h
  | x :: r, h => by
    rw [List.idxOf_cons]
    by_cases e : x = v
    · subst e; simp
    · have e1 : (x == v) = false := by simpa using e
      have h' : v ∈ r := by
        rcases List.mem_cons.mp h with z | z
        · exact absurd z.symm e
        · exact z
      rw [e1]
      simpa using idx_at h'
theorem idx_first {v u : Int} : ∀ {ns : List Int} {k : Nat}, k < ns.idxOf v → ns[k]? = some u → u ≠ v
  | [], k, h, _ => by simp at h
  | x :: r, k, h, hu => by
    rw [List.idxOf_cons] at h
    by_cases e : x = v
    · subst e; simp at h
    · have e1 : (x == v) = false := by simpa using e
      rw [e1] at h
      cases k with
      | zero =>
        simp at hu
        subst hu
        exact e
      | succ k => exact idx_first (by simpa using h) (by simpa using hu)
section
variable {P : Program} {w : World} {K : PySem.W.Frag} {mg : Str → Option Value} {base : Heap}
abbrev N_law_numbered : List Str := ["stream", "names", "found", "word", "value"]
theorem sc_law_numbered : FnScope N_law_numbered ["stream"] (defScope s_law_numbered) := ⟨rfl, rfl, rfl, by decide +kernel, rfl, by decide +kernel, by decide +kernel⟩
theorem ok_law_numbered {f : Addr} {fd : FuncData} {k : Nat} (F : Fun K "_law_numbered" "_law_numbered" s_law_numbered f fd) (m_tuple : mg "tuple" = none) : FnG P w K mg base CX0 (k + 1) f fd ["stream"] sp_numbered := by
  refine okG F sc_law_numbered (fun vs H Q E h => ?_) (fun cdv A outer s H vs Q E gd hr h => ?_)
  · obtain ⟨v, ms, rfl, _⟩ := h
    rfl
  · obtain ⟨v, ms, rfl, hT, hl, q⟩ := h
    refine ⟨_, 
      (pss_cons (ps_par (i := 1) (j := 2) rfl sc_law_numbered.nd rfl rfl (by decide) rfl rfl (pa_cons (pe_lst pa_nil) (pa_cons (pe_lst pa_nil) pa_nil)) rfl) -- names, found = ([], [])
      (pss_cons (ps_for PassesOwn.never rfl (pi_tup (pv 0)) (pg_tup rfl (pgs_cons (pg_name (i := 3) sc_law_numbered.nd rfl (.inl rfl)) (pgs_cons (pg_name (i := 4) sc_law_numbered.nd rfl (.inl rfl)) pgs_nil))) 
        (C8.pss_cut (ps_if (pt_cmpR op_notIn_seq (pv 4) (pv 1) rfl) 
          (pss_one (ps_expr (pe_bm PySem.F.plainAttrs_list PySem.F.slot_list_append PySem.F.type_list_append mt_append (pv 1) (pa_cons (pv 4) pa_nil)))) -- names.append(value)
           pss_nil) -- if value not in names:
        (pss_one (ps_expr (pe_bm PySem.F.plainAttrs_list PySem.F.slot_list_append PySem.F.type_list_append mt_append (pv 2) (pa_cons (pe_tup (pa_cons (pv 3) (pa_cons (pe_bm PySem.F.plainAttrs_list PySem.F.slot_list_index PySem.F.type_list_index mt_index (pv 1) (pa_cons (pv 4) pa_nil)) pa_nil))) pa_nil)))) -- found.append((word, names.index(value)))
        )) -- for word, value in stream:
      (pss_one (ps_ret (pe_callTy call_tuple_of (by rfl) m_tuple (by decide +kernel) (pa_cons (pv 2) pa_nil)))) -- return tuple(found)
      )) , ?_⟩
    obtain ⟨t, xs, rfl, ht, hx⟩ := hT.isTup
    refine ⟨by show 0 ≤ sizeLine; decide, fun d nd => ⟨by show 0 ≤ sizeLine; decide, fun l nl => ?_⟩⟩
    have s1 : Same H (upd H d (.lst [])) := same_new nd
    have s2 : Same (upd H d (.lst [])) (upd (upd H d (.lst [])) l (.lst [])) := same_new nl
    have nlH : H l = none := s1.free nl
    have ndl : d ≠ l := ne_of_none upd_same nl
    have hd : upd (upd H d (.lst [])) l (.lst []) d = some (.lst []) := s2 _ _ upd_same
    have hl0 : upd (upd H d (.lst [])) l (.lst []) l = some (.lst []) := upd_same
    have s3 := s1.trans s2
    generalize upd (upd H d (.lst [])) l (.lst []) = H1 at s3 hd hl0 ⊢
    refine ⟨.ref d, .ref l, rfl, ?_⟩
    refine ⟨.ref t, rfl, t, rfl, ⟨_, SqT.of (s3 _ _ ht)⟩, ?_⟩
    refine for_tup (K := K) (a := t) (xs := xs) (fun j σ H' => ∃ (y3 y4 : Option V) (vs : List V), σ = [some (.ref t), some (.ref d), some (.ref l), y3, y4] ∧ Same H H' ∧ H' d = some (.lst ((seen [] (ms.take j)).map V.int)) ∧ H' l = some (.lst vs) ∧ TDs H' vs ((numb (ms.take j)).map msgD)) ?_ ?_ ?_ ?_
    · exact ⟨none, none, [], rfl, s3, hd, hl0, .nil⟩
    · rintro j σ H' hj ⟨y3, y4, vs, rfl, sm, hd, hl', hv⟩
      exact SqT.of (sm _ _ ht)
    · rintro j x σ H' hj ⟨y3, y4, vs, rfl, sm, hd, hl', hv⟩
      obtain ⟨m, ar, em, rfl, har⟩ := hx.msg hj
      have et : ms.take (j + 1) = ms.take j ++ [m] := by rw [List.take_add_one, em]; rfl
      refine ⟨ar, [.int m.1, .int m.2], rfl, SqT.of (sm _ _ har), rfl, .int m.1, [.int m.2], rfl, .int m.2, [], rfl, rfl, ?_⟩
      have ln : (seen [] (ms.take j)).length ≤ 5000 := by
        have h1 := seen_len (ms.take j) []
        rw [List.length_take] at h1
        simp only [List.length_nil] at h1
        omega
      have lv : vs.length ≤ 5000 := by
        rw [hv.msgs_len, numb_len, List.length_take]
        omega
      refine ⟨fun σ H'' => σ = [some (.ref t), some (.ref d), some (.ref l), some (.int m.1), some (.int m.2)] ∧ Same H H'' ∧ Tups H' H'' ∧ H'' d = some (.lst ((grow (seen [] (ms.take j)) m.2).map V.int)) ∧ H'' l = some (.lst vs), ?_, ?_⟩
      · refine ⟨.int m.2, rfl, .ref d, rfl, d, _, rfl, .inl (SqL.of hd), rfl, pnFlat _, _, rfl, ?_⟩
        rw [inV_ints]
        by_cases hm : m.2 ∈ seen [] (ms.take j)
        · rw [decide_eq_true hm]
          refine ⟨rfl, sm, Tups.refl, ?_, hl'⟩
          unfold grow
          rw [if_pos hm]
          exact hd
        · rw [decide_eq_false hm]
          refine ⟨.ref d, rfl, .inl ⟨rfl, _, SqL.of hd⟩, .int m.2, rfl, d, _, .int m.2, rfl, rfl, hd, Nat.lt_of_le_of_lt (by rw [List.length_map]; exact ln) (by decide), rfl, ?_, Tups.lst hd, ?_, ?_⟩
          · intro b o e
            have : b ≠ d := ne_of_none e nd
            rw [upd_ne this]
            exact sm _ _ e
          · unfold grow
            rw [if_neg hm, List.map_append]
            exact upd_same
          · rw [upd_ne ndl.symm]
            exact hl'
      · rintro σ H'' ⟨rfl, sm2, tp, hd2, hl2⟩
        have hm := mem_grow (seen [] (ms.take j)) m.2
        refine ⟨.ref l, rfl, .inl ⟨rfl, _, SqL.of hl2⟩, .int m.1, rfl, .ref d, rfl, .inl ⟨rfl, _, SqL.of hd2⟩, .int m.2, rfl, d, _, .int m.2, List.idxOf m.2 (grow (seen [] (ms.take j)) m.2), .int m.2, rfl, rfl, SqL.of hd2, rfl, pnFlat _, ?_, ?_, ?_, ?_⟩
        · rw [List.getElem?_map, idx_at hm]
          rfl
        · show (m.2 == m.2) = true
          exact beq_self_eq_true _
        · intro k z hk hz
          rw [List.getElem?_map] at hz
          obtain ⟨u, hu, rfl⟩ := Option.map_eq_some_iff.mp hz
          show (u == m.2) = false
          exact beq_eq_false_iff_ne.mpr (idx_first hk hu)
        generalize hz : ((List.idxOf m.2 (grow (seen [] (ms.take j)) m.2) : Nat) : Int) = z
        refine ⟨by show 2 ≤ sizeLine; decide, fun T nT => ?_⟩
        have nlT : l ≠ T := ne_of_none hl2 nT
        have ndT : d ≠ T := ne_of_none hd2 nT
        have sT : Same H'' (upd H'' T (.tup [.int m.1, .int z])) := same_new nT
        have tl : Tups (upd H'' T (.tup [.int m.1, .int z])) (upd (upd H'' T (.tup [.int m.1, .int z])) l (.lst (vs ++ [.ref T]))) := Tups.lst (l := vs) (by walk_at "hp")
        refine ⟨l, vs, .ref T, rfl, rfl, by walk_at "hp", Nat.lt_of_le_of_lt lv (by decide), _, _, vs ++ [.ref T], rfl, ?_, ?_, upd_same, ?_⟩
        · intro b o e
          have : b ≠ l := ne_of_none e nlH
          rw [upd_ne this]
          exact sT _ _ (sm2 _ _ e)
        · rw [et, seen_snoc]
          walk_at "hp"
        · have en : numb (ms.take (j + 1)) = numb (ms.take j) ++ [(m.1, z)] := by
            rw [et, ← hz]
            exact numGo_snoc (ms.take j) [] m
          rw [en, List.map_append]
          exact ((TDs.mono ((tp.trans (Tups.same sT)).trans tl) _ hv)).app (.cons (TD.mono tl _ (TD.ofPair upd_same)) .nil)
    · rintro σ H' ⟨y3, y4, vs, rfl, sm, hd, hl', hv⟩
      rw [hx.msgs_len, List.take_length] at hv
      refine ⟨.ref l, rfl, l, vs, rfl, .inl ⟨SqL.of hl', fun t' nt => ?_⟩⟩
      exact q t' _ (sm.trans (same_new nt)) (.tup upd_same (TDs.mono (Tups.new nt) _ hv))
end

/-- where the defs stand -/
structure Txt (K : PySem.W.Frag) (mg : Str → Option Value) (f_law_pen f_law_fresh f_law_draw f_law_stream f_law_numbered f_numbered f_is_numbered f_are_alike : Addr) (fd_law_pen fd_law_fresh fd_law_draw fd_law_stream fd_law_numbered fd_numbered fd_is_numbered fd_are_alike : FuncData) : Prop where
  F_law_pen : Fun K "_law_pen" "_law_pen" s_law_pen f_law_pen fd_law_pen
  b_law_pen : Binds K fd_law_pen ["script"] []
  g_law_pen : mg "_law_pen" = some (.ref f_law_pen)
  F_law_fresh : Fun K "_law_fresh" "_law_fresh" s_law_fresh f_law_fresh fd_law_fresh
  b_law_fresh : Binds K fd_law_fresh ["pen"] []
  g_law_fresh : mg "_law_fresh" = some (.ref f_law_fresh)
  F_law_draw : Fun K "_law_draw" "_law_draw" s_law_draw f_law_draw fd_law_draw
  b_law_draw : Binds K fd_law_draw ["pen", "many"] []
  g_law_draw : mg "_law_draw" = some (.ref f_law_draw)
  F_law_stream : Fun K "_law_stream" "_law_stream" s_law_stream f_law_stream fd_law_stream
  b_law_stream : Binds K fd_law_stream ["pen", "words", "most", "values"] []
  g_law_stream : mg "_law_stream" = some (.ref f_law_stream)
  F_law_numbered : Fun K "_law_numbered" "_law_numbered" s_law_numbered f_law_numbered fd_law_numbered
  b_law_numbered : Binds K fd_law_numbered ["stream"] []
  g_law_numbered : mg "_law_numbered" = some (.ref f_law_numbered)
  F_numbered : Fun K "numbered" "numbered" s_numbered f_numbered fd_numbered
  b_numbered : Binds K fd_numbered ["stream"] []
  g_numbered : mg "numbered" = some (.ref f_numbered)
  F_is_numbered : Fun K "is_numbered" "is_numbered" s_is_numbered f_is_numbered fd_is_numbered
  b_is_numbered : Binds K fd_is_numbered ["stream"] []
  g_is_numbered : mg "is_numbered" = some (.ref f_is_numbered)
  F_are_alike : Fun K "are_alike" "are_alike" s_are_alike f_are_alike fd_are_alike
  b_are_alike : Binds K fd_are_alike ["one", "two"] []
  g_are_alike : mg "are_alike" = some (.ref f_are_alike)
  m_list : mg "list" = none
  m_len : mg "len" = none
  m_range : mg "range" = none
  m_tuple : mg "tuple" = none
  m_repr : mg "repr" = none
  m_abs : mg "abs" = none
  m_zip : mg "zip" = none
  m_isinstance : mg "isinstance" = none
  m_bool : mg "bool" = none
/-! ### the law -/
theorem atI_ints {ns : List Int} {d : Int} (h0 : 0 ≤ d) (h1 : d < ns.length) : ∃ n, n ∈ ns ∧ atI (ns.map V.int) d = some (.int n) := by
  obtain ⟨j, rfl⟩ : ∃ j : Nat, d = j := ⟨d.toNat, by omega⟩
  have hj : j < ns.length := by omega
  exact ⟨ns[j], List.getElem_mem hj, atI_nat (by rw [List.getElem?_map, List.getElem?_eq_getElem hj]; rfl)⟩
theorem map_cut (ms : List (Int × Int)) {n : Nat} (h : n ≤ ms.length) : cutA (ms.map msgD) none (some (n : Int)) = (ms.take n).map msgD := by
  rw [cutA_to _ (by rw [List.length_map]; exact h), List.map_take]
theorem map_cut2 (ms : List (Int × Int)) {n : Nat} (h : n ≤ ms.length) : cutA (ms.map msgD) (some (n : Int)) none = (ms.drop n).map msgD := by
  rw [cutA_from _ (by rw [List.length_map]; exact h), List.map_drop]
theorem short_bool (b : Bool) : (PyData.bool b).shown.length ≤ sizeLine := by cases b <;> decide
def forty (ms : List (Int × Int)) : List (Int × Int) := (List.replicate 40 ms).flatten
theorem forty_map (ms : List (Int × Int)) : (forty ms).map msgD = (List.replicate (40 : Int).toNat (ms.map msgD)).flatten := by
  unfold forty
  rw [List.map_flatten, List.map_replicate]
  rfl
theorem forty_len (ms : List (Int × Int)) : (forty ms).length = 40 * ms.length := by
  unfold forty
  rw [List.length_flatten, List.map_replicate, List.sum_replicate_nat]
/-- a value's new name -/
def renm (more v : Int) : Int := if decide ((if v < 0 then -v else v) < 10 ^ 30) = true then more - 3 * v else v
def rens (more : Int) (ms : List (Int × Int)) : List (Int × Int) := ms.map fun m => (m.1, renm more m.2)
theorem rens_len (more : Int) (ms : List (Int × Int)) : (rens more ms).length = ms.length := by simp [rens]
section
variable {P : Program} {w : World} {K : PySem.W.Frag} {mg : Str → Option Value} {base : Heap}
def sp_law (K : PySem.W.Frag) : Sp := fun vs H Q _ => ∃ (a : Addr) (ns : List Int), vs = [.ref a] ∧ SqL K H a (ns.map V.int) ∧ ns.length ≤ 63 ∧ ∀ H', Q (.bl true) H'

abbrev N_law : List Str := ["script", "pen", "turn", "option", "one", "due", "more", "names", "word", "value", "two", "message", "name", "other", "at", "changed", "alike"]
theorem sc_law : FnScope N_law ["script"] (defScope s_law) := ⟨rfl, rfl, rfl, by decide +kernel, rfl, by decide +kernel, by decide +kernel⟩

theorem ok_law {f f_law_pen f_law_fresh f_law_draw f_law_stream f_law_numbered f_numbered f_is_numbered f_are_alike : Addr} {fd fd_law_pen fd_law_fresh fd_law_draw fd_law_stream fd_law_numbered fd_numbered fd_is_numbered fd_are_alike : FuncData} (F : Fun K "law" "law" s_law f fd)
    (T : Txt K mg f_law_pen f_law_fresh f_law_draw f_law_stream f_law_numbered f_numbered f_is_numbered f_are_alike fd_law_pen fd_law_fresh fd_law_draw fd_law_stream fd_law_numbered fd_numbered fd_is_numbered fd_are_alike) : FnG P w K mg base CX0 4 f fd ["script"] (sp_law K) := by
  obtain ⟨F_law_pen, b_law_pen, g_law_pen, F_law_fresh, b_law_fresh, g_law_fresh, F_law_draw, b_law_draw, g_law_draw, F_law_stream, b_law_stream, g_law_stream, F_law_numbered, b_law_numbered, g_law_numbered, F_numbered, b_numbered, g_numbered, F_is_numbered, b_is_numbered, g_is_numbered, F_are_alike, b_are_alike, g_are_alike, m_list, m_len, m_range, m_tuple, m_repr, m_abs, m_zip, m_isinstance, m_bool⟩ := T
  have G_law_pen : FnG P w K mg base CX0 1 f_law_pen fd_law_pen ["script"] (sp_law_pen K) := ok_law_pen F_law_pen m_list
  have G_law_draw : FnG P w K mg base CX0 2 f_law_draw fd_law_draw ["pen", "many"] sp_law_draw := ok_law_draw F_law_draw F_law_fresh b_law_fresh g_law_fresh m_len m_range
  have G_law_stream : FnG P w K mg base CX0 3 f_law_stream fd_law_stream ["pen", "words", "most", "values"] sp_law_stream := ok_law_stream F_law_stream F_law_draw b_law_draw g_law_draw G_law_draw m_len m_range m_tuple
  have G_numbered : FnG P w K mg base CX0 1 f_numbered fd_numbered ["stream"] sp_numbered := ok_numbered F_numbered m_len m_tuple
  have G_law_numbered : FnG P w K mg base CX0 1 f_law_numbered fd_law_numbered ["stream"] sp_numbered := ok_law_numbered F_law_numbered m_tuple
  have G_is_numbered : FnG P w K mg base CX0 2 f_is_numbered fd_is_numbered ["stream"] sp_is_numbered := ok_is_numbered F_is_numbered F_numbered b_numbered g_numbered m_len m_tuple
  have G_are_alike : FnG P w K mg base CX0 2 f_are_alike fd_are_alike ["one", "two"] sp_are_alike := ok_are_alike F_are_alike F_numbered b_numbered g_numbered m_len m_tuple
  refine okG F sc_law (fun vs H Q E h => ?_) (fun cdv A outer s H vs Q E gd hr h => ?_)
  · obtain ⟨a, ns, rfl, _⟩ := h
    rfl
  · obtain ⟨a, ns, rfl, hS, hl, q⟩ := h
    refine ⟨_, 
      (pss_cons (ps_set (i := 1) sc_law.nd rfl (.inl rfl) (pe_callG G_law_pen gd (hr.mono (by decide)) rfl g_law_pen F_law_pen.kp b_law_pen .nil pass0 (pa_cons (pv 0) pa_nil))) -- pen = _law_pen(script)
      (pss_cons (ps_for PassesOwn.never rfl (pi_range1 rfl m_range (pa_cons pe_int pa_nil)) (pg_name (i := 2) sc_law.nd rfl (.inl rfl)) 
        (C8.pss_cut (ps_set (i := 3) sc_law.nd rfl (.inl rfl) (pe_callG G_law_draw gd (hr.mono (by decide)) rfl g_law_draw F_law_draw.kp b_law_draw .nil pass0 (pa_cons (pv 1) (pa_cons pe_int pa_nil)))) -- option = _law_draw(pen, 3)
        (C8.pss_cut (ps_set (i := 4) sc_law.nd rfl (.inl rfl) (pe_callG G_law_stream gd (hr.mono (by decide)) rfl g_law_stream F_law_stream.kp b_law_stream .nil pass0 (pa_cons (pv 1) (pa_cons pe_int (pa_cons (pe_ix ix_list (pe_lst (pa_cons pe_int (pa_cons pe_int (pa_cons pe_int pa_nil)))) (pv 3) (fun _ _ => rfl)) (pa_cons (pe_ix ix_list (pe_lst (pa_cons pe_int (pa_cons pe_int (pa_cons pe_int pa_nil)))) (pv 3) (fun _ _ => rfl)) pa_nil)))))) -- one = _law_stream(pen, 3, [12, 14, 60][option], [5, 14, 40][option])
        (C8.pss_cut (ps_set (i := 5) sc_law.nd rfl (.inl rfl) (pe_callG G_law_numbered gd (hr.mono (by decide)) rfl g_law_numbered F_law_numbered.kp b_law_numbered .nil pass0 (pa_cons (pv 4) pa_nil))) -- due = _law_numbered(one)
        (C8.pss_cut (ps_if (PW.pt (pw_or (pt_cmpR op_ne (pe_callB (call_reprD gd hr.units) (by rfl) m_repr (by decide +kernel) (pa_cons (pe_callG G_numbered gd (hr.mono (by decide)) rfl g_numbered F_numbered.kp b_numbered .nil pass0 (pa_cons (pv 4) pa_nil)) pa_nil)) (pe_callB (call_reprD gd hr.units) (by rfl) m_repr (by decide +kernel) (pa_cons (pv 5) pa_nil)) (nomark _)) (pw_or1 (pt_cmpR op_ne (pe_callB (call_reprD gd hr.units) (by rfl) m_repr (by decide +kernel) (pa_cons (pe_callG G_numbered gd (hr.mono (by decide)) rfl g_numbered F_numbered.kp b_numbered .nil pass0 (pa_cons (pv 5) pa_nil)) pa_nil)) (pe_callB (call_reprD gd hr.units) (by rfl) m_repr (by decide +kernel) (pa_cons (pv 5) pa_nil)) (nomark _))))) 
          (pss_one (ps_ret pe_bl)) -- return False
           pss_nil) -- if repr(numbered(one)) != repr(due) or repr(numbered(due)) != repr(due):
        (C8.pss_cut (ps_if (PW.pt (pw_or (pt_cmpR op_ne (pe_callB (call_reprD gd hr.units) (by rfl) m_repr (by decide +kernel) (pa_cons (pe_callG G_is_numbered gd (hr.mono (by decide)) rfl g_is_numbered F_is_numbered.kp b_is_numbered .nil pass0 (pa_cons (pv 4) pa_nil)) pa_nil)) (pe_callB (call_reprD gd hr.units) (by rfl) m_repr (by decide +kernel) (pa_cons (pe_cmpR (op_eqT hr.units) (pv 4) (pv 5) (nomark _)) pa_nil)) (nomark _)) (pw_or1 (pt_cmpR op_isnot_bl (pe_callG G_is_numbered gd (hr.mono (by decide)) rfl g_is_numbered F_is_numbered.kp b_is_numbered .nil pass0 (pa_cons (pv 5) pa_nil)) pe_bl (nomark _))))) 
          (pss_one (ps_ret pe_bl)) -- return False
           pss_nil) -- if repr(is_numbered(one)) != repr(one == due) or is_numbered(due) is not True:
        (C8.pss_cut (ps_if (PW.pt (pw_and (pt_cmpR op_eq (pv 2) pe_int (nomark _)) (pw_and1 (pt_cmpR (op_neT hr.units) (pe_callG G_numbered gd (hr.mono (by decide)) rfl g_numbered F_numbered.kp b_numbered .nil pass0 (pa_cons (pe_op op_mulD (pv 4) pe_int) pa_nil)) (pe_callG G_law_numbered gd (hr.mono (by decide)) rfl g_law_numbered F_law_numbered.kp b_law_numbered .nil pass0 (pa_cons (pe_op op_mulD (pv 4) pe_int) pa_nil)) (nomark _))))) 
          (pss_one (ps_ret pe_bl)) -- return False
           pss_nil) -- if turn == 0 and numbered(one * 40) != _law_numbered(one * 40):
        (C8.pss_cut (ps_set (i := 6) sc_law.nd rfl (.inr rfl) (pe_op op_sub (pe_callG G_law_draw gd (hr.mono (by decide)) rfl g_law_draw F_law_draw.kp b_law_draw .nil pass0 (pa_cons (pv 1) (pa_cons (pe_op op_pow pe_int pe_int) pa_nil))) (pe_op op_mul pe_int (pe_op op_pow pe_int pe_int)))) -- more = _law_draw(pen, 10 ** 20) - 5 * 10 ** 19
        (C8.pss_cut (ps_setLc (i := 7) (own := [("word", 8), ("value", 9)]) (g := gTup K 2 (gCons (gName 8) (gCons (gName 9) gNil))) rfl sc_law.nd rfl rfl (by rfl) (pi_tup (pv 4)) (blkOk_by (N := N_law) (sc := defScope s_law) (by decide +kernel)) (fun _ _ _ _ _ => (pg_tup rfl (pgs_cons (pg_name (i := 8) sc_law.nd rfl (.inl rfl)) (pgs_cons (pg_name (i := 9) sc_law.nd rfl (.inl rfl)) pgs_nil)))) (fun _ _ _ _ _ => pts_nil) (fun _ _ _ _ _ => (pe_ifExp (pt_cmpR op_lt (pe_callB call_abs (by rfl) m_abs (by decide +kernel) (pa_cons (pv 9) pa_nil)) (pe_op op_pow pe_int pe_int) (nomark _)) (pe_op op_sub (pv 6) (pe_op op_mul pe_int (pv 9))) (pv 9)))) -- names = [more - 3 * value if abs(value) < 10 ** 30 else value for word, value in one]
        (C8.pss_cut (ps_set (i := 10) sc_law.nd rfl (.inl rfl) (pe_callTy call_tuple_of (by rfl) m_tuple (by decide +kernel) (pa_cons (pe_lc (own := [("message", 11), ("name", 12)]) (g := gTup K 2 (gCons (gName 11) (gCons (gName 12) gNil))) rfl sc_law.nd (pi_zipM (by rfl) m_zip (pa_cons (pv 4) (pa_cons (pv 7) pa_nil))) (blkOk_by (N := N_law) (sc := defScope s_law) (by decide +kernel)) (fun _ _ _ _ _ => (pg_tup rfl (pgs_cons (pg_name (i := 11) sc_law.nd rfl (.inl rfl)) (pgs_cons (pg_name (i := 12) sc_law.nd rfl (.inl rfl)) pgs_nil)))) (fun _ _ _ _ _ => pts_nil) (fun _ _ _ _ _ => (pe_tup (pa_cons (pe_ix (r := rIxT K) ix_tup (pv 11) pe_int (fun _ _ => rfl)) (pa_cons (pv 12) pa_nil))))) pa_nil))) -- two = tuple([(message[0], name) for message, name in zip(one, names)])
        (C8.pss_cut (ps_if (PW.pt (pw_or (pt_cmpR (op_neT hr.units) (pe_callG G_numbered gd (hr.mono (by decide)) rfl g_numbered F_numbered.kp b_numbered .nil pass0 (pa_cons (pv 10) pa_nil)) (pe_callG G_law_numbered gd (hr.mono (by decide)) rfl g_law_numbered F_law_numbered.kp b_law_numbered .nil pass0 (pa_cons (pv 10) pa_nil)) (nomark _)) (pw_or1 (pt_cmpR op_ne (pe_callG G_are_alike gd (hr.mono (by decide)) rfl g_are_alike F_are_alike.kp b_are_alike .nil pass0 (pa_cons (pv 4) (pa_cons (pv 10) pa_nil))) (pe_cmpR (op_eqT hr.units) (pe_callG G_law_numbered gd (hr.mono (by decide)) rfl g_law_numbered F_law_numbered.kp b_law_numbered .nil pass0 (pa_cons (pv 10) pa_nil)) (pv 5) (nomark _)) (nomark _))))) 
          (pss_one (ps_ret pe_bl)) -- return False
           pss_nil) -- if numbered(two) != _law_numbered(two) or are_alike(one, two) != (_law_numbered(two) == due):
        (C8.pss_cut (ps_set (i := 13) sc_law.nd rfl (.inl rfl) (pe_callG G_law_stream gd (hr.mono (by decide)) rfl g_law_stream F_law_stream.kp b_law_stream .nil pass0 (pa_cons (pv 1) (pa_cons pe_int (pa_cons pe_int (pa_cons pe_int pa_nil)))))) -- other = _law_stream(pen, 3, 4, 3)
        (C8.pss_cut (ps_if (PW.pt (pw_and (pt_cmpR (op_neT hr.units) (pv 10) (pe_tup pa_nil) (nomark _)) (pw_and1 (pt_cmpR op_eq (pe_callG G_law_draw gd (hr.mono (by decide)) rfl g_law_draw F_law_draw.kp b_law_draw .nil pass0 (pa_cons (pv 1) (pa_cons pe_int pa_nil))) pe_int (nomark _))))) 
          (pss_cons (ps_set (i := 14) sc_law.nd rfl (.inl rfl) (pe_callG G_law_draw gd (hr.mono (by decide)) rfl g_law_draw F_law_draw.kp b_law_draw .nil pass0 (pa_cons (pv 1) (pa_cons (pe_callB call_len_seq (by rfl) m_len PySem.boot_len (pa_cons (pv 10) pa_nil)) pa_nil)))) -- at = _law_draw(pen, len(two))
          (pss_cons (ps_set (i := 15) sc_law.nd rfl (.inl rfl) (pe_tup (pa_cons (pe_callG G_law_draw gd (hr.mono (by decide)) rfl g_law_draw F_law_draw.kp b_law_draw .nil pass0 (pa_cons (pv 1) (pa_cons pe_int pa_nil))) (pa_cons (pe_ix ix_tup (pe_ix ix_tup (pv 10) (pe_callG G_law_draw gd (hr.mono (by decide)) rfl g_law_draw F_law_draw.kp b_law_draw .nil pass0 (pa_cons (pv 1) (pa_cons (pe_callB call_len_seq (by rfl) m_len PySem.boot_len (pa_cons (pv 10) pa_nil)) pa_nil))) (fun _ _ => rfl)) pe_int (fun _ _ => rfl)) pa_nil)))) -- changed = (_law_draw(pen, 3), two[_law_draw(pen, len(two))][1])
          (pss_one (ps_set (i := 13) sc_law.nd rfl (.inl rfl) (pe_op op_catD (pe_op op_catD (pe_slice sl_D (pv 10) po_none (po_some (pv 14))) (pe_tup (pa_cons (pv 15) pa_nil))) (pe_slice sl_D (pv 10) (po_some (pe_op op_add (pv 14) pe_int)) po_none)))) -- other = two[:at] + (changed,) + two[at + 1:]
          )) pss_nil) -- if two != () and _law_draw(pen, 2) == 0:
        (C8.pss_cut (ps_set (i := 16) sc_law.nd rfl (.inl rfl) (pe_callG G_are_alike gd (hr.mono (by decide)) rfl g_are_alike F_are_alike.kp b_are_alike .nil pass0 (pa_cons (pv 4) (pa_cons (pv 13) pa_nil)))) -- alike = are_alike(one, other)
        (pss_one (ps_if (PW.pt (pw_or (pt_not (pt_val (pe_callB call_isi (by rfl) m_isinstance (by decide +kernel) (pa_cons (pv 16) (pa_cons (pe_bltn (v := .ty "bool") (by rfl) m_bool (by decide +kernel) (show RelV (.ty "bool") (.type "bool") from rfl)) pa_nil))))) (pw_or (pt_cmpR op_ne (pv 16) (pe_cmpR (op_eqT hr.units) (pe_callG G_law_numbered gd (hr.mono (by decide)) rfl g_law_numbered F_law_numbered.kp b_law_numbered .nil pass0 (pa_cons (pv 13) pa_nil)) (pv 5) (nomark _)) (nomark _)) (pw_or1 (pt_cmpR op_ne (pe_callG G_are_alike gd (hr.mono (by decide)) rfl g_are_alike F_are_alike.kp b_are_alike .nil pass0 (pa_cons (pv 13) (pa_cons (pv 4) pa_nil))) (pv 16) (nomark _)))))) 
          (pss_one (ps_ret pe_bl)) -- return False
           pss_nil)) -- if not isinstance(alike, bool) or alike != (_law_numbered(other) == due) or are_alike(other, one) != alike:
        )))))))))))))) -- for turn in range(8):
      (pss_one (ps_ret pe_bl)) -- return True
      )) , ?_⟩
    refine ⟨.ref a, rfl, a, ns, rfl, hS, hl, fun p c H1 s1 np nc hP => ?_⟩
    refine ⟨8, rfl, by decide, by decide, ?_⟩
    refine for_range (n := 8) (fun _ σ H' => ∃ x2 x3 x4 x5 x6 x7 x8 x9 x10 x11 x12 x13 x14 x15 x16 : Option V, σ = [some (.ref a), some (.ref p), x2, x3, x4, x5, x6, x7, x8, x9, x10, x11, x12, x13, x14, x15, x16] ∧ Pen H' p c) ?_ ?_ ?_
    · exact ⟨_, _, _, _, _, _, _, _, _, _, _, _, _, _, _, rfl, hP⟩
    · rintro i σ H2 hi ⟨x2, x3, x4, x5, x6, x7, x8, x9, x10, x11, x12, x13, x14, x15, x16, rfl, hP⟩
      -- option
      refine ⟨fun σ H' => ∃ o : Int, σ = [some (.ref a), some (.ref p), some (.int (0 + (i : Int))), some (.int o), x4, x5, x6, x7, x8, x9, x10, x11, x12, x13, x14, x15, x16] ∧ 0 ≤ o ∧ o < 3 ∧ Pen H' p c, ?_, ?_⟩
      · exact ⟨.ref p, rfl, p, c, 3, rfl, hP, by decide, by decide, fun d H3 a0 a1 kp hP3 => ⟨d, rfl, a0, a1, hP3⟩⟩
      rintro σ H3 ⟨o, rfl, o0, o1, hP⟩
      -- one
      refine ⟨fun σ H' => ∃ (t1 : Addr) (m1 : List (Int × Int)), σ = [some (.ref a), some (.ref p), some (.int (0 + (i : Int))), some (.int o), some (.ref t1), x5, x6, x7, x8, x9, x10, x11, x12, x13, x14, x15, x16] ∧ Pen H' p c ∧ TD H' (.ref t1) (strmD m1) ∧ m1.length ≤ 60 ∧ Short m1, ?_, ?_⟩
      · obtain ⟨n1, hn1, e1⟩ := atI_ints (ns := [12, 14, 60]) o0 o1
        obtain ⟨n2, hn2, e2⟩ := atI_ints (ns := [5, 14, 40]) o0 o1
        simp only [List.mem_cons, List.not_mem_nil, or_false] at hn1 hn2
        refine ⟨.ref p, rfl, by show 3 ≤ sizeLine; decide, fun l nl => ?_⟩
        refine ⟨.int o, rfl, l, _, o, .int n1, rfl, rfl, SqL.of upd_same, e1, by show 3 ≤ sizeLine; decide, fun l2 nl2 => ?_⟩
        refine ⟨.int o, rfl, l2, _, o, .int n2, rfl, rfl, SqL.of upd_same, e2, p, c, 3, n1, n2, rfl, (hP.mono (same_new nl)).mono (same_new nl2), by decide, by decide, by omega, by omega, by omega, by omega, fun t ms H5 kp5 tp5 hP5 hT hlen hms => ?_⟩
        refine ⟨t, ms, rfl, hP5, hT, by omega, fun m hm => ?_⟩
        have := hms m hm
        omega
      rintro σ H4 ⟨t1, m1, rfl, hP, h1, l1, sh1⟩
      have l1n : (numb m1).length ≤ 60 := by rw [numb_len]; exact l1
      -- due
      refine ⟨fun σ H' => ∃ t2 : Addr, σ = [some (.ref a), some (.ref p), some (.int (0 + (i : Int))), some (.int o), some (.ref t1), some (.ref t2), x6, x7, x8, x9, x10, x11, x12, x13, x14, x15, x16] ∧ Same H4 H' ∧ TD H' (.ref t2) (strmD (numb m1)), ?_, ?_⟩
      · exact ⟨.ref t1, rfl, .ref t1, m1, rfl, h1, by omega, fun t2 H5 s5 h2 => ⟨t2, rfl, s5, h2⟩⟩
      rintro σ H5 ⟨t2, rfl, s5, h2⟩
      replace hP := hP.mono s5
      replace h1 := TD.mono (Tups.same s5) _ h1
      have n2 := nice_strm (k := 60) (numb_short sh1 (by omega)) l1n
      -- repr
      refine ⟨fun σ H' => σ = [some (.ref a), some (.ref p), some (.int (0 + (i : Int))), some (.int o), some (.ref t1), some (.ref t2), x6, x7, x8, x9, x10, x11, x12, x13, x14, x15, x16] ∧ Same H5 H', ?_, ?_⟩
      · refine ⟨.ref t1, rfl, .ref t1, m1, rfl, h1, by omega, fun u1 H6 s6 g1 => ?_⟩
        refine ⟨.ref u1, _, rfl, g1.dp _, n2.sho, n2.nod, Nat.le_trans n2.dep (by decide), Nat.le_trans n2.len (by decide), .ref t2, rfl, .ref t2, _, rfl, TD.dp _ (TD.mono (Tups.same s6) _ h2), n2.sho, n2.nod, Nat.le_trans n2.dep (by decide), Nat.le_trans n2.len (by decide), rfl, _, rfl, ?_⟩
        refine iteNS rfl ?_
        refine ⟨.ref t2, rfl, .ref t2, numb m1, rfl, TD.mono (Tups.same s6) _ h2, by omega, fun u2 H7 s7 g2 => ?_⟩
        rw [numb_idem] at g2
        refine ⟨.ref u2, _, rfl, g2.dp _, n2.sho, n2.nod, Nat.le_trans n2.dep (by decide), Nat.le_trans n2.len (by decide), .ref t2, rfl, .ref t2, _, rfl, TD.dp _ (TD.mono (Tups.same (s6.trans s7)) _ h2), n2.sho, n2.nod, Nat.le_trans n2.dep (by decide), Nat.le_trans n2.len (by decide), rfl, _, rfl, ?_⟩
        refine iteNS rfl ?_
        exact ⟨rfl, s6.trans s7⟩
      rintro σ H6 ⟨rfl, s6⟩
      replace hP := hP.mono s6
      replace h1 := TD.mono (Tups.same s6) _ h1
      replace h2 := TD.mono (Tups.same s6) _ h2
      -- is_numbered
      refine ⟨fun σ H' => σ = [some (.ref a), some (.ref p), some (.int (0 + (i : Int))), some (.int o), some (.ref t1), some (.ref t2), x6, x7, x8, x9, x10, x11, x12, x13, x14, x15, x16] ∧ Same H6 H', ?_, ?_⟩
      · refine ⟨.ref t1, rfl, .ref t1, m1, rfl, h1, by omega, fun H7 s7 => ?_⟩
        refine ⟨_, .bool (decide (m1 = numb m1)), rfl, .bl _, rfl, rfl, Nat.zero_le _, short_bool _, .ref t1, rfl, .ref t2, rfl, _, _, TD.mono (Tups.same s7) _ h1, TD.mono (Tups.same s7) _ h2, shaped_strm _, shaped_strm _, ?_⟩
        rw [eqv_strm]
        refine ⟨_, .bool (decide (m1 = numb m1)), rfl, .bl _, rfl, rfl, Nat.zero_le _, short_bool _, rfl, _, rfl, ?_⟩
        refine iteNS rfl ?_
        refine ⟨.ref t2, rfl, .ref t2, numb m1, rfl, TD.mono (Tups.same s7) _ h2, by omega, fun H8 s8 => ?_⟩
        rw [decide_eq_true (numb_idem m1).symm]
        exact ⟨true, true, rfl, rfl, _, rfl, rfl, s7.trans s8⟩
      rintro σ H7 ⟨rfl, s7⟩
      replace hP := hP.mono s7
      replace h1 := TD.mono (Tups.same s7) _ h1
      replace h2 := TD.mono (Tups.same s7) _ h2
      -- forty times
      refine ⟨fun σ H' => σ = [some (.ref a), some (.ref p), some (.int (0 + (i : Int))), some (.int o), some (.ref t1), some (.ref t2), x6, x7, x8, x9, x10, x11, x12, x13, x14, x15, x16] ∧ Same H7 H', ?_, ?_⟩
      · refine ⟨.int (0 + (i : Int)), rfl, rfl, _, rfl, ite2 (fun h0 => ?_) (fun h0 => ?_)⟩
        · refine ⟨.ref t1, rfl, m1.map msgD, 40, h1, rfl, by decide, by decide, by rw [List.length_map]; omega, fun u1 H8 s8 g1 => ?_⟩
          rw [← forty_map] at g1
          have l40 : (forty m1).length ≤ 5000 := by
            have := forty_len m1
            omega
          refine ⟨.ref u1, forty m1, rfl, g1, l40, fun u2 H9 s9 g2 => ?_⟩
          refine ⟨.ref t1, rfl, m1.map msgD, 40, TD.mono (Tups.same (s8.trans s9)) _ h1, rfl, by decide, by decide, by rw [List.length_map]; omega, fun u3 H10 s10 g3 => ?_⟩
          rw [← forty_map] at g3
          refine ⟨.ref u3, forty m1, rfl, g3, l40, fun u4 H11 s11 g4 => ?_⟩
          refine ⟨_, _, TD.mono (Tups.same (s10.trans s11)) _ g2, g4, shaped_strm _, shaped_strm _, _, rfl, ?_⟩
          rw [eqv_strm, decide_eq_true rfl]
          exact ⟨rfl, ((s8.trans s9).trans s10).trans s11⟩
        · exact ⟨rfl, Same.refl _⟩
      rintro σ H8 ⟨rfl, s8⟩
      replace hP := hP.mono s8
      replace h1 := TD.mono (Tups.same s8) _ h1
      replace h2 := TD.mono (Tups.same s8) _ h2
      -- more
      refine ⟨fun σ H' => ∃ more : Int, σ = [some (.ref a), some (.ref p), some (.int (0 + (i : Int))), some (.int o), some (.ref t1), some (.ref t2), some (.int more), x7, x8, x9, x10, x11, x12, x13, x14, x15, x16] ∧ Pen H' p c ∧ Tups H8 H', ?_, ?_⟩
      · refine ⟨.ref p, rfl, 10, 20, rfl, rfl, ⟨by decide, by decide, by decide⟩, p, c, 10 ^ 20, rfl, hP, by decide, by decide, fun d H9 a0 a1 kp hP9 => ?_⟩
        refine ⟨10, 19, rfl, rfl, ⟨by decide, by decide, by decide⟩, 5, _, rfl, rfl, .inl ⟨by decide, by decide⟩, _, _, rfl, rfl, ?_⟩
        exact ⟨_, rfl, hP9, hP.tups kp⟩
      rintro σ H9 ⟨more, rfl, hP, tp9⟩
      replace h1 := TD.mono tp9 _ h1
      replace h2 := TD.mono tp9 _ h2

      -- names
      refine ⟨fun σ H' => ∃ l : Addr, σ = [some (.ref a), some (.ref p), some (.int (0 + (i : Int))), some (.int o), some (.ref t1), some (.ref t2), some (.int more), some (.ref l), x8, x9, x10, x11, x12, x13, x14, x15, x16] ∧ Pen H' p c ∧ Tups H9 H' ∧ H' l = some (.lst (m1.map fun m => V.int (renm more m.2))), ?_, ?_⟩
      · obtain ⟨_, xs, e0, ht, hx⟩ := id h1.isTup
        cases e0
        refine ⟨.ref t1, rfl, t1, rfl, ⟨_, SqT.of ht⟩, fun D nD => ?_⟩
        refine lc_tup (K := K) (a := t1) (xs := xs) (fun i H' => Same H9 H' ∧ H' D = some (.lst ((m1.take i).map fun m => V.int (renm more m.2)))) ?_ ?_ ?_ ?_
        · exact ⟨same_new nD, upd_same⟩
        · rintro i H' hi ⟨sm, hD⟩
          exact SqT.of (sm _ _ ht)
        · rintro i x H' hi ⟨sm, hD⟩
          obtain ⟨m, ar, em, rfl, har⟩ := hx.msg hi
          refine ⟨ar, [.int m.1, .int m.2], rfl, SqT.of (sm _ _ har), rfl, .int m.1, [.int m.2], rfl, .int m.2, [], rfl, rfl, rfl, ?_⟩
          have fin : ∀ y : Int, y = renm more m.2 → ∃ acc, H' D = some (HO.lst acc) ∧ acc.length < sizeLine ∧ Same H9 (upd H' D (HO.lst (acc ++ [V.int y]))) ∧ upd H' D (HO.lst (acc ++ [V.int y])) D = some (HO.lst ((m1.take (i + 1)).map fun m => V.int (renm more m.2))) := by
            rintro y rfl
            refine ⟨_, hD, by rw [List.length_map, List.length_take]; exact small1000 (by omega), fun b o e => ?_, ?_⟩
            · have : b ≠ D := ne_of_none e nD
              rw [upd_ne this]
              exact sm _ _ e
            · rw [upd_same, List.take_add_one, em, List.map_append]
              rfl
          refine ⟨.int m.2, rfl, m.2, rfl, 10, 30, rfl, rfl, ⟨by decide, by decide, by decide⟩, _, _, rfl, rfl, _, rfl, ite2 (fun hs => ?_) (fun hs => ?_)⟩
          · refine ⟨.int more, rfl, .int m.2, rfl, 3, m.2, rfl, rfl, .inl ⟨by decide, by decide⟩, _, _, rfl, rfl, fin _ ?_⟩
            exact (if_pos hs).symm
          · refine ⟨.int m.2, rfl, fin _ ?_⟩
            exact (if_neg hs).symm
        · rintro H' ⟨sm, hD⟩
          rw [hx.msgs_len, List.take_length] at hD
          exact ⟨D, rfl, hP.mono sm, Tups.same sm, hD⟩
      rintro σ H10 ⟨l, rfl, hP, tp10, hl10⟩
      replace h1 := TD.mono tp10 _ h1
      replace h2 := TD.mono tp10 _ h2
      -- two
      refine ⟨fun σ H' => ∃ t3 : Addr, σ = [some (.ref a), some (.ref p), some (.int (0 + (i : Int))), some (.int o), some (.ref t1), some (.ref t2), some (.int more), some (.ref l), x8, x9, some (.ref t3), x11, x12, x13, x14, x15, x16] ∧ Pen H' p c ∧ Tups H10 H' ∧ TD H' (.ref t3) (strmD (rens more m1)), ?_, ?_⟩
      · obtain ⟨_, xs, e0, ht, hx⟩ := id h1.isTup
        cases e0
        have lx := hx.msgs_len
        refine ⟨.ref t1, rfl, .ref l, rfl, t1, l, xs, _, rfl, SqT.of ht, SqL.of hl10, fun D nD => ?_⟩
        have nl : l ≠ D := ne_of_none hl10 nD
        refine lc_zipM (K := K) (a := t1) (b := l) (xs := xs) (lx.trans (List.length_map (f := fun m : Int × Int => V.int (renm more m.2))).symm) (fun i H' => ∃ vs, Same H10 H' ∧ H' D = some (.lst vs) ∧ TDs H' vs ((rens more (m1.take i)).map msgD)) ?_ ?_ ?_ ?_
        · exact ⟨[], same_new nD, upd_same, .nil⟩
        · rintro i H' ⟨vs, sm, hD, hv⟩
          exact ⟨SqT.of (sm _ _ ht), SqL.of (sm _ _ hl10)⟩
        · rintro i x y T H' hi hy ⟨vs, sm, hD, hv⟩ nT
          obtain ⟨m, ar, em, rfl, har⟩ := hx.msg hi
          rw [List.getElem?_map, em] at hy
          cases hy
          have sT : Same H' (upd H' T (.tup [.ref ar, .int (renm more m.2)])) := same_new nT
          have har' := sT _ _ (sm _ _ har)
          refine ⟨T, [.ref ar, .int (renm more m.2)], rfl, SqT.of upd_same, rfl, .ref ar, [.int (renm more m.2)], rfl, .int (renm more m.2), [], rfl, rfl, rfl, ?_⟩
          refine ⟨.ref ar, rfl, ar, _, 0, .int m.1, rfl, rfl, SqT.of har', rfl, .int (renm more m.2), rfl, by show 2 ≤ sizeLine; decide, fun U nU => ?_⟩
          have lv : vs.length ≤ 60 := by
            rw [hv.msgs_len, rens_len, List.length_take]
            omega
          have sU : Same (upd H' T (.tup [.ref ar, .int (renm more m.2)])) (upd (upd H' T (.tup [.ref ar, .int (renm more m.2)])) U (.tup [.int m.1, .int (renm more m.2)])) := same_new nU
          have s2 := sT.trans sU
          have hD2 := s2 _ _ hD
          have hU : (upd (upd H' T (.tup [.ref ar, .int (renm more m.2)])) U (.tup [.int m.1, .int (renm more m.2)])) U = some (.tup [.int m.1, .int (renm more m.2)]) := upd_same
          generalize upd (upd H' T (.tup [.ref ar, .int (renm more m.2)])) U (.tup [.int m.1, .int (renm more m.2)]) = H2' at s2 hD2 hU ⊢
          have tl : Tups H2' (upd H2' D (.lst (vs ++ [.ref U]))) := Tups.lst (l := vs) hD2
          refine ⟨vs, hD2, small1000 (by omega), vs ++ [.ref U], fun b ob e => ?_, upd_same, ?_⟩
          · have : b ≠ D := ne_of_none e nD
            rw [upd_ne this]
            exact s2 _ _ (sm _ _ e)
          · have en : rens more (m1.take (i + 1)) = rens more (m1.take i) ++ [(m.1, renm more m.2)] := by
              unfold rens
              rw [List.take_add_one, em, List.map_append]
              rfl
            rw [en, List.map_append]
            exact ((hv.mono (Tups.same s2)).mono tl).app (.cons (TD.mono tl _ (TD.ofPair hU)) .nil)
        · rintro H' ⟨vs, sm, hD, hv⟩
          rw [lx, List.take_length] at hv
          refine ⟨D, vs, rfl, .inl ⟨SqL.of hD, fun t' nt => ?_⟩⟩
          exact ⟨t', rfl, (hP.mono sm).mono (same_new nt), (Tups.same sm).trans (Tups.new nt), .tup upd_same (hv.mono (Tups.new nt))⟩
      rintro σ H11 ⟨t3, rfl, hP, tp11, h3⟩
      replace h1 := TD.mono tp11 _ h1
      replace h2 := TD.mono tp11 _ h2
      have l3 : (rens more m1).length ≤ 60 := by rw [rens_len]; exact l1
      generalize rens more m1 = m3 at h3 l3
      -- numbered(two), are_alike(one, two)
      refine ⟨fun σ H' => σ = [some (.ref a), some (.ref p), some (.int (0 + (i : Int))), some (.int o), some (.ref t1), some (.ref t2), some (.int more), some (.ref l), x8, x9, some (.ref t3), x11, x12, x13, x14, x15, x16] ∧ Same H11 H', ?_, ?_⟩
      · refine ⟨.ref t3, rfl, .ref t3, m3, rfl, h3, by omega, fun u1 H12 s12 g1 => ?_⟩
        refine ⟨.ref t3, rfl, .ref t3, m3, rfl, TD.mono (Tups.same s12) _ h3, by omega, fun u2 H13 s13 g2 => ?_⟩
        refine ⟨_, _, TD.mono (Tups.same s13) _ g1, g2, shaped_strm _, shaped_strm _, _, rfl, ?_⟩
        rw [eqv_strm, decide_eq_true rfl]
        have sa := s12.trans s13
        refine ⟨.ref t1, rfl, .ref t3, rfl, .ref t1, .ref t3, m1, m3, rfl, TD.mono (Tups.same sa) _ h1, TD.mono (Tups.same sa) _ h3, by omega, by omega, fun H14 s14 => ?_⟩
        refine ⟨.ref t3, rfl, .ref t3, m3, rfl, TD.mono (Tups.same (sa.trans s14)) _ h3, by omega, fun u4 H15 s15 g4 => ?_⟩
        have sb := (sa.trans s14).trans s15
        refine ⟨.ref t2, rfl, _, _, g4, TD.mono (Tups.same sb) _ h2, shaped_strm _, shaped_strm _, ?_⟩
        rw [eqv_strm]
        refine ⟨rfl, _, rfl, ?_⟩
        refine iteNS ?_ ?_
        · exact congrArg V.bl (decide_eq_decide.mpr ⟨Eq.symm, Eq.symm⟩)
        exact ⟨rfl, sb⟩
      rintro σ H12 ⟨rfl, s12⟩
      replace hP := hP.mono s12
      replace h1 := TD.mono (Tups.same s12) _ h1
      replace h2 := TD.mono (Tups.same s12) _ h2
      replace h3 := TD.mono (Tups.same s12) _ h3
      -- other
      refine ⟨fun σ H' => ∃ (t4 : Addr) (m4 : List (Int × Int)), σ = [some (.ref a), some (.ref p), some (.int (0 + (i : Int))), some (.int o), some (.ref t1), some (.ref t2), some (.int more), some (.ref l), x8, x9, some (.ref t3), x11, x12, some (.ref t4), x14, x15, x16] ∧ Pen H' p c ∧ Tups H12 H' ∧ TD H' (.ref t4) (strmD m4) ∧ m4.length ≤ 60, ?_, ?_⟩
      · refine ⟨.ref p, rfl, p, c, 3, 4, 3, rfl, hP, by decide, by decide, by decide, by decide, by decide, by decide, fun t ms H13 kp tp hP13 hT hlen hms => ?_⟩
        exact ⟨t, ms, rfl, hP13, tp, hT, by omega⟩
      rintro σ H13 ⟨t4, m4, rfl, hP, tp13, h4, l4⟩
      replace h1 := TD.mono tp13 _ h1
      replace h2 := TD.mono tp13 _ h2
      replace h3 := TD.mono tp13 _ h3
      -- if two != () and draw == 0
      refine ⟨fun σ H' => ∃ (t5 : Addr) (m5 : List (Int × Int)) (y14 y15 : Option V), σ = [some (.ref a), some (.ref p), some (.int (0 + (i : Int))), some (.int o), some (.ref t1), some (.ref t2), some (.int more), some (.ref l), x8, x9, some (.ref t3), x11, x12, some (.ref t5), y14, y15, x16] ∧ Pen H' p c ∧ Tups H13 H' ∧ TD H' (.ref t5) (strmD m5) ∧ m5.length ≤ 61, ?_, ?_⟩
      · refine ⟨.ref t3, rfl, by show 0 ≤ sizeLine; decide, fun e ne => ?_⟩
        have sE : Same H13 (upd H13 e (.tup [])) := same_new ne
        refine ⟨strmD m3, strmD [], TD.mono (Tups.same sE) _ h3, .tup upd_same .nil, shaped_strm _, shaped_strm _, _, rfl, ?_⟩
        rw [eqv_strm]
        replace hP := hP.mono sE
        replace h3 := TD.mono (Tups.same sE) _ h3
        replace h4 := TD.mono (Tups.same sE) _ h4
        have tE := Tups.same sE
        generalize upd H13 e (.tup []) = H14 at hP h3 h4 tE
        by_cases hm : m3 = []
        · rw [decide_eq_true hm]
          exact ⟨t4, m4, x14, x15, rfl, hP, tE, h4, by omega⟩
        rw [decide_eq_false hm]
        have l3' : 0 < m3.length := List.length_pos_iff.mpr hm
        refine ⟨.ref p, rfl, p, c, 2, rfl, hP, by decide, by decide, fun d H15 a0 a1 kp hP15 => ?_⟩
        replace h3 := TD.mono (hP.tups kp) _ h3
        replace h4 := TD.mono (hP.tups kp) _ h4
        replace tE := tE.trans (hP.tups kp)
        refine ⟨rfl, _, rfl, ite2 (fun h0 => ?_) (fun h0 => ⟨t4, m4, x14, x15, rfl, hP15, tE, h4, by omega⟩)⟩
        obtain ⟨_, xs, e0, ht, hx⟩ := id h3.isTup
        cases e0
        have lx := hx.msgs_len
        refine ⟨.ref p, rfl, .ref t3, rfl, t3, xs, rfl, .inr (SqT.of ht), p, c, _, rfl, hP15, by rw [lx]; omega, by rw [lx]; omega, fun at_ H16 b0 b1 kp16 hP16 => ?_⟩
        rw [lx] at b1
        obtain ⟨n, rfl⟩ : ∃ n : Nat, at_ = n := ⟨at_.toNat, by omega⟩
        have tp16 := hP15.tups kp16
        refine ⟨.ref p, rfl, p, c, 3, rfl, hP16, by decide, by decide, fun wd H17 c0 c1 kp17 hP17 => ?_⟩
        have tp17 := tp16.trans (hP16.tups kp17)
        refine ⟨.ref t3, rfl, .ref p, rfl, .ref t3, rfl, t3, xs, rfl, .inr (SqT.of (tp17 _ _ ht)), p, c, _, rfl, hP17, by rw [lx]; omega, by rw [lx]; omega, fun k H18 d0 d1 kp18 hP18 => ?_⟩
        rw [lx] at d1
        obtain ⟨k, rfl⟩ : ∃ n : Nat, k = n := ⟨k.toNat, by omega⟩
        have tp18 := tp17.trans (hP17.tups kp18)
        have hk : xs[k]? = some xs[k] := List.getElem?_eq_getElem (by omega)
        obtain ⟨m, ar, em, ear, har⟩ := hx.msg hk
        refine ⟨t3, xs, k, .ref ar, rfl, rfl, SqT.of (tp18 _ _ ht), atI_nat (by rw [hk, ear]), ar, _, 1, .int m.2, rfl, rfl, SqT.of (tp18 _ _ har), rfl, by show 2 ≤ sizeLine; decide, fun U nU => ?_⟩
        have sU : Same H18 (upd H18 U (.tup [.int wd, .int m.2])) := same_new nU
        have gU : TD (upd H18 U (.tup [.int wd, .int m.2])) (.ref U) (msgD (wd, m.2)) := TD.ofPair upd_same
        replace hP18 := hP18.mono sU
        have tpU := tp18.trans (Tups.same sU)
        replace h3 := TD.mono tpU _ h3
        generalize upd H18 U (.tup [.int wd, .int m.2]) = H19 at gU hP18 tpU h3
        refine ⟨.ref t3, rfl, .int n, rfl, n, rfl, m3.map msgD, h3, fun v1 H20 s20 g1 => ?_⟩
        rw [map_cut _ (by omega)] at g1
        refine ⟨.ref U, rfl, by show 1 ≤ sizeLine; decide, fun v2 n2 => ?_⟩
        have s21 : Same H20 (upd H20 v2 (.tup [.ref U])) := same_new n2
        have g2 : TD (upd H20 v2 (.tup [.ref U])) (.ref v2) (.tuple [msgD (wd, m.2)]) := .tup upd_same (.cons (TD.mono (Tups.same (s20.trans s21)) _ gU) .nil)
        refine ⟨(m3.take n).map msgD, [msgD (wd, m.2)], TD.mono (Tups.same s21) _ g1, g2, by rw [List.length_map, List.length_take]; show _ + 1 ≤ _; omega, fun v3 H22 s22 g3 => ?_⟩
        have sa := (s20.trans s21).trans s22
        refine ⟨.ref t3, rfl, .int n, rfl, n, 1, rfl, rfl, ((n : Int) + 1), rfl, m3.map msgD, TD.mono (Tups.same sa) _ h3, fun v4 H23 s23 g4 => ?_⟩
        rw [show ((n : Int) + 1) = ((n + 1 : Nat) : Int) by omega, map_cut2 _ (by omega)] at g4
        have ez : (m3.take n).map msgD ++ [msgD (wd, m.2)] = (m3.take n ++ [(wd, m.2)]).map msgD := by rw [List.map_append]; rfl
        rw [ez] at g3
        have lz : (m3.take n ++ [(wd, m.2)]).length ≤ n + 1 := by rw [List.length_append, List.length_take]; show _ + 1 ≤ _; omega
        have ly : (m3.drop (n + 1)).length = m3.length - (n + 1) := List.length_drop
        refine ⟨_, _, TD.mono (Tups.same s23) _ g3, g4, by rw [List.length_map, List.length_map]; omega, fun v5 H24 s24 g5 => ?_⟩
        have sb := (sa.trans s23).trans s24
        rw [← List.map_append] at g5
        exact ⟨v5, _, _, _, rfl, hP18.mono sb, (tE.trans tpU).trans (Tups.same sb), g5, by rw [List.length_append]; omega⟩
      rintro σ H14 ⟨t5, m5, y14, y15, rfl, hP, tp14, h5, l5⟩
      replace h1 := TD.mono tp14 _ h1
      replace h2 := TD.mono tp14 _ h2
      -- alike
      refine ⟨fun σ H' => σ = [some (.ref a), some (.ref p), some (.int (0 + (i : Int))), some (.int o), some (.ref t1), some (.ref t2), some (.int more), some (.ref l), x8, x9, some (.ref t3), x11, x12, some (.ref t5), y14, y15, some (.bl (decide (numb m1 = numb m5)))] ∧ Same H14 H', ?_, ?_⟩
      · exact ⟨.ref t1, rfl, .ref t5, rfl, .ref t1, .ref t5, m1, m5, rfl, h1, h5, by omega, by omega, fun H15 s15 => ⟨rfl, s15⟩⟩
      rintro σ H15 ⟨rfl, s15⟩
      replace hP := hP.mono s15
      replace h1 := TD.mono (Tups.same s15) _ h1
      replace h2 := TD.mono (Tups.same s15) _ h2
      replace h5 := TD.mono (Tups.same s15) _ h5
      refine ⟨.bl (decide (numb m1 = numb m5)), rfl, .bl (decide (numb m1 = numb m5)), .ty "bool", .type "bool", .type "bool", true, rfl, .ty "bool", .base (.bl _), if_pos (beq_self_eq_true _), _, rfl, ?_⟩
      refine ⟨.bl (decide (numb m1 = numb m5)), rfl, .ref t5, rfl, .ref t5, m5, rfl, h5, by omega, fun u1 H16 s16 g1 => ?_⟩
      refine ⟨.ref t2, rfl, _, _, g1, TD.mono (Tups.same s16) _ h2, shaped_strm _, shaped_strm _, ?_⟩
      rw [eqv_strm]
      have es : decide (numb m5 = numb m1) = decide (numb m1 = numb m5) := decide_eq_decide.mpr ⟨Eq.symm, Eq.symm⟩
      refine ⟨rfl, _, rfl, ?_⟩
      refine iteNS (congrArg V.bl es.symm) ?_
      refine ⟨.ref t5, rfl, .ref t1, rfl, .ref t5, .ref t1, m5, m1, rfl, TD.mono (Tups.same s16) _ h5, TD.mono (Tups.same s16) _ h1, by omega, by omega, fun H17 s17 => ?_⟩
      refine ⟨.bl (decide (numb m1 = numb m5)), rfl, rfl, _, rfl, ?_⟩
      refine iteNS (congrArg V.bl es) ?_
      exact ⟨_, _, _, _, _, _, _, _, _, _, _, _, _, _, _, rfl, hP.mono (s16.trans s17)⟩
    · rintro σ H2 _
      exact q H2
end

theorem all_mk {l : PySem.W.OpenLaw} {w : World} {K : PySem.W.Frag} {h : Heap} {mg : Str → Option Value} {fa f0 f1 f2 f3 f4 f5 f6 f7 f8 : Addr} (X : K.In h) (G : h.Ns mainGlobals mg) (hfa : mg "law" = some (.ref fa))
    {od0 an0 od1 an1 od2 an2 od3 an3 od4 an4 od5 an5 od6 an6 od7 an7 od8 an8 : Option Addr} {sl0 sl1 sl2 sl3 sl4 sl5 sl6 sl7 sl8 : Array (Option Value)} {oc0 kV0 dc0 pm0 cd0 ct0 oc1 kV1 dc1 pm1 cd1 ct1 oc2 kV2 dc2 pm2 cd2 ct2 oc3 kV3 dc3 pm3 cd3 ct3 oc4 kV4 dc4 pm4 cd4 ct4 oc5 kV5 dc5 pm5 cd5 ct5 oc6 kV6 dc6 pm6 cd6 ct6 oc7 kV7 dc7 pm7 cd7 ct7 oc8 kV8 dc8 pm8 cd8 ct8 : Value}
    (a0 : PySem.W.nsIn K mainGlobals "_law_pen" = some (some (.ref f0))) (l0 : K.lookup f0 = some ⟨oc0, od0, .func (PySem.W.fnOf "_law_pen" "_law_pen" (defArgs s_law_pen) (defBody s_law_pen) (defScope s_law_pen) .none kV0 dc0 pm0 an0 cd0 ct0), sl0⟩) (c0 : PySem.W.codeIn K cd0 "_law_pen" = true) (k0 : PySem.W.keepIn K (.ref f0) = true)
    (a1 : PySem.W.nsIn K mainGlobals "_law_fresh" = some (some (.ref f1))) (l1 : K.lookup f1 = some ⟨oc1, od1, .func (PySem.W.fnOf "_law_fresh" "_law_fresh" (defArgs s_law_fresh) (defBody s_law_fresh) (defScope s_law_fresh) .none kV1 dc1 pm1 an1 cd1 ct1), sl1⟩) (c1 : PySem.W.codeIn K cd1 "_law_fresh" = true) (k1 : PySem.W.keepIn K (.ref f1) = true)
    (a2 : PySem.W.nsIn K mainGlobals "_law_draw" = some (some (.ref f2))) (l2 : K.lookup f2 = some ⟨oc2, od2, .func (PySem.W.fnOf "_law_draw" "_law_draw" (defArgs s_law_draw) (defBody s_law_draw) (defScope s_law_draw) .none kV2 dc2 pm2 an2 cd2 ct2), sl2⟩) (c2 : PySem.W.codeIn K cd2 "_law_draw" = true) (k2 : PySem.W.keepIn K (.ref f2) = true)
    (a3 : PySem.W.nsIn K mainGlobals "_law_stream" = some (some (.ref f3))) (l3 : K.lookup f3 = some ⟨oc3, od3, .func (PySem.W.fnOf "_law_stream" "_law_stream" (defArgs s_law_stream) (defBody s_law_stream) (defScope s_law_stream) .none kV3 dc3 pm3 an3 cd3 ct3), sl3⟩) (c3 : PySem.W.codeIn K cd3 "_law_stream" = true) (k3 : PySem.W.keepIn K (.ref f3) = true)
    (a4 : PySem.W.nsIn K mainGlobals "_law_numbered" = some (some (.ref f4))) (l4 : K.lookup f4 = some ⟨oc4, od4, .func (PySem.W.fnOf "_law_numbered" "_law_numbered" (defArgs s_law_numbered) (defBody s_law_numbered) (defScope s_law_numbered) .none kV4 dc4 pm4 an4 cd4 ct4), sl4⟩) (c4 : PySem.W.codeIn K cd4 "_law_numbered" = true) (k4 : PySem.W.keepIn K (.ref f4) = true)
    (a5 : PySem.W.nsIn K mainGlobals "numbered" = some (some (.ref f5))) (l5 : K.lookup f5 = some ⟨oc5, od5, .func (PySem.W.fnOf "numbered" "numbered" (defArgs s_numbered) (defBody s_numbered) (defScope s_numbered) .none kV5 dc5 pm5 an5 cd5 ct5), sl5⟩) (c5 : PySem.W.codeIn K cd5 "numbered" = true) (k5 : PySem.W.keepIn K (.ref f5) = true)
    (a6 : PySem.W.nsIn K mainGlobals "is_numbered" = some (some (.ref f6))) (l6 : K.lookup f6 = some ⟨oc6, od6, .func (PySem.W.fnOf "is_numbered" "is_numbered" (defArgs s_is_numbered) (defBody s_is_numbered) (defScope s_is_numbered) .none kV6 dc6 pm6 an6 cd6 ct6), sl6⟩) (c6 : PySem.W.codeIn K cd6 "is_numbered" = true) (k6 : PySem.W.keepIn K (.ref f6) = true)
    (a7 : PySem.W.nsIn K mainGlobals "are_alike" = some (some (.ref f7))) (l7 : K.lookup f7 = some ⟨oc7, od7, .func (PySem.W.fnOf "are_alike" "are_alike" (defArgs s_are_alike) (defBody s_are_alike) (defScope s_are_alike) .none kV7 dc7 pm7 an7 cd7 ct7), sl7⟩) (c7 : PySem.W.codeIn K cd7 "are_alike" = true) (k7 : PySem.W.keepIn K (.ref f7) = true)
    (a8 : PySem.W.nsIn K mainGlobals "law" = some (some (.ref f8))) (l8 : K.lookup f8 = some ⟨oc8, od8, .func (PySem.W.fnOf "law" "law" (defArgs s_law) (defBody s_law) (defScope s_law) .none kV8 dc8 pm8 an8 cd8 ct8), sl8⟩) (c8 : PySem.W.codeIn K cd8 "law" = true) (k8 : PySem.W.keepIn K (.ref f8) = true)
    (z0 : PySem.W.nsIn K mainGlobals "list" = some none)
    (z1 : PySem.W.nsIn K mainGlobals "len" = some none)
    (z2 : PySem.W.nsIn K mainGlobals "range" = some none)
    (z3 : PySem.W.nsIn K mainGlobals "tuple" = some none)
    (z4 : PySem.W.nsIn K mainGlobals "repr" = some none)
    (z5 : PySem.W.nsIn K mainGlobals "abs" = some none)
    (z6 : PySem.W.nsIn K mainGlobals "zip" = some none)
    (z7 : PySem.W.nsIn K mainGlobals "isinstance" = some none)
    (z8 : PySem.W.nsIn K mainGlobals "bool" = some none)
    : ∃ fd : FuncData, (∀ (s : Shared) (v : Value), BindsTo s fd ⟨[v], []⟩ [("script", v)]) ∧ ∀ base : Heap, K.In base → base.Ns mainGlobals mg → FnG l.prog w K mg base CX0 4 fa fd ["script"] (sp_law K) := by
  have e := hfa.symm.trans (PySem.W.mg_of X G a8)
  cases e
  have F0 := fun_mk (st := s_law_pen) l0 c0 k0
  have F1 := fun_mk (st := s_law_fresh) l1 c1 k1
  have F2 := fun_mk (st := s_law_draw) l2 c2 k2
  have F3 := fun_mk (st := s_law_stream) l3 c3 k3
  have F4 := fun_mk (st := s_law_numbered) l4 c4 k4
  have F5 := fun_mk (st := s_numbered) l5 c5 k5
  have F6 := fun_mk (st := s_is_numbered) l6 c6 k6
  have F7 := fun_mk (st := s_are_alike) l7 c7 k7
  have F8 := fun_mk (st := s_law) l8 c8 k8
  have b0 := F0.binds (ps := ["script"]) fun _ _ _ _ _ _ us hl => match us, hl with | [_], _ => rfl
  have b1 := F1.binds (ps := ["pen"]) fun _ _ _ _ _ _ us hl => match us, hl with | [_], _ => rfl
  have b2 := F2.binds (ps := ["pen", "many"]) fun _ _ _ _ _ _ us hl => match us, hl with | [_, _], _ => rfl
  have b3 := F3.binds (ps := ["pen", "words", "most", "values"]) fun _ _ _ _ _ _ us hl => match us, hl with | [_, _, _, _], _ => rfl
  have b4 := F4.binds (ps := ["stream"]) fun _ _ _ _ _ _ us hl => match us, hl with | [_], _ => rfl
  have b5 := F5.binds (ps := ["stream"]) fun _ _ _ _ _ _ us hl => match us, hl with | [_], _ => rfl
  have b6 := F6.binds (ps := ["stream"]) fun _ _ _ _ _ _ us hl => match us, hl with | [_], _ => rfl
  have b7 := F7.binds (ps := ["one", "two"]) fun _ _ _ _ _ _ us hl => match us, hl with | [_, _], _ => rfl
  exact ⟨_, fun s v => .of_eq rfl, fun base _ _ => ok_law F8 ⟨F0, b0, PySem.W.mg_of X G a0, F1, b1, PySem.W.mg_of X G a1, F2, b2, PySem.W.mg_of X G a2, F3, b3, PySem.W.mg_of X G a3, F4, b4, PySem.W.mg_of X G a4, F5, b5, PySem.W.mg_of X G a5, F6, b6, PySem.W.mg_of X G a6, F7, b7, PySem.W.mg_of X G a7, PySem.W.mg_none_of X G z0, PySem.W.mg_none_of X G z1, PySem.W.mg_none_of X G z2, PySem.W.mg_none_of X G z3, PySem.W.mg_none_of X G z4, PySem.W.mg_none_of X G z5, PySem.W.mg_none_of X G z6, PySem.W.mg_none_of X G z7, PySem.W.mg_none_of X G z8⟩⟩
theorem walk {l : PySem.W.OpenLaw} {q : Program} {loose : List Str} {XP : (Str → Option Value) → Heap → Prop} {YP : World → Heap → Prop} {d : DefRec} {K : Params → PySem.W.Frag} (hn : l.most = some 63) (hdf : d.params.defaults = [])
    (hY : ∀ (w : World) (h : Heap), YP w h → (K w.params).In h)
    (F : ∀ (w : World) (mg : Str → Option Value) (fa : Addr) (h : Heap), (K w.params).In h → h.Ns mainGlobals mg → mg d.name = some (.ref fa) →
      ∃ fd : FuncData, (∀ (s : Shared) (u : Value), BindsTo s fd ⟨[u], []⟩ [("script", u)]) ∧ ∀ base : Heap, (K w.params).In base → base.Ns mainGlobals mg → FnG l.prog w (K w.params) mg base CX0 4 fa fd ["script"] (sp_law (K w.params))) :
    PySem.W.WalkO q loose XP YP l.row.toRowW d [] (fun f vs => PySem.call f vs) :=
  walk_ofG (n := 63) (k := 4) (x := "script") (sp := sp_law) hn (by decide) hdf ⟨rfl, by decide, by decide⟩ hY F fun _ _ a ns hl hb _ hS => ⟨a, ns, rfl, hS, hl, fun _ => rfl⟩
end Sb
open PySem PySem.W PyProof.Rows
set_option maxRecDepth 100000 in
set_option maxHeartbeats 0 in
theorem PySem.Challenge.cw_seenbefore_k02_streams_numbered_holds : PySem.Challenge.rw_seenbefore_k02_streams_numbered.Holds := by
  w_on; o_law; k_head; (case hw => w_witness2)
  k_fill
  refine Sb.walk (l := PySem.Challenge.rw_seenbefore_k02_streams_numbered) rfl rfl (fun w h Y => PySem.W.kIn_of Y) ?F
  case F =>
    intro w mg fa h KX G hmg
    refine' Sb.all_mk KX G hmg ?a0 ?l0 ?c0 ?k0 ?a1 ?l1 ?c1 ?k1 ?a2 ?l2 ?c2 ?k2 ?a3 ?l3 ?c3 ?k3 ?a4 ?l4 ?c4 ?k4 ?a5 ?l5 ?c5 ?k5 ?a6 ?l6 ?c6 ?k6 ?a7 ?l7 ?c7 ?k7 ?a8 ?l8 ?c8 ?k8 ?z0 ?z1 ?z2 ?z3 ?z4 ?z5 ?z6 ?z7 ?z8
    (case a0 => k_is); (case l0 => k_is); (case c0 => k_is); (case k0 => k_is)
    (case a1 => k_is); (case l1 => k_is); (case c1 => k_is); (case k1 => k_is)
    (case a2 => k_is); (case l2 => k_is); (case c2 => k_is); (case k2 => k_is)
    (case a3 => k_is); (case l3 => k_is); (case c3 => k_is); (case k3 => k_is)
    (case a4 => k_is); (case l4 => k_is); (case c4 => k_is); (case k4 => k_is)
    (case a5 => k_is); (case l5 => k_is); (case c5 => k_is); (case k5 => k_is)
    (case a6 => k_is); (case l6 => k_is); (case c6 => k_is); (case k6 => k_is)
    (case a7 => k_is); (case l7 => k_is); (case c7 => k_is); (case k7 => k_is)
    (case a8 => k_is); (case l8 => k_is); (case c8 => k_is); (case k8 => k_is)
    (case z0 => k_is); (case z1 => k_is); (case z2 => k_is); (case z3 => k_is)
    (case z4 => k_is); (case z5 => k_is); (case z6 => k_is); (case z7 => k_is)
    (case z8 => k_is)
