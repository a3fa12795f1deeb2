import PyProof.Rows.All
import Wide.All
import OpenK.AllK
import Wide.FinOn
import HandS.ForMost
import HandS.ExcOwn
import HandS.EndBits
import HandS.Codes
import HandS.Wide
import PySem.Challenge.RW_seenbefore_k03_values_exchanged
set_option Elab.async false
set_option linter.all false
set_option maxRecDepth 100000
set_option maxHeartbeats 4000000

/-! Promises of defs where no repr is under way (guards = []): so the repr of made data is known to the sign. -/
namespace Sb
open PySem PySem.Spec PyProof.Rows L2
/-- as FnOk, for calls around which no repr is under way -/
structure FnG (P : Program) (w : World) (K : PySem.W.Frag) (mg : Str → Option Value) (base : Heap) (CX : CXT) (k : Nat) (f : Addr)
    (fd : FuncData) (ps : List Str) (sp : Sp) : Prop where
  len : ∀ vs H Q E, sp vs H Q E → vs.length = ps.length
  run : ∀ (A : Around) (outer : List Env) (s : Shared) (H : Hp) (args : Args) (us : List Value) (vs : List V) (Q : VK) (E : XK),
    A.guards = some [] → Room k A → Env0 P w K mg base A outer s H → BindsTo s fd args (ps.zip us) → Vals vs us → sp vs H Q E →
    codeAny (model P w) A (.call (.ref f) args) (CR CX outer P w H s Q E) s
section
variable {P : Program} {w : World} {K : PySem.W.Frag} {mg : Str → Option Value} {base : Heap} {CX : CXT} {k : Nat} {f : Addr}
theorem FnG.mono {j : Nat} {fd : FuncData} {ps : List Str} {sp : Sp} (F : FnG P w K mg base CX j f fd ps sp) (h : j ≤ k) : FnG P w K mg base CX k f fd ps sp :=
  { len := F.len, run := fun A o s H a us vs Q E g r => F.run A o s H a us vs Q E g (r.mono h) }
theorem FnG.imp {fd : FuncData} {ps : List Str} {sp sp' : Sp} (F : FnG P w K mg base CX k f fd ps sp) (h : ∀ vs H Q E, sp' vs H Q E → sp vs H Q E) :
    FnG P w K mg base CX k f fd ps sp' :=
  { len := fun vs H Q E z => F.len vs H Q E (h _ _ _ _ z), run := fun A o s H a us vs Q E g r e b v z => F.run A o s H a us vs Q E g r e b v (h _ _ _ _ z) }
theorem FnG.of {fd : FuncData} {ps : List Str} {sp : Sp} (F : FnOk P w K mg base CX k f fd ps sp) : FnG P w K mg base CX k f fd ps sp :=
  { len := F.len, run := fun A o s H a us vs Q E _ r => F.run A o s H a us vs Q E r }
/-- from a body to its def -/
theorem fnG_body {name qual : Str} {params : Arguments} {body : List Stmt} {sc : Scope} {dV kV doc pm cdv ct oc : Value} {an od : Option Addr} {osl : Array (Option Value)} {N ps : List Str} {sp : Sp}
    (lk : K.lookup f = some ⟨oc, od, .func (PySem.W.fnOf name qual params body sc dV kV doc pm an cdv ct), osl⟩) (hcd : PySem.W.codeIn K cdv qual = true) (S : FnScope N ps sc)
    (len : ∀ vs H Q E, sp vs H Q E → vs.length = ps.length)
    (walk : ∀ (A : Around) (outer : List Env) (s : Shared) (H : Hp) (vs : List V) (Q : VK) (E : XK), A.guards = some [] →
      Room k (A.deeper (envOfC qual sc s.heap.objs.size f cdv)) → sp vs H Q E →
      ∃ t, PSs (cxOf CX P w K mg base N qual sc f cdv A outer s H E) body t ∧ t { nx := fun _ H' => Q .non H', rt := Q } (start N vs) H) :
    FnG P w K mg base CX (k + 1) f (PySem.W.fnOf name qual params body sc dV kV doc pm an cdv ct) ps sp := by
  constructor
  · exact len
  intro A outer s H args us vs Q E gd room e0 bd rv want
  have inK : K.In s.heap := e0.mod.kin.keeps fun b o q => (e0.bs b o q).1
  have noLim : s.heap.NoLimit := e0.mod.nolimit.keeps fun b o q => (e0.bs b o q).1
  have kinds : ∀ y ∈ ps.zip us, sc.names.lookup y.1 = some .local ∨
      (sc.names.lookup y.1 = some .cell ∧ ((cellsFrom (s.heap.objs.size + 1) sc.names []).lookup y.1).isSome = true) := by
    rintro ⟨n, v⟩ hy
    cases S.par n (List.of_mem_zip hy).1 with
    | inl q => exact Or.inl q
    | inr q => exact Or.inr ⟨q, PySem.W.cellsFrom_some _ _ _ (Or.inl q)⟩
  apply codeAny_call_function room.depth (inK _ _ lk) rfl S.co S.gen rfl (PySem.W.codeRec_of inK hcd)
  apply bd
  apply wpAny_newFunctionEnv_cells S.kind kinds
  intro env he s1 x
  subst he
  refine ⟨noLim.keeps x.toInCall.keep, ?_⟩
  apply codeAny_func
  obtain ⟨t, ht, hq⟩ := walk A outer s H vs Q E gd (room.deeper _) want
  have I := inv_start (CX := CX) (E := E) S room.hd e0 (len _ _ _ _ want) rv x
  refine wpAny_mono (ht.run [] s1 (start N vs) H _ I hq) (fun fl s' hs => ?_) (fun _ _ hs => hs)
  match fl, hs with
  | .ret u, ⟨v, σ', H', J, r', q⟩ => exact ⟨v, H', J.os, J.bare, J.base, J.hok, r', q⟩
  | .next, ⟨σ', H', J, q⟩ => exact ⟨V.non, H', J.os, J.bare, J.base, J.hok, rfl, q⟩
  | .brk, ⟨_, _, _, q⟩ => exact q.elim
  | .cont, ⟨_, _, _, q⟩ => exact q.elim
/-- a def of the text; its walk may use that no repr is under way -/
theorem okG {x qual : Str} {st : Stmt} {fd : FuncData} {N ps : List Str} {sp : Sp} (F : Fun K x qual st f fd) (S : FnScope N ps (defScope st)) (len : ∀ vs H Q E, sp vs H Q E → vs.length = ps.length)
    (walk : ∀ (cdv : Value) (A : Around) (outer : List Env) (s : Shared) (H : Hp) (vs : List V) (Q : VK) (E : XK), A.guards = some [] →
      Room k (A.deeper (envOfC qual (defScope st) s.heap.objs.size f cdv)) → sp vs H Q E →
      ∃ t, PSs (cxOf CX0 P w K mg base N qual (defScope st) f cdv A outer s H E).nox (defBody st) t ∧ t { nx := fun _ H' => Q .non H', rt := Q } (start N vs) H) :
    FnG P w K mg base CX0 (k + 1) f fd ps sp := by
  obtain ⟨oc, od, kV, doc, pm, an, cdv, ct, osl, e, lk, hcd⟩ := F.ex
  subst e
  apply fnG_body lk hcd S len
  intro A outer s H vs Q E gd room want
  obtain ⟨t, h, q⟩ := walk cdv A outer s H vs Q E gd room want
  exact ⟨t, h.nox, q⟩
/-- the same for a def that may raise -/
theorem okGX {x qual : Str} {st : Stmt} {fd : FuncData} {N ps : List Str} {sp : Sp} (F : Fun K x qual st f fd) (S : FnScope N ps (defScope st)) (len : ∀ vs H Q E, sp vs H Q E → vs.length = ps.length)
    (walk : ∀ (cdv : Value) (A : Around) (outer : List Env) (s : Shared) (H : Hp) (vs : List V) (Q : VK) (E : XK), A.guards = some [] →
      Room k (A.deeper (envOfC qual (defScope st) s.heap.objs.size f cdv)) → sp vs H Q E →
      ∃ t, PSs (cxOf (L2.CX P w) P w K mg base N qual (defScope st) f cdv A outer s H E) (defBody st) t ∧ t { nx := fun _ H' => Q .non H', rt := Q } (start N vs) H) :
    FnG P w K mg base (L2.CX P w) (k + 1) f fd ps sp := by
  obtain ⟨oc, od, kV, doc, pm, an, cdv, ct, osl, e, lk, hcd⟩ := F.ex
  subst e
  exact fnG_body lk hcd S len fun A outer s H vs Q E gd room want => walk cdv A outer s H vs Q E gd room want
end

section
variable {X : Cx} {CX : CXT} {k : Nat} {f C : Addr} {fd : FuncData} {ps : List Str} {sp : Sp} {dvs : List V} {ds : List Value} {x m : Str} {p pos apos : Pos} {e o : Expr} {es : List Expr} {ta : TE} {t : TA}
/-- the callee runs; E hangs on the slots -/
theorem runG {pins : List (Addr × Obj)} {σ : L2.St} {H : Hp} {s : Shared} {Q : VK} {E : XK} {us : List Value} {vs : List V} (F : FnG X.prog X.w X.K X.mg X.base CX k f fd ps sp) (gd : X.A.guards = some []) (hr : Room k X.A)
    (hb : Binds X.K fd ps ds) (hd : Vals dvs ds) (hx : ∀ (e : Value) (s' : Shared), CX X.stack H s E e s' → X.xe e s') (I : Inv X pins σ H s) (r : Vals vs us) (h : sp (vs ++ dvs) H Q E) :
    wpAny (model X.prog X.w) X.A (call (.ref f) us) (EP X pins σ Q) X.xe s := by
  have rr := r.append hd
  have nl : (us ++ ds).length = ps.length := rr.length ▸ F.len _ _ _ _ h
  apply wpAny_call
  refine codeAny_mono (F.run X.A X.stack s H ⟨us, []⟩ _ _ Q E gd hr I.env0 (hb s us I.kIn nl) rr h) ?_
  intro res s' hres
  match res, hres with
  | .error er, z => exact hx er s' z
  | .ok (.ret u), z => exact I.after z
  | .ok .next, z => exact z.elim
  | .ok .brk, z => exact z.elim
  | .ok .cont, z => exact z.elim
/-- f(e, ..) -/
theorem pe_callG {E : XK} (F : FnG X.prog X.w X.K X.mg X.base CX k f fd ps sp) (gd : X.A.guards = some []) (hr : Room k X.A) (hg : Gl X x) (hm : X.mg x = some (.ref f)) (hk : PySem.W.keepIn X.K (.ref f) = true)
    (hb : Binds X.K fd ps ds) (hd : Vals dvs ds) (hx : Passes CX X E) (ha : PA X (e :: es) t) (hdb : (x == ("__debug__" : Str)) = false := by decide)
    (he : starEach (e :: es) X.env = (false, eval e X.env) :: starEach es X.env := by rfl)
    (hpl : (backTo pos (starEach es X.env)).any (·.1) = false := by rfl) : PE X (.Call (.Name x p) (e :: es) [] pos) (tCall sp dvs E t) := by
  constructor
  intro pins s σ H Q I h
  apply wpAny_Call_Name_kw
  apply ld_glob I hg hm _ hdb
  apply PySem.W.callWith_K (h₀ := X.base) I.ok.mod.kin hk _ he hpl
  refine thn (ha.run pos pins s σ H _ I h) ?_
  rintro us s1 ⟨vs, H1, I1, r, q⟩
  exact ⟨I1.kIn, runG F gd hr hb hd (fun er s' z => hx pins σ H1 s1 er s' I1 z) I1 r q⟩
/-- f(e, ..), what is raised wished for at the slots -/
theorem pe_callGS {E : L2.St → XK} (F : FnG X.prog X.w X.K X.mg X.base CX k f fd ps sp) (gd : X.A.guards = some []) (hr : Room k X.A) (hg : Gl X x) (hm : X.mg x = some (.ref f)) (hk : PySem.W.keepIn X.K (.ref f) = true)
    (hb : Binds X.K fd ps []) (hx : ∀ σ, PassesAt CX X σ (E σ)) (ha : PA X (e :: es) t) (hdb : (x == ("__debug__" : Str)) = false := by decide)
    (he : starEach (e :: es) X.env = (false, eval e X.env) :: starEach es X.env := by rfl)
    (hpl : (backTo pos (starEach es X.env)).any (·.1) = false := by rfl) : PE X (.Call (.Name x p) (e :: es) [] pos) (tCallS sp E t) := by
  constructor
  intro pins s σ H Q I h
  apply wpAny_Call_Name_kw
  apply ld_glob I hg hm _ hdb
  apply PySem.W.callWith_K (h₀ := X.base) I.ok.mod.kin hk _ he hpl
  refine thn (ha.run pos pins s σ H _ I h) ?_
  rintro us s1 ⟨vs, H1, I1, r, q⟩
  have q' : sp (vs ++ []) H1 Q (E σ) := by rw [List.append_nil]; exact q
  exact ⟨I1.kIn, runG F gd hr hb .nil (fun er s' z => hx σ pins H1 s1 er s' I1 z) I1 r q'⟩
/-- repr of data -/
theorem call_reprD (gd : X.A.guards = some []) (hu : X.A.units + 64 < cLine) : CallR X (.builtin "repr") (fun xs H Q => ∃ v d, xs = [v] ∧ Dp X.K H v d ∧ d.showable = true ∧ d.hasDict = false ∧ d.depth ≤ 60 ∧ d.shown.length ≤ sizeLine ∧ Q (.str d.shown) H) := by
  rintro pins s σ H xs us Q I r ⟨v, d, rfl, hd, hs, hnd, hdp, hz, q⟩
  obtain ⟨u, rfl, ru⟩ := vals1 r
  obtain ⟨as, rd⟩ := Dp.reads I d v u hd ru
  cases v with
  | ref a =>
    obtain rfl : u = Value.ref a := ru
    refine repr_of_reads' rd hs (PyData.noDict_hsm hnd) gd (by omega) (fun _ _ z => z) (fun h' u' tk hk => ?_) hz
    exact ⟨.str d.shown, H, I.kept (fun b o z => hk b o z), ⟨_, rfl⟩, q⟩
  | non =>
    cases hd
    obtain rfl : u = Value.none := ru
    exact PySem.P.repr_of_none ⟨.str _, H, I.tok _, ⟨_, rfl⟩, q⟩
  | bl b =>
    cases hd
    obtain rfl : u = Value.bool b := ru
    exact PySem.P.repr_of_bool ⟨.str _, H, I.tok _, ⟨_, rfl⟩, q⟩
  | int i =>
    cases hd
    obtain ⟨tk, rfl⟩ := ru
    have hi : i.natAbs.log2 < 1920 := by simpa [PyData.showable] using hs
    exact PySem.P.repr_of_int hi ⟨.str _, H, I.tok _, ⟨_, rfl⟩, q⟩
  | str z =>
    cases hd
    obtain ⟨tk, rfl⟩ := ru
    exact PySem.P.repr_of_str (hsz := by simpa only [PyData.shown] using hz) ⟨.str _, H, I.tok _, ⟨_, rfl⟩, q⟩
  | byt b => cases hd
  | flt b => cases hd
  | ty n => cases hd
end
end Sb

namespace Sb
open PySem PySem.Spec PyProof.Rows L2
section
variable {P : Program} {w : World} {K : PySem.W.Frag} {mg mb : Str → Option Value} {k : Nat} {fa a : Addr} {fd : FuncData} {x : Str} {sp : Sp} {s1 : Shared} {vs : List Value} {ns : List Int}
/-- what the row asks of the law's call -/
abbrev Done (P : Program) (w : World) (fa a : Addr) (s1 : Shared) : Prop := codeAny (model P w) callerA (.call (.ref fa) ⟨[.ref a], []⟩)
  (fun r s' => r = .ok (.ret (.bool true)) ∧ OldK s1.heap s'.heap ∧ s'.os = s1.os ∧ AllBare s'.gens) s1
/-- the law's call over an abstract heap that tracks the script at most -/
theorem overH {H : Hp} (KX : K.In s1.heap) (hns : s1.heap.Ns mainGlobals mg) (hb : s1.heap.Ns builtinsNs mb) (hbb : ∀ x : Str, x ≠ "__name__" → mb x = bootBuiltins x) (hlim : s1.heap.NoLimit) (hg : s1.gens = #[])
    (ha : s1.heap.get? a = some { cls := .type "list", data := .seq vs.toArray }) (hr : Room k callerA)
    (F : ∀ base : Heap, K.In base → base.Ns mainGlobals mg → FnG P w K mg base CX0 k fa fd [x] sp) (bd : ∀ (s : Shared) (u : Value), BindsTo s fd ⟨[u], []⟩ [(x, u)])
    (hO : Only H) (ok : HOk P w H s1.heap) (onlyA : ∀ b, H b ≠ none → b = a) (notK : H a ≠ none → K.lookup a = none)
    (want : sp [.ref a] H (fun v _ => v = .bl true) fun _ _ _ => False) : Done P w fa a s1 := by
  have free : ∀ {b : Addr} {o : Obj}, s1.heap.get? b = some o → (b = a → H b = none) → H b = none := by
    intro b o _ z
    cases q : H b with
    | none => rfl
    | some u =>
      have e : b = a := onlyA b (by simp [q])
      rw [z e] at q
      cases q
  have dict : ∀ {b : Addr} {o : Obj} {es : Array DictEntry} {ep : Nat}, s1.heap.get? b = some o → o.data = .dict es ep → H b = none := by
    intro b o es ep e d
    apply free e
    intro z
    subst z
    rw [ha] at e
    cases e
    cases (show Data.seq vs.toArray _ = Data.dict es ep from d)
  have spaces : ∀ {b : Addr} {m : Str → Option Value}, s1.heap.Ns b m → (hidT s1.heap H).Ns b m := by
    rintro b m ⟨o, es, ep, e, d, r⟩
    exact ⟨o, es, ep, hidT_get e (dict e d), d, r⟩
  have inB : K.In (hidT s1.heap H) := by
    intro b o e
    refine hidT_get (KX b o e) (free (KX b o e) fun z => ?_)
    subst z
    cases q : H b with
    | none => rfl
    | some u =>
      rw [notK (by simp [q])] at e
      cases e
  obtain ⟨mc, c1, c2⟩ := hlim
  have md : Mod K mg (hidT s1.heap H) := ⟨inB, spaces hns, ⟨mb, spaces hb, hbb⟩, ⟨mc, spaces c1, c2⟩⟩
  have e0 : Env0 P w K mg (hidT s1.heap H) callerA [] s1 H :=
    { frames := rfl, mod := md, bs := fun b o e => of_hidT e, bsz := Nat.le_of_eq (hidT_size _ _), funs := trivial, frf := (fun b z => (by cases z)), hok := ok, bare := .of_eq hg }
  have run := (F _ inB (spaces hns)).run callerA [] s1 H ⟨[.ref a], []⟩ [.ref a] [.ref a] _ _ rfl hr e0 (bd s1 (.ref a)) (.cons rfl .nil) want
  refine codeAny_mono run ?_
  intro r s' z
  match r, z with
  | .error e, z =>
    exact False.elim z
  | .ok .next, z => exact False.elim z
  | .ok .brk, z => exact False.elim z
  | .ok .cont, z => exact False.elim z
  | .ok (.ret u), ⟨v, H', os, bare, un, ok', rel, q⟩ =>
    subst q
    obtain rfl : u = Value.bool true := rel
    refine ⟨rfl, OldK.of_keep ?_, os, bare⟩
    intro b o e
    cases q : H b with
    | none => exact un.keep b o e q (fun z => by cases z) (fun z => by cases z)
    | some u =>
      cases hO b with
      | inl z =>
        rw [q] at z
        cases z
      | inr z =>
        obtain ⟨ob, xs, z⟩ := z
        have e1 := (ok b _ z).1
        have e2 := (ok' b _ (un.frzs b ob _ z)).1
        rw [e] at e1
        cases e1
        exact e2
/-- the law's call -/
theorem law_callG (KX : K.In s1.heap) (hns : s1.heap.Ns mainGlobals mg) (hb : s1.heap.Ns builtinsNs mb) (hbb : ∀ x : Str, x ≠ "__name__" → mb x = bootBuiltins x) (hlim : s1.heap.NoLimit) (hg : s1.gens = #[])
    (ha : s1.heap.get? a = some { cls := .type "list", data := .seq vs.toArray }) (hi : IntsAre vs ns) (hl : ns.length ≤ sizeLine) (hr : Room k callerA)
    (F : ∀ base : Heap, K.In base → base.Ns mainGlobals mg → FnG P w K mg base CX0 k fa fd [x] sp) (bd : ∀ (s : Shared) (u : Value), BindsTo s fd ⟨[u], []⟩ [(x, u)])
    (want : ∀ H : Hp, Only H → SqL K H a (ns.map V.int) → sp [.ref a] H (fun v _ => v = .bl true) fun _ _ _ => False) : Done P w fa a s1 := by
  have rv := vals_ints hi
  have nv := hi.length
  by_cases hk : K.lookup a = none
  · let H : Hp := fun b => if b = a then some (.frz { cls := .type "list", data := .seq vs.toArray } (.lst (ns.map V.int))) else none
    have at_a : H a = some (.frz { cls := .type "list", data := .seq vs.toArray } (.lst (ns.map V.int))) := if_pos rfl
    have off : ∀ b, b ≠ a → H b = none := fun b z => if_neg z
    have hO : Only H := by
      intro b
      by_cases e : b = a
      · subst e
        exact Or.inr ⟨_, _, at_a⟩
      · exact Or.inl (off b e)
    refine overH (H := H) KX hns hb hbb hlim hg ha hr F bd hO ?_ ?_ (fun _ => hk) (want H hO (Or.inl (Or.inr ⟨_, at_a⟩)))
    · intro b u z
      by_cases e : b = a
      · subst e
        rw [at_a] at z
        cases z
        exact ⟨ha, by rw [List.length_map]; exact hl, vs, _, rv, ha⟩
      · rw [off b e] at z
        cases z
    · intro b z
      by_cases e : b = a
      · exact e
      · exact absurd (off b e) z
  · cases q : K.lookup a with
    | none => exact absurd q hk
    | some o =>
      have e := KX a o q
      rw [ha] at e
      cases e
      have hO : Only fun _ => none := fun _ => Or.inl rfl
      refine overH (H := fun _ => none) KX hns hb hbb hlim hg ha hr F bd hO (fun b u z => by cases z) (fun b z => absurd rfl z) (fun z => absurd rfl z) (want _ hO (Or.inr ?_))
      exact ⟨_, vs.toArray, _, q, rfl, rfl, rfl, by rw [List.size_toArray, nv]; exact hl, by simpa using rv⟩
end
/-- the row's end, from the law's promise -/
theorem walk_ofG {l : PySem.W.OpenLaw} {n k : Nat} {q : Program} {loose : List Str} {XP : (Str → Option Value) → Heap → Prop} {YP : World → Heap → Prop} {d : DefRec} {K : Params → PySem.W.Frag} {sp : PySem.W.Frag → Sp} {x : Str}
    (hn : l.most = some n) (hn2 : n ≤ sizeLine) (hdf : d.params.defaults = []) (hr : Room k callerA) (hY : ∀ (w : World) (h : Heap), YP w h → (K w.params).In h)
    (F : ∀ (w : World) (mg : Str → Option Value) (fa : Addr) (h : Heap), (K w.params).In h → h.Ns mainGlobals mg → mg d.name = some (.ref fa) →
      ∃ fd : FuncData, (∀ (s : Shared) (u : Value), BindsTo s fd ⟨[u], []⟩ [(x, u)]) ∧
        ∀ base : Heap, (K w.params).In base → base.Ns mainGlobals mg → FnG l.prog w (K w.params) mg base CX0 k fa fd [x] (sp (K w.params)))
    (want : ∀ (K : PySem.W.Frag) (H : Hp) (a : Addr) (ns : List Int), ns.length ≤ n → (∀ z ∈ ns, Builtin.Int.intBits z ≤ 1048576) → Only H → SqL K H a (ns.map V.int) →
      sp K [.ref a] H (fun v _ => v = .bl true) fun _ _ _ => False) : PySem.W.WalkO q loose XP YP l.row.toRowW d [] (fun f vs => PySem.call f vs) := by
  apply Att.attach_callB hn hdf
  intro w s0 s1 mg mb fa o pm cd doc a vs ns G Y ho hd hcd hmg hobj hints hlen hbits hg
  obtain ⟨fd, bd, hF⟩ := F w mg fa _ (hY w _ Y) G.T.g hmg
  exact law_callG (hY w _ Y) G.T.g G.T.b G.T.builtins G.T.nolimit hg hobj hints (Nat.le_trans hlen hn2) hr hF bd (fun H hO hS => want _ H a ns hlen hbits hO hS)
end Sb

/-! Data that is small enough to be shown and compared. -/
namespace Sb
open PySem PySem.Spec PyProof.Rows L2
structure Nice (n m : Nat) (d : PyData) : Prop where
  lay : d.canLay0 = true
  dep : d.depth ≤ n
  sho : d.showable = true
  nod : d.hasDict = false
  len : d.shown.length ≤ m
theorem Nice.mono {n m n' m' : Nat} {d : PyData} (h : Nice n m d) (hn : n ≤ n') (hm : m ≤ m') : Nice n' m' d :=
  { h with dep := Nat.le_trans h.dep hn, len := Nat.le_trans h.len hm }
theorem Nice.shaped {n m : Nat} {d : PyData} (h : Nice n m d) (hn : n ≤ 64) : SeqAt.shaped d = true := by
  unfold SeqAt.shaped
  rw [h.lay, decide_eq_true (Nat.le_trans h.dep hn)]
  rfl
theorem log_small {i : Int} (h : i.natAbs < 10 ^ 99) : i.natAbs.log2 < 400 :=
  PySem.Flt.log2_lt_of (by decide) (Nat.lt_of_lt_of_le h (by decide +kernel))
theorem Nice.int {i : Int} (h : i.natAbs < 10 ^ 99) : Nice 0 100 (.int i) := by
  refine ⟨rfl, Nat.le_refl _, ?_, rfl, ?_⟩
  · have := log_small h
    simp only [PyData.showable, decide_eq_true_eq]
    omega
  · have e := int_text_length_le10 (k := 99) (by decide) h
    show (Str.ofString (toString i)).length ≤ 100
    rw [PySem.ofString_length]
    exact e
theorem Nice.bool (b : Bool) : Nice 0 5 (.bool b) := by
  refine ⟨rfl, Nat.le_refl _, rfl, rfl, ?_⟩
  cases b <;> decide
theorem Nice.none : Nice 0 4 .none := ⟨rfl, Nat.le_refl _, rfl, rfl, by decide⟩
theorem niceAll {n m : Nat} : ∀ {ds : List PyData}, (∀ d ∈ ds, Nice n m d) → PyData.canLayAll0 ds = true ∧ PyData.depthAll ds ≤ n ∧ PyData.showableAll ds = true ∧ PyData.hasDictAll ds = false ∧
    ((PyData.shownAll ds).map (·.length)).sum ≤ ds.length * m ∧ (PyData.shownAll ds).length = ds.length
  | [], _ => ⟨rfl, Nat.zero_le _, rfl, rfl, by simp [PyData.shownAll], rfl⟩
  | d :: ds, h => by
    have hd := h d List.mem_cons_self
    obtain ⟨a, b, c, e, f, g⟩ := niceAll (ds := ds) fun x hx => h x (List.mem_cons_of_mem _ hx)
    refine ⟨?_, ?_, ?_, ?_, ?_, ?_⟩
    · simp only [PyData.canLayAll0, hd.lay, a, Bool.and_self]
    · simp only [PyData.depthAll]
      exact Nat.max_le.mpr ⟨hd.dep, b⟩
    · simp only [PyData.showableAll, hd.sho, c, Bool.and_self]
    · simp only [PyData.hasDictAll, hd.nod, e, Bool.or_self]
    · simp only [PyData.shownAll, List.map_cons, List.sum_cons, List.length_cons]
      have := hd.len
      rw [Nat.succ_mul]
      omega
    · simp only [PyData.shownAll, List.length_cons, g]
theorem Nice.tuple {n m k : Nat} {ds : List PyData} (h : ∀ d ∈ ds, Nice n m d) (hk : ds.length ≤ k) : Nice (n + 1) (k * m + 2 * k + 3) (.tuple ds) := by
  obtain ⟨a, b, c, e, f, g⟩ := niceAll h
  refine ⟨a, by simp only [PyData.depth]; omega, c, e, ?_⟩
  have l := tupleText_len_le (PyData.shownAll ds)
  simp only [PyData.shown]
  rw [g] at l
  have l2 : ds.length * m ≤ k * m := Nat.mul_le_mul_right _ hk
  omega
theorem Nice.list {n m k : Nat} {ds : List PyData} (h : ∀ d ∈ ds, Nice n m d) (hk : ds.length ≤ k) : Nice (n + 1) (k * m + 2 * k + 3) (.list ds) := by
  obtain ⟨a, b, c, e, f, g⟩ := niceAll h
  refine ⟨a, by simp only [PyData.depth]; omega, c, e, ?_⟩
  have l := listText_len_le (PyData.shownAll ds)
  simp only [PyData.shown]
  rw [g] at l
  have l2 : ds.length * m ≤ k * m := Nat.mul_le_mul_right _ hk
  omega
theorem shaped_ints (l : List Int) : SeqAt.shaped (.list (l.map PyData.int)) = true := by
  unfold SeqAt.shaped
  have h : PyData.canLayAll0 (l.map PyData.int) = true ∧ PyData.depthAll (l.map PyData.int) = 0 := by
    induction l with
    | nil => exact ⟨rfl, rfl⟩
    | cons x r ih => exact ⟨by simp only [List.map_cons, PyData.canLayAll0, PyData.canLay0, ih.1, Bool.and_self], by simp only [List.map_cons, PyData.depthAll, PyData.depth, ih.2, Nat.max_self]⟩
  simp only [PyData.canLay0, PyData.depth, h.1, h.2, Bool.true_and, decide_eq_true_eq]
  decide
theorem dp_ints (K : PySem.W.Frag) (H : Hp) : ∀ l : List Int, DpAll K H (l.map V.int) (l.map PyData.int)
  | [] => .nil
  | x :: r => .cons (.int x) (dp_ints K H r)
theorem eqv_ints : ∀ l m : List Int, PyData.eqvAll (l.map PyData.int) (m.map PyData.int) = decide (l = m)
  | [], [] => rfl
  | [], _ :: _ => rfl
  | _ :: _, [] => rfl
  | x :: r, y :: t => by
    simp only [List.map_cons, PyData.eqvAll, PyData.eqv, eqv_ints r t, List.cons.injEq]
    by_cases h : x = y <;> simp [h]
theorem div_wide {i j : Int} (h : 0 < j) (h2 : j < 2 ^ 100) : CDivW i j := wide_div (b := 100) h (by omega) (by decide) (by decide)
end Sb

/-! Data that never changes: scalars and tuples of them, at any depth. -/
namespace Sb
open PySem PySem.Spec PyProof.Rows L2
mutual
inductive TD (H : Hp) : V → PyData → Prop
  | non : TD H .non .none
  | bl (b : Bool) : TD H (.bl b) (.bool b)
  | int (i : Int) : TD H (.int i) (.int i)
  | str (x : Str) : TD H (.str x) (.str x)
  | tup {a : Addr} {xs : List V} {ds : List PyData} : H a = some (.tup xs) → TDs H xs ds → TD H (.ref a) (.tuple ds)
inductive TDs (H : Hp) : List V → List PyData → Prop
  | nil : TDs H [] []
  | cons {v : V} {vs : List V} {d : PyData} {ds : List PyData} : TD H v d → TDs H vs ds → TDs H (v :: vs) (d :: ds)
end
/-- tuples stay -/
def Tups (H H' : Hp) : Prop := ∀ a xs, H a = some (.tup xs) → H' a = some (.tup xs)
theorem Tups.refl {H : Hp} : Tups H H := fun _ _ h => h
theorem Tups.trans {H H1 H2 : Hp} (a : Tups H H1) (b : Tups H1 H2) : Tups H H2 := fun x y h => b x y (a x y h)
theorem Tups.same {H H' : Hp} (h : Same H H') : Tups H H' := fun a xs e => h a _ e
theorem Tups.new {H : Hp} {a : Addr} {o : HO} (h : H a = none) : Tups H (upd H a o) := fun b xs e => by
  rw [upd_ne (ne_of_none e h)]
  exact e
theorem Tups.put {H : Hp} {a : Addr} {o u : HO} (h : H a = some u) (hu : ∀ xs, u ≠ .tup xs) : Tups H (upd H a o) := fun b xs e => by
  rw [upd_ne (ne_of e h (hu xs).symm)]
  exact e
theorem Tups.lst {H : Hp} {a : Addr} {o : HO} {l : List V} (h : H a = some (.lst l)) : Tups H (upd H a o) := Tups.put h (fun _ z => by cases z)
mutual
theorem TD.mono {H H' : Hp} (t : Tups H H') : ∀ {v : V} (d : PyData), TD H v d → TD H' v d
  | _, .none, h => by cases h; exact .non
  | _, .bool b, h => by cases h; exact .bl b
  | _, .int i, h => by cases h; exact .int i
  | _, .str x, h => by cases h; exact .str x
  | _, .tuple ds, h => by
    cases h with
    | tup e r => exact .tup (t _ _ e) (TDs.mono t ds r)
  | _, .list _, h => by cases h
  | _, .dict _, h => by cases h
theorem TDs.mono {H H' : Hp} (t : Tups H H') : ∀ {vs : List V} (ds : List PyData), TDs H vs ds → TDs H' vs ds
  | _, [], h => by cases h; exact .nil
  | _, d :: ds, h => by
    cases h with
    | cons a r => exact .cons (TD.mono t d a) (TDs.mono t ds r)
end
mutual
theorem TD.dp {K : PySem.W.Frag} {H : Hp} : ∀ {v : V} (d : PyData), TD H v d → Dp K H v d
  | _, .none, h => by cases h; exact .non
  | _, .bool b, h => by cases h; exact .bl b
  | _, .int i, h => by cases h; exact .int i
  | _, .str x, h => by cases h; exact .str x
  | _, .tuple ds, h => by
    cases h with
    | tup e r => exact .tup (SqT.of e) (TDs.dp ds r)
  | _, .list _, h => by cases h
  | _, .dict _, h => by cases h
theorem TDs.dp {K : PySem.W.Frag} {H : Hp} : ∀ {vs : List V} (ds : List PyData), TDs H vs ds → DpAll K H vs ds
  | _, [], h => by cases h; exact .nil
  | _, d :: ds, h => by
    cases h with
    | cons a r => exact .cons (TD.dp d a) (TDs.dp ds r)
end
theorem TDs.length {H : Hp} : ∀ {vs : List V} {ds : List PyData}, TDs H vs ds → vs.length = ds.length
  | _, _, .nil => rfl
  | _, _, .cons _ r => congrArg (· + 1) r.length
theorem TDs.get {H : Hp} : ∀ {vs : List V} {ds : List PyData} {i : Nat} {v : V}, TDs H vs ds → vs[i]? = some v → ∃ d, ds[i]? = some d ∧ TD H v d
  | _, _, _, _, .nil, e => by simp at e
  | _, _, 0, _, .cons a _, e => by
    simp at e
    subst e
    exact ⟨_, rfl, a⟩
  | _, _, i + 1, v, .cons _ r, e => by
    obtain ⟨d, h1, h2⟩ := TDs.get (i := i) (v := v) r (by simpa using e)
    exact ⟨d, by simpa using h1, h2⟩
theorem TDs.at {H : Hp} : ∀ {vs : List V} {ds : List PyData} {i : Nat} {d : PyData}, TDs H vs ds → ds[i]? = some d → ∃ v, vs[i]? = some v ∧ TD H v d
  | _, _, _, _, .nil, e => by simp at e
  | _, _, 0, _, .cons a _, e => by
    simp at e
    subst e
    exact ⟨_, rfl, a⟩
  | _, _, i + 1, v, .cons _ r, e => by
    obtain ⟨d, h1, h2⟩ := TDs.at (i := i) (d := v) r (by simpa using e)
    exact ⟨d, by simpa using h1, h2⟩
theorem TDs.app {H : Hp} : ∀ {vs us : List V} {ds es : List PyData}, TDs H vs ds → TDs H us es → TDs H (vs ++ us) (ds ++ es)
  | _, _, _, _, .nil, s => s
  | _, _, _, _, .cons a r, s => .cons a (r.app s)
theorem TDs.take {H : Hp} : ∀ {vs : List V} {ds : List PyData} (n : Nat), TDs H vs ds → TDs H (vs.take n) (ds.take n)
  | _, _, 0, _ => .nil
  | _, _, _ + 1, .nil => .nil
  | _, _, n + 1, .cons a r => .cons a (r.take n)
theorem TDs.drop {H : Hp} : ∀ {vs : List V} {ds : List PyData} (n : Nat), TDs H vs ds → TDs H (vs.drop n) (ds.drop n)
  | _, _, 0, r => r
  | _, _, _ + 1, .nil => .nil
  | _, _, n + 1, .cons _ r => r.drop n
theorem TDs.ints {H : Hp} : ∀ {vs : List V} {ns : List Int}, TDs H vs (ns.map PyData.int) → vs = ns.map V.int
  | _, [], h => by cases h; rfl
  | _, n :: ns, h => by
    cases h with
    | cons a r =>
      cases a
      rw [List.map_cons, r.ints]
theorem TDs.ofInts {H : Hp} : ∀ {ns : List Int}, TDs H (ns.map V.int) (ns.map PyData.int)
  | [] => .nil
  | n :: ns => .cons (.int n) TDs.ofInts
/-- a tuple at v -/
theorem TD.isTup {H : Hp} {v : V} {ds : List PyData} (h : TD H v (.tuple ds)) : ∃ a xs, v = .ref a ∧ H a = some (.tup xs) ∧ TDs H xs ds := by
  cases h with
  | tup e r => exact ⟨_, _, rfl, e, r⟩
theorem TD.isInt {H : Hp} {v : V} {i : Int} (h : TD H v (.int i)) : v = .int i := by cases h; rfl
/-- a pair of ints -/
theorem TD.pair {H : Hp} {v : V} {i j : Int} (h : TD H v (.tuple [.int i, .int j])) : ∃ a, v = .ref a ∧ H a = some (.tup [.int i, .int j]) := by
  obtain ⟨a, xs, rfl, e, r⟩ := h.isTup
  cases r with
  | cons h1 r =>
    cases r with
    | cons h2 r =>
      cases r
      cases h1
      cases h2
      exact ⟨a, rfl, e⟩
theorem TD.ofPair {H : Hp} {a : Addr} {i j : Int} (h : H a = some (.tup [.int i, .int j])) : TD H (.ref a) (.tuple [.int i, .int j]) := .tup h (.cons (.int i) (.cons (.int j) .nil))

/-! ### streams -/
def msgD (m : Int × Int) : PyData := .tuple [.int m.1, .int m.2]
def strmD (ms : List (Int × Int)) : PyData := .tuple (ms.map msgD)
theorem msgD_inj {a b : Int × Int} (h : PyData.eqv (msgD a) (msgD b) = true) : a = b := by
  obtain ⟨a1, a2⟩ := a
  obtain ⟨b1, b2⟩ := b
  simp only [msgD, PyData.eqv, PyData.eqvAll, Bool.and_true, Bool.and_eq_true, beq_iff_eq] at h
  rw [h.1, h.2]
theorem eqv_msgs : ∀ a b : List (Int × Int), PyData.eqvAll (a.map msgD) (b.map msgD) = decide (a = b)
  | [], [] => rfl
  | [], _ :: _ => rfl
  | _ :: _, [] => rfl
  | x :: r, y :: t => by
    have ih := eqv_msgs r t
    by_cases h : x = y
    · subst h
      have e : PyData.eqv (msgD x) (msgD x) = true := by simp [msgD, PyData.eqv, PyData.eqvAll]
      simp only [List.map_cons, PyData.eqvAll, e, ih, Bool.true_and, List.cons.injEq, true_and]
    · have e : PyData.eqv (msgD x) (msgD y) = false := by
        cases q : PyData.eqv (msgD x) (msgD y) with
        | false => rfl
        | true => exact absurd (msgD_inj q) h
      simp only [List.map_cons, PyData.eqvAll, e, Bool.false_and, List.cons.injEq, h, false_and, decide_false]
theorem eqv_strm (a b : List (Int × Int)) : PyData.eqv (strmD a) (strmD b) = decide (a = b) := by
  simp only [strmD, PyData.eqv]
  exact eqv_msgs a b
/-- a stream of ints that are not too long -/
def Short (ms : List (Int × Int)) : Prop := ∀ m ∈ ms, m.1.natAbs < 10 ^ 99 ∧ m.2.natAbs < 10 ^ 99
theorem nice_msg {m : Int × Int} (h : m.1.natAbs < 10 ^ 99 ∧ m.2.natAbs < 10 ^ 99) : Nice 1 207 (msgD m) := by
  refine Nice.tuple (n := 0) (m := 100) (k := 2) (fun d hd => ?_) (Nat.le_refl 2)
  simp only [List.mem_cons, List.not_mem_nil, or_false] at hd
  rcases hd with rfl | rfl
  · exact Nice.int h.1
  · exact Nice.int h.2
theorem nice_strm {ms : List (Int × Int)} {k : Nat} (h : Short ms) (hk : ms.length ≤ k) : Nice 2 (k * 207 + 2 * k + 3) (strmD ms) := by
  refine Nice.tuple (n := 1) (m := 207) (k := k) (fun d hd => ?_) (by rw [List.length_map]; exact hk)
  obtain ⟨m, hm, rfl⟩ := List.mem_map.mp hd
  exact nice_msg (h m hm)
theorem TDs.msg {H : Hp} {vs : List V} {ms : List (Int × Int)} {i : Nat} {v : V} (r : TDs H vs (ms.map msgD)) (h : vs[i]? = some v) : ∃ m a, ms[i]? = some m ∧ v = .ref a ∧ H a = some (.tup [.int m.1, .int m.2]) := by
  obtain ⟨d, h1, h2⟩ := r.get h
  rw [List.getElem?_map] at h1
  cases e : ms[i]? with
  | none => rw [e] at h1; cases h1
  | some m =>
    rw [e] at h1
    cases h1
    obtain ⟨a, h3, h4⟩ := TD.pair h2
    exact ⟨m, a, rfl, h3, h4⟩
theorem TDs.msgs_len {H : Hp} {vs : List V} {ms : List (Int × Int)} (r : TDs H vs (ms.map msgD)) : vs.length = ms.length := by
  rw [r.length, List.length_map]
end Sb

namespace Sb
open PySem PySem.Spec PyProof.Rows L2
theorem ne_fr {H : Hp} {a b : Addr} {o : HO} (n : H b = none) (h : H a = some o) : a ≠ b := ne_of_none h n
theorem ne_fr' {H : Hp} {a b : Addr} {o : HO} (n : H b = none) (h : H a = some o) : b ≠ a := (ne_of_none h n).symm
theorem upd_off {H : Hp} {a b : Addr} {o u : HO} (n : b ≠ a) (h : H b = some u) : upd H a o b = some u := by rw [upd_ne n]; exact h
theorem upd_offN {H : Hp} {a b : Addr} {o : HO} (n : b ≠ a) (h : H b = none) : upd H a o b = none := by rw [upd_ne n]; exact h
theorem upd_none {H : Hp} {a b : Addr} {o : HO} (h : upd H a o b = none) : b ≠ a ∧ H b = none := by
  by_cases e : b = a
  · subst e
    rw [upd_same] at h
    cases h
  · rw [upd_ne e] at h
    exact ⟨e, h⟩
local macro_rules | `(tactic| walk_at "ne") => `(tactic| first
  | assumption
  | exact Ne.symm (by assumption)
  | exact ne_fr (by assumption) (by walk_at "hp")
  | exact ne_fr' (by assumption) (by walk_at "hp"))
local macro_rules | `(tactic| walk_at "hp") => `(tactic| first
  | assumption
  | exact upd_same
  | exact upd_off (by walk_at "ne") (by walk_at "hp"))

def top (i : Nat) : Stmt := PySem.Challenge.pw_seenbefore_k03_values_exchanged.main.body.getD i (.Pass ⟨0, 0, 0, 0⟩)
abbrev s_law_pen : Stmt := top 3
abbrev s_law_fresh : Stmt := top 4
abbrev s_law_draw : Stmt := top 5
abbrev s_law_stream : Stmt := top 6
abbrev s_exchanged : Stmt := top 1
abbrev s_law : Stmt := top 7
/-! ### the pen: cells of the script, drawn one by one -/
def cutAll (ns : List Int) (h : ns.length ≤ 63) : cutV (ns.map V.int) none (some 63) = ns.map V.int := by
  unfold cutV
  rw [show HT.sIx (ns.map V.int).length 0 none = 0 from HT.sIx_none _ _, show HT.sIx (ns.map V.int).length (ns.map V.int).length (some 63) = min 63 (ns.map V.int).length from HT.sIx_nat _ _ 63]
  rw [List.drop_zero, Nat.sub_zero, List.length_map, Nat.min_eq_right h]
  exact List.take_of_length_le (by rw [List.length_map]; exact Nat.le_refl _)
/-- but at p, what was tracked is as it was -/
def Keep (p : Addr) (H H' : Hp) : Prop := ∀ b o, H b = some o → b ≠ p → H' b = some o
theorem Keep.refl {p : Addr} {H : Hp} : Keep p H H := fun _ _ h _ => h
theorem Keep.trans {p : Addr} {H H1 H2 : Hp} (a : Keep p H H1) (b : Keep p H1 H2) : Keep p H H2 := fun c o h n => b c o (a c o h n) n
theorem Keep.new {p q : Addr} {H : Hp} {o : HO} (h : H q = none) : Keep p H (upd H q o) := fun b u e _ => by rw [upd_ne (ne_of_none e h)]; exact e
theorem Keep.at {p : Addr} {H H1 : Hp} {o : HO} (a : Keep p H H1) : Keep p H (upd H1 p o) := fun b u e n => by rw [upd_ne n]; exact a b u e n
theorem Keep.same {p : Addr} {H H1 : Hp} (h : Same H H1) : Keep p H H1 := fun b o e _ => h b o e
/-- the pen stands at p, its cells at c -/
def PenIs (H : Hp) (p c : Addr) (ns : List Int) (at_ st : Int) : Prop := H p = some (.lst [.ref c, .int at_, .int st]) ∧ H c = some (.lst (ns.map V.int))
def Pen (H : Hp) (p c : Addr) : Prop := ∃ ns at_ st, PenIs H p c ns at_ st ∧ 0 ≤ at_ ∧ 0 ≤ st ∧ ns.length ≤ 63
theorem PenIs.ne {H : Hp} {p c : Addr} {ns : List Int} {a z : Int} (h : PenIs H p c ns a z) : p ≠ c := by
  refine ne_of h.1 h.2 ?_
  intro e
  cases ns with
  | nil => cases e
  | cons x r => cases e
theorem Pen.ne {H : Hp} {p c : Addr} (h : Pen H p c) : p ≠ c := by
  obtain ⟨_, _, _, h, _⟩ := h
  exact h.ne
theorem Pen.mono {H H' : Hp} {p c : Addr} (h : Pen H p c) (e : Same H H') : Pen H' p c := by
  obtain ⟨ns, a, z, h, r⟩ := h
  exact ⟨ns, a, z, ⟨e _ _ h.1, e _ _ h.2⟩, r⟩
theorem Pen.free {H : Hp} {p c q : Addr} (h : Pen H p c) (e : H q = none) : p ≠ q ∧ c ≠ q := by
  obtain ⟨ns, a, z, h, r⟩ := h
  exact ⟨ne_of_none h.1 e, ne_of_none h.2 e⟩
theorem Pen.tups {H H' : Hp} {p c : Addr} (h : Pen H p c) (k : Keep p H H') : Tups H H' := fun a xs e => by
  obtain ⟨ns, x, z, ⟨h1, _⟩, _⟩ := h
  exact k a _ e (ne_of e h1 (fun z => by cases z))
theorem Pen.at {H : Hp} {p c : Addr} (h : Pen H p c) : ∃ l, H p = some (.lst l) := by
  obtain ⟨ns, x, z, ⟨h1, _⟩, _⟩ := h
  exact ⟨_, h1⟩
theorem Pen.put {H : Hp} {p c a : Addr} {o : HO} (h : Pen H p c) (n1 : a ≠ p) (n2 : a ≠ c) : Pen (upd H a o) p c := by
  obtain ⟨ns, x, z, ⟨h1, h2⟩, r⟩ := h
  exact ⟨ns, x, z, ⟨by rw [upd_ne n1.symm]; exact h1, by rw [upd_ne n2.symm]; exact h2⟩, r⟩
def sp_law_pen (K : PySem.W.Frag) : Sp := fun vs H Q _ => ∃ (a : Addr) (ns : List Int), vs = [.ref a] ∧ SqL K H a (ns.map V.int) ∧ ns.length ≤ 63 ∧
  ∀ p c H', Same H H' → H p = none → H c = none → Pen H' p c → Q (.ref p) H'
def sp_law_fresh : Sp := fun vs H Q _ => ∃ (p c : Addr) (ns : List Int) (a z : Int), vs = [.ref p] ∧ PenIs H p c ns a z ∧ 0 ≤ a ∧ ns.length ≤ 63 ∧
  ∀ r H', 0 ≤ r → Keep p H H' → PenIs H' p c ns (a + 1) z → Q (.int r) H'
def sp_law_draw : Sp := fun vs H Q _ => ∃ (p c : Addr) (many : Int), vs = [.ref p, .int many] ∧ Pen H p c ∧ 0 < many ∧ many < 2 ^ 100 ∧
  ∀ d H', 0 ≤ d → d < many → Keep p H H' → Pen H' p c → Q (.int d) H'
section
variable {P : Program} {w : World} {K : PySem.W.Frag} {mg : Str → Option Value} {base : Heap}
abbrev N_law_pen : List Str := ["script"]
theorem sc_law_pen : FnScope N_law_pen ["script"] (defScope s_law_pen) := ⟨rfl, rfl, rfl, by decide +kernel, rfl, by decide +kernel, by decide +kernel⟩
theorem ok_law_pen {f : Addr} {fd : FuncData} {k : Nat} (F : Fun K "_law_pen" "_law_pen" s_law_pen f fd) (m_list : mg "list" = none) : FnG P w K mg base CX0 (k + 1) f fd ["script"] (sp_law_pen K) := by
  refine okG F sc_law_pen (fun vs H Q E h => ?_) (fun cdv A outer s H vs Q E gd hr h => ?_)
  · obtain ⟨a, ns, rfl, _⟩ := h
    rfl
  · obtain ⟨a, ns, rfl, hS, hl, q⟩ := h
    refine ⟨_,
      (pss_one (ps_ret (pe_lst (pa_cons (pe_callTy call_list_of (by rfl) m_list (by decide +kernel) (pa_cons (pe_slice sl_list (pv 0) po_none (po_some pe_int)) pa_nil)) (pa_cons pe_int (pa_cons pe_int pa_nil))))))
       , ?_⟩
    refine ⟨.ref a, rfl, 63, rfl, a, ns.map V.int, rfl, hS, fun b nb => ?_⟩
    rw [cutAll ns hl]
    refine ⟨b, ns.map V.int, rfl, .inl (.inl (.inl upd_same)), fun c nc => ?_⟩
    refine ⟨(by show 3 ≤ sizeLine; decide), fun p np => ?_⟩
    have s1 : Same H (upd H b (.lst (ns.map V.int))) := fun x o e => by walk_at "hp"
    have nc0 : H c = none := s1.free nc
    have s2 : Same H (upd (upd H b (.lst (ns.map V.int))) c (.lst (ns.map V.int))) := fun x o e => (by walk_at "hp")
    have np0 : H p = none := s2.free np
    have npc : c ≠ p := ne_of_none upd_same np
    refine q p c _ (fun x o e => ?_) np0 nc0 ⟨ns, 0, 0, ⟨upd_same, ?_⟩, by decide, by decide, hl⟩
    · have := s2 x o e
      walk_at "hp"
    · walk_at "hp"
abbrev N_law_fresh : List Str := ["pen", "at", "cell", "p", "state", "found", "turn"]
theorem sc_law_fresh : FnScope N_law_fresh ["pen"] (defScope s_law_fresh) := ⟨rfl, rfl, rfl, by decide +kernel, rfl, by decide +kernel, by decide +kernel⟩
theorem ok_law_fresh {f : Addr} {fd : FuncData} {k : Nat} (F : Fun K "_law_fresh" "_law_fresh" s_law_fresh f fd) (m_len : mg "len" = none) (m_range : mg "range" = none) : FnG P w K mg base CX0 (k + 1) f fd ["pen"] sp_law_fresh := by
  refine okG F sc_law_fresh (fun vs H Q E h => ?_) (fun cdv A outer s H vs Q E gd hr h => ?_)
  · obtain ⟨p, c, ns, a, z, rfl, _⟩ := h
    rfl
  · obtain ⟨p, c, ns, a, z, rfl, hP, ha, hl, q⟩ := h
    obtain ⟨hp, hc⟩ := id hP
    have npc := hP.ne
    refine ⟨_,
      (pss_cons (ps_set (i := 1) sc_law_fresh.nd rfl (.inl rfl) (pe_ix ix_list (pv 0) pe_int (fun _ _ => rfl))) -- at = pen[1]
      (pss_cons (ps_asg (pe_op op_add (pv 1) pe_int) (pg_sub (pv 0) pe_int set_list)) -- pen[1] = at + 1
      (pss_cons (ps_set (i := 2) sc_law_fresh.nd rfl (.inl rfl) pe_int) -- cell = 0
      (C8.pss_cut (ps_if (pt_cmpR (op_neD hr.units) (pe_ix ix_list (pv 0) pe_int (fun _ _ => rfl)) (pe_lst pa_nil) (nomark _)) 
        (pss_one (ps_set (i := 2) sc_law_fresh.nd rfl (.inl rfl) (pe_ix ix_list (pe_ix ix_list (pv 0) pe_int (fun _ _ => rfl)) (pe_op op_mod (pv 1) (pe_callB call_len_seq (by rfl) m_len PySem.boot_len (pa_cons (pe_ix ix_list (pv 0) pe_int (fun _ _ => rfl)) pa_nil))) (fun _ _ => rfl)))) -- cell = pen[0][at % len(pen[0])]
         pss_nil) -- if pen[0] != []:
      (C8.pss_cut (ps_if (PW.pt (pw_and (pt_cmpR op_lt (pv 1) (pe_callB call_len_seq (by rfl) m_len PySem.boot_len (pa_cons (pe_ix ix_list (pv 0) pe_int (fun _ _ => rfl)) pa_nil)) (nomark _)) (pw_and1 (pt_cmpR op_ge (pv 2) (pe_op op_pow pe_int pe_int) (nomark _))))) 
        (pss_one (ps_ret (pe_op op_sub (pv 2) (pe_op op_pow pe_int pe_int)))) -- return cell - 10 ** 18
         pss_nil) -- if at < len(pen[0]) and cell >= 10 ** 18:
      (pss_cons (ps_set (i := 3) sc_law_fresh.nd rfl (.inl rfl) pe_int) -- p = 2305843009213693951
      (pss_cons (ps_set (i := 4) sc_law_fresh.nd rfl (.inl rfl) (pe_op op_mod (pe_op op_add (pe_op op_add (pe_op op_mul (pv 2) pe_int) (pe_op op_mul pe_int (pv 1))) pe_int) (pv 3))) -- state = (cell * 48271 + 40692 * at + 31) % p
      (pss_cons (ps_set (i := 5) sc_law_fresh.nd rfl (.inl rfl) (pv 4)) -- found = state
      (pss_cons (ps_for PassesOwn.never rfl (pi_range1 rfl m_range (pa_cons pe_int pa_nil)) (pg_name (i := 6) sc_law_fresh.nd rfl (.inl rfl)) 
        (pss_cons (ps_set (i := 4) sc_law_fresh.nd rfl (.inl rfl) (pe_op op_mod (pe_op op_add (pe_op op_add (pe_op op_mul (pv 4) (pv 4)) (pe_op op_mul (pe_op op_mul pe_int (pe_op op_add (pv 6) pe_int)) (pe_op op_add (pv 1) pe_int))) (pv 2)) (pv 3))) -- state = (state * state + 69621 * (turn + 1) * (at + 1) + cell) % p
        (pss_one (ps_set (i := 5) sc_law_fresh.nd rfl (.inl rfl) (pe_op op_add (pe_op op_mul (pv 5) (pv 3)) (pv 4)))) -- found = found * p + state
        )) -- for turn in range(6):
      (pss_one (ps_ret (pv 5))) -- return found
      ))))))))) , ?_⟩
    -- at = pen[1]; pen[1] = at + 1; cell = 0
    refine ⟨.ref p, rfl, p, _, 1, .int a, rfl, rfl, .inl (.inl hp), rfl, ?_⟩
    refine ⟨.int a, rfl, a, 1, rfl, rfl, .ref p, rfl, p, _, 1, 1, rfl, rfl, hp, rfl, ?_⟩
    generalize hH1 : upd H p (.lst ([V.ref c, V.int a, V.int z].set 1 (V.int (a + 1)))) = H1
    have hp1 : H1 p = some (.lst [.ref c, .int (a + 1), .int z]) := by rw [← hH1]; exact upd_same
    have hc1 : H1 c = some (.lst (ns.map V.int)) := by rw [← hH1, upd_ne npc.symm]; exact hc
    have kp1 : Keep p H H1 := by rw [← hH1]; exact Keep.refl.at
    clear hH1
    -- if pen[0] != []: cell = ..
    refine ⟨fun σ H' => ∃ cell : Int, σ = [some (.ref p), some (.int a), some (.int cell), none, none, none, none] ∧ Keep p H H' ∧ H' p = some (.lst [.ref c, .int (a + 1), .int z]) ∧ H' c = some (.lst (ns.map V.int)), ?_, ?_⟩
    · refine ⟨.ref p, rfl, p, _, 0, .ref c, rfl, rfl, .inl (.inl hp1), rfl, by show 0 ≤ sizeLine; decide, fun e ne => ?_⟩
      have hc2 : (upd H1 e (.lst [])) c = some (.lst (ns.map V.int)) := by walk_at "hp"
      have hp2 : (upd H1 e (.lst [])) p = some (.lst [.ref c, .int (a + 1), .int z]) := by walk_at "hp"
      have kp2 : Keep p H (upd H1 e (.lst [])) := kp1.trans (Keep.new ne)
      have he2 : (upd H1 e (.lst [])) e = some (.lst []) := upd_same
      generalize upd H1 e (.lst []) = H2 at hc2 hp2 kp2 he2 ⊢
      refine ⟨.list (ns.map PyData.int), .list [], .lst (.inl (.inl hc2)) (dp_ints _ _ ns), .lst (.inl (.inl he2)) .nil, shaped_ints ns, rfl, _, rfl, ite2 (fun hb => ?_) (fun hb => ?_)⟩
      · have hn : 0 < ns.length := by
          cases ns with
          | nil => cases hb
          | cons x r => exact Nat.succ_pos _
        obtain ⟨j, hj, ej⟩ : ∃ j : Nat, j < ns.length ∧ a % (ns.length : Int) = j := by
          refine ⟨(a % (ns.length : Int)).toNat, ?_, ?_⟩
          · have := Int.emod_lt_of_pos a (show (0 : Int) < ns.length by omega)
            have := Int.emod_nonneg a (show (ns.length : Int) ≠ 0 by omega)
            omega
          · have := Int.emod_nonneg a (show (ns.length : Int) ≠ 0 by omega)
            omega
        refine ⟨.ref p, rfl, p, _, 0, .ref c, rfl, rfl, .inl (.inl hp2), rfl, .int a, rfl, .ref p, rfl, p, _, 0, .ref c, rfl, rfl, .inl (.inl hp2), rfl, c, _, rfl, .inl (.inl (.inl hc2)), a, _, rfl, rfl, (by rw [List.length_map]; show (0 : Int) < ns.length; omega), c, _, _, .int ns[j], rfl, rfl, .inl (.inl hc2), ?_, ?_⟩
        · rw [List.length_map, ej]
          exact atI_nat (by rw [List.getElem?_map, List.getElem?_eq_getElem hj]; rfl)
        · exact ⟨ns[j], rfl, kp2, hp2, hc2⟩
      · exact ⟨0, rfl, kp2, hp2, hc2⟩
    · rintro σ H2 ⟨cell, rfl, kp2, hp2, hc2⟩
      have done : ∀ r : Int, 0 ≤ r → Q (.int r) H2 := fun r h0 => q r H2 h0 kp2 ⟨hp2, hc2⟩
      -- if at < len(pen[0]) and cell >= 10 ** 18: return cell - 10 ** 18
      refine ⟨fun σ H' => σ = [some (.ref p), some (.int a), some (.int cell), none, none, none, none] ∧ H' = H2, ?_, ?_⟩
      · refine ⟨.int a, rfl, .ref p, rfl, p, _, 0, .ref c, rfl, rfl, .inl (.inl hp2), rfl, c, _, rfl, .inl (.inl (.inl hc2)), a, _, rfl, rfl, _, rfl, ite2 (fun h1 => ?_) (fun h1 => ?_)⟩
        · refine ⟨.int cell, rfl, 10, 18, rfl, rfl, ⟨by decide, by decide, by decide⟩, cell, _, rfl, rfl, _, rfl, ite2 (fun h2 => ?_) (fun h2 => ?_)⟩
          · refine ⟨.int cell, rfl, 10, 18, rfl, rfl, ⟨by decide, by decide, by decide⟩, cell, _, rfl, rfl, done _ ?_⟩
            have := of_decide_eq_true h2
            omega
          · exact ⟨rfl, rfl⟩
        · exact ⟨rfl, rfl⟩
      · rintro σ H3 ⟨rfl, rfl⟩
        -- p = ..; state = (cell * 48271 + 40692 * at + 31) % p; found = state
        refine ⟨.int cell, rfl, cell, 48271, rfl, rfl, .inr ⟨by decide, by decide⟩, .int a, rfl, 40692, a, rfl, rfl, .inl ⟨by decide, by decide⟩, _, _, rfl, rfl, _, _, rfl, rfl, .int 2305843009213693951, rfl, _, _, rfl, rfl, (by show (0 : Int) < 2305843009213693951; decide), ?_⟩
        dsimp only
        generalize hst : (cell * 48271 + 40692 * a + 31) % 2305843009213693951 = st
        have h0 : 0 ≤ st := by rw [← hst]; exact Int.emod_nonneg _ (by decide)
        have h1 : st < 2305843009213693951 := by rw [← hst]; exact Int.emod_lt_of_pos _ (by decide)
        clear hst
        refine ⟨.int st, rfl, 6, rfl, by decide, by decide, ?_⟩
        refine for_range (n := 6) (fun _ σ H' => ∃ st fd tn, σ = [some (.ref p), some (.int a), some (.int cell), some (.int 2305843009213693951), some (.int st), some (.int fd), tn] ∧ H' = H3 ∧ 0 ≤ st ∧ st < 2305843009213693951 ∧ 0 ≤ fd) ?_ ?_ ?_
        · exact ⟨st, st, none, rfl, rfl, h0, h1, h0⟩
        · rintro i σ H4 hi ⟨st, fd, tn, rfl, rfl, h0, h1, h2⟩
          have hi' : (i : Int) < 6 := by omega
          refine ⟨.int st, rfl, .int st, rfl, st, st, rfl, rfl, .inl ⟨by omega, by omega⟩, .int (0 + (i : Int)), rfl, 0 + (i : Int), 1, rfl, rfl, 69621, _, rfl, rfl, .inl ⟨by decide, by decide⟩, .int a, rfl, a, 1, rfl, rfl, 69621 * (0 + (i : Int) + 1), a + 1, rfl, rfl, .inl ⟨by omega, by omega⟩, _, _, rfl, rfl, .int cell, rfl, _, _, rfl, rfl, .int 2305843009213693951, rfl, _, _, rfl, rfl, (by show (0 : Int) < 2305843009213693951; decide), ?_⟩
          dsimp only
          generalize hst : (st * st + 69621 * (0 + (i : Int) + 1) * (a + 1) + cell) % 2305843009213693951 = st'
          have h0' : 0 ≤ st' := by rw [← hst]; exact Int.emod_nonneg _ (by decide)
          have h1' : st' < 2305843009213693951 := by rw [← hst]; exact Int.emod_lt_of_pos _ (by decide)
          refine ⟨.int fd, rfl, .int 2305843009213693951, rfl, fd, 2305843009213693951, rfl, rfl, .inr ⟨by decide, by decide⟩, .int st', rfl, _, _, rfl, rfl, ?_⟩
          exact ⟨st', fd * 2305843009213693951 + st', _, rfl, rfl, h0', h1', by omega⟩
        · rintro σ H4 ⟨st, fd, tn, rfl, rfl, h0, h1, h2⟩
          exact ⟨.int fd, rfl, done fd h2⟩
abbrev N_law_draw : List Str := ["pen", "many", "digit"]
theorem sc_law_draw : FnScope N_law_draw ["pen", "many"] (defScope s_law_draw) := ⟨rfl, rfl, rfl, by decide +kernel, rfl, by decide +kernel, by decide +kernel⟩
theorem ok_law_draw {f f_law_fresh : Addr} {fd fd_law_fresh : FuncData} (F : Fun K "_law_draw" "_law_draw" s_law_draw f fd) (F_law_fresh : Fun K "_law_fresh" "_law_fresh" s_law_fresh f_law_fresh fd_law_fresh) (b_law_fresh : Binds K fd_law_fresh ["pen"] []) (g_law_fresh : mg "_law_fresh" = some (.ref f_law_fresh))
    (m_len : mg "len" = none) (m_range : mg "range" = none) : FnG P w K mg base CX0 2 f fd ["pen", "many"] sp_law_draw := by
  have G_law_fresh : FnG P w K mg base CX0 1 f_law_fresh fd_law_fresh ["pen"] sp_law_fresh := ok_law_fresh F_law_fresh m_len m_range
  refine okG F sc_law_draw (fun vs H Q E h => ?_) (fun cdv A outer s H vs Q E gd hr h => ?_)
  · obtain ⟨p, c, m, rfl, _⟩ := h
    rfl
  · obtain ⟨p, c, m, rfl, hP, m0, m1, q⟩ := h
    obtain ⟨ns, a, z, hI, ha, hz, hl⟩ := id hP
    refine ⟨_,
      (C8.pss_cut (ps_if (pt_cmpR op_lt (pe_ix ix_list (pv 0) pe_int (fun _ _ => rfl)) (pv 1) (nomark _)) 
        (pss_one (ps_asg (pe_callG G_law_fresh gd (hr.mono (by decide)) rfl g_law_fresh F_law_fresh.kp b_law_fresh .nil pass0 (pa_cons (pv 0) pa_nil)) (pg_sub (pv 0) pe_int set_list))) -- pen[2] = _law_fresh(pen)
         pss_nil) -- if pen[2] < many:
      (pss_cons (ps_set (i := 2) sc_law_draw.nd rfl (.inl rfl) (pe_op op_mod (pe_ix ix_list (pv 0) pe_int (fun _ _ => rfl)) (pv 1))) -- digit = pen[2] % many
      (pss_cons (ps_asg (pe_op op_fdivW (pe_ix ix_list (pv 0) pe_int (fun _ _ => rfl)) (pv 1)) (pg_sub (pv 0) pe_int set_list)) -- pen[2] = pen[2] // many
      (pss_one (ps_ret (pv 2))) -- return digit
      ))) , ?_⟩
    refine ⟨fun σ H' => σ = [some (.ref p), some (.int m), none] ∧ Keep p H H' ∧ ∃ a z : Int, PenIs H' p c ns a z ∧ 0 ≤ a ∧ 0 ≤ z, ?_, ?_⟩
    · refine ⟨.ref p, rfl, p, _, 2, .int z, rfl, rfl, .inl (.inl hI.1), rfl, .int m, rfl, z, m, rfl, rfl, _, rfl, ite2 (fun h1 => ?_) (fun h1 => ?_)⟩
      · refine ⟨.ref p, rfl, p, c, ns, a, z, rfl, hI, ha, hl, fun r H1 hr0 kp hI1 => ?_⟩
        have ne := hI1.ne
        refine ⟨.ref p, rfl, p, _, 2, 2, rfl, rfl, hI1.1, rfl, rfl, kp.at, a + 1, r, ⟨upd_same, ?_⟩, by omega, hr0⟩
        rw [upd_ne ne.symm]
        exact hI1.2
      · exact ⟨rfl, Keep.refl, a, z, hI, ha, hz⟩
    · rintro σ H1 ⟨rfl, kp, a, z, hI, ha, hz⟩
      have ne := hI.ne
      refine ⟨.ref p, rfl, p, _, 2, .int z, rfl, rfl, .inl (.inl hI.1), rfl, .int m, rfl, z, m, rfl, rfl, m0, ?_⟩
      refine ⟨.ref p, rfl, p, _, 2, .int z, rfl, rfl, .inl (.inl hI.1), rfl, .int m, rfl, z, m, rfl, rfl, div_wide m0 m1, .ref p, rfl, p, _, 2, 2, rfl, rfl, hI.1, rfl, ?_⟩
      refine ⟨.int (z % m), rfl, q _ _ (Int.emod_nonneg _ (by omega)) (Int.emod_lt_of_pos _ m0) kp.at ⟨ns, a, z / m, ⟨upd_same, ?_⟩, ha, Int.ediv_nonneg hz (by omega), hl⟩⟩
      rw [upd_ne ne.symm]
      exact hI.2
end

/-! ### drawn streams -/
def sp_law_stream : Sp := fun vs H Q _ => ∃ (p c : Addr) (w m n : Int), vs = [.ref p, .int w, .int m, .int n] ∧ Pen H p c ∧ 0 < w ∧ w ≤ 3 ∧ 0 ≤ m ∧ m ≤ 100 ∧ 0 < n ∧ n ≤ 90 ∧
  ∀ t ms H', Keep p H H' → Tups H H' → Pen H' p c → TD H' (.ref t) (strmD ms) → (ms.length : Int) ≤ m → (∀ x ∈ ms, 0 ≤ x.1 ∧ x.1 < w ∧ x.2.natAbs < 10 ^ 60) → Q (.ref t) H'
section
variable {P : Program} {w : World} {K : PySem.W.Frag} {mg : Str → Option Value} {base : Heap}
abbrev N_law_stream : List Str := ["pen", "words", "most", "values", "large", "found", "lap"]
theorem sc_law_stream : FnScope N_law_stream ["pen", "words", "most", "values"] (defScope s_law_stream) := ⟨rfl, rfl, rfl, by decide +kernel, rfl, by decide +kernel, by decide +kernel⟩
theorem large_val {x : Int} (h : x = 1 ∨ x = 10 ^ 25 ∨ x = -10 ^ 58) {d n : Int} (h0 : 0 ≤ d) (h1 : d < n) (hn : n ≤ 90) : ((d - 1) * x).natAbs < 10 ^ 60 := by
  rcases h with rfl | rfl | rfl <;> omega
theorem ok_law_stream {f f_law_draw : Addr} {fd fd_law_draw : FuncData} (F : Fun K "_law_stream" "_law_stream" s_law_stream f fd) (F_law_draw : Fun K "_law_draw" "_law_draw" s_law_draw f_law_draw fd_law_draw) (b_law_draw : Binds K fd_law_draw ["pen", "many"] [])
    (g_law_draw : mg "_law_draw" = some (.ref f_law_draw)) (G_law_draw : FnG P w K mg base CX0 2 f_law_draw fd_law_draw ["pen", "many"] sp_law_draw)
    (m_len : mg "len" = none) (m_range : mg "range" = none) (m_tuple : mg "tuple" = none) : FnG P w K mg base CX0 3 f fd ["pen", "words", "most", "values"] sp_law_stream := by
  refine okG F sc_law_stream (fun vs H Q E h => ?_) (fun cdv A outer s H vs Q E gd hr h => ?_)
  · obtain ⟨p, c, w, m, n, rfl, _⟩ := h
    rfl
  · obtain ⟨p, c, w, m, n, rfl, hP, w0, w1, m0, m1, n0, n1, q⟩ := h
    refine ⟨_,
      (C8.pss_cut (ps_set (i := 4) sc_law_stream.nd rfl (.inl rfl) (pe_ix ix_list (pe_lst (pa_cons pe_int (pa_cons pe_int (pa_cons (pe_op op_pow pe_int pe_int) (pa_cons (pe_un un_neg (pe_op op_pow pe_int pe_int)) pa_nil))))) (pe_callG G_law_draw gd (hr.mono (by decide)) rfl g_law_draw F_law_draw.kp b_law_draw .nil pass0 (pa_cons (pv 0) (pa_cons pe_int pa_nil))) (fun _ _ => rfl))) -- large = [1, 1, 10 ** 25, -10 ** 58][_law_draw(pen, 4)]
      (pss_cons (ps_set (i := 5) sc_law_stream.nd rfl (.inl rfl) (pe_lst pa_nil)) -- found = []
      (pss_cons (ps_for PassesOwn.never rfl (pi_range1 rfl m_range (pa_cons (pe_callG G_law_draw gd (hr.mono (by decide)) rfl g_law_draw F_law_draw.kp b_law_draw .nil pass0 (pa_cons (pv 0) (pa_cons (pe_op op_add (pv 2) pe_int) pa_nil))) pa_nil)) (pg_name (i := 6) sc_law_stream.nd rfl (.inl rfl)) 
        (pss_one (ps_expr (pe_bm PySem.F.plainAttrs_list PySem.F.slot_list_append PySem.F.type_list_append mt_append (pv 5) (pa_cons (pe_tup (pa_cons (pe_callG G_law_draw gd (hr.mono (by decide)) rfl g_law_draw F_law_draw.kp b_law_draw .nil pass0 (pa_cons (pv 0) (pa_cons (pv 1) pa_nil))) (pa_cons (pe_op op_mul (pe_op op_sub (pe_callG G_law_draw gd (hr.mono (by decide)) rfl g_law_draw F_law_draw.kp b_law_draw .nil pass0 (pa_cons (pv 0) (pa_cons (pv 3) pa_nil))) pe_int) (pv 4)) pa_nil))) pa_nil)))) -- found.append((_law_draw(pen, words), (_law_draw(pen, values) - 1) * large))
        ) -- for lap in range(_law_draw(pen, most + 1)):
      (pss_one (ps_ret (pe_callTy call_tuple_of (by rfl) m_tuple (by decide +kernel) (pa_cons (pv 5) pa_nil)))) -- return tuple(found)
      ))) , ?_⟩
    -- large = [..][draw]
    refine ⟨fun σ H' => ∃ x : Int, (x = 1 ∨ x = 10 ^ 25 ∨ x = -10 ^ 58) ∧ σ = [some (.ref p), some (.int w), some (.int m), some (.int n), some (.int x), none, none] ∧ Keep p H H' ∧ Tups H H' ∧ Pen H' p c, ?_, ?_⟩
    · refine ⟨10, 25, rfl, rfl, ⟨by decide, by decide, by decide⟩, 10, 58, rfl, rfl, ⟨by decide, by decide, by decide⟩, _, rfl, by show 4 ≤ sizeLine; decide, fun l nl => ?_⟩
      have sm : Same H (upd H l (.lst [.int 1, .int 1, .int (10 ^ 25), .int (-10 ^ 58)])) := fun b o e => by walk_at "hp"
      refine ⟨.ref p, rfl, p, c, 4, rfl, hP.mono sm, by decide, by decide, fun d H1 d0 d1 kp hP1 => ?_⟩
      have hl : H1 l = some (.lst [.int 1, .int 1, .int (10 ^ 25), .int (-10 ^ 58)]) := kp _ _ upd_same (hP.free nl).1.symm
      have k2 : Keep p H H1 := (Keep.same sm).trans kp
      have fin : ∀ x : Int, atI [V.int 1, V.int 1, V.int (10 ^ 25), V.int (-10 ^ 58)] d = some (.int x) → (x = 1 ∨ x = 10 ^ 25 ∨ x = -10 ^ 58) → tVar 0 [some (V.ref l)] H1 (fun _ _ => True) := fun _ _ _ => ⟨_, rfl, trivial⟩
      obtain ⟨x, ex, hx⟩ : ∃ x : Int, atI [V.int 1, V.int 1, V.int (10 ^ 25), V.int (-10 ^ 58)] d = some (.int x) ∧ (x = 1 ∨ x = 10 ^ 25 ∨ x = -10 ^ 58) := by
        have : d = 0 ∨ d = 1 ∨ d = 2 ∨ d = 3 := by omega
        rcases this with rfl | rfl | rfl | rfl
        · exact ⟨1, rfl, .inl rfl⟩
        · exact ⟨1, rfl, .inl rfl⟩
        · exact ⟨10 ^ 25, rfl, .inr (.inl rfl)⟩
        · exact ⟨-10 ^ 58, rfl, .inr (.inr rfl)⟩
      exact ⟨l, _, d, .int x, rfl, rfl, SqL.of hl, ex, x, hx, rfl, k2, hP.tups k2, hP1⟩
    · rintro σ H1 ⟨x, hx, rfl, kp, tp, hP⟩
      -- found = []; for lap in range(draw(pen, most + 1))
      refine ⟨by show 0 ≤ sizeLine; decide, fun l nl => ?_⟩
      have npl := (hP.free nl).1
      have ncl := (hP.free nl).2
      have sm : Same H1 (upd H1 l (.lst [])) := fun b o e => by walk_at "hp"
      refine ⟨.ref p, rfl, .int m, rfl, m, 1, rfl, rfl, p, c, m + 1, rfl, hP.mono sm, by omega, by omega, fun d H2 d0 d1 kp2 hP2 => ?_⟩
      have hl2 : H2 l = some (.lst []) := kp2 _ _ upd_same npl.symm
      have kp3 : Keep p H H2 := kp.trans ((Keep.same sm).trans kp2)
      have tp3 : Tups H H2 := (tp.trans (Tups.same sm)).trans ((hP.mono sm).tups kp2)
      have nlH : H l = none := by
        cases e : H l with
        | none => rfl
        | some o =>
          have z := kp l o e npl.symm
          rw [nl] at z
          cases z
      obtain ⟨n', rfl⟩ : ∃ n' : Nat, d = n' := ⟨d.toNat, by omega⟩
      refine ⟨(n' : Int), rfl, by omega, by omega, ?_⟩
      rw [Int.toNat_natCast]
      refine for_range (n := n') (fun i σ H' => ∃ (y : Option V) (vs : List V) (ms : List (Int × Int)), σ = [some (.ref p), some (.int w), some (.int m), some (.int n), some (.int x), some (.ref l), y] ∧ Keep p H H' ∧ Tups H H' ∧ Pen H' p c ∧
        H' l = some (.lst vs) ∧ TDs H' vs (ms.map msgD) ∧ ms.length = i ∧ ∀ x ∈ ms, 0 ≤ x.1 ∧ x.1 < w ∧ x.2.natAbs < 10 ^ 60) ?_ ?_ ?_
      · exact ⟨none, [], [], rfl, kp3, tp3, hP2, hl2, .nil, rfl, fun _ z => by cases z⟩
      · rintro i σ H3 hi ⟨y, vs, ms, rfl, kp, tp, hP, hl, ht, hlen, hms⟩
        obtain ⟨l0, hl0⟩ := hP.at
        have npl : l ≠ p := by
          intro e
          subst e
          exact absurd rfl npl
        refine ⟨.ref l, rfl, .inl ⟨rfl, _, SqL.of hl⟩, .ref p, rfl, .int w, rfl, p, c, w, rfl, hP, w0, by omega, fun d1 H4 a0 a1 kp4 hP4 => ?_⟩
        refine ⟨.ref p, rfl, .int n, rfl, p, c, n, rfl, hP4, n0, by omega, fun d2 H5 b0 b1 kp5 hP5 => ?_⟩
        refine ⟨d2, 1, rfl, rfl, .int x, rfl, d2 - 1, x, rfl, rfl, .inl ⟨by omega, by omega⟩, by show 2 ≤ sizeLine; decide, fun t nt => ?_⟩
        have kp6 : Keep p H3 H5 := kp4.trans kp5
        have hl5 : H5 l = some (.lst vs) := kp6 _ _ hl npl
        have nlt : l ≠ t := ne_of_none hl5 nt
        have tp6 : Tups H3 (upd H5 t (.tup [.int d1, .int ((d2 - 1) * x)])) := (hP.tups kp6).trans (Tups.new nt)
        have hP6 : Pen (upd H5 t (.tup [.int d1, .int ((d2 - 1) * x)])) p c := hP5.mono (fun b o e => by walk_at "hp")
        have ml : vs.length = i := by rw [ht.msgs_len, hlen]
        refine ⟨l, vs, .ref t, rfl, rfl, by walk_at "hp", small1000 (by omega), _, vs ++ [.ref t], ms ++ [(d1, (d2 - 1) * x)], rfl, ?_, ?_, ?_, upd_same, ?_, by rw [List.length_append, hlen]; rfl, ?_⟩
        · intro b o e ne
          have nbl : b ≠ l := ne_of_none e nlH
          rw [upd_ne nbl, upd_ne (ne_of_none (kp6 b o (kp b o e ne) ne) nt)]
          exact kp6 b o (kp b o e ne) ne
        · exact (tp.trans tp6).trans (Tups.lst (l := vs) (by walk_at "hp"))
        · exact hP6.put npl ncl.symm
        · rw [List.map_append]
          have tl : Tups (upd H5 t (.tup [.int d1, .int ((d2 - 1) * x)])) (upd (upd H5 t (.tup [.int d1, .int ((d2 - 1) * x)])) l (.lst (vs ++ [.ref t]))) := Tups.lst (l := vs) (by walk_at "hp")
          exact ((ht.mono tp6).mono tl).app (.cons (TD.mono tl _ (TD.ofPair upd_same)) .nil)
        · intro y hy
          rcases List.mem_append.mp hy with hy | hy
          · exact hms y hy
          · simp only [List.mem_cons, List.not_mem_nil, or_false] at hy
            subst hy
            exact ⟨a0, a1, large_val hx b0 b1 n1⟩
      · rintro σ H3 ⟨y, vs, ms, rfl, kp, tp, hP, hl, ht, hlen, hms⟩
        refine ⟨.ref l, rfl, l, vs, rfl, .inl ⟨SqL.of hl, fun t nt => ?_⟩⟩
        refine q t ms _ (fun b o e ne => ?_) (tp.trans (Tups.new nt)) (hP.mono fun b o e => by walk_at "hp") (.tup upd_same (ht.mono (Tups.new nt))) (by omega) hms
        rw [upd_ne (ne_of_none (kp b o e ne) nt)]
        exact kp b o e ne
end

/-! ### exchanged -/
def exch (a b : Int) (ms : List (Int × Int)) : List (Int × Int) := ms.map fun m => (m.1, if m.2 = b then a else if m.2 = a then b else m.2)
def sp_exchanged : Sp := fun vs H Q _ => ∃ (t : Addr) (ms : List (Int × Int)) (a b : Int), vs = [.ref t, .int a, .int b] ∧ TD H (.ref t) (strmD ms) ∧ ms.length ≤ 1000 ∧
  ∀ t' H', Same H H' → TD H' (.ref t') (strmD (exch a b ms)) → Q (.ref t') H'
theorem part_val (a b v : Int) : valV (mergeK [] [(Sum.inl a, V.int b), (Sum.inl b, V.int a)]) (Sum.inl v : Key) = if v = b then some (.int a) else if v = a then some (.int b) else none := by
  show valV (putK (putK [] (Sum.inl a : Key) (V.int b)) (Sum.inl b : Key) (V.int a)) (Sum.inl v : Key) = _
  rw [valV_put, valV_put]
  by_cases h : v = b
  · subst h
    rw [if_pos rfl, if_pos rfl]
  · rw [if_neg (fun e => h (Sum.inl.inj e)), if_neg h]
    by_cases h2 : v = a
    · subst h2
      rw [if_pos rfl, if_pos rfl]
    · rw [if_neg (fun e => h2 (Sum.inl.inj e)), if_neg h2]
      rfl
section
variable {P : Program} {w : World} {K : PySem.W.Frag} {mg : Str → Option Value} {base : Heap}
abbrev N_exchanged : List Str := ["stream", "one", "two", "partners", "word", "value"]
theorem sc_exchanged : FnScope N_exchanged ["stream", "one", "two"] (defScope s_exchanged) := ⟨rfl, rfl, rfl, by decide +kernel, rfl, by decide +kernel, by decide +kernel⟩
theorem ok_exchanged {f : Addr} {fd : FuncData} {k : Nat} (F : Fun K "exchanged" "exchanged" s_exchanged f fd) (m_tuple : mg "tuple" = none) : FnG P w K mg base CX0 (k + 1) f fd ["stream", "one", "two"] sp_exchanged := by
  refine okG F sc_exchanged (fun vs H Q E h => ?_) (fun cdv A outer s H vs Q E gd hr h => ?_)
  · obtain ⟨t, ms, a, b, rfl, _⟩ := h
    rfl
  · obtain ⟨t, ms, a, b, rfl, hT, hl, q⟩ := h
    refine ⟨_,
      (pss_cons (ps_set (i := 3) sc_exchanged.nd rfl (.inr rfl) (pe_disp (pps_cons (pv 1) (pv 2) (pps_cons (pv 2) (pv 1) pps_nil)) (by rfl) (by rfl) (fun z => by cases z) (by decide))) -- partners = {one: two, two: one}
      (pss_one (ps_ret (pe_callTy call_tuple_of (by rfl) m_tuple (by decide +kernel) (pa_cons (pe_lc (own := [("word", 4), ("value", 5)]) (g := gTup K 2 (gCons (gName 4) (gCons (gName 5) gNil))) rfl sc_exchanged.nd (pi_tup (pv 0)) (blkOk_by (N := N_exchanged) (sc := defScope s_exchanged) (by decide +kernel)) (fun _ _ _ _ _ => (pg_tup rfl (pgs_cons (pg_name (i := 4) sc_exchanged.nd rfl (.inl rfl)) (pgs_cons (pg_name (i := 5) sc_exchanged.nd rfl (.inl rfl)) pgs_nil)))) (fun _ _ _ _ _ => pts_nil) (fun _ _ _ _ _ => (pe_tup (pa_cons (pv 4) (pa_cons (pe_dget2 (hu_of hr) (pv 3) (pv 5) (pv 5) ⟨by rfl, by rfl, by rfl, by rfl⟩) pa_nil))))) pa_nil)))) -- return tuple([(word, partners.get(value, value)) for word, value in stream])
      ) , ?_⟩
    obtain ⟨t1, xs, e0, ht, hx⟩ := hT.isTup
    cases e0
    intro d nd
    refine ⟨.int a, rfl, .int b, rfl, .int b, rfl, .int a, rfl, upd_same, [(Sum.inl a, V.int b), (Sum.inl b, V.int a)], rfl, by show 2 ≤ 15; decide, ?_⟩
    rw [upd_upd]
    generalize hkv : mergeK [] [((Sum.inl a : Key), V.int b), (Sum.inl b, V.int a)] = kvs
    have sm : Same H (upd H d (.dK kvs)) := fun x o e => by walk_at "hp"
    have hd : upd H d (.dK kvs) d = some (.dK kvs) := upd_same
    generalize upd H d (.dK kvs) = H1 at sm hd ⊢
    have hx1 : TDs H1 xs (ms.map msgD) := hx.mono (Tups.same sm)
    have ht1 := sm _ _ ht
    refine ⟨.ref t, rfl, t, rfl, ⟨_, SqT.of ht1⟩, fun D nD => ?_⟩
    have hvl : ∀ v : Int, (valV kvs (Sum.inl v : Key)).getD (.int v) = .int (if v = b then a else if v = a then b else v) := fun v => by
      rw [← hkv, part_val]
      split
      · rfl
      · split <;> rfl
    refine lc_tup (K := K) (a := t) (xs := xs) (fun i H' => ∃ vs, Same H1 H' ∧ H' D = some (.lst vs) ∧ TDs H' vs ((exch a b (ms.take i)).map msgD)) ?_ ?_ ?_ ?_
    · exact ⟨[], fun b o e => by walk_at "hp", upd_same, .nil⟩
    · rintro i H2 hi ⟨vs, s2, hD, hv⟩
      exact SqT.of (s2 _ _ ht1)
    · rintro i x H2 hi ⟨vs, s2, hD, hv⟩
      obtain ⟨m, ar, em, rfl, har⟩ := hx1.msg hi
      have har2 := s2 _ _ har
      have hd2 := s2 _ _ hd
      refine ⟨ar, [.int m.1, .int m.2], rfl, SqT.of har2, rfl, .int m.1, [.int m.2], rfl, .int m.2, [], rfl, rfl, rfl, ?_⟩
      refine ⟨.int m.1, rfl, .ref d, rfl, d, rfl, .inl ⟨_, .inl hd2⟩, .int m.2, rfl, .int m.2, rfl, _, DGet.k (k := Sum.inl m.2) hd2, by show 2 ≤ sizeLine; decide, fun T nT => ?_⟩
      have e3 : ∀ o, Same H2 (upd H2 T o) := fun o b u e => by walk_at "hp"
      have nDT : D ≠ T := ne_of_none hD nT
      have lv : vs.length ≤ 1000 := by
        rw [hv.msgs_len, exch, List.length_map]
        exact Nat.le_trans (List.length_take_le' _ _) hl
      refine ⟨vs, by walk_at "hp", small1000 lv, vs ++ [.ref T], ?_, upd_same, ?_⟩
      · intro b o e
        have : b ≠ D := ne_of_none e nD
        have := s2 _ _ e
        walk_at "hp"
      · have hv3 := hv.mono (Tups.same (e3 (.tup [.int m.1, (valV kvs (Sum.inl m.2 : Key)).getD (.int m.2)])))
        have tl : Tups (upd H2 T (.tup [.int m.1, (valV kvs (Sum.inl m.2 : Key)).getD (.int m.2)])) (upd (upd H2 T (.tup [.int m.1, (valV kvs (Sum.inl m.2 : Key)).getD (.int m.2)])) D (.lst (vs ++ [.ref T]))) := Tups.lst (l := vs) (by walk_at "hp")
        have et : (exch a b (ms.take (i + 1))) = exch a b (ms.take i) ++ [(m.1, if m.2 = b then a else if m.2 = a then b else m.2)] := by
          unfold exch
          rw [List.take_add_one, em, List.map_append]
          rfl
        rw [et, List.map_append]
        refine (hv3.mono tl).app (.cons (TD.mono tl _ ?_) .nil)
        rw [hvl]
        exact TD.ofPair upd_same
    · rintro H2 ⟨vs, s2, hD, hv⟩
      have ex : exch a b (ms.take xs.length) = exch a b ms := by rw [hx.msgs_len, List.take_length]
      rw [ex] at hv
      refine ⟨D, vs, rfl, .inl ⟨SqL.of hD, fun t' nt => ?_⟩⟩
      refine q t' _ (fun b o e => ?_) (.tup upd_same (hv.mono (Tups.new nt)))
      have := s2 _ _ (sm _ _ e)
      walk_at "hp"
end

/-- where the defs stand -/
structure Txt (K : PySem.W.Frag) (mg : Str → Option Value) (f_law_pen f_law_fresh f_law_draw f_law_stream f_exchanged : Addr) (fd_law_pen fd_law_fresh fd_law_draw fd_law_stream fd_exchanged : FuncData) : Prop where
  F_law_pen : Fun K "_law_pen" "_law_pen" s_law_pen f_law_pen fd_law_pen
  b_law_pen : Binds K fd_law_pen ["script"] []
  g_law_pen : mg "_law_pen" = some (.ref f_law_pen)
  F_law_fresh : Fun K "_law_fresh" "_law_fresh" s_law_fresh f_law_fresh fd_law_fresh
  b_law_fresh : Binds K fd_law_fresh ["pen"] []
  g_law_fresh : mg "_law_fresh" = some (.ref f_law_fresh)
  F_law_draw : Fun K "_law_draw" "_law_draw" s_law_draw f_law_draw fd_law_draw
  b_law_draw : Binds K fd_law_draw ["pen", "many"] []
  g_law_draw : mg "_law_draw" = some (.ref f_law_draw)
  F_law_stream : Fun K "_law_stream" "_law_stream" s_law_stream f_law_stream fd_law_stream
  b_law_stream : Binds K fd_law_stream ["pen", "words", "most", "values"] []
  g_law_stream : mg "_law_stream" = some (.ref f_law_stream)
  F_exchanged : Fun K "exchanged" "exchanged" s_exchanged f_exchanged fd_exchanged
  b_exchanged : Binds K fd_exchanged ["stream", "one", "two"] []
  g_exchanged : mg "exchanged" = some (.ref f_exchanged)
  m_list : mg "list" = none
  m_len : mg "len" = none
  m_range : mg "range" = none
  m_tuple : mg "tuple" = none
  m_repr : mg "repr" = none
/-! ### the law -/
theorem atI_ints {ns : List Int} {d : Int} (h0 : 0 ≤ d) (h1 : d < ns.length) : ∃ n, n ∈ ns ∧ atI (ns.map V.int) d = some (.int n) := by
  obtain ⟨j, rfl⟩ : ∃ j : Nat, d = j := ⟨d.toNat, by omega⟩
  have hj : j < ns.length := by omega
  exact ⟨ns[j], List.getElem_mem hj, atI_nat (by rw [List.getElem?_map, List.getElem?_eq_getElem hj]; rfl)⟩
theorem exch_eq (a b v : Int) : (if v = a then b else if v = b then a else v) = (if v = b then a else if v = a then b else v) := by
  by_cases h : v = a
  · subst h
    by_cases h2 : v = b
    · subst h2; simp
    · simp [h2]
  · simp [h]
theorem exch_two (a b v : Int) : (if (if v = b then a else if v = a then b else v) = a then b else if (if v = b then a else if v = a then b else v) = b then a else (if v = b then a else if v = a then b else v)) = v := by
  by_cases h : v = b
  · subst h
    simp
  · by_cases h2 : v = a
    · subst h2
      by_cases h3 : b = v
      · subst h3; simp
      · simp [h, h3]
    · simp [h, h2]
theorem exch_back (a b : Int) (ms : List (Int × Int)) : exch b a (exch a b ms) = ms := by
  unfold exch
  rw [List.map_map]
  conv => rhs; rw [← List.map_id ms]
  refine List.map_congr_left fun m _ => ?_
  obtain ⟨w, v⟩ := m
  show (w, _) = (w, v)
  rw [Prod.mk.injEq]
  exact ⟨rfl, exch_two a b v⟩
theorem exch_swap (a b : Int) (ms : List (Int × Int)) : exch b a ms = exch a b ms := by
  unfold exch
  refine List.map_congr_left fun m _ => ?_
  rw [exch_eq a b m.2]
theorem exch_len (a b : Int) (ms : List (Int × Int)) : (exch a b ms).length = ms.length := by simp [exch]
theorem exch_short {a b : Int} {ms : List (Int × Int)} (h : Short ms) (ha : a.natAbs < 10 ^ 99) (hb : b.natAbs < 10 ^ 99) : Short (exch a b ms) := by
  intro m hm
  obtain ⟨x, hx, rfl⟩ := List.mem_map.mp hm
  refine ⟨(h x hx).1, ?_⟩
  show (if x.2 = b then a else if x.2 = a then b else x.2).natAbs < _
  split
  · exact ha
  · split
    · exact hb
    · exact (h x hx).2
section
variable {P : Program} {w : World} {K : PySem.W.Frag} {mg : Str → Option Value} {base : Heap}
def sp_law (K : PySem.W.Frag) : Sp := fun vs H Q _ => ∃ (a : Addr) (ns : List Int), vs = [.ref a] ∧ SqL K H a (ns.map V.int) ∧ ns.length ≤ 63 ∧ ∀ H', Q (.bl true) H'
abbrev N_law : List Str := ["script", "pen", "turn", "stream", "values", "word", "value", "one", "other", "due", "before"]
theorem sc_law : FnScope N_law ["script"] (defScope s_law) := ⟨rfl, rfl, rfl, by decide +kernel, rfl, by decide +kernel, by decide +kernel⟩
theorem ok_law {f f_law_pen f_law_fresh f_law_draw f_law_stream f_exchanged : Addr} {fd fd_law_pen fd_law_fresh fd_law_draw fd_law_stream fd_exchanged : FuncData} (F : Fun K "law" "law" s_law f fd)
    (T : Txt K mg f_law_pen f_law_fresh f_law_draw f_law_stream f_exchanged fd_law_pen fd_law_fresh fd_law_draw fd_law_stream fd_exchanged) : FnG P w K mg base CX0 4 f fd ["script"] (sp_law K) := by
  obtain ⟨F_law_pen, b_law_pen, g_law_pen, F_law_fresh, b_law_fresh, g_law_fresh, F_law_draw, b_law_draw, g_law_draw, F_law_stream, b_law_stream, g_law_stream, F_exchanged, b_exchanged, g_exchanged, m_list, m_len, m_range, m_tuple, m_repr⟩ := T
  have G_law_pen : FnG P w K mg base CX0 1 f_law_pen fd_law_pen ["script"] (sp_law_pen K) := ok_law_pen F_law_pen m_list
  have G_law_draw : FnG P w K mg base CX0 2 f_law_draw fd_law_draw ["pen", "many"] sp_law_draw := ok_law_draw F_law_draw F_law_fresh b_law_fresh g_law_fresh m_len m_range
  have G_law_stream : FnG P w K mg base CX0 3 f_law_stream fd_law_stream ["pen", "words", "most", "values"] sp_law_stream := ok_law_stream F_law_stream F_law_draw b_law_draw g_law_draw G_law_draw m_len m_range m_tuple
  have G_exchanged : FnG P w K mg base CX0 1 f_exchanged fd_exchanged ["stream", "one", "two"] sp_exchanged := ok_exchanged F_exchanged m_tuple
  refine okG F sc_law (fun vs H Q E h => ?_) (fun cdv A outer s H vs Q E gd hr h => ?_)
  · obtain ⟨a, ns, rfl, _⟩ := h
    rfl
  · obtain ⟨a, ns, rfl, hS, hl, q⟩ := h
    refine ⟨_, 
      (pss_cons (ps_set (i := 1) sc_law.nd rfl (.inl rfl) (pe_callG G_law_pen gd (hr.mono (by decide)) rfl g_law_pen F_law_pen.kp b_law_pen .nil pass0 (pa_cons (pv 0) pa_nil))) -- pen = _law_pen(script)
      (pss_cons (ps_for PassesOwn.never rfl (pi_range1 rfl m_range (pa_cons pe_int pa_nil)) (pg_name (i := 2) sc_law.nd rfl (.inl rfl)) 
        (C8.pss_cut (ps_set (i := 3) sc_law.nd rfl (.inl rfl) (pe_callG G_law_stream gd (hr.mono (by decide)) rfl g_law_stream F_law_stream.kp b_law_stream .nil pass0 (pa_cons (pv 1) (pa_cons pe_int (pa_cons pe_int (pa_cons pe_int pa_nil)))))) -- stream = _law_stream(pen, 3, 12, 5)
        (C8.pss_cut (ps_set (i := 4) sc_law.nd rfl (.inl rfl) (pe_op op_cat (pe_lc (own := [("word", 5), ("value", 6)]) (g := gTup K 2 (gCons (gName 5) (gCons (gName 6) gNil))) rfl sc_law.nd (pi_tup (pv 3)) (blkOk_by (N := N_law) (sc := defScope s_law) (by decide +kernel)) (fun _ _ _ _ _ => (pg_tup rfl (pgs_cons (pg_name (i := 5) sc_law.nd rfl (.inl rfl)) (pgs_cons (pg_name (i := 6) sc_law.nd rfl (.inl rfl)) pgs_nil)))) (fun _ _ _ _ _ => pts_nil) (fun _ _ _ _ _ => (pv 6))) (pe_lst (pa_cons (pe_callG G_law_draw gd (hr.mono (by decide)) rfl g_law_draw F_law_draw.kp b_law_draw .nil pass0 (pa_cons (pv 1) (pa_cons pe_int pa_nil))) (pa_cons (pe_op op_add (pe_op op_pow pe_int pe_int) (pe_callG G_law_draw gd (hr.mono (by decide)) rfl g_law_draw F_law_draw.kp b_law_draw .nil pass0 (pa_cons (pv 1) (pa_cons pe_int pa_nil)))) (pa_cons (pe_un un_neg pe_int) pa_nil)))))) -- values = [value for word, value in stream] + [_law_draw(pen, 5), 10 ** 59 + _law_draw(pen, 9), -7]
        (C8.pss_cut (ps_par (i := 7) (j := 8) rfl sc_law.nd rfl rfl (by decide) rfl rfl (pa_cons (pe_ix ix_list (pv 4) (pe_callG G_law_draw gd (hr.mono (by decide)) rfl g_law_draw F_law_draw.kp b_law_draw .nil pass0 (pa_cons (pv 1) (pa_cons (pe_callB call_len_seq (by rfl) m_len PySem.boot_len (pa_cons (pv 4) pa_nil)) pa_nil))) (fun _ _ => rfl)) (pa_cons (pe_ix ix_list (pv 4) (pe_callG G_law_draw gd (hr.mono (by decide)) rfl g_law_draw F_law_draw.kp b_law_draw .nil pass0 (pa_cons (pv 1) (pa_cons (pe_callB call_len_seq (by rfl) m_len PySem.boot_len (pa_cons (pv 4) pa_nil)) pa_nil))) (fun _ _ => rfl)) pa_nil)) rfl) -- one, other = (values[_law_draw(pen, len(values))], values[_law_draw(pen, len(values))])
        (pss_cons (ps_set (i := 9) sc_law.nd rfl (.inl rfl) (pe_lst pa_nil)) -- due = []
        (C8.pss_cut (ps_for PassesOwn.never rfl (pi_tup (pv 3)) (pg_tup rfl (pgs_cons (pg_name (i := 5) sc_law.nd rfl (.inl rfl)) (pgs_cons (pg_name (i := 6) sc_law.nd rfl (.inl rfl)) pgs_nil))) 
          (C8.pss_cut (ps_if (pt_cmpR op_eq (pv 6) (pv 7) (nomark _)) 
            (pss_one (ps_set (i := 6) sc_law.nd rfl (.inl rfl) (pv 8))) -- value = other
             
            (pss_one (ps_if (pt_cmpR op_eq (pv 6) (pv 8) (nomark _)) 
              (pss_one (ps_set (i := 6) sc_law.nd rfl (.inl rfl) (pv 7))) -- value = one
               pss_nil)) -- if value == other:
            ) -- if value == one:
          (pss_one (ps_expr (pe_bm PySem.F.plainAttrs_list PySem.F.slot_list_append PySem.F.type_list_append mt_append (pv 9) (pa_cons (pe_tup (pa_cons (pv 5) (pa_cons (pv 6) pa_nil))) pa_nil)))) -- due.append((word, value))
          )) -- for word, value in stream:
        (C8.pss_cut (ps_set (i := 10) sc_law.nd rfl (.inl rfl) (pe_callB (call_reprD gd hr.units) (by rfl) m_repr (by decide +kernel) (pa_cons (pv 3) pa_nil))) -- before = repr(stream)
        (C8.pss_cut (ps_if (PW.pt (pw_or (pt_cmpR op_ne (pe_callB (call_reprD gd hr.units) (by rfl) m_repr (by decide +kernel) (pa_cons (pe_callG G_exchanged gd (hr.mono (by decide)) rfl g_exchanged F_exchanged.kp b_exchanged .nil pass0 (pa_cons (pv 3) (pa_cons (pv 7) (pa_cons (pv 8) pa_nil)))) pa_nil)) (pe_callB (call_reprD gd hr.units) (by rfl) m_repr (by decide +kernel) (pa_cons (pe_callTy call_tuple_of (by rfl) m_tuple (by decide +kernel) (pa_cons (pv 9) pa_nil)) pa_nil)) (nomark _)) (pw_or1 (pt_cmpR op_ne (pe_callB (call_reprD gd hr.units) (by rfl) m_repr (by decide +kernel) (pa_cons (pv 3) pa_nil)) (pv 10) (nomark _))))) 
          (pss_one (ps_ret pe_bl)) -- return False
           pss_nil) -- if repr(exchanged(stream, one, other)) != repr(tuple(due)) or repr(stream) != before:
        (pss_one (ps_if (PW.pt (pw_or (pt_cmpR (op_neD hr.units) (pe_callG G_exchanged gd (hr.mono (by decide)) rfl g_exchanged F_exchanged.kp b_exchanged .nil pass0 (pa_cons (pe_callTy call_tuple_of (by rfl) m_tuple (by decide +kernel) (pa_cons (pv 9) pa_nil)) (pa_cons (pv 8) (pa_cons (pv 7) pa_nil)))) (pv 3) (nomark _)) (pw_or1 (pt_cmpR (op_neD hr.units) (pe_callG G_exchanged gd (hr.mono (by decide)) rfl g_exchanged F_exchanged.kp b_exchanged .nil pass0 (pa_cons (pv 3) (pa_cons (pv 8) (pa_cons (pv 7) pa_nil)))) (pe_callTy call_tuple_of (by rfl) m_tuple (by decide +kernel) (pa_cons (pv 9) pa_nil)) (nomark _))))) 
          (pss_one (ps_ret pe_bl)) -- return False
           pss_nil)) -- if exchanged(tuple(due), other, one) != stream or exchanged(stream, other, one) != tuple(due):
        )))))))) -- for turn in range(8):
      (pss_one (ps_ret pe_bl)) -- return True
      )) , ?_⟩
    -- pen = _law_pen(script)
    refine ⟨.ref a, rfl, a, ns, rfl, hS, hl, fun p c H1 s1 np nc hP => ?_⟩
    -- for turn in range(8)
    refine ⟨8, rfl, by decide, by decide, ?_⟩
    refine for_range (n := 8) (fun _ σ H' => ∃ x2 x3 x4 x5 x6 x7 x8 x9 x10 : Option V, σ = [some (.ref a), some (.ref p), x2, x3, x4, x5, x6, x7, x8, x9, x10] ∧ Pen H' p c) ?_ ?_ ?_
    · exact ⟨_, _, _, _, _, _, _, _, _, rfl, hP⟩
    · rintro i σ H2 hi ⟨x2, x3, x4, x5, x6, x7, x8, x9, x10, rfl, hP⟩
      -- stream = _law_stream(pen, 3, 12, 5)
      refine ⟨fun σ H' => ∃ (t : Addr) (ms : List (Int × Int)), σ = [some (.ref a), some (.ref p), some (.int (0 + (i : Int))), some (.ref t), x4, x5, x6, x7, x8, x9, x10] ∧ Pen H' p c ∧ TD H' (.ref t) (strmD ms) ∧ ms.length ≤ 12 ∧ Short ms, ?_, ?_⟩
      · refine ⟨.ref p, rfl, p, c, 3, 12, 5, rfl, hP, by decide, by decide, by decide, by decide, by decide, by decide, fun t ms H3 kp tp hP3 hT hlen hms => ?_⟩
        refine ⟨t, ms, rfl, hP3, hT, by omega, fun m hm => ?_⟩
        obtain ⟨h0, h1, h2⟩ := hms m hm
        exact ⟨by omega, by omega⟩
      rintro σ H3 ⟨t, ms, rfl, hP, hT, hlen, hsh⟩
      -- values = ..
      refine ⟨fun σ H' => ∃ (l : Addr) (ns : List Int), σ = [some (.ref a), some (.ref p), some (.int (0 + (i : Int))), some (.ref t), some (.ref l), x5, x6, x7, x8, x9, x10] ∧ Pen H' p c ∧ TD H' (.ref t) (strmD ms) ∧ H' l = some (.lst (ns.map V.int)) ∧ l ≠ p ∧ 0 < ns.length ∧ ns.length ≤ 15 ∧ ∀ n ∈ ns, n.natAbs < 10 ^ 99, ?_, ?_⟩
      · obtain ⟨_, xs, e0, ht, hx⟩ := hT.isTup
        cases e0
        refine ⟨.ref t, rfl, t, rfl, ⟨_, SqT.of ht⟩, fun D nD => ?_⟩
        have nDp := (hP.free nD).1.symm
        refine lc_tup (K := K) (a := t) (xs := xs) (fun j H' => Same H3 H' ∧ H' D = some (.lst ((ms.take j).map fun m => V.int m.2))) ?_ ?_ ?_ ?_
        · exact ⟨fun b o e => by walk_at "hp", upd_same⟩
        · rintro j H' hj ⟨s2, hD⟩
          exact SqT.of (s2 _ _ ht)
        · rintro j x H' hj ⟨s2, hD⟩
          obtain ⟨m, ar, em, rfl, har⟩ := hx.msg hj
          refine ⟨ar, [.int m.1, .int m.2], rfl, SqT.of (s2 _ _ har), rfl, .int m.1, [.int m.2], rfl, .int m.2, [], rfl, rfl, rfl, ?_⟩
          refine ⟨.int m.2, rfl, _, hD, small1000 (by rw [List.length_map, List.length_take]; omega), fun b o e => ?_, ?_⟩
          · have : b ≠ D := ne_of_none e nD
            have := s2 _ _ e
            walk_at "hp"
          · rw [upd_same, List.take_add_one, em, List.map_append]
            rfl
        · rintro H4 ⟨s2, hD⟩
          rw [hx.msgs_len, List.take_length] at hD
          refine ⟨.ref p, rfl, p, c, 5, rfl, hP.mono s2, by decide, by decide, fun d1 H5 a0 a1 kp5 hP5 => ?_⟩
          refine ⟨10, 59, rfl, rfl, ⟨by decide, by decide, by decide⟩, .ref p, rfl, p, c, 9, rfl, hP5, by decide, by decide, fun d2 H6 b0 b1 kp6 hP6 => ?_⟩
          refine ⟨10 ^ 59, d2, rfl, rfl, 7, rfl, by show 3 ≤ sizeLine; decide, fun B nB => ?_⟩
          have hD6 : H6 D = some (.lst (ms.map fun m => V.int m.2)) := kp6 _ _ (kp5 _ _ hD nDp) nDp
          have nDB : D ≠ B := ne_of_none hD6 nB
          refine ⟨D, B, _, [.int d1, .int (10 ^ 59 + d2), .int (-7)], rfl, rfl, by walk_at "hp", upd_same, by rw [List.length_map]; exact Nat.le_of_lt (small1000 (by show ms.length + 3 ≤ 1000; omega)), fun l nl => ?_⟩
          have sB : Same H6 (upd H6 B (.lst [.int d1, .int (10 ^ 59 + d2), .int (-7)])) := fun b o e => by walk_at "hp"
          have sl : Same H6 (upd (upd H6 B (.lst [.int d1, .int (10 ^ 59 + d2), .int (-7)])) l (.lst ((ms.map fun m => V.int m.2) ++ [.int d1, .int (10 ^ 59 + d2), .int (-7)]))) := sB.trans (fun b o e => by walk_at "hp")
          have hPl := hP6.mono sl
          refine ⟨l, ms.map (·.2) ++ [d1, 10 ^ 59 + d2, -7], rfl, hPl, ?_, ?_, ?_, ?_, ?_, ?_⟩
          · exact TD.mono ((((Tups.same s2).trans ((hP.mono s2).tups kp5)).trans (hP5.tups kp6)).trans (Tups.same sl)) _ hT
          · rw [upd_same, List.map_append, List.map_map]
            rfl
          · exact (ne_of_none (sB _ _ (hP6.at).choose_spec) nl).symm
          · simp
          · simp only [List.length_append, List.length_map, List.length_cons, List.length_nil]
            omega
          · intro n hn
            rcases List.mem_append.mp hn with hn | hn
            · obtain ⟨m, hm, rfl⟩ := List.mem_map.mp hn
              exact (hsh m hm).2
            · simp only [List.mem_cons, List.not_mem_nil, or_false] at hn
              rcases hn with rfl | rfl | rfl <;> omega
      rintro σ H4 ⟨l, ns, rfl, hP, hT, hL, nlp, l0, l1, hns⟩
      -- one, other = ..
      refine ⟨fun σ H' => ∃ one other : Int, σ = [some (.ref a), some (.ref p), some (.int (0 + (i : Int))), some (.ref t), some (.ref l), x5, x6, some (.int one), some (.int other), x9, x10] ∧ Pen H' p c ∧ TD H' (.ref t) (strmD ms) ∧ one.natAbs < 10 ^ 99 ∧ other.natAbs < 10 ^ 99, ?_, ?_⟩
      · refine ⟨.ref l, rfl, .ref p, rfl, .ref l, rfl, l, _, rfl, .inl (SqL.of hL), p, c, _, rfl, hP, by rw [List.length_map]; omega, by rw [List.length_map]; omega, fun d1 H5 a0 a1 kp5 hP5 => ?_⟩
        rw [List.length_map] at a1
        have hL5 := kp5 _ _ hL nlp
        obtain ⟨n1, m1, e1⟩ := atI_ints a0 a1
        refine ⟨l, _, d1, .int n1, rfl, rfl, SqL.of hL5, e1, .ref l, rfl, .ref p, rfl, .ref l, rfl, l, _, rfl, .inl (SqL.of hL5), p, c, _, rfl, hP5, by rw [List.length_map]; omega, by rw [List.length_map]; omega, fun d2 H6 b0 b1 kp6 hP6 => ?_⟩
        rw [List.length_map] at b1
        have hL6 := kp6 _ _ hL5 nlp
        obtain ⟨n2, m2, e2⟩ := atI_ints b0 b1
        exact ⟨l, _, d2, .int n2, rfl, rfl, SqL.of hL6, e2, _, _, rfl, n1, n2, rfl, hP6, TD.mono ((hP.tups kp5).trans (hP5.tups kp6)) _ hT, hns _ m1, hns _ m2⟩
      rintro σ H5 ⟨one, other, rfl, hP, hT, ho, hu⟩
      -- due = []; for ..
      refine ⟨by show 0 ≤ sizeLine; decide, fun d nd => ?_⟩
      refine ⟨fun σ H' => ∃ (y5 y6 : Option V) (vs : List V), σ = [some (.ref a), some (.ref p), some (.int (0 + (i : Int))), some (.ref t), some (.ref l), y5, y6, some (.int one), some (.int other), some (.ref d), x10] ∧ Pen H' p c ∧ TD H' (.ref t) (strmD ms) ∧ H' d = some (.lst vs) ∧ TDs H' vs ((exch one other ms).map msgD), ?_, ?_⟩
      · obtain ⟨_, xs, e0, ht, hx⟩ := hT.isTup
        cases e0
        have ndp := (hP.free nd).1.symm
        have ndc := (hP.free nd).2.symm
        have s5 : Same H5 (upd H5 d (.lst [])) := fun b o e => by walk_at "hp"
        have ht5 := s5 _ _ ht
        refine ⟨.ref t, rfl, t, rfl, ⟨_, SqT.of ht5⟩, ?_⟩
        refine for_tup (K := K) (a := t) (xs := xs) (fun j σ H' => ∃ (y5 y6 : Option V) (vs : List V), σ = [some (.ref a), some (.ref p), some (.int (0 + (i : Int))), some (.ref t), some (.ref l), y5, y6, some (.int one), some (.int other), some (.ref d), x10] ∧ Pen H' p c ∧ Tups H5 H' ∧ H' d = some (.lst vs) ∧ TDs H' vs ((exch one other (ms.take j)).map msgD)) ?_ ?_ ?_ ?_
        · exact ⟨x5, x6, [], rfl, hP.mono s5, Tups.same s5, upd_same, .nil⟩
        · rintro j σ H' hj ⟨y5, y6, vs, rfl, hP', tp, hd, hv⟩
          exact SqT.of (tp _ _ ht)
        · rintro j x σ H' hj ⟨y5, y6, vs, rfl, hP', tp, hd, hv⟩
          obtain ⟨m, ar, em, rfl, har⟩ := hx.msg hj
          refine ⟨ar, [.int m.1, .int m.2], rfl, SqT.of (tp _ _ har), rfl, .int m.1, [.int m.2], rfl, .int m.2, [], rfl, rfl, ?_⟩
          refine ⟨fun σ H'' => σ = [some (.ref a), some (.ref p), some (.int (0 + (i : Int))), some (.ref t), some (.ref l), some (.int m.1), some (.int (if m.2 = one then other else if m.2 = other then one else m.2)), some (.int one), some (.int other), some (.ref d), x10] ∧ H'' = H', ?_, ?_⟩
          · refine ⟨.int m.2, rfl, .int one, rfl, rfl, _, rfl, ite2 (fun h => ?_) (fun h => ?_)⟩
            · have h' : m.2 = one := V.int.inj (of_decide_eq_true h)
              refine ⟨.int other, rfl, ?_⟩
              rw [if_pos h']
              exact ⟨rfl, rfl⟩
            · have h' : ¬ m.2 = one := fun e => h (decide_eq_true (congrArg V.int e))
              refine ⟨.int m.2, rfl, .int other, rfl, rfl, _, rfl, ite2 (fun g => ?_) (fun g => ?_)⟩
              · have g' : m.2 = other := V.int.inj (of_decide_eq_true g)
                refine ⟨.int one, rfl, ?_⟩
                rw [if_neg h', if_pos g']
                exact ⟨rfl, rfl⟩
              · have g' : ¬ m.2 = other := fun e => g (decide_eq_true (congrArg V.int e))
                rw [if_neg h', if_neg g']
                exact ⟨rfl, rfl⟩
          · rintro σ H'' ⟨rfl, rfl⟩
            rw [exch_eq]
            generalize hz : (if m.2 = other then one else if m.2 = one then other else m.2) = z
            have lv : vs.length ≤ 12 := by
              rw [hv.msgs_len, exch_len, List.length_take]
              omega
            refine ⟨.ref d, rfl, .inl ⟨rfl, _, SqL.of hd⟩, .int m.1, rfl, .int z, rfl, by show 2 ≤ sizeLine; decide, fun T nT => ?_⟩
            have ndT : d ≠ T := ne_of_none hd nT
            have sT : Same H'' (upd H'' T (.tup [.int m.1, .int z])) := fun b o e => by walk_at "hp"
            have tl : Tups (upd H'' T (.tup [.int m.1, .int z])) (upd (upd H'' T (.tup [.int m.1, .int z])) d (.lst (vs ++ [.ref T]))) := Tups.lst (l := vs) (by walk_at "hp")
            refine ⟨d, vs, .ref T, rfl, rfl, by walk_at "hp", small1000 (by omega), _, _, vs ++ [.ref T], rfl, (hP'.mono sT).put ndp ndc, (tp.trans (Tups.same sT)).trans tl, upd_same, ?_⟩
            have et : exch one other (ms.take (j + 1)) = exch one other (ms.take j) ++ [(m.1, z)] := by
              unfold exch
              rw [List.take_add_one, em, List.map_append, ← hz]
              rfl
            rw [et, List.map_append]
            exact ((hv.mono (Tups.same sT)).mono tl).app (.cons (TD.mono tl _ (TD.ofPair upd_same)) .nil)
        · rintro σ H' ⟨y5, y6, vs, rfl, hP', tp, hd, hv⟩
          rw [hx.msgs_len, List.take_length] at hv
          exact ⟨y5, y6, vs, rfl, hP', TD.mono tp _ hT, hd, hv⟩
      rintro σ H6 ⟨y5, y6, vs, rfl, hP, hT, hd, hD⟩
      -- before = repr(stream)
      refine ⟨fun σ H' => σ = [some (.ref a), some (.ref p), some (.int (0 + (i : Int))), some (.ref t), some (.ref l), y5, y6, some (.int one), some (.int other), some (.ref d), some (.str (strmD ms).shown)] ∧ H' = H6, ?_, ?_⟩
      · have n := nice_strm hsh hlen
        exact ⟨.ref t, rfl, .ref t, strmD ms, rfl, hT.dp _, n.sho, n.nod, Nat.le_trans n.dep (by decide), Nat.le_trans n.len (by decide), rfl, rfl⟩
      rintro σ H7 ⟨rfl, rfl⟩
      have ne : ∀ x y : Int, x.natAbs < 10 ^ 99 → y.natAbs < 10 ^ 99 → Nice 2 (12 * 207 + 2 * 12 + 3) (strmD (exch x y ms)) := fun x y hx hy => nice_strm (exch_short hsh hx hy) (by rw [exch_len]; exact hlen)
      have n0 := nice_strm hsh hlen
      have n1 := ne one other ho hu
      -- if repr(exchanged(stream, one, other)) != repr(tuple(due)) or repr(stream) != before
      refine ⟨fun σ H' => σ = [some (.ref a), some (.ref p), some (.int (0 + (i : Int))), some (.ref t), some (.ref l), y5, y6, some (.int one), some (.int other), some (.ref d), some (.str (strmD ms).shown)] ∧ Same H7 H', ?_, ?_⟩
      · refine ⟨.ref t, rfl, .int one, rfl, .int other, rfl, t, ms, one, other, rfl, hT, by omega, fun t1 H8 s8 hT1 => ?_⟩
        refine ⟨.ref t1, _, rfl, hT1.dp _, n1.sho, n1.nod, Nat.le_trans n1.dep (by decide), Nat.le_trans n1.len (by decide), .ref d, rfl, d, vs, rfl, .inl ⟨SqL.of (s8 _ _ hd), fun t2 nt2 => ?_⟩⟩
        have s9 : Same H8 (upd H8 t2 (.tup vs)) := fun b o e => by walk_at "hp"
        have hT2 : TD (upd H8 t2 (.tup vs)) (.ref t2) (strmD (exch one other ms)) := .tup upd_same (TDs.mono (Tups.same s9) _ (TDs.mono (Tups.same s8) _ hD))
        refine ⟨.ref t2, _, rfl, hT2.dp _, n1.sho, n1.nod, Nat.le_trans n1.dep (by decide), Nat.le_trans n1.len (by decide), rfl, _, rfl, ?_⟩
        refine iteNS rfl ?_
        refine ⟨.ref t, rfl, .ref t, strmD ms, rfl, TD.dp _ (TD.mono (Tups.same (s8.trans s9)) _ hT), n0.sho, n0.nod, Nat.le_trans n0.dep (by decide), Nat.le_trans n0.len (by decide), .str (strmD ms).shown, rfl, rfl, _, rfl, ?_⟩
        refine iteNS rfl ?_
        exact ⟨rfl, s8.trans s9⟩
      rintro σ H8 ⟨rfl, s8⟩
      have hT8 : TD H8 (.ref t) (strmD ms) := TD.mono (Tups.same s8) _ hT
      have hd8 := s8 _ _ hd
      have hD8 := TDs.mono (Tups.same s8) _ hD
      have hP8 := hP.mono s8
      -- if exchanged(tuple(due), other, one) != stream or exchanged(stream, other, one) != tuple(due)
      refine ⟨.ref d, rfl, d, vs, rfl, .inl ⟨SqL.of hd8, fun t2 nt2 => ?_⟩⟩
      have s9 : Same H8 (upd H8 t2 (.tup vs)) := fun b o e => by walk_at "hp"
      have hT2 : TD (upd H8 t2 (.tup vs)) (.ref t2) (strmD (exch one other ms)) := .tup upd_same (TDs.mono (Tups.same s9) _ hD8)
      refine ⟨.int other, rfl, .int one, rfl, t2, _, other, one, rfl, hT2, by rw [exch_len]; omega, fun t3 H10 s10 hT3 => ?_⟩
      rw [exch_back] at hT3
      have e1 : PyData.eqv (strmD ms) (strmD ms) = true := by rw [eqv_strm]; exact decide_eq_true rfl
      have sh0 := n0.shaped (by decide)
      have sh1 := n1.shaped (by decide)
      have hT10 : TD H10 (.ref t) (strmD ms) := TD.mono (Tups.same (s9.trans s10)) _ hT8
      refine ⟨.ref t, rfl, strmD ms, strmD ms, hT3.dp _, hT10.dp _, sh0, sh0, _, rfl, ?_⟩
      rw [e1]
      refine ⟨.ref t, rfl, .int other, rfl, .int one, rfl, t, ms, other, one, rfl, hT10, by omega, fun t4 H11 s11 hT4 => ?_⟩
      rw [exch_swap one other] at hT4
      refine ⟨.ref d, rfl, d, vs, rfl, .inl ⟨SqL.of (s11 _ _ (s10 _ _ (s9 _ _ hd8))), fun t5 nt5 => ?_⟩⟩
      have s12 : Same H11 (upd H11 t5 (.tup vs)) := fun b o e => by walk_at "hp"
      have hT5 : TD (upd H11 t5 (.tup vs)) (.ref t5) (strmD (exch one other ms)) := .tup upd_same (TDs.mono (Tups.same (((s9.trans s10).trans s11).trans s12)) _ hD8)
      have e2 : PyData.eqv (strmD (exch one other ms)) (strmD (exch one other ms)) = true := by rw [eqv_strm]; exact decide_eq_true rfl
      refine ⟨strmD (exch one other ms), strmD (exch one other ms), TD.dp _ (TD.mono (Tups.same s12) _ hT4), hT5.dp _, sh1, sh1, _, rfl, ?_⟩
      rw [e2]
      exact ⟨_, _, _, _, _, _, _, _, _, rfl, hP8.mono (((s9.trans s10).trans s11).trans s12)⟩
    · rintro σ H2 _
      exact q H2
end

theorem all_mk {l : PySem.W.OpenLaw} {w : World} {K : PySem.W.Frag} {h : Heap} {mg : Str → Option Value} {fa f0 f1 f2 f3 f4 f5 : Addr} (X : K.In h) (G : h.Ns mainGlobals mg) (hfa : mg "law" = some (.ref fa))
    {od0 an0 od1 an1 od2 an2 od3 an3 od4 an4 od5 an5 : Option Addr} {sl0 sl1 sl2 sl3 sl4 sl5 : Array (Option Value)} {oc0 kV0 dc0 pm0 cd0 ct0 oc1 kV1 dc1 pm1 cd1 ct1 oc2 kV2 dc2 pm2 cd2 ct2 oc3 kV3 dc3 pm3 cd3 ct3 oc4 kV4 dc4 pm4 cd4 ct4 oc5 kV5 dc5 pm5 cd5 ct5 : Value}
    (a0 : PySem.W.nsIn K mainGlobals "_law_pen" = some (some (.ref f0))) (l0 : K.lookup f0 = some ⟨oc0, od0, .func (PySem.W.fnOf "_law_pen" "_law_pen" (defArgs s_law_pen) (defBody s_law_pen) (defScope s_law_pen) .none kV0 dc0 pm0 an0 cd0 ct0), sl0⟩) (c0 : PySem.W.codeIn K cd0 "_law_pen" = true) (k0 : PySem.W.keepIn K (.ref f0) = true)
    (a1 : PySem.W.nsIn K mainGlobals "_law_fresh" = some (some (.ref f1))) (l1 : K.lookup f1 = some ⟨oc1, od1, .func (PySem.W.fnOf "_law_fresh" "_law_fresh" (defArgs s_law_fresh) (defBody s_law_fresh) (defScope s_law_fresh) .none kV1 dc1 pm1 an1 cd1 ct1), sl1⟩) (c1 : PySem.W.codeIn K cd1 "_law_fresh" = true) (k1 : PySem.W.keepIn K (.ref f1) = true)
    (a2 : PySem.W.nsIn K mainGlobals "_law_draw" = some (some (.ref f2))) (l2 : K.lookup f2 = some ⟨oc2, od2, .func (PySem.W.fnOf "_law_draw" "_law_draw" (defArgs s_law_draw) (defBody s_law_draw) (defScope s_law_draw) .none kV2 dc2 pm2 an2 cd2 ct2), sl2⟩) (c2 : PySem.W.codeIn K cd2 "_law_draw" = true) (k2 : PySem.W.keepIn K (.ref f2) = true)
    (a3 : PySem.W.nsIn K mainGlobals "_law_stream" = some (some (.ref f3))) (l3 : K.lookup f3 = some ⟨oc3, od3, .func (PySem.W.fnOf "_law_stream" "_law_stream" (defArgs s_law_stream) (defBody s_law_stream) (defScope s_law_stream) .none kV3 dc3 pm3 an3 cd3 ct3), sl3⟩) (c3 : PySem.W.codeIn K cd3 "_law_stream" = true) (k3 : PySem.W.keepIn K (.ref f3) = true)
    (a4 : PySem.W.nsIn K mainGlobals "exchanged" = some (some (.ref f4))) (l4 : K.lookup f4 = some ⟨oc4, od4, .func (PySem.W.fnOf "exchanged" "exchanged" (defArgs s_exchanged) (defBody s_exchanged) (defScope s_exchanged) .none kV4 dc4 pm4 an4 cd4 ct4), sl4⟩) (c4 : PySem.W.codeIn K cd4 "exchanged" = true) (k4 : PySem.W.keepIn K (.ref f4) = true)
    (a5 : PySem.W.nsIn K mainGlobals "law" = some (some (.ref f5))) (l5 : K.lookup f5 = some ⟨oc5, od5, .func (PySem.W.fnOf "law" "law" (defArgs s_law) (defBody s_law) (defScope s_law) .none kV5 dc5 pm5 an5 cd5 ct5), sl5⟩) (c5 : PySem.W.codeIn K cd5 "law" = true) (k5 : PySem.W.keepIn K (.ref f5) = true)
    (z0 : PySem.W.nsIn K mainGlobals "list" = some none)
    (z1 : PySem.W.nsIn K mainGlobals "len" = some none)
    (z2 : PySem.W.nsIn K mainGlobals "range" = some none)
    (z3 : PySem.W.nsIn K mainGlobals "tuple" = some none)
    (z4 : PySem.W.nsIn K mainGlobals "repr" = some none)
    : ∃ fd : FuncData, (∀ (s : Shared) (v : Value), BindsTo s fd ⟨[v], []⟩ [("script", v)]) ∧ ∀ base : Heap, K.In base → base.Ns mainGlobals mg → FnG l.prog w K mg base CX0 4 fa fd ["script"] (sp_law K) := by
  have e := hfa.symm.trans (PySem.W.mg_of X G a5)
  cases e
  have F0 := fun_mk (st := s_law_pen) l0 c0 k0
  have F1 := fun_mk (st := s_law_fresh) l1 c1 k1
  have F2 := fun_mk (st := s_law_draw) l2 c2 k2
  have F3 := fun_mk (st := s_law_stream) l3 c3 k3
  have F4 := fun_mk (st := s_exchanged) l4 c4 k4
  have F5 := fun_mk (st := s_law) l5 c5 k5
  have b0 := F0.binds (ps := ["script"]) fun _ _ _ _ _ _ us hl => match us, hl with | [_], _ => rfl
  have b1 := F1.binds (ps := ["pen"]) fun _ _ _ _ _ _ us hl => match us, hl with | [_], _ => rfl
  have b2 := F2.binds (ps := ["pen", "many"]) fun _ _ _ _ _ _ us hl => match us, hl with | [_, _], _ => rfl
  have b3 := F3.binds (ps := ["pen", "words", "most", "values"]) fun _ _ _ _ _ _ us hl => match us, hl with | [_, _, _, _], _ => rfl
  have b4 := F4.binds (ps := ["stream", "one", "two"]) fun _ _ _ _ _ _ us hl => match us, hl with | [_, _, _], _ => rfl
  exact ⟨_, fun s v => .of_eq rfl, fun base _ _ => ok_law F5 ⟨F0, b0, PySem.W.mg_of X G a0, F1, b1, PySem.W.mg_of X G a1, F2, b2, PySem.W.mg_of X G a2, F3, b3, PySem.W.mg_of X G a3, F4, b4, PySem.W.mg_of X G a4, PySem.W.mg_none_of X G z0, PySem.W.mg_none_of X G z1, PySem.W.mg_none_of X G z2, PySem.W.mg_none_of X G z3, PySem.W.mg_none_of X G z4⟩⟩
theorem walk {l : PySem.W.OpenLaw} {q : Program} {loose : List Str} {XP : (Str → Option Value) → Heap → Prop} {YP : World → Heap → Prop} {d : DefRec} {K : Params → PySem.W.Frag} (hn : l.most = some 63) (hdf : d.params.defaults = [])
    (hY : ∀ (w : World) (h : Heap), YP w h → (K w.params).In h)
    (F : ∀ (w : World) (mg : Str → Option Value) (fa : Addr) (h : Heap), (K w.params).In h → h.Ns mainGlobals mg → mg d.name = some (.ref fa) →
      ∃ fd : FuncData, (∀ (s : Shared) (u : Value), BindsTo s fd ⟨[u], []⟩ [("script", u)]) ∧ ∀ base : Heap, (K w.params).In base → base.Ns mainGlobals mg → FnG l.prog w (K w.params) mg base CX0 4 fa fd ["script"] (sp_law (K w.params))) :
    PySem.W.WalkO q loose XP YP l.row.toRowW d [] (fun f vs => PySem.call f vs) :=
  walk_ofG (n := 63) (k := 4) (x := "script") (sp := sp_law) hn (by decide) hdf ⟨rfl, by decide, by decide⟩ hY F fun _ _ a ns hl hb _ hS => ⟨a, ns, rfl, hS, hl, fun _ => rfl⟩
end Sb
open PySem PySem.W PyProof.Rows
set_option maxRecDepth 100000 in
set_option maxHeartbeats 0 in
theorem PySem.Challenge.cw_seenbefore_k03_values_exchanged_holds : PySem.Challenge.rw_seenbefore_k03_values_exchanged.Holds := by
  w_on; o_law; k_head; (case hw => w_witness2)
  k_fill
  refine Sb.walk (l := PySem.Challenge.rw_seenbefore_k03_values_exchanged) rfl rfl (fun w h Y => PySem.W.kIn_of Y) ?F
  case F =>
    intro w mg fa h KX G hmg
    refine' Sb.all_mk KX G hmg ?a0 ?l0 ?c0 ?k0 ?a1 ?l1 ?c1 ?k1 ?a2 ?l2 ?c2 ?k2 ?a3 ?l3 ?c3 ?k3 ?a4 ?l4 ?c4 ?k4 ?a5 ?l5 ?c5 ?k5 ?z0 ?z1 ?z2 ?z3 ?z4
    (case a0 => k_is); (case l0 => k_is); (case c0 => k_is); (case k0 => k_is)
    (case a1 => k_is); (case l1 => k_is); (case c1 => k_is); (case k1 => k_is)
    (case a2 => k_is); (case l2 => k_is); (case c2 => k_is); (case k2 => k_is)
    (case a3 => k_is); (case l3 => k_is); (case c3 => k_is); (case k3 => k_is)
    (case a4 => k_is); (case l4 => k_is); (case c4 => k_is); (case k4 => k_is)
    (case a5 => k_is); (case l5 => k_is); (case c5 => k_is); (case k5 => k_is)
    (case z0 => k_is); (case z1 => k_is); (case z2 => k_is); (case z3 => k_is)
    (case z4 => k_is)
