import PyProof.Rows.All
import Wide.All
import OpenK.AllK
import Wide.FinOn
import PyProof.ReprRoads
import HandS.ForMost
import HandS.Defaults
import HandS.HeadHook3
import HandS.HeadWalk
import HandS.HeadEnd
import HandS.Head2
import HandS.IsInst
import HandS.Property
import HandS.FStr
import HandS.Wide
import HandS.OwnEq
import HandS.Flow
import HandS.Walk
import HandS.Style
import HandS.Zip
import HandS.Conv
import HandS.ClsMeth
import PySem.Challenge.RW_signtown_k10_whole_streets_led
import KE.KCallOwn
import KE.KOpsOwn
import HandS.StrMore
import KE.IntTextLaws
import PyProof.Rows.ReprOcc
import HandS.MakeKwOnly
set_option Elab.async false
set_option linter.all false
set_option maxRecDepth 100000
set_option maxHeartbeats 4000000
namespace Gx
open PySem PySem.Spec PyProof.Rows L2
/-- a def's promise where no repr is under way -/
structure FnG (P : Program) (w : World) (K : PySem.W.Frag) (mg : Str → Option Value) (base : Heap) (CX : CXT) (k : Nat) (f : Addr) (fd : FuncData) (ps : List Str) (sp : Sp) : Prop where
  len : ∀ vs H Q E, sp vs H Q E → vs.length = ps.length
  run : ∀ (A : Around) (outer : List Env) (s : Shared) (H : Hp) (args : Args) (us : List Value) (vs : List V) (Q : VK) (E : XK),
    A.guards = some [] → Room k A → Env0 P w K mg base A outer s H → BindsTo s fd args (ps.zip us) → Vals vs us → sp vs H Q E →
      codeAny (model P w) A (.call (.ref f) args) (CR CX outer P w H s Q E) s
theorem FnG.of {P : Program} {w : World} {K : PySem.W.Frag} {mg : Str → Option Value} {base : Heap} {CX : CXT} {k : Nat} {f : Addr} {fd : FuncData} {ps : List Str} {sp : Sp}
    (F : FnOk P w K mg base CX k f fd ps sp) : FnG P w K mg base CX k f fd ps sp :=
  ⟨F.len, fun A outer s H args us vs Q E _ => F.run A outer s H args us vs Q E⟩
section
variable {P : Program} {w : World} {K : PySem.W.Frag} {mg : Str → Option Value} {base : Heap}
/-- its body, walked where no repr is under way -/
theorem FnG.body {CX : CXT} {x qual : Str} {params : Arguments} {body : List Stmt} {scope : Scope} {dvs : List V} {kws : List (Str × V)} {f : Addr} {fd : FuncData} {N ps : List Str} {k : Nat} {sp : Sp}
    (F : FunD K x qual params body scope dvs kws f fd) (S : FnScope N ps scope) (len : ∀ vs H Q E, sp vs H Q E → vs.length = ps.length)
    (hb : ∀ (cdv : Value) (A : Around) (outer : List Env) (s : Shared) (H : Hp) (vs : List V) (Q : VK) (E : XK),
      Room k (A.deeper (envOfC qual scope s.heap.objs.size f cdv)) → (cxOf CX P w K mg base N qual scope f cdv A outer s H E).A.guards = some [] → sp vs H Q E →
      ∃ t, PSs (cxOf CX P w K mg base N qual scope f cdv A outer s H E) body t ∧ t { nx := fun _ H' => Q .non H', rt := Q } (start N vs) H) :
    FnG P w K mg base CX (k + 1) f fd ps sp := by
  obtain ⟨oc, od, dV, kV, doc, pm, an, cdv, ct, osl, rfl, lk, hcd, _, _⟩ := F.ex
  refine ⟨len, ?_⟩
  intro A outer s H args us vs Q E gu hr e0 bind r hsp
  have hl := len _ _ _ _ hsp
  have held : ∀ b o, base.get? b = some o → s.heap.get? b = some o := fun b o e => (e0.bs b o e).1
  have KX : K.In s.heap := e0.mod.kin.keeps held
  have par : ∀ y ∈ ps.zip us, scope.names.lookup y.1 = some .local ∨ (scope.names.lookup y.1 = some .cell ∧ ((cellsFrom (s.heap.objs.size + 1) scope.names []).lookup y.1).isSome = true) := by
    rintro ⟨n, v⟩ hy
    rcases S.par n (List.of_mem_zip hy).1 with q | q
    · left; exact q
    · right; exact ⟨q, PySem.W.cellsFrom_some _ _ _ (.inl q)⟩
  refine codeAny_call_function hr.depth (KX _ _ lk) rfl S.co S.gen rfl
    (PySem.W.codeRec_of KX hcd) (bind _ _ _ _ ?_)
  refine wpAny_newFunctionEnv_cells S.kind par ?_
  intro env he s1 x
  subst he
  refine ⟨(e0.mod.nolimit.keeps held).keeps x.toInCall.keep, codeAny_func ?_⟩
  obtain ⟨t, ht, hq⟩ := hb cdv A outer s H vs Q E (hr.deeper _) gu hsp
  have I := inv_start (CX := CX) (mg := mg) (E := E) S hr.hd e0 hl r x
  refine wpAny_mono (ht.run [] s1 (start N vs) H _ I hq) ?_ (fun e s' hs => hs)
  intro fl s' hs
  cases fl with
  | ret u => obtain ⟨v, σ', H', J, rv, q⟩ := hs; exact ⟨v, H', J.os, J.bare, J.base, J.hok, rv, q⟩
  | next => obtain ⟨σ', H', J, q⟩ := hs; exact ⟨V.non, H', J.os, J.bare, J.base, J.hok, rfl, q⟩
  | brk => obtain ⟨_, _, _, q⟩ := hs; cases q
  | cont => obtain ⟨_, _, _, q⟩ := hs; cases q
end
section
variable {X : Cx} {CX : CXT} {k : Nat} {f : Addr} {fd : FuncData} {ps : List Str} {sp : Sp} {dvs : List V} {ds : List Value} {E : XK} {x : Str} {p pos : Pos} {e : Expr} {es : List Expr} {t : TA}
theorem run_g {pins : List (Addr × Obj)} {σ : L2.St} {H : Hp} {s : Shared} {Q : VK} {us : List Value} {vs : List V}
    (gu : X.A.guards = some []) (F : FnG X.prog X.w X.K X.mg X.base CX k f fd ps sp) (hr : Room k X.A) (hb : Binds X.K fd ps ds) (hd : Vals dvs ds) (hx : Passes CX X E)
    (I : Inv X pins σ H s) (r : Vals vs us) (h : sp (vs ++ dvs) H Q E) :
    wpAny (model X.prog X.w) X.A (call (.ref f) us) (EP X pins σ Q) X.xe s := by
  have all := r.append hd
  have hl : (us ++ ds).length = ps.length := all.length ▸ F.len _ _ _ _ h
  have go := F.run X.A X.stack s H ⟨us, []⟩ (us ++ ds) (vs ++ dvs) Q E gu hr I.env0 (hb s us I.kIn hl) all h
  refine wpAny_call (codeAny_mono go ?_)
  intro r s' hq
  match r, hq with
  | .error e, hq => exact hx pins σ H s e s' I hq
  | .ok (.ret u), hq => exact I.after hq
  | .ok .next, hq => exact hq.elim
  | .ok .brk, hq => exact hq.elim
  | .ok .cont, hq => exact hq.elim
/-- f(e, ..) -/
theorem pe_callG (gu : X.A.guards = some []) (F : FnG X.prog X.w X.K X.mg X.base CX k f fd ps sp) (hr : Room k X.A)
    (hg : Gl X x) (hm : X.mg x = some (.ref f)) (hk : PySem.W.keepIn X.K (.ref f) = true) (hb : Binds X.K fd ps ds) (hd : Vals dvs ds) (hx : Passes CX X E) (ha : PA X (e :: es) t)
    (hdb : (x == ("__debug__" : Str)) = false := by decide)
    (he : starEach (e :: es) X.env = (false, eval e X.env) :: starEach es X.env := by rfl)
    (hpl : (backTo pos (starEach es X.env)).any (·.1) = false := by rfl) :
    PE X (.Call (.Name x p) (e :: es) [] pos) (tCall sp dvs E t) := by
  constructor
  intro pins s σ H Q I h
  refine wpAny_Call_Name_kw (ld_glob I hg hm ?_ hdb)
  refine PySem.W.callWith_K (h₀ := X.base) I.ok.mod.kin hk
    (thn (ha.run pos pins s σ H _ I h) ?_) he hpl
  rintro us s1 ⟨vs, H1, I1, r, q⟩
  exact ⟨I1.kIn, run_g gu F hr hb hd hx I1 r q⟩
/-- repr of data: None, bools, ints, texts, lists, tuples -/
def rRepr (K : PySem.W.Frag) : List V → Hp → VK → Prop := fun xs H Q =>
  ∃ (a : Addr) (d : PyData), xs = [.ref a] ∧ Dp K H (.ref a) d ∧ d.showable = true ∧ d.hasDict = false ∧ d.depth ≤ 60 ∧ d.shown.length ≤ sizeLine ∧ Q (.str d.shown) H
theorem call_reprD (gu : X.A.guards = some []) (hu : X.A.units + 64 < cLine) : CallR X (.builtin "repr") (rRepr X.K) := by
  rintro pins s σ H xs us Q I r ⟨a, d, rfl, hd, sh, nd, dp, sz, q⟩
  obtain ⟨u, rfl, ru⟩ := r.one
  cases (show u = Value.ref a from ru)
  obtain ⟨as, rd⟩ := Dp.reads I d _ _ hd rfl
  refine repr_of_reads' rd sh (PyData.noDict_hsm nd) gu (by omega) (fun _ _ e => e) ?_ sz
  intro h' u tk kp
  exact ⟨.str d.shown, H, I.kept kp, ⟨u, rfl⟩, q⟩
end
/-- the law's call -/
theorem law_callG {P : Program} {w : World} {K : PySem.W.Frag} {mg mb : Str → Option Value} {CX : CXT} {k : Nat} {fa a : Addr} {fd : FuncData} {x : Str} {sp : Sp} {s₁ : Shared} {vs : List Value} {ns : List Int}
    (KX : K.In s₁.heap) (hns : s₁.heap.Ns mainGlobals mg) (hb : s₁.heap.Ns builtinsNs mb) (hbb : ∀ x : Str, x ≠ "__name__" → mb x = bootBuiltins x) (hlim : s₁.heap.NoLimit) (hg : s₁.gens = #[])
    (ha : s₁.heap.get? a = some { cls := .type "list", data := .seq vs.toArray })
    (hi : IntsAre vs ns) (hl : ns.length ≤ sizeLine) (hr : Room k callerA)
    (F : ∀ base : Heap, K.In base → base.Ns mainGlobals mg → FnG P w K mg base CX k fa fd [x] sp)
    (hbind : ∀ (s : Shared) (u : Value), BindsTo s fd ⟨[u], []⟩ [(x, u)])
    (hsp : ∀ H : Hp, Only H → SqL K H a (ns.map V.int) → sp [.ref a] H (fun v _ => v = .bl true) fun _ _ _ => False)
    (hCX : ∀ H e s', CX [] H s₁ (fun _ _ _ => False) e s' → False) :
    codeAny (model P w) callerA (.call (.ref fa) ⟨[.ref a], []⟩)
      (fun r s' => r = .ok (.ret (.bool true)) ∧ OldK s₁.heap s'.heap ∧ s'.os = s₁.os ∧ AllBare s'.gens) s₁ := by
  have rv := vals_ints hi
  have go : ∀ H : Hp, Only H → SqL K H a (ns.map V.int) → HOk P w H s₁.heap → (∀ b, H b ≠ none → b = a) → (H a ≠ none → K.lookup a = none) →
      codeAny (model P w) callerA (.call (.ref fa) ⟨[.ref a], []⟩)
        (fun r s' => r = .ok (.ret (.bool true)) ∧ OldK s₁.heap s'.heap ∧ s'.os = s₁.os ∧ AllBare s'.gens) s₁ := by
    intro H hO hS hok only hK
    have isA : ∀ {b : Addr} {u : HO}, H b = some u → b = a := fun {b u} q => only b (by rw [q]; exact Option.some_ne_none u)
    have noDict : ∀ {b : Addr} {o : Obj} {es : Array DictEntry} {ep : Nat}, s₁.heap.get? b = some o → o.data = .dict es ep → H b = none := by
      intro b o es ep e d
      cases q : H b with
      | none => rfl
      | some u =>
        cases isA q
        rw [ha] at e
        cases e
        cases (show Data.seq vs.toArray _ = Data.dict es ep from d)
    have ns' : ∀ {b : Addr} {m : Str → Option Value}, s₁.heap.Ns b m → (hidT s₁.heap H).Ns b m := by
      rintro b m ⟨o, es, ep, e, d, r⟩
      exact ⟨o, es, ep, hidT_get e (noDict e d), d, r⟩
    have kin : K.In (hidT s₁.heap H) := by
      intro b o e
      refine hidT_get (KX b o e) ?_
      cases q : H b with
      | none => rfl
      | some u =>
        cases isA q
        rw [hK (by rw [q]; exact Option.some_ne_none u)] at e
        cases e
    obtain ⟨mc, c1, c2⟩ := hlim
    have md : Mod K mg (hidT s₁.heap H) := ⟨kin, ns' hns, ⟨mb, ns' hb, hbb⟩, ⟨mc, ns' c1, c2⟩⟩
    have none_in : ∀ b : Addr, ¬ b ∈ ([] : List Addr) := fun b z => by cases z
    have e0 : Env0 P w K mg (hidT s₁.heap H) callerA [] s₁ H :=
      ⟨rfl, md, fun b o e => of_hidT e, Nat.le_of_eq (hidT_size _ _), trivial, fun b z => (none_in b z).elim, hok, .of_eq hg⟩
    have run := (F _ kin (ns' hns)).run callerA [] s₁ H ⟨[.ref a], []⟩ [.ref a] [.ref a] _ _ rfl hr e0 (hbind s₁ (.ref a)) (.cons rfl .nil) (hsp H hO hS)
    refine codeAny_mono run ?_
    intro r s' h
    match r, h with
    | .error e, h => exact (hCX H e s' h).elim
    | .ok .next, h => exact h.elim
    | .ok .brk, h => exact h.elim
    | .ok .cont, h => exact h.elim
    | .ok (.ret u), ⟨v, H', os, bare, un, hok', r', q⟩ =>
      cases (show v = .bl true from q)
      cases (show u = Value.bool true from r')
      refine ⟨rfl, OldK.of_keep ?_, os, bare⟩
      intro b o e
      cases hb : H b with
      | none => exact un.keep b o e hb (none_in b) (none_in b)
      | some u =>
        rcases hO b with z | ⟨ob, xs, z⟩
        · rw [hb] at z
          cases z
        · obtain ⟨e1, _⟩ := hok b _ z
          obtain ⟨e2, _⟩ := hok' b _ (un.frzs b ob _ z)
          rw [e] at e1
          cases e1
          exact e2
  cases hk : K.lookup a with
  | some o =>
    have e := (KX a o hk).symm.trans ha
    cases e
    have sq : SqL K (fun _ => none) a (ns.map V.int) :=
      .inr ⟨_, vs.toArray, _, hk, rfl, rfl, rfl, by rw [List.size_toArray, hi.length]; exact hl, by simpa using rv⟩
    exact go (fun _ => none) (fun _ => .inl rfl) sq (fun b u z => by cases z) (fun b z => (z rfl).elim) (fun z => (z rfl).elim)
  | none =>
    let L : HO := .frz { cls := .type "list", data := .seq vs.toArray } (.lst (ns.map V.int))
    have at1 : ∀ {b}, b = a → (fun b => if b = a then some L else none : Hp) b = some L := fun h => if_pos h
    have at0 : ∀ {b}, ¬ b = a → (fun b => if b = a then some L else none : Hp) b = none := fun h => if_neg h
    refine go (fun b => if b = a then some L else none) ?_ (.inl (.inr ⟨_, at1 rfl⟩)) ?_ ?_ (fun _ => hk)
    · intro b
      by_cases h : b = a
      · exact .inr ⟨_, _, at1 h⟩
      · exact .inl (at0 h)
    · intro b u z
      by_cases h : b = a
      · cases (at1 h).symm.trans z
        subst h
        exact ⟨ha, by rw [List.length_map]; exact hl, vs, _, rv, ha⟩
      · cases (at0 h).symm.trans z
    · intro b z
      by_cases h : b = a
      · exact h
      · exact (z (at0 h)).elim
/-- a law's end, over facts of the head -/
theorem walk_G {l : PySem.W.OpenLaw} {n k : Nat} {q : Program} {loose : List Str} {XP : (Str → Option Value) → Heap → Prop} {YP : World → Heap → Prop} {d : DefRec} {CX : CXT} {x : Str}
    (hn : l.most = some n) (hn2 : n ≤ sizeLine) (hdf : d.params.defaults = []) (hr : Room k callerA)
    (F : ∀ (w : World) (mg : Str → Option Value) (fa : Addr) (h : Heap), YP w h → h.Ns mainGlobals mg → mg d.name = some (.ref fa) →
      ∃ (K : PySem.W.Frag) (fd : FuncData) (sp : Sp), K.In h ∧ (∀ (s : Shared) (u : Value), BindsTo s fd ⟨[u], []⟩ [(x, u)]) ∧
        (∀ (H : Hp) (a : Addr) (ns : List Int), ns.length ≤ n → Only H → SqL K H a (ns.map V.int) → sp [.ref a] H (fun v _ => v = .bl true) fun _ _ _ => False) ∧
        ∀ base : Heap, K.In base → base.Ns mainGlobals mg → FnG l.prog w K mg base CX k fa fd [x] sp)
    (hCX : ∀ (H : Hp) (s : Shared) (e : Value) (s' : Shared), CX [] H s (fun _ _ _ => False) e s' → False) :
    PySem.W.WalkO q loose XP YP l.row.toRowW d [] (fun f vs => PySem.call f vs) := by
  refine Att.attach_call hn hdf ?_
  intro w s₀ s₁ mg mb fa o pm cd doc a vs ns G Y ho hd hcd hmg hobj hints hlen hg
  obtain ⟨K, fd, sp, KX, bind, hsp, hF⟩ := F w mg fa _ Y G.T.g hmg
  exact law_callG KX G.T.g G.T.b G.T.builtins G.T.nolimit hg hobj hints (Nat.le_trans hlen hn2) hr hF bind
    (fun H hO hS => hsp H a ns hlen hO hS) (fun H e s' => hCX H s₁ e s')
end Gx
namespace Hx
open PySem PySem.Spec PyProof.Rows L2
/-- where the getter of a property of a class stands -/
def getA (K : PySem.W.Frag) (C : Addr) (f : Str) : Addr :=
  match PySem.W.recIn K (He.ma K C f) "property" with
  | some (.ref g :: _) => g
  | _ => 0
def propB (K : PySem.W.Frag) (x f : Str) : Bool :=
  let p := He.ma K (He.ga K x) f
  He.eqO (PySem.W.findIn K (.ref (He.ga K x)) f) (some (some (.ref p))) &&
  (He.eqO (PySem.W.specialIn K (.ref p) "__get__") (some (some (.builtin "property.__get__"))) &&
  (decide (PySem.W.takesIn K (.ref p) = some true) &&
  (match PySem.W.recIn K p "property" with
    | some (.ref _ :: _) => true
    | _ => false)))
theorem propB_ok {K : PySem.W.Frag} {x f : Str} (h : propB K x f = true) : PropOf K (He.ga K x) f (He.ma K (He.ga K x) f) (getA K (He.ga K x) f) := by
  obtain ⟨h1, h2⟩ := He.ba h
  obtain ⟨h3, h4⟩ := He.ba h2
  obtain ⟨h5, h6⟩ := He.ba h4
  refine ⟨He.eqO_ok h1, He.eqO_ok h3, of_decide_eq_true h5, ?_⟩
  unfold getA
  split at h6
  · rename_i g r e
    rw [e]
    exact ⟨r, rfl⟩
  · cases h6
/-- what isinstance and != ask of a class of the text -/
def clsB (K : PySem.W.Frag) (x : Str) : Bool :=
  He.eqO (PySem.W.findIn K (.ref (He.ga K x)) "__class__") (some (some (.builtin "object.__class__"))) &&
  (He.eqO (PySem.W.specialIn K (.builtin "object.__class__") "__get__") (some (some (.builtin "getset_descriptor.__get__"))) &&
  (decide (PySem.W.takesIn K (.builtin "object.__class__") = some true) &&
  (decide (PySem.W.mroIn K (He.ga K x) (.type "object") = some true) &&
  He.eqO (PySem.W.findIn K (.ref (He.ga K x)) "__ne__") (some (some (.builtin "object.__ne__"))))))
structure ClsI (K : PySem.W.Frag) (C : Addr) : Prop where
  ca : PySem.W.findIn K (.ref C) "__class__" = some (some (.builtin "object.__class__"))
  cn : PySem.W.specialIn K (.builtin "object.__class__") "__get__" = some (some (.builtin "getset_descriptor.__get__"))
  ct : PySem.W.takesIn K (.builtin "object.__class__") = some true
  cm : PySem.W.mroIn K C (.type "object") = some true
  ne : PySem.W.findIn K (.ref C) "__ne__" = some (some (.builtin "object.__ne__"))
theorem clsB_ok {K : PySem.W.Frag} {x : Str} (h : clsB K x = true) : ClsI K (He.ga K x) := by
  obtain ⟨h1, h⟩ := He.ba h
  obtain ⟨h2, h⟩ := He.ba h
  obtain ⟨h3, h⟩ := He.ba h
  obtain ⟨h4, h5⟩ := He.ba h
  exact ⟨He.eqO_ok h1, He.eqO_ok h2, of_decide_eq_true h3, of_decide_eq_true h4, He.eqO_ok h5⟩
/-- a def of the text: where it stands, what it is -/
structure Dx where
  adr : PySem.W.Frag → Addr
  nm : Str
  ql : Str
  st : Stmt
  dfl : List He.Dv := []
  kwd : List (Str × He.Dv) := []
abbrev Vx : Type := Option (Str × Str × Arguments × FuncBody × Scope × Addr × List (Str × Addr) × Addr)
def seen (K : PySem.W.Frag) (a : Addr) : Vx :=
  match K.lookup a with
  | some ⟨_, _, .func d, _⟩ => some (d.name, d.qualname, d.params, d.body, d.scope, d.globals, d.closure, d.builtins)
  | _ => none
def Dx.due (d : Dx) : Vx := some (d.nm, d.ql, defArgs d.st, .stmts (defBody d.st), defScope d.st, mainGlobals, [], builtinsNs)
def Dx.ok (K : PySem.W.Frag) (d : Dx) : Bool :=
  PySem.W.keepIn K (.ref (d.adr K)) &&
  (match K.lookup (d.adr K) with
    | some ⟨_, _, .func y, _⟩ => PySem.W.codeIn K y.code d.ql && (He.dflB K y.defaults (d.dfl.map (He.Dv.v K)) && He.kwdB K y.kwdefaults (d.kwd.map fun q => (q.1, q.2.v K)))
    | _ => false)
/-- a def as it stands behind the top -/
abbrev Fd (K : PySem.W.Frag) (d : Dx) (fd : FuncData) : Prop := FunD K d.nm d.ql (defArgs d.st) (defBody d.st) (defScope d.st) (d.dfl.map (He.Dv.v K)) (d.kwd.map fun q => (q.1, q.2.v K)) (d.adr K) fd
theorem Dx.fun_ {K : PySem.W.Frag} {d : Dx} (e : seen K (d.adr K) = d.due) (c : d.ok K = true) : ∃ fd, Fd K d fd := by
  obtain ⟨kp, c2⟩ := He.ba c
  unfold seen at e
  cases q : K.lookup (d.adr K) with
  | none => rw [q] at c2; cases c2
  | some o =>
    obtain ⟨oc, od, dt, osl⟩ := o
    rw [q] at c2 e
    cases dt with
    | func fd =>
      obtain ⟨n1, n2, n3, n4, n5, n6, n7, n8, n9, n10, n11, n12, n13, n14, n15⟩ := fd
      have z : (some (n1, n2, n3, n4, n5, n6, n7, n15) : Vx) = d.due := e
      unfold Dx.due at z
      simp only [Option.some.injEq, Prod.mk.injEq] at z
      obtain ⟨z1, z2, z3, z4, z5, z6, z7, z8⟩ := z
      subst z1 z2 z3 z4 z5 z6 z7 z8
      obtain ⟨k1, k2⟩ := He.ba (show (PySem.W.codeIn K n13 d.ql && (He.dflB K n8 (d.dfl.map (He.Dv.v K)) && He.kwdB K n9 (d.kwd.map fun q => (q.1, q.2.v K)))) = true from c2)
      obtain ⟨k3, k4⟩ := He.ba k2
      exact ⟨_, ⟨oc, od, n8, n9, n10, n11, n12, n13, n14, osl, rfl, q, k1, He.dflB_ok k3, He.kwdB_ok k4⟩, kp⟩
    | _ => cases c2
/-- the getter of a classmethod of a class -/
def getC (K : PySem.W.Frag) (C : Addr) (f : Str) : Addr :=
  match PySem.W.recIn K (He.ma K C f) "classmethod" with
  | some (.ref g :: _) => g
  | _ => 0
/-- a class's attributes are read in the usual way -/
def creadB (K : PySem.W.Frag) (x : Str) : Bool :=
  PySem.W.readsIn K (He.ga K x) (.type "type") && He.eqO (PySem.W.specialIn K (.ref (He.ga K x)) "__getattribute__") (some (some (.builtin "type.__getattribute__")))
def cmetB (K : PySem.W.Frag) (x f : Str) : Bool :=
  let p := He.ma K (He.ga K x) f
  (match PySem.W.findCls K (.ref (He.ga K x)) (.type "type") f with
    | some (.get (.builtin i) (.ref q) .none (.ref c)) => decide (i = "classmethod.__get__") && (decide (q = p) && decide (c = He.ga K x))
    | _ => false) &&
  ((match PySem.W.recIn K p "classmethod" with
    | some (.ref _ :: _) => true
    | _ => false) && PySem.W.fnIn K (getC K (He.ga K x) f))
theorem cread_ok {K : PySem.W.Frag} {x : Str} (h : creadB K x = true) : ClX.CRead K (He.ga K x) (.type "type") := ⟨(He.ba h).1, He.eqO_ok (He.ba h).2⟩
theorem cmet_ok {K : PySem.W.Frag} {x f : Str} (h : cmetB K x f = true) : ClX.CMet K (He.ga K x) (.type "type") f (He.ma K (He.ga K x) f) (getC K (He.ga K x) f) := by
  obtain ⟨h1, h2⟩ := He.ba h
  obtain ⟨h3, h4⟩ := He.ba h2
  refine ⟨?_, ?_, h4⟩
  · split at h1
    · rename_i i q c e
      obtain ⟨a1, a2⟩ := He.ba h1
      obtain ⟨a3, a4⟩ := He.ba a2
      rw [e, of_decide_eq_true a1, of_decide_eq_true a3, of_decide_eq_true a4]
    · cases h1
  · unfold getC
    split at h3
    · rename_i g r e
      rw [e]
      exact ⟨r, rfl⟩
    · cases h3
/-- a class's constant is a tuple of these -/
def ctupB (K : PySem.W.Frag) (x f : Str) (vs : List He.Dv) : Bool :=
  (match PySem.W.findCls K (.ref (He.ga K x)) (.type "type") f with
    | some (.val (.ref q)) => decide (q = He.ma K (He.ga K x) f)
    | _ => false) &&
  (match K.lookup (He.ma K (He.ga K x) f) with
    | some ⟨.type c, _, .seq its _, _⟩ => decide (c = "tuple") && (decide (its.size ≤ sizeLine) && He.relAll (vs.map (He.Dv.v K)) its.toList)
    | _ => false)
theorem ctup_ok {K : PySem.W.Frag} {x f : Str} {vs : List He.Dv} (h : ctupB K x f vs = true) :
    ClX.CVal K (He.ga K x) (.type "type") f (.ref (He.ma K (He.ga K x) f)) (.ref (He.ma K (He.ga K x) f)) ∧ ∀ H, SqT K H (He.ma K (He.ga K x) f) (vs.map (He.Dv.v K)) := by
  obtain ⟨h1, h2⟩ := He.ba h
  refine ⟨⟨?_, rfl⟩, fun H => ?_⟩
  · split at h1
    · rename_i q e
      rw [e, of_decide_eq_true h1]
    · cases h1
  · split at h2
    · rename_i c dd its n sl e
      obtain ⟨a1, a2⟩ := He.ba h2
      obtain ⟨a3, a4⟩ := He.ba a2
      exact .inr ⟨_, its, n, e, congrArg Value.type (of_decide_eq_true a1), rfl, of_decide_eq_true a3, He.relAll_ok a4⟩
    · cases h2
/-- what is looked at behind the top -/
abbrev Look : Type := Bool × List Vx
def looks (fa : List (PySem.W.Frag → Bool)) (fn : List Dx) (K : PySem.W.Frag) : Look :=
  ((fa.all fun f => f K) && fn.all fun d => d.ok K, fn.map fun d => seen K (d.adr K))
def good (fn : List Dx) : Look := (true, fn.map Dx.due)
/-- the addresses among these that are not yet among the seen ones -/
def newO (bs : List Addr) (acc : List Addr × Nat) : List Addr × Nat :=
  bs.foldl (fun r b => bif Nat.testBit r.2 b then r else (b :: r.1, Nat.lor r.2 (Nat.shiftLeft 1 b))) acc
def lvlX (g : Addr → Option Obj) (fr : List Addr) (seen : Nat) : List Addr × Nat :=
  fr.foldl (fun r a => match g a with
    | some o => newO (He.refsD o) r
    | none => r) ([], seen)
def asX (g : Addr → Option Obj) : Nat → List Addr → List Addr → Nat → List Addr
  | 0, all, _, _ => all
  | n + 1, all, fr, seen => match lvlX g fr seen with
    | (new, seen2) => asX g n (all ++ new) new seen2
def lookG (n : Nat) (fa : List (PySem.W.Frag → Bool)) (fn : List Dx) (g : Addr → Option Obj) : Look := looks fa fn (He.frG g (cStatics :: asX g n [mainGlobals] [mainGlobals] (Nat.shiftLeft 1 mainGlobals)))
def hook (n : Nat) (fa : List (PySem.W.Frag → Bool)) (fn : List Dx) : PySem.W.Hook where
  α := Look
  obs := fun s => lookG n fa fn s.heap.get?
  val := fun _ => good fn
  says := fun _ h => ∃ K : PySem.W.Frag, K.In h ∧ looks fa fn K = good fn
  of := fun _ _ e => ⟨_, He.frG_in, e⟩
  keeps := fun _ _ _ ⟨K, kin, c⟩ k => ⟨K, PySem.W.Frag.In.keeps kin k, c⟩
theorem fact {fa : List (PySem.W.Frag → Bool)} {fn : List Dx} {K : PySem.W.Frag} (c : looks fa fn K = good fn) (i : Nat) {f : PySem.W.Frag → Bool} (h : fa[i]? = some f := by rfl) : f K = true := by
  have c1 := (He.ba (show ((fa.all fun f => f K) && fn.all fun d => d.ok K) = true from congrArg Prod.fst c)).1
  exact List.all_eq_true.mp c1 f (List.mem_of_getElem? h)
theorem defn {fa : List (PySem.W.Frag → Bool)} {fn : List Dx} {K : PySem.W.Frag} (c : looks fa fn K = good fn) (i : Nat) {d : Dx} (h : fn[i]? = some d := by rfl) : ∃ fd, Fd K d fd := by
  have c2 := (He.ba (show ((fa.all fun f => f K) && fn.all fun d => d.ok K) = true from congrArg Prod.fst c)).2
  have e : fn.map (fun d => seen K (d.adr K)) = fn.map Dx.due := congrArg Prod.snd c
  have e2 : (fn.map fun d => seen K (d.adr K))[i]? = (fn.map Dx.due)[i]? := by rw [e]
  rw [List.getElem?_map, List.getElem?_map, h] at e2
  exact Dx.fun_ (Option.some.inj e2) (List.all_eq_true.mp c2 d (List.mem_of_getElem? h))
end Hx
namespace K10
open PySem PySem.Spec PyProof.Rows L2 Hx
def top (i : Nat) : Stmt := PySem.Challenge.pw_signtown_k10_whole_streets_led.main.body.getD i (.Pass ⟨0, 0, 0, 0⟩)
abbrev s_is_name : Stmt := top 12
abbrev s_is_integer : Stmt := top 13
abbrev s_is_price : Stmt := top 14
abbrev s_check_street : Stmt := top 20
abbrev s_check_prices : Stmt := top 21
abbrev s_check_end : Stmt := top 22
abbrev s_far_end : Stmt := top 23
abbrev s_is_price_word : Stmt := top 24
abbrev s_can_stand : Stmt := top 25
abbrev s_first_wrong : Stmt := top 26
abbrev s_read_street : Stmt := top 27
abbrev s__law_pen : Stmt := top 35
abbrev s__law_draw : Stmt := top 36
abbrev s__law_pick : Stmt := top 37
abbrev s__law_word : Stmt := top 38
abbrev s__law_street : Stmt := top 39
abbrev s__law_ends_right : Stmt := top 40
abbrev s__law_texts_right : Stmt := top 41
abbrev s__law_road_right : Stmt := top 42
abbrev s_law : Stmt := top 43
abbrev s_Lane_init : Stmt := inClass (top 31) 1
abbrev s_Lane_eq : Stmt := inClass (top 31) 9
abbrev s_Lane_str : Stmt := inClass (top 31) 10
abbrev s_Lane_invert : Stmt := inClass (top 31) 6
abbrev s_Lane_renamed : Stmt := inClass (top 31) 7
abbrev s_Lane_opened : Stmt := inClass (top 31) 8
abbrev s_Lane_far : Stmt := inClass (top 31) 4
abbrev s_Lane_leads : Stmt := inClass (top 31) 5
abbrev s_Avenue_init : Stmt := inClass (top 32) 1
abbrev s_Avenue_eq : Stmt := inClass (top 32) 9
abbrev s_Avenue_str : Stmt := inClass (top 32) 10
abbrev s_Avenue_invert : Stmt := inClass (top 32) 6
abbrev s_Avenue_renamed : Stmt := inClass (top 32) 7
abbrev s_Avenue_opened : Stmt := inClass (top 32) 8
abbrev s_Avenue_far : Stmt := inClass (top 32) 4
abbrev s_Avenue_leads : Stmt := inClass (top 32) 5
abbrev s_Road_init : Stmt := inClass (top 33) 1
abbrev s_Road_eq : Stmt := inClass (top 33) 12
abbrev s_Road_str : Stmt := inClass (top 33) 13
abbrev s_Road_invert : Stmt := inClass (top 33) 9
abbrev s_Road_renamed : Stmt := inClass (top 33) 10
abbrev s_Road_opened : Stmt := inClass (top 33) 11
abbrev s_Road_far : Stmt := inClass (top 33) 4
abbrev s_Road_leads : Stmt := inClass (top 33) 5
abbrev s_Road_price : Stmt := inClass (top 33) 6
abbrev s_Road_signed : Stmt := inClass (top 33) 7
abbrev s_Road_priced : Stmt := inClass (top 33) 8
abbrev s_Lane_ends : Stmt := inClass (top 31) 2
abbrev s_Avenue_ends : Stmt := inClass (top 32) 2
abbrev s_Road_ends : Stmt := inClass (top 33) 2
abbrev s_Street_read : Stmt := inClass (top 28) 10
def dxs : List Hx.Dx := [
  ⟨fun K => He.ga K "is_name", "is_name", "is_name", s_is_name, [], []⟩,
  ⟨fun K => He.ga K "is_integer", "is_integer", "is_integer", s_is_integer, [], []⟩,
  ⟨fun K => He.ga K "is_price", "is_price", "is_price", s_is_price, [], []⟩,
  ⟨fun K => He.ga K "check_street", "check_street", "check_street", s_check_street, [], []⟩,
  ⟨fun K => He.ga K "check_prices", "check_prices", "check_prices", s_check_prices, [], []⟩,
  ⟨fun K => He.ga K "check_end", "check_end", "check_end", s_check_end, [], []⟩,
  ⟨fun K => He.ga K "far_end", "far_end", "far_end", s_far_end, [], []⟩,
  ⟨fun K => He.ga K "is_price_word", "is_price_word", "is_price_word", s_is_price_word, [], []⟩,
  ⟨fun K => He.ga K "can_stand", "can_stand", "can_stand", s_can_stand, [], []⟩,
  ⟨fun K => He.ga K "first_wrong", "first_wrong", "first_wrong", s_first_wrong, [], []⟩,
  ⟨fun K => He.ga K "read_street", "read_street", "read_street", s_read_street, [], []⟩,
  ⟨fun K => He.ga K "_law_pen", "_law_pen", "_law_pen", s__law_pen, [], []⟩,
  ⟨fun K => He.ga K "_law_draw", "_law_draw", "_law_draw", s__law_draw, [], []⟩,
  ⟨fun K => He.ga K "_law_pick", "_law_pick", "_law_pick", s__law_pick, [], []⟩,
  ⟨fun K => He.ga K "_law_word", "_law_word", "_law_word", s__law_word, [], []⟩,
  ⟨fun K => He.ga K "_law_street", "_law_street", "_law_street", s__law_street, [], []⟩,
  ⟨fun K => He.ga K "_law_ends_right", "_law_ends_right", "_law_ends_right", s__law_ends_right, [], []⟩,
  ⟨fun K => He.ga K "_law_texts_right", "_law_texts_right", "_law_texts_right", s__law_texts_right, [], []⟩,
  ⟨fun K => He.ga K "_law_road_right", "_law_road_right", "_law_road_right", s__law_road_right, [], []⟩,
  ⟨fun K => He.ga K "law", "law", "law", s_law, [], []⟩,
  ⟨fun K => He.ma K (He.ga K "Lane") "__init__", "__init__", "Lane.__init__", s_Lane_init, [], []⟩,
  ⟨fun K => He.ma K (He.ga K "Lane") "__eq__", "__eq__", "Lane.__eq__", s_Lane_eq, [], []⟩,
  ⟨fun K => He.ma K (He.ga K "Lane") "__str__", "__str__", "Lane.__str__", s_Lane_str, [], []⟩,
  ⟨fun K => He.ma K (He.ga K "Lane") "__invert__", "__invert__", "Lane.__invert__", s_Lane_invert, [], []⟩,
  ⟨fun K => He.ma K (He.ga K "Lane") "renamed", "renamed", "Lane.renamed", s_Lane_renamed, [], []⟩,
  ⟨fun K => He.ma K (He.ga K "Lane") "opened", "opened", "Lane.opened", s_Lane_opened, [], []⟩,
  ⟨fun K => He.ma K (He.ga K "Lane") "far", "far", "Lane.far", s_Lane_far, [], []⟩,
  ⟨fun K => He.ma K (He.ga K "Lane") "leads", "leads", "Lane.leads", s_Lane_leads, [], []⟩,
  ⟨fun K => He.ma K (He.ga K "Avenue") "__init__", "__init__", "Avenue.__init__", s_Avenue_init, [], []⟩,
  ⟨fun K => He.ma K (He.ga K "Avenue") "__eq__", "__eq__", "Avenue.__eq__", s_Avenue_eq, [], []⟩,
  ⟨fun K => He.ma K (He.ga K "Avenue") "__str__", "__str__", "Avenue.__str__", s_Avenue_str, [], []⟩,
  ⟨fun K => He.ma K (He.ga K "Avenue") "__invert__", "__invert__", "Avenue.__invert__", s_Avenue_invert, [], []⟩,
  ⟨fun K => He.ma K (He.ga K "Avenue") "renamed", "renamed", "Avenue.renamed", s_Avenue_renamed, [], []⟩,
  ⟨fun K => He.ma K (He.ga K "Avenue") "opened", "opened", "Avenue.opened", s_Avenue_opened, [], []⟩,
  ⟨fun K => He.ma K (He.ga K "Avenue") "far", "far", "Avenue.far", s_Avenue_far, [], []⟩,
  ⟨fun K => He.ma K (He.ga K "Avenue") "leads", "leads", "Avenue.leads", s_Avenue_leads, [], []⟩,
  ⟨fun K => He.ma K (He.ga K "Road") "__init__", "__init__", "Road.__init__", s_Road_init, [.int (0), .int (0)], []⟩,
  ⟨fun K => He.ma K (He.ga K "Road") "__eq__", "__eq__", "Road.__eq__", s_Road_eq, [], []⟩,
  ⟨fun K => He.ma K (He.ga K "Road") "__str__", "__str__", "Road.__str__", s_Road_str, [], []⟩,
  ⟨fun K => He.ma K (He.ga K "Road") "__invert__", "__invert__", "Road.__invert__", s_Road_invert, [], []⟩,
  ⟨fun K => He.ma K (He.ga K "Road") "renamed", "renamed", "Road.renamed", s_Road_renamed, [], []⟩,
  ⟨fun K => He.ma K (He.ga K "Road") "opened", "opened", "Road.opened", s_Road_opened, [], []⟩,
  ⟨fun K => He.ma K (He.ga K "Road") "far", "far", "Road.far", s_Road_far, [], []⟩,
  ⟨fun K => He.ma K (He.ga K "Road") "leads", "leads", "Road.leads", s_Road_leads, [], []⟩,
  ⟨fun K => He.ma K (He.ga K "Road") "price", "price", "Road.price", s_Road_price, [], []⟩,
  ⟨fun K => He.ma K (He.ga K "Road") "signed", "signed", "Road.signed", s_Road_signed, [], []⟩,
  ⟨fun K => He.ma K (He.ga K "Road") "priced", "priced", "Road.priced", s_Road_priced, [], [("there", .non), ("back", .non)]⟩,
  ⟨fun K => getA K (He.ga K "Lane") "ends", "ends", "Lane.ends", s_Lane_ends, [], []⟩,
  ⟨fun K => getA K (He.ga K "Avenue") "ends", "ends", "Avenue.ends", s_Avenue_ends, [], []⟩,
  ⟨fun K => getA K (He.ga K "Road") "ends", "ends", "Road.ends", s_Road_ends, [], []⟩,
  ⟨fun K => getC K (He.ga K "Street") "read", "read", "Street.read", s_Street_read, [], []⟩]
def fas : List (PySem.W.Frag → Bool) := [
  (He.Fa.glo "is_name").ok,
  (He.Fa.glo "is_integer").ok,
  (He.Fa.glo "is_price").ok,
  (He.Fa.glo "check_street").ok,
  (He.Fa.glo "check_prices").ok,
  (He.Fa.glo "check_end").ok,
  (He.Fa.glo "far_end").ok,
  (He.Fa.glo "is_price_word").ok,
  (He.Fa.glo "can_stand").ok,
  (He.Fa.glo "first_wrong").ok,
  (He.Fa.glo "read_street").ok,
  (He.Fa.glo "_law_pen").ok,
  (He.Fa.glo "_law_draw").ok,
  (He.Fa.glo "_law_pick").ok,
  (He.Fa.glo "_law_word").ok,
  (He.Fa.glo "_law_street").ok,
  (He.Fa.glo "_law_ends_right").ok,
  (He.Fa.glo "_law_texts_right").ok,
  (He.Fa.glo "_law_road_right").ok,
  (He.Fa.glo "law").ok,
  (He.Fa.glo "Lane").ok,
  (He.Fa.glo "Avenue").ok,
  (He.Fa.glo "Road").ok,
  (He.Fa.glo "Street").ok,
  (He.Fa.glo "Settled").ok,
  (He.Fa.glo "Even").ok,
  (He.Fa.glo "BadStreet").ok,
  (He.Fa.glo "BadPrice").ok,
  (He.Fa.free "sorted").ok,
  (He.Fa.free "isinstance").ok,
  (He.Fa.free "str").ok,
  (He.Fa.free "int").ok,
  (He.Fa.free "bool").ok,
  (He.Fa.free "len").ok,
  (He.Fa.free "all").ok,
  (He.Fa.free "list").ok,
  (He.Fa.free "tuple").ok,
  (He.Fa.free "range").ok,
  (He.Fa.free "repr").ok,
  (He.Fa.free "abs").ok,
  (He.Fa.int "NAME_LENGTH" (8)).ok,
  (He.Fa.int "GREATEST_PRICE" (999999999999)).ok,
  (He.Fa.int "PRICE_DIGITS" (12)).ok,
  (He.Fa.int "ROAD_WORDS" (6)).ok,
  (He.Fa.int "SETTLED_WORDS" (4)).ok,
  (He.Fa.str "LETTERS" "abcdefghijklmnopqrstuvwxyz").ok,
  (He.Fa.str "DIGITS" "0123456789").ok,
  (He.Fa.cls "Lane").ok,
  (He.Fa.cls "Avenue").ok,
  (He.Fa.cls "Road").ok,
  (He.Fa.noat "Lane" "name").ok,
  (He.Fa.noat "Lane" "start").ok,
  (He.Fa.noat "Lane" "goal").ok,
  (He.Fa.noat "Avenue" "name").ok,
  (He.Fa.noat "Avenue" "one").ok,
  (He.Fa.noat "Avenue" "other").ok,
  (He.Fa.noat "Road" "name").ok,
  (He.Fa.noat "Road" "one").ok,
  (He.Fa.noat "Road" "other").ok,
  (He.Fa.noat "Road" "there").ok,
  (He.Fa.noat "Road" "back").ok,
  (He.Fa.meth "Lane" "__eq__").ok,
  (He.Fa.meth "Lane" "__str__").ok,
  (He.Fa.meth "Lane" "__invert__").ok,
  (He.Fa.meth "Lane" "renamed").ok,
  (He.Fa.meth "Lane" "opened").ok,
  (He.Fa.meth "Lane" "far").ok,
  (He.Fa.meth "Lane" "leads").ok,
  (He.Fa.meth "Avenue" "__eq__").ok,
  (He.Fa.meth "Avenue" "__str__").ok,
  (He.Fa.meth "Avenue" "__invert__").ok,
  (He.Fa.meth "Avenue" "renamed").ok,
  (He.Fa.meth "Avenue" "opened").ok,
  (He.Fa.meth "Avenue" "far").ok,
  (He.Fa.meth "Avenue" "leads").ok,
  (He.Fa.meth "Road" "__eq__").ok,
  (He.Fa.meth "Road" "__str__").ok,
  (He.Fa.meth "Road" "__invert__").ok,
  (He.Fa.meth "Road" "renamed").ok,
  (He.Fa.meth "Road" "opened").ok,
  (He.Fa.meth "Road" "far").ok,
  (He.Fa.meth "Road" "leads").ok,
  (He.Fa.meth "Road" "price").ok,
  (He.Fa.meth "Road" "signed").ok,
  (He.Fa.meth "Road" "priced").ok,
  (He.Fa.mkr "Lane").ok,
  (He.Fa.mkr "Avenue").ok,
  (He.Fa.mkr "Road").ok,
  (fun K => Hx.propB K "Lane" "ends"),
  (fun K => Hx.propB K "Avenue" "ends"),
  (fun K => Hx.propB K "Road" "ends"),
  (fun K => Hx.clsB K "Lane"),
  (fun K => Hx.clsB K "Avenue"),
  (fun K => Hx.clsB K "Road"),
  (fun K => decide (PySem.W.kitOne K (.ref (He.ga K "Lane")) (.ref (He.ga K "Lane")) = some true)),
  (fun K => decide (PySem.W.kitOne K (.ref (He.ga K "Lane")) (.ref (He.ga K "Avenue")) = some false)),
  (fun K => decide (PySem.W.kitOne K (.ref (He.ga K "Lane")) (.ref (He.ga K "Road")) = some false)),
  (fun K => decide (PySem.W.kitOne K (.ref (He.ga K "Avenue")) (.ref (He.ga K "Lane")) = some false)),
  (fun K => decide (PySem.W.kitOne K (.ref (He.ga K "Avenue")) (.ref (He.ga K "Avenue")) = some true)),
  (fun K => decide (PySem.W.kitOne K (.ref (He.ga K "Avenue")) (.ref (He.ga K "Road")) = some false)),
  (fun K => decide (PySem.W.kitOne K (.ref (He.ga K "Road")) (.ref (He.ga K "Lane")) = some false)),
  (fun K => decide (PySem.W.kitOne K (.ref (He.ga K "Road")) (.ref (He.ga K "Avenue")) = some false)),
  (fun K => decide (PySem.W.kitOne K (.ref (He.ga K "Road")) (.ref (He.ga K "Road")) = some true)),
  (fun K => decide (PySem.W.kitOne K (.ref (He.ga K "Lane")) (.ref (He.ga K "Settled")) = some true)),
  (fun K => decide (PySem.W.kitOne K (.ref (He.ga K "Lane")) (.ref (He.ga K "Even")) = some false)),
  (fun K => decide (PySem.W.kitOne K (.ref (He.ga K "Avenue")) (.ref (He.ga K "Settled")) = some true)),
  (fun K => decide (PySem.W.kitOne K (.ref (He.ga K "Avenue")) (.ref (He.ga K "Even")) = some true)),
  (fun K => decide (PySem.W.kitOne K (.ref (He.ga K "Road")) (.ref (He.ga K "Settled")) = some false)),
  (fun K => decide (PySem.W.kitOne K (.ref (He.ga K "Road")) (.ref (He.ga K "Even")) = some true)),
  (fun K => decide (PySem.W.kitOne K (.type "NoneType") (.ref (He.ga K "Lane")) = some false)),
  (fun K => decide (PySem.W.kitOne K (.type "NoneType") (.ref (He.ga K "Avenue")) = some false)),
  (fun K => decide (PySem.W.kitOne K (.type "NoneType") (.ref (He.ga K "Road")) = some false)),
  (fun K => decide (PySem.W.kitOne K (.type "bool") (.ref (He.ga K "Lane")) = some false)),
  (fun K => decide (PySem.W.kitOne K (.type "bool") (.ref (He.ga K "Avenue")) = some false)),
  (fun K => decide (PySem.W.kitOne K (.type "bool") (.ref (He.ga K "Road")) = some false)),
  (fun K => decide (PySem.W.kitOne K (.type "int") (.ref (He.ga K "Lane")) = some false)),
  (fun K => decide (PySem.W.kitOne K (.type "int") (.ref (He.ga K "Avenue")) = some false)),
  (fun K => decide (PySem.W.kitOne K (.type "int") (.ref (He.ga K "Road")) = some false)),
  (fun K => decide (PySem.W.kitOne K (.type "str") (.ref (He.ga K "Lane")) = some false)),
  (fun K => decide (PySem.W.kitOne K (.type "str") (.ref (He.ga K "Avenue")) = some false)),
  (fun K => decide (PySem.W.kitOne K (.type "str") (.ref (He.ga K "Road")) = some false)),
  (fun K => decide (PySem.W.kitOne K (.type "list") (.ref (He.ga K "Lane")) = some false)),
  (fun K => decide (PySem.W.kitOne K (.type "list") (.ref (He.ga K "Avenue")) = some false)),
  (fun K => decide (PySem.W.kitOne K (.type "list") (.ref (He.ga K "Road")) = some false)),
  (fun K => decide (PySem.W.kitOne K (.type "tuple") (.ref (He.ga K "Lane")) = some false)),
  (fun K => decide (PySem.W.kitOne K (.type "tuple") (.ref (He.ga K "Avenue")) = some false)),
  (fun K => decide (PySem.W.kitOne K (.type "tuple") (.ref (He.ga K "Road")) = some false)),
  (fun K => decide (PySem.W.kitOne K (.type "dict") (.ref (He.ga K "Lane")) = some false)),
  (fun K => decide (PySem.W.kitOne K (.type "dict") (.ref (He.ga K "Avenue")) = some false)),
  (fun K => decide (PySem.W.kitOne K (.type "dict") (.ref (He.ga K "Road")) = some false)),
  (fun K => PySem.W.notFirst K (He.ga K "Lane") (.ref (He.ga K "Lane"))),
  (fun K => PySem.W.notFirst K (He.ga K "Lane") (.ref (He.ga K "Avenue"))),
  (fun K => PySem.W.notFirst K (He.ga K "Lane") (.ref (He.ga K "Road"))),
  (fun K => PySem.W.notFirst K (He.ga K "Avenue") (.ref (He.ga K "Lane"))),
  (fun K => PySem.W.notFirst K (He.ga K "Avenue") (.ref (He.ga K "Avenue"))),
  (fun K => PySem.W.notFirst K (He.ga K "Avenue") (.ref (He.ga K "Road"))),
  (fun K => PySem.W.notFirst K (He.ga K "Road") (.ref (He.ga K "Lane"))),
  (fun K => PySem.W.notFirst K (He.ga K "Road") (.ref (He.ga K "Avenue"))),
  (fun K => PySem.W.notFirst K (He.ga K "Road") (.ref (He.ga K "Road"))),
  (fun K => PySem.W.notFirst K (He.ga K "Lane") (.type "NoneType")),
  (fun K => PySem.W.notFirst K (He.ga K "Lane") (.type "bool")),
  (fun K => PySem.W.notFirst K (He.ga K "Lane") (.type "int")),
  (fun K => PySem.W.notFirst K (He.ga K "Lane") (.type "str")),
  (fun K => PySem.W.notFirst K (He.ga K "Lane") (.type "list")),
  (fun K => PySem.W.notFirst K (He.ga K "Lane") (.type "tuple")),
  (fun K => PySem.W.notFirst K (He.ga K "Lane") (.type "dict")),
  (fun K => PySem.W.notFirst K (He.ga K "Avenue") (.type "NoneType")),
  (fun K => PySem.W.notFirst K (He.ga K "Avenue") (.type "bool")),
  (fun K => PySem.W.notFirst K (He.ga K "Avenue") (.type "int")),
  (fun K => PySem.W.notFirst K (He.ga K "Avenue") (.type "str")),
  (fun K => PySem.W.notFirst K (He.ga K "Avenue") (.type "list")),
  (fun K => PySem.W.notFirst K (He.ga K "Avenue") (.type "tuple")),
  (fun K => PySem.W.notFirst K (He.ga K "Avenue") (.type "dict")),
  (fun K => PySem.W.notFirst K (He.ga K "Road") (.type "NoneType")),
  (fun K => PySem.W.notFirst K (He.ga K "Road") (.type "bool")),
  (fun K => PySem.W.notFirst K (He.ga K "Road") (.type "int")),
  (fun K => PySem.W.notFirst K (He.ga K "Road") (.type "str")),
  (fun K => PySem.W.notFirst K (He.ga K "Road") (.type "list")),
  (fun K => PySem.W.notFirst K (He.ga K "Road") (.type "tuple")),
  (fun K => PySem.W.notFirst K (He.ga K "Road") (.type "dict")),
  (fun K => Hx.creadB K "Street"),
  (fun K => Hx.cmetB K "Street" "read"),
  (fun K => Hx.ctupB K "Street" "KINDS" [.str "lane", .str "avenue", .str "road"])]
abbrev R : PySem.W.OpenRow := PySem.W.OpenLaw.row PySem.Challenge.rw_signtown_k10_whole_streets_led
abbrev hk : PySem.W.Hook := hook 7 fas dxs
def ob (s : PySem.W.SharedT) : Look := lookG 7 fas dxs (HandSHeadRun.getT s)
theorem ob_eq (s : PySem.W.SharedT) : ob s = hk.obs s.abs := by
  have e : HandSHeadRun.getT s = s.abs.heap.get? := funext (HandSHeadRun.getT_eq s)
  unfold ob
  rw [e]
  rfl
def loose : List Str := (["__name__", "TownError", "BadInput", "Refused", "BadPrice", "BadStreet", "BadText", "NoCorner", "LETTERS", "NAME_LENGTH", "GREATEST_PRICE", "is_name", "is_integer", "is_price", "DIGITS", "PRICE_DIGITS", "ROAD_WORDS", "SETTLED_WORDS", "check_street", "check_prices", "check_end", "far_end", "is_price_word", "can_stand", "first_wrong", "read_street", "Street", "Settled", "Even", "Lane"] : List Str) ++ (["Avenue", "Road", "_law_pen", "_law_draw", "_law_pick", "_law_word", "_law_street", "_law_ends_right", "_law_texts_right", "_law_road_right"] : List Str)
end K10
namespace K10
open PySem PySem.Spec PyProof.Rows L2 Hx
theorem run (w : World) : HandSHeadRun.RunEq R (PySem.W.view R.prog [43]) hk ob 20000 loose w := by
  intro os
  kernel_rfl
end K10
namespace K10
open PySem PySem.Spec PyProof.Rows L2 Hx
/-- what stands behind the top -/
def Tx (K : PySem.W.Frag) (mg : Str → Option Value) : Prop := ∃ h : Heap, K.In h ∧ h.Ns mainGlobals mg ∧ looks fas dxs K = good dxs
section
variable {K : PySem.W.Frag} {mg : Str → Option Value}
theorem g_is_name (T : Tx K mg) : mg "is_name" = some (.ref (He.ga K "is_name")) := by obtain ⟨h, X, G, c⟩ := T; exact He.glo_ok X G (fact c 0)
theorem g_is_integer (T : Tx K mg) : mg "is_integer" = some (.ref (He.ga K "is_integer")) := by obtain ⟨h, X, G, c⟩ := T; exact He.glo_ok X G (fact c 1)
theorem g_is_price (T : Tx K mg) : mg "is_price" = some (.ref (He.ga K "is_price")) := by obtain ⟨h, X, G, c⟩ := T; exact He.glo_ok X G (fact c 2)
theorem g_check_street (T : Tx K mg) : mg "check_street" = some (.ref (He.ga K "check_street")) := by obtain ⟨h, X, G, c⟩ := T; exact He.glo_ok X G (fact c 3)
theorem g_check_prices (T : Tx K mg) : mg "check_prices" = some (.ref (He.ga K "check_prices")) := by obtain ⟨h, X, G, c⟩ := T; exact He.glo_ok X G (fact c 4)
theorem g_check_end (T : Tx K mg) : mg "check_end" = some (.ref (He.ga K "check_end")) := by obtain ⟨h, X, G, c⟩ := T; exact He.glo_ok X G (fact c 5)
theorem g_far_end (T : Tx K mg) : mg "far_end" = some (.ref (He.ga K "far_end")) := by obtain ⟨h, X, G, c⟩ := T; exact He.glo_ok X G (fact c 6)
theorem g_is_price_word (T : Tx K mg) : mg "is_price_word" = some (.ref (He.ga K "is_price_word")) := by obtain ⟨h, X, G, c⟩ := T; exact He.glo_ok X G (fact c 7)
theorem g_can_stand (T : Tx K mg) : mg "can_stand" = some (.ref (He.ga K "can_stand")) := by obtain ⟨h, X, G, c⟩ := T; exact He.glo_ok X G (fact c 8)
theorem g_first_wrong (T : Tx K mg) : mg "first_wrong" = some (.ref (He.ga K "first_wrong")) := by obtain ⟨h, X, G, c⟩ := T; exact He.glo_ok X G (fact c 9)
theorem g_read_street (T : Tx K mg) : mg "read_street" = some (.ref (He.ga K "read_street")) := by obtain ⟨h, X, G, c⟩ := T; exact He.glo_ok X G (fact c 10)
theorem g__law_pen (T : Tx K mg) : mg "_law_pen" = some (.ref (He.ga K "_law_pen")) := by obtain ⟨h, X, G, c⟩ := T; exact He.glo_ok X G (fact c 11)
theorem g__law_draw (T : Tx K mg) : mg "_law_draw" = some (.ref (He.ga K "_law_draw")) := by obtain ⟨h, X, G, c⟩ := T; exact He.glo_ok X G (fact c 12)
theorem g__law_pick (T : Tx K mg) : mg "_law_pick" = some (.ref (He.ga K "_law_pick")) := by obtain ⟨h, X, G, c⟩ := T; exact He.glo_ok X G (fact c 13)
theorem g__law_word (T : Tx K mg) : mg "_law_word" = some (.ref (He.ga K "_law_word")) := by obtain ⟨h, X, G, c⟩ := T; exact He.glo_ok X G (fact c 14)
theorem g__law_street (T : Tx K mg) : mg "_law_street" = some (.ref (He.ga K "_law_street")) := by obtain ⟨h, X, G, c⟩ := T; exact He.glo_ok X G (fact c 15)
theorem g__law_ends_right (T : Tx K mg) : mg "_law_ends_right" = some (.ref (He.ga K "_law_ends_right")) := by obtain ⟨h, X, G, c⟩ := T; exact He.glo_ok X G (fact c 16)
theorem g__law_texts_right (T : Tx K mg) : mg "_law_texts_right" = some (.ref (He.ga K "_law_texts_right")) := by obtain ⟨h, X, G, c⟩ := T; exact He.glo_ok X G (fact c 17)
theorem g__law_road_right (T : Tx K mg) : mg "_law_road_right" = some (.ref (He.ga K "_law_road_right")) := by obtain ⟨h, X, G, c⟩ := T; exact He.glo_ok X G (fact c 18)
theorem g_law (T : Tx K mg) : mg "law" = some (.ref (He.ga K "law")) := by obtain ⟨h, X, G, c⟩ := T; exact He.glo_ok X G (fact c 19)
theorem g_Lane (T : Tx K mg) : mg "Lane" = some (.ref (He.ga K "Lane")) := by obtain ⟨h, X, G, c⟩ := T; exact He.glo_ok X G (fact c 20)
theorem g_Avenue (T : Tx K mg) : mg "Avenue" = some (.ref (He.ga K "Avenue")) := by obtain ⟨h, X, G, c⟩ := T; exact He.glo_ok X G (fact c 21)
theorem g_Road (T : Tx K mg) : mg "Road" = some (.ref (He.ga K "Road")) := by obtain ⟨h, X, G, c⟩ := T; exact He.glo_ok X G (fact c 22)
theorem g_Street (T : Tx K mg) : mg "Street" = some (.ref (He.ga K "Street")) := by obtain ⟨h, X, G, c⟩ := T; exact He.glo_ok X G (fact c 23)
theorem g_Settled (T : Tx K mg) : mg "Settled" = some (.ref (He.ga K "Settled")) := by obtain ⟨h, X, G, c⟩ := T; exact He.glo_ok X G (fact c 24)
theorem g_Even (T : Tx K mg) : mg "Even" = some (.ref (He.ga K "Even")) := by obtain ⟨h, X, G, c⟩ := T; exact He.glo_ok X G (fact c 25)
theorem g_BadStreet (T : Tx K mg) : mg "BadStreet" = some (.ref (He.ga K "BadStreet")) := by obtain ⟨h, X, G, c⟩ := T; exact He.glo_ok X G (fact c 26)
theorem g_BadPrice (T : Tx K mg) : mg "BadPrice" = some (.ref (He.ga K "BadPrice")) := by obtain ⟨h, X, G, c⟩ := T; exact He.glo_ok X G (fact c 27)
theorem n_sorted (T : Tx K mg) : mg "sorted" = none := by obtain ⟨h, X, G, c⟩ := T; exact He.free_ok X G (fact c 28)
theorem n_isinstance (T : Tx K mg) : mg "isinstance" = none := by obtain ⟨h, X, G, c⟩ := T; exact He.free_ok X G (fact c 29)
theorem n_str (T : Tx K mg) : mg "str" = none := by obtain ⟨h, X, G, c⟩ := T; exact He.free_ok X G (fact c 30)
theorem n_int (T : Tx K mg) : mg "int" = none := by obtain ⟨h, X, G, c⟩ := T; exact He.free_ok X G (fact c 31)
theorem n_bool (T : Tx K mg) : mg "bool" = none := by obtain ⟨h, X, G, c⟩ := T; exact He.free_ok X G (fact c 32)
theorem n_len (T : Tx K mg) : mg "len" = none := by obtain ⟨h, X, G, c⟩ := T; exact He.free_ok X G (fact c 33)
theorem n_all (T : Tx K mg) : mg "all" = none := by obtain ⟨h, X, G, c⟩ := T; exact He.free_ok X G (fact c 34)
theorem n_list (T : Tx K mg) : mg "list" = none := by obtain ⟨h, X, G, c⟩ := T; exact He.free_ok X G (fact c 35)
theorem n_tuple (T : Tx K mg) : mg "tuple" = none := by obtain ⟨h, X, G, c⟩ := T; exact He.free_ok X G (fact c 36)
theorem n_range (T : Tx K mg) : mg "range" = none := by obtain ⟨h, X, G, c⟩ := T; exact He.free_ok X G (fact c 37)
theorem n_repr (T : Tx K mg) : mg "repr" = none := by obtain ⟨h, X, G, c⟩ := T; exact He.free_ok X G (fact c 38)
theorem n_abs (T : Tx K mg) : mg "abs" = none := by obtain ⟨h, X, G, c⟩ := T; exact He.free_ok X G (fact c 39)
theorem i_NAME_LENGTH (T : Tx K mg) {v : Int} (e : (He.Fa.int "NAME_LENGTH" v) = (He.Fa.int "NAME_LENGTH" v)) : fas[40]? = some (He.Fa.int "NAME_LENGTH" v).ok → ∃ t, mg "NAME_LENGTH" = some (.int v t) := by intro q; obtain ⟨h, X, G, c⟩ := T; exact He.int_ok X G (fact c 40 q)
theorem i_GREATEST_PRICE (T : Tx K mg) {v : Int} (e : (He.Fa.int "GREATEST_PRICE" v) = (He.Fa.int "GREATEST_PRICE" v)) : fas[41]? = some (He.Fa.int "GREATEST_PRICE" v).ok → ∃ t, mg "GREATEST_PRICE" = some (.int v t) := by intro q; obtain ⟨h, X, G, c⟩ := T; exact He.int_ok X G (fact c 41 q)
theorem i_PRICE_DIGITS (T : Tx K mg) {v : Int} (e : (He.Fa.int "PRICE_DIGITS" v) = (He.Fa.int "PRICE_DIGITS" v)) : fas[42]? = some (He.Fa.int "PRICE_DIGITS" v).ok → ∃ t, mg "PRICE_DIGITS" = some (.int v t) := by intro q; obtain ⟨h, X, G, c⟩ := T; exact He.int_ok X G (fact c 42 q)
theorem i_ROAD_WORDS (T : Tx K mg) {v : Int} (e : (He.Fa.int "ROAD_WORDS" v) = (He.Fa.int "ROAD_WORDS" v)) : fas[43]? = some (He.Fa.int "ROAD_WORDS" v).ok → ∃ t, mg "ROAD_WORDS" = some (.int v t) := by intro q; obtain ⟨h, X, G, c⟩ := T; exact He.int_ok X G (fact c 43 q)
theorem i_SETTLED_WORDS (T : Tx K mg) {v : Int} (e : (He.Fa.int "SETTLED_WORDS" v) = (He.Fa.int "SETTLED_WORDS" v)) : fas[44]? = some (He.Fa.int "SETTLED_WORDS" v).ok → ∃ t, mg "SETTLED_WORDS" = some (.int v t) := by intro q; obtain ⟨h, X, G, c⟩ := T; exact He.int_ok X G (fact c 44 q)
theorem t_LETTERS (T : Tx K mg) {v : Str} : fas[45]? = some (He.Fa.str "LETTERS" v).ok → ∃ t, mg "LETTERS" = some (.str v t) := by intro q; obtain ⟨h, X, G, c⟩ := T; exact He.str_ok X G (fact c 45 q)
theorem t_DIGITS (T : Tx K mg) {v : Str} : fas[46]? = some (He.Fa.str "DIGITS" v).ok → ∃ t, mg "DIGITS" = some (.str v t) := by intro q; obtain ⟨h, X, G, c⟩ := T; exact He.str_ok X G (fact c 46 q)
theorem c_Lane (T : Tx K mg) : Cls K (He.ga K "Lane") := by obtain ⟨h, X, G, c⟩ := T; exact He.cls_ok (fact c 47)
theorem c_Avenue (T : Tx K mg) : Cls K (He.ga K "Avenue") := by obtain ⟨h, X, G, c⟩ := T; exact He.cls_ok (fact c 48)
theorem c_Road (T : Tx K mg) : Cls K (He.ga K "Road") := by obtain ⟨h, X, G, c⟩ := T; exact He.cls_ok (fact c 49)
theorem na_Lane_name (T : Tx K mg) : NoAttr K (He.ga K "Lane") "name" := by obtain ⟨h, X, G, c⟩ := T; exact He.noat_ok (fact c 50)
theorem na_Lane_start (T : Tx K mg) : NoAttr K (He.ga K "Lane") "start" := by obtain ⟨h, X, G, c⟩ := T; exact He.noat_ok (fact c 51)
theorem na_Lane_goal (T : Tx K mg) : NoAttr K (He.ga K "Lane") "goal" := by obtain ⟨h, X, G, c⟩ := T; exact He.noat_ok (fact c 52)
theorem na_Avenue_name (T : Tx K mg) : NoAttr K (He.ga K "Avenue") "name" := by obtain ⟨h, X, G, c⟩ := T; exact He.noat_ok (fact c 53)
theorem na_Avenue_one (T : Tx K mg) : NoAttr K (He.ga K "Avenue") "one" := by obtain ⟨h, X, G, c⟩ := T; exact He.noat_ok (fact c 54)
theorem na_Avenue_other (T : Tx K mg) : NoAttr K (He.ga K "Avenue") "other" := by obtain ⟨h, X, G, c⟩ := T; exact He.noat_ok (fact c 55)
theorem na_Road_name (T : Tx K mg) : NoAttr K (He.ga K "Road") "name" := by obtain ⟨h, X, G, c⟩ := T; exact He.noat_ok (fact c 56)
theorem na_Road_one (T : Tx K mg) : NoAttr K (He.ga K "Road") "one" := by obtain ⟨h, X, G, c⟩ := T; exact He.noat_ok (fact c 57)
theorem na_Road_other (T : Tx K mg) : NoAttr K (He.ga K "Road") "other" := by obtain ⟨h, X, G, c⟩ := T; exact He.noat_ok (fact c 58)
theorem na_Road_there (T : Tx K mg) : NoAttr K (He.ga K "Road") "there" := by obtain ⟨h, X, G, c⟩ := T; exact He.noat_ok (fact c 59)
theorem na_Road_back (T : Tx K mg) : NoAttr K (He.ga K "Road") "back" := by obtain ⟨h, X, G, c⟩ := T; exact He.noat_ok (fact c 60)
theorem m_Lane_eq (T : Tx K mg) : Meth K (He.ga K "Lane") "__eq__" (He.ma K (He.ga K "Lane") "__eq__") := by obtain ⟨h, X, G, c⟩ := T; exact He.meth_ok (fact c 61)
theorem m_Lane_str (T : Tx K mg) : Meth K (He.ga K "Lane") "__str__" (He.ma K (He.ga K "Lane") "__str__") := by obtain ⟨h, X, G, c⟩ := T; exact He.meth_ok (fact c 62)
theorem m_Lane_invert (T : Tx K mg) : Meth K (He.ga K "Lane") "__invert__" (He.ma K (He.ga K "Lane") "__invert__") := by obtain ⟨h, X, G, c⟩ := T; exact He.meth_ok (fact c 63)
theorem m_Lane_renamed (T : Tx K mg) : Meth K (He.ga K "Lane") "renamed" (He.ma K (He.ga K "Lane") "renamed") := by obtain ⟨h, X, G, c⟩ := T; exact He.meth_ok (fact c 64)
theorem m_Lane_opened (T : Tx K mg) : Meth K (He.ga K "Lane") "opened" (He.ma K (He.ga K "Lane") "opened") := by obtain ⟨h, X, G, c⟩ := T; exact He.meth_ok (fact c 65)
theorem m_Lane_far (T : Tx K mg) : Meth K (He.ga K "Lane") "far" (He.ma K (He.ga K "Lane") "far") := by obtain ⟨h, X, G, c⟩ := T; exact He.meth_ok (fact c 66)
theorem m_Lane_leads (T : Tx K mg) : Meth K (He.ga K "Lane") "leads" (He.ma K (He.ga K "Lane") "leads") := by obtain ⟨h, X, G, c⟩ := T; exact He.meth_ok (fact c 67)
theorem m_Avenue_eq (T : Tx K mg) : Meth K (He.ga K "Avenue") "__eq__" (He.ma K (He.ga K "Avenue") "__eq__") := by obtain ⟨h, X, G, c⟩ := T; exact He.meth_ok (fact c 68)
theorem m_Avenue_str (T : Tx K mg) : Meth K (He.ga K "Avenue") "__str__" (He.ma K (He.ga K "Avenue") "__str__") := by obtain ⟨h, X, G, c⟩ := T; exact He.meth_ok (fact c 69)
theorem m_Avenue_invert (T : Tx K mg) : Meth K (He.ga K "Avenue") "__invert__" (He.ma K (He.ga K "Avenue") "__invert__") := by obtain ⟨h, X, G, c⟩ := T; exact He.meth_ok (fact c 70)
theorem m_Avenue_renamed (T : Tx K mg) : Meth K (He.ga K "Avenue") "renamed" (He.ma K (He.ga K "Avenue") "renamed") := by obtain ⟨h, X, G, c⟩ := T; exact He.meth_ok (fact c 71)
theorem m_Avenue_opened (T : Tx K mg) : Meth K (He.ga K "Avenue") "opened" (He.ma K (He.ga K "Avenue") "opened") := by obtain ⟨h, X, G, c⟩ := T; exact He.meth_ok (fact c 72)
theorem m_Avenue_far (T : Tx K mg) : Meth K (He.ga K "Avenue") "far" (He.ma K (He.ga K "Avenue") "far") := by obtain ⟨h, X, G, c⟩ := T; exact He.meth_ok (fact c 73)
theorem m_Avenue_leads (T : Tx K mg) : Meth K (He.ga K "Avenue") "leads" (He.ma K (He.ga K "Avenue") "leads") := by obtain ⟨h, X, G, c⟩ := T; exact He.meth_ok (fact c 74)
theorem m_Road_eq (T : Tx K mg) : Meth K (He.ga K "Road") "__eq__" (He.ma K (He.ga K "Road") "__eq__") := by obtain ⟨h, X, G, c⟩ := T; exact He.meth_ok (fact c 75)
theorem m_Road_str (T : Tx K mg) : Meth K (He.ga K "Road") "__str__" (He.ma K (He.ga K "Road") "__str__") := by obtain ⟨h, X, G, c⟩ := T; exact He.meth_ok (fact c 76)
theorem m_Road_invert (T : Tx K mg) : Meth K (He.ga K "Road") "__invert__" (He.ma K (He.ga K "Road") "__invert__") := by obtain ⟨h, X, G, c⟩ := T; exact He.meth_ok (fact c 77)
theorem m_Road_renamed (T : Tx K mg) : Meth K (He.ga K "Road") "renamed" (He.ma K (He.ga K "Road") "renamed") := by obtain ⟨h, X, G, c⟩ := T; exact He.meth_ok (fact c 78)
theorem m_Road_opened (T : Tx K mg) : Meth K (He.ga K "Road") "opened" (He.ma K (He.ga K "Road") "opened") := by obtain ⟨h, X, G, c⟩ := T; exact He.meth_ok (fact c 79)
theorem m_Road_far (T : Tx K mg) : Meth K (He.ga K "Road") "far" (He.ma K (He.ga K "Road") "far") := by obtain ⟨h, X, G, c⟩ := T; exact He.meth_ok (fact c 80)
theorem m_Road_leads (T : Tx K mg) : Meth K (He.ga K "Road") "leads" (He.ma K (He.ga K "Road") "leads") := by obtain ⟨h, X, G, c⟩ := T; exact He.meth_ok (fact c 81)
theorem m_Road_price (T : Tx K mg) : Meth K (He.ga K "Road") "price" (He.ma K (He.ga K "Road") "price") := by obtain ⟨h, X, G, c⟩ := T; exact He.meth_ok (fact c 82)
theorem m_Road_signed (T : Tx K mg) : Meth K (He.ga K "Road") "signed" (He.ma K (He.ga K "Road") "signed") := by obtain ⟨h, X, G, c⟩ := T; exact He.meth_ok (fact c 83)
theorem m_Road_priced (T : Tx K mg) : Meth K (He.ga K "Road") "priced" (He.ma K (He.ga K "Road") "priced") := by obtain ⟨h, X, G, c⟩ := T; exact He.meth_ok (fact c 84)
theorem mk_Lane (T : Tx K mg) : Mk K (He.ga K "Lane") (He.ma K (He.ga K "Lane") "__init__") := by obtain ⟨h, X, G, c⟩ := T; exact He.mkr_ok (fact c 85)
theorem mk_Avenue (T : Tx K mg) : Mk K (He.ga K "Avenue") (He.ma K (He.ga K "Avenue") "__init__") := by obtain ⟨h, X, G, c⟩ := T; exact He.mkr_ok (fact c 86)
theorem mk_Road (T : Tx K mg) : Mk K (He.ga K "Road") (He.ma K (He.ga K "Road") "__init__") := by obtain ⟨h, X, G, c⟩ := T; exact He.mkr_ok (fact c 87)
theorem pr_Lane_ends (T : Tx K mg) : PropOf K (He.ga K "Lane") "ends" (He.ma K (He.ga K "Lane") "ends") (getA K (He.ga K "Lane") "ends") := by obtain ⟨h, X, G, c⟩ := T; exact propB_ok (fact c 88)
theorem pr_Avenue_ends (T : Tx K mg) : PropOf K (He.ga K "Avenue") "ends" (He.ma K (He.ga K "Avenue") "ends") (getA K (He.ga K "Avenue") "ends") := by obtain ⟨h, X, G, c⟩ := T; exact propB_ok (fact c 89)
theorem pr_Road_ends (T : Tx K mg) : PropOf K (He.ga K "Road") "ends" (He.ma K (He.ga K "Road") "ends") (getA K (He.ga K "Road") "ends") := by obtain ⟨h, X, G, c⟩ := T; exact propB_ok (fact c 90)
theorem ci_Lane (T : Tx K mg) : ClsI K (He.ga K "Lane") := by obtain ⟨h, X, G, c⟩ := T; exact clsB_ok (fact c 91)
theorem ci_Avenue (T : Tx K mg) : ClsI K (He.ga K "Avenue") := by obtain ⟨h, X, G, c⟩ := T; exact clsB_ok (fact c 92)
theorem ci_Road (T : Tx K mg) : ClsI K (He.ga K "Road") := by obtain ⟨h, X, G, c⟩ := T; exact clsB_ok (fact c 93)
theorem k_Lane_Lane (T : Tx K mg) : PySem.W.kitOne K (.ref (He.ga K "Lane")) (.ref (He.ga K "Lane")) = some true := by obtain ⟨h, X, G, c⟩ := T; exact of_decide_eq_true (fact c 94)
theorem k_Lane_Avenue (T : Tx K mg) : PySem.W.kitOne K (.ref (He.ga K "Lane")) (.ref (He.ga K "Avenue")) = some false := by obtain ⟨h, X, G, c⟩ := T; exact of_decide_eq_true (fact c 95)
theorem k_Lane_Road (T : Tx K mg) : PySem.W.kitOne K (.ref (He.ga K "Lane")) (.ref (He.ga K "Road")) = some false := by obtain ⟨h, X, G, c⟩ := T; exact of_decide_eq_true (fact c 96)
theorem k_Avenue_Lane (T : Tx K mg) : PySem.W.kitOne K (.ref (He.ga K "Avenue")) (.ref (He.ga K "Lane")) = some false := by obtain ⟨h, X, G, c⟩ := T; exact of_decide_eq_true (fact c 97)
theorem k_Avenue_Avenue (T : Tx K mg) : PySem.W.kitOne K (.ref (He.ga K "Avenue")) (.ref (He.ga K "Avenue")) = some true := by obtain ⟨h, X, G, c⟩ := T; exact of_decide_eq_true (fact c 98)
theorem k_Avenue_Road (T : Tx K mg) : PySem.W.kitOne K (.ref (He.ga K "Avenue")) (.ref (He.ga K "Road")) = some false := by obtain ⟨h, X, G, c⟩ := T; exact of_decide_eq_true (fact c 99)
theorem k_Road_Lane (T : Tx K mg) : PySem.W.kitOne K (.ref (He.ga K "Road")) (.ref (He.ga K "Lane")) = some false := by obtain ⟨h, X, G, c⟩ := T; exact of_decide_eq_true (fact c 100)
theorem k_Road_Avenue (T : Tx K mg) : PySem.W.kitOne K (.ref (He.ga K "Road")) (.ref (He.ga K "Avenue")) = some false := by obtain ⟨h, X, G, c⟩ := T; exact of_decide_eq_true (fact c 101)
theorem k_Road_Road (T : Tx K mg) : PySem.W.kitOne K (.ref (He.ga K "Road")) (.ref (He.ga K "Road")) = some true := by obtain ⟨h, X, G, c⟩ := T; exact of_decide_eq_true (fact c 102)
theorem k_Lane_Settled (T : Tx K mg) : PySem.W.kitOne K (.ref (He.ga K "Lane")) (.ref (He.ga K "Settled")) = some true := by obtain ⟨h, X, G, c⟩ := T; exact of_decide_eq_true (fact c 103)
theorem k_Lane_Even (T : Tx K mg) : PySem.W.kitOne K (.ref (He.ga K "Lane")) (.ref (He.ga K "Even")) = some false := by obtain ⟨h, X, G, c⟩ := T; exact of_decide_eq_true (fact c 104)
theorem k_Avenue_Settled (T : Tx K mg) : PySem.W.kitOne K (.ref (He.ga K "Avenue")) (.ref (He.ga K "Settled")) = some true := by obtain ⟨h, X, G, c⟩ := T; exact of_decide_eq_true (fact c 105)
theorem k_Avenue_Even (T : Tx K mg) : PySem.W.kitOne K (.ref (He.ga K "Avenue")) (.ref (He.ga K "Even")) = some true := by obtain ⟨h, X, G, c⟩ := T; exact of_decide_eq_true (fact c 106)
theorem k_Road_Settled (T : Tx K mg) : PySem.W.kitOne K (.ref (He.ga K "Road")) (.ref (He.ga K "Settled")) = some false := by obtain ⟨h, X, G, c⟩ := T; exact of_decide_eq_true (fact c 107)
theorem k_Road_Even (T : Tx K mg) : PySem.W.kitOne K (.ref (He.ga K "Road")) (.ref (He.ga K "Even")) = some true := by obtain ⟨h, X, G, c⟩ := T; exact of_decide_eq_true (fact c 108)
theorem k_NoneType_Lane (T : Tx K mg) : PySem.W.kitOne K (.type "NoneType") (.ref (He.ga K "Lane")) = some false := by obtain ⟨h, X, G, c⟩ := T; exact of_decide_eq_true (fact c 109)
theorem k_NoneType_Avenue (T : Tx K mg) : PySem.W.kitOne K (.type "NoneType") (.ref (He.ga K "Avenue")) = some false := by obtain ⟨h, X, G, c⟩ := T; exact of_decide_eq_true (fact c 110)
theorem k_NoneType_Road (T : Tx K mg) : PySem.W.kitOne K (.type "NoneType") (.ref (He.ga K "Road")) = some false := by obtain ⟨h, X, G, c⟩ := T; exact of_decide_eq_true (fact c 111)
theorem k_bool_Lane (T : Tx K mg) : PySem.W.kitOne K (.type "bool") (.ref (He.ga K "Lane")) = some false := by obtain ⟨h, X, G, c⟩ := T; exact of_decide_eq_true (fact c 112)
theorem k_bool_Avenue (T : Tx K mg) : PySem.W.kitOne K (.type "bool") (.ref (He.ga K "Avenue")) = some false := by obtain ⟨h, X, G, c⟩ := T; exact of_decide_eq_true (fact c 113)
theorem k_bool_Road (T : Tx K mg) : PySem.W.kitOne K (.type "bool") (.ref (He.ga K "Road")) = some false := by obtain ⟨h, X, G, c⟩ := T; exact of_decide_eq_true (fact c 114)
theorem k_int_Lane (T : Tx K mg) : PySem.W.kitOne K (.type "int") (.ref (He.ga K "Lane")) = some false := by obtain ⟨h, X, G, c⟩ := T; exact of_decide_eq_true (fact c 115)
theorem k_int_Avenue (T : Tx K mg) : PySem.W.kitOne K (.type "int") (.ref (He.ga K "Avenue")) = some false := by obtain ⟨h, X, G, c⟩ := T; exact of_decide_eq_true (fact c 116)
theorem k_int_Road (T : Tx K mg) : PySem.W.kitOne K (.type "int") (.ref (He.ga K "Road")) = some false := by obtain ⟨h, X, G, c⟩ := T; exact of_decide_eq_true (fact c 117)
theorem k_str_Lane (T : Tx K mg) : PySem.W.kitOne K (.type "str") (.ref (He.ga K "Lane")) = some false := by obtain ⟨h, X, G, c⟩ := T; exact of_decide_eq_true (fact c 118)
theorem k_str_Avenue (T : Tx K mg) : PySem.W.kitOne K (.type "str") (.ref (He.ga K "Avenue")) = some false := by obtain ⟨h, X, G, c⟩ := T; exact of_decide_eq_true (fact c 119)
theorem k_str_Road (T : Tx K mg) : PySem.W.kitOne K (.type "str") (.ref (He.ga K "Road")) = some false := by obtain ⟨h, X, G, c⟩ := T; exact of_decide_eq_true (fact c 120)
theorem k_list_Lane (T : Tx K mg) : PySem.W.kitOne K (.type "list") (.ref (He.ga K "Lane")) = some false := by obtain ⟨h, X, G, c⟩ := T; exact of_decide_eq_true (fact c 121)
theorem k_list_Avenue (T : Tx K mg) : PySem.W.kitOne K (.type "list") (.ref (He.ga K "Avenue")) = some false := by obtain ⟨h, X, G, c⟩ := T; exact of_decide_eq_true (fact c 122)
theorem k_list_Road (T : Tx K mg) : PySem.W.kitOne K (.type "list") (.ref (He.ga K "Road")) = some false := by obtain ⟨h, X, G, c⟩ := T; exact of_decide_eq_true (fact c 123)
theorem k_tuple_Lane (T : Tx K mg) : PySem.W.kitOne K (.type "tuple") (.ref (He.ga K "Lane")) = some false := by obtain ⟨h, X, G, c⟩ := T; exact of_decide_eq_true (fact c 124)
theorem k_tuple_Avenue (T : Tx K mg) : PySem.W.kitOne K (.type "tuple") (.ref (He.ga K "Avenue")) = some false := by obtain ⟨h, X, G, c⟩ := T; exact of_decide_eq_true (fact c 125)
theorem k_tuple_Road (T : Tx K mg) : PySem.W.kitOne K (.type "tuple") (.ref (He.ga K "Road")) = some false := by obtain ⟨h, X, G, c⟩ := T; exact of_decide_eq_true (fact c 126)
theorem k_dict_Lane (T : Tx K mg) : PySem.W.kitOne K (.type "dict") (.ref (He.ga K "Lane")) = some false := by obtain ⟨h, X, G, c⟩ := T; exact of_decide_eq_true (fact c 127)
theorem k_dict_Avenue (T : Tx K mg) : PySem.W.kitOne K (.type "dict") (.ref (He.ga K "Avenue")) = some false := by obtain ⟨h, X, G, c⟩ := T; exact of_decide_eq_true (fact c 128)
theorem k_dict_Road (T : Tx K mg) : PySem.W.kitOne K (.type "dict") (.ref (He.ga K "Road")) = some false := by obtain ⟨h, X, G, c⟩ := T; exact of_decide_eq_true (fact c 129)
theorem nf_Lane_Lane (T : Tx K mg) : PySem.W.notFirst K (He.ga K "Lane") (.ref (He.ga K "Lane")) = true := by obtain ⟨h, X, G, c⟩ := T; exact fact c 130
theorem nf_Lane_Avenue (T : Tx K mg) : PySem.W.notFirst K (He.ga K "Lane") (.ref (He.ga K "Avenue")) = true := by obtain ⟨h, X, G, c⟩ := T; exact fact c 131
theorem nf_Lane_Road (T : Tx K mg) : PySem.W.notFirst K (He.ga K "Lane") (.ref (He.ga K "Road")) = true := by obtain ⟨h, X, G, c⟩ := T; exact fact c 132
theorem nf_Avenue_Lane (T : Tx K mg) : PySem.W.notFirst K (He.ga K "Avenue") (.ref (He.ga K "Lane")) = true := by obtain ⟨h, X, G, c⟩ := T; exact fact c 133
theorem nf_Avenue_Avenue (T : Tx K mg) : PySem.W.notFirst K (He.ga K "Avenue") (.ref (He.ga K "Avenue")) = true := by obtain ⟨h, X, G, c⟩ := T; exact fact c 134
theorem nf_Avenue_Road (T : Tx K mg) : PySem.W.notFirst K (He.ga K "Avenue") (.ref (He.ga K "Road")) = true := by obtain ⟨h, X, G, c⟩ := T; exact fact c 135
theorem nf_Road_Lane (T : Tx K mg) : PySem.W.notFirst K (He.ga K "Road") (.ref (He.ga K "Lane")) = true := by obtain ⟨h, X, G, c⟩ := T; exact fact c 136
theorem nf_Road_Avenue (T : Tx K mg) : PySem.W.notFirst K (He.ga K "Road") (.ref (He.ga K "Avenue")) = true := by obtain ⟨h, X, G, c⟩ := T; exact fact c 137
theorem nf_Road_Road (T : Tx K mg) : PySem.W.notFirst K (He.ga K "Road") (.ref (He.ga K "Road")) = true := by obtain ⟨h, X, G, c⟩ := T; exact fact c 138
theorem nf_Lane_NoneType (T : Tx K mg) : PySem.W.notFirst K (He.ga K "Lane") (.type "NoneType") = true := by obtain ⟨h, X, G, c⟩ := T; exact fact c 139
theorem nf_Lane_bool (T : Tx K mg) : PySem.W.notFirst K (He.ga K "Lane") (.type "bool") = true := by obtain ⟨h, X, G, c⟩ := T; exact fact c 140
theorem nf_Lane_int (T : Tx K mg) : PySem.W.notFirst K (He.ga K "Lane") (.type "int") = true := by obtain ⟨h, X, G, c⟩ := T; exact fact c 141
theorem nf_Lane_str (T : Tx K mg) : PySem.W.notFirst K (He.ga K "Lane") (.type "str") = true := by obtain ⟨h, X, G, c⟩ := T; exact fact c 142
theorem nf_Lane_list (T : Tx K mg) : PySem.W.notFirst K (He.ga K "Lane") (.type "list") = true := by obtain ⟨h, X, G, c⟩ := T; exact fact c 143
theorem nf_Lane_tuple (T : Tx K mg) : PySem.W.notFirst K (He.ga K "Lane") (.type "tuple") = true := by obtain ⟨h, X, G, c⟩ := T; exact fact c 144
theorem nf_Lane_dict (T : Tx K mg) : PySem.W.notFirst K (He.ga K "Lane") (.type "dict") = true := by obtain ⟨h, X, G, c⟩ := T; exact fact c 145
theorem nf_Avenue_NoneType (T : Tx K mg) : PySem.W.notFirst K (He.ga K "Avenue") (.type "NoneType") = true := by obtain ⟨h, X, G, c⟩ := T; exact fact c 146
theorem nf_Avenue_bool (T : Tx K mg) : PySem.W.notFirst K (He.ga K "Avenue") (.type "bool") = true := by obtain ⟨h, X, G, c⟩ := T; exact fact c 147
theorem nf_Avenue_int (T : Tx K mg) : PySem.W.notFirst K (He.ga K "Avenue") (.type "int") = true := by obtain ⟨h, X, G, c⟩ := T; exact fact c 148
theorem nf_Avenue_str (T : Tx K mg) : PySem.W.notFirst K (He.ga K "Avenue") (.type "str") = true := by obtain ⟨h, X, G, c⟩ := T; exact fact c 149
theorem nf_Avenue_list (T : Tx K mg) : PySem.W.notFirst K (He.ga K "Avenue") (.type "list") = true := by obtain ⟨h, X, G, c⟩ := T; exact fact c 150
theorem nf_Avenue_tuple (T : Tx K mg) : PySem.W.notFirst K (He.ga K "Avenue") (.type "tuple") = true := by obtain ⟨h, X, G, c⟩ := T; exact fact c 151
theorem nf_Avenue_dict (T : Tx K mg) : PySem.W.notFirst K (He.ga K "Avenue") (.type "dict") = true := by obtain ⟨h, X, G, c⟩ := T; exact fact c 152
theorem nf_Road_NoneType (T : Tx K mg) : PySem.W.notFirst K (He.ga K "Road") (.type "NoneType") = true := by obtain ⟨h, X, G, c⟩ := T; exact fact c 153
theorem nf_Road_bool (T : Tx K mg) : PySem.W.notFirst K (He.ga K "Road") (.type "bool") = true := by obtain ⟨h, X, G, c⟩ := T; exact fact c 154
theorem nf_Road_int (T : Tx K mg) : PySem.W.notFirst K (He.ga K "Road") (.type "int") = true := by obtain ⟨h, X, G, c⟩ := T; exact fact c 155
theorem nf_Road_str (T : Tx K mg) : PySem.W.notFirst K (He.ga K "Road") (.type "str") = true := by obtain ⟨h, X, G, c⟩ := T; exact fact c 156
theorem nf_Road_list (T : Tx K mg) : PySem.W.notFirst K (He.ga K "Road") (.type "list") = true := by obtain ⟨h, X, G, c⟩ := T; exact fact c 157
theorem nf_Road_tuple (T : Tx K mg) : PySem.W.notFirst K (He.ga K "Road") (.type "tuple") = true := by obtain ⟨h, X, G, c⟩ := T; exact fact c 158
theorem nf_Road_dict (T : Tx K mg) : PySem.W.notFirst K (He.ga K "Road") (.type "dict") = true := by obtain ⟨h, X, G, c⟩ := T; exact fact c 159
theorem cr_Street (T : Tx K mg) : ClX.CRead K (He.ga K "Street") (.type "type") := by obtain ⟨h, X, G, c⟩ := T; exact cread_ok (fact c 160)
theorem cm_Street_read (T : Tx K mg) : ClX.CMet K (He.ga K "Street") (.type "type") "read" (He.ma K (He.ga K "Street") "read") (getC K (He.ga K "Street") "read") := by obtain ⟨h, X, G, c⟩ := T; exact cmet_ok (fact c 161)
theorem ct_Street_KINDS (T : Tx K mg) : ClX.CVal K (He.ga K "Street") (.type "type") "KINDS" (.ref (He.ma K (He.ga K "Street") "KINDS")) (.ref (He.ma K (He.ga K "Street") "KINDS")) ∧ ∀ H, SqT K H (He.ma K (He.ga K "Street") "KINDS") (([.str "lane", .str "avenue", .str "road"] : List He.Dv).map (He.Dv.v K)) := by obtain ⟨h, X, G, c⟩ := T; exact ctup_ok (fact c 162)
abbrev d_is_name : Hx.Dx := ⟨fun K => He.ga K "is_name", "is_name", "is_name", s_is_name, [], []⟩
theorem f_is_name (T : Tx K mg) : ∃ fd, Fd K d_is_name fd := by obtain ⟨h, X, G, c⟩ := T; exact defn c 0
abbrev d_is_integer : Hx.Dx := ⟨fun K => He.ga K "is_integer", "is_integer", "is_integer", s_is_integer, [], []⟩
theorem f_is_integer (T : Tx K mg) : ∃ fd, Fd K d_is_integer fd := by obtain ⟨h, X, G, c⟩ := T; exact defn c 1
abbrev d_is_price : Hx.Dx := ⟨fun K => He.ga K "is_price", "is_price", "is_price", s_is_price, [], []⟩
theorem f_is_price (T : Tx K mg) : ∃ fd, Fd K d_is_price fd := by obtain ⟨h, X, G, c⟩ := T; exact defn c 2
abbrev d_check_street : Hx.Dx := ⟨fun K => He.ga K "check_street", "check_street", "check_street", s_check_street, [], []⟩
theorem f_check_street (T : Tx K mg) : ∃ fd, Fd K d_check_street fd := by obtain ⟨h, X, G, c⟩ := T; exact defn c 3
abbrev d_check_prices : Hx.Dx := ⟨fun K => He.ga K "check_prices", "check_prices", "check_prices", s_check_prices, [], []⟩
theorem f_check_prices (T : Tx K mg) : ∃ fd, Fd K d_check_prices fd := by obtain ⟨h, X, G, c⟩ := T; exact defn c 4
abbrev d_check_end : Hx.Dx := ⟨fun K => He.ga K "check_end", "check_end", "check_end", s_check_end, [], []⟩
theorem f_check_end (T : Tx K mg) : ∃ fd, Fd K d_check_end fd := by obtain ⟨h, X, G, c⟩ := T; exact defn c 5
abbrev d_far_end : Hx.Dx := ⟨fun K => He.ga K "far_end", "far_end", "far_end", s_far_end, [], []⟩
theorem f_far_end (T : Tx K mg) : ∃ fd, Fd K d_far_end fd := by obtain ⟨h, X, G, c⟩ := T; exact defn c 6
abbrev d_is_price_word : Hx.Dx := ⟨fun K => He.ga K "is_price_word", "is_price_word", "is_price_word", s_is_price_word, [], []⟩
theorem f_is_price_word (T : Tx K mg) : ∃ fd, Fd K d_is_price_word fd := by obtain ⟨h, X, G, c⟩ := T; exact defn c 7
abbrev d_can_stand : Hx.Dx := ⟨fun K => He.ga K "can_stand", "can_stand", "can_stand", s_can_stand, [], []⟩
theorem f_can_stand (T : Tx K mg) : ∃ fd, Fd K d_can_stand fd := by obtain ⟨h, X, G, c⟩ := T; exact defn c 8
abbrev d_first_wrong : Hx.Dx := ⟨fun K => He.ga K "first_wrong", "first_wrong", "first_wrong", s_first_wrong, [], []⟩
theorem f_first_wrong (T : Tx K mg) : ∃ fd, Fd K d_first_wrong fd := by obtain ⟨h, X, G, c⟩ := T; exact defn c 9
abbrev d_read_street : Hx.Dx := ⟨fun K => He.ga K "read_street", "read_street", "read_street", s_read_street, [], []⟩
theorem f_read_street (T : Tx K mg) : ∃ fd, Fd K d_read_street fd := by obtain ⟨h, X, G, c⟩ := T; exact defn c 10
abbrev d__law_pen : Hx.Dx := ⟨fun K => He.ga K "_law_pen", "_law_pen", "_law_pen", s__law_pen, [], []⟩
theorem f__law_pen (T : Tx K mg) : ∃ fd, Fd K d__law_pen fd := by obtain ⟨h, X, G, c⟩ := T; exact defn c 11
abbrev d__law_draw : Hx.Dx := ⟨fun K => He.ga K "_law_draw", "_law_draw", "_law_draw", s__law_draw, [], []⟩
theorem f__law_draw (T : Tx K mg) : ∃ fd, Fd K d__law_draw fd := by obtain ⟨h, X, G, c⟩ := T; exact defn c 12
abbrev d__law_pick : Hx.Dx := ⟨fun K => He.ga K "_law_pick", "_law_pick", "_law_pick", s__law_pick, [], []⟩
theorem f__law_pick (T : Tx K mg) : ∃ fd, Fd K d__law_pick fd := by obtain ⟨h, X, G, c⟩ := T; exact defn c 13
abbrev d__law_word : Hx.Dx := ⟨fun K => He.ga K "_law_word", "_law_word", "_law_word", s__law_word, [], []⟩
theorem f__law_word (T : Tx K mg) : ∃ fd, Fd K d__law_word fd := by obtain ⟨h, X, G, c⟩ := T; exact defn c 14
abbrev d__law_street : Hx.Dx := ⟨fun K => He.ga K "_law_street", "_law_street", "_law_street", s__law_street, [], []⟩
theorem f__law_street (T : Tx K mg) : ∃ fd, Fd K d__law_street fd := by obtain ⟨h, X, G, c⟩ := T; exact defn c 15
abbrev d__law_ends_right : Hx.Dx := ⟨fun K => He.ga K "_law_ends_right", "_law_ends_right", "_law_ends_right", s__law_ends_right, [], []⟩
theorem f__law_ends_right (T : Tx K mg) : ∃ fd, Fd K d__law_ends_right fd := by obtain ⟨h, X, G, c⟩ := T; exact defn c 16
abbrev d__law_texts_right : Hx.Dx := ⟨fun K => He.ga K "_law_texts_right", "_law_texts_right", "_law_texts_right", s__law_texts_right, [], []⟩
theorem f__law_texts_right (T : Tx K mg) : ∃ fd, Fd K d__law_texts_right fd := by obtain ⟨h, X, G, c⟩ := T; exact defn c 17
abbrev d__law_road_right : Hx.Dx := ⟨fun K => He.ga K "_law_road_right", "_law_road_right", "_law_road_right", s__law_road_right, [], []⟩
theorem f__law_road_right (T : Tx K mg) : ∃ fd, Fd K d__law_road_right fd := by obtain ⟨h, X, G, c⟩ := T; exact defn c 18
abbrev d_law : Hx.Dx := ⟨fun K => He.ga K "law", "law", "law", s_law, [], []⟩
theorem f_law (T : Tx K mg) : ∃ fd, Fd K d_law fd := by obtain ⟨h, X, G, c⟩ := T; exact defn c 19
abbrev d_Lane_init : Hx.Dx := ⟨fun K => He.ma K (He.ga K "Lane") "__init__", "__init__", "Lane.__init__", s_Lane_init, [], []⟩
theorem f_Lane_init (T : Tx K mg) : ∃ fd, Fd K d_Lane_init fd := by obtain ⟨h, X, G, c⟩ := T; exact defn c 20
abbrev d_Lane_eq : Hx.Dx := ⟨fun K => He.ma K (He.ga K "Lane") "__eq__", "__eq__", "Lane.__eq__", s_Lane_eq, [], []⟩
theorem f_Lane_eq (T : Tx K mg) : ∃ fd, Fd K d_Lane_eq fd := by obtain ⟨h, X, G, c⟩ := T; exact defn c 21
abbrev d_Lane_str : Hx.Dx := ⟨fun K => He.ma K (He.ga K "Lane") "__str__", "__str__", "Lane.__str__", s_Lane_str, [], []⟩
theorem f_Lane_str (T : Tx K mg) : ∃ fd, Fd K d_Lane_str fd := by obtain ⟨h, X, G, c⟩ := T; exact defn c 22
abbrev d_Lane_invert : Hx.Dx := ⟨fun K => He.ma K (He.ga K "Lane") "__invert__", "__invert__", "Lane.__invert__", s_Lane_invert, [], []⟩
theorem f_Lane_invert (T : Tx K mg) : ∃ fd, Fd K d_Lane_invert fd := by obtain ⟨h, X, G, c⟩ := T; exact defn c 23
abbrev d_Lane_renamed : Hx.Dx := ⟨fun K => He.ma K (He.ga K "Lane") "renamed", "renamed", "Lane.renamed", s_Lane_renamed, [], []⟩
theorem f_Lane_renamed (T : Tx K mg) : ∃ fd, Fd K d_Lane_renamed fd := by obtain ⟨h, X, G, c⟩ := T; exact defn c 24
abbrev d_Lane_opened : Hx.Dx := ⟨fun K => He.ma K (He.ga K "Lane") "opened", "opened", "Lane.opened", s_Lane_opened, [], []⟩
theorem f_Lane_opened (T : Tx K mg) : ∃ fd, Fd K d_Lane_opened fd := by obtain ⟨h, X, G, c⟩ := T; exact defn c 25
abbrev d_Lane_far : Hx.Dx := ⟨fun K => He.ma K (He.ga K "Lane") "far", "far", "Lane.far", s_Lane_far, [], []⟩
theorem f_Lane_far (T : Tx K mg) : ∃ fd, Fd K d_Lane_far fd := by obtain ⟨h, X, G, c⟩ := T; exact defn c 26
abbrev d_Lane_leads : Hx.Dx := ⟨fun K => He.ma K (He.ga K "Lane") "leads", "leads", "Lane.leads", s_Lane_leads, [], []⟩
theorem f_Lane_leads (T : Tx K mg) : ∃ fd, Fd K d_Lane_leads fd := by obtain ⟨h, X, G, c⟩ := T; exact defn c 27
abbrev d_Avenue_init : Hx.Dx := ⟨fun K => He.ma K (He.ga K "Avenue") "__init__", "__init__", "Avenue.__init__", s_Avenue_init, [], []⟩
theorem f_Avenue_init (T : Tx K mg) : ∃ fd, Fd K d_Avenue_init fd := by obtain ⟨h, X, G, c⟩ := T; exact defn c 28
abbrev d_Avenue_eq : Hx.Dx := ⟨fun K => He.ma K (He.ga K "Avenue") "__eq__", "__eq__", "Avenue.__eq__", s_Avenue_eq, [], []⟩
theorem f_Avenue_eq (T : Tx K mg) : ∃ fd, Fd K d_Avenue_eq fd := by obtain ⟨h, X, G, c⟩ := T; exact defn c 29
abbrev d_Avenue_str : Hx.Dx := ⟨fun K => He.ma K (He.ga K "Avenue") "__str__", "__str__", "Avenue.__str__", s_Avenue_str, [], []⟩
theorem f_Avenue_str (T : Tx K mg) : ∃ fd, Fd K d_Avenue_str fd := by obtain ⟨h, X, G, c⟩ := T; exact defn c 30
abbrev d_Avenue_invert : Hx.Dx := ⟨fun K => He.ma K (He.ga K "Avenue") "__invert__", "__invert__", "Avenue.__invert__", s_Avenue_invert, [], []⟩
theorem f_Avenue_invert (T : Tx K mg) : ∃ fd, Fd K d_Avenue_invert fd := by obtain ⟨h, X, G, c⟩ := T; exact defn c 31
abbrev d_Avenue_renamed : Hx.Dx := ⟨fun K => He.ma K (He.ga K "Avenue") "renamed", "renamed", "Avenue.renamed", s_Avenue_renamed, [], []⟩
theorem f_Avenue_renamed (T : Tx K mg) : ∃ fd, Fd K d_Avenue_renamed fd := by obtain ⟨h, X, G, c⟩ := T; exact defn c 32
abbrev d_Avenue_opened : Hx.Dx := ⟨fun K => He.ma K (He.ga K "Avenue") "opened", "opened", "Avenue.opened", s_Avenue_opened, [], []⟩
theorem f_Avenue_opened (T : Tx K mg) : ∃ fd, Fd K d_Avenue_opened fd := by obtain ⟨h, X, G, c⟩ := T; exact defn c 33
abbrev d_Avenue_far : Hx.Dx := ⟨fun K => He.ma K (He.ga K "Avenue") "far", "far", "Avenue.far", s_Avenue_far, [], []⟩
theorem f_Avenue_far (T : Tx K mg) : ∃ fd, Fd K d_Avenue_far fd := by obtain ⟨h, X, G, c⟩ := T; exact defn c 34
abbrev d_Avenue_leads : Hx.Dx := ⟨fun K => He.ma K (He.ga K "Avenue") "leads", "leads", "Avenue.leads", s_Avenue_leads, [], []⟩
theorem f_Avenue_leads (T : Tx K mg) : ∃ fd, Fd K d_Avenue_leads fd := by obtain ⟨h, X, G, c⟩ := T; exact defn c 35
abbrev d_Road_init : Hx.Dx := ⟨fun K => He.ma K (He.ga K "Road") "__init__", "__init__", "Road.__init__", s_Road_init, [.int (0), .int (0)], []⟩
theorem f_Road_init (T : Tx K mg) : ∃ fd, Fd K d_Road_init fd := by obtain ⟨h, X, G, c⟩ := T; exact defn c 36
abbrev d_Road_eq : Hx.Dx := ⟨fun K => He.ma K (He.ga K "Road") "__eq__", "__eq__", "Road.__eq__", s_Road_eq, [], []⟩
theorem f_Road_eq (T : Tx K mg) : ∃ fd, Fd K d_Road_eq fd := by obtain ⟨h, X, G, c⟩ := T; exact defn c 37
abbrev d_Road_str : Hx.Dx := ⟨fun K => He.ma K (He.ga K "Road") "__str__", "__str__", "Road.__str__", s_Road_str, [], []⟩
theorem f_Road_str (T : Tx K mg) : ∃ fd, Fd K d_Road_str fd := by obtain ⟨h, X, G, c⟩ := T; exact defn c 38
abbrev d_Road_invert : Hx.Dx := ⟨fun K => He.ma K (He.ga K "Road") "__invert__", "__invert__", "Road.__invert__", s_Road_invert, [], []⟩
theorem f_Road_invert (T : Tx K mg) : ∃ fd, Fd K d_Road_invert fd := by obtain ⟨h, X, G, c⟩ := T; exact defn c 39
abbrev d_Road_renamed : Hx.Dx := ⟨fun K => He.ma K (He.ga K "Road") "renamed", "renamed", "Road.renamed", s_Road_renamed, [], []⟩
theorem f_Road_renamed (T : Tx K mg) : ∃ fd, Fd K d_Road_renamed fd := by obtain ⟨h, X, G, c⟩ := T; exact defn c 40
abbrev d_Road_opened : Hx.Dx := ⟨fun K => He.ma K (He.ga K "Road") "opened", "opened", "Road.opened", s_Road_opened, [], []⟩
theorem f_Road_opened (T : Tx K mg) : ∃ fd, Fd K d_Road_opened fd := by obtain ⟨h, X, G, c⟩ := T; exact defn c 41
abbrev d_Road_far : Hx.Dx := ⟨fun K => He.ma K (He.ga K "Road") "far", "far", "Road.far", s_Road_far, [], []⟩
theorem f_Road_far (T : Tx K mg) : ∃ fd, Fd K d_Road_far fd := by obtain ⟨h, X, G, c⟩ := T; exact defn c 42
abbrev d_Road_leads : Hx.Dx := ⟨fun K => He.ma K (He.ga K "Road") "leads", "leads", "Road.leads", s_Road_leads, [], []⟩
theorem f_Road_leads (T : Tx K mg) : ∃ fd, Fd K d_Road_leads fd := by obtain ⟨h, X, G, c⟩ := T; exact defn c 43
abbrev d_Road_price : Hx.Dx := ⟨fun K => He.ma K (He.ga K "Road") "price", "price", "Road.price", s_Road_price, [], []⟩
theorem f_Road_price (T : Tx K mg) : ∃ fd, Fd K d_Road_price fd := by obtain ⟨h, X, G, c⟩ := T; exact defn c 44
abbrev d_Road_signed : Hx.Dx := ⟨fun K => He.ma K (He.ga K "Road") "signed", "signed", "Road.signed", s_Road_signed, [], []⟩
theorem f_Road_signed (T : Tx K mg) : ∃ fd, Fd K d_Road_signed fd := by obtain ⟨h, X, G, c⟩ := T; exact defn c 45
abbrev d_Road_priced : Hx.Dx := ⟨fun K => He.ma K (He.ga K "Road") "priced", "priced", "Road.priced", s_Road_priced, [], [("there", .non), ("back", .non)]⟩
theorem f_Road_priced (T : Tx K mg) : ∃ fd, Fd K d_Road_priced fd := by obtain ⟨h, X, G, c⟩ := T; exact defn c 46
abbrev d_Lane_ends : Hx.Dx := ⟨fun K => getA K (He.ga K "Lane") "ends", "ends", "Lane.ends", s_Lane_ends, [], []⟩
theorem f_Lane_ends (T : Tx K mg) : ∃ fd, Fd K d_Lane_ends fd := by obtain ⟨h, X, G, c⟩ := T; exact defn c 47
abbrev d_Avenue_ends : Hx.Dx := ⟨fun K => getA K (He.ga K "Avenue") "ends", "ends", "Avenue.ends", s_Avenue_ends, [], []⟩
theorem f_Avenue_ends (T : Tx K mg) : ∃ fd, Fd K d_Avenue_ends fd := by obtain ⟨h, X, G, c⟩ := T; exact defn c 48
abbrev d_Road_ends : Hx.Dx := ⟨fun K => getA K (He.ga K "Road") "ends", "ends", "Road.ends", s_Road_ends, [], []⟩
theorem f_Road_ends (T : Tx K mg) : ∃ fd, Fd K d_Road_ends fd := by obtain ⟨h, X, G, c⟩ := T; exact defn c 49
abbrev d_Street_read : Hx.Dx := ⟨fun K => getC K (He.ga K "Street") "read", "read", "Street.read", s_Street_read, [], []⟩
theorem f_Street_read (T : Tx K mg) : ∃ fd, Fd K d_Street_read fd := by obtain ⟨h, X, G, c⟩ := T; exact defn c 50
end
end K10
namespace K10
open PySem PySem.Spec PyProof.Rows L2 Hx Gx
/-- a def's promise, with how it is called -/
def Prom (P : Program) (w : World) (K : PySem.W.Frag) (mg : Str → Option Value) (base : Heap) (k : Nat) (d : Dx) (ps : List Str) (sp : Sp) : Prop :=
  ∃ fd, Fd K d fd ∧ FnOk P w K mg base CX0 k (d.adr K) fd ps sp ∧ Binds K fd ps []
/-- all that was tracked is as it was, but for p -/
def But (p : Addr) (H H' : Hp) : Prop := ∀ b o, b ≠ p → H b = some o → H' b = some o
/-- a pen: its cells, the next one's place (at most n), the rest of a great one -/
def PenAt (H : Hp) (p : Addr) (n : Nat) : Prop :=
  ∃ (c : Addr) (ns : List Int) (a r : Int), H p = some (.lst [.ref c, .int a, .int r]) ∧ c ≠ p ∧ H c = some (.lst (ns.map V.int)) ∧ ns.length ≤ 63 ∧ 0 ≤ a ∧ a ≤ (n : Int) ∧ 0 ≤ r
theorem int_list {xs : List V} {ns : List Int} (h : xs = ns.map V.int) (n : Nat) : xs.take n = (ns.take n).map V.int := by rw [h, List.map_take]
theorem cut_ints (ns : List Int) (hl : ns.length ≤ 63) (lo hi : Option Int) : ∃ ms : List Int, cutV (ns.map V.int) lo hi = ms.map V.int ∧ ms.length ≤ 63 := by
  unfold cutV
  refine ⟨_, by rw [← List.map_drop, ← List.map_take], ?_⟩
  rw [List.length_take, List.length_drop]
  omega
theorem dp_ints (K : PySem.W.Frag) (H : Hp) : ∀ ns : List Int, DpAll K H (ns.map V.int) (ns.map PyData.int)
  | [] => .nil
  | n :: ns => .cons (.int n) (dp_ints K H ns)
theorem shaped_ints : ∀ ns : List Int, SeqAt.shaped (.list (ns.map PyData.int)) = true := by
  intro ns
  have h1 : ∀ ns : List Int, PyData.canLayAll0 (ns.map PyData.int) = true := fun ns => by
    induction ns with
    | nil => rfl
    | cons n ns ih =>
      rw [List.map_cons]
      unfold PyData.canLayAll0
      rw [ih]
      rfl
  have h2 : ∀ ns : List Int, PyData.depthAll (ns.map PyData.int) = 0 := fun ns => by
    induction ns with
    | nil => rfl
    | cons n ns ih =>
      rw [List.map_cons]
      unfold PyData.depthAll
      rw [ih]
      rfl
  unfold SeqAt.shaped
  have h3 : PyData.depth (.list (ns.map PyData.int)) = 1 := by
    show PyData.depthAll (ns.map PyData.int) + 1 = 1
    rw [h2]
  have h4 : PyData.canLay0 (.list (ns.map PyData.int)) = true := h1 ns
  rw [h3, h4]
  rfl
theorem eqv_ints : ∀ ns : List Int, PyData.eqv (.list (ns.map PyData.int)) (.list []) = decide (ns = []) := by
  intro ns
  cases ns with
  | nil => rfl
  | cons n ns => rfl
/-- an item of a list of ints -/
theorem at_int {ns : List Int} {j : Int} (h0 : 0 ≤ j) (h1 : j < (ns.map V.int).length) : ∃ x, atI (ns.map V.int) j = some (.int x) := by
  obtain ⟨i, rfl⟩ : ∃ i : Nat, j = i := ⟨j.toNat, by omega⟩
  have hi : i < ns.length := by
    rw [List.length_map] at h1
    omega
  exact ⟨ns[i], atI_nat (by rw [List.getElem?_map, List.getElem?_eq_getElem hi]; rfl)⟩
theorem great_nn {cell : Int} (h : 10 ^ Int.toNat 18 ≤ if cell < 0 then -cell else cell) : 0 ≤ 2 * ((if cell < 0 then -cell else cell) - 10 ^ Int.toNat 18) + (if decide (cell < 0) = true then 1 else 0 : Int) := by
  have h2 : (0 : Int) ≤ (if decide (cell < 0) = true then 1 else 0 : Int) := by split <;> decide
  omega
theorem mix_ok {z a c1 c2 c3 : Int} (h1 : 0 ≤ z) (h2 : z < 2147483629) (h3 : 0 ≤ a) (h4 : a ≤ 100000) (h5 : 0 ≤ c1) (h6 : c1 ≤ 100000) (h7 : 0 ≤ c2) (h8 : c2 ≤ 100000) (h9 : 0 ≤ c3) (h10 : c3 ≤ 100000) :
    (z * (2 * a + c1) + c2 * a * a + c3).natAbs < 2 ^ 64 := by
  have q1 : z * (2 * a + c1) ≤ 2147483629 * 300000 := Int.mul_le_mul (by omega) (by omega) (by omega) (by decide)
  have q0 : 0 ≤ z * (2 * a + c1) := Int.mul_nonneg h1 (by omega)
  have p1 : c2 * a ≤ 100000 * 100000 := Int.mul_le_mul h8 h4 h3 (by decide)
  have p0 : 0 ≤ c2 * a := Int.mul_nonneg h7 h3
  have r1 : c2 * a * a ≤ (100000 * 100000) * 100000 := Int.mul_le_mul p1 h4 h3 (by decide)
  have r0 : 0 ≤ c2 * a * a := Int.mul_nonneg p0 h3
  omega
theorem lt200 {m : Int} (h0 : 0 < m) (h : m < 10 ^ 60) : m.natAbs < 2 ^ 200 := by
  have e : (10 : Int) ^ 60 < 2 ^ 200 := by decide
  omega
section
variable {P : Program} {w : World} {K : PySem.W.Frag} {mg : Str → Option Value} {base : Heap}
def spPen (K : PySem.W.Frag) : Sp := fun vs H Q _ => ∃ (a : Addr) (ns : List Int), vs = [.ref a] ∧ SqL K H a (ns.map V.int) ∧ ns.length ≤ 63 ∧ ∀ (H' : Hp) (p : Addr), Same H H' → H p = none → PenAt H' p 0 → Q (.ref p) H'
theorem sc_pen : FnScope ["_law_script"] ["_law_script"] (defScope s__law_pen) := ⟨rfl, rfl, rfl, by decide +kernel, rfl, by decide +kernel, by decide +kernel⟩
theorem p_pen (T : Tx K mg) : Prom P w K mg base 1 d__law_pen ["_law_script"] (spPen K) := by
  obtain ⟨fd, F⟩ := f__law_pen T
  refine ⟨fd, F, F.ok sc_pen (fun vs H Q E h => ?_) (fun cdv A outer s H vs Q E hr h => ?_), F.bindsN fun _ _ _ _ _ _ us hl => match us, hl with | [_], _ => rfl⟩
  · obtain ⟨a, ns, rfl, _⟩ := h
    rfl
  · obtain ⟨a, ns, rfl, hs, hl, k⟩ := h
    refine ⟨_, pss_one (ps_ret (pe_lst (pa_cons (pe_callTy call_list_of (by rfl) (n_list T) (by decide +kernel) (pa_cons (pe_slice sl_list (pv 0) po_none (po_some pe_int)) pa_nil)) (pa_cons pe_int (pa_cons pe_int pa_nil))))), ?_⟩
    refine ⟨_, rfl, ?_⟩
    refine ⟨63, rfl, a, _, rfl, hs, fun c hc => ⟨c, _, rfl, .inl (SqL.of upd_same), fun l hl2 => ⟨(by show 3 ≤ sizeLine; decide), fun p hp => ?_⟩⟩⟩
    have hcl : c ≠ l := ne_of_none upd_same hl2
    have hcp : c ≠ p := ne_of_none (by rw [upd_ne hcl]; exact upd_same) hp
    have hlp : l ≠ p := ne_of_none upd_same hp
    have h1 : H p = none := by
      rw [upd_ne hlp.symm, upd_ne hcp.symm] at hp
      exact hp
    obtain ⟨ms, em, hm⟩ := cut_ints ns hl none (some 63)
    refine k _ p (fun b o e => ?_) h1 ⟨l, ms, 0, 0, upd_same, hlp, by rw [upd_ne hlp, upd_same, ← em], hm, Int.le_refl 0, Int.le_refl 0, Int.le_refl 0⟩
    have b1 := ne_of_none e hc
    have b2 : b ≠ l := ne_of_none (by rw [upd_ne b1]; exact e) hl2
    have b3 : b ≠ p := ne_of_none e h1
    rw [upd_ne b3, upd_ne b2, upd_ne b1]
    exact e
theorem hu64 {k : Nat} {A : Around} (hr : Room k A) : A.units + 64 < cLine := by have := hr.un; omega
/-- what a draw promises: a number below many; the pen has gone on by one -/
def spDraw : Sp := fun vs H Q _ => ∃ (p : Addr) (n : Nat) (m : Int), vs = [.ref p, .int m] ∧ PenAt H p n ∧ n ≤ 100000 ∧ 0 < m ∧ m < 10 ^ 60 ∧
  ∀ (H' : Hp) (d : Int), But p H H' → PenAt H' p (n + 1) → 0 ≤ d → d < m → Q (.int d) H'
theorem sc_draw : FnScope ["_law_pen_here", "_law_many", "_law_digit", "_law_at", "_law_cell", "_law_great", "_law_mixed"] ["_law_pen_here", "_law_many"] (defScope s__law_draw) := ⟨rfl, rfl, rfl, by decide +kernel, rfl, by decide +kernel, by decide +kernel⟩
theorem p_draw (T : Tx K mg) : Prom P w K mg base 1 d__law_draw ["_law_pen_here", "_law_many"] spDraw := by
  obtain ⟨fd, F⟩ := f__law_draw T
  refine ⟨fd, F, F.ok sc_draw (fun vs H Q E h => ?_) (fun cdv A outer s H vs Q E hr h => ?_), F.bindsN fun _ _ _ _ _ _ us hl => match us, hl with | [_, _], _ => rfl⟩
  · obtain ⟨p, n, m, rfl, _⟩ := h
    rfl
  · obtain ⟨p, n, m, rfl, ⟨c, ns, a, r, hp, hcp, hc, hns, ha0, han, hr0⟩, hn, hm, hm2, k⟩ := h
    refine ⟨_, (pss_cons (ps_if (pt_cmpR op_gt (pe_ix ix_list (pv 0) pe_int (fun _ _ => rfl)) pe_int (nomark _)) (pss_cons (ps_set (i := 2) sc_draw.nd rfl (Or.inl rfl) (pe_op op_mod (pe_callTy call_int1 (by rfl) (n_int T) (by decide +kernel) (pa_cons (pe_ix ix_list (pv 0) pe_int (fun _ _ => rfl)) pa_nil)) (pv 1)))
      (pss_cons (ps_asg (pe_op op_fdivW (pe_callTy call_int1 (by rfl) (n_int T) (by decide +kernel) (pa_cons (pe_ix ix_list (pv 0) pe_int (fun _ _ => rfl)) pa_nil)) (pv 1)) (pg_sub (pv 0) pe_int set_list))
      (pss_one (ps_ret (pv 2))))) pss_nil)
      (pss_cons (ps_set (i := 3) sc_draw.nd rfl (Or.inl rfl) (pe_ix ix_list (pv 0) pe_int (fun _ _ => rfl)))
      (pss_cons (ps_asg (pe_op op_add (pv 3) pe_int) (pg_sub (pv 0) pe_int set_list))
      (pss_cons (ps_set (i := 4) sc_draw.nd rfl (Or.inl rfl) (pe_op op_add (pe_op op_mul pe_int (pv 3)) pe_int))
      (pss_cons (ps_if (pt_cmpR (op_neD (hu64 hr)) (pe_ix ix_list (pv 0) pe_int (fun _ _ => rfl)) (pe_lst pa_nil) (nomark _)) (pss_one (ps_set (i := 4) sc_draw.nd rfl (Or.inl rfl) (pe_ix ix_list (pe_ix ix_list (pv 0) pe_int (fun _ _ => rfl)) (pe_op op_mod (pe_callTy call_int1 (by rfl) (n_int T) (by decide +kernel) (pa_cons (pv 3) pa_nil)) (pe_callB call_len_seq (by rfl) (n_len T) (by decide +kernel) (pa_cons (pe_ix ix_list (pv 0) pe_int (fun _ _ => rfl)) pa_nil))) (fun _ _ => rfl)))) pss_nil)
      (pss_cons (ps_if (PW.pt (pw_and (pt_cmpR op_lt (pv 3) (pe_callB call_len_seq (by rfl) (n_len T) (by decide +kernel) (pa_cons (pe_ix ix_list (pv 0) pe_int (fun _ _ => rfl)) pa_nil)) (nomark _)) (pw_and1 (pt_cmpR op_ge (pe_callB call_abs (by rfl) (n_abs T) (by decide +kernel) (pa_cons (pv 4) pa_nil)) (pe_op op_pow pe_int pe_int) (nomark _))))) (pss_cons (ps_set (i := 5) sc_draw.nd rfl (Or.inl rfl) (pe_op op_add (pe_op op_mul pe_int (pe_op op_sub (pe_callB call_abs (by rfl) (n_abs T) (by decide +kernel) (pa_cons (pv 4) pa_nil)) (pe_op op_pow pe_int pe_int))) (pe_callTy call_int1 (by rfl) (n_int T) (by decide +kernel) (pa_cons (pe_cmpR op_lt (pv 4) pe_int (nomark _)) pa_nil))))
      (pss_cons (ps_asg (pe_op op_fdivW (pe_callTy call_int1 (by rfl) (n_int T) (by decide +kernel) (pa_cons (pv 5) pa_nil)) (pv 1)) (pg_sub (pv 0) pe_int set_list))
      (pss_one (ps_ret (pe_op op_mod (pe_callTy call_int1 (by rfl) (n_int T) (by decide +kernel) (pa_cons (pv 5) pa_nil)) (pv 1)))))) pss_nil)
      (pss_cons (ps_set (i := 6) sc_draw.nd rfl (Or.inl rfl) (pe_op op_mod (pe_callTy call_int1 (by rfl) (n_int T) (by decide +kernel) (pa_cons (pe_op op_pow (pe_op op_add (pe_op op_add (pe_op op_mod (pe_callTy call_int1 (by rfl) (n_int T) (by decide +kernel) (pa_cons (pv 4) pa_nil)) pe_int) (pe_op op_mul pe_int (pv 3))) pe_int) pe_int) pa_nil)) pe_int))
      (pss_cons (ps_set (i := 6) sc_draw.nd rfl (Or.inl rfl) (pe_op op_mod (pe_callTy call_int1 (by rfl) (n_int T) (by decide +kernel) (pa_cons (pe_op op_pow (pe_op op_add (pe_op op_add (pe_op op_mul (pv 6) (pe_op op_add (pe_op op_mul pe_int (pv 3)) pe_int)) (pe_op op_mul (pe_op op_mul pe_int (pv 3)) (pv 3))) pe_int) pe_int) pa_nil)) pe_int))
      (pss_one (ps_ret (pe_op op_mod (pe_callTy call_int1 (by rfl) (n_int T) (by decide +kernel) (pa_cons (pe_op op_fdivW (pv 6) pe_int) pa_nil)) (pv 1)))))))))))), ?_⟩
    -- pen[2] > 0
    refine ⟨_, rfl, p, _, 2, _, rfl, rfl, SqL.of hp, atI_nat (j := 2) rfl, _, _, rfl, rfl, _, rfl, ?_⟩
    refine ite2 (fun h => ?_) (fun h => ?_)
    · have hr : 0 < r := of_decide_eq_true h
      have b1 := Int.emod_nonneg r (by omega : m ≠ 0)
      have b2 := Int.emod_lt_of_pos r hm
      refine ⟨_, rfl, p, _, 2, _, rfl, rfl, SqL.of hp, atI_nat (j := 2) rfl, .inl ⟨_, rfl, _, rfl, _, _, rfl, rfl, hm, ?_⟩⟩
      refine ⟨_, rfl, p, _, 2, _, rfl, rfl, SqL.of hp, atI_nat (j := 2) rfl, .inl ⟨_, rfl, _, rfl, _, _, rfl, rfl, wide_div hm (lt200 hm hm2) (by decide) (by decide), ?_⟩⟩
      refine ⟨_, rfl, p, _, 2, 2, rfl, rfl, hp, rfl, ?_⟩
      refine ⟨_, rfl, ?_⟩
      refine k _ _ (fun b o e1 e2 => by rw [upd_ne e1]; exact e2) ⟨c, ns, a, r / m, upd_same, hcp, by rw [upd_ne hcp]; exact hc, hns, ha0, by omega, Int.ediv_nonneg hr0 (by omega)⟩ b1 b2
    · -- at = pen[1]; pen[1] = at + 1; cell = ..
      refine ⟨_, rfl, p, _, 1, _, rfl, rfl, SqL.of hp, atI_nat (j := 1) rfl, ?_⟩
      refine ⟨_, rfl, _, _, rfl, rfl, _, rfl, p, _, 1, 1, rfl, rfl, hp, rfl, ?_⟩
      refine ⟨_, rfl, _, _, rfl, rfl, .inl ⟨by decide, by decide⟩, _, _, rfl, rfl, ?_⟩
      have hp1 : (upd H p (.lst ([V.ref c, .int a, .int r].set 1 (.int (a + 1))))) p = some (.lst [.ref c, .int (a + 1), .int r]) := upd_same
      have hc1 : (upd H p (.lst ([V.ref c, .int a, .int r].set 1 (.int (a + 1))))) c = some (.lst (ns.map V.int)) := by rw [upd_ne hcp]; exact hc
      have but1 : But p H (upd H p (.lst ([V.ref c, .int a, .int r].set 1 (.int (a + 1))))) := fun b o e1 e2 => by rw [upd_ne e1]; exact e2
      generalize upd H p (.lst ([V.ref c, .int a, .int r].set 1 (.int (a + 1)))) = H1 at hp1 hc1 but1
      -- pen[0] != []
      refine ⟨_, rfl, p, _, 0, _, rfl, rfl, SqL.of hp1, atI_nat (j := 0) rfl, ⟨by decide, fun l hl => ?_⟩⟩
      have hpl : p ≠ l := ne_of_none hp1 hl
      have hcl : c ≠ l := ne_of_none hc1 hl
      have hp2 : (upd H1 l (.lst [])) p = some (.lst [.ref c, .int (a + 1), .int r]) := by rw [upd_ne hpl]; exact hp1
      have hc2 : (upd H1 l (.lst [])) c = some (.lst (ns.map V.int)) := by rw [upd_ne hcl]; exact hc1
      have but2 : But p H (upd H1 l (.lst [])) := fun b o e1 e2 => by rw [upd_ne (ne_of_none (but1 b o e1 e2) hl)]; exact but1 b o e1 e2
      have hl2 : (upd H1 l (.lst [])) l = some (.lst []) := upd_same
      refine ⟨.list (ns.map .int), .list [], .lst (SqL.of hc2) (dp_ints K _ ns), .lst (SqL.of hl2) .nil, shaped_ints ns, by decide, _, rfl, ?_⟩
      generalize upd H1 l (.lst []) = H2 at hp2 hc2 but2 hl2
      rw [eqv_ints]
      refine ite2 (fun hne => ?_) (fun hne => ?_)
      · have hn0 : 0 < (ns.map V.int).length := by
          cases ns with
          | nil => cases hne
          | cons x xs => exact Nat.succ_pos _
        have c1 := Int.emod_nonneg a (by omega : ((ns.map V.int).length : Int) ≠ 0)
        have c2 := Int.emod_lt_of_pos a (by omega : 0 < ((ns.map V.int).length : Int))
        obtain ⟨x, hx⟩ := at_int c1 c2
        refine ⟨_, rfl, p, _, 0, _, rfl, rfl, SqL.of hp2, atI_nat (j := 0) rfl, _, rfl, .inl ⟨_, rfl, _, rfl, p, _, 0, _, rfl, rfl, SqL.of hp2, atI_nat (j := 0) rfl, c, _, rfl, .inl (SqL.of hc2), ?_⟩⟩
        refine ⟨_, _, rfl, rfl, (by omega), c, _, _, _, rfl, rfl, SqL.of hc2, hx, ?_⟩
        generalize x = cell
        refine ⟨_, rfl, _, rfl, p, _, 0, _, rfl, rfl, SqL.of hp2, atI_nat (j := 0) rfl, c, _, rfl, .inl (SqL.of hc2), _, _, rfl, rfl, _, rfl, ?_⟩
        refine ite2 (fun hA => ?_) (fun hA => ?_)
        · refine ⟨_, rfl, _, rfl, _, _, rfl, rfl, ⟨by decide, by decide, by decide⟩, _, _, rfl, rfl, _, rfl, ?_⟩
          refine ite2 (fun hB => ?_) (fun hB => ?_)
          · have hB2 := of_decide_eq_true hB
            refine ⟨_, rfl, _, rfl, _, _, rfl, rfl, ⟨by decide, by decide, by decide⟩, _, _, rfl, rfl, _, _, rfl, rfl, .inl ⟨by decide, by decide⟩, _, rfl, _, _, rfl, rfl, .inr ⟨_, rfl, _, _, rfl, rfl, ?_⟩⟩
            refine ⟨_, rfl, .inl ⟨_, rfl, _, rfl, _, _, rfl, rfl, wide_div hm (lt200 hm hm2) (by decide) (by decide), _, rfl, p, _, 2, 2, rfl, rfl, hp2, rfl, ?_⟩⟩
            refine ⟨_, rfl, .inl ⟨_, rfl, _, rfl, _, _, rfl, rfl, hm, ?_⟩⟩
            exact k _ _ (fun b o e1 e2 => by rw [upd_ne e1]; exact but2 b o e1 e2) ⟨c, ns, a + 1, _, upd_same, hcp, by rw [upd_ne hcp]; exact hc2, hns, by omega, by omega, Int.ediv_nonneg (great_nn hB2) (by omega)⟩ (Int.emod_nonneg _ (by omega)) (Int.emod_lt_of_pos _ hm)
          · have e1 := Int.emod_nonneg cell (by decide : (2147483549 : Int) ≠ 0)
            have e2 := Int.emod_lt_of_pos cell (by decide : (0 : Int) < 2147483549)
            refine ⟨_, rfl, .inl ⟨_, rfl, _, _, rfl, rfl, (by show (0 : Int) < 2147483549; decide), _, rfl, _, _, rfl, rfl, .inl ⟨by decide, by decide⟩, _, _, rfl, rfl, _, _, rfl, rfl, _, _, rfl, rfl, ⟨by decide, by decide, by omega⟩, .inl ⟨_, rfl, _, _, rfl, rfl, (by show (0 : Int) < 2147483629; decide), ?_⟩⟩⟩
            have e3 := Int.emod_nonneg ((cell % 2147483549 + 53101 * a + 263) ^ Int.toNat 5) (by decide : (2147483629 : Int) ≠ 0)
            have e4 := Int.emod_lt_of_pos ((cell % 2147483549 + 53101 * a + 263) ^ Int.toNat 5) (by decide : (0 : Int) < 2147483629)
            dsimp only
            generalize (cell % 2147483549 + 53101 * a + 263) ^ Int.toNat 5 % 2147483629 = z at e3 e4
            refine ⟨_, rfl, _, rfl, _, _, rfl, rfl, .inl ⟨by decide, by decide⟩, _, _, rfl, rfl, _, _, rfl, rfl, .inl ⟨by omega, by omega⟩, _, rfl, _, _, rfl, rfl, .inl ⟨by decide, by decide⟩, _, rfl, _, _, rfl, rfl, .inl ⟨by omega, by omega⟩, _, _, rfl, rfl, _, _, rfl, rfl, _, _, rfl, rfl, ⟨by decide, by decide, mix_ok e3 e4 ha0 (by omega) (by decide) (by decide) (by decide) (by decide) (by decide) (by decide)⟩, .inl ⟨_, rfl, _, _, rfl, rfl, (by show (0 : Int) < 2147483587; decide), ?_⟩⟩
            refine ⟨_, rfl, _, _, rfl, rfl, wide_div (by decide) (by decide : (32 : Int).natAbs < 2 ^ 10) (by decide) (by decide), .inl ⟨_, rfl, _, rfl, _, _, rfl, rfl, hm, ?_⟩⟩
            exact k _ _ but2 ⟨c, ns, a + 1, r, hp2, hcp, hc2, hns, by omega, by omega, hr0⟩ (Int.emod_nonneg _ (by omega)) (Int.emod_lt_of_pos _ hm)
        · have e1 := Int.emod_nonneg cell (by decide : (2147483549 : Int) ≠ 0)
          have e2 := Int.emod_lt_of_pos cell (by decide : (0 : Int) < 2147483549)
          refine ⟨_, rfl, .inl ⟨_, rfl, _, _, rfl, rfl, (by show (0 : Int) < 2147483549; decide), _, rfl, _, _, rfl, rfl, .inl ⟨by decide, by decide⟩, _, _, rfl, rfl, _, _, rfl, rfl, _, _, rfl, rfl, ⟨by decide, by decide, by omega⟩, .inl ⟨_, rfl, _, _, rfl, rfl, (by show (0 : Int) < 2147483629; decide), ?_⟩⟩⟩
          have e3 := Int.emod_nonneg ((cell % 2147483549 + 53101 * a + 263) ^ Int.toNat 5) (by decide : (2147483629 : Int) ≠ 0)
          have e4 := Int.emod_lt_of_pos ((cell % 2147483549 + 53101 * a + 263) ^ Int.toNat 5) (by decide : (0 : Int) < 2147483629)
          dsimp only
          generalize (cell % 2147483549 + 53101 * a + 263) ^ Int.toNat 5 % 2147483629 = z at e3 e4
          refine ⟨_, rfl, _, rfl, _, _, rfl, rfl, .inl ⟨by decide, by decide⟩, _, _, rfl, rfl, _, _, rfl, rfl, .inl ⟨by omega, by omega⟩, _, rfl, _, _, rfl, rfl, .inl ⟨by decide, by decide⟩, _, rfl, _, _, rfl, rfl, .inl ⟨by omega, by omega⟩, _, _, rfl, rfl, _, _, rfl, rfl, _, _, rfl, rfl, ⟨by decide, by decide, mix_ok e3 e4 ha0 (by omega) (by decide) (by decide) (by decide) (by decide) (by decide) (by decide)⟩, .inl ⟨_, rfl, _, _, rfl, rfl, (by show (0 : Int) < 2147483587; decide), ?_⟩⟩
          refine ⟨_, rfl, _, _, rfl, rfl, wide_div (by decide) (by decide : (32 : Int).natAbs < 2 ^ 10) (by decide) (by decide), .inl ⟨_, rfl, _, rfl, _, _, rfl, rfl, hm, ?_⟩⟩
          exact k _ _ but2 ⟨c, ns, a + 1, r, hp2, hcp, hc2, hns, by omega, by omega, hr0⟩ (Int.emod_nonneg _ (by omega)) (Int.emod_lt_of_pos _ hm)

      · dsimp only
        generalize 41507 * a + 359 = cell
        refine ⟨_, rfl, _, rfl, p, _, 0, _, rfl, rfl, SqL.of hp2, atI_nat (j := 0) rfl, c, _, rfl, .inl (SqL.of hc2), _, _, rfl, rfl, _, rfl, ?_⟩
        refine ite2 (fun hA => ?_) (fun hA => ?_)
        · refine ⟨_, rfl, _, rfl, _, _, rfl, rfl, ⟨by decide, by decide, by decide⟩, _, _, rfl, rfl, _, rfl, ?_⟩
          refine ite2 (fun hB => ?_) (fun hB => ?_)
          · have hB2 := of_decide_eq_true hB
            refine ⟨_, rfl, _, rfl, _, _, rfl, rfl, ⟨by decide, by decide, by decide⟩, _, _, rfl, rfl, _, _, rfl, rfl, .inl ⟨by decide, by decide⟩, _, rfl, _, _, rfl, rfl, .inr ⟨_, rfl, _, _, rfl, rfl, ?_⟩⟩
            refine ⟨_, rfl, .inl ⟨_, rfl, _, rfl, _, _, rfl, rfl, wide_div hm (lt200 hm hm2) (by decide) (by decide), _, rfl, p, _, 2, 2, rfl, rfl, hp2, rfl, ?_⟩⟩
            refine ⟨_, rfl, .inl ⟨_, rfl, _, rfl, _, _, rfl, rfl, hm, ?_⟩⟩
            exact k _ _ (fun b o e1 e2 => by rw [upd_ne e1]; exact but2 b o e1 e2) ⟨c, ns, a + 1, _, upd_same, hcp, by rw [upd_ne hcp]; exact hc2, hns, by omega, by omega, Int.ediv_nonneg (great_nn hB2) (by omega)⟩ (Int.emod_nonneg _ (by omega)) (Int.emod_lt_of_pos _ hm)
          · have e1 := Int.emod_nonneg cell (by decide : (2147483549 : Int) ≠ 0)
            have e2 := Int.emod_lt_of_pos cell (by decide : (0 : Int) < 2147483549)
            refine ⟨_, rfl, .inl ⟨_, rfl, _, _, rfl, rfl, (by show (0 : Int) < 2147483549; decide), _, rfl, _, _, rfl, rfl, .inl ⟨by decide, by decide⟩, _, _, rfl, rfl, _, _, rfl, rfl, _, _, rfl, rfl, ⟨by decide, by decide, by omega⟩, .inl ⟨_, rfl, _, _, rfl, rfl, (by show (0 : Int) < 2147483629; decide), ?_⟩⟩⟩
            have e3 := Int.emod_nonneg ((cell % 2147483549 + 53101 * a + 263) ^ Int.toNat 5) (by decide : (2147483629 : Int) ≠ 0)
            have e4 := Int.emod_lt_of_pos ((cell % 2147483549 + 53101 * a + 263) ^ Int.toNat 5) (by decide : (0 : Int) < 2147483629)
            dsimp only
            generalize (cell % 2147483549 + 53101 * a + 263) ^ Int.toNat 5 % 2147483629 = z at e3 e4
            refine ⟨_, rfl, _, rfl, _, _, rfl, rfl, .inl ⟨by decide, by decide⟩, _, _, rfl, rfl, _, _, rfl, rfl, .inl ⟨by omega, by omega⟩, _, rfl, _, _, rfl, rfl, .inl ⟨by decide, by decide⟩, _, rfl, _, _, rfl, rfl, .inl ⟨by omega, by omega⟩, _, _, rfl, rfl, _, _, rfl, rfl, _, _, rfl, rfl, ⟨by decide, by decide, mix_ok e3 e4 ha0 (by omega) (by decide) (by decide) (by decide) (by decide) (by decide) (by decide)⟩, .inl ⟨_, rfl, _, _, rfl, rfl, (by show (0 : Int) < 2147483587; decide), ?_⟩⟩
            refine ⟨_, rfl, _, _, rfl, rfl, wide_div (by decide) (by decide : (32 : Int).natAbs < 2 ^ 10) (by decide) (by decide), .inl ⟨_, rfl, _, rfl, _, _, rfl, rfl, hm, ?_⟩⟩
            exact k _ _ but2 ⟨c, ns, a + 1, r, hp2, hcp, hc2, hns, by omega, by omega, hr0⟩ (Int.emod_nonneg _ (by omega)) (Int.emod_lt_of_pos _ hm)
        · have e1 := Int.emod_nonneg cell (by decide : (2147483549 : Int) ≠ 0)
          have e2 := Int.emod_lt_of_pos cell (by decide : (0 : Int) < 2147483549)
          refine ⟨_, rfl, .inl ⟨_, rfl, _, _, rfl, rfl, (by show (0 : Int) < 2147483549; decide), _, rfl, _, _, rfl, rfl, .inl ⟨by decide, by decide⟩, _, _, rfl, rfl, _, _, rfl, rfl, _, _, rfl, rfl, ⟨by decide, by decide, by omega⟩, .inl ⟨_, rfl, _, _, rfl, rfl, (by show (0 : Int) < 2147483629; decide), ?_⟩⟩⟩
          have e3 := Int.emod_nonneg ((cell % 2147483549 + 53101 * a + 263) ^ Int.toNat 5) (by decide : (2147483629 : Int) ≠ 0)
          have e4 := Int.emod_lt_of_pos ((cell % 2147483549 + 53101 * a + 263) ^ Int.toNat 5) (by decide : (0 : Int) < 2147483629)
          dsimp only
          generalize (cell % 2147483549 + 53101 * a + 263) ^ Int.toNat 5 % 2147483629 = z at e3 e4
          refine ⟨_, rfl, _, rfl, _, _, rfl, rfl, .inl ⟨by decide, by decide⟩, _, _, rfl, rfl, _, _, rfl, rfl, .inl ⟨by omega, by omega⟩, _, rfl, _, _, rfl, rfl, .inl ⟨by decide, by decide⟩, _, rfl, _, _, rfl, rfl, .inl ⟨by omega, by omega⟩, _, _, rfl, rfl, _, _, rfl, rfl, _, _, rfl, rfl, ⟨by decide, by decide, mix_ok e3 e4 ha0 (by omega) (by decide) (by decide) (by decide) (by decide) (by decide) (by decide)⟩, .inl ⟨_, rfl, _, _, rfl, rfl, (by show (0 : Int) < 2147483587; decide), ?_⟩⟩
          refine ⟨_, rfl, _, _, rfl, rfl, wide_div (by decide) (by decide : (32 : Int).natAbs < 2 ^ 10) (by decide) (by decide), .inl ⟨_, rfl, _, rfl, _, _, rfl, rfl, hm, ?_⟩⟩
          exact k _ _ but2 ⟨c, ns, a + 1, r, hp2, hcp, hc2, hns, by omega, by omega, hr0⟩ (Int.emod_nonneg _ (by omega)) (Int.emod_lt_of_pos _ hm)

end
end K10
namespace K10
open PySem PySem.Spec PyProof.Rows L2 Hx Gx
section
variable {P : Program} {w : World} {K : PySem.W.Frag} {mg : Str → Option Value} {base : Heap}
theorem But.refl (p : Addr) (H : Hp) : But p H H := fun _ _ _ h => h
theorem But.trans {p : Addr} {H H1 H2 : Hp} (a : But p H H1) (b : But p H1 H2) : But p H H2 := fun c o n h => b c o n (a c o n h)
theorem But.of {p : Addr} {H H1 : Hp} (a : Same H H1) : But p H H1 := fun c o _ h => a c o h
theorem But.new {p l : Addr} {H H1 : Hp} {o : HO} (a : But p H H1) (h : H1 l = none) : But p H (upd H1 l o) := fun b u n e => by rw [upd_ne (ne_of_none (a b u n e) h)]; exact a b u n e
theorem But.seq {p a : Addr} {H H' : Hp} {xs : List V} (e : But p H H') (n : a ≠ p) (h : SqL K H a xs) : SqL K H' a xs := by
  rcases h with (h | ⟨o, h⟩) | h
  · exact .inl (.inl (e _ _ n h))
  · exact .inl (.inr ⟨o, e _ _ n h⟩)
  · exact .inr h
theorem PenAt.new {H : Hp} {p l : Addr} {n : Nat} {o : HO} (h : PenAt H p n) (f : H l = none) : PenAt (upd H l o) p n := by
  obtain ⟨c, ns, a, r, h1, h2, h3, h4⟩ := h
  exact ⟨c, ns, a, r, by rw [upd_ne (ne_of_none h1 f)]; exact h1, h2, by rw [upd_ne (ne_of_none h3 f)]; exact h3, h4⟩
theorem PenAt.ne {H : Hp} {p l : Addr} {n : Nat} (h : PenAt H p n) (f : H l = none) : p ≠ l := by
  obtain ⟨c, ns, a, r, h1, _⟩ := h
  exact ne_of_none h1 f
theorem PenAt.mono {H : Hp} {p : Addr} {n m : Nat} (h : PenAt H p n) (f : n ≤ m) : PenAt H p m := by
  obtain ⟨c, ns, a, r, h1, h2, h3, h4, h5, h6, h7⟩ := h
  exact ⟨c, ns, a, r, h1, h2, h3, h4, h5, by omega, h7⟩
/-- a pick: one of the items -/
def spPick (K : PySem.W.Frag) : Sp := fun vs H Q _ => ∃ (p a : Addr) (n : Nat) (xs : List V), vs = [.ref p, .ref a] ∧ PenAt H p n ∧ n ≤ 100000 ∧ SqL K H a xs ∧ a ≠ p ∧ 0 < xs.length ∧ xs.length ≤ 1000 ∧
  ∀ (H' : Hp) (v : V), But p H H' → PenAt H' p (n + 1) → v ∈ xs → Q v H'
theorem sc_pick : FnScope ["_law_pen_here", "_law_some"] ["_law_pen_here", "_law_some"] (defScope s__law_pick) := ⟨rfl, rfl, rfl, by decide +kernel, rfl, by decide +kernel, by decide +kernel⟩
theorem p_pick (T : Tx K mg) : Prom P w K mg base 2 d__law_pick ["_law_pen_here", "_law_some"] (spPick K) := by
  obtain ⟨fd, F⟩ := f__law_pick T
  obtain ⟨fdD, FD, GD, BD⟩ := p_draw (P := P) (w := w) (base := base) T
  refine ⟨fd, F, F.ok sc_pick (fun vs H Q E h => ?_) (fun cdv A outer s H vs Q E hr h => ?_), F.bindsN fun _ _ _ _ _ _ us hl => match us, hl with | [_, _], _ => rfl⟩
  · obtain ⟨p, a, n, xs, rfl, _⟩ := h
    rfl
  · obtain ⟨p, a, n, xs, rfl, hp, hn, hx, hap, h0, h1, k⟩ := h
    refine ⟨_, pss_one (ps_ret (pe_ix ix_list (pv 1) (pe_call GD hr rfl (g__law_draw T) FD.kp BD .nil pass0 (pa_cons (pv 0) (pa_cons (pe_callB call_len_seq (by rfl) (n_len T) (by decide +kernel) (pa_cons (pv 1) pa_nil)) pa_nil))) (fun _ _ => rfl))), ?_⟩
    refine ⟨_, rfl, _, rfl, _, rfl, a, _, rfl, .inl hx, p, n, _, rfl, hp, hn, by omega, by have : (10 : Int) ^ 60 = 10 ^ 60 := rfl; omega, ?_⟩
    intro H' d but hp' d0 d1
    obtain ⟨i, rfl⟩ : ∃ i : Nat, d = i := ⟨d.toNat, by omega⟩
    have hi : i < xs.length := by omega
    refine ⟨a, _, _, _, rfl, rfl, but.seq hap hx, atI_nat (List.getElem?_eq_getElem hi), ?_⟩
    exact k _ _ but hp' (List.getElem_mem hi)
end
end K10
namespace K10
open PySem PySem.Spec PyProof.Rows L2 Hx Gx
section
variable {P : Program} {w : World} {K : PySem.W.Frag} {mg : Str → Option Value} {base : Heap}

/-- the letters' codes -/
def isLow (c : Nat) : Bool := decide (97 ≤ c) && decide (c ≤ 122)
/-- a text of one to eight letters -/
def nameB (x : Str) : Bool := decide (1 ≤ x.length) && decide (x.length ≤ 8) && x.cps.toList.all isLow
theorem low_in (c : Nat) : decide (c ∈ ("abcdefghijklmnopqrstuvwxyz" : Str).cps.toList) = isLow c := by
  have e : ("abcdefghijklmnopqrstuvwxyz" : Str).cps.toList = [97, 98, 99, 100, 101, 102, 103, 104, 105, 106, 107, 108, 109, 110, 111, 112, 113, 114, 115, 116, 117, 118, 119, 120, 121, 122] := by decide +kernel
  rw [e]
  unfold isLow
  by_cases h : 97 ≤ c ∧ c ≤ 122
  · rw [decide_eq_true h.1, decide_eq_true h.2]
    refine decide_eq_true ?_
    simp only [List.mem_cons, List.not_mem_nil, or_false]
    omega
  · have h2 : (decide (97 ≤ c) && decide (c ≤ 122)) = false := by
      rw [Bool.and_eq_false_iff]
      by_cases h1 : 97 ≤ c
      · exact .inr (decide_eq_false fun h3 => h ⟨h1, h3⟩)
      · exact .inl (decide_eq_false h1)
    rw [h2]
    refine decide_eq_false fun q => h ?_
    simp only [List.mem_cons, List.not_mem_nil, or_false] at q
    omega
def spIsName : Sp := fun vs H Q _ => ∃ x : Str, vs = [.str x] ∧ x.length ≤ sizeLine ∧ ∀ H', Same H H' → Q (.bl (nameB x)) H'
theorem sc_is_name : FnScope ["value", "letter"] ["value"] (defScope s_is_name) := ⟨rfl, rfl, rfl, by decide +kernel, rfl, by decide +kernel, by decide +kernel⟩
theorem p_is_name (T : Tx K mg) : Prom P w K mg base 1 d_is_name ["value"] spIsName := by
  obtain ⟨fd, F⟩ := f_is_name T
  obtain ⟨tNL, hNL⟩ := i_NAME_LENGTH T (v := 8) rfl rfl
  obtain ⟨tLT, hLT⟩ := t_LETTERS T (v := "abcdefghijklmnopqrstuvwxyz") rfl
  refine ⟨fd, F, F.ok sc_is_name (fun vs H Q E h => ?_) (fun cdv A outer s H vs Q E hr h => ?_), F.bindsN fun _ _ _ _ _ _ us hl => match us, hl with | [_], _ => rfl⟩
  · obtain ⟨x, rfl, _⟩ := h
    rfl
  · obtain ⟨x, rfl, hx, k⟩ := h
    refine ⟨_, (pss_cons (ps_if (PW.pt (pw_or (pt_not (pt_val (pe_callB call_isi (by rfl) (n_isinstance T) (by decide +kernel) (pa_cons (pv 0) (pa_cons (pe_bltn (v := .ty "str") (by rfl) (n_str T) (by decide +kernel) rfl) pa_nil))))) (pw_or1 (pt_not (pt_chain op_le op_le pe_int (pe_callB call_len_str (by rfl) (n_len T) (by decide +kernel) (pa_cons (pv 0) pa_nil)) (pe_glob (v := .int 8) rfl hNL ⟨_, rfl⟩)))))) (pss_one (ps_ret pe_bl)) pss_nil)
      (pss_one (ps_ret (pe_callB (cr_all rfl) (by rfl) (n_all T) (by decide +kernel) (pa_cons (pe_lc (own := [("letter", 1)]) (g := gName 1) (tt := tYes) (by rfl) sc_is_name.nd (pi_str (pv 0)) (blkOk_by (own := [("letter", 1)]) (N := ["value", "letter"]) (sc := defScope s_is_name) (by decide +kernel)) (fun _ _ _ _ _ => pg_name (i := 1) sc_is_name.nd rfl (Or.inl rfl)) (fun _ _ _ _ _ => pts_nil) (fun _ _ _ _ _ => (pe_cmpR op_in_sign (pv 1) (pe_glob (v := .str "abcdefghijklmnopqrstuvwxyz") rfl hLT ⟨_, rfl⟩) rfl))) pa_nil))))), ?_⟩
    refine ⟨_, rfl, _, _, _, _, true, rfl, .ty "str", .base (.str x), kit_ty (by decide +kernel), _, rfl, ?_⟩
    refine iteF ?_
    refine ⟨_, rfl, _, rfl, hx, _, _, rfl, rfl, _, rfl, ?_⟩
    have fin : nameB x = false → Q (.bl false) H := fun e => by
      have q := k H (Same.refl H)
      rw [e] at q
      exact q
    refine ite2 (fun h1 => ?_) (fun h1 => ?_)
    · have h1' : 1 ≤ x.length := by
        have z := of_decide_eq_true h1
        omega
      refine ⟨_, _, rfl, rfl, _, rfl, ?_⟩
      by_cases h2 : x.length ≤ 8
      · have e2 : decide (((x.length : Nat) : Int) ≤ 8) = true := decide_eq_true (by omega)
        rw [e2]
        refine iteF ?_
        refine ⟨_, rfl, x, rfl, fun D hD => ?_⟩
        refine lc_it walk_str (fun i H' => Same H H' ∧ H' D = some (.lst ((x.cps.toList.take i).map fun c => V.bl (isLow c)))) ⟨fun b o e => by rw [upd_ne (ne_of_none e hD)]; exact e, upd_same⟩ (fun _ _ _ _ => trivial) ?_ ?_
        · rintro i v H1 H2 hi ⟨s1, d1⟩ ⟨rfl, c, hc, rfl⟩
          refine ⟨rfl, ⟨_, rfl, c, _, rfl, rfl, _, d1, ?_, fun b o e => by rw [upd_ne (ne_of_none e hD)]; exact s1 b o e, ?_⟩⟩
          · rw [List.length_map, List.length_take]
            have z : (8 : Nat) < sizeLine := by decide
            have z2 : x.cps.toList.length = x.length := rfl
            omega
          · rw [upd_same, low_in, List.take_succ, List.map_append]
            have e : x.cps.toList[i]? = some c := by simpa using hc
            rw [e]
            rfl
        · rintro H1 ⟨s1, d1⟩
          refine ⟨D, x.cps.toList.map isLow, rfl, SqL.of ?_, ?_⟩
          · have e : x.cps.toList.take x.cps.size = x.cps.toList := List.take_of_length_le (Nat.le_of_eq (by simp))
            rw [d1, e, List.map_map]
            rfl
          · have e : nameB x = ((x.cps.toList.map isLow).all id) := by
              unfold nameB
              rw [decide_eq_true h1', decide_eq_true h2]
              simp
            rw [← e]
            exact k _ s1
      · have e2 : decide (((x.length : Nat) : Int) ≤ 8) = false := decide_eq_false (by omega)
        rw [e2]
        refine iteT (fin ?_)
        unfold nameB
        rw [decide_eq_false h2]
        simp
    · refine ⟨_, rfl, iteT (fin ?_)⟩
      have h0 : ¬ 1 ≤ x.length := fun z => h1 (decide_eq_true (by omega))
      unfold nameB
      rw [decide_eq_false h0]
      rfl
/-- an int is an integer -/
def spIsInt : Sp := fun vs H Q _ => ∃ i : Int, vs = [.int i] ∧ Q (.bl true) H
theorem sc_is_integer : FnScope ["value"] ["value"] (defScope s_is_integer) := ⟨rfl, rfl, rfl, by decide +kernel, rfl, by decide +kernel, by decide +kernel⟩
theorem p_is_integer (T : Tx K mg) : Prom P w K mg base 1 d_is_integer ["value"] spIsInt := by
  obtain ⟨fd, F⟩ := f_is_integer T
  refine ⟨fd, F, F.ok sc_is_integer (fun vs H Q E h => ?_) (fun cdv A outer s H vs Q E hr h => ?_), F.bindsN fun _ _ _ _ _ _ us hl => match us, hl with | [_], _ => rfl⟩
  · obtain ⟨x, rfl, _⟩ := h
    rfl
  · obtain ⟨x, rfl, k⟩ := h
    refine ⟨_, (pss_one (ps_ret (pe_and (pe_callB call_isi (by rfl) (n_isinstance T) (by decide +kernel) (pa_cons (pv 0) (pa_cons (pe_bltn (v := .ty "int") (by rfl) (n_int T) (by decide +kernel) rfl) pa_nil))) (pe_one (pe_not (pe_callB call_isi (by rfl) (n_isinstance T) (by decide +kernel) (pa_cons (pv 0) (pa_cons (pe_bltn (v := .ty "bool") (by rfl) (n_bool T) (by decide +kernel) rfl) pa_nil)))))))), ?_⟩
    refine ⟨_, rfl, _, _, _, _, true, rfl, .ty "int", .base (.int x), kit_ty (by decide +kernel), _, rfl, ?_⟩
    refine ⟨_, rfl, _, _, _, _, false, rfl, .ty "bool", .base (.int x), kit_ty (by decide +kernel), _, rfl, ?_⟩
    exact k
def priceOk (i : Int) : Prop := -999999999999 ≤ i ∧ i ≤ 999999999999
def spIsPrice : Sp := fun vs H Q _ => ∃ i : Int, vs = [.int i] ∧ priceOk i ∧ Q (.bl true) H
theorem sc_is_price : FnScope ["value"] ["value"] (defScope s_is_price) := ⟨rfl, rfl, rfl, by decide +kernel, rfl, by decide +kernel, by decide +kernel⟩
theorem p_is_price (T : Tx K mg) : Prom P w K mg base 2 d_is_price ["value"] spIsPrice := by
  obtain ⟨fd, F⟩ := f_is_price T
  obtain ⟨fdI, FI, GI, BI⟩ := p_is_integer (P := P) (w := w) (base := base) T
  obtain ⟨tGP, hGP⟩ := i_GREATEST_PRICE T (v := 999999999999) rfl rfl
  refine ⟨fd, F, F.ok sc_is_price (fun vs H Q E h => ?_) (fun cdv A outer s H vs Q E hr h => ?_), F.bindsN fun _ _ _ _ _ _ us hl => match us, hl with | [_], _ => rfl⟩
  · obtain ⟨x, rfl, _⟩ := h
    rfl
  · obtain ⟨x, rfl, ⟨h1, h2⟩, k⟩ := h
    refine ⟨_, (pss_one (ps_ret (pe_and (pe_call GI hr rfl (g_is_integer T) FI.kp BI .nil pass0 (pa_cons (pv 0) pa_nil)) (pe_one (pe_chain op_le op_le (pe_un un_neg (pe_glob (v := .int 999999999999) rfl hGP ⟨_, rfl⟩)) (pv 0) (pe_glob (v := .int 999999999999) rfl hGP ⟨_, rfl⟩)))))), ?_⟩
    refine ⟨_, rfl, x, rfl, _, rfl, ?_⟩
    refine iteT ⟨_, rfl, _, rfl, _, _, rfl, rfl, _, rfl, ?_⟩
    have e1 : decide ((-999999999999 : Int) ≤ x) = true := decide_eq_true h1
    have e2 : decide (x ≤ (999999999999 : Int)) = true := decide_eq_true h2
    rw [e1]
    refine iteT ⟨_, _, rfl, rfl, ?_⟩
    show Q (.bl (decide (x ≤ (999999999999 : Int)))) H
    rw [e2]
    exact k
/-- a street's name and ends are right -/
def spChS : Sp := fun vs H Q _ => ∃ x a b : Str, vs = [.str x, .str a, .str b] ∧ nameB x = true ∧ nameB a = true ∧ nameB b = true ∧ a ≠ b ∧ ∀ H', Same H H' → Q .non H'
theorem nameB_len {x : Str} (h : nameB x = true) : x.length ≤ sizeLine := by
  unfold nameB at h
  rw [Bool.and_eq_true, Bool.and_eq_true] at h
  have z := of_decide_eq_true h.1.2
  exact Nat.le_trans z (by decide)
theorem sc_check_street : FnScope ["name", "one", "other"] ["name", "one", "other"] (defScope s_check_street) := ⟨rfl, rfl, rfl, by decide +kernel, rfl, by decide +kernel, by decide +kernel⟩
theorem p_check_street (T : Tx K mg) : Prom P w K mg base 2 d_check_street ["name", "one", "other"] spChS := by
  obtain ⟨fd, F⟩ := f_check_street T
  obtain ⟨fdN, FN, GN, BN⟩ := p_is_name (P := P) (w := w) (base := base) T
  refine ⟨fd, F, F.ok sc_check_street (fun vs H Q E h => ?_) (fun cdv A outer s H vs Q E hr h => ?_), F.bindsN fun _ _ _ _ _ _ us hl => match us, hl with | [_, _, _], _ => rfl⟩
  · obtain ⟨x, a, b, rfl, _⟩ := h
    rfl
  · obtain ⟨x, a, b, rfl, hx, ha, hb, hab, k⟩ := h
    refine ⟨_, (pss_cons (ps_if (pt_not (pt_val (pe_call GN hr rfl (g_is_name T) FN.kp BN .nil pass0 (pa_cons (pv 0) pa_nil)))) (pss_one ps_never) pss_nil)
      (pss_cons (ps_if (PW.pt (pw_or (pt_not (pt_val (pe_call GN hr rfl (g_is_name T) FN.kp BN .nil pass0 (pa_cons (pv 1) pa_nil)))) (pw_or1 (pt_not (pt_val (pe_call GN hr rfl (g_is_name T) FN.kp BN .nil pass0 (pa_cons (pv 2) pa_nil))))))) (pss_one ps_never) pss_nil)
      (pss_one (ps_if (pt_cmpR op_eq (pv 1) (pv 2) (nomark _)) (pss_one ps_never) pss_nil)))), ?_⟩
    refine ⟨_, rfl, x, rfl, nameB_len hx, fun H1 s1 => ?_⟩
    refine ⟨_, rfl, ?_⟩
    rw [hx]
    refine iteF ⟨_, rfl, a, rfl, nameB_len ha, fun H2 s2 => ⟨_, rfl, ?_⟩⟩
    rw [ha]
    refine iteF ⟨_, rfl, b, rfl, nameB_len hb, fun H3 s3 => ⟨_, rfl, ?_⟩⟩
    rw [hb]
    refine iteF ⟨_, rfl, _, rfl, rfl, _, rfl, ?_⟩
    have e : decide (V.str a = V.str b) = false := decide_eq_false fun z => hab (V.str.inj z)
    rw [e]
    exact iteF (k _ ((s1.trans s2).trans s3))
/-- both prices are prices -/
def spChP : Sp := fun vs H Q _ => ∃ i j : Int, vs = [.int i, .int j] ∧ priceOk i ∧ priceOk j ∧ ∀ H', Same H H' → Q .non H'
theorem sc_check_prices : FnScope ["there", "back", "price"] ["there", "back"] (defScope s_check_prices) := ⟨rfl, rfl, rfl, by decide +kernel, rfl, by decide +kernel, by decide +kernel⟩
theorem p_check_prices (T : Tx K mg) : Prom P w K mg base 3 d_check_prices ["there", "back"] spChP := by
  obtain ⟨fd, F⟩ := f_check_prices T
  obtain ⟨fdP, FP, GP, BP⟩ := p_is_price (P := P) (w := w) (base := base) T
  refine ⟨fd, F, F.ok sc_check_prices (fun vs H Q E h => ?_) (fun cdv A outer s H vs Q E hr h => ?_), F.bindsN fun _ _ _ _ _ _ us hl => match us, hl with | [_, _], _ => rfl⟩
  · obtain ⟨i, j, rfl, _⟩ := h
    rfl
  · obtain ⟨i, j, rfl, hi, hj, k⟩ := h
    refine ⟨_, PSs.nox (pss_one (ps_for PassesOwn.never rfl (pi_tup (pe_tup (pa_cons (pv 0) (pa_cons (pv 1) pa_nil)))) (pg_name (i := 2) sc_check_prices.nd rfl (Or.inl rfl)) (pss_one (ps_if (pt_not (pt_val (pe_call GP hr rfl (g_is_price T) FP.kp BP .nil pass0 (pa_cons (pv 2) pa_nil)))) (pss_one ps_never) pss_nil)))), ?_⟩
    refine ⟨_, rfl, _, rfl, (by show 2 ≤ sizeLine; decide), fun t ht => ⟨t, rfl, ⟨[.int i, .int j], SqT.of upd_same⟩, ?_⟩⟩
    refine for_tup (K := K) (a := t) (xs := [.int i, .int j]) (fun n σ H' => Same H H' ∧ H' t = some (.tup [.int i, .int j]) ∧ ∃ v, σ = [some (.int i), some (.int j), v]) ⟨fun b o e => by rw [upd_ne (ne_of_none e ht)]; exact e, upd_same, none, rfl⟩ (fun n σ H' _ z => SqT.of z.2.1) ?_ ?_
    · rintro n x σ H' hn ⟨s1, h1, v, rfl⟩
      have hx : ∃ y, x = .int y ∧ priceOk y := by
        match n, hn with
        | 0, hn => exact ⟨i, (Option.some.inj hn).symm, hi⟩
        | 1, hn => exact ⟨j, (Option.some.inj hn).symm, hj⟩
        | n + 2, hn => cases hn
      obtain ⟨y, rfl, hy⟩ := hx
      refine ⟨_, rfl, y, rfl, hy, _, rfl, iteF ?_⟩
      exact ⟨s1, h1, _, rfl⟩
    · rintro σ H' ⟨s1, _⟩
      exact k _ s1
end
end K10
namespace Nx
open PySem PySem.Spec PyProof.Rows L2
section
variable {prog : Program} {w : World} {A : Around} {E : Value → Shared → Prop} {s : Shared} {K : PySem.W.Frag} {x C f : Addr} {ox : Obj} {od : Option Obj} {b tb : Value}
/-- the inherited != asks the class's own == -/
theorem body_ne {Q : Fin → Shared → Prop} (hu : A.units < cLine) (X : K.In s.heap) (I : PySem.W.InstAt s.heap x ox C od)
    (he : PySem.W.findIn K (.ref C) "__eq__" = some (some (.ref f))) (hf : PySem.W.isFn K (.ref f) = true)
    (h : wpAny (model prog w) A (call (.ref f) [.ref x, b]) (fun v s' => ∃ r, v = .bool r ∧ Q (.done (.ret (.bool (!r)))) s') E s) :
    wpAny (model prog w) A (Builtin.«object.__ne__» ⟨[.ref x, b], []⟩) Q E s := by
  unfold Builtin.«object.__ne__»
  repeat (first
    | with_reducible refine wpAny_cRoomFor hu ?_
    | (refine wpAny_bind (m := callSpecialIfBound? (.ref x) (Str.ofString "__eq__") [b]) (PySem.W.ifBound_K X I he hf (wpAny_mono h (fun v s' hv => ?_) fun _ _ e => e))
       obtain ⟨r, rfl, hq⟩ := hv)
    | exact hq
    | exact wpAny_pure hq
    | exact wpAny_truthy_bool hq
    | (refine wpAny_bind (m := truthy (.bool _)) (wpAny_truthy_bool ?_))
    | wp_step)
theorem bound_ne {M : Model} {args : List Value} {Q : Option Value → Shared → Prop} (X : K.In s.heap) (I : PySem.W.InstAt s.heap x ox C od)
    (hs : PySem.W.findIn K (.ref C) "__ne__" = some (some (.builtin "object.__ne__")))
    (h : wpAny M A (call (.builtin "object.__ne__") (.ref x :: args)) (fun v => Q (some v)) E s) : wpAny M A (callSpecialIfBound? (.ref x) "__ne__" args) Q E s := by
  simp only [callSpecialIfBound?, bindSpecialIfBound?]
  refine wpAny_holding (wpAny_bind (wpAny_bind (wpAny_bind (I.type.here ((PySem.W.looks_findIn X hs).here ?_)))))
  refine wpAny_bind (wpAny_askSetting (wpAny_ite ?_))
  have fin : wpAny M A (call (.builtin "object.__ne__") ([.ref x] ++ args) >>= fun v => pure (some v)) Q E s :=
    wpAny_bind (wpAny_mono h (fun v s' h' => wpAny_pure h') fun _ _ h' => h')
  split
  · exact wpAny_bind (wpAny_of_eq (F.cmp_object.ne.bind _) (wpAny_pure (by exact fin)))
  · refine wpAny_tryCatch ?_
    exact wpAny_bind (wpAny_of_eq (F.cmp_object.ne.bind _) (wpAny_pure (by exact fin)))
theorem call_ne {Q : Value → Shared → Prop} (hu : A.units + 1 < cLine) (X : K.In s.heap) (I : PySem.W.InstAt s.heap x ox C od)
    (hm : PySem.W.mroIn K C (.type "object") = some true) (he : PySem.W.findIn K (.ref C) "__eq__" = some (some (.ref f))) (hf : PySem.W.isFn K (.ref f) = true)
    (h : wpAny (model prog w) A.in1 (call (.ref f) [.ref x, b]) (fun v s' => ∃ r, v = .bool r ∧ Q (.bool (!r)) s') E s) :
    wpAny (model prog w) A (call (.builtin "object.__ne__") [.ref x, b]) Q E s := by
  refine wpAny_call (codeAny_call_builtin F.cmp_object.ne.plain F.cmpEntry_ne ?_)
  refine PySem.W.check_slot F.cmpKind_ne F.cmpSplit_ne (I.type.andThen (PySem.W.looks_mroIn X hm)) (F.cmpArgs_ne _ _) ?_
  exact body_ne hu X I he hf h
/-- x != b, where the class of x has an own == and no own != -/
theorem rc_ne {Q : Value → Shared → Prop} (hu : A.units + 1 < cLine) (X : K.In s.heap) (I : PySem.W.InstAt s.heap x ox C od)
    (hb : PySem.W.Looks (model prog w) s.heap (typeOf b) tb) (hn : PySem.W.notFirst K C tb = true)
    (hm : PySem.W.mroIn K C (.type "object") = some true) (hs : PySem.W.findIn K (.ref C) "__ne__" = some (some (.builtin "object.__ne__")))
    (he : PySem.W.findIn K (.ref C) "__eq__" = some (some (.ref f))) (hf : PySem.W.isFn K (.ref f) = true)
    (h : wpAny (model prog w) A.in1 (call (.ref f) [.ref x, b]) (fun v s' => ∃ r, v = .bool r ∧ Q (.bool (!r)) s') E s) :
    wpAny (model prog w) A (richCompare .NotEq (.ref x) b) Q E s := by
  have one : wpAny (model prog w) A (tryCompare (.ref x) "__ne__" b) (fun r s' => ∃ v, r = some v ∧ Q v s') E s := by
    unfold tryCompare
    refine wpAny_bind (bound_ne X I hs (call_ne hu X I hm he hf (wpAny_mono h ?_ fun _ _ e => e)))
    rintro v s' ⟨r, rfl, hq⟩
    exact ⟨r, rfl, wpAny_pure ⟨_, rfl, hq⟩⟩
  unfold richCompare
  simp only [oneThing_ref, cmpInfo_NotEq]
  refine wpAny_holding (wpAny_bind (wpAny_cRoomFor (Nat.lt_of_succ_lt hu) ?_))
  refine wpAny_bind (I.type.here (wpAny_bind (hb.here ?_)))
  split
  · rename_i q
    have e : PySem.W.subIn K tb (.ref C) = some false := by
      rcases Bool.or_eq_true_iff.mp hn with z | z
      · rw [beq_iff_eq.mp z] at q
        simp at q
      · exact beq_iff_eq.mp z
    refine wpAny_bind ((PySem.W.looks_subIn X e).here ?_)
    simp only [Bool.false_eq_true, if_false]
    refine wpAny_bind (wpAny_mono one (fun r s' z => ?_) fun _ _ e => e)
    obtain ⟨v, rfl, hq⟩ := z
    exact wpAny_pure hq
  · refine wpAny_bind (wpAny_pure ?_)
    simp only [Bool.false_eq_true, if_false]
    refine wpAny_bind (wpAny_mono one (fun r s' z => ?_) fun _ _ e => e)
    obtain ⟨v, rfl, hq⟩ := z
    exact wpAny_pure hq
end
/-- what == and != ask of a class -/
structure OwnE (K : PySem.W.Frag) (C f : Addr) : Prop where
  eq : PySem.W.findIn K (.ref C) "__eq__" = some (some (.ref f))
  ne : PySem.W.findIn K (.ref C) "__ne__" = some (some (.builtin "object.__ne__"))
  fn : PySem.W.isFn K (.ref f) = true
  ob : PySem.W.mroIn K C (.type "object") = some true
section
variable {X : Cx} {CX : CXT} {k : Nat} {C f : Addr} {fd : FuncData} {ps : List Str} {sp : Sp} {E : XK}
/-- a callee below the running body -/
theorem run_at {A : Around} {pins : List (Addr × Obj)} {σ : L2.St} {H : Hp} {s : Shared} {Q : VK} {us : List Value} {vs : List V}
    (F : FnOk X.prog X.w X.K X.mg X.base CX k f fd ps sp) (hr : Room k A) (e0 : Env0 X.prog X.w X.K X.mg X.base A X.stack s H) (hb : Binds X.K fd ps []) (hx : Passes CX X E)
    (I : Inv X pins σ H s) (r : Vals vs us) (h : sp vs H Q E) :
    wpAny (model X.prog X.w) A (call (.ref f) us) (EP X pins σ Q) X.xe s := by
  have hl : us.length = ps.length := r.length ▸ F.len _ _ _ _ h
  have bd := hb s us I.kIn (by simpa using hl)
  have go := F.run A X.stack s H ⟨us, []⟩ us vs Q E hr e0 (by simpa using bd) r h
  refine wpAny_call (codeAny_mono go ?_)
  intro r s' hq
  match r, hq with
  | .error e, hq => exact hx pins σ H s e s' I hq
  | .ok (.ret u), hq => exact I.after hq
  | .ok .next, hq => exact hq.elim
  | .ok .brk, hq => exact hq.elim
  | .ok .cont, hq => exact hq.elim
theorem back {P : Value → Shared → Prop} {z : V} {v : Value} {s' : Shared} (r : RelV z v) (h : P v s') : PySem.W.CmpBack P v s' := by
  cases z with
  | non => cases (show v = Value.none from r); exact h
  | bl b => cases (show v = Value.bool b from r); exact h
  | int i => obtain ⟨t, rfl⟩ := (show ∃ t, v = Value.int i t from r); exact h
  | str x => obtain ⟨t, rfl⟩ := (show ∃ t, v = Value.str x t from r); exact h
  | byt b => obtain ⟨t, rfl⟩ := (show ∃ t, v = Value.bytes b t from r); exact h
  | flt b => obtain ⟨t, rfl⟩ := (show ∃ t, v = Value.float b t from r); exact h
  | ref a => cases (show v = Value.ref a from r); exact h
  | ty n => cases (show v = Value.type n from r); exact h
/-- x == y by the own == of the class of x -/
def rEqO (K : PySem.W.Frag) (C : Addr) (sp : Sp) (E : XK) : R2 := fun x y H Q =>
  ∃ (a dx : Addr) (fs : List (Str × V)) (t : Value), x = .ref a ∧ H a = some (.ins C dx fs) ∧ TyX K H y t ∧ PySem.W.notFirst K C t = true ∧ sp [x, y] H Q E
def rNeO (K : PySem.W.Frag) (C : Addr) (sp : Sp) (E : XK) : R2 := fun x y H Q =>
  ∃ (a dx : Addr) (fs : List (Str × V)) (t : Value), x = .ref a ∧ H a = some (.ins C dx fs) ∧ TyX K H y t ∧ PySem.W.notFirst K C t = true ∧ sp [x, y] H (fun z H' => ∃ b, z = .bl b ∧ Q (.bl (!b)) H') E
theorem op_eqO (o : OwnE X.K C f) (F : FnOk X.prog X.w X.K X.mg X.base CX k f fd ps sp) (hb : Binds X.K fd ps []) (hr : Room k X.A) (hx : Passes CX X E) :
    OpR X (compareOp .Eq) (rEqO X.K C sp E) := by
  rintro pins s σ H x y v u Q I rx ry ⟨a, dx, fs, t, rfl, ha, ty, hn, q⟩
  cases (show v = Value.ref a from rx)
  obtain ⟨Z, KZ, z, _⟩ := kit_of I ry ty
  obtain ⟨mA, J, _⟩ := ins_get I.hok ha
  obtain ⟨od, J, _⟩ := J.look
  obtain ⟨m, hF⟩ := I.fr
  show wpAny _ _ (richCompare .Eq _ _) _ _ _
  refine PySem.W.cmp_K (op := .Eq) (hr.units0) hF I.ok.mod.kin J (KZ.ty _ _ I.kIn z) hn o.eq o.fn ?_
  refine wpAny_mono (run_at F hr I.env0 hb hx I (.cons (show RelV (.ref a) (.ref a) from rfl) (.cons ry .nil)) q) ?_ (fun _ _ e => e)
  rintro r s' ⟨c, H', I', rc, qc⟩
  exact back rc ⟨c, H', I', rc, qc⟩
theorem op_neO (o : OwnE X.K C f) (F : FnOk X.prog X.w X.K X.mg X.base CX k f fd ps sp) (hb : Binds X.K fd ps []) (hr : Room (k + 1) X.A) (hx : Passes CX X E) :
    OpR X (compareOp .NotEq) (rNeO X.K C sp E) := by
  rintro pins s σ H x y v u Q I rx ry ⟨a, dx, fs, t, rfl, ha, ty, hn, q⟩
  cases (show v = Value.ref a from rx)
  obtain ⟨Z, KZ, z, _⟩ := kit_of I ry ty
  obtain ⟨mA, J, _⟩ := ins_get I.hok ha
  obtain ⟨od, J, _⟩ := J.look
  show wpAny _ _ (richCompare .NotEq _ _) _ _ _
  refine rc_ne (by have := hr.un; omega) I.kIn J (KZ.ty _ _ I.kIn z) hn o.ob o.ne o.eq o.fn ?_
  refine wpAny_mono (run_at F hr.in1 I.env0.in1 hb hx I (.cons (show RelV (.ref a) (.ref a) from rfl) (.cons ry .nil)) q) ?_ (fun _ _ e => e)
  rintro r s' ⟨c, H', I', rc, b, rfl, qb⟩
  cases (show r = Value.bool b from rc)
  exact ⟨b, rfl, .bl (!b), H', I', rfl, qb⟩
end
end Nx
namespace K10
open PySem PySem.Spec PyProof.Rows L2 Hx Gx Nx
section
variable {P : Program} {w : World} {K : PySem.W.Frag} {mg : Str → Option Value} {base : Heap}

/-- a street -/
inductive Sv where
  | lane (t a b : Str)
  | avenue (t lo hi : Str)
  | road (t lo hi : Str) (i j : Int)
  deriving DecidableEq
def lf (t a b : Str) : List (Str × V) := putF "goal" (.str b) (putF "start" (.str a) (putF "name" (.str t) []))
def af (t a b : Str) : List (Str × V) := putF "other" (.str b) (putF "one" (.str a) (putF "name" (.str t) []))
def rf (t a b : Str) (i j : Int) : List (Str × V) := putF "back" (.int j) (putF "there" (.int i) (putF "other" (.str b) (putF "one" (.str a) (putF "name" (.str t) []))))
theorem lf_name (t a b : Str) : (lf t a b).lookup ("name" : Str) = some (V.str t) := by unfold lf; rw [lookup_putF, if_neg (by decide +kernel), lookup_putF, if_neg (by decide +kernel), lookup_putF, if_pos rfl]
theorem lf_start (t a b : Str) : (lf t a b).lookup ("start" : Str) = some (V.str a) := by unfold lf; rw [lookup_putF, if_neg (by decide +kernel), lookup_putF, if_pos rfl]
theorem lf_goal (t a b : Str) : (lf t a b).lookup ("goal" : Str) = some (V.str b) := by unfold lf; rw [lookup_putF, if_pos rfl]
theorem af_name (t a b : Str) : (af t a b).lookup ("name" : Str) = some (V.str t) := by unfold af; rw [lookup_putF, if_neg (by decide +kernel), lookup_putF, if_neg (by decide +kernel), lookup_putF, if_pos rfl]
theorem af_one (t a b : Str) : (af t a b).lookup ("one" : Str) = some (V.str a) := by unfold af; rw [lookup_putF, if_neg (by decide +kernel), lookup_putF, if_pos rfl]
theorem af_other (t a b : Str) : (af t a b).lookup ("other" : Str) = some (V.str b) := by unfold af; rw [lookup_putF, if_pos rfl]
theorem rf_name (t a b : Str) (i j : Int) : (rf t a b i j).lookup ("name" : Str) = some (V.str t) := by unfold rf; rw [lookup_putF, if_neg (by decide +kernel), lookup_putF, if_neg (by decide +kernel), lookup_putF, if_neg (by decide +kernel), lookup_putF, if_neg (by decide +kernel), lookup_putF, if_pos rfl]
theorem rf_one (t a b : Str) (i j : Int) : (rf t a b i j).lookup ("one" : Str) = some (V.str a) := by unfold rf; rw [lookup_putF, if_neg (by decide +kernel), lookup_putF, if_neg (by decide +kernel), lookup_putF, if_neg (by decide +kernel), lookup_putF, if_pos rfl]
theorem rf_other (t a b : Str) (i j : Int) : (rf t a b i j).lookup ("other" : Str) = some (V.str b) := by unfold rf; rw [lookup_putF, if_neg (by decide +kernel), lookup_putF, if_neg (by decide +kernel), lookup_putF, if_pos rfl]
theorem rf_there (t a b : Str) (i j : Int) : (rf t a b i j).lookup ("there" : Str) = some (V.int i) := by unfold rf; rw [lookup_putF, if_neg (by decide +kernel), lookup_putF, if_pos rfl]
theorem rf_back (t a b : Str) (i j : Int) : (rf t a b i j).lookup ("back" : Str) = some (V.int j) := by unfold rf; rw [lookup_putF, if_pos rfl]
theorem putF_len (f : Str) (v : V) : ∀ l : List (Str × V), (putF f v l).length ≤ l.length + 1
  | [] => Nat.le_refl _
  | (g, x) :: r => by
    show (if g = f then (g, v) :: r else (g, x) :: putF f v r).length ≤ _
    split
    · rw [List.length_cons, List.length_cons]
      omega
    · have := putF_len f v r
      rw [List.length_cons, List.length_cons]
      omega
theorem putF_lt2 (f g : Str) (v u : V) : (putF f v (putF g u [])).length < 1000 := by
  have h1 := putF_len f v (putF g u [])
  have h2 := putF_len g u []
  have h3 : ([] : List (Str × V)).length = 0 := rfl
  omega
theorem putF_lt1 (f : Str) (v : V) : (putF f v []).length < 1000 := by
  have h1 := putF_len f v []
  have h3 : ([] : List (Str × V)).length = 0 := rfl
  omega
theorem putF_lt3 (f g k : Str) (v u x : V) : (putF f v (putF g u (putF k x []))).length < 1000 := by
  have h0 := putF_len f v (putF g u (putF k x []))
  have h1 := putF_len g u (putF k x [])
  have h2 := putF_len k x []
  have h3 : ([] : List (Str × V)).length = 0 := rfl
  omega
theorem putF_lt4 (f g k l : Str) (v u x y : V) : (putF f v (putF g u (putF k x (putF l y [])))).length < 1000 := by
  have h0 := putF_len f v (putF g u (putF k x (putF l y [])))
  have h1 := putF_len g u (putF k x (putF l y []))
  have h2 := putF_len k x (putF l y [])
  have h4 := putF_len l y []
  have h3 : ([] : List (Str × V)).length = 0 := rfl
  omega
def Sv.cls : Sv → Str
  | .lane .. => "Lane"
  | .avenue .. => "Avenue"
  | .road .. => "Road"
def Sv.fs : Sv → List (Str × V)
  | .lane t a b => lf t a b
  | .avenue t a b => af t a b
  | .road t a b i j => rf t a b i j
/-- the street v stands at x -/
def StAt (K : PySem.W.Frag) (H : Hp) (x : Addr) (v : Sv) : Prop := ∃ dx, H x = some (.ins (He.ga K v.cls) dx v.fs)
def strLt (a b : Str) : Prop := a.cps.toList < b.cps.toList
instance (a b : Str) : Decidable (strLt a b) := inferInstanceAs (Decidable (a.cps.toList < b.cps.toList))
/-- the street of a kind with these ends, as they are passed -/
def mkAv (t a b : Str) : Sv := if strLt a b then .avenue t a b else .avenue t b a
def mkRd (t a b : Str) (i j : Int) : Sv := if strLt a b then .road t a b i j else .road t b a j i
def spInit (K : PySem.W.Frag) (cls : Str) (ps : List V → Option Sv) : Sp := fun vs H Q _ => ∃ (x dx : Addr) (r : List V) (v : Sv), vs = .ref x :: r ∧ r.length = (if cls = "Road" then 5 else 3) ∧ ps r = some v ∧ H x = some (.ins (He.ga K cls) dx []) ∧
  ∀ H' : Hp, But x H H' → H' x = some (.ins (He.ga K cls) dx v.fs) → Q .non H'
def okEnds (t a b : Str) : Bool := nameB t && (nameB a && (nameB b && !decide (a = b)))
theorem okEnds_iff {t a b : Str} (h : okEnds t a b = true) : nameB t = true ∧ nameB a = true ∧ nameB b = true ∧ a ≠ b := by
  unfold okEnds at h
  simp only [Bool.and_eq_true, Bool.not_eq_true', decide_eq_false_iff_not] at h
  exact ⟨h.1, h.2.1, h.2.2.1, h.2.2.2⟩
def pLane : List V → Option Sv
  | [.str t, .str a, .str b] => if okEnds t a b = true then some (.lane t a b) else none
  | _ => none
def spInitL (K : PySem.W.Frag) : Sp := fun vs H Q _ => ∃ (x dx : Addr) (t a b : Str), vs = [.ref x, .str t, .str a, .str b] ∧ okEnds t a b = true ∧ H x = some (.ins (He.ga K "Lane") dx []) ∧
  ∀ H' : Hp, But x H H' → H' x = some (.ins (He.ga K "Lane") dx (lf t a b)) → Q .non H'
theorem sc_Lane_init : FnScope ["self", "name", "start", "goal"] ["self", "name", "start", "goal"] (defScope s_Lane_init) := ⟨rfl, rfl, rfl, by decide +kernel, rfl, by decide +kernel, by decide +kernel⟩

theorem p_Lane_init (T : Tx K mg) : Prom P w K mg base 3 d_Lane_init ["self", "name", "start", "goal"] (spInitL K) := by
  obtain ⟨fd, F⟩ := f_Lane_init T
  obtain ⟨fdC, FC, GC, BC⟩ := p_check_street (P := P) (w := w) (base := base) T
  refine ⟨fd, F, F.ok sc_Lane_init (fun vs H Q E h => ?_) (fun cdv A outer s H vs Q E hr h => ?_), F.bindsN fun _ _ _ _ _ _ us hl => match us, hl with | [_, _, _, _], _ => rfl⟩
  · obtain ⟨x, dx, t, a, b, rfl, _⟩ := h
    rfl
  · obtain ⟨x, dx, t, a, b, rfl, ok, hx, k⟩ := h
    obtain ⟨o1, o2, o3, o4⟩ := okEnds_iff ok
    refine ⟨_, PSs.nox (pss_cons (ps_expr (pe_call GC (hr.mono (by decide)) rfl (g_check_street T) FC.kp BC .nil pass0 (pa_cons (pv 1) (pa_cons (pv 2) (pa_cons (pv 3) pa_nil)))))
      (pss_cons (ps_fld (pv 0) (pv 1) rfl)
      (pss_cons (ps_fld (pv 0) (pv 2) rfl)
      (pss_one (ps_fld (pv 0) (pv 3) rfl))))), ?_⟩
    refine ⟨_, rfl, _, rfl, _, rfl, t, a, b, rfl, o1, o2, o3, o4, fun H1 s1 => ?_⟩
    refine ⟨_, rfl, _, rfl, x, _, dx, _, rfl, s1 _ _ hx, c_Lane T, na_Lane_name T, (by show 0 < 1000; decide), ?_⟩
    refine ⟨_, rfl, _, rfl, x, _, dx, _, rfl, upd_same, c_Lane T, na_Lane_start T, (by show 1 < 1000; decide), ?_⟩
    rw [upd_upd]
    refine ⟨_, rfl, _, rfl, x, _, dx, _, rfl, upd_same, c_Lane T, na_Lane_goal T, (by show _ < 1000; exact putF_lt2 _ _ _ _), ?_⟩
    rw [upd_upd]
    exact k _ (fun c o n e => by rw [upd_ne n]; exact s1 _ _ e) upd_same
def spInitA (K : PySem.W.Frag) : Sp := fun vs H Q _ => ∃ (x dx : Addr) (t a b : Str), vs = [.ref x, .str t, .str a, .str b] ∧ okEnds t a b = true ∧ H x = some (.ins (He.ga K "Avenue") dx []) ∧
  ∀ H' : Hp, But x H H' → H' x = some (.ins (He.ga K "Avenue") dx (mkAv t a b).fs) → Q .non H'
theorem sc_Avenue_init : FnScope ["self", "name", "one", "other"] ["self", "name", "one", "other"] (defScope s_Avenue_init) := ⟨rfl, rfl, rfl, by decide +kernel, rfl, by decide +kernel, by decide +kernel⟩

theorem p_Avenue_init (T : Tx K mg) : Prom P w K mg base 3 d_Avenue_init ["self", "name", "one", "other"] (spInitA K) := by
  obtain ⟨fd, F⟩ := f_Avenue_init T
  obtain ⟨fdC, FC, GC, BC⟩ := p_check_street (P := P) (w := w) (base := base) T
  refine ⟨fd, F, F.ok sc_Avenue_init (fun vs H Q E h => ?_) (fun cdv A outer s H vs Q E hr h => ?_), F.bindsN fun _ _ _ _ _ _ us hl => match us, hl with | [_, _, _, _], _ => rfl⟩
  · obtain ⟨x, dx, t, a, b, rfl, _⟩ := h
    rfl
  · obtain ⟨x, dx, t, a, b, rfl, ok, hx, k⟩ := h
    obtain ⟨o1, o2, o3, o4⟩ := okEnds_iff ok
    refine ⟨_, PSs.nox (pss_cons (ps_expr (pe_call GC (hr.mono (by decide)) rfl (g_check_street T) FC.kp BC .nil pass0 (pa_cons (pv 1) (pa_cons (pv 2) (pa_cons (pv 3) pa_nil)))))
      (pss_cons (ps_fld (pv 0) (pv 1) rfl)
      (pss_cons (ps_fld (pv 0) (pe_ifExp (pt_cmpR op_lt_str (pv 2) (pv 3) (nomark _)) (pv 2) (pv 3)) rfl)
      (pss_one (ps_fld (pv 0) (pe_ifExp (pt_cmpR op_lt_str (pv 2) (pv 3) (nomark _)) (pv 3) (pv 2)) rfl))))), ?_⟩
    refine ⟨_, rfl, _, rfl, _, rfl, t, a, b, rfl, o1, o2, o3, o4, fun H1 s1 => ?_⟩
    refine ⟨_, rfl, _, rfl, x, _, dx, _, rfl, s1 _ _ hx, c_Avenue T, na_Avenue_name T, (by show 0 < 1000; decide), ?_⟩
    unfold mkAv at k
    by_cases h : strLt a b
    · rw [if_pos h] at k
      have e : decide (a.cps.toList < b.cps.toList) = true := decide_eq_true h
      refine ⟨_, rfl, _, rfl, _, _, rfl, rfl, _, rfl, ?_⟩
      rw [e]
      refine iteT ⟨_, rfl, _, rfl, x, _, dx, _, rfl, upd_same, c_Avenue T, na_Avenue_one T, (by show 1 < 1000; decide), ?_⟩
      rw [upd_upd]
      refine ⟨_, rfl, _, rfl, _, _, rfl, rfl, _, rfl, ?_⟩
      rw [e]
      refine iteT ⟨_, rfl, _, rfl, x, _, dx, _, rfl, upd_same, c_Avenue T, na_Avenue_other T, (by show _ < 1000; exact putF_lt2 _ _ _ _), ?_⟩
      rw [upd_upd]
      exact k _ (fun c o n e => by rw [upd_ne n]; exact s1 _ _ e) upd_same
    · rw [if_neg h] at k
      have e : decide (a.cps.toList < b.cps.toList) = false := decide_eq_false h
      refine ⟨_, rfl, _, rfl, _, _, rfl, rfl, _, rfl, ?_⟩
      rw [e]
      refine iteF ⟨_, rfl, _, rfl, x, _, dx, _, rfl, upd_same, c_Avenue T, na_Avenue_one T, (by show 1 < 1000; decide), ?_⟩
      rw [upd_upd]
      refine ⟨_, rfl, _, rfl, _, _, rfl, rfl, _, rfl, ?_⟩
      rw [e]
      refine iteF ⟨_, rfl, _, rfl, x, _, dx, _, rfl, upd_same, c_Avenue T, na_Avenue_other T, (by show _ < 1000; exact putF_lt2 _ _ _ _), ?_⟩
      rw [upd_upd]
      exact k _ (fun c o n e => by rw [upd_ne n]; exact s1 _ _ e) upd_same
def spInitR (K : PySem.W.Frag) : Sp := fun vs H Q _ => ∃ (x dx : Addr) (t a b : Str) (i j : Int), vs = [.ref x, .str t, .str a, .str b, .int i, .int j] ∧ okEnds t a b = true ∧ priceOk i ∧ priceOk j ∧ H x = some (.ins (He.ga K "Road") dx []) ∧
  ∀ H' : Hp, But x H H' → H' x = some (.ins (He.ga K "Road") dx (mkRd t a b i j).fs) → Q .non H'
theorem sc_Road_init : FnScope ["self", "name", "one", "other", "there", "back"] ["self", "name", "one", "other", "there", "back"] (defScope s_Road_init) := ⟨rfl, rfl, rfl, by decide +kernel, rfl, by decide +kernel, by decide +kernel⟩

theorem p_Road_init (T : Tx K mg) : ∃ fd, Fd K d_Road_init fd ∧ FnOk P w K mg base CX0 4 (d_Road_init.adr K) fd ["self", "name", "one", "other", "there", "back"] (spInitR K) := by
  obtain ⟨fd, F⟩ := f_Road_init T
  obtain ⟨fdC, FC, GC, BC⟩ := p_check_street (P := P) (w := w) (base := base) T
  obtain ⟨fdQ, FQ, GQ, BQ⟩ := p_check_prices (P := P) (w := w) (base := base) T
  refine ⟨fd, F, F.ok sc_Road_init (fun vs H Q E h => ?_) (fun cdv A outer s H vs Q E hr h => ?_)⟩
  · obtain ⟨x, dx, t, a, b, i, j, rfl, _⟩ := h
    rfl
  · obtain ⟨x, dx, t, a, b, i, j, rfl, ok, hi, hj, hx, k⟩ := h
    obtain ⟨o1, o2, o3, o4⟩ := okEnds_iff ok
    refine ⟨_, PSs.nox (pss_cons (ps_expr (pe_call GC (hr.mono (by decide)) rfl (g_check_street T) FC.kp BC .nil pass0 (pa_cons (pv 1) (pa_cons (pv 2) (pa_cons (pv 3) pa_nil)))))
      (pss_cons (ps_expr (pe_call GQ (hr.mono (by decide)) rfl (g_check_prices T) FQ.kp BQ .nil pass0 (pa_cons (pv 4) (pa_cons (pv 5) pa_nil))))
      (pss_cons (ps_fld (pv 0) (pv 1) rfl)
      (pss_cons (ps_fld (pv 0) (pe_ifExp (pt_cmpR op_lt_str (pv 2) (pv 3) (nomark _)) (pv 2) (pv 3)) rfl)
      (pss_cons (ps_fld (pv 0) (pe_ifExp (pt_cmpR op_lt_str (pv 2) (pv 3) (nomark _)) (pv 3) (pv 2)) rfl)
      (pss_cons (ps_fld (pv 0) (pe_ifExp (pt_cmpR op_lt_str (pv 2) (pv 3) (nomark _)) (pv 4) (pv 5)) rfl)
      (pss_one (ps_fld (pv 0) (pe_ifExp (pt_cmpR op_lt_str (pv 2) (pv 3) (nomark _)) (pv 5) (pv 4)) rfl)))))))), ?_⟩
    refine ⟨_, rfl, _, rfl, _, rfl, t, a, b, rfl, o1, o2, o3, o4, fun H1 s1 => ?_⟩
    refine ⟨_, rfl, _, rfl, i, j, rfl, hi, hj, fun H2 s2 => ?_⟩
    have s12 := s1.trans s2
    refine ⟨_, rfl, _, rfl, x, _, dx, _, rfl, s12 _ _ hx, c_Road T, na_Road_name T, (by show 0 < 1000; decide), ?_⟩
    unfold mkRd at k
    by_cases h : strLt a b
    · rw [if_pos h] at k
      have e : decide (a.cps.toList < b.cps.toList) = true := decide_eq_true h
      refine ⟨_, rfl, _, rfl, _, _, rfl, rfl, _, rfl, ?_⟩
      rw [e]
      refine iteT ⟨_, rfl, _, rfl, x, _, dx, _, rfl, upd_same, c_Road T, na_Road_one T, (by show _ < 1000; exact putF_lt1 _ _), ?_⟩
      rw [upd_upd]
      refine ⟨_, rfl, _, rfl, _, _, rfl, rfl, _, rfl, ?_⟩
      rw [e]
      refine iteT ⟨_, rfl, _, rfl, x, _, dx, _, rfl, upd_same, c_Road T, na_Road_other T, (by show _ < 1000; exact putF_lt2 _ _ _ _), ?_⟩
      rw [upd_upd]
      refine ⟨_, rfl, _, rfl, _, _, rfl, rfl, _, rfl, ?_⟩
      rw [e]
      refine iteT ⟨_, rfl, _, rfl, x, _, dx, _, rfl, upd_same, c_Road T, na_Road_there T, (by show _ < 1000; exact putF_lt3 _ _ _ _ _ _), ?_⟩
      rw [upd_upd]
      refine ⟨_, rfl, _, rfl, _, _, rfl, rfl, _, rfl, ?_⟩
      rw [e]
      refine iteT ⟨_, rfl, _, rfl, x, _, dx, _, rfl, upd_same, c_Road T, na_Road_back T, (by show _ < 1000; exact putF_lt4 _ _ _ _ _ _ _ _), ?_⟩
      rw [upd_upd]
      exact k _ (fun c o n e => by rw [upd_ne n]; exact s12 _ _ e) upd_same
    · rw [if_neg h] at k
      have e : decide (a.cps.toList < b.cps.toList) = false := decide_eq_false h
      refine ⟨_, rfl, _, rfl, _, _, rfl, rfl, _, rfl, ?_⟩
      rw [e]
      refine iteF ⟨_, rfl, _, rfl, x, _, dx, _, rfl, upd_same, c_Road T, na_Road_one T, (by show _ < 1000; exact putF_lt1 _ _), ?_⟩
      rw [upd_upd]
      refine ⟨_, rfl, _, rfl, _, _, rfl, rfl, _, rfl, ?_⟩
      rw [e]
      refine iteF ⟨_, rfl, _, rfl, x, _, dx, _, rfl, upd_same, c_Road T, na_Road_other T, (by show _ < 1000; exact putF_lt2 _ _ _ _), ?_⟩
      rw [upd_upd]
      refine ⟨_, rfl, _, rfl, _, _, rfl, rfl, _, rfl, ?_⟩
      rw [e]
      refine iteF ⟨_, rfl, _, rfl, x, _, dx, _, rfl, upd_same, c_Road T, na_Road_there T, (by show _ < 1000; exact putF_lt3 _ _ _ _ _ _), ?_⟩
      rw [upd_upd]
      refine ⟨_, rfl, _, rfl, _, _, rfl, rfl, _, rfl, ?_⟩
      rw [e]
      refine iteF ⟨_, rfl, _, rfl, x, _, dx, _, rfl, upd_same, c_Road T, na_Road_back T, (by show _ < 1000; exact putF_lt4 _ _ _ _ _ _ _ _), ?_⟩
      rw [upd_upd]
      exact k _ (fun c o n e => by rw [upd_ne n]; exact s12 _ _ e) upd_same
end
end K10
namespace K10
open PySem PySem.Spec PyProof.Rows L2 Hx Gx Nx
section
variable {P : Program} {w : World} {K : PySem.W.Frag} {mg : Str → Option Value} {base : Heap}

def tyNames : List String := ["NoneType", "bool", "int", "str", "list", "tuple", "dict"]
/-- what stands on the right: a street, or a thing of a built-in kind -/
def YSt (K : PySem.W.Frag) (H : Hp) (y : V) : Option Sv → Prop
  | some v => ∃ a, y = .ref a ∧ StAt K H a v
  | none => ∃ t : String, TyX K H y (.type t) ∧ t ∈ tyNames
theorem kit_Lane (T : Tx K mg) {t : String} (h : t ∈ tyNames) : PySem.W.kitOne K (.type t) (.ref (He.ga K "Lane")) = some false := by
  unfold tyNames at h
  simp only [List.mem_cons, List.not_mem_nil, or_false] at h
  rcases h with rfl | rfl | rfl | rfl | rfl | rfl | rfl
  · exact k_NoneType_Lane T
  · exact k_bool_Lane T
  · exact k_int_Lane T
  · exact k_str_Lane T
  · exact k_list_Lane T
  · exact k_tuple_Lane T
  · exact k_dict_Lane T
theorem nfs_Lane (T : Tx K mg) {t : String} (h : t ∈ tyNames) : PySem.W.notFirst K (He.ga K "Lane") (.type t) = true := by
  unfold tyNames at h
  simp only [List.mem_cons, List.not_mem_nil, or_false] at h
  rcases h with rfl | rfl | rfl | rfl | rfl | rfl | rfl
  · exact nf_Lane_NoneType T
  · exact nf_Lane_bool T
  · exact nf_Lane_int T
  · exact nf_Lane_str T
  · exact nf_Lane_list T
  · exact nf_Lane_tuple T
  · exact nf_Lane_dict T
theorem kit_Avenue (T : Tx K mg) {t : String} (h : t ∈ tyNames) : PySem.W.kitOne K (.type t) (.ref (He.ga K "Avenue")) = some false := by
  unfold tyNames at h
  simp only [List.mem_cons, List.not_mem_nil, or_false] at h
  rcases h with rfl | rfl | rfl | rfl | rfl | rfl | rfl
  · exact k_NoneType_Avenue T
  · exact k_bool_Avenue T
  · exact k_int_Avenue T
  · exact k_str_Avenue T
  · exact k_list_Avenue T
  · exact k_tuple_Avenue T
  · exact k_dict_Avenue T
theorem nfs_Avenue (T : Tx K mg) {t : String} (h : t ∈ tyNames) : PySem.W.notFirst K (He.ga K "Avenue") (.type t) = true := by
  unfold tyNames at h
  simp only [List.mem_cons, List.not_mem_nil, or_false] at h
  rcases h with rfl | rfl | rfl | rfl | rfl | rfl | rfl
  · exact nf_Avenue_NoneType T
  · exact nf_Avenue_bool T
  · exact nf_Avenue_int T
  · exact nf_Avenue_str T
  · exact nf_Avenue_list T
  · exact nf_Avenue_tuple T
  · exact nf_Avenue_dict T
theorem kit_Road (T : Tx K mg) {t : String} (h : t ∈ tyNames) : PySem.W.kitOne K (.type t) (.ref (He.ga K "Road")) = some false := by
  unfold tyNames at h
  simp only [List.mem_cons, List.not_mem_nil, or_false] at h
  rcases h with rfl | rfl | rfl | rfl | rfl | rfl | rfl
  · exact k_NoneType_Road T
  · exact k_bool_Road T
  · exact k_int_Road T
  · exact k_str_Road T
  · exact k_list_Road T
  · exact k_tuple_Road T
  · exact k_dict_Road T
theorem nfs_Road (T : Tx K mg) {t : String} (h : t ∈ tyNames) : PySem.W.notFirst K (He.ga K "Road") (.type t) = true := by
  unfold tyNames at h
  simp only [List.mem_cons, List.not_mem_nil, or_false] at h
  rcases h with rfl | rfl | rfl | rfl | rfl | rfl | rfl
  · exact nf_Road_NoneType T
  · exact nf_Road_bool T
  · exact nf_Road_int T
  · exact nf_Road_str T
  · exact nf_Road_list T
  · exact nf_Road_tuple T
  · exact nf_Road_dict T

theorem tyx_st (T : Tx K mg) {H : Hp} {a : Addr} {v : Sv} (h : StAt K H a v) : TyX K H (.ref a) (.ref (He.ga K v.cls)) := by
  obtain ⟨dx, h⟩ := h
  cases v with
  | lane => exact .base (.ins h (c_Lane T) (ci_Lane T).ca (ci_Lane T).cn (ci_Lane T).ct (ci_Lane T).cm)
  | avenue => exact .base (.ins h (c_Avenue T) (ci_Avenue T).ca (ci_Avenue T).cn (ci_Avenue T).ct (ci_Avenue T).cm)
  | road => exact .base (.ins h (c_Road T) (ci_Road T).ca (ci_Road T).cn (ci_Road T).ct (ci_Road T).cm)
def spEq (K : PySem.W.Frag) (c : Str) : Sp := fun vs H Q _ => ∃ (x : Addr) (y : V) (v : Sv) (o : Option Sv), vs = [.ref x, y] ∧ v.cls = c ∧ StAt K H x v ∧ YSt K H y o ∧ Q (.bl (decide (o = some v))) H
theorem sc_Lane_eq : FnScope ["self", "other"] ["self", "other"] (defScope s_Lane_eq) := ⟨rfl, rfl, rfl, by decide +kernel, rfl, by decide +kernel, by decide +kernel⟩
theorem p_Lane_eq (T : Tx K mg) : Prom P w K mg base 1 d_Lane_eq ["self", "other"] (spEq K "Lane") := by
  obtain ⟨fd, F⟩ := f_Lane_eq T
  refine ⟨fd, F, F.ok sc_Lane_eq (fun vs H Q E h => ?_) (fun cdv A outer s H vs Q E hr h => ?_), F.bindsN fun _ _ _ _ _ _ us hl => match us, hl with | [_, _], _ => rfl⟩
  · obtain ⟨x, y, v, o, rfl, _⟩ := h
    rfl
  · obtain ⟨x, y, v, o, rfl, hv, hx, hy, k⟩ := h
    refine ⟨_, PSs.nox (pss_one (ps_ret (pe_and (pe_callB call_isi (by rfl) (n_isinstance T) (by decide +kernel) (pa_cons (pv 1) (pa_cons (pe_glob (v := .ref (He.ga K "Lane")) rfl (g_Lane T) rfl) pa_nil))) (pe_and (pe_cmpR op_eq (pe_fld (pv 0) rfl) (pe_fld (pv 1) rfl) (nomark _)) (pe_and (pe_cmpR op_eq (pe_fld (pv 0) rfl) (pe_fld (pv 1) rfl) (nomark _)) (pe_one (pe_cmpR op_eq (pe_fld (pv 0) rfl) (pe_fld (pv 1) rfl) (nomark _)))))))), ?_⟩
    cases v with
    | avenue => exact absurd (show ("Avenue" : Str) = "Lane" from hv) (by decide +kernel)
    | road => exact absurd (show ("Road" : Str) = "Lane" from hv) (by decide +kernel)
    | lane t a b =>
      obtain ⟨dx, hx⟩ := hx
      cases o with
      | none =>
        obtain ⟨ty, hT, hm⟩ := hy
        exact ⟨_, rfl, _, _, _, _, false, rfl, .own _, hT, kit_Lane T hm, _, rfl, k⟩
      | some v2 =>
        obtain ⟨y, rfl, hy⟩ := hy
        cases v2 with
        | lane t2 a2 b2 =>
          have ht := tyx_st T hy
          obtain ⟨dy, hy⟩ := hy
          refine ⟨_, rfl, _, _, _, _, true, rfl, .own _, ht, k_Lane_Lane T, _, rfl, ?_⟩
          have e0 : decide (V.str t = V.str t2) = decide (t = t2) := by simp
          refine ⟨_, rfl, x, _, dx, _, _, rfl, hx, c_Lane T, na_Lane_name T, lf_name _ _ _, _, rfl, y, _, dy, _, _, rfl, hy, c_Lane T, na_Lane_name T, lf_name _ _ _, rfl, _, rfl, ?_⟩
          rw [e0]
          by_cases h0 : t = t2
          rotate_left
          · rw [decide_eq_false h0]
            refine iteF ?_
            have z : decide (some (Sv.lane t2 a2 b2) = some (Sv.lane t a b)) = false := decide_eq_false fun u => h0 (by cases u; rfl)
            rw [z] at k
            exact k
          rw [decide_eq_true h0]
          refine iteT ?_
          have e1 : decide (V.str a = V.str a2) = decide (a = a2) := by simp
          refine ⟨_, rfl, x, _, dx, _, _, rfl, hx, c_Lane T, na_Lane_start T, lf_start _ _ _, _, rfl, y, _, dy, _, _, rfl, hy, c_Lane T, na_Lane_start T, lf_start _ _ _, rfl, _, rfl, ?_⟩
          rw [e1]
          by_cases h1 : a = a2
          rotate_left
          · rw [decide_eq_false h1]
            refine iteF ?_
            have z : decide (some (Sv.lane t2 a2 b2) = some (Sv.lane t a b)) = false := decide_eq_false fun u => h1 (by cases u; rfl)
            rw [z] at k
            exact k
          rw [decide_eq_true h1]
          refine iteT ?_
          have e2 : decide (V.str b = V.str b2) = decide (b = b2) := by simp
          refine ⟨_, rfl, x, _, dx, _, _, rfl, hx, c_Lane T, na_Lane_goal T, lf_goal _ _ _, _, rfl, y, _, dy, _, _, rfl, hy, c_Lane T, na_Lane_goal T, lf_goal _ _ _, rfl, ?_⟩
          show Q (.bl (decide (V.str b = V.str b2))) H
          rw [e2]
          have z : decide (some (Sv.lane t2 a2 b2) = some (Sv.lane t a b)) = decide (b = b2) := by
            subst h0 h1
            by_cases u : b = b2
            · subst u
              simp
            · rw [decide_eq_false u]
              exact decide_eq_false fun w => u (by cases w; rfl)
          rw [z] at k
          exact k
        | avenue t2 a2 b2 =>
          have ht := tyx_st T hy
          obtain ⟨dy, hy⟩ := hy
          exact ⟨_, rfl, _, _, _, _, false, rfl, .own _, ht, k_Avenue_Lane T, _, rfl, k⟩
        | road t2 a2 b2 i2 j2 =>
          have ht := tyx_st T hy
          obtain ⟨dy, hy⟩ := hy
          exact ⟨_, rfl, _, _, _, _, false, rfl, .own _, ht, k_Road_Lane T, _, rfl, k⟩
theorem sc_Avenue_eq : FnScope ["self", "other"] ["self", "other"] (defScope s_Avenue_eq) := ⟨rfl, rfl, rfl, by decide +kernel, rfl, by decide +kernel, by decide +kernel⟩
theorem p_Avenue_eq (T : Tx K mg) : Prom P w K mg base 1 d_Avenue_eq ["self", "other"] (spEq K "Avenue") := by
  obtain ⟨fd, F⟩ := f_Avenue_eq T
  refine ⟨fd, F, F.ok sc_Avenue_eq (fun vs H Q E h => ?_) (fun cdv A outer s H vs Q E hr h => ?_), F.bindsN fun _ _ _ _ _ _ us hl => match us, hl with | [_, _], _ => rfl⟩
  · obtain ⟨x, y, v, o, rfl, _⟩ := h
    rfl
  · obtain ⟨x, y, v, o, rfl, hv, hx, hy, k⟩ := h
    refine ⟨_, PSs.nox (pss_one (ps_ret (pe_and (pe_callB call_isi (by rfl) (n_isinstance T) (by decide +kernel) (pa_cons (pv 1) (pa_cons (pe_glob (v := .ref (He.ga K "Avenue")) rfl (g_Avenue T) rfl) pa_nil))) (pe_and (pe_cmpR op_eq (pe_fld (pv 0) rfl) (pe_fld (pv 1) rfl) (nomark _)) (pe_and (pe_cmpR op_eq (pe_fld (pv 0) rfl) (pe_fld (pv 1) rfl) (nomark _)) (pe_one (pe_cmpR op_eq (pe_fld (pv 0) rfl) (pe_fld (pv 1) rfl) (nomark _)))))))), ?_⟩
    cases v with
    | lane => exact absurd (show ("Lane" : Str) = "Avenue" from hv) (by decide +kernel)
    | road => exact absurd (show ("Road" : Str) = "Avenue" from hv) (by decide +kernel)
    | avenue t a b =>
      obtain ⟨dx, hx⟩ := hx
      cases o with
      | none =>
        obtain ⟨ty, hT, hm⟩ := hy
        exact ⟨_, rfl, _, _, _, _, false, rfl, .own _, hT, kit_Avenue T hm, _, rfl, k⟩
      | some v2 =>
        obtain ⟨y, rfl, hy⟩ := hy
        cases v2 with
        | lane t2 a2 b2 =>
          have ht := tyx_st T hy
          obtain ⟨dy, hy⟩ := hy
          exact ⟨_, rfl, _, _, _, _, false, rfl, .own _, ht, k_Lane_Avenue T, _, rfl, k⟩
        | avenue t2 a2 b2 =>
          have ht := tyx_st T hy
          obtain ⟨dy, hy⟩ := hy
          refine ⟨_, rfl, _, _, _, _, true, rfl, .own _, ht, k_Avenue_Avenue T, _, rfl, ?_⟩
          have e0 : decide (V.str t = V.str t2) = decide (t = t2) := by simp
          refine ⟨_, rfl, x, _, dx, _, _, rfl, hx, c_Avenue T, na_Avenue_name T, af_name _ _ _, _, rfl, y, _, dy, _, _, rfl, hy, c_Avenue T, na_Avenue_name T, af_name _ _ _, rfl, _, rfl, ?_⟩
          rw [e0]
          by_cases h0 : t = t2
          rotate_left
          · rw [decide_eq_false h0]
            refine iteF ?_
            have z : decide (some (Sv.avenue t2 a2 b2) = some (Sv.avenue t a b)) = false := decide_eq_false fun u => h0 (by cases u; rfl)
            rw [z] at k
            exact k
          rw [decide_eq_true h0]
          refine iteT ?_
          have e1 : decide (V.str a = V.str a2) = decide (a = a2) := by simp
          refine ⟨_, rfl, x, _, dx, _, _, rfl, hx, c_Avenue T, na_Avenue_one T, af_one _ _ _, _, rfl, y, _, dy, _, _, rfl, hy, c_Avenue T, na_Avenue_one T, af_one _ _ _, rfl, _, rfl, ?_⟩
          rw [e1]
          by_cases h1 : a = a2
          rotate_left
          · rw [decide_eq_false h1]
            refine iteF ?_
            have z : decide (some (Sv.avenue t2 a2 b2) = some (Sv.avenue t a b)) = false := decide_eq_false fun u => h1 (by cases u; rfl)
            rw [z] at k
            exact k
          rw [decide_eq_true h1]
          refine iteT ?_
          have e2 : decide (V.str b = V.str b2) = decide (b = b2) := by simp
          refine ⟨_, rfl, x, _, dx, _, _, rfl, hx, c_Avenue T, na_Avenue_other T, af_other _ _ _, _, rfl, y, _, dy, _, _, rfl, hy, c_Avenue T, na_Avenue_other T, af_other _ _ _, rfl, ?_⟩
          show Q (.bl (decide (V.str b = V.str b2))) H
          rw [e2]
          have z : decide (some (Sv.avenue t2 a2 b2) = some (Sv.avenue t a b)) = decide (b = b2) := by
            subst h0 h1
            by_cases u : b = b2
            · subst u
              simp
            · rw [decide_eq_false u]
              exact decide_eq_false fun w => u (by cases w; rfl)
          rw [z] at k
          exact k
        | road t2 a2 b2 i2 j2 =>
          have ht := tyx_st T hy
          obtain ⟨dy, hy⟩ := hy
          exact ⟨_, rfl, _, _, _, _, false, rfl, .own _, ht, k_Road_Avenue T, _, rfl, k⟩
theorem sc_Road_eq : FnScope ["self", "other"] ["self", "other"] (defScope s_Road_eq) := ⟨rfl, rfl, rfl, by decide +kernel, rfl, by decide +kernel, by decide +kernel⟩
theorem p_Road_eq (T : Tx K mg) : Prom P w K mg base 1 d_Road_eq ["self", "other"] (spEq K "Road") := by
  obtain ⟨fd, F⟩ := f_Road_eq T
  refine ⟨fd, F, F.ok sc_Road_eq (fun vs H Q E h => ?_) (fun cdv A outer s H vs Q E hr h => ?_), F.bindsN fun _ _ _ _ _ _ us hl => match us, hl with | [_, _], _ => rfl⟩
  · obtain ⟨x, y, v, o, rfl, _⟩ := h
    rfl
  · obtain ⟨x, y, v, o, rfl, hv, hx, hy, k⟩ := h
    refine ⟨_, PSs.nox (pss_one (ps_ret (pe_and (pe_callB call_isi (by rfl) (n_isinstance T) (by decide +kernel) (pa_cons (pv 1) (pa_cons (pe_glob (v := .ref (He.ga K "Road")) rfl (g_Road T) rfl) pa_nil))) (pe_and (pe_cmpR op_eq (pe_fld (pv 0) rfl) (pe_fld (pv 1) rfl) (nomark _)) (pe_and (pe_cmpR op_eq (pe_fld (pv 0) rfl) (pe_fld (pv 1) rfl) (nomark _)) (pe_and (pe_cmpR op_eq (pe_fld (pv 0) rfl) (pe_fld (pv 1) rfl) (nomark _)) (pe_and (pe_cmpR op_eq (pe_fld (pv 0) rfl) (pe_fld (pv 1) rfl) (nomark _)) (pe_one (pe_cmpR op_eq (pe_fld (pv 0) rfl) (pe_fld (pv 1) rfl) (nomark _)))))))))), ?_⟩
    cases v with
    | lane => exact absurd (show ("Lane" : Str) = "Road" from hv) (by decide +kernel)
    | avenue => exact absurd (show ("Avenue" : Str) = "Road" from hv) (by decide +kernel)
    | road t a b i j =>
      obtain ⟨dx, hx⟩ := hx
      cases o with
      | none =>
        obtain ⟨ty, hT, hm⟩ := hy
        exact ⟨_, rfl, _, _, _, _, false, rfl, .own _, hT, kit_Road T hm, _, rfl, k⟩
      | some v2 =>
        obtain ⟨y, rfl, hy⟩ := hy
        cases v2 with
        | lane t2 a2 b2 =>
          have ht := tyx_st T hy
          obtain ⟨dy, hy⟩ := hy
          exact ⟨_, rfl, _, _, _, _, false, rfl, .own _, ht, k_Lane_Road T, _, rfl, k⟩
        | avenue t2 a2 b2 =>
          have ht := tyx_st T hy
          obtain ⟨dy, hy⟩ := hy
          exact ⟨_, rfl, _, _, _, _, false, rfl, .own _, ht, k_Avenue_Road T, _, rfl, k⟩
        | road t2 a2 b2 i2 j2 =>
          have ht := tyx_st T hy
          obtain ⟨dy, hy⟩ := hy
          refine ⟨_, rfl, _, _, _, _, true, rfl, .own _, ht, k_Road_Road T, _, rfl, ?_⟩
          have e0 : decide (V.str t = V.str t2) = decide (t = t2) := by simp
          refine ⟨_, rfl, x, _, dx, _, _, rfl, hx, c_Road T, na_Road_name T, rf_name _ _ _ _ _, _, rfl, y, _, dy, _, _, rfl, hy, c_Road T, na_Road_name T, rf_name _ _ _ _ _, rfl, _, rfl, ?_⟩
          rw [e0]
          by_cases h0 : t = t2
          rotate_left
          · rw [decide_eq_false h0]
            refine iteF ?_
            have z : decide (some (Sv.road t2 a2 b2 i2 j2) = some (Sv.road t a b i j)) = false := decide_eq_false fun u => h0 (by cases u; rfl)
            rw [z] at k
            exact k
          rw [decide_eq_true h0]
          refine iteT ?_
          have e1 : decide (V.str a = V.str a2) = decide (a = a2) := by simp
          refine ⟨_, rfl, x, _, dx, _, _, rfl, hx, c_Road T, na_Road_one T, rf_one _ _ _ _ _, _, rfl, y, _, dy, _, _, rfl, hy, c_Road T, na_Road_one T, rf_one _ _ _ _ _, rfl, _, rfl, ?_⟩
          rw [e1]
          by_cases h1 : a = a2
          rotate_left
          · rw [decide_eq_false h1]
            refine iteF ?_
            have z : decide (some (Sv.road t2 a2 b2 i2 j2) = some (Sv.road t a b i j)) = false := decide_eq_false fun u => h1 (by cases u; rfl)
            rw [z] at k
            exact k
          rw [decide_eq_true h1]
          refine iteT ?_
          have e2 : decide (V.str b = V.str b2) = decide (b = b2) := by simp
          refine ⟨_, rfl, x, _, dx, _, _, rfl, hx, c_Road T, na_Road_other T, rf_other _ _ _ _ _, _, rfl, y, _, dy, _, _, rfl, hy, c_Road T, na_Road_other T, rf_other _ _ _ _ _, rfl, _, rfl, ?_⟩
          rw [e2]
          by_cases h2 : b = b2
          rotate_left
          · rw [decide_eq_false h2]
            refine iteF ?_
            have z : decide (some (Sv.road t2 a2 b2 i2 j2) = some (Sv.road t a b i j)) = false := decide_eq_false fun u => h2 (by cases u; rfl)
            rw [z] at k
            exact k
          rw [decide_eq_true h2]
          refine iteT ?_
          have e3 : decide (V.int i = V.int i2) = decide (i = i2) := by simp
          refine ⟨_, rfl, x, _, dx, _, _, rfl, hx, c_Road T, na_Road_there T, rf_there _ _ _ _ _, _, rfl, y, _, dy, _, _, rfl, hy, c_Road T, na_Road_there T, rf_there _ _ _ _ _, rfl, _, rfl, ?_⟩
          rw [e3]
          by_cases h3 : i = i2
          rotate_left
          · rw [decide_eq_false h3]
            refine iteF ?_
            have z : decide (some (Sv.road t2 a2 b2 i2 j2) = some (Sv.road t a b i j)) = false := decide_eq_false fun u => h3 (by cases u; rfl)
            rw [z] at k
            exact k
          rw [decide_eq_true h3]
          refine iteT ?_
          have e4 : decide (V.int j = V.int j2) = decide (j = j2) := by simp
          refine ⟨_, rfl, x, _, dx, _, _, rfl, hx, c_Road T, na_Road_back T, rf_back _ _ _ _ _, _, rfl, y, _, dy, _, _, rfl, hy, c_Road T, na_Road_back T, rf_back _ _ _ _ _, rfl, ?_⟩
          show Q (.bl (decide (V.int j = V.int j2))) H
          rw [e4]
          have z : decide (some (Sv.road t2 a2 b2 i2 j2) = some (Sv.road t a b i j)) = decide (j = j2) := by
            subst h0 h1 h2 h3
            by_cases u : j = j2
            · subst u
              simp
            · rw [decide_eq_false u]
              exact decide_eq_false fun w => u (by cases w; rfl)
          rw [z] at k
          exact k
end
end K10
namespace Nx
open PySem PySem.Spec PyProof.Rows L2
section
variable {X : Cx} {CX : CXT} {k : Nat} {C f : Addr} {fd : FuncData} {ps : List Str} {sp : Sp} {E : XK}
/-- str(x) by the own __str__ of the class of x -/
def rStrO (C : Addr) (sp : Sp) (E : XK) : List V → Hp → VK → Prop := fun xs H Q =>
  ∃ (a dx : Addr) (fs : List (Str × V)), xs = [.ref a] ∧ H a = some (.ins C dx fs) ∧ sp [.ref a] H (fun z H' => ∃ y, z = .str y ∧ Q z H') E
theorem call_strO (hs : PySem.W.findIn X.K (.ref C) "__str__" = some (some (.ref f))) (hf : PySem.W.isFn X.K (.ref f) = true)
    (F : FnOk X.prog X.w X.K X.mg X.base CX k f fd ps sp) (hb : Binds X.K fd ps []) (hr : Room (k + 2) X.A) (hx : Passes CX X E) : CallR X (.type "str") (rStrO C sp E) := by
  rintro pins s σ H xs us Q I r ⟨a, dx, fs, rfl, ha, q⟩
  obtain ⟨u, rfl, ru⟩ := r.one
  cases (show u = Value.ref a from ru)
  obtain ⟨mA, J, _⟩ := ins_get I.hok ha
  obtain ⟨od, J, _⟩ := J.look
  have r1 : Room (k + 1) X.A.in1 := Room.in1 hr
  have r2 : Room k X.A.in1.in1 := Room.in1 r1
  refine PySem.W.kso_call (by have := r2.un; omega) I.kIn J hs hf ?_
  refine wpAny_mono (run_at F r2 I.env0.in1.in1 hb hx I (.cons (show RelV (.ref a) (.ref a) from rfl) .nil) q) ?_ (fun _ _ e => e)
  rintro r s' ⟨c, H', I', rc, y, rfl, qy⟩
  obtain ⟨t, rfl⟩ := (show ∃ t, r = Value.str y t from rc)
  exact ⟨.str y, H', I', ⟨t, rfl⟩, qy⟩
end
end Nx
namespace K10
open PySem PySem.Spec PyProof.Rows L2 Hx Gx Nx
section
variable {P : Program} {w : World} {K : PySem.W.Frag} {mg : Str → Option Value} {base : Heap}

/-- its names are names, its prices are prices -/
def WfSv : Sv → Prop
  | .lane t a b => nameB t = true ∧ nameB a = true ∧ nameB b = true
  | .avenue t a b => nameB t = true ∧ nameB a = true ∧ nameB b = true
  | .road t a b i j => nameB t = true ∧ nameB a = true ∧ nameB b = true ∧ priceOk i ∧ priceOk j
def numText (i : Int) : Str := Str.ofString (toString i)
def Sv.text : Sv → Str
  | .lane t a b => Str.empty ++ "lane " ++ t ++ " " ++ a ++ " " ++ b
  | .avenue t a b => Str.empty ++ "avenue " ++ t ++ " " ++ a ++ " " ++ b
  | .road t a b i j => Str.empty ++ "road " ++ t ++ " " ++ a ++ " " ++ b ++ " " ++ numText i ++ " " ++ numText j
theorem numText_len {i : Int} (h : priceOk i) : (numText i).length ≤ 41 ∧ i.natAbs.log2 < 1920 := by
  obtain ⟨h1, h2⟩ := h
  have z : i.natAbs < 2 ^ 40 := by omega
  have l : i.natAbs.log2 < 40 := by
    by_cases h0 : i.natAbs = 0
    · rw [h0]; decide
    · exact (Nat.log2_lt h0).mpr z
  refine ⟨?_, by omega⟩
  unfold numText
  rw [PySem.ofString_length]
  exact int_text_length_le (by decide) l
theorem name8 {x : Str} (h : nameB x = true) : x.length ≤ 8 := by
  unfold nameB at h
  rw [Bool.and_eq_true, Bool.and_eq_true] at h
  exact of_decide_eq_true h.1.2
def spStr (K : PySem.W.Frag) (c : Str) : Sp := fun vs H Q _ => ∃ (x : Addr) (v : Sv), vs = [.ref x] ∧ v.cls = c ∧ WfSv v ∧ StAt K H x v ∧ Q (.str v.text) H
theorem sc_Lane_str : FnScope ["self"] ["self"] (defScope s_Lane_str) := ⟨rfl, rfl, rfl, by decide +kernel, rfl, by decide +kernel, by decide +kernel⟩
theorem p_Lane_str (T : Tx K mg) : Prom P w K mg base 1 d_Lane_str ["self"] (spStr K "Lane") := by
  obtain ⟨fd, F⟩ := f_Lane_str T
  refine ⟨fd, F, F.ok sc_Lane_str (fun vs H Q E h => ?_) (fun cdv A outer s H vs Q E hr h => ?_), F.bindsN fun _ _ _ _ _ _ us hl => match us, hl with | [_], _ => rfl⟩
  · obtain ⟨x, v, rfl, _⟩ := h
    rfl
  · obtain ⟨x, v, rfl, hv, wf, hx, k⟩ := h
    refine ⟨_, PSs.nox (pss_one (ps_ret (pe_joined (PJ.cons pe_str (PJ.cons (pe_fmt (pe_fld (pv 0) rfl)) (PJ.cons pe_str (PJ.cons (pe_fmt (pe_fld (pv 0) rfl)) (PJ.cons pe_str (PJ.cons (pe_fmt (pe_fld (pv 0) rfl)) PJ.nil))))))))), ?_⟩
    cases v with
    | avenue => exact absurd (show ("Avenue" : Str) = "Lane" from hv) (by decide +kernel)
    | road => exact absurd (show ("Road" : Str) = "Lane" from hv) (by decide +kernel)
    | lane t a b =>
    obtain ⟨dx, hx⟩ := hx
    obtain ⟨w0, w1, w2⟩ := wf
    have l0 := name8 w0
    have l1 := name8 w1
    have l2 := name8 w2


    have sl : 1000 ≤ sizeLine := by decide
    have z0 : Str.empty.length = 0 := rfl
    have z1 : (Str.ofString "lane ").length ≤ 10 := by decide
    have z2 : (Str.ofString " ").length = 1 := by decide
    refine ⟨_, rfl, (by simp only [Str.length_append, numText] at *; omega), ?_⟩
    refine ⟨_, rfl, x, _, dx, _, _, rfl, hx, c_Lane T, na_Lane_name T, lf_name _ _ _, .inl ⟨_, rfl, nameB_len w0, _, rfl, (by simp only [Str.length_append, numText] at *; omega), ?_⟩⟩
    refine ⟨_, rfl, (by simp only [Str.length_append, numText] at *; omega), ?_⟩
    refine ⟨_, rfl, x, _, dx, _, _, rfl, hx, c_Lane T, na_Lane_start T, lf_start _ _ _, .inl ⟨_, rfl, nameB_len w1, _, rfl, (by simp only [Str.length_append, numText] at *; omega), ?_⟩⟩
    refine ⟨_, rfl, (by simp only [Str.length_append, numText] at *; omega), ?_⟩
    refine ⟨_, rfl, x, _, dx, _, _, rfl, hx, c_Lane T, na_Lane_goal T, lf_goal _ _ _, .inl ⟨_, rfl, nameB_len w2, _, rfl, (by simp only [Str.length_append, numText] at *; omega), ?_⟩⟩
    exact k
theorem sc_Avenue_str : FnScope ["self"] ["self"] (defScope s_Avenue_str) := ⟨rfl, rfl, rfl, by decide +kernel, rfl, by decide +kernel, by decide +kernel⟩
theorem p_Avenue_str (T : Tx K mg) : Prom P w K mg base 1 d_Avenue_str ["self"] (spStr K "Avenue") := by
  obtain ⟨fd, F⟩ := f_Avenue_str T
  refine ⟨fd, F, F.ok sc_Avenue_str (fun vs H Q E h => ?_) (fun cdv A outer s H vs Q E hr h => ?_), F.bindsN fun _ _ _ _ _ _ us hl => match us, hl with | [_], _ => rfl⟩
  · obtain ⟨x, v, rfl, _⟩ := h
    rfl
  · obtain ⟨x, v, rfl, hv, wf, hx, k⟩ := h
    refine ⟨_, PSs.nox (pss_one (ps_ret (pe_joined (PJ.cons pe_str (PJ.cons (pe_fmt (pe_fld (pv 0) rfl)) (PJ.cons pe_str (PJ.cons (pe_fmt (pe_fld (pv 0) rfl)) (PJ.cons pe_str (PJ.cons (pe_fmt (pe_fld (pv 0) rfl)) PJ.nil))))))))), ?_⟩
    cases v with
    | lane => exact absurd (show ("Lane" : Str) = "Avenue" from hv) (by decide +kernel)
    | road => exact absurd (show ("Road" : Str) = "Avenue" from hv) (by decide +kernel)
    | avenue t a b =>
    obtain ⟨dx, hx⟩ := hx
    obtain ⟨w0, w1, w2⟩ := wf
    have l0 := name8 w0
    have l1 := name8 w1
    have l2 := name8 w2


    have sl : 1000 ≤ sizeLine := by decide
    have z0 : Str.empty.length = 0 := rfl
    have z1 : (Str.ofString "avenue ").length ≤ 10 := by decide
    have z2 : (Str.ofString " ").length = 1 := by decide
    refine ⟨_, rfl, (by simp only [Str.length_append, numText] at *; omega), ?_⟩
    refine ⟨_, rfl, x, _, dx, _, _, rfl, hx, c_Avenue T, na_Avenue_name T, af_name _ _ _, .inl ⟨_, rfl, nameB_len w0, _, rfl, (by simp only [Str.length_append, numText] at *; omega), ?_⟩⟩
    refine ⟨_, rfl, (by simp only [Str.length_append, numText] at *; omega), ?_⟩
    refine ⟨_, rfl, x, _, dx, _, _, rfl, hx, c_Avenue T, na_Avenue_one T, af_one _ _ _, .inl ⟨_, rfl, nameB_len w1, _, rfl, (by simp only [Str.length_append, numText] at *; omega), ?_⟩⟩
    refine ⟨_, rfl, (by simp only [Str.length_append, numText] at *; omega), ?_⟩
    refine ⟨_, rfl, x, _, dx, _, _, rfl, hx, c_Avenue T, na_Avenue_other T, af_other _ _ _, .inl ⟨_, rfl, nameB_len w2, _, rfl, (by simp only [Str.length_append, numText] at *; omega), ?_⟩⟩
    exact k
theorem sc_Road_str : FnScope ["self"] ["self"] (defScope s_Road_str) := ⟨rfl, rfl, rfl, by decide +kernel, rfl, by decide +kernel, by decide +kernel⟩
theorem p_Road_str (T : Tx K mg) : Prom P w K mg base 1 d_Road_str ["self"] (spStr K "Road") := by
  obtain ⟨fd, F⟩ := f_Road_str T
  refine ⟨fd, F, F.ok sc_Road_str (fun vs H Q E h => ?_) (fun cdv A outer s H vs Q E hr h => ?_), F.bindsN fun _ _ _ _ _ _ us hl => match us, hl with | [_], _ => rfl⟩
  · obtain ⟨x, v, rfl, _⟩ := h
    rfl
  · obtain ⟨x, v, rfl, hv, wf, hx, k⟩ := h
    refine ⟨_, PSs.nox (pss_one (ps_ret (pe_joined (PJ.cons pe_str (PJ.cons (pe_fmt (pe_fld (pv 0) rfl)) (PJ.cons pe_str (PJ.cons (pe_fmt (pe_fld (pv 0) rfl)) (PJ.cons pe_str (PJ.cons (pe_fmt (pe_fld (pv 0) rfl)) (PJ.cons pe_str (PJ.cons (pe_fmt (pe_fld (pv 0) rfl)) (PJ.cons pe_str (PJ.cons (pe_fmt (pe_fld (pv 0) rfl)) PJ.nil))))))))))))), ?_⟩
    cases v with
    | lane => exact absurd (show ("Lane" : Str) = "Road" from hv) (by decide +kernel)
    | avenue => exact absurd (show ("Avenue" : Str) = "Road" from hv) (by decide +kernel)
    | road t a b i j =>
    obtain ⟨dx, hx⟩ := hx
    obtain ⟨w0, w1, w2, w3, w4⟩ := wf
    have l0 := name8 w0
    have l1 := name8 w1
    have l2 := name8 w2
    have l3 := (numText_len w3).1
    have l4 := (numText_len w4).1
    have sl : 1000 ≤ sizeLine := by decide
    have z0 : Str.empty.length = 0 := rfl
    have z1 : (Str.ofString "road ").length ≤ 10 := by decide
    have z2 : (Str.ofString " ").length = 1 := by decide
    refine ⟨_, rfl, (by simp only [Str.length_append, numText] at *; omega), ?_⟩
    refine ⟨_, rfl, x, _, dx, _, _, rfl, hx, c_Road T, na_Road_name T, rf_name _ _ _ _ _, .inl ⟨_, rfl, nameB_len w0, _, rfl, (by simp only [Str.length_append, numText] at *; omega), ?_⟩⟩
    refine ⟨_, rfl, (by simp only [Str.length_append, numText] at *; omega), ?_⟩
    refine ⟨_, rfl, x, _, dx, _, _, rfl, hx, c_Road T, na_Road_one T, rf_one _ _ _ _ _, .inl ⟨_, rfl, nameB_len w1, _, rfl, (by simp only [Str.length_append, numText] at *; omega), ?_⟩⟩
    refine ⟨_, rfl, (by simp only [Str.length_append, numText] at *; omega), ?_⟩
    refine ⟨_, rfl, x, _, dx, _, _, rfl, hx, c_Road T, na_Road_other T, rf_other _ _ _ _ _, .inl ⟨_, rfl, nameB_len w2, _, rfl, (by simp only [Str.length_append, numText] at *; omega), ?_⟩⟩
    refine ⟨_, rfl, (by simp only [Str.length_append, numText] at *; omega), ?_⟩
    refine ⟨_, rfl, x, _, dx, _, _, rfl, hx, c_Road T, na_Road_there T, rf_there _ _ _ _ _, .inr ⟨_, rfl, (numText_len w3).2, _, rfl, (by simp only [Str.length_append, numText] at *; omega), ?_⟩⟩
    refine ⟨_, rfl, (by simp only [Str.length_append, numText] at *; omega), ?_⟩
    refine ⟨_, rfl, x, _, dx, _, _, rfl, hx, c_Road T, na_Road_back T, rf_back _ _ _ _ _, .inr ⟨_, rfl, (numText_len w4).2, _, rfl, (by simp only [Str.length_append, numText] at *; omega), ?_⟩⟩
    exact k

def Sv.ends : Sv → Str × Str
  | .lane _ a b => if strLt a b then (a, b) else (b, a)
  | .avenue _ a b => (a, b)
  | .road _ a b _ _ => (a, b)
def spEnds (K : PySem.W.Frag) (c : Str) : Sp := fun vs H Q _ => ∃ (x : Addr) (v : Sv), vs = [.ref x] ∧ v.cls = c ∧ StAt K H x v ∧ ∀ t, H t = none → Q (.ref t) (upd H t (.tup [.str v.ends.1, .str v.ends.2]))
theorem sc_Lane_ends : FnScope ["self"] ["self"] (defScope s_Lane_ends) := ⟨rfl, rfl, rfl, by decide +kernel, rfl, by decide +kernel, by decide +kernel⟩
theorem p_Lane_ends (T : Tx K mg) : Prom P w K mg base 1 d_Lane_ends ["self"] (spEnds K "Lane") := by
  obtain ⟨fd, F⟩ := f_Lane_ends T
  refine ⟨fd, F, F.ok sc_Lane_ends (fun vs H Q E h => ?_) (fun cdv A outer s H vs Q E hr h => ?_), F.bindsN fun _ _ _ _ _ _ us hl => match us, hl with | [_], _ => rfl⟩
  · obtain ⟨x, v, rfl, _⟩ := h
    rfl
  · obtain ⟨x, v, rfl, hv, hx, k⟩ := h
    refine ⟨_, PSs.nox (pss_cons (ps_if (pt_cmpR op_lt_str (pe_fld (pv 0) rfl) (pe_fld (pv 0) rfl) (nomark _)) (pss_one (ps_ret (pe_tup (pa_cons (pe_fld (pv 0) rfl) (pa_cons (pe_fld (pv 0) rfl) pa_nil))))) pss_nil)
      (pss_one (ps_ret (pe_tup (pa_cons (pe_fld (pv 0) rfl) (pa_cons (pe_fld (pv 0) rfl) pa_nil)))))), ?_⟩
    cases v with
    | avenue => exact absurd (show ("Avenue" : Str) = "Lane" from hv) (by decide +kernel)
    | road => exact absurd (show ("Road" : Str) = "Lane" from hv) (by decide +kernel)
    | lane t a b =>
    obtain ⟨dx, hx⟩ := hx
    refine ⟨_, rfl, x, _, dx, _, _, rfl, hx, c_Lane T, na_Lane_start T, lf_start _ _ _, _, rfl, x, _, dx, _, _, rfl, hx, c_Lane T, na_Lane_goal T, lf_goal _ _ _, _, _, rfl, rfl, _, rfl, ?_⟩
    have e : (Sv.lane t a b).ends = if strLt a b then (a, b) else (b, a) := rfl
    rw [e] at k
    by_cases h : strLt a b
    · rw [if_pos h] at k
      have e : decide (a.cps.toList < b.cps.toList) = true := decide_eq_true h
      rw [e]
      exact iteT ⟨_, rfl, x, _, dx, _, _, rfl, hx, c_Lane T, na_Lane_start T, lf_start _ _ _, _, rfl, x, _, dx, _, _, rfl, hx, c_Lane T, na_Lane_goal T, lf_goal _ _ _, (by show 2 ≤ sizeLine; decide), k⟩
    · rw [if_neg h] at k
      have e : decide (a.cps.toList < b.cps.toList) = false := decide_eq_false h
      rw [e]
      exact iteF ⟨_, rfl, x, _, dx, _, _, rfl, hx, c_Lane T, na_Lane_goal T, lf_goal _ _ _, _, rfl, x, _, dx, _, _, rfl, hx, c_Lane T, na_Lane_start T, lf_start _ _ _, (by show 2 ≤ sizeLine; decide), k⟩
theorem sc_Avenue_ends : FnScope ["self"] ["self"] (defScope s_Avenue_ends) := ⟨rfl, rfl, rfl, by decide +kernel, rfl, by decide +kernel, by decide +kernel⟩
theorem p_Avenue_ends (T : Tx K mg) : Prom P w K mg base 1 d_Avenue_ends ["self"] (spEnds K "Avenue") := by
  obtain ⟨fd, F⟩ := f_Avenue_ends T
  refine ⟨fd, F, F.ok sc_Avenue_ends (fun vs H Q E h => ?_) (fun cdv A outer s H vs Q E hr h => ?_), F.bindsN fun _ _ _ _ _ _ us hl => match us, hl with | [_], _ => rfl⟩
  · obtain ⟨x, v, rfl, _⟩ := h
    rfl
  · obtain ⟨x, v, rfl, hv, hx, k⟩ := h
    refine ⟨_, PSs.nox (pss_one (ps_ret (pe_tup (pa_cons (pe_fld (pv 0) rfl) (pa_cons (pe_fld (pv 0) rfl) pa_nil))))), ?_⟩
    cases v with
    | lane => exact absurd (show ("Lane" : Str) = "Avenue" from hv) (by decide +kernel)
    | road => exact absurd (show ("Road" : Str) = "Avenue" from hv) (by decide +kernel)
    | avenue t a b =>
    obtain ⟨dx, hx⟩ := hx
    exact ⟨_, rfl, x, _, dx, _, _, rfl, hx, c_Avenue T, na_Avenue_one T, af_one _ _ _, _, rfl, x, _, dx, _, _, rfl, hx, c_Avenue T, na_Avenue_other T, af_other _ _ _, (by show 2 ≤ sizeLine; decide), k⟩
theorem sc_Road_ends : FnScope ["self"] ["self"] (defScope s_Road_ends) := ⟨rfl, rfl, rfl, by decide +kernel, rfl, by decide +kernel, by decide +kernel⟩
theorem p_Road_ends (T : Tx K mg) : Prom P w K mg base 1 d_Road_ends ["self"] (spEnds K "Road") := by
  obtain ⟨fd, F⟩ := f_Road_ends T
  refine ⟨fd, F, F.ok sc_Road_ends (fun vs H Q E h => ?_) (fun cdv A outer s H vs Q E hr h => ?_), F.bindsN fun _ _ _ _ _ _ us hl => match us, hl with | [_], _ => rfl⟩
  · obtain ⟨x, v, rfl, _⟩ := h
    rfl
  · obtain ⟨x, v, rfl, hv, hx, k⟩ := h
    refine ⟨_, PSs.nox (pss_one (ps_ret (pe_tup (pa_cons (pe_fld (pv 0) rfl) (pa_cons (pe_fld (pv 0) rfl) pa_nil))))), ?_⟩
    cases v with
    | lane => exact absurd (show ("Lane" : Str) = "Road" from hv) (by decide +kernel)
    | avenue => exact absurd (show ("Avenue" : Str) = "Road" from hv) (by decide +kernel)
    | road t a b i j =>
    obtain ⟨dx, hx⟩ := hx
    exact ⟨_, rfl, x, _, dx, _, _, rfl, hx, c_Road T, na_Road_one T, rf_one _ _ _ _ _, _, rfl, x, _, dx, _, _, rfl, hx, c_Road T, na_Road_other T, rf_other _ _ _ _ _, (by show 2 ≤ sizeLine; decide), k⟩
end
end K10
namespace K10
open PySem PySem.Spec PyProof.Rows L2 Hx Gx Nx
section
variable {X : Cx}
/-- street == anything -/
def rEqS (K : PySem.W.Frag) : R2 := fun x y H Q => ∃ (a : Addr) (v : Sv) (o : Option Sv), x = .ref a ∧ StAt K H a v ∧ YSt K H y o ∧ Q (.bl (decide (o = some v))) H
def rNeS (K : PySem.W.Frag) : R2 := fun x y H Q => ∃ (a : Addr) (v : Sv) (o : Option Sv), x = .ref a ∧ StAt K H a v ∧ YSt K H y o ∧ Q (.bl (!decide (o = some v))) H
theorem right_of (T : Tx X.K X.mg) {H : Hp} {y : V} {o : Option Sv} (h : YSt X.K H y o) : ∃ t, TyX X.K H y t ∧ PySem.W.notFirst X.K (He.ga X.K "Lane") t = true ∧ PySem.W.notFirst X.K (He.ga X.K "Avenue") t = true ∧ PySem.W.notFirst X.K (He.ga X.K "Road") t = true := by
  cases o with
  | none =>
    obtain ⟨t, h1, h2⟩ := h
    exact ⟨_, h1, nfs_Lane T h2, nfs_Avenue T h2, nfs_Road T h2⟩
  | some v =>
    obtain ⟨a, rfl, h⟩ := h
    refine ⟨_, tyx_st T h, ?_⟩
    cases v with
    | lane => exact ⟨nf_Lane_Lane T, nf_Avenue_Lane T, nf_Road_Lane T⟩
    | avenue => exact ⟨nf_Lane_Avenue T, nf_Avenue_Avenue T, nf_Road_Avenue T⟩
    | road => exact ⟨nf_Lane_Road T, nf_Avenue_Road T, nf_Road_Road T⟩
theorem op_eqS (T : Tx X.K X.mg) (hr : Room 1 X.A) : OpR X (compareOp .Eq) (rEqS X.K) := by
  rintro pins s σ H x y v u Q I rx ry ⟨a, sv, o, rfl, hx, hy, q⟩
  obtain ⟨t, ht, n1, n2, n3⟩ := right_of T hy
  cases sv with
  | lane =>
    obtain ⟨fd, F, G, B⟩ := p_Lane_eq (P := X.prog) (w := X.w) (base := X.base) T
    have hx' := hx
    obtain ⟨dx, hx⟩ := hx
    exact op_eqO (X := X) (C := He.ga X.K "Lane") ⟨(m_Lane_eq T).at_, (ci_Lane T).ne, (m_Lane_eq T).fn, (ci_Lane T).cm⟩ G B hr pass0 pins s σ H _ y v u Q I rx ry ⟨a, dx, _, t, rfl, hx, ht, n1, a, y, _, o, rfl, rfl, hx', hy, q⟩
  | avenue =>
    obtain ⟨fd, F, G, B⟩ := p_Avenue_eq (P := X.prog) (w := X.w) (base := X.base) T
    have hx' := hx
    obtain ⟨dx, hx⟩ := hx
    exact op_eqO (X := X) (C := He.ga X.K "Avenue") ⟨(m_Avenue_eq T).at_, (ci_Avenue T).ne, (m_Avenue_eq T).fn, (ci_Avenue T).cm⟩ G B hr pass0 pins s σ H _ y v u Q I rx ry ⟨a, dx, _, t, rfl, hx, ht, n2, a, y, _, o, rfl, rfl, hx', hy, q⟩
  | road =>
    obtain ⟨fd, F, G, B⟩ := p_Road_eq (P := X.prog) (w := X.w) (base := X.base) T
    have hx' := hx
    obtain ⟨dx, hx⟩ := hx
    exact op_eqO (X := X) (C := He.ga X.K "Road") ⟨(m_Road_eq T).at_, (ci_Road T).ne, (m_Road_eq T).fn, (ci_Road T).cm⟩ G B hr pass0 pins s σ H _ y v u Q I rx ry ⟨a, dx, _, t, rfl, hx, ht, n3, a, y, _, o, rfl, rfl, hx', hy, q⟩
theorem op_neS (T : Tx X.K X.mg) (hr : Room 2 X.A) : OpR X (compareOp .NotEq) (rNeS X.K) := by
  rintro pins s σ H x y v u Q I rx ry ⟨a, sv, o, rfl, hx, hy, q⟩
  obtain ⟨t, ht, n1, n2, n3⟩ := right_of T hy
  cases sv with
  | lane =>
    obtain ⟨fd, F, G, B⟩ := p_Lane_eq (P := X.prog) (w := X.w) (base := X.base) T
    have hx' := hx
    obtain ⟨dx, hx⟩ := hx
    exact op_neO (X := X) (C := He.ga X.K "Lane") ⟨(m_Lane_eq T).at_, (ci_Lane T).ne, (m_Lane_eq T).fn, (ci_Lane T).cm⟩ G B hr pass0 pins s σ H _ y v u Q I rx ry ⟨a, dx, _, t, rfl, hx, ht, n1, a, y, _, o, rfl, rfl, hx', hy, _, rfl, q⟩
  | avenue =>
    obtain ⟨fd, F, G, B⟩ := p_Avenue_eq (P := X.prog) (w := X.w) (base := X.base) T
    have hx' := hx
    obtain ⟨dx, hx⟩ := hx
    exact op_neO (X := X) (C := He.ga X.K "Avenue") ⟨(m_Avenue_eq T).at_, (ci_Avenue T).ne, (m_Avenue_eq T).fn, (ci_Avenue T).cm⟩ G B hr pass0 pins s σ H _ y v u Q I rx ry ⟨a, dx, _, t, rfl, hx, ht, n2, a, y, _, o, rfl, rfl, hx', hy, _, rfl, q⟩
  | road =>
    obtain ⟨fd, F, G, B⟩ := p_Road_eq (P := X.prog) (w := X.w) (base := X.base) T
    have hx' := hx
    obtain ⟨dx, hx⟩ := hx
    exact op_neO (X := X) (C := He.ga X.K "Road") ⟨(m_Road_eq T).at_, (ci_Road T).ne, (m_Road_eq T).fn, (ci_Road T).cm⟩ G B hr pass0 pins s σ H _ y v u Q I rx ry ⟨a, dx, _, t, rfl, hx, ht, n3, a, y, _, o, rfl, rfl, hx', hy, _, rfl, q⟩
/-- str(street) -/
def rStrS (K : PySem.W.Frag) : List V → Hp → VK → Prop := fun xs H Q => ∃ (a : Addr) (v : Sv), xs = [.ref a] ∧ StAt K H a v ∧ WfSv v ∧ Q (.str v.text) H
theorem call_strS (T : Tx X.K X.mg) (hr : Room 3 X.A) : CallR X (.type "str") (rStrS X.K) := by
  rintro pins s σ H xs us Q I r ⟨a, sv, rfl, hx, wf, q⟩
  cases sv with
  | lane =>
    obtain ⟨fd, F, G, B⟩ := p_Lane_str (P := X.prog) (w := X.w) (base := X.base) T
    have hx' := hx
    obtain ⟨dx, hx⟩ := hx
    exact call_strO (X := X) (C := He.ga X.K "Lane") (m_Lane_str T).at_ (m_Lane_str T).fn G B hr pass0 pins s σ H _ us Q I r ⟨a, dx, _, rfl, hx, a, _, rfl, rfl, wf, hx', _, rfl, q⟩
  | avenue =>
    obtain ⟨fd, F, G, B⟩ := p_Avenue_str (P := X.prog) (w := X.w) (base := X.base) T
    have hx' := hx
    obtain ⟨dx, hx⟩ := hx
    exact call_strO (X := X) (C := He.ga X.K "Avenue") (m_Avenue_str T).at_ (m_Avenue_str T).fn G B hr pass0 pins s σ H _ us Q I r ⟨a, dx, _, rfl, hx, a, _, rfl, rfl, wf, hx', _, rfl, q⟩
  | road =>
    obtain ⟨fd, F, G, B⟩ := p_Road_str (P := X.prog) (w := X.w) (base := X.base) T
    have hx' := hx
    obtain ⟨dx, hx⟩ := hx
    exact call_strO (X := X) (C := He.ga X.K "Road") (m_Road_str T).at_ (m_Road_str T).fn G B hr pass0 pins s σ H _ us Q I r ⟨a, dx, _, rfl, hx, a, _, rfl, rfl, wf, hx', _, rfl, q⟩
/-- street.ends, a property -/
def tEndsS (K : PySem.W.Frag) (ta : TE) : TE := fun σ H Q => ta σ H fun x H1 => ∃ (a : Addr) (v : Sv), x = .ref a ∧ StAt K H1 a v ∧ ∀ t, H1 t = none → Q (.ref t) (upd H1 t (.tup [.str v.ends.1, .str v.ends.2]))
theorem pe_endsS {e : Expr} {pos : Pos} {ta : TE} (T : Tx X.K X.mg) (hr : Room 2 X.A) (he : PE X e ta) (hab : attributeBase e "ends" X.env (eval e X.env) = eval e X.env := by rfl) : PE X (.Attribute e "ends" pos) (tEndsS X.K ta) := by
  refine ⟨fun pins s σ H Q I h => ?_⟩
  refine attr_of hab (thn (he.run pins s σ H _ I h) fun u s1 ⟨x, H1, I1, rx, a, v, ex, hx, q⟩ => ?_)
  subst ex
  obtain rfl : u = Value.ref a := rx
  cases v with
  | lane =>
    obtain ⟨fd, F, G, B⟩ := p_Lane_ends (P := X.prog) (w := X.w) (base := X.base) T
    have hx' := hx
    obtain ⟨dx, hx⟩ := hx
    exact getprop_ok I1 hx (c_Lane T) (pr_Lane_ends T) G hr B .nil pass0 ⟨a, _, rfl, rfl, hx', q⟩
  | avenue =>
    obtain ⟨fd, F, G, B⟩ := p_Avenue_ends (P := X.prog) (w := X.w) (base := X.base) T
    have hx' := hx
    obtain ⟨dx, hx⟩ := hx
    exact getprop_ok I1 hx (c_Avenue T) (pr_Avenue_ends T) G hr B .nil pass0 ⟨a, _, rfl, rfl, hx', q⟩
  | road =>
    obtain ⟨fd, F, G, B⟩ := p_Road_ends (P := X.prog) (w := X.w) (base := X.base) T
    have hx' := hx
    obtain ⟨dx, hx⟩ := hx
    exact getprop_ok I1 hx (c_Road T) (pr_Road_ends T) G hr B .nil pass0 ⟨a, _, rfl, rfl, hx', q⟩
/-- street.name -/
def tNameS (K : PySem.W.Frag) (ta : TE) : TE := fun σ H Q => ta σ H fun x H1 => ∃ (a : Addr) (v : Sv) (t : Str), x = .ref a ∧ StAt K H1 a v ∧ (v.fs.lookup ("name" : Str) = some (V.str t)) ∧ Q (.str t) H1
theorem pe_nameS {e : Expr} {pos : Pos} {ta : TE} (T : Tx X.K X.mg) (he : PE X e ta) (hab : attributeBase e "name" X.env (eval e X.env) = eval e X.env := by rfl) : PE X (.Attribute e "name" pos) (tNameS X.K ta) := by
  refine ⟨fun pins s σ H Q I h => ?_⟩
  refine attr_of hab (thn (he.run pins s σ H _ I h) fun u s1 ⟨x, H1, I1, rx, a, v, t, ex, hx, hl, q⟩ => ?_)
  subst ex
  obtain rfl : u = Value.ref a := rx
  obtain ⟨dx, hx⟩ := hx
  cases v with
  | lane => exact getattr_ok I1 hx (c_Lane T) (na_Lane_name T) hl fun u' s2 I2 ru => ⟨_, H1, I2, ru, q⟩
  | avenue => exact getattr_ok I1 hx (c_Avenue T) (na_Avenue_name T) hl fun u' s2 I2 ru => ⟨_, H1, I2, ru, q⟩
  | road => exact getattr_ok I1 hx (c_Road T) (na_Road_name T) hl fun u' s2 I2 ru => ⟨_, H1, I2, ru, q⟩
theorem op_eqT {K : PySem.W.Frag} {mg : Str → Option Value} (T : Tx K mg) (e1 : X.K = K) (e2 : X.mg = mg) (hr : Room 1 X.A) : OpR X (compareOp .Eq) (rEqS K) := by
  subst e1
  subst e2
  exact op_eqS T hr
theorem op_neT {K : PySem.W.Frag} {mg : Str → Option Value} (T : Tx K mg) (e1 : X.K = K) (e2 : X.mg = mg) (hr : Room 2 X.A) : OpR X (compareOp .NotEq) (rNeS K) := by
  subst e1
  subst e2
  exact op_neS T hr
end
end K10
namespace K10
open PySem PySem.Spec PyProof.Rows L2 Hx Gx Nx
section
variable {X : Cx} {k : Nat} {m : Str} {ps : List Str} {p pos apos : Pos} {e o : Expr} {es : List Expr} {ta : TE} {t : TA}
/-- the three classes' defs of a method -/
structure Three (X : Cx) (k : Nat) (m : Str) (ps : List Str) (sp : Str → Sp) : Prop where
  cl : ∀ v : Sv, Cls X.K (He.ga X.K v.cls)
  ex : ∀ v : Sv, ∃ (f : Addr) (fd : FuncData), Meth X.K (He.ga X.K v.cls) m f ∧ FnOk X.prog X.w X.K X.mg X.base CX0 k f fd ps (sp v.cls) ∧ Binds X.K fd ps []
  no : ∀ v : Sv, v.fs.lookup m = none
/-- street.m(..) -/
def tMethS (K : PySem.W.Frag) (sp : Str → Sp) (ta : TE) (t : TA) : TE := fun σ H Q => ta σ H fun x H1 => ∃ (a : Addr) (v : Sv), x = .ref a ∧ StAt K H1 a v ∧ t σ H1 fun vs H2 => sp v.cls (.ref a :: vs) H2 Q E0
theorem pe_methS {pl : Sem Bool} {sp : Str → Sp} (W : Three X k m ps sp) (he : PE X o ta) (hr : Room k X.A) (ha : PA X (e :: es) t)
    (hst : starEach (e :: es) X.env = (false, eval e X.env) :: starEach es X.env := by rfl)
    (hpl : (backTo pos (starEach es X.env)).any (·.1) = false := by rfl)
    (ht : eval (.Call (.Attribute o m apos) (e :: es) [] pos) X.env = (do
      let ov ← eval o X.env
      standAt apos.atName
      let (f, first) ← holding [ov] (getMethod ov m pl)
      callWith pos f first (backTo pos (starEach (e :: es) X.env)) (backToKw pos (keywordEach [] X.env))) := by rfl) :
    PE X (.Call (.Attribute o m apos) (e :: es) [] pos) (tMethS X.K sp ta t) := by
  constructor
  intro pins s σ H Q I h
  refine PySem.W.methodCall_KW (pl := pl) (thn (he.run pins s σ H _ I h) ?_) ht
  rintro u s1 ⟨x, H1, I1, rx, a, v, rfl, hx, q⟩
  obtain rfl : u = Value.ref a := rx
  obtain ⟨f, fd, hm, F, hb⟩ := W.ex v
  have no := W.no v
  obtain ⟨dx, hx⟩ := hx
  refine getmeth_ok I1 hx (W.cl v) hm no ?_
  refine PySem.W.callWith_K (first := [.ref a]) (h₀ := X.base) I.ok.mod.kin hm.kp
    (thn (ha.run pos pins s1 σ H1 _ I1 q) ?_) hst hpl
  rintro us s2 ⟨vs, H2, I2, r, q2⟩
  exact ⟨I2.kIn, run_fn (us := .ref a :: us) (vs := .ref a :: vs) F hr hb .nil pass0 I2 (.cons (show RelV (.ref a) (.ref a) from rfl) r) (by simpa using q2)⟩
theorem pe_methS0 {pl : Sem Bool} {sp : Str → Sp} (W : Three X k m ps sp) (he : PE X o ta) (hr : Room k X.A)
    (ht : eval (.Call (.Attribute o m apos) [] [] pos) X.env = (do
      let ov ← eval o X.env
      standAt apos.atName
      let (f, first) ← holding [ov] (getMethod ov m pl)
      callWith pos f first (backTo pos (starEach [] X.env)) (backToKw pos (keywordEach [] X.env))) := by rfl) :
    PE X (.Call (.Attribute o m apos) [] [] pos) (tMethS X.K sp ta tNil) := by
  constructor
  intro pins s σ H Q I h
  refine PySem.W.methodCall_KW (pl := pl) (thn (he.run pins s σ H _ I h) ?_) ht
  rintro u s1 ⟨x, H1, I1, rx, a, v, rfl, hx, q⟩
  obtain rfl : u = Value.ref a := rx
  obtain ⟨f, fd, hm, F, hb⟩ := W.ex v
  have no := W.no v
  obtain ⟨dx, hx⟩ := hx
  refine getmeth_ok I1 hx (W.cl v) hm no ?_
  exact PySem.W.callWith_K0 (first := [.ref a]) I1.kIn hm.kp (run_fn (us := [.ref a]) (vs := [.ref a]) F hr hb .nil pass0 I1 (.cons (show RelV (.ref a) (.ref a) from rfl) .nil) (show sp v.cls ([.ref a] ++ []) H1 Q E0 from q))
/-- ~street -/
def tInvS (K : PySem.W.Frag) (sp : Str → Sp) (ta : TE) : TE := fun σ H Q => ta σ H fun x H1 => ∃ (a : Addr) (v : Sv), x = .ref a ∧ StAt K H1 a v ∧ sp v.cls [.ref a] H1 Q E0
def rInvS (K : PySem.W.Frag) (sp : Str → Sp) : V → Hp → VK → Prop := fun x H Q => ∃ (a : Addr) (v : Sv), x = .ref a ∧ StAt K H a v ∧ sp v.cls [.ref a] H Q E0
theorem un_invS {sp : Str → Sp} (W : Three X k "__invert__" ps sp) (hr : Room k X.A) : UnR X (unaryOp .Invert) (rInvS X.K sp) := by
  rintro pins s σ H x u Q I rx ⟨a, v, rfl, hx, q⟩
  cases (show u = Value.ref a from rx)
  obtain ⟨f, fd, hm, F, hb⟩ := W.ex v
  obtain ⟨dx, hx⟩ := hx
  obtain ⟨mA, J, _⟩ := ins_get I.hok hx
  obtain ⟨od, J, _⟩ := J.look
  obtain ⟨mm, hF⟩ := I.fr
  refine PySem.W.ksp_inv hF I.ok.mod.kin J hm.at_ hm.fn ?_
  exact run_fn (us := [.ref a]) (vs := [.ref a]) F hr hb .nil pass0 I (.cons (show RelV (.ref a) (.ref a) from rfl) .nil) (by simpa using q)
end
end K10
namespace K10
open PySem PySem.Spec PyProof.Rows L2 Hx Gx Nx
section
variable {P : Program} {w : World} {K : PySem.W.Frag} {mg : Str → Option Value} {base : Heap}

theorem br_Road {fd : FuncData} (F : Fd K d_Road_init fd) : Binds K fd ["self", "name", "one", "other", "there", "back"] [] := by
  obtain ⟨ds, hv, hb⟩ := FunD.binds1 (ps := ["self", "name", "one", "other", "there", "back"]) F 6 2 (by intro z; cases z) rfl (fun T kV doc pm an cdv ct us its hl h2 => match us, its, hl, h2 with | [_, _, _, _, _, _], [_, _], _, _ => ⟨_, rfl, rfl⟩)
  cases (show Vals [] ds from hv)
  exact hb
theorem cls_mkAv (t a b : Str) : (mkAv t a b).cls = "Avenue" := by unfold mkAv; split <;> rfl
theorem cls_mkRd (t a b : Str) (i j : Int) : (mkRd t a b i j).cls = "Road" := by unfold mkRd; split <;> rfl
theorem new_same {H : Hp} {a : Addr} (h : H a = none) (o : HO) : Same H (upd H a o) := fun b u e => by rw [upd_ne (ne_of_none e h)]; exact e
theorem made_same {H H1 : Hp} {x dx : Addr} {o u : HO} (n1 : H x = none) (n2 : H dx = none) (b : But x (upd (upd H dx u) x o) H1) : Same H H1 := fun c z e => by
  refine b c z (ne_of_none e n1) ?_
  rw [upd_ne (ne_of_none e n1), upd_ne (ne_of_none e n2)]
  exact e
theorem StAt.same {H H' : Hp} {x : Addr} {v : Sv} (h : StAt K H x v) (s : Same H H') : StAt K H' x v := by
  obtain ⟨dx, h⟩ := h
  exact ⟨dx, s _ _ h⟩
/-- a street that can be -/
def Good : Sv → Prop
  | .lane t a b => okEnds t a b = true
  | .avenue t a b => okEnds t a b = true ∧ strLt a b
  | .road t a b i j => okEnds t a b = true ∧ strLt a b ∧ priceOk i ∧ priceOk j
def Sv.isEnd (v : Sv) (g : Str) : Prop := g = v.ends.1 ∨ g = v.ends.2
def Sv.far (v : Sv) (g : Str) : Str := if g = v.ends.1 then v.ends.2 else v.ends.1
def Sv.leads : Sv → Str → Bool
  | .lane _ _ b, g => decide (g = b)
  | .avenue .., _ => true
  | .road .., _ => false
def Sv.inv : Sv → Sv
  | .lane t a b => .lane t b a
  | .avenue t a b => .avenue t a b
  | .road t a b i j => .road t a b j i
def Sv.ren (n : Str) : Sv → Sv
  | .lane _ a b => .lane n a b
  | .avenue _ a b => .avenue n a b
  | .road _ a b i j => .road n a b i j
def Sv.opened : Sv → Sv
  | .lane t a b => mkAv t a b
  | .avenue t a b => .avenue t a b
  | .road t a b _ _ => .avenue t a b
def spChE (K : PySem.W.Frag) : Sp := fun vs H Q _ => ∃ (t : Addr) (lo hi g : Str), vs = [.ref t, .str g] ∧ SqT K H t [.str lo, .str hi] ∧ (g = lo ∨ g = hi) ∧ Q .non H
theorem sc_check_end : FnScope ["ends", "corner"] ["ends", "corner"] (defScope s_check_end) := ⟨rfl, rfl, rfl, by decide +kernel, rfl, by decide +kernel, by decide +kernel⟩
theorem p_check_end (T : Tx K mg) : Prom P w K mg base 1 d_check_end ["ends", "corner"] (spChE K) := by
  obtain ⟨fd, F⟩ := f_check_end T
  refine ⟨fd, F, F.ok sc_check_end (fun vs H Q E h => ?_) (fun cdv A outer s H vs Q E hr h => ?_), F.bindsN fun _ _ _ _ _ _ us hl => match us, hl with | [_, _], _ => rfl⟩
  · obtain ⟨t, lo, hi, g, rfl, _⟩ := h
    rfl
  · obtain ⟨t, lo, hi, g, rfl, ht, hg, k⟩ := h
    refine ⟨_, PSs.nox (pss_one (ps_if (pt_cmpR op_notIn_seq (pv 1) (pv 0) rfl) (pss_one ps_never) pss_nil)), ?_⟩
    refine ⟨_, rfl, _, rfl, t, _, rfl, .inr ht, rfl, rfl, _, rfl, ?_⟩
    have e : inV (V.str g) [V.str lo, V.str hi] = true := by
      rcases hg with rfl | rfl
      · simp [inV, eqV]
      · simp [inV, eqV]
    rw [e]
    exact iteF k
def spFarE (K : PySem.W.Frag) : Sp := fun vs H Q _ => ∃ (t : Addr) (lo hi g : Str), vs = [.ref t, .str g] ∧ SqT K H t [.str lo, .str hi] ∧ (g = lo ∨ g = hi) ∧ Q (.str (if g = lo then hi else lo)) H
theorem sc_far_end : FnScope ["ends", "corner", "one", "other"] ["ends", "corner"] (defScope s_far_end) := ⟨rfl, rfl, rfl, by decide +kernel, rfl, by decide +kernel, by decide +kernel⟩
theorem p_far_end (T : Tx K mg) : Prom P w K mg base 2 d_far_end ["ends", "corner"] (spFarE K) := by
  obtain ⟨fd, F⟩ := f_far_end T
  obtain ⟨fdC, FC, GC, BC⟩ := p_check_end (P := P) (w := w) (base := base) T
  refine ⟨fd, F, F.ok sc_far_end (fun vs H Q E h => ?_) (fun cdv A outer s H vs Q E hr h => ?_), F.bindsN fun _ _ _ _ _ _ us hl => match us, hl with | [_, _], _ => rfl⟩
  · obtain ⟨t, lo, hi, g, rfl, _⟩ := h
    rfl
  · obtain ⟨t, lo, hi, g, rfl, ht, hg, k⟩ := h
    refine ⟨_, PSs.nox (pss_cons (ps_expr (pe_call GC (hr.mono (by decide)) rfl (g_check_end T) FC.kp BC .nil pass0 (pa_cons (pv 0) (pa_cons (pv 1) pa_nil))))
      (pss_cons (ps_asg (pv 0) (pg_tup (by rfl) (pgs_cons (pg_name (i := 2) sc_far_end.nd rfl (Or.inl rfl)) (pgs_cons (pg_name (i := 3) sc_far_end.nd rfl (Or.inl rfl)) pgs_nil))))
      (pss_one (ps_ret (pe_ifExp (pt_cmpR op_eq (pv 1) (pv 2) (nomark _)) (pv 3) (pv 2)))))), ?_⟩
    refine ⟨_, rfl, _, rfl, t, lo, hi, g, rfl, ht, hg, ?_⟩
    refine ⟨_, rfl, t, _, rfl, ht, rfl, _, _, rfl, _, _, rfl, rfl, ?_⟩
    refine ⟨_, rfl, _, rfl, rfl, _, rfl, ?_⟩
    by_cases h : g = lo
    · rw [decide_eq_true (show V.str g = V.str lo by rw [h])]
      rw [if_pos h] at k
      exact iteT ⟨_, rfl, k⟩
    · rw [decide_eq_false (show ¬ V.str g = V.str lo from fun z => h (V.str.inj z))]
      rw [if_neg h] at k
      exact iteF ⟨_, rfl, k⟩
def spFar (K : PySem.W.Frag) (c : Str) : Sp := fun vs H Q _ => ∃ (x : Addr) (v : Sv) (g : Str), vs = [.ref x, .str g] ∧ v.cls = c ∧ StAt K H x v ∧ v.isEnd g ∧ ∀ H', Same H H' → Q (.str (v.far g)) H'
def spLeads (K : PySem.W.Frag) (c : Str) : Sp := fun vs H Q _ => ∃ (x : Addr) (v : Sv) (g : Str), vs = [.ref x, .str g] ∧ v.cls = c ∧ StAt K H x v ∧ v.isEnd g ∧ ∀ H', Same H H' → Q (.bl (v.leads g)) H'
def spInv (K : PySem.W.Frag) (c : Str) : Sp := fun vs H Q _ => ∃ (x : Addr) (v : Sv), vs = [.ref x] ∧ v.cls = c ∧ StAt K H x v ∧ Good v ∧ ∀ (H' : Hp) (y : Addr), Same H H' → StAt K H' y v.inv → Q (.ref y) H'
def spRen (K : PySem.W.Frag) (c : Str) : Sp := fun vs H Q _ => ∃ (x : Addr) (v : Sv) (n : Str), vs = [.ref x, .str n] ∧ v.cls = c ∧ StAt K H x v ∧ Good v ∧ nameB n = true ∧ ∀ (H' : Hp) (y : Addr), Same H H' → StAt K H' y (v.ren n) → Q (.ref y) H'
def spOpen (K : PySem.W.Frag) (c : Str) : Sp := fun vs H Q _ => ∃ (x : Addr) (v : Sv), vs = [.ref x] ∧ v.cls = c ∧ StAt K H x v ∧ Good v ∧ ∀ (H' : Hp) (y : Addr), Same H H' → StAt K H' y v.opened → Q (.ref y) H'
theorem okEnds_mk {t a b : Str} (h1 : nameB t = true) (h2 : nameB a = true) (h3 : nameB b = true) (h4 : a ≠ b) : okEnds t a b = true := by
  unfold okEnds
  rw [h1, h2, h3, decide_eq_false h4]
  rfl
theorem okEnds_swap {t a b : Str} (h : okEnds t a b = true) : okEnds t b a = true := by
  obtain ⟨h1, h2, h3, h4⟩ := okEnds_iff h
  exact okEnds_mk h1 h3 h2 h4.symm
theorem okEnds_ren {t a b n : Str} (h : okEnds t a b = true) (hn : nameB n = true) : okEnds n a b = true := by
  obtain ⟨h1, h2, h3, h4⟩ := okEnds_iff h
  exact okEnds_mk hn h2 h3 h4
theorem mkAv_lt {t a b : Str} (h : strLt a b) : mkAv t a b = .avenue t a b := by unfold mkAv; rw [if_pos h]
theorem mkRd_lt {t a b : Str} {i j : Int} (h : strLt a b) : mkRd t a b i j = .road t a b i j := by unfold mkRd; rw [if_pos h]
theorem sc_Lane_far : FnScope ["self", "corner"] ["self", "corner"] (defScope s_Lane_far) := ⟨rfl, rfl, rfl, by decide +kernel, rfl, by decide +kernel, by decide +kernel⟩
theorem p_Lane_far (T : Tx K mg) : Prom P w K mg base 3 d_Lane_far ["self", "corner"] (spFar K "Lane") := by
  obtain ⟨fd, F⟩ := f_Lane_far T
  obtain ⟨fdF, FF, GF, BF⟩ := p_far_end (P := P) (w := w) (base := base) T
  refine ⟨fd, F, F.ok sc_Lane_far (fun vs H Q E h => ?_) (fun cdv A outer s H vs Q E hr h => ?_), F.bindsN fun _ _ _ _ _ _ us hl => match us, hl with | [_, _], _ => rfl⟩
  · obtain ⟨x, v, g, rfl, _⟩ := h
    rfl
  · obtain ⟨x, v, g, rfl, hv, hx, hg, k⟩ := h
    refine ⟨_, PSs.nox (pss_one (ps_ret (pe_call GF (hr.mono (by decide)) rfl (g_far_end T) FF.kp BF .nil pass0 (pa_cons (pe_endsS T (hr.mono (by decide)) (pv 0)) (pa_cons (pv 1) pa_nil))))), ?_⟩
    cases v with
    | avenue => exact absurd (show ("Avenue" : Str) = "Lane" from hv) (by decide +kernel)
    | road => exact absurd (show ("Road" : Str) = "Lane" from hv) (by decide +kernel)
    | lane t a b =>
    have hx' := hx
    refine ⟨_, rfl, x, _, rfl, hx', fun u hu => ⟨_, rfl, u, _, _, g, rfl, SqT.of upd_same, hg, k _ (new_same hu _)⟩⟩
theorem sc_Lane_leads : FnScope ["self", "goal"] ["self", "goal"] (defScope s_Lane_leads) := ⟨rfl, rfl, rfl, by decide +kernel, rfl, by decide +kernel, by decide +kernel⟩
theorem p_Lane_leads (T : Tx K mg) : Prom P w K mg base 3 d_Lane_leads ["self", "goal"] (spLeads K "Lane") := by
  obtain ⟨fd, F⟩ := f_Lane_leads T
  obtain ⟨fdC, FC, GC, BC⟩ := p_check_end (P := P) (w := w) (base := base) T
  refine ⟨fd, F, F.ok sc_Lane_leads (fun vs H Q E h => ?_) (fun cdv A outer s H vs Q E hr h => ?_), F.bindsN fun _ _ _ _ _ _ us hl => match us, hl with | [_, _], _ => rfl⟩
  · obtain ⟨x, v, g, rfl, _⟩ := h
    rfl
  · obtain ⟨x, v, g, rfl, hv, hx, hg, k⟩ := h
    refine ⟨_, PSs.nox (pss_cons (ps_expr (pe_call GC (hr.mono (by decide)) rfl (g_check_end T) FC.kp BC .nil pass0 (pa_cons (pe_endsS T (hr.mono (by decide)) (pv 0)) (pa_cons (pv 1) pa_nil))))
      (pss_one (ps_ret (pe_cmpR op_eq (pv 1) (pe_fld (pv 0) rfl) (nomark _))))), ?_⟩
    cases v with
    | avenue => exact absurd (show ("Avenue" : Str) = "Lane" from hv) (by decide +kernel)
    | road => exact absurd (show ("Road" : Str) = "Lane" from hv) (by decide +kernel)
    | lane t a b =>
    have hx' := hx
    refine ⟨_, rfl, x, _, rfl, hx', fun u hu => ⟨_, rfl, u, _, _, g, rfl, SqT.of upd_same, hg, ?_⟩⟩
    obtain ⟨dx, hx⟩ := hx
    have hx2 := new_same hu (.tup [.str (Sv.lane t a b).ends.1, .str (Sv.lane t a b).ends.2]) _ _ hx
    refine ⟨_, rfl, _, rfl, x, _, dx, _, _, rfl, hx2, c_Lane T, na_Lane_goal T, lf_goal _ _ _, rfl, ?_⟩
    have e : decide (V.str g = V.str b) = decide (g = b) := by simp
    rw [e]
    exact k _ (new_same hu _)
theorem sc_Avenue_far : FnScope ["self", "corner"] ["self", "corner"] (defScope s_Avenue_far) := ⟨rfl, rfl, rfl, by decide +kernel, rfl, by decide +kernel, by decide +kernel⟩
theorem p_Avenue_far (T : Tx K mg) : Prom P w K mg base 3 d_Avenue_far ["self", "corner"] (spFar K "Avenue") := by
  obtain ⟨fd, F⟩ := f_Avenue_far T
  obtain ⟨fdF, FF, GF, BF⟩ := p_far_end (P := P) (w := w) (base := base) T
  refine ⟨fd, F, F.ok sc_Avenue_far (fun vs H Q E h => ?_) (fun cdv A outer s H vs Q E hr h => ?_), F.bindsN fun _ _ _ _ _ _ us hl => match us, hl with | [_, _], _ => rfl⟩
  · obtain ⟨x, v, g, rfl, _⟩ := h
    rfl
  · obtain ⟨x, v, g, rfl, hv, hx, hg, k⟩ := h
    refine ⟨_, PSs.nox (pss_one (ps_ret (pe_call GF (hr.mono (by decide)) rfl (g_far_end T) FF.kp BF .nil pass0 (pa_cons (pe_endsS T (hr.mono (by decide)) (pv 0)) (pa_cons (pv 1) pa_nil))))), ?_⟩
    cases v with
    | lane => exact absurd (show ("Lane" : Str) = "Avenue" from hv) (by decide +kernel)
    | road => exact absurd (show ("Road" : Str) = "Avenue" from hv) (by decide +kernel)
    | avenue t a b =>
    have hx' := hx
    refine ⟨_, rfl, x, _, rfl, hx', fun u hu => ⟨_, rfl, u, _, _, g, rfl, SqT.of upd_same, hg, k _ (new_same hu _)⟩⟩
theorem sc_Avenue_leads : FnScope ["self", "goal"] ["self", "goal"] (defScope s_Avenue_leads) := ⟨rfl, rfl, rfl, by decide +kernel, rfl, by decide +kernel, by decide +kernel⟩
theorem p_Avenue_leads (T : Tx K mg) : Prom P w K mg base 3 d_Avenue_leads ["self", "goal"] (spLeads K "Avenue") := by
  obtain ⟨fd, F⟩ := f_Avenue_leads T
  obtain ⟨fdC, FC, GC, BC⟩ := p_check_end (P := P) (w := w) (base := base) T
  refine ⟨fd, F, F.ok sc_Avenue_leads (fun vs H Q E h => ?_) (fun cdv A outer s H vs Q E hr h => ?_), F.bindsN fun _ _ _ _ _ _ us hl => match us, hl with | [_, _], _ => rfl⟩
  · obtain ⟨x, v, g, rfl, _⟩ := h
    rfl
  · obtain ⟨x, v, g, rfl, hv, hx, hg, k⟩ := h
    refine ⟨_, PSs.nox (pss_cons (ps_expr (pe_call GC (hr.mono (by decide)) rfl (g_check_end T) FC.kp BC .nil pass0 (pa_cons (pe_endsS T (hr.mono (by decide)) (pv 0)) (pa_cons (pv 1) pa_nil))))
      (pss_one (ps_ret pe_bl))), ?_⟩
    cases v with
    | lane => exact absurd (show ("Lane" : Str) = "Avenue" from hv) (by decide +kernel)
    | road => exact absurd (show ("Road" : Str) = "Avenue" from hv) (by decide +kernel)
    | avenue t a b =>
    have hx' := hx
    refine ⟨_, rfl, x, _, rfl, hx', fun u hu => ⟨_, rfl, u, _, _, g, rfl, SqT.of upd_same, hg, ?_⟩⟩
    exact k _ (new_same hu _)
theorem sc_Road_far : FnScope ["self", "corner"] ["self", "corner"] (defScope s_Road_far) := ⟨rfl, rfl, rfl, by decide +kernel, rfl, by decide +kernel, by decide +kernel⟩
theorem p_Road_far (T : Tx K mg) : Prom P w K mg base 3 d_Road_far ["self", "corner"] (spFar K "Road") := by
  obtain ⟨fd, F⟩ := f_Road_far T
  obtain ⟨fdF, FF, GF, BF⟩ := p_far_end (P := P) (w := w) (base := base) T
  refine ⟨fd, F, F.ok sc_Road_far (fun vs H Q E h => ?_) (fun cdv A outer s H vs Q E hr h => ?_), F.bindsN fun _ _ _ _ _ _ us hl => match us, hl with | [_, _], _ => rfl⟩
  · obtain ⟨x, v, g, rfl, _⟩ := h
    rfl
  · obtain ⟨x, v, g, rfl, hv, hx, hg, k⟩ := h
    refine ⟨_, PSs.nox (pss_one (ps_ret (pe_call GF (hr.mono (by decide)) rfl (g_far_end T) FF.kp BF .nil pass0 (pa_cons (pe_endsS T (hr.mono (by decide)) (pv 0)) (pa_cons (pv 1) pa_nil))))), ?_⟩
    cases v with
    | lane => exact absurd (show ("Lane" : Str) = "Road" from hv) (by decide +kernel)
    | avenue => exact absurd (show ("Avenue" : Str) = "Road" from hv) (by decide +kernel)
    | road t a b i j =>
    have hx' := hx
    refine ⟨_, rfl, x, _, rfl, hx', fun u hu => ⟨_, rfl, u, _, _, g, rfl, SqT.of upd_same, hg, k _ (new_same hu _)⟩⟩
theorem sc_Road_leads : FnScope ["self", "goal"] ["self", "goal"] (defScope s_Road_leads) := ⟨rfl, rfl, rfl, by decide +kernel, rfl, by decide +kernel, by decide +kernel⟩
theorem p_Road_leads (T : Tx K mg) : Prom P w K mg base 3 d_Road_leads ["self", "goal"] (spLeads K "Road") := by
  obtain ⟨fd, F⟩ := f_Road_leads T
  obtain ⟨fdC, FC, GC, BC⟩ := p_check_end (P := P) (w := w) (base := base) T
  refine ⟨fd, F, F.ok sc_Road_leads (fun vs H Q E h => ?_) (fun cdv A outer s H vs Q E hr h => ?_), F.bindsN fun _ _ _ _ _ _ us hl => match us, hl with | [_, _], _ => rfl⟩
  · obtain ⟨x, v, g, rfl, _⟩ := h
    rfl
  · obtain ⟨x, v, g, rfl, hv, hx, hg, k⟩ := h
    refine ⟨_, PSs.nox (pss_cons (ps_expr (pe_call GC (hr.mono (by decide)) rfl (g_check_end T) FC.kp BC .nil pass0 (pa_cons (pe_endsS T (hr.mono (by decide)) (pv 0)) (pa_cons (pv 1) pa_nil))))
      (pss_one (ps_ret pe_bl))), ?_⟩
    cases v with
    | lane => exact absurd (show ("Lane" : Str) = "Road" from hv) (by decide +kernel)
    | avenue => exact absurd (show ("Avenue" : Str) = "Road" from hv) (by decide +kernel)
    | road t a b i j =>
    have hx' := hx
    refine ⟨_, rfl, x, _, rfl, hx', fun u hu => ⟨_, rfl, u, _, _, g, rfl, SqT.of upd_same, hg, ?_⟩⟩
    exact k _ (new_same hu _)
end
end K10
namespace K10
open PySem PySem.Spec PyProof.Rows L2 Hx Gx Nx
section
variable {P : Program} {w : World} {K : PySem.W.Frag} {mg : Str → Option Value} {base : Heap}
theorem sc_Lane_invert : FnScope ["self"] ["self"] (defScope s_Lane_invert) := ⟨rfl, rfl, rfl, by decide +kernel, rfl, by decide +kernel, by decide +kernel⟩
theorem p_Lane_invert (T : Tx K mg) : Prom P w K mg base 5 d_Lane_invert ["self"] (spInv K "Lane") := by
  obtain ⟨fd, F⟩ := f_Lane_invert T
  obtain ⟨fdL, FL, GL, BL⟩ := p_Lane_init (P := P) (w := w) (base := base) T
  refine ⟨fd, F, F.ok sc_Lane_invert (fun vs H Q E h => ?_) (fun cdv A outer s H vs Q E hr h => ?_), F.bindsN fun _ _ _ _ _ _ us hl => match us, hl with | [_], _ => rfl⟩
  · obtain ⟨x, v, rfl, _⟩ := h
    rfl
  · obtain ⟨x, v, rfl, hv, hx, gd, k⟩ := h
    refine ⟨_, PSs.nox (pss_one (ps_ret (pe_make (mk_Lane T) GL (hr.mono (by decide)) rfl (g_Lane T) BL .nil pass0 (pa_cons (pe_fld (pv 0) rfl) (pa_cons (pe_fld (pv 0) rfl) (pa_cons (pe_fld (pv 0) rfl) pa_nil)))))), ?_⟩
    cases v with
    | avenue => exact absurd (show ("Avenue" : Str) = "Lane" from hv) (by decide +kernel)
    | road => exact absurd (show ("Road" : Str) = "Lane" from hv) (by decide +kernel)
    | lane t a b =>
    obtain ⟨dx, hx⟩ := hx
    refine ⟨_, rfl, x, _, dx, _, _, rfl, hx, c_Lane T, na_Lane_name T, lf_name _ _ _, _, rfl, x, _, dx, _, _, rfl, hx, c_Lane T, na_Lane_goal T, lf_goal _ _ _, _, rfl, x, _, dx, _, _, rfl, hx, c_Lane T, na_Lane_start T, lf_start _ _ _, fun y ey i1 i2 i3 => ⟨y, ey, t, b, a, rfl, okEnds_swap gd, upd_same, fun H' bt e => ⟨rfl, ?_⟩⟩⟩
    exact k _ y (made_same i1 i2 bt) ⟨ey, e⟩
theorem sc_Avenue_invert : FnScope ["self"] ["self"] (defScope s_Avenue_invert) := ⟨rfl, rfl, rfl, by decide +kernel, rfl, by decide +kernel, by decide +kernel⟩
theorem p_Avenue_invert (T : Tx K mg) : Prom P w K mg base 1 d_Avenue_invert ["self"] (spInv K "Avenue") := by
  obtain ⟨fd, F⟩ := f_Avenue_invert T
  refine ⟨fd, F, F.ok sc_Avenue_invert (fun vs H Q E h => ?_) (fun cdv A outer s H vs Q E hr h => ?_), F.bindsN fun _ _ _ _ _ _ us hl => match us, hl with | [_], _ => rfl⟩
  · obtain ⟨x, v, rfl, _⟩ := h
    rfl
  · obtain ⟨x, v, rfl, hv, hx, gd, k⟩ := h
    refine ⟨_, PSs.nox (pss_one (ps_ret (pv 0))), ?_⟩
    cases v with
    | lane => exact absurd (show ("Lane" : Str) = "Avenue" from hv) (by decide +kernel)
    | road => exact absurd (show ("Road" : Str) = "Avenue" from hv) (by decide +kernel)
    | avenue t a b =>
    exact ⟨_, rfl, k _ x (Same.refl H) hx⟩
theorem sc_Road_invert : FnScope ["self"] ["self"] (defScope s_Road_invert) := ⟨rfl, rfl, rfl, by decide +kernel, rfl, by decide +kernel, by decide +kernel⟩
theorem p_Road_invert (T : Tx K mg) : Prom P w K mg base 6 d_Road_invert ["self"] (spInv K "Road") := by
  obtain ⟨fd, F⟩ := f_Road_invert T
  obtain ⟨fdR, FR, GR⟩ := p_Road_init (P := P) (w := w) (base := base) T
  have BR := br_Road FR
  refine ⟨fd, F, F.ok sc_Road_invert (fun vs H Q E h => ?_) (fun cdv A outer s H vs Q E hr h => ?_), F.bindsN fun _ _ _ _ _ _ us hl => match us, hl with | [_], _ => rfl⟩
  · obtain ⟨x, v, rfl, _⟩ := h
    rfl
  · obtain ⟨x, v, rfl, hv, hx, gd, k⟩ := h
    refine ⟨_, PSs.nox (pss_one (ps_ret (pe_make (mk_Road T) GR (hr.mono (by decide)) rfl (g_Road T) BR .nil pass0 (pa_cons (pe_fld (pv 0) rfl) (pa_cons (pe_fld (pv 0) rfl) (pa_cons (pe_fld (pv 0) rfl) (pa_cons (pe_fld (pv 0) rfl) (pa_cons (pe_fld (pv 0) rfl) pa_nil)))))))), ?_⟩
    cases v with
    | lane => exact absurd (show ("Lane" : Str) = "Road" from hv) (by decide +kernel)
    | avenue => exact absurd (show ("Avenue" : Str) = "Road" from hv) (by decide +kernel)
    | road t a b i j =>
    obtain ⟨g1, g2, g3, g4⟩ := gd
    obtain ⟨dx, hx⟩ := hx
    refine ⟨_, rfl, x, _, dx, _, _, rfl, hx, c_Road T, na_Road_name T, rf_name _ _ _ _ _, _, rfl, x, _, dx, _, _, rfl, hx, c_Road T, na_Road_one T, rf_one _ _ _ _ _, _, rfl, x, _, dx, _, _, rfl, hx, c_Road T, na_Road_other T, rf_other _ _ _ _ _, _, rfl, x, _, dx, _, _, rfl, hx, c_Road T, na_Road_back T, rf_back _ _ _ _ _, _, rfl, x, _, dx, _, _, rfl, hx, c_Road T, na_Road_there T, rf_there _ _ _ _ _, fun y ey i1 i2 i3 => ⟨y, ey, t, a, b, j, i, rfl, g1, g4, g3, upd_same, fun H' bt e => ⟨rfl, ?_⟩⟩⟩
    exact k _ y (made_same i1 i2 bt) ⟨ey, by rw [mkRd_lt g2] at e; exact e⟩
theorem sc_Lane_renamed : FnScope ["self", "name"] ["self", "name"] (defScope s_Lane_renamed) := ⟨rfl, rfl, rfl, by decide +kernel, rfl, by decide +kernel, by decide +kernel⟩
theorem p_Lane_renamed (T : Tx K mg) : Prom P w K mg base 5 d_Lane_renamed ["self", "name"] (spRen K "Lane") := by
  obtain ⟨fd, F⟩ := f_Lane_renamed T
  obtain ⟨fdL, FL, GL, BL⟩ := p_Lane_init (P := P) (w := w) (base := base) T
  refine ⟨fd, F, F.ok sc_Lane_renamed (fun vs H Q E h => ?_) (fun cdv A outer s H vs Q E hr h => ?_), F.bindsN fun _ _ _ _ _ _ us hl => match us, hl with | [_, _], _ => rfl⟩
  · obtain ⟨x, v, n, rfl, _⟩ := h
    rfl
  · obtain ⟨x, v, n, rfl, hv, hx, gd, hn, k⟩ := h
    refine ⟨_, PSs.nox (pss_one (ps_ret (pe_make (mk_Lane T) GL (hr.mono (by decide)) rfl (g_Lane T) BL .nil pass0 (pa_cons (pv 1) (pa_cons (pe_fld (pv 0) rfl) (pa_cons (pe_fld (pv 0) rfl) pa_nil)))))), ?_⟩
    cases v with
    | avenue => exact absurd (show ("Avenue" : Str) = "Lane" from hv) (by decide +kernel)
    | road => exact absurd (show ("Road" : Str) = "Lane" from hv) (by decide +kernel)
    | lane t a b =>
    obtain ⟨dx, hx⟩ := hx
    refine ⟨_, rfl, _, rfl, x, _, dx, _, _, rfl, hx, c_Lane T, na_Lane_start T, lf_start _ _ _, _, rfl, x, _, dx, _, _, rfl, hx, c_Lane T, na_Lane_goal T, lf_goal _ _ _, fun y ey i1 i2 i3 => ⟨y, ey, n, a, b, rfl, okEnds_ren gd hn, upd_same, fun H' bt e => ⟨rfl, ?_⟩⟩⟩
    exact k _ y (made_same i1 i2 bt) ⟨ey, e⟩
theorem sc_Avenue_renamed : FnScope ["self", "name"] ["self", "name"] (defScope s_Avenue_renamed) := ⟨rfl, rfl, rfl, by decide +kernel, rfl, by decide +kernel, by decide +kernel⟩
theorem p_Avenue_renamed (T : Tx K mg) : Prom P w K mg base 5 d_Avenue_renamed ["self", "name"] (spRen K "Avenue") := by
  obtain ⟨fd, F⟩ := f_Avenue_renamed T
  obtain ⟨fdA, FA, GA, BA⟩ := p_Avenue_init (P := P) (w := w) (base := base) T
  refine ⟨fd, F, F.ok sc_Avenue_renamed (fun vs H Q E h => ?_) (fun cdv A outer s H vs Q E hr h => ?_), F.bindsN fun _ _ _ _ _ _ us hl => match us, hl with | [_, _], _ => rfl⟩
  · obtain ⟨x, v, n, rfl, _⟩ := h
    rfl
  · obtain ⟨x, v, n, rfl, hv, hx, gd, hn, k⟩ := h
    refine ⟨_, PSs.nox (pss_one (ps_ret (pe_make (mk_Avenue T) GA (hr.mono (by decide)) rfl (g_Avenue T) BA .nil pass0 (pa_cons (pv 1) (pa_cons (pe_fld (pv 0) rfl) (pa_cons (pe_fld (pv 0) rfl) pa_nil)))))), ?_⟩
    cases v with
    | lane => exact absurd (show ("Lane" : Str) = "Avenue" from hv) (by decide +kernel)
    | road => exact absurd (show ("Road" : Str) = "Avenue" from hv) (by decide +kernel)
    | avenue t a b =>
    obtain ⟨g1, g2⟩ := gd
    obtain ⟨dx, hx⟩ := hx
    refine ⟨_, rfl, _, rfl, x, _, dx, _, _, rfl, hx, c_Avenue T, na_Avenue_one T, af_one _ _ _, _, rfl, x, _, dx, _, _, rfl, hx, c_Avenue T, na_Avenue_other T, af_other _ _ _, fun y ey i1 i2 i3 => ⟨y, ey, n, a, b, rfl, okEnds_ren g1 hn, upd_same, fun H' bt e => ⟨rfl, ?_⟩⟩⟩
    exact k _ y (made_same i1 i2 bt) ⟨ey, by rw [mkAv_lt g2] at e; exact e⟩
theorem sc_Road_renamed : FnScope ["self", "name"] ["self", "name"] (defScope s_Road_renamed) := ⟨rfl, rfl, rfl, by decide +kernel, rfl, by decide +kernel, by decide +kernel⟩
theorem p_Road_renamed (T : Tx K mg) : Prom P w K mg base 6 d_Road_renamed ["self", "name"] (spRen K "Road") := by
  obtain ⟨fd, F⟩ := f_Road_renamed T
  obtain ⟨fdR, FR, GR⟩ := p_Road_init (P := P) (w := w) (base := base) T
  have BR := br_Road FR
  refine ⟨fd, F, F.ok sc_Road_renamed (fun vs H Q E h => ?_) (fun cdv A outer s H vs Q E hr h => ?_), F.bindsN fun _ _ _ _ _ _ us hl => match us, hl with | [_, _], _ => rfl⟩
  · obtain ⟨x, v, n, rfl, _⟩ := h
    rfl
  · obtain ⟨x, v, n, rfl, hv, hx, gd, hn, k⟩ := h
    refine ⟨_, PSs.nox (pss_one (ps_ret (pe_make (mk_Road T) GR (hr.mono (by decide)) rfl (g_Road T) BR .nil pass0 (pa_cons (pv 1) (pa_cons (pe_fld (pv 0) rfl) (pa_cons (pe_fld (pv 0) rfl) (pa_cons (pe_fld (pv 0) rfl) (pa_cons (pe_fld (pv 0) rfl) pa_nil)))))))), ?_⟩
    cases v with
    | lane => exact absurd (show ("Lane" : Str) = "Road" from hv) (by decide +kernel)
    | avenue => exact absurd (show ("Avenue" : Str) = "Road" from hv) (by decide +kernel)
    | road t a b i j =>
    obtain ⟨g1, g2, g3, g4⟩ := gd
    obtain ⟨dx, hx⟩ := hx
    refine ⟨_, rfl, _, rfl, x, _, dx, _, _, rfl, hx, c_Road T, na_Road_one T, rf_one _ _ _ _ _, _, rfl, x, _, dx, _, _, rfl, hx, c_Road T, na_Road_other T, rf_other _ _ _ _ _, _, rfl, x, _, dx, _, _, rfl, hx, c_Road T, na_Road_there T, rf_there _ _ _ _ _, _, rfl, x, _, dx, _, _, rfl, hx, c_Road T, na_Road_back T, rf_back _ _ _ _ _, fun y ey i1 i2 i3 => ⟨y, ey, n, a, b, i, j, rfl, okEnds_ren g1 hn, g3, g4, upd_same, fun H' bt e => ⟨rfl, ?_⟩⟩⟩
    exact k _ y (made_same i1 i2 bt) ⟨ey, by rw [mkRd_lt g2] at e; exact e⟩
theorem sc_Lane_opened : FnScope ["self"] ["self"] (defScope s_Lane_opened) := ⟨rfl, rfl, rfl, by decide +kernel, rfl, by decide +kernel, by decide +kernel⟩
theorem p_Lane_opened (T : Tx K mg) : Prom P w K mg base 5 d_Lane_opened ["self"] (spOpen K "Lane") := by
  obtain ⟨fd, F⟩ := f_Lane_opened T
  obtain ⟨fdA, FA, GA, BA⟩ := p_Avenue_init (P := P) (w := w) (base := base) T
  refine ⟨fd, F, F.ok sc_Lane_opened (fun vs H Q E h => ?_) (fun cdv A outer s H vs Q E hr h => ?_), F.bindsN fun _ _ _ _ _ _ us hl => match us, hl with | [_], _ => rfl⟩
  · obtain ⟨x, v, rfl, _⟩ := h
    rfl
  · obtain ⟨x, v, rfl, hv, hx, gd, k⟩ := h
    refine ⟨_, PSs.nox (pss_one (ps_ret (pe_make (mk_Avenue T) GA (hr.mono (by decide)) rfl (g_Avenue T) BA .nil pass0 (pa_cons (pe_fld (pv 0) rfl) (pa_cons (pe_fld (pv 0) rfl) (pa_cons (pe_fld (pv 0) rfl) pa_nil)))))), ?_⟩
    cases v with
    | avenue => exact absurd (show ("Avenue" : Str) = "Lane" from hv) (by decide +kernel)
    | road => exact absurd (show ("Road" : Str) = "Lane" from hv) (by decide +kernel)
    | lane t a b =>
    obtain ⟨dx, hx⟩ := hx
    refine ⟨_, rfl, x, _, dx, _, _, rfl, hx, c_Lane T, na_Lane_name T, lf_name _ _ _, _, rfl, x, _, dx, _, _, rfl, hx, c_Lane T, na_Lane_start T, lf_start _ _ _, _, rfl, x, _, dx, _, _, rfl, hx, c_Lane T, na_Lane_goal T, lf_goal _ _ _, fun y ey i1 i2 i3 => ⟨y, ey, t, a, b, rfl, gd, upd_same, fun H' bt e => ⟨rfl, ?_⟩⟩⟩
    exact k _ y (made_same i1 i2 bt) ⟨ey, by rw [show (Sv.lane t a b).opened = mkAv t a b from rfl, cls_mkAv]; exact e⟩
theorem sc_Avenue_opened : FnScope ["self"] ["self"] (defScope s_Avenue_opened) := ⟨rfl, rfl, rfl, by decide +kernel, rfl, by decide +kernel, by decide +kernel⟩
theorem p_Avenue_opened (T : Tx K mg) : Prom P w K mg base 1 d_Avenue_opened ["self"] (spOpen K "Avenue") := by
  obtain ⟨fd, F⟩ := f_Avenue_opened T
  refine ⟨fd, F, F.ok sc_Avenue_opened (fun vs H Q E h => ?_) (fun cdv A outer s H vs Q E hr h => ?_), F.bindsN fun _ _ _ _ _ _ us hl => match us, hl with | [_], _ => rfl⟩
  · obtain ⟨x, v, rfl, _⟩ := h
    rfl
  · obtain ⟨x, v, rfl, hv, hx, gd, k⟩ := h
    refine ⟨_, PSs.nox (pss_one (ps_ret (pv 0))), ?_⟩
    cases v with
    | lane => exact absurd (show ("Lane" : Str) = "Avenue" from hv) (by decide +kernel)
    | road => exact absurd (show ("Road" : Str) = "Avenue" from hv) (by decide +kernel)
    | avenue t a b =>
    exact ⟨_, rfl, k _ x (Same.refl H) hx⟩
theorem sc_Road_opened : FnScope ["self"] ["self"] (defScope s_Road_opened) := ⟨rfl, rfl, rfl, by decide +kernel, rfl, by decide +kernel, by decide +kernel⟩
theorem p_Road_opened (T : Tx K mg) : Prom P w K mg base 5 d_Road_opened ["self"] (spOpen K "Road") := by
  obtain ⟨fd, F⟩ := f_Road_opened T
  obtain ⟨fdA, FA, GA, BA⟩ := p_Avenue_init (P := P) (w := w) (base := base) T
  refine ⟨fd, F, F.ok sc_Road_opened (fun vs H Q E h => ?_) (fun cdv A outer s H vs Q E hr h => ?_), F.bindsN fun _ _ _ _ _ _ us hl => match us, hl with | [_], _ => rfl⟩
  · obtain ⟨x, v, rfl, _⟩ := h
    rfl
  · obtain ⟨x, v, rfl, hv, hx, gd, k⟩ := h
    refine ⟨_, PSs.nox (pss_one (ps_ret (pe_make (mk_Avenue T) GA (hr.mono (by decide)) rfl (g_Avenue T) BA .nil pass0 (pa_cons (pe_fld (pv 0) rfl) (pa_cons (pe_fld (pv 0) rfl) (pa_cons (pe_fld (pv 0) rfl) pa_nil)))))), ?_⟩
    cases v with
    | lane => exact absurd (show ("Lane" : Str) = "Road" from hv) (by decide +kernel)
    | avenue => exact absurd (show ("Avenue" : Str) = "Road" from hv) (by decide +kernel)
    | road t a b i j =>
    obtain ⟨g1, g2, g3, g4⟩ := gd
    obtain ⟨dx, hx⟩ := hx
    refine ⟨_, rfl, x, _, dx, _, _, rfl, hx, c_Road T, na_Road_name T, rf_name _ _ _ _ _, _, rfl, x, _, dx, _, _, rfl, hx, c_Road T, na_Road_one T, rf_one _ _ _ _ _, _, rfl, x, _, dx, _, _, rfl, hx, c_Road T, na_Road_other T, rf_other _ _ _ _ _, fun y ey i1 i2 i3 => ⟨y, ey, t, a, b, rfl, g1, upd_same, fun H' bt e => ⟨rfl, ?_⟩⟩⟩
    exact k _ y (made_same i1 i2 bt) ⟨ey, by rw [mkAv_lt g2] at e; exact e⟩
def spPrice (K : PySem.W.Frag) : Sp := fun vs H Q _ => ∃ (x : Addr) (t a b : Str) (i j : Int) (g : Str), vs = [.ref x, .str g] ∧ StAt K H x (.road t a b i j) ∧ (g = a ∨ g = b) ∧ ∀ H', Same H H' → Q (.int (if g = b then i else j)) H'
theorem sc_Road_price : FnScope ["self", "goal"] ["self", "goal"] (defScope s_Road_price) := ⟨rfl, rfl, rfl, by decide +kernel, rfl, by decide +kernel, by decide +kernel⟩
theorem p_Road_price (T : Tx K mg) : Prom P w K mg base 3 d_Road_price ["self", "goal"] (spPrice K) := by
  obtain ⟨fd, F⟩ := f_Road_price T
  obtain ⟨fdC, FC, GC, BC⟩ := p_check_end (P := P) (w := w) (base := base) T
  refine ⟨fd, F, F.ok sc_Road_price (fun vs H Q E h => ?_) (fun cdv A outer s H vs Q E hr h => ?_), F.bindsN fun _ _ _ _ _ _ us hl => match us, hl with | [_, _], _ => rfl⟩
  · obtain ⟨x, t, a, b, i, j, g, rfl, _⟩ := h
    rfl
  · obtain ⟨x, t, a, b, i, j, g, rfl, hx, hg, k⟩ := h
    refine ⟨_, PSs.nox (pss_cons (ps_expr (pe_call GC (hr.mono (by decide)) rfl (g_check_end T) FC.kp BC .nil pass0 (pa_cons (pe_endsS T (hr.mono (by decide)) (pv 0)) (pa_cons (pv 1) pa_nil))))
      (pss_one (ps_ret (pe_ifExp (pt_cmpR op_eq (pv 1) (pe_fld (pv 0) rfl) (nomark _)) (pe_fld (pv 0) rfl) (pe_fld (pv 0) rfl))))), ?_⟩
    have hx' := hx
    refine ⟨_, rfl, x, _, rfl, hx', fun u hu => ⟨_, rfl, u, _, _, g, rfl, SqT.of upd_same, hg, ?_⟩⟩
    obtain ⟨dx, hx⟩ := hx
    have hx2 := new_same hu (.tup [.str (Sv.road t a b i j).ends.1, .str (Sv.road t a b i j).ends.2]) _ _ hx
    refine ⟨_, rfl, _, rfl, x, _, dx, _, _, rfl, hx2, c_Road T, na_Road_other T, rf_other _ _ _ _ _, rfl, _, rfl, ?_⟩
    have e : decide (V.str g = V.str b) = decide (g = b) := by simp
    rw [e]
    by_cases h : g = b
    · rw [decide_eq_true h]
      rw [if_pos h] at k
      exact iteT ⟨_, rfl, x, _, dx, _, _, rfl, hx2, c_Road T, na_Road_there T, rf_there _ _ _ _ _, k _ (new_same hu _)⟩
    · rw [decide_eq_false h]
      rw [if_neg h] at k
      exact iteF ⟨_, rfl, x, _, dx, _, _, rfl, hx2, c_Road T, na_Road_back T, rf_back _ _ _ _ _, k _ (new_same hu _)⟩
def spSigned (K : PySem.W.Frag) : Sp := fun vs H Q _ => ∃ (x : Addr) (t a b : Str) (i j : Int) (g : Str), vs = [.ref x, .str g] ∧ StAt K H x (.road t a b i j) ∧ okEnds t a b = true ∧ (g = a ∨ g = b) ∧ ∀ (H' : Hp) (y : Addr), Same H H' → StAt K H' y (.lane t (if g = a then b else a) g) → Q (.ref y) H'
theorem rf_far (t a b : Str) (i j : Int) : (rf t a b i j).lookup ("far" : Str) = none := by
  unfold rf
  rw [lookup_putF, if_neg (by decide +kernel), lookup_putF, if_neg (by decide +kernel), lookup_putF, if_neg (by decide +kernel), lookup_putF, if_neg (by decide +kernel), lookup_putF, if_neg (by decide +kernel)]
  rfl
theorem sc_Road_signed : FnScope ["self", "goal"] ["self", "goal"] (defScope s_Road_signed) := ⟨rfl, rfl, rfl, by decide +kernel, rfl, by decide +kernel, by decide +kernel⟩
theorem p_Road_signed (T : Tx K mg) : Prom P w K mg base 5 d_Road_signed ["self", "goal"] (spSigned K) := by
  obtain ⟨fd, F⟩ := f_Road_signed T
  obtain ⟨fdF, FF, GF, BF⟩ := p_Road_far (P := P) (w := w) (base := base) T
  obtain ⟨fdL, FL, GL, BL⟩ := p_Lane_init (P := P) (w := w) (base := base) T
  refine ⟨fd, F, F.ok sc_Road_signed (fun vs H Q E h => ?_) (fun cdv A outer s H vs Q E hr h => ?_), F.bindsN fun _ _ _ _ _ _ us hl => match us, hl with | [_, _], _ => rfl⟩
  · obtain ⟨x, t, a, b, i, j, g, rfl, _⟩ := h
    rfl
  · obtain ⟨x, t, a, b, i, j, g, rfl, hx, ok, hg, k⟩ := h
    refine ⟨_, PSs.nox (pss_one (ps_ret (pe_make (mk_Lane T) GL (hr.mono (by decide)) rfl (g_Lane T) BL .nil pass0 (pa_cons (pe_fld (pv 0) rfl) (pa_cons (pe_meth (pv 0) (c_Road T) (m_Road_far T) GF (hr.mono (by decide)) BF .nil pass0 (pa_cons (pv 1) pa_nil)) (pa_cons (pv 1) pa_nil)))))), ?_⟩
    have hx' := hx
    obtain ⟨dx, hx⟩ := hx
    refine ⟨_, rfl, x, _, dx, _, _, rfl, hx, c_Road T, na_Road_name T, rf_name _ _ _ _ _, _, rfl, x, dx, _, rfl, hx, rf_far _ _ _ _ _, _, rfl, x, _, g, rfl, rfl, hx', hg, fun H1 s1 => ⟨_, rfl, ?_⟩⟩
    have ok2 : okEnds t (if g = a then b else a) g = true := by
      rcases hg with rfl | rfl
      · rw [if_pos rfl]; exact okEnds_swap ok
      · by_cases h : g = a
        · exact absurd h.symm (okEnds_iff ok).2.2.2
        · rw [if_neg h]; exact ok
    refine fun y ey i1 i2 i3 => ⟨y, ey, t, if g = a then b else a, g, rfl, ok2, upd_same, fun H' b' e => ⟨rfl, ?_⟩⟩
    exact k _ y (s1.trans (made_same i1 i2 b')) ⟨ey, e⟩
/-- a price, or None -/
def optV : Option Int → V
  | none => .non
  | some i => .int i
def spPriced (K : PySem.W.Frag) : Sp := fun vs H Q _ => ∃ (x : Addr) (t a b : Str) (i j : Int) (p q : Option Int), vs = [.ref x, optV p, optV q] ∧ StAt K H x (.road t a b i j) ∧ Good (.road t a b i j) ∧ (∀ z, p = some z → priceOk z) ∧ (∀ z, q = some z → priceOk z) ∧
  ∀ (H' : Hp) (y : Addr), Same H H' → StAt K H' y (.road t a b (p.getD i) (q.getD j)) → Q (.ref y) H'
theorem sc_Road_priced : FnScope ["self", "there", "back"] ["self", "there", "back"] (defScope s_Road_priced) := ⟨rfl, rfl, rfl, by decide +kernel, rfl, by decide +kernel, by decide +kernel⟩
theorem p_Road_priced (T : Tx K mg) : ∃ fd, Fd K d_Road_priced fd ∧ FnOk P w K mg base CX0 6 (d_Road_priced.adr K) fd ["self", "there", "back"] (spPriced K) := by
  obtain ⟨fd, F⟩ := f_Road_priced T
  obtain ⟨fdR, FR, GR⟩ := p_Road_init (P := P) (w := w) (base := base) T
  have BR := br_Road FR
  refine ⟨fd, F, F.ok sc_Road_priced (fun vs H Q E h => ?_) (fun cdv A outer s H vs Q E hr h => ?_)⟩
  · obtain ⟨x, t, a, b, i, j, p, q, rfl, _⟩ := h
    rfl
  · obtain ⟨x, t, a, b, i, j, p, q, rfl, hx, gd, hp, hq, k⟩ := h
    refine ⟨_, PSs.nox (pss_cons (ps_if (pt_cmpR op_isN (pv 1) pe_non (nomark _)) (pss_one (ps_set (i := 1) sc_Road_priced.nd rfl (Or.inl rfl) (pe_fld (pv 0) rfl))) pss_nil)
      (pss_cons (ps_if (pt_cmpR op_isN (pv 2) pe_non (nomark _)) (pss_one (ps_set (i := 2) sc_Road_priced.nd rfl (Or.inl rfl) (pe_fld (pv 0) rfl))) pss_nil)
      (pss_one (ps_ret (pe_make (mk_Road T) GR (hr.mono (by decide)) rfl (g_Road T) BR .nil pass0 (pa_cons (pe_fld (pv 0) rfl) (pa_cons (pe_fld (pv 0) rfl) (pa_cons (pe_fld (pv 0) rfl) (pa_cons (pv 1) (pa_cons (pv 2) pa_nil)))))))))), ?_⟩
    obtain ⟨g1, g2, g3, g4⟩ := gd
    obtain ⟨dx, hx⟩ := hx
    have pp : priceOk (p.getD i) := by cases p with | none => exact g3 | some z => exact hp z rfl
    have qq : priceOk (q.getD j) := by cases q with | none => exact g4 | some z => exact hq z rfl
    have fin : ∀ (y ey : Addr) (i1 : H y = none) (i2 : H ey = none) (i3 : ey ≠ y), spInitR K [.ref y, .str t, .str a, .str b, .int (p.getD i), .int (q.getD j)] (upd (upd H ey (.own y)) y (.ins (He.ga K "Road") ey [])) (fun v H2 => v = .non ∧ Q (.ref y) H2) E0 := fun y ey i1 i2 i3 =>
      ⟨y, ey, t, a, b, _, _, rfl, g1, pp, qq, upd_same, fun H' b' e => ⟨rfl, k _ y (made_same i1 i2 b') ⟨ey, by rw [mkRd_lt g2] at e; exact e⟩⟩⟩
    cases p with
    | none =>
      refine ⟨_, rfl, rfl, _, rfl, iteT ⟨_, rfl, x, _, dx, _, _, rfl, hx, c_Road T, na_Road_there T, rf_there _ _ _ _ _, ?_⟩⟩
      cases q with
      | none => exact ⟨_, rfl, rfl, _, rfl, iteT ⟨_, rfl, x, _, dx, _, _, rfl, hx, c_Road T, na_Road_back T, rf_back _ _ _ _ _, _, rfl, x, _, dx, _, _, rfl, hx, c_Road T, na_Road_name T, rf_name _ _ _ _ _, _, rfl, x, _, dx, _, _, rfl, hx, c_Road T, na_Road_one T, rf_one _ _ _ _ _, _, rfl, x, _, dx, _, _, rfl, hx, c_Road T, na_Road_other T, rf_other _ _ _ _ _, _, rfl, _, rfl, fin⟩⟩
      | some q => exact ⟨_, rfl, rfl, _, rfl, iteF ⟨_, rfl, x, _, dx, _, _, rfl, hx, c_Road T, na_Road_name T, rf_name _ _ _ _ _, _, rfl, x, _, dx, _, _, rfl, hx, c_Road T, na_Road_one T, rf_one _ _ _ _ _, _, rfl, x, _, dx, _, _, rfl, hx, c_Road T, na_Road_other T, rf_other _ _ _ _ _, _, rfl, _, rfl, fin⟩⟩
    | some p =>
      refine ⟨_, rfl, rfl, _, rfl, iteF ?_⟩
      cases q with
      | none => exact ⟨_, rfl, rfl, _, rfl, iteT ⟨_, rfl, x, _, dx, _, _, rfl, hx, c_Road T, na_Road_back T, rf_back _ _ _ _ _, _, rfl, x, _, dx, _, _, rfl, hx, c_Road T, na_Road_name T, rf_name _ _ _ _ _, _, rfl, x, _, dx, _, _, rfl, hx, c_Road T, na_Road_one T, rf_one _ _ _ _ _, _, rfl, x, _, dx, _, _, rfl, hx, c_Road T, na_Road_other T, rf_other _ _ _ _ _, _, rfl, _, rfl, fin⟩⟩
      | some q => exact ⟨_, rfl, rfl, _, rfl, iteF ⟨_, rfl, x, _, dx, _, _, rfl, hx, c_Road T, na_Road_name T, rf_name _ _ _ _ _, _, rfl, x, _, dx, _, _, rfl, hx, c_Road T, na_Road_one T, rf_one _ _ _ _ _, _, rfl, x, _, dx, _, _, rfl, hx, c_Road T, na_Road_other T, rf_other _ _ _ _ _, _, rfl, _, rfl, fin⟩⟩
end
end K10
namespace K10
open PySem PySem.Spec PyProof.Rows L2 Hx Gx Nx TL
theorem tl_numNat (n : Nat) : tl (numText (n : Int)) = numL n := tl_num n
theorem tl_numNeg (n : Nat) : tl (numText (-((n + 1 : Nat) : Int))) = 45 :: numL (n + 1) := by
  unfold numText
  show (Str.ofString (toString (Int.negSucc n))).cps.toList = _
  rw [signs_ofString]
  have e : toString (Int.negSucc n) = "-" ++ Nat.repr (n + 1) := rfl
  rw [e, String.toList_append, List.map_append, Nat.toList_repr]
  rfl
/-- the text of a number: a sign, perhaps, and the digits -/
theorem tl_numText (i : Int) : tl (numText i) = (if i < 0 then [45] else []) ++ numL i.natAbs := by
  by_cases h : i < 0
  · obtain ⟨n, rfl⟩ : ∃ n : Nat, i = -((n + 1 : Nat) : Int) := ⟨(-i - 1).toNat, by omega⟩
    rw [if_pos h, tl_numNeg]
    have e : (-((n + 1 : Nat) : Int)).natAbs = n + 1 := by omega
    rw [e]
    rfl
  · obtain ⟨n, rfl⟩ : ∃ n : Nat, i = (n : Int) := ⟨i.toNat, by omega⟩
    rw [if_neg h, tl_numNat]
    have e : ((n : Int)).natAbs = n := by omega
    rw [e]
    rfl
theorem numL_12 {i : Int} (h : priceOk i) : (numL i.natAbs).length ≤ 12 := by
  obtain ⟨h1, h2⟩ := h
  exact numL_len (by decide) (by omega)
theorem num_reads_all {i : Int} (h : priceOk i) : PySem.intText? (numText i) = some i := by
  have l12 := numL_12 h
  by_cases h0 : i < 0
  · obtain ⟨n, rfl⟩ : ∃ n : Nat, i = -((n + 1 : Nat) : Int) := ⟨(-i - 1).toNat, by omega⟩
    have e := intText_neg (x := numText (-((n + 1 : Nat) : Int))) (cs := numL (n + 1)) (tl_numNeg n) (numL_digits _) (numL_ne _) (by
      rw [len_tl, tl_numNeg, List.length_cons]
      have e : (-((n + 1 : Nat) : Int)).natAbs = n + 1 := by omega
      rw [e] at l12
      omega)
    rw [numL_val] at e
    exact e
  · obtain ⟨n, rfl⟩ : ∃ n : Nat, i = (n : Int) := ⟨i.toNat, by omega⟩
    exact int_num (by
      have e : ((n : Int)).natAbs = n := by omega
      rw [e] at l12
      omega)
theorem tl_prefix (x : Str) : tl (Txt.removeprefix x (Str.ofString "-")) = (match tl x with | 45 :: r => r | l => l) := by
  have e1 : (Str.ofString "-") = (⟨#[45]⟩ : Str) := by decide +kernel
  obtain ⟨⟨l⟩⟩ := x
  rw [e1]
  unfold Txt.removeprefix Txt.affix
  cases l with
  | nil => rfl
  | cons c r =>
    have l1 : (⟨#[45]⟩ : Str).length = 1 := rfl
    have s1 : Builtin.Str.subAt (⟨⟨c :: r⟩⟩ : Str) ⟨#[45]⟩ 0 = decide (c = 45) := by
      unfold Builtin.Str.subAt
      rw [l1]
      by_cases h : c = 45
      · subst h
        have e : (⟨45 :: r⟩ : Array Nat).extract 0 (0 + 1) = #[45] := by
          apply Array.ext'
          simp
        rw [e]
        rfl
      · rw [decide_eq_false h]
        simp [h]
    rw [s1, l1]
    by_cases h : c = 45
    · subst h
      simp [Builtin.Str.strSub, Str.length]
    · rw [decide_eq_false h]
      simp
      split
      · rename_i z
        injection z with z1 z2
        exact absurd z1 h
      · rfl
/-- the words of a street's text -/
def Sv.words : Sv → List Str
  | .lane t a b => ["lane", t, a, b]
  | .avenue t a b => ["avenue", t, a, b]
  | .road t a b i j => ["road", t, a, b, numText i, numText j]
theorem name_free {x : Str} (h : nameB x = true) : 32 ∉ tl x := by
  unfold nameB at h
  rw [Bool.and_eq_true] at h
  intro m
  have z := List.all_eq_true.mp h.2 32 m
  revert z
  decide
theorem num_free (i : Int) : 32 ∉ tl (numText i) := fun m => (intText_free_32 i).mp m
theorem text_words {v : Sv} (g : Good v) : Txt.split v.text " " = v.words := by
  have e1 : tl (Str.ofString " ") = [32] := by decide +kernel
  have e2 : (Str.ofString " ").cps.all (· < 256) = true := by decide +kernel
  have key : ∀ ws : List Str, ws ≠ [] → (∀ p ∈ ws, 32 ∉ tl p) → v.text = Txt.join " " ws → Txt.split v.text " " = ws := fun ws h1 h2 h3 => by
    rw [h3]
    exact split_join e1 e2 h1 h2
  cases v with
  | lane t a b =>
    obtain ⟨o1, o2, o3, _⟩ := okEnds_iff (show okEnds t a b = true from g)
    refine key _ (by simp [Sv.words]) ?_ ?_
    · intro p hp
      simp only [Sv.words, List.mem_cons, List.not_mem_nil, or_false] at hp
      rcases hp with rfl | rfl | rfl | rfl
      · decide +kernel
      · exact name_free o1
      · exact name_free o2
      · exact name_free o3
    · refine ext_tl ?_
      rw [join_eq, tl_join]
      simp only [Sv.text, Sv.words, tl_append, List.map_cons, List.map_nil, joinL, e1]
      have z : tl (Str.ofString "lane ") = tl (Str.ofString "lane") ++ [32] := by decide +kernel
      have z0 : tl Str.empty = [] := rfl
      rw [z, z0]
      simp
  | avenue t a b =>
    obtain ⟨o1, o2, o3, _⟩ := okEnds_iff (show okEnds t a b = true from g.1)
    refine key _ (by simp [Sv.words]) ?_ ?_
    · intro p hp
      simp only [Sv.words, List.mem_cons, List.not_mem_nil, or_false] at hp
      rcases hp with rfl | rfl | rfl | rfl
      · decide +kernel
      · exact name_free o1
      · exact name_free o2
      · exact name_free o3
    · refine ext_tl ?_
      rw [join_eq, tl_join]
      simp only [Sv.text, Sv.words, tl_append, List.map_cons, List.map_nil, joinL, e1]
      have z : tl (Str.ofString "avenue ") = tl (Str.ofString "avenue") ++ [32] := by decide +kernel
      have z0 : tl Str.empty = [] := rfl
      rw [z, z0]
      simp
  | road t a b i j =>
    obtain ⟨o1, o2, o3, _⟩ := okEnds_iff (show okEnds t a b = true from g.1)
    refine key _ (by simp [Sv.words]) ?_ ?_
    · intro p hp
      simp only [Sv.words, List.mem_cons, List.not_mem_nil, or_false] at hp
      rcases hp with rfl | rfl | rfl | rfl | rfl | rfl
      · decide +kernel
      · exact name_free o1
      · exact name_free o2
      · exact name_free o3
      · exact num_free i
      · exact num_free j
    · refine ext_tl ?_
      rw [join_eq, tl_join]
      simp only [Sv.text, Sv.words, tl_append, List.map_cons, List.map_nil, joinL, e1]
      have z : tl (Str.ofString "road ") = tl (Str.ofString "road") ++ [32] := by decide +kernel
      have z0 : tl Str.empty = [] := rfl
      rw [z, z0]
      simp
end K10
namespace K10
open PySem PySem.Spec PyProof.Rows L2 Hx Gx Nx TL
section
variable {P : Program} {w : World} {K : PySem.W.Frag} {mg : Str → Option Value} {base : Heap}

def isDig (c : Nat) : Bool := decide (48 ≤ c) && decide (c ≤ 57)
theorem dig_in (c : Nat) : decide (c ∈ ("0123456789" : Str).cps.toList) = isDig c := by
  have e : ("0123456789" : Str).cps.toList = [48, 49, 50, 51, 52, 53, 54, 55, 56, 57] := by decide +kernel
  rw [e]
  unfold isDig
  by_cases h : 48 ≤ c ∧ c ≤ 57
  · rw [decide_eq_true h.1, decide_eq_true h.2]
    refine decide_eq_true ?_
    simp only [List.mem_cons, List.not_mem_nil, or_false]
    omega
  · have h2 : (decide (48 ≤ c) && decide (c ≤ 57)) = false := by
      rw [Bool.and_eq_false_iff]
      by_cases h1 : 48 ≤ c
      · exact .inr (decide_eq_false fun h3 => h ⟨h1, h3⟩)
      · exact .inl (decide_eq_false h1)
    rw [h2]
    refine decide_eq_false fun q => h ?_
    simp only [List.mem_cons, List.not_mem_nil, or_false] at q
    omega
def spIpw : Sp := fun vs H Q _ => ∃ i : Int, vs = [.str (numText i)] ∧ priceOk i ∧ ∀ H', Same H H' → Q (.bl true) H'
theorem sc_ipw : FnScope ["word", "digits", "digit"] ["word"] (defScope s_is_price_word) := ⟨rfl, rfl, rfl, by decide +kernel, rfl, by decide +kernel, by decide +kernel⟩
theorem p_ipw (T : Tx K mg) : Prom P w K mg base 1 d_is_price_word ["word"] spIpw := by
  obtain ⟨fd, F⟩ := f_is_price_word T
  obtain ⟨tPD, hPD⟩ := i_PRICE_DIGITS T (v := 12) rfl rfl
  obtain ⟨tDG, hDG⟩ := t_DIGITS T (v := "0123456789") rfl
  refine ⟨fd, F, F.ok sc_ipw (fun vs H Q E h => ?_) (fun cdv A outer s H vs Q E hr h => ?_), F.bindsN fun _ _ _ _ _ _ us hl => match us, hl with | [_], _ => rfl⟩
  · obtain ⟨i, rfl, _⟩ := h
    rfl
  · obtain ⟨i, rfl, hi, k⟩ := h
    have sl : (100 : Nat) ≤ sizeLine := by decide
    have l41 := (numText_len hi).1
    have td : tl (Txt.removeprefix (numText i) (Str.ofString "-")) = numL i.natAbs := by
      rw [tl_prefix, tl_numText]
      have dg := numL_digits i.natAbs
      by_cases h : i < 0
      · rw [if_pos h]
        rfl
      · rw [if_neg h, List.nil_append]
        cases e : numL i.natAbs with
        | nil => rfl
        | cons c r =>
          have z := dg c (by rw [e]; exact List.mem_cons_self ..)
          split
          · rename_i q
            injection q with q1 q2
            omega
          · rfl
    have ld : (Txt.removeprefix (numText i) (Str.ofString "-")).length = (numL i.natAbs).length := by rw [len_tl, td]
    have l1 : 1 ≤ (numL i.natAbs).length := by
      have z := numL_ne i.natAbs
      cases e : numL i.natAbs with
      | nil => exact absurd e z
      | cons c r => rw [List.length_cons]; omega
    have l12 := numL_12 hi
    refine ⟨_, PSs.nox (pss_cons (ps_set (i := 1) sc_ipw.nd rfl (Or.inl rfl) (pe_m1 PySem.F.slot_str_removeprefix PySem.F.type_str_removeprefix mt_removeprefix (pv 0) pe_str rfl rfl rfl))
      (pss_cons (ps_if (PW.pt (pw_or (pt_not (pt_chain op_le op_le pe_int (pe_callB call_len_str (by rfl) (n_len T) (by decide +kernel) (pa_cons (pv 1) pa_nil)) (pe_glob (v := .int 12) rfl hPD ⟨_, rfl⟩))) (pw_or1 (pt_not (pt_val (pe_callB (cr_all rfl) (by rfl) (n_all T) (by decide +kernel) (pa_cons (pe_lc (own := [("digit", 2)]) (g := gName 2) (tt := tYes) (by rfl) sc_ipw.nd (pi_str (pv 1)) (blkOk_by (own := [("digit", 2)]) (N := ["word", "digits", "digit"]) (sc := defScope s_is_price_word) (by decide +kernel)) (fun _ _ _ _ _ => pg_name (i := 2) sc_ipw.nd rfl (Or.inl rfl)) (fun _ _ _ _ _ => pts_nil) (fun _ _ _ _ _ => (pe_cmpR op_in_sign (pv 2) (pe_glob (v := .str "0123456789") rfl hDG ⟨_, rfl⟩) rfl))) pa_nil))))))) (pss_one (ps_ret pe_bl)) pss_nil)
      (pss_one (ps_ret (pe_cmpR op_eq (pe_callTy call_str_int (by rfl) (n_str T) (by decide +kernel) (pa_cons (pe_callTy call_int_str (by rfl) (n_int T) (by decide +kernel) (pa_cons (pv 0) pa_nil)) pa_nil)) (pv 0) (nomark _)))))), ?_⟩
    refine ⟨_, rfl, ⟨_, rfl⟩, _, _, rfl, rfl, by omega, ?_⟩
    generalize Txt.removeprefix (numText i) (Str.ofString "-") = dd at td ld
    refine ⟨_, rfl, dd, rfl, by omega, _, _, rfl, rfl, _, rfl, ?_⟩
    rw [decide_eq_true (show (1 : Int) ≤ ((dd.length : Nat) : Int) by omega)]
    refine iteT ⟨_, _, rfl, rfl, _, rfl, ?_⟩
    rw [decide_eq_true (show ((dd.length : Nat) : Int) ≤ 12 by omega)]
    refine iteF ⟨_, rfl, dd, rfl, fun D hD => ?_⟩
    refine lc_it walk_str (fun n H' => Same H H' ∧ H' D = some (.lst ((dd.cps.toList.take n).map fun c => V.bl (isDig c)))) ⟨new_same hD _, upd_same⟩ (fun _ _ _ _ => trivial) ?_ ?_
    · rintro n v H1 H2 hn ⟨s1, d1⟩ ⟨rfl, c, hc, rfl⟩
      refine ⟨rfl, ⟨_, rfl, c, _, rfl, rfl, _, d1, ?_, fun b o e => by rw [upd_ne (ne_of_none e hD)]; exact s1 b o e, ?_⟩⟩
      · rw [List.length_map, List.length_take]
        have z2 : dd.cps.toList.length = dd.length := rfl
        omega
      · rw [upd_same, dig_in, List.take_succ, List.map_append]
        have e : dd.cps.toList[n]? = some c := by simpa using hc
        rw [e]
        rfl
    · rintro H1 ⟨s1, d1⟩
      have e : dd.cps.toList.take dd.cps.size = dd.cps.toList := List.take_of_length_le (Nat.le_of_eq (by simp))
      refine ⟨D, dd.cps.toList.map isDig, rfl, SqL.of (by rw [d1, e, List.map_map]; rfl), _, rfl, ?_⟩
      have al : ((dd.cps.toList.map isDig).all id) = true := by
        rw [show dd.cps.toList = numL i.natAbs from td, List.all_map, List.all_eq_true]
        intro c hc
        have z := numL_digits i.natAbs c hc
        show isDig c = true
        unfold isDig
        rw [decide_eq_true z.1, decide_eq_true z.2]
        rfl
      rw [al]
      refine iteF ⟨_, rfl, _, i, rfl, num_reads_all hi, by omega, i, rfl, (numText_len hi).2, _, rfl, rfl, ?_⟩
      have e3 : decide (V.str (Str.ofString (toString i)) = V.str (numText i)) = true := decide_eq_true rfl
      show Q (.bl (decide (V.str (Str.ofString (toString i)) = V.str (numText i)))) H1
      rw [e3]
      exact k _ s1
def Sv.kind : Sv → Str
  | .lane .. => "lane"
  | .avenue .. => "avenue"
  | .road .. => "road"
theorem word0 (v : Sv) : v.words[0]? = some v.kind := by cases v <;> rfl
theorem word_num {v : Sv} {n : Nat} (g : Good v) (h : 3 < n) (h2 : n < v.words.length) : ∃ i, v.words[n] = numText i ∧ priceOk i := by
  cases v with
  | lane t a b =>
    have z : n < 4 := h2
    omega
  | avenue t a b =>
    have z : n < 4 := h2
    omega
  | road t a b i j =>
    have z : n < 6 := h2
    obtain ⟨_, _, g3, g4⟩ := g
    match n, h, h2 with
    | 4, _, _ => exact ⟨i, rfl, g3⟩
    | 5, _, _ => exact ⟨j, rfl, g4⟩
theorem word_name {v : Sv} {n : Nat} (g : Good v) (h : 1 ≤ n) (h3 : n ≤ 3) (h2 : n < v.words.length) : nameB v.words[n] = true := by
  have key : ∀ t a b : Str, okEnds t a b = true → nameB t = true ∧ nameB a = true ∧ nameB b = true := fun t a b z => ⟨(okEnds_iff z).1, (okEnds_iff z).2.1, (okEnds_iff z).2.2.1⟩
  cases v with
  | lane t a b =>
    obtain ⟨k1, k2, k3⟩ := key t a b g
    match n, h, h3, h2 with
    | 1, _, _, _ => exact k1
    | 2, _, _, _ => exact k2
    | 3, _, _, _ => exact k3
  | avenue t a b =>
    obtain ⟨k1, k2, k3⟩ := key t a b g.1
    match n, h, h3, h2 with
    | 1, _, _, _ => exact k1
    | 2, _, _, _ => exact k2
    | 3, _, _, _ => exact k3
  | road t a b i j =>
    obtain ⟨k1, k2, k3⟩ := key t a b g.1
    match n, h, h3, h2 with
    | 1, _, _, _ => exact k1
    | 2, _, _, _ => exact k2
    | 3, _, _, _ => exact k3
/-- the n-th word of a street's text can stand -/
def spCs (K : PySem.W.Frag) : Sp := fun vs H Q _ => ∃ (a : Addr) (v : Sv) (n : Nat), vs = [.ref a, .int (n : Int)] ∧ SqL K H a (v.words.map V.str) ∧ Good v ∧ 1 ≤ n ∧ n < v.words.length ∧ ∀ H', Same H H' → Q (.bl true) H'
theorem sc_can_stand : FnScope ["words", "at", "word"] ["words", "at"] (defScope s_can_stand) := ⟨rfl, rfl, rfl, by decide +kernel, rfl, by decide +kernel, by decide +kernel⟩
theorem p_can_stand (T : Tx K mg) : Prom P w K mg base 2 d_can_stand ["words", "at"] (spCs K) := by
  obtain ⟨fd, F⟩ := f_can_stand T
  obtain ⟨fdI, FI, GI, BI⟩ := p_ipw (P := P) (w := w) (base := base) T
  obtain ⟨fdN, FN, GN, BN⟩ := p_is_name (P := P) (w := w) (base := base) T
  refine ⟨fd, F, F.ok sc_can_stand (fun vs H Q E h => ?_) (fun cdv A outer s H vs Q E hr h => ?_), F.bindsN fun _ _ _ _ _ _ us hl => match us, hl with | [_, _], _ => rfl⟩
  · obtain ⟨a, v, n, rfl, _⟩ := h
    rfl
  · obtain ⟨a, v, n, rfl, ha, gd, n1, n2, k⟩ := h
    refine ⟨_, PSs.nox (pss_cons (ps_set (i := 2) sc_can_stand.nd rfl (Or.inl rfl) (pe_ix ix_list (pv 0) (pv 1) (fun _ _ => rfl)))
      (pss_cons (ps_if (pt_cmpR op_gt (pv 1) pe_int (nomark _)) (pss_one (ps_ret (pe_call GI (hr.mono (by decide)) rfl (g_is_price_word T) FI.kp BI .nil pass0 (pa_cons (pv 2) pa_nil)))) pss_nil)
      (pss_cons (ps_if (pt_not (pt_val (pe_call GN (hr.mono (by decide)) rfl (g_is_name T) FN.kp BN .nil pass0 (pa_cons (pv 2) pa_nil)))) (pss_one (ps_ret pe_bl)) pss_nil)
      (pss_cons (ps_if (PW.pt (pw_and (pt_cmpR op_eq (pv 1) pe_int (nomark _)) (pw_and1 (pt_cmpR op_eq (pe_ix ix_list (pv 0) pe_int (fun _ _ => rfl)) pe_str (nomark _))))) (pss_one (ps_ret (pe_cmpR op_ne (pv 2) (pe_ix ix_list (pv 0) pe_int (fun _ _ => rfl)) (nomark _)))) pss_nil)
      (pss_one (ps_ret (pe_or (pe_cmpR op_lt (pv 1) pe_int (nomark _)) (pe_one (pe_cmpR op_lt_str (pe_ix ix_list (pv 0) pe_int (fun _ _ => rfl)) (pv 2) (nomark _)))))))))), ?_⟩
    have hw : v.words[n]? = some v.words[n] := List.getElem?_eq_getElem n2
    refine ⟨_, rfl, _, rfl, a, _, _, _, rfl, rfl, ha, atI_nat (by rw [List.getElem?_map, hw]; rfl), ?_⟩
    refine ⟨_, rfl, _, _, rfl, rfl, _, rfl, ?_⟩
    by_cases h3 : 3 < n
    · obtain ⟨i, ei, hi⟩ := word_num gd h3 n2
      rw [decide_eq_true (show (3 : Int) < (n : Int) by omega)]
      refine iteT ⟨_, rfl, i, by rw [ei]; rfl, hi, fun H' s' => k H' s'⟩
    · have hn := word_name gd n1 (by omega) n2
      rw [decide_eq_false (show ¬ (3 : Int) < (n : Int) by omega)]
      refine iteF ⟨_, rfl, _, rfl, nameB_len hn, fun H1 s1 => ⟨_, rfl, ?_⟩⟩
      rw [hn]
      refine iteF ⟨_, rfl, rfl, _, rfl, ?_⟩
      have ha1 := s1.seq ha
      by_cases e3 : n = 3
      · subst e3
        rw [decide_eq_true (show V.int ((3 : Nat) : Int) = V.int 3 from rfl)]
        refine iteT ⟨_, rfl, a, _, 0, _, rfl, rfl, ha1, atI_nat (j := 0) (by rw [List.getElem?_map, word0]; rfl), rfl, _, rfl, ?_⟩
        cases v with
        | lane t b c =>
          obtain ⟨o1, o2, o3, o4⟩ := okEnds_iff (show okEnds t b c = true from gd)
          rw [decide_eq_true (show V.str (Sv.lane t b c).kind = V.str (Str.ofString "lane") from rfl)]
          refine iteT ⟨_, rfl, _, rfl, a, _, 2, _, rfl, rfl, ha1, atI_nat (j := 2) rfl, rfl, ?_⟩
          have z : decide (V.str c = V.str b) = false := decide_eq_false (fun z => o4 (V.str.inj z).symm)
          show Q (.bl (!decide (V.str c = V.str b))) H1
          rw [z]
          exact k _ s1
        | avenue t b c =>
          show (if (decide (V.str (Str.ofString "avenue") = V.str (Str.ofString "lane"))) = true then _ else _)
          rw [decide_eq_false (show ¬ V.str (Str.ofString "avenue") = V.str (Str.ofString "lane") by decide +kernel)]
          refine iteF ⟨_, rfl, _, _, rfl, rfl, _, rfl, ?_⟩
          rw [decide_eq_false (show ¬ ((3 : Nat) : Int) < 3 by decide)]
          refine iteF ⟨_, rfl, a, _, 2, _, rfl, rfl, ha1, atI_nat (j := 2) rfl, _, rfl, _, _, rfl, rfl, ?_⟩
          show Q (.bl (decide (b.cps.toList < c.cps.toList))) H1
          rw [decide_eq_true (show b.cps.toList < c.cps.toList from gd.2)]
          exact k _ s1
        | road t b c i j =>
          show (if (decide (V.str (Str.ofString "road") = V.str (Str.ofString "lane"))) = true then _ else _)
          rw [decide_eq_false (show ¬ V.str (Str.ofString "road") = V.str (Str.ofString "lane") by decide +kernel)]
          refine iteF ⟨_, rfl, _, _, rfl, rfl, _, rfl, ?_⟩
          rw [decide_eq_false (show ¬ ((3 : Nat) : Int) < 3 by decide)]
          refine iteF ⟨_, rfl, a, _, 2, _, rfl, rfl, ha1, atI_nat (j := 2) rfl, _, rfl, _, _, rfl, rfl, ?_⟩
          show Q (.bl (decide (b.cps.toList < c.cps.toList))) H1
          rw [decide_eq_true (show b.cps.toList < c.cps.toList from gd.2.1)]
          exact k _ s1
      · rw [decide_eq_false (show ¬ V.int (n : Int) = V.int 3 from fun z => e3 (by have z2 := V.int.inj z; omega))]
        refine iteF ⟨_, rfl, _, _, rfl, rfl, _, rfl, ?_⟩
        rw [decide_eq_true (show (n : Int) < 3 by omega)]
        exact iteT (k _ s1)
theorem kind3 (v : Sv) : v.kind = "lane" ∨ v.kind = "avenue" ∨ v.kind = "road" := by
  cases v
  · exact .inl rfl
  · exact .inr (.inl rfl)
  · exact .inr (.inr rfl)
theorem words6 {v : Sv} (h : v.kind = "road") : v.words.length = 6 := by
  cases v with
  | lane => exact absurd (show Str.ofString "lane" = Str.ofString "road" from h) (by decide +kernel)
  | avenue => exact absurd (show Str.ofString "avenue" = Str.ofString "road" from h) (by decide +kernel)
  | road => rfl
theorem words4 {v : Sv} (h : ¬ v.kind = "road") : v.words.length = 4 := by
  cases v with
  | lane => rfl
  | avenue => rfl
  | road => exact absurd rfl h
/-- no word of a street's text is wrong -/
def spFw (K : PySem.W.Frag) : Sp := fun vs H Q _ => ∃ (a b : Addr) (v : Sv), vs = [.ref a, .ref b] ∧ SqL K H a (v.words.map V.str) ∧ SqT K H b [.str "lane", .str "avenue", .str "road"] ∧ Good v ∧ ∀ H', Same H H' → Q .non H'
theorem sameT {H H' : Hp} {a : Addr} {xs : List V} (s : Same H H') (h : SqT K H a xs) : SqT K H' a xs := by
  rcases h with (h | ⟨o, h⟩) | h
  · exact .inl (.inl (s _ _ h))
  · exact .inl (.inr ⟨o, s _ _ h⟩)
  · exact .inr h
theorem sc_first_wrong : FnScope ["words", "kinds", "length", "at"] ["words", "kinds"] (defScope s_first_wrong) := ⟨rfl, rfl, rfl, by decide +kernel, rfl, by decide +kernel, by decide +kernel⟩
theorem p_first_wrong (T : Tx K mg) : Prom P w K mg base 3 d_first_wrong ["words", "kinds"] (spFw K) := by
  obtain ⟨fd, F⟩ := f_first_wrong T
  obtain ⟨fdS, FS, GS, BS⟩ := p_can_stand (P := P) (w := w) (base := base) T
  obtain ⟨tRW, hRW⟩ := i_ROAD_WORDS T (v := 6) rfl rfl
  obtain ⟨tSW, hSW⟩ := i_SETTLED_WORDS T (v := 4) rfl rfl
  refine ⟨fd, F, F.ok sc_first_wrong (fun vs H Q E h => ?_) (fun cdv A outer s H vs Q E hr h => ?_), F.bindsN fun _ _ _ _ _ _ us hl => match us, hl with | [_, _], _ => rfl⟩
  · obtain ⟨a, b, v, rfl, _⟩ := h
    rfl
  · obtain ⟨a, b, v, rfl, ha, hb, gd, k⟩ := h
    refine ⟨_, PSs.nox (pss_cons (ps_if (pt_cmpR op_notIn_seq (pe_ix ix_list (pv 0) pe_int (fun _ _ => rfl)) (pv 1) rfl) (pss_one (ps_ret pe_int)) pss_nil)
      (pss_cons (ps_set (i := 2) sc_first_wrong.nd rfl (Or.inl rfl) (pe_ifExp (pt_cmpR op_eq (pe_ix ix_list (pv 0) pe_int (fun _ _ => rfl)) pe_str (nomark _)) (pe_glob (v := .int 6) rfl hRW ⟨_, rfl⟩) (pe_glob (v := .int 4) rfl hSW ⟨_, rfl⟩)))
      (pss_cons (ps_for PassesOwn.never rfl (pi_range2 (by rfl) (n_range T) (pa_cons pe_int (pa_cons (pv 2) pa_nil))) (pg_name (i := 3) sc_first_wrong.nd rfl (Or.inl rfl)) (pss_one (ps_if (PW.pt (pw_or (pt_cmpR op_eq (pv 3) (pe_callB call_len_seq (by rfl) (n_len T) (by decide +kernel) (pa_cons (pv 0) pa_nil)) (nomark _)) (pw_or1 (pt_not (pt_val (pe_call GS (hr.mono (by decide)) rfl (g_can_stand T) FS.kp BS .nil pass0 (pa_cons (pv 0) (pa_cons (pv 3) pa_nil)))))))) (pss_one (ps_ret (pv 3))) pss_nil)))
      (pss_one (ps_ret (pe_ifExp (pt_cmpR op_gt (pe_callB call_len_seq (by rfl) (n_len T) (by decide +kernel) (pa_cons (pv 0) pa_nil)) (pv 2) (nomark _)) (pv 2) pe_non)))))), ?_⟩
    refine ⟨_, rfl, a, _, 0, _, rfl, rfl, ha, atI_nat (j := 0) (by rw [List.getElem?_map, word0]; rfl), ?_⟩
    refine ⟨_, rfl, b, _, rfl, .inr hb, rfl, rfl, _, rfl, ?_⟩
    have e : inV (V.str v.kind) [V.str "lane", V.str "avenue", V.str "road"] = true := by
      rcases kind3 v with h | h | h <;> rw [h] <;> decide +kernel
    show (if (!inV (V.str v.kind) [V.str "lane", V.str "avenue", V.str "road"]) = true then _ else _)
    rw [e]
    refine iteF ⟨_, rfl, a, _, 0, _, rfl, rfl, ha, atI_nat (j := 0) (by rw [List.getElem?_map, word0]; rfl), rfl, _, rfl, ?_⟩
    by_cases hk : v.kind = "road"
    · have hm := words6 hk
      show (if (decide (V.str v.kind = V.str (Str.ofString "road"))) = true then _ else _)
      rw [decide_eq_true (show V.str v.kind = V.str (Str.ofString "road") by rw [hk])]
      refine iteT ⟨_, rfl, 1, 6, rfl, by decide, ?_⟩
      refine for_range (lo := 1) (n := 5) (fun i σ H' => Same H H' ∧ ∃ v3, σ = [some (.ref a), some (.ref b), some (.int 6), v3]) ⟨Same.refl H, none, rfl⟩ ?_ ?_
      · rintro i σ H1 hi ⟨s1, v3, rfl⟩
        refine ⟨_, rfl, _, rfl, a, _, rfl, .inl (s1.seq ha), rfl, _, rfl, ?_⟩
        rw [List.length_map, hm, decide_eq_false (show ¬ V.int (1 + (i : Int)) = V.int ((6 : Nat) : Int) from fun z => by have z2 := V.int.inj z; omega)]
        refine iteF ⟨_, rfl, _, rfl, a, v, 1 + i, by rw [Int.natCast_add]; rfl, s1.seq ha, gd, by omega, by rw [hm]; omega, fun H2 s2 => ⟨_, rfl, iteF ?_⟩⟩
        exact ⟨s1.trans s2, _, rfl⟩
      · rintro σ H1 ⟨s1, v3, rfl⟩
        refine ⟨_, rfl, a, _, rfl, .inl (s1.seq ha), _, rfl, _, _, rfl, rfl, _, rfl, ?_⟩
        rw [List.length_map, hm]
        exact iteF (k _ s1)
    · have hm := words4 hk
      show (if (decide (V.str v.kind = V.str (Str.ofString "road"))) = true then _ else _)
      rw [decide_eq_false (show ¬ V.str v.kind = V.str (Str.ofString "road") from fun z => hk (V.str.inj z))]
      refine iteF ⟨_, rfl, 1, 4, rfl, by decide, ?_⟩
      refine for_range (lo := 1) (n := 3) (fun i σ H' => Same H H' ∧ ∃ v3, σ = [some (.ref a), some (.ref b), some (.int 4), v3]) ⟨Same.refl H, none, rfl⟩ ?_ ?_
      · rintro i σ H1 hi ⟨s1, v3, rfl⟩
        refine ⟨_, rfl, _, rfl, a, _, rfl, .inl (s1.seq ha), rfl, _, rfl, ?_⟩
        rw [List.length_map, hm, decide_eq_false (show ¬ V.int (1 + (i : Int)) = V.int ((4 : Nat) : Int) from fun z => by have z2 := V.int.inj z; omega)]
        refine iteF ⟨_, rfl, _, rfl, a, v, 1 + i, by rw [Int.natCast_add]; rfl, s1.seq ha, gd, by omega, by rw [hm]; omega, fun H2 s2 => ⟨_, rfl, iteF ?_⟩⟩
        exact ⟨s1.trans s2, _, rfl⟩
      · rintro σ H1 ⟨s1, v3, rfl⟩
        refine ⟨_, rfl, a, _, rfl, .inl (s1.seq ha), _, rfl, _, _, rfl, rfl, _, rfl, ?_⟩
        rw [List.length_map, hm]
        exact iteF (k _ s1)
end
end K10
namespace K10
open PySem PySem.Spec PyProof.Rows L2 Hx Gx Nx TL
section
variable {P : Program} {w : World} {K : PySem.W.Frag} {mg : Str → Option Value} {base : Heap}

theorem text_len {v : Sv} (g : Good v) : v.text.length ≤ 200 := by
  have z0 : Str.empty.length = 0 := rfl
  have z2 : (Str.ofString " ").length = 1 := by decide
  have zl : (Str.ofString "lane ").length = 5 := by decide
  have za : (Str.ofString "avenue ").length = 7 := by decide
  have zr : (Str.ofString "road ").length = 5 := by decide
  cases v with
  | lane t a b =>
    obtain ⟨o1, o2, o3, _⟩ := okEnds_iff (show okEnds t a b = true from g)
    have l1 := name8 o1
    have l2 := name8 o2
    have l3 := name8 o3
    simp only [Sv.text, Str.length_append]
    omega
  | avenue t a b =>
    obtain ⟨o1, o2, o3, _⟩ := okEnds_iff (show okEnds t a b = true from g.1)
    have l1 := name8 o1
    have l2 := name8 o2
    have l3 := name8 o3
    simp only [Sv.text, Str.length_append]
    omega
  | road t a b i j =>
    obtain ⟨g1, g2, g3, g4⟩ := g
    obtain ⟨o1, o2, o3, _⟩ := okEnds_iff g1
    have l1 := name8 o1
    have l2 := name8 o2
    have l3 := name8 o3
    have l4 := (numText_len g3).1
    have l5 := (numText_len g4).1
    simp only [Sv.text, Str.length_append]
    omega
def spRs (K : PySem.W.Frag) : Sp := fun vs H Q _ => ∃ (b : Addr) (v : Sv), vs = [.str v.text, .ref b] ∧ SqT K H b [.str "lane", .str "avenue", .str "road"] ∧ Good v ∧ ∀ (H' : Hp) (y : Addr), Same H H' → StAt K H' y v → Q (.ref y) H'
theorem sc_read_street : FnScope ["text", "kinds", "words", "wrong"] ["text", "kinds"] (defScope s_read_street) := ⟨rfl, rfl, rfl, by decide +kernel, rfl, by decide +kernel, by decide +kernel⟩
theorem p_read_street (T : Tx K mg) : Prom P w K mg base 6 d_read_street ["text", "kinds"] (spRs K) := by
  obtain ⟨fd, F⟩ := f_read_street T
  obtain ⟨fdW, FW, GW, BW⟩ := p_first_wrong (P := P) (w := w) (base := base) T
  obtain ⟨fdL, FL, GL, BL⟩ := p_Lane_init (P := P) (w := w) (base := base) T
  obtain ⟨fdA, FA, GA, BA⟩ := p_Avenue_init (P := P) (w := w) (base := base) T
  obtain ⟨fdR, FR, GR⟩ := p_Road_init (P := P) (w := w) (base := base) T
  have BR := br_Road FR
  refine ⟨fd, F, F.ok sc_read_street (fun vs H Q E h => ?_) (fun cdv A outer s H vs Q E hr h => ?_), F.bindsN fun _ _ _ _ _ _ us hl => match us, hl with | [_, _], _ => rfl⟩
  · obtain ⟨b, v, rfl, _⟩ := h
    rfl
  · obtain ⟨b, v, rfl, hb, gd, k⟩ := h
    refine ⟨_, PSs.nox (pss_cons (ps_if (pt_not (pt_val (pe_callB call_isi (by rfl) (n_isinstance T) (by decide +kernel) (pa_cons (pv 0) (pa_cons (pe_bltn (v := .ty "str") (by rfl) (n_str T) (by decide +kernel) rfl) pa_nil))))) (pss_one ps_never) pss_nil)
      (pss_cons (ps_set (i := 2) sc_read_street.nd rfl (Or.inl rfl) (pe_split (pv 0) pe_str))
      (pss_cons (ps_set (i := 3) sc_read_street.nd rfl (Or.inl rfl) (pe_call GW (hr.mono (by decide)) rfl (g_first_wrong T) FW.kp BW .nil pass0 (pa_cons (pv 2) (pa_cons (pv 1) pa_nil))))
      (pss_cons (ps_if (pt_cmpR op_notN (pv 3) pe_non (nomark _)) (pss_one ps_never) pss_nil)
      (pss_cons (ps_if (pt_cmpR op_eq (pe_ix ix_list (pv 2) pe_int (fun _ _ => rfl)) pe_str (nomark _)) (pss_one (ps_ret (pe_make (mk_Lane T) GL (hr.mono (by decide)) rfl (g_Lane T) BL .nil pass0 (pa_cons (pe_ix ix_list (pv 2) pe_int (fun _ _ => rfl)) (pa_cons (pe_ix ix_list (pv 2) pe_int (fun _ _ => rfl)) (pa_cons (pe_ix ix_list (pv 2) pe_int (fun _ _ => rfl)) pa_nil)))))) pss_nil)
      (pss_cons (ps_if (pt_cmpR op_eq (pe_ix ix_list (pv 2) pe_int (fun _ _ => rfl)) pe_str (nomark _)) (pss_one (ps_ret (pe_make (mk_Avenue T) GA (hr.mono (by decide)) rfl (g_Avenue T) BA .nil pass0 (pa_cons (pe_ix ix_list (pv 2) pe_int (fun _ _ => rfl)) (pa_cons (pe_ix ix_list (pv 2) pe_int (fun _ _ => rfl)) (pa_cons (pe_ix ix_list (pv 2) pe_int (fun _ _ => rfl)) pa_nil)))))) pss_nil)
      (pss_one (ps_ret (pe_make (mk_Road T) GR (hr.mono (by decide)) rfl (g_Road T) BR .nil pass0 (pa_cons (pe_ix ix_list (pv 2) pe_int (fun _ _ => rfl)) (pa_cons (pe_ix ix_list (pv 2) pe_int (fun _ _ => rfl)) (pa_cons (pe_ix ix_list (pv 2) pe_int (fun _ _ => rfl)) (pa_cons (pe_callTy call_int_str (by rfl) (n_int T) (by decide +kernel) (pa_cons (pe_ix ix_list (pv 2) pe_int (fun _ _ => rfl)) pa_nil)) (pa_cons (pe_callTy call_int_str (by rfl) (n_int T) (by decide +kernel) (pa_cons (pe_ix ix_list (pv 2) pe_int (fun _ _ => rfl)) pa_nil)) pa_nil)))))))))))))), ?_⟩
    have tl200 := text_len gd
    have sl : (1000 : Nat) ≤ sizeLine := by decide
    refine ⟨_, rfl, _, _, _, _, true, rfl, .ty "str", .base (.str _), kit_ty (by decide +kernel), _, rfl, ?_⟩
    refine iteF ⟨_, rfl, ⟨_, rfl⟩, _, _, rfl, rfl, by decide, by omega, fun u hu => ?_⟩
    rw [text_words gd]
    have s1 := new_same hu (.lst (v.words.map V.str))
    have q1 : (upd H u (.lst (v.words.map V.str))) u = some (.lst (v.words.map V.str)) := upd_same
    generalize upd H u (.lst (v.words.map V.str)) = H1 at s1 q1
    refine ⟨_, rfl, _, rfl, u, b, v, rfl, SqL.of q1, sameT s1 hb, gd, fun H2 s2 => ?_⟩
    have q2 := s2 _ _ q1
    have s12 := s1.trans s2
    refine ⟨_, rfl, rfl, _, rfl, ?_⟩
    refine iteF ⟨_, rfl, u, _, 0, _, rfl, rfl, SqL.of q2, atI_nat (j := 0) (by rw [List.getElem?_map, word0]; rfl), rfl, _, rfl, ?_⟩
    cases v with
    | lane t a c =>
      show (if (decide (V.str (Str.ofString "lane") = V.str (Str.ofString "lane"))) = true then _ else _)
      rw [decide_eq_true rfl]
      exact iteT ⟨_, rfl, u, _, 1, _, rfl, rfl, SqL.of q2, atI_nat (j := 1) rfl, _, rfl, u, _, 2, _, rfl, rfl, SqL.of q2, atI_nat (j := 2) rfl, _, rfl, u, _, 3, _, rfl, rfl, SqL.of q2, atI_nat (j := 3) rfl, fun y ey i1 i2 i3 => ⟨y, ey, t, a, c, rfl, gd, upd_same, fun H' bt e => ⟨rfl, k _ y (s12.trans (made_same i1 i2 bt)) ⟨ey, e⟩⟩⟩⟩
    | avenue t a c =>
      obtain ⟨g1, g2⟩ := gd
      show (if (decide (V.str (Str.ofString "avenue") = V.str (Str.ofString "lane"))) = true then _ else _)
      rw [decide_eq_false (show ¬ V.str (Str.ofString "avenue") = V.str (Str.ofString "lane") by decide +kernel)]
      refine iteF ⟨_, rfl, u, _, 0, _, rfl, rfl, SqL.of q2, atI_nat (j := 0) rfl, rfl, _, rfl, ?_⟩
      show (if (decide (V.str (Str.ofString "avenue") = V.str (Str.ofString "avenue"))) = true then _ else _)
      rw [decide_eq_true rfl]
      exact iteT ⟨_, rfl, u, _, 1, _, rfl, rfl, SqL.of q2, atI_nat (j := 1) rfl, _, rfl, u, _, 2, _, rfl, rfl, SqL.of q2, atI_nat (j := 2) rfl, _, rfl, u, _, 3, _, rfl, rfl, SqL.of q2, atI_nat (j := 3) rfl, fun y ey i1 i2 i3 => ⟨y, ey, t, a, c, rfl, g1, upd_same, fun H' bt e => ⟨rfl, k _ y (s12.trans (made_same i1 i2 bt)) ⟨ey, by rw [mkAv_lt g2] at e; exact e⟩⟩⟩⟩
    | road t a c i j =>
      obtain ⟨g1, g2, g3, g4⟩ := gd
      have l4 : (numText i).length ≤ 640 := by have := (numText_len g3).1; omega
      have l5 : (numText j).length ≤ 640 := by have := (numText_len g4).1; omega
      show (if (decide (V.str (Str.ofString "road") = V.str (Str.ofString "lane"))) = true then _ else _)
      rw [decide_eq_false (show ¬ V.str (Str.ofString "road") = V.str (Str.ofString "lane") by decide +kernel)]
      refine iteF ⟨_, rfl, u, _, 0, _, rfl, rfl, SqL.of q2, atI_nat (j := 0) rfl, rfl, _, rfl, ?_⟩
      show (if (decide (V.str (Str.ofString "road") = V.str (Str.ofString "avenue"))) = true then _ else _)
      rw [decide_eq_false (show ¬ V.str (Str.ofString "road") = V.str (Str.ofString "avenue") by decide +kernel)]
      exact iteF ⟨_, rfl, u, _, 1, _, rfl, rfl, SqL.of q2, atI_nat (j := 1) rfl, _, rfl, u, _, 2, _, rfl, rfl, SqL.of q2, atI_nat (j := 2) rfl, _, rfl, u, _, 3, _, rfl, rfl, SqL.of q2, atI_nat (j := 3) rfl, _, rfl, u, _, 4, _, rfl, rfl, SqL.of q2, atI_nat (j := 4) rfl, _, i, rfl, num_reads_all g3, l4, _, rfl, u, _, 5, _, rfl, rfl, SqL.of q2, atI_nat (j := 5) rfl, _, j, rfl, num_reads_all g4, l5, fun y ey i1 i2 i3 => ⟨y, ey, t, a, c, i, j, rfl, g1, g3, g4, upd_same, fun H' bt e => ⟨rfl, k _ y (s12.trans (made_same i1 i2 bt)) ⟨ey, by rw [mkRd_lt g2] at e; exact e⟩⟩⟩⟩
def spRead (K : PySem.W.Frag) : Sp := fun vs H Q _ => ∃ (v : Sv), vs = [.ref (He.ga K "Street"), .str v.text] ∧ Good v ∧ ∀ (H' : Hp) (y : Addr), Same H H' → StAt K H' y v → Q (.ref y) H'
theorem sc_read : FnScope ["cls", "text"] ["cls", "text"] (defScope s_Street_read) := ⟨rfl, rfl, rfl, by decide +kernel, rfl, by decide +kernel, by decide +kernel⟩
theorem p_read (T : Tx K mg) : Prom P w K mg base 7 d_Street_read ["cls", "text"] (spRead K) := by
  obtain ⟨fd, F⟩ := f_Street_read T
  obtain ⟨fdZ, FZ, GZ, BZ⟩ := p_read_street (P := P) (w := w) (base := base) T
  obtain ⟨ct1, ct2⟩ := ct_Street_KINDS T
  refine ⟨fd, F, F.ok sc_read (fun vs H Q E h => ?_) (fun cdv A outer s H vs Q E hr h => ?_), F.bindsN fun _ _ _ _ _ _ us hl => match us, hl with | [_, _], _ => rfl⟩
  · obtain ⟨v, rfl, _⟩ := h
    rfl
  · obtain ⟨v, rfl, gd, k⟩ := h
    refine ⟨_, PSs.nox (pss_one (ps_ret (pe_call GZ (hr.mono (by decide)) rfl (g_read_street T) FZ.kp BZ .nil pass0 (pa_cons (pv 1) (pa_cons (ClX.pe_cval (pv 0)) pa_nil))))), ?_⟩
    exact ⟨_, rfl, _, rfl, _, _, _, _, rfl, cr_Street T, ct1, _, v, rfl, ct2 _, gd, k⟩
end
end K10
namespace K10
open PySem PySem.Spec PyProof.Rows L2 Hx Gx Nx TL
section
variable {P : Program} {w : World} {K : PySem.W.Frag} {mg : Str → Option Value} {base : Heap}

theorem letter_at {d : Int} (h0 : 0 ≤ d) (h1 : d < 26) : ∃ c, atI (Str.ofString "abcdefghijklmnopqrstuvwxyz").cps.toList d = some c ∧ isLow c = true := by
  have e : (Str.ofString "abcdefghijklmnopqrstuvwxyz").cps.toList = [97, 98, 99, 100, 101, 102, 103, 104, 105, 106, 107, 108, 109, 110, 111, 112, 113, 114, 115, 116, 117, 118, 119, 120, 121, 122] := by decide +kernel
  rw [e]
  obtain ⟨n, rfl⟩ : ∃ n : Nat, d = (n : Int) := ⟨d.toNat, by omega⟩
  have hn : n < ([97, 98, 99, 100, 101, 102, 103, 104, 105, 106, 107, 108, 109, 110, 111, 112, 113, 114, 115, 116, 117, 118, 119, 120, 121, 122] : List Nat).length := by
    show n < 26
    omega
  refine ⟨_, atI_nat (List.getElem?_eq_getElem hn), ?_⟩
  have z : ([97, 98, 99, 100, 101, 102, 103, 104, 105, 106, 107, 108, 109, 110, 111, 112, 113, 114, 115, 116, 117, 118, 119, 120, 121, 122] : List Nat).all isLow = true := by decide
  exact List.all_eq_true.mp z _ (List.getElem_mem hn)
def spWord : Sp := fun vs H Q _ => ∃ (p : Addr) (n : Nat), vs = [.ref p] ∧ PenAt H p n ∧ n ≤ 90000 ∧ ∀ (H' : Hp) (x : Str), But p H H' → PenAt H' p (n + 9) → nameB x = true → Q (.str x) H'
theorem sc_word : FnScope ["_law_pen_here", "_law_found", "_law_turn"] ["_law_pen_here"] (defScope s__law_word) := ⟨rfl, rfl, rfl, by decide +kernel, rfl, by decide +kernel, by decide +kernel⟩
theorem p_word (T : Tx K mg) : Prom P w K mg base 3 d__law_word ["_law_pen_here"] spWord := by
  obtain ⟨fd, F⟩ := f__law_word T
  obtain ⟨fdP, FP, GP, BP⟩ := p_pick (P := P) (w := w) (base := base) T
  obtain ⟨fdD, FD, GD, BD⟩ := p_draw (P := P) (w := w) (base := base) T
  refine ⟨fd, F, F.ok sc_word (fun vs H Q E h => ?_) (fun cdv A outer s H vs Q E hr h => ?_), F.bindsN fun _ _ _ _ _ _ us hl => match us, hl with | [_], _ => rfl⟩
  · obtain ⟨p, n, rfl, _⟩ := h
    rfl
  · obtain ⟨p, n, rfl, hp, hn, k⟩ := h
    refine ⟨_, PSs.nox (pss_cons (ps_set (i := 1) sc_word.nd rfl (Or.inl rfl) pe_str)
      (pss_cons (ps_for PassesOwn.never rfl (pi_range1 (by rfl) (n_range T) (pa_cons (pe_call GP (hr.mono (by decide)) rfl (g__law_pick T) FP.kp BP .nil pass0 (pa_cons (pv 0) (pa_cons (pe_lst (pa_cons pe_int (pa_cons pe_int (pa_cons pe_int (pa_cons pe_int pa_nil))))) pa_nil))) pa_nil)) (pg_name (i := 2) sc_word.nd rfl (Or.inl rfl)) (pss_one (ps_set (i := 1) sc_word.nd rfl (Or.inl rfl) (pe_op op_add_str (pv 1) (pe_ix ix_str pe_str (pe_call GD (hr.mono (by decide)) rfl (g__law_draw T) FD.kp BD .nil pass0 (pa_cons (pv 0) (pa_cons pe_int pa_nil))) (fun _ _ => rfl))))))
      (pss_one (ps_ret (pv 1))))), ?_⟩
    have sl : (100 : Nat) ≤ sizeLine := by decide
    refine ⟨_, rfl, (by show 4 ≤ sizeLine; decide), fun l1 n1 => ⟨p, l1, n, _, rfl, hp.new n1, by omega, SqL.of upd_same, (hp.ne n1).symm, by decide, by decide, ?_⟩⟩
    intro H1 kv b1 p1 m1
    have B1 : But p H H1 := ((But.refl p H).new n1).trans b1
    obtain ⟨m, rfl, hm⟩ : ∃ m : Nat, kv = .int (m : Int) ∧ (1 ≤ m ∧ m ≤ 8) := by
      simp only [List.mem_cons, List.not_mem_nil, or_false] at m1
      rcases m1 with rfl | rfl | rfl | rfl
      · exact ⟨1, rfl, by omega⟩
      · exact ⟨1, rfl, by omega⟩
      · exact ⟨2, rfl, by omega⟩
      · exact ⟨8, rfl, by omega⟩
    refine ⟨(m : Int), rfl, by omega, by omega, for_range (n := m) (fun i σ H' => But p H H' ∧ PenAt H' p (n + 1 + i) ∧ ∃ (x : Str) (v : Option V), σ = [some (.ref p), some (.str x), v] ∧ x.cps.toList.length = i ∧ x.cps.toList.all isLow = true) ⟨B1, p1, Str.ofString "", none, rfl, rfl, rfl⟩ ?_ ?_⟩
    · rintro i σ H2 hi ⟨B2, p2, x, v, rfl, lx, ax⟩
      refine ⟨_, rfl, _, rfl, p, _, 26, rfl, p2, by omega, by decide, by decide, ?_⟩
      intro H3 d b3 p3 d0 d1
      obtain ⟨c, hc, lc⟩ := letter_at d0 d1
      have lx2 : x.length = i := by rw [← lx]; exact (Array.length_toList).symm
      refine ⟨_, _, c, rfl, rfl, by decide, hc, _, _, rfl, rfl, ?_, B2.trans b3, p3, _, _, rfl, ?_, ?_⟩
      · show x.length + 1 ≤ sizeLine
        omega
      · rw [Str.cps_append, Array.toList_append, List.length_append, lx]
        rfl
      · rw [Str.cps_append, Array.toList_append, List.all_append, ax]
        show ([c].all isLow) = true
        simp [lc]
    · rintro σ H2 ⟨B2, p2, x, v, rfl, lx, ax⟩
      refine ⟨_, rfl, k H2 x B2 (p2.mono (by omega)) ?_⟩
      have lx2 : x.length = m := by rw [← lx]; exact (Array.length_toList).symm
      unfold nameB
      rw [decide_eq_true (show 1 ≤ x.length by omega), decide_eq_true (show x.length ≤ 8 by omega), ax]
      rfl
theorem PenAt.same {H H' : Hp} {p : Addr} {n : Nat} (h : PenAt H p n) (s : Same H H') : PenAt H' p n := by
  obtain ⟨c, ns, a, r, h1, h2, h3, h4⟩ := h
  exact ⟨c, ns, a, r, s _ _ h1, h2, s _ _ h3, h4⟩
theorem lt_swap {a b : Str} (n : a ≠ b) (h : ¬ strLt a b) : strLt b a := by
  have h1 : ¬ a.cps.toList < b.cps.toList := h
  have h2 : a.cps.toList ≠ b.cps.toList := fun z => n (ext_tl z)
  show b.cps.toList < a.cps.toList
  have h3 : b.cps.toList ≤ a.cps.toList := List.not_lt.mp h1
  rcases Decidable.em (b.cps.toList < a.cps.toList) with h4 | h4
  · exact h4
  · exact absurd (List.le_antisymm (List.not_lt.mp h4) h3) h2
def spStreet (K : PySem.W.Frag) : Sp := fun vs H Q _ => ∃ (p : Addr) (n : Nat), vs = [.ref p] ∧ PenAt H p n ∧ n ≤ 80000 ∧ ∀ (H' : Hp) (x : Addr) (v : Sv), But p H H' → PenAt H' p (n + 30) → StAt K H' x v → Good v → Q (.ref x) H'
theorem good_mkAv {t a b : Str} (h : okEnds t a b = true) : Good (mkAv t a b) := by
  unfold mkAv
  split
  · rename_i z
    exact ⟨h, z⟩
  · rename_i z
    exact ⟨okEnds_swap h, lt_swap (okEnds_iff h).2.2.2 z⟩
theorem good_mkRd {t a b : Str} {i j : Int} (h : okEnds t a b = true) (hi : priceOk i) (hj : priceOk j) : Good (mkRd t a b i j) := by
  unfold mkRd
  split
  · rename_i z
    exact ⟨h, z, hi, hj⟩
  · rename_i z
    exact ⟨okEnds_swap h, lt_swap (okEnds_iff h).2.2.2 z, hj, hi⟩
theorem sc_street : FnScope ["_law_pen_here", "_law_first", "_law_second", "_law_way", "_law_title"] ["_law_pen_here"] (defScope s__law_street) := ⟨rfl, rfl, rfl, by decide +kernel, rfl, by decide +kernel, by decide +kernel⟩
theorem p_street (T : Tx K mg) : Prom P w K mg base 6 d__law_street ["_law_pen_here"] (spStreet K) := by
  obtain ⟨fd, F⟩ := f__law_street T
  obtain ⟨fdD, FD, GD, BD⟩ := p_draw (P := P) (w := w) (base := base) T
  obtain ⟨fdW, FW, GW, BW⟩ := p_word (P := P) (w := w) (base := base) T
  obtain ⟨fdL, FL, GL, BL⟩ := p_Lane_init (P := P) (w := w) (base := base) T
  obtain ⟨fdA, FA, GA, BA⟩ := p_Avenue_init (P := P) (w := w) (base := base) T
  obtain ⟨fdR, FR, GR⟩ := p_Road_init (P := P) (w := w) (base := base) T
  have BR := br_Road FR
  refine ⟨fd, F, F.ok sc_street (fun vs H Q E h => ?_) (fun cdv A outer s H vs Q E hr h => ?_), F.bindsN fun _ _ _ _ _ _ us hl => match us, hl with | [_], _ => rfl⟩
  · obtain ⟨p, n, rfl, _⟩ := h
    rfl
  · obtain ⟨p, n, rfl, hp, hn, k⟩ := h
    refine ⟨_, PSs.nox (pss_cons (ps_par (i := 1) (j := 2) (by rfl) sc_street.nd rfl rfl (by decide) rfl rfl (pa_cons (pe_call GW (hr.mono (by decide)) rfl (g__law_word T) FW.kp BW .nil pass0 (pa_cons (pv 0) pa_nil)) (pa_cons (pe_call GW (hr.mono (by decide)) rfl (g__law_word T) FW.kp BW .nil pass0 (pa_cons (pv 0) pa_nil)) pa_nil)) (by rfl))
      (pss_cons (ps_if (pt_cmpR op_eq (pv 1) (pv 2) (nomark _)) (pss_one (ps_set (i := 2) sc_street.nd rfl (Or.inl rfl) (pe_ifExp (pt_cmpR op_ne (pv 1) pe_str (nomark _)) pe_str pe_str))) pss_nil)
      (pss_cons (ps_par (i := 3) (j := 4) (by rfl) sc_street.nd rfl rfl (by decide) rfl rfl (pa_cons (pe_call GD (hr.mono (by decide)) rfl (g__law_draw T) FD.kp BD .nil pass0 (pa_cons (pv 0) (pa_cons pe_int pa_nil))) (pa_cons (pe_call GW (hr.mono (by decide)) rfl (g__law_word T) FW.kp BW .nil pass0 (pa_cons (pv 0) pa_nil)) pa_nil)) (by rfl))
      (pss_cons (ps_if (pt_cmpR op_eq (pv 3) pe_int (nomark _)) (pss_one (ps_ret (pe_make (mk_Lane T) GL (hr.mono (by decide)) rfl (g_Lane T) BL .nil pass0 (pa_cons (pv 4) (pa_cons (pv 1) (pa_cons (pv 2) pa_nil)))))) pss_nil)
      (pss_cons (ps_if (pt_cmpR op_eq (pv 3) pe_int (nomark _)) (pss_one (ps_ret (pe_make (mk_Avenue T) GA (hr.mono (by decide)) rfl (g_Avenue T) BA .nil pass0 (pa_cons (pv 4) (pa_cons (pv 1) (pa_cons (pv 2) pa_nil)))))) pss_nil)
      (pss_one (ps_ret (pe_make (mk_Road T) GR (hr.mono (by decide)) rfl (g_Road T) BR .nil pass0 (pa_cons (pv 4) (pa_cons (pv 1) (pa_cons (pv 2) (pa_cons (pe_op op_sub (pe_call GD (hr.mono (by decide)) rfl (g__law_draw T) FD.kp BD .nil pass0 (pa_cons (pv 0) (pa_cons (pe_op op_pow pe_int pe_int) pa_nil))) (pe_op op_pow pe_int pe_int)) (pa_cons (pe_op op_sub (pe_call GD (hr.mono (by decide)) rfl (g__law_draw T) FD.kp BD .nil pass0 (pa_cons (pv 0) (pa_cons pe_int pa_nil))) pe_int) pa_nil))))))))))))), ?_⟩
    refine ⟨_, rfl, p, n, rfl, hp, by omega, fun H1 a b1 p1 na => ?_⟩
    refine ⟨_, rfl, p, _, rfl, p1, by omega, fun H2 b b2 p2 nb => ⟨_, _, rfl, ?_⟩⟩
    have B2 := b1.trans b2
    refine ⟨_, rfl, _, rfl, rfl, _, rfl, ?_⟩
    by_cases hab : a = b
    · rw [decide_eq_true (show V.str a = V.str b by rw [hab])]
      refine iteT ⟨_, rfl, rfl, _, rfl, ?_⟩
      by_cases ha : a = "a"
      · rw [decide_eq_true (show V.str a = V.str (Str.ofString "a") by rw [ha])]
        refine iteF ?_
        have nab : a ≠ "b" := by rw [ha]; decide +kernel
        have nbb : nameB "b" = true := by decide +kernel
        refine ⟨_, rfl, p, _, 4, rfl, p2, by omega, by decide, by decide, fun H3 w0 b3 p3 _ _ => ?_⟩
        refine ⟨_, rfl, p, _, rfl, p3, by omega, fun H4 t b4 p4 nt => ⟨_, _, rfl, ?_⟩⟩
        have B4 := (B2.trans b3).trans b4
        have ok := okEnds_mk nt na nbb nab
        refine ⟨_, rfl, rfl, _, rfl, ?_⟩
        refine ite2 (fun e => ?_) (fun e => ?_)
        · refine ⟨_, rfl, _, rfl, _, rfl, fun y ey i1 i2 i3 => ⟨y, ey, t, a, "b", rfl, ok, upd_same, fun H' bt e => ⟨rfl, ?_⟩⟩⟩
          have s := made_same i1 i2 bt
          exact k _ y (.lane t a "b") (B4.trans (But.of s)) ((p4.same s).mono (by omega)) ⟨ey, e⟩ ok
        refine ⟨_, rfl, rfl, _, rfl, ?_⟩
        refine ite2 (fun e => ?_) (fun e => ?_)
        · refine ⟨_, rfl, _, rfl, _, rfl, fun y ey i1 i2 i3 => ⟨y, ey, t, a, "b", rfl, ok, upd_same, fun H' bt e => ⟨rfl, ?_⟩⟩⟩
          have s := made_same i1 i2 bt
          exact k _ y (mkAv t a "b") (B4.trans (But.of s)) ((p4.same s).mono (by omega)) ⟨ey, by rw [cls_mkAv]; exact e⟩ (good_mkAv ok)
        refine ⟨_, rfl, _, rfl, _, rfl, _, rfl, _, _, rfl, rfl, ⟨by decide, by decide, by decide⟩, p, _, _, rfl, p4, by omega, by decide, by decide, fun H5 d1 b5 p5 g1 g2 => ?_⟩
        refine ⟨_, _, rfl, rfl, ⟨by decide, by decide, by decide⟩, _, _, rfl, rfl, ?_⟩
        refine ⟨_, rfl, p, _, 9, rfl, p5, by omega, by decide, by decide, fun H6 d2 b6 p6 g3 g4 => ⟨_, _, rfl, rfl, ?_⟩⟩
        have e12 : (10 : Int) ^ Int.toNat 12 = 1000000000000 := by decide
        have e11 : (10 : Int) ^ Int.toNat 11 = 100000000000 := by decide
        have q1 : priceOk (d1 - 10 ^ Int.toNat 11) := ⟨by rw [e11]; omega, by rw [e11]; rw [e12] at g2; omega⟩
        have q2 : priceOk (d2 - 4) := ⟨by omega, by omega⟩
        refine fun y ey i1 i2 i3 => ⟨y, ey, t, a, "b", _, _, rfl, ok, q1, q2, upd_same, fun H' bt e => ⟨rfl, ?_⟩⟩
        have s := made_same i1 i2 bt
        exact k _ y (mkRd t a "b" _ _) (((B4.trans b5).trans b6).trans (But.of s)) ((p6.same s).mono (by omega)) ⟨ey, by rw [cls_mkRd]; exact e⟩ (good_mkRd ok q1 q2)
      · rw [decide_eq_false (show ¬ V.str a = V.str (Str.ofString "a") from fun z => ha (V.str.inj z))]
        refine iteT ?_
        have naa : nameB "a" = true := by decide +kernel
        refine ⟨_, rfl, p, _, 4, rfl, p2, by omega, by decide, by decide, fun H3 w0 b3 p3 _ _ => ?_⟩
        refine ⟨_, rfl, p, _, rfl, p3, by omega, fun H4 t b4 p4 nt => ⟨_, _, rfl, ?_⟩⟩
        have B4 := (B2.trans b3).trans b4
        have ok := okEnds_mk nt na naa ha
        refine ⟨_, rfl, rfl, _, rfl, ?_⟩
        refine ite2 (fun e => ?_) (fun e => ?_)
        · refine ⟨_, rfl, _, rfl, _, rfl, fun y ey i1 i2 i3 => ⟨y, ey, t, a, "a", rfl, ok, upd_same, fun H' bt e => ⟨rfl, ?_⟩⟩⟩
          have s := made_same i1 i2 bt
          exact k _ y (.lane t a "a") (B4.trans (But.of s)) ((p4.same s).mono (by omega)) ⟨ey, e⟩ ok
        refine ⟨_, rfl, rfl, _, rfl, ?_⟩
        refine ite2 (fun e => ?_) (fun e => ?_)
        · refine ⟨_, rfl, _, rfl, _, rfl, fun y ey i1 i2 i3 => ⟨y, ey, t, a, "a", rfl, ok, upd_same, fun H' bt e => ⟨rfl, ?_⟩⟩⟩
          have s := made_same i1 i2 bt
          exact k _ y (mkAv t a "a") (B4.trans (But.of s)) ((p4.same s).mono (by omega)) ⟨ey, by rw [cls_mkAv]; exact e⟩ (good_mkAv ok)
        refine ⟨_, rfl, _, rfl, _, rfl, _, rfl, _, _, rfl, rfl, ⟨by decide, by decide, by decide⟩, p, _, _, rfl, p4, by omega, by decide, by decide, fun H5 d1 b5 p5 g1 g2 => ?_⟩
        refine ⟨_, _, rfl, rfl, ⟨by decide, by decide, by decide⟩, _, _, rfl, rfl, ?_⟩
        refine ⟨_, rfl, p, _, 9, rfl, p5, by omega, by decide, by decide, fun H6 d2 b6 p6 g3 g4 => ⟨_, _, rfl, rfl, ?_⟩⟩
        have e12 : (10 : Int) ^ Int.toNat 12 = 1000000000000 := by decide
        have e11 : (10 : Int) ^ Int.toNat 11 = 100000000000 := by decide
        have q1 : priceOk (d1 - 10 ^ Int.toNat 11) := ⟨by rw [e11]; omega, by rw [e11]; rw [e12] at g2; omega⟩
        have q2 : priceOk (d2 - 4) := ⟨by omega, by omega⟩
        refine fun y ey i1 i2 i3 => ⟨y, ey, t, a, "a", _, _, rfl, ok, q1, q2, upd_same, fun H' bt e => ⟨rfl, ?_⟩⟩
        have s := made_same i1 i2 bt
        exact k _ y (mkRd t a "a" _ _) (((B4.trans b5).trans b6).trans (But.of s)) ((p6.same s).mono (by omega)) ⟨ey, by rw [cls_mkRd]; exact e⟩ (good_mkRd ok q1 q2)
    · rw [decide_eq_false (show ¬ V.str a = V.str b from fun z => hab (V.str.inj z))]
      refine iteF ?_
      refine ⟨_, rfl, p, _, 4, rfl, p2, by omega, by decide, by decide, fun H3 w0 b3 p3 _ _ => ?_⟩
      refine ⟨_, rfl, p, _, rfl, p3, by omega, fun H4 t b4 p4 nt => ⟨_, _, rfl, ?_⟩⟩
      have B4 := (B2.trans b3).trans b4
      have ok := okEnds_mk nt na nb hab
      refine ⟨_, rfl, rfl, _, rfl, ?_⟩
      refine ite2 (fun e => ?_) (fun e => ?_)
      · refine ⟨_, rfl, _, rfl, _, rfl, fun y ey i1 i2 i3 => ⟨y, ey, t, a, b, rfl, ok, upd_same, fun H' bt e => ⟨rfl, ?_⟩⟩⟩
        have s := made_same i1 i2 bt
        exact k _ y (.lane t a b) (B4.trans (But.of s)) ((p4.same s).mono (by omega)) ⟨ey, e⟩ ok
      refine ⟨_, rfl, rfl, _, rfl, ?_⟩
      refine ite2 (fun e => ?_) (fun e => ?_)
      · refine ⟨_, rfl, _, rfl, _, rfl, fun y ey i1 i2 i3 => ⟨y, ey, t, a, b, rfl, ok, upd_same, fun H' bt e => ⟨rfl, ?_⟩⟩⟩
        have s := made_same i1 i2 bt
        exact k _ y (mkAv t a b) (B4.trans (But.of s)) ((p4.same s).mono (by omega)) ⟨ey, by rw [cls_mkAv]; exact e⟩ (good_mkAv ok)
      refine ⟨_, rfl, _, rfl, _, rfl, _, rfl, _, _, rfl, rfl, ⟨by decide, by decide, by decide⟩, p, _, _, rfl, p4, by omega, by decide, by decide, fun H5 d1 b5 p5 g1 g2 => ?_⟩
      refine ⟨_, _, rfl, rfl, ⟨by decide, by decide, by decide⟩, _, _, rfl, rfl, ?_⟩
      refine ⟨_, rfl, p, _, 9, rfl, p5, by omega, by decide, by decide, fun H6 d2 b6 p6 g3 g4 => ⟨_, _, rfl, rfl, ?_⟩⟩
      have e12 : (10 : Int) ^ Int.toNat 12 = 1000000000000 := by decide
      have e11 : (10 : Int) ^ Int.toNat 11 = 100000000000 := by decide
      have q1 : priceOk (d1 - 10 ^ Int.toNat 11) := ⟨by rw [e11]; omega, by rw [e11]; rw [e12] at g2; omega⟩
      have q2 : priceOk (d2 - 4) := ⟨by omega, by omega⟩
      refine fun y ey i1 i2 i3 => ⟨y, ey, t, a, b, _, _, rfl, ok, q1, q2, upd_same, fun H' bt e => ⟨rfl, ?_⟩⟩
      have s := made_same i1 i2 bt
      exact k _ y (mkRd t a b _ _) (((B4.trans b5).trans b6).trans (But.of s)) ((p6.same s).mono (by omega)) ⟨ey, by rw [cls_mkRd]; exact e⟩ (good_mkRd ok q1 q2)
end
end K10
namespace K10
open PySem PySem.Spec PyProof.Rows L2 Hx Gx Nx TL
theorem fs_no (v : Sv) {m : Str} (h1 : ¬ m = "name") (h2 : ¬ m = "start") (h3 : ¬ m = "goal") (h4 : ¬ m = "one") (h5 : ¬ m = "other") (h6 : ¬ m = "there") (h7 : ¬ m = "back") : v.fs.lookup m = none := by
  cases v with
  | lane t a b =>
    show (lf t a b).lookup m = none
    unfold lf
    rw [lookup_putF, if_neg h3, lookup_putF, if_neg h2, lookup_putF, if_neg h1]
    rfl
  | avenue t a b =>
    show (af t a b).lookup m = none
    unfold af
    rw [lookup_putF, if_neg h5, lookup_putF, if_neg h4, lookup_putF, if_neg h1]
    rfl
  | road t a b i j =>
    show (rf t a b i j).lookup m = none
    unfold rf
    rw [lookup_putF, if_neg h7, lookup_putF, if_neg h6, lookup_putF, if_neg h5, lookup_putF, if_neg h4, lookup_putF, if_neg h1]
    rfl
section
variable {X : Cx} {K : PySem.W.Frag} {mg : Str → Option Value}
theorem cl_sv (T : Tx K mg) (v : Sv) : Cls K (He.ga K v.cls) := by
  cases v
  · exact c_Lane T
  · exact c_Avenue T
  · exact c_Road T
theorem w_far (T : Tx K mg) (e1 : X.K = K) (e2 : X.mg = mg) : Three X 3 "far" ["self", "corner"] (spFar K) := by
  subst e1
  subst e2
  refine ⟨cl_sv T, fun v => ?_, fun v => fs_no v (by decide +kernel) (by decide +kernel) (by decide +kernel) (by decide +kernel) (by decide +kernel) (by decide +kernel) (by decide +kernel)⟩
  cases v with
  | lane =>
    obtain ⟨fd, F, G, B⟩ := p_Lane_far (P := X.prog) (w := X.w) (base := X.base) T
    exact ⟨_, fd, m_Lane_far T, G.mono (by decide), B⟩
  | avenue =>
    obtain ⟨fd, F, G, B⟩ := p_Avenue_far (P := X.prog) (w := X.w) (base := X.base) T
    exact ⟨_, fd, m_Avenue_far T, G.mono (by decide), B⟩
  | road =>
    obtain ⟨fd, F, G, B⟩ := p_Road_far (P := X.prog) (w := X.w) (base := X.base) T
    exact ⟨_, fd, m_Road_far T, G.mono (by decide), B⟩
theorem w_leads (T : Tx K mg) (e1 : X.K = K) (e2 : X.mg = mg) : Three X 3 "leads" ["self", "goal"] (spLeads K) := by
  subst e1
  subst e2
  refine ⟨cl_sv T, fun v => ?_, fun v => fs_no v (by decide +kernel) (by decide +kernel) (by decide +kernel) (by decide +kernel) (by decide +kernel) (by decide +kernel) (by decide +kernel)⟩
  cases v with
  | lane =>
    obtain ⟨fd, F, G, B⟩ := p_Lane_leads (P := X.prog) (w := X.w) (base := X.base) T
    exact ⟨_, fd, m_Lane_leads T, G.mono (by decide), B⟩
  | avenue =>
    obtain ⟨fd, F, G, B⟩ := p_Avenue_leads (P := X.prog) (w := X.w) (base := X.base) T
    exact ⟨_, fd, m_Avenue_leads T, G.mono (by decide), B⟩
  | road =>
    obtain ⟨fd, F, G, B⟩ := p_Road_leads (P := X.prog) (w := X.w) (base := X.base) T
    exact ⟨_, fd, m_Road_leads T, G.mono (by decide), B⟩
theorem w_invert (T : Tx K mg) (e1 : X.K = K) (e2 : X.mg = mg) : Three X 6 "__invert__" ["self"] (spInv K) := by
  subst e1
  subst e2
  refine ⟨cl_sv T, fun v => ?_, fun v => fs_no v (by decide +kernel) (by decide +kernel) (by decide +kernel) (by decide +kernel) (by decide +kernel) (by decide +kernel) (by decide +kernel)⟩
  cases v with
  | lane =>
    obtain ⟨fd, F, G, B⟩ := p_Lane_invert (P := X.prog) (w := X.w) (base := X.base) T
    exact ⟨_, fd, m_Lane_invert T, G.mono (by decide), B⟩
  | avenue =>
    obtain ⟨fd, F, G, B⟩ := p_Avenue_invert (P := X.prog) (w := X.w) (base := X.base) T
    exact ⟨_, fd, m_Avenue_invert T, G.mono (by decide), B⟩
  | road =>
    obtain ⟨fd, F, G, B⟩ := p_Road_invert (P := X.prog) (w := X.w) (base := X.base) T
    exact ⟨_, fd, m_Road_invert T, G.mono (by decide), B⟩
theorem w_renamed (T : Tx K mg) (e1 : X.K = K) (e2 : X.mg = mg) : Three X 6 "renamed" ["self", "name"] (spRen K) := by
  subst e1
  subst e2
  refine ⟨cl_sv T, fun v => ?_, fun v => fs_no v (by decide +kernel) (by decide +kernel) (by decide +kernel) (by decide +kernel) (by decide +kernel) (by decide +kernel) (by decide +kernel)⟩
  cases v with
  | lane =>
    obtain ⟨fd, F, G, B⟩ := p_Lane_renamed (P := X.prog) (w := X.w) (base := X.base) T
    exact ⟨_, fd, m_Lane_renamed T, G.mono (by decide), B⟩
  | avenue =>
    obtain ⟨fd, F, G, B⟩ := p_Avenue_renamed (P := X.prog) (w := X.w) (base := X.base) T
    exact ⟨_, fd, m_Avenue_renamed T, G.mono (by decide), B⟩
  | road =>
    obtain ⟨fd, F, G, B⟩ := p_Road_renamed (P := X.prog) (w := X.w) (base := X.base) T
    exact ⟨_, fd, m_Road_renamed T, G.mono (by decide), B⟩
theorem w_opened (T : Tx K mg) (e1 : X.K = K) (e2 : X.mg = mg) : Three X 5 "opened" ["self"] (spOpen K) := by
  subst e1
  subst e2
  refine ⟨cl_sv T, fun v => ?_, fun v => fs_no v (by decide +kernel) (by decide +kernel) (by decide +kernel) (by decide +kernel) (by decide +kernel) (by decide +kernel) (by decide +kernel)⟩
  cases v with
  | lane =>
    obtain ⟨fd, F, G, B⟩ := p_Lane_opened (P := X.prog) (w := X.w) (base := X.base) T
    exact ⟨_, fd, m_Lane_opened T, G.mono (by decide), B⟩
  | avenue =>
    obtain ⟨fd, F, G, B⟩ := p_Avenue_opened (P := X.prog) (w := X.w) (base := X.base) T
    exact ⟨_, fd, m_Avenue_opened T, G.mono (by decide), B⟩
  | road =>
    obtain ⟨fd, F, G, B⟩ := p_Road_opened (P := X.prog) (w := X.w) (base := X.base) T
    exact ⟨_, fd, m_Road_opened T, G.mono (by decide), B⟩

theorem pe_methT {k : Nat} {m : Str} {ps : List Str} {p pos apos : Pos} {e o : Expr} {es : List Expr} {ta : TE} {t : TA} {pl : Sem Bool} {sp : Str → Sp} (e1 : X.K = K) (W : Three X k m ps sp) (he : PE X o ta) (hr : Room k X.A) (ha : PA X (e :: es) t)
    (hst : starEach (e :: es) X.env = (false, eval e X.env) :: starEach es X.env := by rfl)
    (hpl : (backTo pos (starEach es X.env)).any (·.1) = false := by rfl)
    (ht : eval (.Call (.Attribute o m apos) (e :: es) [] pos) X.env = (do
      let ov ← eval o X.env
      standAt apos.atName
      let (f, first) ← holding [ov] (getMethod ov m pl)
      callWith pos f first (backTo pos (starEach (e :: es) X.env)) (backToKw pos (keywordEach [] X.env))) := by rfl) :
    PE X (.Call (.Attribute o m apos) (e :: es) [] pos) (tMethS K sp ta t) := by
  subst e1
  exact pe_methS (pl := pl) W he hr ha hst hpl ht
theorem pe_farT {p pos apos : Pos} {e o : Expr} {es : List Expr} {ta : TE} {t : TA} {pl : Sem Bool} (T : Tx K mg) (he : PE X o ta) (ha : PA X (e :: es) t) (hr : Room 3 X.A) (e1 : X.K = K := by rfl) (e2 : X.mg = mg := by rfl)
    (hst : starEach (e :: es) X.env = (false, eval e X.env) :: starEach es X.env := by rfl)
    (hpl : (backTo pos (starEach es X.env)).any (·.1) = false := by rfl)
    (ht : eval (.Call (.Attribute o "far" apos) (e :: es) [] pos) X.env = (do
      let ov ← eval o X.env
      standAt apos.atName
      let (f, first) ← holding [ov] (getMethod ov "far" pl)
      callWith pos f first (backTo pos (starEach (e :: es) X.env)) (backToKw pos (keywordEach [] X.env))) := by rfl) :
    PE X (.Call (.Attribute o "far" apos) (e :: es) [] pos) (tMethS K (spFar K) ta t) :=
  pe_methT (p := p) (pl := pl) e1 (w_far T e1 e2) he hr ha hst hpl ht
theorem pe_leadsT {p pos apos : Pos} {e o : Expr} {es : List Expr} {ta : TE} {t : TA} {pl : Sem Bool} (T : Tx K mg) (he : PE X o ta) (ha : PA X (e :: es) t) (hr : Room 3 X.A) (e1 : X.K = K := by rfl) (e2 : X.mg = mg := by rfl)
    (hst : starEach (e :: es) X.env = (false, eval e X.env) :: starEach es X.env := by rfl)
    (hpl : (backTo pos (starEach es X.env)).any (·.1) = false := by rfl)
    (ht : eval (.Call (.Attribute o "leads" apos) (e :: es) [] pos) X.env = (do
      let ov ← eval o X.env
      standAt apos.atName
      let (f, first) ← holding [ov] (getMethod ov "leads" pl)
      callWith pos f first (backTo pos (starEach (e :: es) X.env)) (backToKw pos (keywordEach [] X.env))) := by rfl) :
    PE X (.Call (.Attribute o "leads" apos) (e :: es) [] pos) (tMethS K (spLeads K) ta t) :=
  pe_methT (p := p) (pl := pl) e1 (w_leads T e1 e2) he hr ha hst hpl ht
theorem un_invT {k : Nat} {ps : List Str} {sp : Str → Sp} (e1 : X.K = K) (W : Three X k "__invert__" ps sp) (hr : Room k X.A) : UnR X (unaryOp .Invert) (rInvS K sp) := by
  subst e1
  exact un_invS W hr
/-- isinstance(street, C) -/
def rIsiS (K : PySem.W.Frag) (f : Sv → Bool) (C : Str) : List V → Hp → VK → Prop := fun xs H Q => ∃ (a : Addr) (v : Sv), xs = [.ref a, .ref (He.ga K C)] ∧ StAt K H a v ∧ Q (.bl (f v)) H
def Sv.isA : Str → Sv → Bool
  | c, v => decide (v.cls = c)
def isLane : Sv → Bool
  | .lane .. => true
  | _ => false
def isAvenue : Sv → Bool
  | .avenue .. => true
  | _ => false
def isRoad : Sv → Bool
  | .road .. => true
  | _ => false
def isSettled : Sv → Bool
  | .road .. => false
  | _ => true
def isEven : Sv → Bool
  | .lane .. => false
  | _ => true
theorem isi_Lane (T : Tx X.K X.mg) : CallR X (.builtin "isinstance") (rIsiS X.K isLane "Lane") := by
  rintro pins s σ H xs us Q I r ⟨a, v, rfl, hx, q⟩
  have ht := tyx_st T hx
  cases v with
  | lane => exact call_isi pins s σ H _ us Q I r ⟨_, _, _, _, _, rfl, .own _, ht, k_Lane_Lane T, q⟩
  | avenue => exact call_isi pins s σ H _ us Q I r ⟨_, _, _, _, _, rfl, .own _, ht, k_Avenue_Lane T, q⟩
  | road => exact call_isi pins s σ H _ us Q I r ⟨_, _, _, _, _, rfl, .own _, ht, k_Road_Lane T, q⟩
theorem isi_Avenue (T : Tx X.K X.mg) : CallR X (.builtin "isinstance") (rIsiS X.K isAvenue "Avenue") := by
  rintro pins s σ H xs us Q I r ⟨a, v, rfl, hx, q⟩
  have ht := tyx_st T hx
  cases v with
  | lane => exact call_isi pins s σ H _ us Q I r ⟨_, _, _, _, _, rfl, .own _, ht, k_Lane_Avenue T, q⟩
  | avenue => exact call_isi pins s σ H _ us Q I r ⟨_, _, _, _, _, rfl, .own _, ht, k_Avenue_Avenue T, q⟩
  | road => exact call_isi pins s σ H _ us Q I r ⟨_, _, _, _, _, rfl, .own _, ht, k_Road_Avenue T, q⟩
theorem isi_Road (T : Tx X.K X.mg) : CallR X (.builtin "isinstance") (rIsiS X.K isRoad "Road") := by
  rintro pins s σ H xs us Q I r ⟨a, v, rfl, hx, q⟩
  have ht := tyx_st T hx
  cases v with
  | lane => exact call_isi pins s σ H _ us Q I r ⟨_, _, _, _, _, rfl, .own _, ht, k_Lane_Road T, q⟩
  | avenue => exact call_isi pins s σ H _ us Q I r ⟨_, _, _, _, _, rfl, .own _, ht, k_Avenue_Road T, q⟩
  | road => exact call_isi pins s σ H _ us Q I r ⟨_, _, _, _, _, rfl, .own _, ht, k_Road_Road T, q⟩
theorem isi_Settled (T : Tx X.K X.mg) : CallR X (.builtin "isinstance") (rIsiS X.K isSettled "Settled") := by
  rintro pins s σ H xs us Q I r ⟨a, v, rfl, hx, q⟩
  have ht := tyx_st T hx
  cases v with
  | lane => exact call_isi pins s σ H _ us Q I r ⟨_, _, _, _, _, rfl, .own _, ht, k_Lane_Settled T, q⟩
  | avenue => exact call_isi pins s σ H _ us Q I r ⟨_, _, _, _, _, rfl, .own _, ht, k_Avenue_Settled T, q⟩
  | road => exact call_isi pins s σ H _ us Q I r ⟨_, _, _, _, _, rfl, .own _, ht, k_Road_Settled T, q⟩
theorem isi_Even (T : Tx X.K X.mg) : CallR X (.builtin "isinstance") (rIsiS X.K isEven "Even") := by
  rintro pins s σ H xs us Q I r ⟨a, v, rfl, hx, q⟩
  have ht := tyx_st T hx
  cases v with
  | lane => exact call_isi pins s σ H _ us Q I r ⟨_, _, _, _, _, rfl, .own _, ht, k_Lane_Even T, q⟩
  | avenue => exact call_isi pins s σ H _ us Q I r ⟨_, _, _, _, _, rfl, .own _, ht, k_Avenue_Even T, q⟩
  | road => exact call_isi pins s σ H _ us Q I r ⟨_, _, _, _, _, rfl, .own _, ht, k_Road_Even T, q⟩
end
end K10
namespace K10
open PySem PySem.Spec PyProof.Rows L2 Hx Gx Nx TL
theorem lt_ne {a b : Str} (h : strLt a b) : a ≠ b := by
  rintro rfl
  exact (List.lt_irrefl _ h)
theorem lt_not {a b : Str} (h : strLt a b) : ¬ strLt b a := fun z => List.lt_asymm h z
theorem okEnds_ne {t a b : Str} (h : okEnds t a b = true) : a ≠ b := by
  simp only [okEnds, Bool.and_eq_true, decide_eq_true_eq, bne_iff_ne, ne_eq, Bool.not_eq_true'] at h
  simp_all
theorem ends_lt {v : Sv} (g : Good v) : strLt v.ends.1 v.ends.2 := by
  cases v with
  | lane t a b =>
    show strLt (if strLt a b then (a, b) else (b, a)).1 (if strLt a b then (a, b) else (b, a)).2
    by_cases h : strLt a b
    · rw [if_pos h]; exact h
    · rw [if_neg h]; exact lt_swap (okEnds_ne g) h
  | avenue t a b => exact g.2
  | road t a b i j => exact g.2.1
theorem far1 {v : Sv} : v.far v.ends.1 = v.ends.2 := if_pos rfl
theorem far2 {v : Sv} (g : Good v) : v.far v.ends.2 = v.ends.1 := if_neg (fun h => lt_ne (ends_lt g) h.symm)
theorem end1 {v : Sv} : v.isEnd v.ends.1 := .inl rfl
theorem end2 {v : Sv} : v.isEnd v.ends.2 := .inr rfl
theorem far_far {v : Sv} (g : Good v) {e : Str} (h : v.isEnd e) : v.far (v.far e) = e := by
  rcases h with rfl | rfl
  · rw [far1, far2 g]
  · rw [far2 g, far1]
theorem far_end_ok {v : Sv} {e : Str} (h : v.isEnd e) : v.isEnd (v.far e) := by
  unfold Sv.far
  split
  · exact .inr rfl
  · exact .inl rfl
theorem good_opened {v : Sv} (g : Good v) : Good v.opened := by
  cases v with
  | lane t a b =>
    show Good (mkAv t a b)
    unfold mkAv
    by_cases h : strLt a b
    · rw [if_pos h]; exact ⟨g, h⟩
    · rw [if_neg h]; exact ⟨okEnds_swap g, lt_swap (okEnds_ne g) h⟩
  | avenue t a b => exact g
  | road t a b i j => exact ⟨g.1, g.2.1⟩
theorem opened_ends {v : Sv} : v.opened.ends = v.ends := by
  cases v with
  | lane t a b =>
    show (mkAv t a b).ends = if strLt a b then (a, b) else (b, a)
    unfold mkAv
    by_cases h : strLt a b
    · rw [if_pos h, if_pos h]; rfl
    · rw [if_neg h, if_neg h]; rfl
  | avenue t a b => rfl
  | road t a b i j => rfl
theorem opened_av (v : Sv) : ∃ t a b, v.opened = .avenue t a b := by
  cases v with
  | lane t a b =>
    show ∃ _ _ _, mkAv t a b = _
    unfold mkAv
    by_cases h : strLt a b
    · rw [if_pos h]; exact ⟨_, _, _, rfl⟩
    · rw [if_neg h]; exact ⟨_, _, _, rfl⟩
  | avenue t a b => exact ⟨_, _, _, rfl⟩
  | road t a b i j => exact ⟨_, _, _, rfl⟩
theorem opened_leads (v : Sv) (e : Str) : v.opened.leads e = true := by
  obtain ⟨t, a, b, h⟩ := opened_av v
  rw [h]; rfl
theorem opened_opened (v : Sv) : v.opened.opened = v.opened := by
  obtain ⟨t, a, b, h⟩ := opened_av v
  rw [h]; rfl
theorem opened_inv (v : Sv) : v.opened.inv = v.opened := by
  obtain ⟨t, a, b, h⟩ := opened_av v
  rw [h]; rfl
def dueOf (v : Sv) : Nat := if isLane v then 1 else if isAvenue v then 2 else 0
def leadN (v : Sv) : Nat := (if v.leads v.ends.1 = true then 1 else 0) + (if v.leads v.ends.2 = true then 1 else 0)
theorem lead_due {v : Sv} (g : Good v) : leadN v = dueOf v := by
  cases v with
  | lane t a b =>
    have n := okEnds_ne g
    unfold leadN
    show (if decide ((if strLt a b then (a, b) else (b, a)).1 = b) = true then 1 else 0) + (if decide ((if strLt a b then (a, b) else (b, a)).2 = b) = true then 1 else 0) = 1
    by_cases h : strLt a b
    · rw [if_pos h]; simp [n]
    · rw [if_neg h]; simp [n]
  | avenue t a b => rfl
  | road t a b i j => rfl
theorem settled_due (v : Sv) : isSettled v = decide (0 < dueOf v) := by cases v <;> rfl
theorem even_due (v : Sv) : isEven v = decide (dueOf v ≠ 1) := by cases v <;> rfl
theorem good_inv {v : Sv} (g : Good v) : Good v.inv := by
  cases v with
  | lane t a b => exact okEnds_swap g
  | avenue t a b => exact g
  | road t a b i j => exact ⟨g.1, g.2.1, g.2.2.2, g.2.2.1⟩
theorem good_ren {v : Sv} {n : Str} (g : Good v) (h : nameB n = true) : Good (v.ren n) := by
  cases v with
  | lane t a b => exact okEnds_ren g h
  | avenue t a b => exact ⟨okEnds_ren g.1 h, g.2⟩
  | road t a b i j => exact ⟨okEnds_ren g.1 h, g.2.1, g.2.2.1, g.2.2.2⟩
theorem inv_inv (v : Sv) : v.inv.inv = v := by cases v <;> rfl
theorem inv_ren (v : Sv) (n : Str) : v.inv.ren n = (v.ren n).inv := by cases v <;> rfl
theorem inv_ends {v : Sv} (g : Good v) : v.inv.ends = v.ends := by
  cases v with
  | lane t a b =>
    show (if strLt b a then (b, a) else (a, b)) = if strLt a b then (a, b) else (b, a)
    by_cases h : strLt a b
    · rw [if_pos h, if_neg (lt_not h)]
    · rw [if_neg h, if_pos (lt_swap (okEnds_ne g) h)]
  | avenue t a b => rfl
  | road t a b i j => rfl
end K10
namespace K10
open PySem PySem.Spec PyProof.Rows L2 Hx Gx Nx TL
theorem strOk_name {x : Str} (h : nameB x = true) : PyData.strOk x = true := by
  unfold nameB at h
  rw [Bool.and_eq_true] at h
  have a := List.all_eq_true.mp h.2
  unfold PyData.strOk
  rw [← Array.all_toList, List.all_eq_true]
  intro c hc
  have z := a c hc
  unfold isLow at z
  rw [Bool.and_eq_true] at z
  have z2 := of_decide_eq_true z.2
  exact decide_eq_true (by omega)
theorem lt_dec {a b : Str} (h : strLt a b) : decide (a.cps.toList < b.cps.toList) = true := decide_eq_true h
theorem ok_ends {v : Sv} (g : Good v) : nameB v.ends.1 = true ∧ nameB v.ends.2 = true := by
  cases v with
  | lane t a b =>
    obtain ⟨_, h1, h2, _⟩ := okEnds_iff g
    show nameB (if strLt a b then (a, b) else (b, a)).1 = true ∧ nameB (if strLt a b then (a, b) else (b, a)).2 = true
    split
    · exact ⟨h1, h2⟩
    · exact ⟨h2, h1⟩
  | avenue t a b => obtain ⟨_, h1, h2, _⟩ := okEnds_iff g.1; exact ⟨h1, h2⟩
  | road t a b i j => obtain ⟨_, h1, h2, _⟩ := okEnds_iff g.1; exact ⟨h1, h2⟩
theorem shaped_strs : ∀ (xs : List Str), (∀ x ∈ xs, PyData.strOk x = true) → SeqAt.shaped (.list (xs.map .str)) = true := by
  intro xs h
  have a : ∀ (xs : List Str), (∀ x ∈ xs, PyData.strOk x = true) → PyData.canLayAll0 (xs.map .str) = true ∧ PyData.depthAll (xs.map .str) ≤ 1 := by
    intro xs
    induction xs with
    | nil => intro _; simp [PyData.canLayAll0, PyData.depthAll]
    | cons x xs ih =>
      intro h
      obtain ⟨h1, h2⟩ := ih fun y hy => h y (List.mem_cons_of_mem _ hy)
      have hx := h x (List.mem_cons_self ..)
      simp only [List.map_cons]
      simp [PyData.canLayAll0, PyData.depthAll, PyData.canLay0, PyData.depth, hx, h1]
      omega
  obtain ⟨h1, h2⟩ := a xs h
  unfold SeqAt.shaped
  simp [PyData.canLay0, PyData.depth, h1]
  omega
theorem neD_same {K : PySem.W.Frag} {H : Hp} {Q : VK} {a b : Addr} {xs : List V} {ds : List PyData} (ha : SqL K H a xs) (hb : SqL K H b xs) (hd : DpAll K H xs ds) (sh : SeqAt.shaped (.list ds) = true) (q : Q (.bl false) H) : rNeD K (.ref a) (.ref b) H Q := by
  refine ⟨.list ds, .list ds, .lst ha hd, .lst hb hd, sh, sh, ?_⟩
  have c : PyData.canLay0 (.list ds) = true := by
    unfold SeqAt.shaped at sh
    exact (Bool.and_eq_true _ _ ▸ sh).1
  rw [SeqAt.eqv_refl _ c]
  exact q
theorem shaped_strsT : ∀ (xs : List Str), (∀ x ∈ xs, PyData.strOk x = true) → SeqAt.shaped (.tuple (xs.map .str)) = true := by
  intro xs h
  have a : ∀ (xs : List Str), (∀ x ∈ xs, PyData.strOk x = true) → PyData.canLayAll0 (xs.map .str) = true ∧ PyData.depthAll (xs.map .str) ≤ 1 := by
    intro xs
    induction xs with
    | nil => intro _; simp [PyData.canLayAll0, PyData.depthAll]
    | cons x xs ih =>
      intro h
      obtain ⟨h1, h2⟩ := ih fun y hy => h y (List.mem_cons_of_mem _ hy)
      have hx := h x (List.mem_cons_self ..)
      simp only [List.map_cons]
      simp [PyData.canLayAll0, PyData.depthAll, PyData.canLay0, PyData.depth, hx, h1]
      omega
  obtain ⟨h1, h2⟩ := a xs h
  unfold SeqAt.shaped
  simp [PyData.canLay0, PyData.depth, h1]
  omega
theorem eqD_sameT {K : PySem.W.Frag} {H : Hp} {Q : VK} {a b : Addr} {xs : List V} {ds : List PyData} (ha : SqT K H a xs) (hb : SqT K H b xs) (hd : DpAll K H xs ds) (sh : SeqAt.shaped (.tuple ds) = true) (q : Q (.bl true) H) : rEqD K (.ref a) (.ref b) H Q := by
  refine ⟨.tuple ds, .tuple ds, .tup ha hd, .tup hb hd, sh, sh, ?_⟩
  have c : PyData.canLay0 (.tuple ds) = true := by
    unfold SeqAt.shaped at sh
    exact (Bool.and_eq_true _ _ ▸ sh).1
  rw [SeqAt.eqv_refl _ c]
  exact q
theorem dps_strs {K : PySem.W.Frag} {H : Hp} : ∀ (xs : List Str), DpAll K H (xs.map .str) (xs.map .str)
  | [] => .nil
  | x :: xs => .cons (.str x) (dps_strs xs)
theorem same_upd {H H' : Hp} {D : Addr} {o : HO} (nD : H D = none) (s : Same H H') : Same H (upd H' D o) := fun b u e => by
  rw [upd_ne (ne_of_none e nD)]
  exact s b u e
theorem iteFe {A B : Prop} {b : Bool} (h : b = false) (q : B) : if b = true then A else B := by subst h; exact q
theorem iteTe {A B : Prop} {b : Bool} (h : b = true) (q : A) : if b = true then A else B := by subst h; exact q
theorem good_inv_av (v : Sv) : v.opened.inv = v.opened := opened_inv v
theorem len_lead (v : Sv) : (([v.ends.1, v.ends.2].filter (fun g => v.leads g)).map V.str).length = leadN v := by
  unfold leadN
  cases h1 : v.leads v.ends.1 <;> cases h2 : v.leads v.ends.2 <;> simp [h1, h2]
theorem due_cases (v : Sv) : (isLane v = true ∧ dueOf v = 1) ∨ (isLane v = false ∧ isAvenue v = true ∧ dueOf v = 2) ∨ (isLane v = false ∧ isAvenue v = false ∧ dueOf v = 0) := by
  cases v <;> simp [isLane, isAvenue, dueOf]
end K10
namespace K10
open PySem PySem.Spec PyProof.Rows L2 Hx Gx Nx TL
section
variable {P : Program} {w : World} {K : PySem.W.Frag} {mg : Str → Option Value} {base : Heap}

def spEr (K : PySem.W.Frag) : Sp := fun vs H Q _ => ∃ (x : Addr) (v : Sv), vs = [.ref x] ∧ StAt K H x v ∧ Good v ∧ ∀ H', Same H H' → Q (.bl true) H'
theorem sc_ends_right : FnScope ["_law_street_here", "_law_low", "_law_high", "_law_many", "_law_due", "_law_wide", "_law_end"] ["_law_street_here"] (defScope s__law_ends_right) := ⟨rfl, rfl, rfl, by decide +kernel, rfl, by decide +kernel, by decide +kernel⟩
theorem p_ends_right (T : Tx K mg) : Prom P w K mg base 7 d__law_ends_right ["_law_street_here"] (spEr K) := by
  obtain ⟨fd, F⟩ := f__law_ends_right T
  refine ⟨fd, F, F.ok sc_ends_right (fun vs H Q E h => ?_) (fun cdv A outer s H vs Q E hr h => ?_), F.bindsN fun _ _ _ _ _ _ us hl => match us, hl with | [_], _ => rfl⟩
  · obtain ⟨x, v, rfl, _⟩ := h
    rfl
  · obtain ⟨x, v, rfl, hx, gd, k⟩ := h
    have hrK := hr
    refine ⟨_, PSs.nox (pss_cons (ps_asg (pe_endsS T (hr.mono (by decide)) (pv 0)) (pg_tup (by rfl) (pgs_cons (pg_name (i := 1) sc_ends_right.nd rfl (Or.inl rfl)) (pgs_cons (pg_name (i := 2) sc_ends_right.nd rfl (Or.inl rfl)) pgs_nil))))
      (pss_cons (ps_if (PW.pt (pw_or (pt_not (pt_cmpR op_lt_str (pv 1) (pv 2) (nomark _))) (pw_or1 (pt_cmpR (op_neD (hu64 hr)) (pe_lst (pa_cons (pe_methS (w_far T rfl rfl) (pv 0) (hr.mono (by decide)) (pa_cons (pv 1) pa_nil)) (pa_cons (pe_methS (w_far T rfl rfl) (pv 0) (hr.mono (by decide)) (pa_cons (pv 2) pa_nil)) pa_nil))) (pe_lst (pa_cons (pv 2) (pa_cons (pv 1) pa_nil))) (nomark _))))) (pss_one (ps_ret pe_bl)) pss_nil)
      (pss_cons (ps_if (pt_cmpR (op_neD (hu64 hr)) (pe_lc (own := [("_law_end", 6)]) (g := gName 6) (tt := tYes) (by rfl) sc_ends_right.nd (pi_tup (pe_endsS T (hr.mono (by decide)) (pv 0))) (blkOk_by (own := [("_law_end", 6)]) (N := ["_law_street_here", "_law_low", "_law_high", "_law_many", "_law_due", "_law_wide", "_law_end"]) (sc := defScope s__law_ends_right) (by decide +kernel)) (fun _ _ _ _ _ => pg_name (i := 6) sc_ends_right.nd rfl (Or.inl rfl)) (fun _ _ _ _ _ => pts_nil) (fun _ _ _ _ _ => (by refine pe_farT (p := ⟨0, 0, 0, 0⟩) T (pv 0) (pa_cons (by refine pe_farT (p := ⟨0, 0, 0, 0⟩) T (pv 0) (pa_cons (pv 6) pa_nil) ?_; exact hrK.mono (by decide)) pa_nil) ?_; exact hrK.mono (by decide)))) (pe_callTy call_list_of (by rfl) (n_list T) (by decide +kernel) (pa_cons (pe_endsS T (hr.mono (by decide)) (pv 0)) pa_nil)) (nomark _)) (pss_one (ps_ret pe_bl)) pss_nil)
      (pss_cons (ps_set (i := 3) sc_ends_right.nd rfl (Or.inl rfl) (pe_callB call_len_seq (by rfl) (n_len T) (by decide +kernel) (pa_cons (pe_lc (own := [("_law_end", 6)]) (g := gName 6) (by rfl) sc_ends_right.nd (pi_tup (pe_endsS T (hr.mono (by decide)) (pv 0))) (blkOk_by (own := [("_law_end", 6)]) (N := ["_law_street_here", "_law_low", "_law_high", "_law_many", "_law_due", "_law_wide", "_law_end"]) (sc := defScope s__law_ends_right) (by decide +kernel)) (fun _ _ _ _ _ => pg_name (i := 6) sc_ends_right.nd rfl (Or.inl rfl)) (fun _ _ _ _ _ => (pts_one (pt_val (by refine pe_leadsT (p := ⟨0, 0, 0, 0⟩) T (pv 0) (pa_cons (pv 6) pa_nil) ?_; exact hrK.mono (by decide))))) (fun _ _ _ _ _ => (pv 6))) pa_nil)))
      (pss_cons (ps_set (i := 4) sc_ends_right.nd rfl (Or.inl rfl) (pe_ifExp (pt_val (by refine pe_callB (isi_Lane T) (by rfl) (n_isinstance T) (by decide +kernel) (pa_cons (pv 0) (pa_cons (pe_glob (v := .ref (He.ga K "Lane")) rfl (g_Lane T) rfl) pa_nil)))) pe_int (pe_ifExp (pt_val (by refine pe_callB (isi_Avenue T) (by rfl) (n_isinstance T) (by decide +kernel) (pa_cons (pv 0) (pa_cons (pe_glob (v := .ref (He.ga K "Avenue")) rfl (g_Avenue T) rfl) pa_nil)))) pe_int pe_int)))
      (pss_cons (ps_if (PW.pt (pw_or (pt_cmpR op_ne (pv 3) (pv 4) (nomark _)) (pw_or (pt_cmpR op_ne (by refine pe_callB (isi_Settled T) (by rfl) (n_isinstance T) (by decide +kernel) (pa_cons (pv 0) (pa_cons (pe_glob (v := .ref (He.ga K "Settled")) rfl (g_Settled T) rfl) pa_nil))) (pe_cmpR op_gt (pv 3) pe_int (nomark _)) (nomark _)) (pw_or1 (pt_cmpR op_ne (by refine pe_callB (isi_Even T) (by rfl) (n_isinstance T) (by decide +kernel) (pa_cons (pv 0) (pa_cons (pe_glob (v := .ref (He.ga K "Even")) rfl (g_Even T) rfl) pa_nil))) (pe_cmpR op_ne (pv 3) pe_int (nomark _)) (nomark _)))))) (pss_one (ps_ret pe_bl)) pss_nil)
      (pss_cons (ps_set (i := 5) sc_ends_right.nd rfl (Or.inl rfl) (pe_methS0 (w_opened T rfl rfl) (pv 0) (hr.mono (by decide))))
      (pss_one (ps_ret (pe_and (pe_cmpR (op_eqD (hu64 hr)) (pe_endsS T (hr.mono (by decide)) (pv 5)) (pe_endsS T (hr.mono (by decide)) (pv 0)) (nomark _)) (pe_and (pe_methS (w_leads T rfl rfl) (pv 5) (hr.mono (by decide)) (pa_cons (pv 1) pa_nil)) (pe_and (pe_methS (w_leads T rfl rfl) (pv 5) (hr.mono (by decide)) (pa_cons (pv 2) pa_nil)) (pe_and (pe_cmpR (by refine op_eqT T ?_ ?_ ?_; rfl; rfl; exact hrK.mono (by decide)) (pe_methS0 (w_opened T rfl rfl) (pv 5) (hr.mono (by decide))) (pv 5) (nomark _)) (pe_one (pe_cmpR (by refine op_eqT T ?_ ?_ ?_; rfl; rfl; exact hrK.mono (by decide)) (pe_un (un_invS (w_invert T rfl rfl) (hr.mono (by decide))) (pv 5)) (pv 5) (nomark _)))))))))))))))), ?_⟩
    have F1 : v.far v.ends.1 = v.ends.2 := far1
    have F2 : v.far v.ends.2 = v.ends.1 := far2 gd
    have so1 := strOk_name (ok_ends gd).1
    have so2 := strOk_name (ok_ends gd).2
    have sA : SeqAt.shaped (.list [.str v.ends.2, .str v.ends.1]) = true := shaped_strs [v.ends.2, v.ends.1] (by simp [so1, so2])
    have sB : SeqAt.shaped (.list [.str v.ends.1, .str v.ends.2]) = true := shaped_strs [v.ends.1, v.ends.2] (by simp [so1, so2])
    refine ⟨_, rfl, x, v, rfl, hx, fun t0 h0 => ?_⟩
    have S0 := new_same h0 (.tup [.str v.ends.1, .str v.ends.2])
    have T0 : (upd H t0 (.tup [.str v.ends.1, .str v.ends.2])) t0 = some (.tup [.str v.ends.1, .str v.ends.2]) := upd_same
    generalize upd H t0 (.tup [.str v.ends.1, .str v.ends.2]) = H1 at S0 T0
    refine ⟨t0, _, rfl, SqT.of T0, rfl, _, _, rfl, _, _, rfl, rfl, ?_⟩
    refine ⟨_, rfl, _, rfl, _, _, rfl, rfl, _, rfl, ?_⟩
    rw [lt_dec (ends_lt gd)]
    have X1 := hx.same S0
    refine ⟨_, rfl, x, v, rfl, X1, _, rfl, x, v, _, rfl, rfl, X1, end1, fun H2 S2 => ?_⟩
    have X2 := X1.same S2
    refine ⟨_, rfl, x, v, rfl, X2, _, rfl, x, v, _, rfl, rfl, X2, end2, fun H3 S3 => ?_⟩
    rw [F1, F2]
    refine ⟨(by show 2 ≤ sizeLine; decide), fun l1 n1 => ?_⟩
    have S4 := new_same n1 (.lst [.str v.ends.2, .str v.ends.1])
    refine ⟨_, rfl, _, rfl, (by show 2 ≤ sizeLine; decide), fun l2 n2 => ?_⟩
    have S5 := new_same n2 (.lst [.str v.ends.2, .str v.ends.1])
    refine neD_same (SqL.of (S5 _ _ upd_same)) (SqL.of upd_same) (dps_strs [v.ends.2, v.ends.1]) sA ⟨_, rfl, ?_⟩
    refine iteF ?_
    have X3 := X2.same ((S3.trans S4).trans S5)
    have R3 := (S0.trans S2).trans ((S3.trans S4).trans S5)
    generalize upd (upd H3 l1 (.lst [.str v.ends.2, .str v.ends.1])) l2 (.lst [.str v.ends.2, .str v.ends.1]) = H4 at S5 X3 R3
    -- [far(far(end)) for end in ends] != list(ends)
    refine ⟨_, rfl, x, v, rfl, X3, fun t1 h1 => ?_⟩
    have S6 := new_same h1 (.tup [.str v.ends.1, .str v.ends.2])
    have T1 : (upd H4 t1 (.tup [.str v.ends.1, .str v.ends.2])) t1 = some (.tup [.str v.ends.1, .str v.ends.2]) := upd_same
    generalize upd H4 t1 (.tup [.str v.ends.1, .str v.ends.2]) = H5 at S6 T1
    have X4 := X3.same S6
    have R4 := R3.trans S6
    refine ⟨t1, rfl, ⟨_, SqT.of T1⟩, fun D nD => ?_⟩
    refine lc_tup (K := K) (a := t1) (xs := [.str v.ends.1, .str v.ends.2]) (fun n H' => Same H5 H' ∧ H' D = some (.lst ([V.str v.ends.1, .str v.ends.2].take n))) ⟨new_same nD _, upd_same⟩ (fun _ H' _ z => SqT.of (z.1 _ _ T1)) ?_ ?_
    · rintro n e H' hv ⟨sm, dl⟩
      have hE : ∃ g, e = V.str g ∧ v.isEnd g := by
        have m := List.mem_of_getElem? hv
        simp only [List.mem_cons, List.not_mem_nil, or_false] at m
        rcases m with rfl | rfl
        · exact ⟨_, rfl, end1⟩
        · exact ⟨_, rfl, end2⟩
      obtain ⟨g, rfl, hg⟩ := hE
      have X5 := X4.same sm
      refine ⟨rfl, ?_⟩
      refine ⟨_, rfl, x, v, rfl, X5, ⟨_, rfl, x, v, rfl, X5, ⟨_, rfl, x, v, g, rfl, rfl, X5, hg, fun H6 S7 => ?_⟩⟩⟩
      refine ⟨x, v, _, rfl, rfl, X5.same S7, far_end_ok hg, fun H7 S8 => ?_⟩
      rw [far_far gd hg]
      have dl2 := S8 _ _ (S7 _ _ dl)
      refine ⟨_, dl2, ?_, ?_, ?_⟩
      · refine Nat.lt_of_le_of_lt (List.length_take_le' n _) (by show 2 < sizeLine; decide)
      · exact same_upd nD (sm.trans (S7.trans S8))
      · rw [upd_same, List.take_add_one, hv]
        rfl
    rintro H6 ⟨S7, dl⟩
    have X5 := X4.same S7
    have R5 := R4.trans S7
    refine ⟨_, rfl, x, v, rfl, X5, fun t2 h2 => ?_⟩
    have S8 := new_same h2 (.tup [.str v.ends.1, .str v.ends.2])
    have T2 : (upd H6 t2 (.tup [.str v.ends.1, .str v.ends.2])) t2 = some (.tup [.str v.ends.1, .str v.ends.2]) := upd_same
    have dl2 := S8 _ _ dl
    generalize upd H6 t2 (.tup [.str v.ends.1, .str v.ends.2]) = H7 at S8 T2 dl2
    refine ⟨t2, _, rfl, .inr (SqT.of T2), fun l4 n4 => ?_⟩
    have S9 := new_same n4 (.lst [.str v.ends.1, .str v.ends.2])
    refine neD_same (xs := [.str v.ends.1, .str v.ends.2]) (ds := [.str v.ends.1, .str v.ends.2]) (SqL.of (S9 _ _ dl2)) (SqL.of upd_same) (dps_strs [v.ends.1, v.ends.2]) sB ⟨_, rfl, ?_⟩
    refine iteF ?_
    have X6 := (X5.same S8).same S9
    have R6 := (R5.trans S8).trans S9
    generalize upd H7 l4 (.lst [.str v.ends.1, .str v.ends.2]) = H8 at X6 R6
    refine ⟨_, rfl, x, v, rfl, X6, fun t3 h3 => ?_⟩
    have SA := new_same h3 (.tup [.str v.ends.1, .str v.ends.2])
    have T3 : (upd H8 t3 (.tup [.str v.ends.1, .str v.ends.2])) t3 = some (.tup [.str v.ends.1, .str v.ends.2]) := upd_same
    generalize upd H8 t3 (.tup [.str v.ends.1, .str v.ends.2]) = H9 at SA T3
    have X7 := X6.same SA
    have R7 := R6.trans SA
    refine ⟨t3, rfl, ⟨_, SqT.of T3⟩, fun D2 nD2 => ?_⟩
    refine lc_tup (K := K) (a := t3) (xs := [v.ends.1, v.ends.2].map .str) (fun n H' => Same H9 H' ∧ H' D2 = some (.lst ((([v.ends.1, v.ends.2].take n).filter (fun g => v.leads g)).map .str))) ⟨new_same nD2 _, upd_same⟩ (fun _ H' _ z => SqT.of (z.1 _ _ T3)) ?_ ?_
    · rintro n e H' hv ⟨sm, dl⟩
      rw [List.getElem?_map, Option.map_eq_some_iff] at hv
      obtain ⟨g, hv, rfl⟩ := hv
      have hg : v.isEnd g := by
        have m := List.mem_of_getElem? hv
        simp only [List.mem_cons, List.not_mem_nil, or_false] at m
        exact m
      have X8 := X7.same sm
      refine ⟨rfl, ?_⟩
      refine ⟨_, rfl, x, v, rfl, X8, ⟨_, rfl, x, v, g, rfl, rfl, X8, hg, fun HA SB => ⟨_, rfl, ?_⟩⟩⟩
      have hn : ([v.ends.1, v.ends.2].take (n + 1)).filter (fun g => v.leads g) = ([v.ends.1, v.ends.2].take n).filter (fun g => v.leads g) ++ (if v.leads g = true then [g] else []) := by
        rw [List.take_add_one, hv]
        simp [List.filter_append, List.filter_cons]
      cases hl : v.leads g with
      | true =>
        refine iteT ⟨_, rfl, _, SB _ _ dl, ?_, same_upd nD2 (sm.trans SB), ?_⟩
        · rw [List.length_map]
          refine Nat.lt_of_le_of_lt (Nat.le_trans (List.length_filter_le ..) (List.length_take_le' n _)) (by show 2 < sizeLine; decide)
        · rw [upd_same, hn, hl, if_pos rfl, List.map_append]
          rfl
      | false =>
        refine iteF ⟨sm.trans SB, ?_⟩
        rw [SB _ _ dl, hn, hl, if_neg (by decide), List.append_nil]
    rintro HA ⟨SB, dl2⟩
    have X8 := X7.same SB
    have R8 := R7.trans SB
    refine ⟨D2, _, rfl, .inl (SqL.of dl2), ?_⟩
    rw [show ((([v.ends.1, v.ends.2].take ([v.ends.1, v.ends.2].map V.str).length).filter (fun g => v.leads g)).map V.str).length = dueOf v from (len_lead v).trans (lead_due gd)]
    rcases due_cases v with ⟨hL, hd⟩ | ⟨hL, hA, hd⟩ | ⟨hL, hA, hd⟩
    · rw [hd]
      refine ⟨_, rfl, x, v, rfl, X8, _, rfl, ?_⟩
      refine iteTe hL ?_
      refine ⟨_, rfl, _, rfl, rfl, _, rfl, ?_⟩
      refine iteFe (by decide) ?_
      refine ⟨_, rfl, x, v, rfl, X8, _, rfl, _, _, rfl, rfl, rfl, _, rfl, ?_⟩
      refine iteFe (by rw [settled_due, hd]; decide) ?_
      refine ⟨_, rfl, x, v, rfl, X8, _, rfl, rfl, rfl, _, rfl, ?_⟩
      refine iteFe (by rw [even_due, hd]; decide) ?_
      -- opened
      refine ⟨_, rfl, x, v, rfl, X8, x, v, rfl, rfl, X8, gd, fun HB y SC hy => ?_⟩
      have og := good_opened gd
      have oe : v.opened.ends = v.ends := opened_ends
      refine ⟨_, rfl, y, _, rfl, hy, fun t4 h4 => ?_⟩
      rw [oe]
      have S4' := new_same h4 (.tup [.str v.ends.1, .str v.ends.2])
      have X9 := (X8.same SC).same S4'
      refine ⟨_, rfl, x, v, rfl, X9, fun t5 h5 => ?_⟩
      have S5' := new_same h5 (.tup [.str v.ends.1, .str v.ends.2])
      have R9 := ((R8.trans SC).trans S4').trans S5'
      have Y9 := (hy.same S4').same S5'
      have sC : SeqAt.shaped (.tuple [.str v.ends.1, .str v.ends.2]) = true := shaped_strsT [v.ends.1, v.ends.2] (by simp [so1, so2])
      refine eqD_sameT (xs := [.str v.ends.1, .str v.ends.2]) (ds := [.str v.ends.1, .str v.ends.2]) (SqT.of (S5' _ _ upd_same)) (SqT.of upd_same) (dps_strs [v.ends.1, v.ends.2]) sC ⟨_, rfl, iteT ?_⟩
      generalize upd (upd HB t4 (.tup [.str v.ends.1, .str v.ends.2])) t5 (.tup [.str v.ends.1, .str v.ends.2]) = HC at R9 Y9
      have e1 : v.opened.isEnd v.ends.1 := .inl (by rw [oe])
      have e2 : v.opened.isEnd v.ends.2 := .inr (by rw [oe])
      refine ⟨_, rfl, y, _, rfl, Y9, _, rfl, y, _, _, rfl, rfl, Y9, e1, fun HD SD => ⟨_, rfl, ?_⟩⟩
      refine iteTe (opened_leads v _) ?_
      have YD := Y9.same SD
      refine ⟨_, rfl, y, _, rfl, YD, _, rfl, y, _, _, rfl, rfl, YD, e2, fun HE SE => ⟨_, rfl, ?_⟩⟩
      refine iteTe (opened_leads v _) ?_
      have YE := YD.same SE
      refine ⟨_, rfl, y, _, rfl, YE, y, _, rfl, rfl, YE, og, fun HF z SF hz => ?_⟩
      rw [opened_opened] at hz
      have YF := YE.same SF
      refine ⟨_, rfl, z, _, some v.opened, rfl, hz, ⟨y, rfl, YF⟩, _, rfl, ?_⟩
      refine iteTe (decide_eq_true rfl) ?_
      refine ⟨_, rfl, y, _, rfl, YF, y, _, rfl, rfl, YF, og, fun HG z2 SG hz2 => ?_⟩
      rw [opened_inv] at hz2
      refine ⟨_, rfl, z2, _, some v.opened, rfl, hz2, ⟨y, rfl, YF.same SG⟩, ?_⟩
      rw [decide_eq_true rfl]
      exact k _ ((((R9.trans SD).trans SE).trans SF).trans SG)
    · rw [hd]
      refine ⟨_, rfl, x, v, rfl, X8, _, rfl, ?_⟩
      refine iteFe hL ?_
      refine ⟨_, rfl, x, v, rfl, X8, _, rfl, ?_⟩
      refine iteTe hA ?_
      refine ⟨_, rfl, _, rfl, rfl, _, rfl, ?_⟩
      refine iteFe (by decide) ?_
      refine ⟨_, rfl, x, v, rfl, X8, _, rfl, _, _, rfl, rfl, rfl, _, rfl, ?_⟩
      refine iteFe (by rw [settled_due, hd]; decide) ?_
      refine ⟨_, rfl, x, v, rfl, X8, _, rfl, rfl, rfl, _, rfl, ?_⟩
      refine iteFe (by rw [even_due, hd]; decide) ?_
      -- opened
      refine ⟨_, rfl, x, v, rfl, X8, x, v, rfl, rfl, X8, gd, fun HB y SC hy => ?_⟩
      have og := good_opened gd
      have oe : v.opened.ends = v.ends := opened_ends
      refine ⟨_, rfl, y, _, rfl, hy, fun t4 h4 => ?_⟩
      rw [oe]
      have S4' := new_same h4 (.tup [.str v.ends.1, .str v.ends.2])
      have X9 := (X8.same SC).same S4'
      refine ⟨_, rfl, x, v, rfl, X9, fun t5 h5 => ?_⟩
      have S5' := new_same h5 (.tup [.str v.ends.1, .str v.ends.2])
      have R9 := ((R8.trans SC).trans S4').trans S5'
      have Y9 := (hy.same S4').same S5'
      have sC : SeqAt.shaped (.tuple [.str v.ends.1, .str v.ends.2]) = true := shaped_strsT [v.ends.1, v.ends.2] (by simp [so1, so2])
      refine eqD_sameT (xs := [.str v.ends.1, .str v.ends.2]) (ds := [.str v.ends.1, .str v.ends.2]) (SqT.of (S5' _ _ upd_same)) (SqT.of upd_same) (dps_strs [v.ends.1, v.ends.2]) sC ⟨_, rfl, iteT ?_⟩
      generalize upd (upd HB t4 (.tup [.str v.ends.1, .str v.ends.2])) t5 (.tup [.str v.ends.1, .str v.ends.2]) = HC at R9 Y9
      have e1 : v.opened.isEnd v.ends.1 := .inl (by rw [oe])
      have e2 : v.opened.isEnd v.ends.2 := .inr (by rw [oe])
      refine ⟨_, rfl, y, _, rfl, Y9, _, rfl, y, _, _, rfl, rfl, Y9, e1, fun HD SD => ⟨_, rfl, ?_⟩⟩
      refine iteTe (opened_leads v _) ?_
      have YD := Y9.same SD
      refine ⟨_, rfl, y, _, rfl, YD, _, rfl, y, _, _, rfl, rfl, YD, e2, fun HE SE => ⟨_, rfl, ?_⟩⟩
      refine iteTe (opened_leads v _) ?_
      have YE := YD.same SE
      refine ⟨_, rfl, y, _, rfl, YE, y, _, rfl, rfl, YE, og, fun HF z SF hz => ?_⟩
      rw [opened_opened] at hz
      have YF := YE.same SF
      refine ⟨_, rfl, z, _, some v.opened, rfl, hz, ⟨y, rfl, YF⟩, _, rfl, ?_⟩
      refine iteTe (decide_eq_true rfl) ?_
      refine ⟨_, rfl, y, _, rfl, YF, y, _, rfl, rfl, YF, og, fun HG z2 SG hz2 => ?_⟩
      rw [opened_inv] at hz2
      refine ⟨_, rfl, z2, _, some v.opened, rfl, hz2, ⟨y, rfl, YF.same SG⟩, ?_⟩
      rw [decide_eq_true rfl]
      exact k _ ((((R9.trans SD).trans SE).trans SF).trans SG)
    · rw [hd]
      refine ⟨_, rfl, x, v, rfl, X8, _, rfl, ?_⟩
      refine iteFe hL ?_
      refine ⟨_, rfl, x, v, rfl, X8, _, rfl, ?_⟩
      refine iteFe hA ?_
      refine ⟨_, rfl, _, rfl, rfl, _, rfl, ?_⟩
      refine iteFe (by decide) ?_
      refine ⟨_, rfl, x, v, rfl, X8, _, rfl, _, _, rfl, rfl, rfl, _, rfl, ?_⟩
      refine iteFe (by rw [settled_due, hd]; decide) ?_
      refine ⟨_, rfl, x, v, rfl, X8, _, rfl, rfl, rfl, _, rfl, ?_⟩
      refine iteFe (by rw [even_due, hd]; decide) ?_
      -- opened
      refine ⟨_, rfl, x, v, rfl, X8, x, v, rfl, rfl, X8, gd, fun HB y SC hy => ?_⟩
      have og := good_opened gd
      have oe : v.opened.ends = v.ends := opened_ends
      refine ⟨_, rfl, y, _, rfl, hy, fun t4 h4 => ?_⟩
      rw [oe]
      have S4' := new_same h4 (.tup [.str v.ends.1, .str v.ends.2])
      have X9 := (X8.same SC).same S4'
      refine ⟨_, rfl, x, v, rfl, X9, fun t5 h5 => ?_⟩
      have S5' := new_same h5 (.tup [.str v.ends.1, .str v.ends.2])
      have R9 := ((R8.trans SC).trans S4').trans S5'
      have Y9 := (hy.same S4').same S5'
      have sC : SeqAt.shaped (.tuple [.str v.ends.1, .str v.ends.2]) = true := shaped_strsT [v.ends.1, v.ends.2] (by simp [so1, so2])
      refine eqD_sameT (xs := [.str v.ends.1, .str v.ends.2]) (ds := [.str v.ends.1, .str v.ends.2]) (SqT.of (S5' _ _ upd_same)) (SqT.of upd_same) (dps_strs [v.ends.1, v.ends.2]) sC ⟨_, rfl, iteT ?_⟩
      generalize upd (upd HB t4 (.tup [.str v.ends.1, .str v.ends.2])) t5 (.tup [.str v.ends.1, .str v.ends.2]) = HC at R9 Y9
      have e1 : v.opened.isEnd v.ends.1 := .inl (by rw [oe])
      have e2 : v.opened.isEnd v.ends.2 := .inr (by rw [oe])
      refine ⟨_, rfl, y, _, rfl, Y9, _, rfl, y, _, _, rfl, rfl, Y9, e1, fun HD SD => ⟨_, rfl, ?_⟩⟩
      refine iteTe (opened_leads v _) ?_
      have YD := Y9.same SD
      refine ⟨_, rfl, y, _, rfl, YD, _, rfl, y, _, _, rfl, rfl, YD, e2, fun HE SE => ⟨_, rfl, ?_⟩⟩
      refine iteTe (opened_leads v _) ?_
      have YE := YD.same SE
      refine ⟨_, rfl, y, _, rfl, YE, y, _, rfl, rfl, YE, og, fun HF z SF hz => ?_⟩
      rw [opened_opened] at hz
      have YF := YE.same SF
      refine ⟨_, rfl, z, _, some v.opened, rfl, hz, ⟨y, rfl, YF⟩, _, rfl, ?_⟩
      refine iteTe (decide_eq_true rfl) ?_
      refine ⟨_, rfl, y, _, rfl, YF, y, _, rfl, rfl, YF, og, fun HG z2 SG hz2 => ?_⟩
      rw [opened_inv] at hz2
      refine ⟨_, rfl, z2, _, some v.opened, rfl, hz2, ⟨y, rfl, YF.same SG⟩, ?_⟩
      rw [decide_eq_true rfl]
      exact k _ ((((R9.trans SD).trans SE).trans SF).trans SG)
end
end K10
namespace K10
open PySem PySem.Spec PyProof.Rows L2 Hx Gx Nx TL
theorem strOk_num (i : Int) : PyData.strOk (numText i) = true := by
  unfold PyData.strOk
  rw [← Array.all_toList, List.all_eq_true]
  intro c hc
  have hc : c ∈ tl (numText i) := hc
  rw [tl_numText] at hc
  have : c ≤ 57 := by
    rcases List.mem_append.mp hc with h | h
    · by_cases z : i < 0
      · rw [if_pos z] at h
        simp at h
        omega
      · rw [if_neg z] at h
        cases h
    · false_or_by_contra
      exact numL_free (n := i.natAbs) (s := c) (.inr (by omega)) h
  exact decide_eq_true (by omega)
theorem wf_good {v : Sv} (g : Good v) : WfSv v := by
  cases v with
  | lane t a b => obtain ⟨h0, h1, h2, _⟩ := okEnds_iff g; exact ⟨h0, h1, h2⟩
  | avenue t a b => obtain ⟨h0, h1, h2, _⟩ := okEnds_iff g.1; exact ⟨h0, h1, h2⟩
  | road t a b i j => obtain ⟨h0, h1, h2, _⟩ := okEnds_iff g.1; exact ⟨h0, h1, h2, g.2.2⟩
theorem ren_words (v : Sv) (n : Str) : (v.ren n).words.drop 2 = v.words.drop 2 := by cases v <;> rfl
theorem strOk_words {v : Sv} (g : Good v) : ∀ x ∈ v.words.drop 2, PyData.strOk x = true := by
  have w := wf_good g
  cases v with
  | lane t a b =>
    intro x hx
    have hx : x ∈ [a, b] := hx
    simp at hx
    rcases hx with rfl | rfl
    · exact strOk_name w.2.1
    · exact strOk_name w.2.2
  | avenue t a b =>
    intro x hx
    have hx : x ∈ [a, b] := hx
    simp at hx
    rcases hx with rfl | rfl
    · exact strOk_name w.2.1
    · exact strOk_name w.2.2
  | road t a b i j =>
    intro x hx
    have hx : x ∈ [a, b, numText i, numText j] := hx
    simp at hx
    rcases hx with rfl | rfl | rfl | rfl
    · exact strOk_name w.2.1
    · exact strOk_name w.2.2.1
    · exact strOk_num _
    · exact strOk_num _
theorem cut_words (v : Sv) : cutV (v.words.map V.str) (some 2) none = (v.words.drop 2).map V.str := by
  cases v <;> rfl
theorem words_len (v : Sv) : v.words.length ≤ 6 := by cases v <;> (show _ + 1 ≤ 6; simp)
theorem neD_sameT {K : PySem.W.Frag} {H : Hp} {Q : VK} {a b : Addr} {xs : List V} {ds : List PyData} (ha : SqT K H a xs) (hb : SqT K H b xs) (hd : DpAll K H xs ds) (sh : SeqAt.shaped (.tuple ds) = true) (q : Q (.bl false) H) : rNeD K (.ref a) (.ref b) H Q := by
  refine ⟨.tuple ds, .tuple ds, .tup ha hd, .tup hb hd, sh, sh, ?_⟩
  have c : PyData.canLay0 (.tuple ds) = true := by
    unfold SeqAt.shaped at sh
    exact (Bool.and_eq_true _ _ ▸ sh).1
  rw [SeqAt.eqv_refl _ c]
  exact q
theorem eqD_same {K : PySem.W.Frag} {H : Hp} {Q : VK} {a b : Addr} {xs : List V} {ds : List PyData} (ha : SqL K H a xs) (hb : SqL K H b xs) (hd : DpAll K H xs ds) (sh : SeqAt.shaped (.list ds) = true) (q : Q (.bl true) H) : rEqD K (.ref a) (.ref b) H Q := by
  refine ⟨.list ds, .list ds, .lst ha hd, .lst hb hd, sh, sh, ?_⟩
  have c : PyData.canLay0 (.list ds) = true := by
    unfold SeqAt.shaped at sh
    exact (Bool.and_eq_true _ _ ▸ sh).1
  rw [SeqAt.eqv_refl _ c]
  exact q
theorem call_strT {X : Cx} {K : PySem.W.Frag} {mg : Str → Option Value} (T : Tx K mg) (e1 : X.K = K) (e2 : X.mg = mg) (hr : Room 3 X.A) : CallR X (.type "str") (rStrS K) := by
  subst e1
  subst e2
  exact call_strS T hr
end K10
namespace K10
open PySem PySem.Spec PyProof.Rows L2 Hx Gx Nx TL
section
variable {P : Program} {w : World} {K : PySem.W.Frag} {mg : Str → Option Value} {base : Heap}

def spTr (K : PySem.W.Frag) : Sp := fun vs H Q _ => ∃ (x : Addr) (v : Sv), vs = [.ref x] ∧ StAt K H x v ∧ Good v ∧ ∀ H', Same H H' → Q (.bl true) H'
theorem sc_texts_right : FnScope ["_law_street_here", "_law_some", "_law_one"] ["_law_street_here"] (defScope s__law_texts_right) := ⟨rfl, rfl, rfl, by decide +kernel, rfl, by decide +kernel, by decide +kernel⟩
theorem p_texts_right (T : Tx K mg) : Prom P w K mg base 9 d__law_texts_right ["_law_street_here"] (spTr K) := by
  obtain ⟨fd, F⟩ := f__law_texts_right T
  obtain ⟨fdRd, FRd, GRd, BRd⟩ := p_read (P := P) (w := w) (base := base) T
  refine ⟨fd, F, F.ok sc_texts_right (fun vs H Q E h => ?_) (fun cdv A outer s H vs Q E hr h => ?_), F.bindsN fun _ _ _ _ _ _ us hl => match us, hl with | [_], _ => rfl⟩
  · obtain ⟨x, v, rfl, _⟩ := h
    rfl
  · obtain ⟨x, v, rfl, hx, gd, k⟩ := h
    have hrK := hr
    refine ⟨_, PSs.nox (pss_cons (ps_set (i := 1) sc_texts_right.nd rfl (Or.inl rfl) (pe_lst (pa_cons (pv 0) (pa_cons (pe_un (un_invS (w_invert T rfl rfl) (hr.mono (by decide))) (pv 0)) (pa_cons (pe_methS0 (w_opened T rfl rfl) (pv 0) (hr.mono (by decide))) (pa_cons (pe_methS (w_renamed T rfl rfl) (pv 0) (hr.mono (by decide)) (pa_cons pe_str pa_nil)) (pa_cons (pe_methS (w_renamed T rfl rfl) (pe_un (un_invS (w_invert T rfl rfl) (hr.mono (by decide))) (pv 0)) (hr.mono (by decide)) (pa_cons pe_str pa_nil)) pa_nil)))))))
      (pss_cons (ps_if (pt_cmpR (op_neD (hu64 hr)) (pe_lc (own := [("_law_one", 2)]) (g := gName 2) (by rfl) sc_texts_right.nd (pi_list (pv 1)) (blkOk_by (own := [("_law_one", 2)]) (N := ["_law_street_here", "_law_some", "_law_one"]) (sc := defScope s__law_texts_right) (by decide +kernel)) (fun _ _ _ _ _ => pg_name (i := 2) sc_texts_right.nd rfl (Or.inl rfl)) (fun _ _ _ _ _ => (pts_one (pt_cmpR (by refine op_neT T ?_ ?_ ?_; rfl; rfl; exact hrK.mono (by decide)) (by refine ClX.pe_cmeth (pe_glob (v := .ref (He.ga K "Street")) rfl (g_Street T) rfl) (cr_Street T) (cm_Street_read T) (GRd.raw BRd .nil) ?_ pass0 (pa_cons (by refine pe_callTy (call_strT T ?_ ?_ ?_) (by rfl) (n_str T) (by decide +kernel) (pa_cons (pv 2) pa_nil); rfl; rfl; exact hrK.mono (by decide)) pa_nil); exact hrK.mono (by decide)) (pv 2) (nomark _)))) (fun _ _ _ _ _ => (pv 2))) (pe_lst pa_nil) (nomark _)) (pss_one (ps_ret pe_bl)) pss_nil)
      (pss_cons (ps_if (PW.pt (pw_or (pt_cmpR (by refine op_neT T ?_ ?_ ?_; rfl; rfl; exact hrK.mono (by decide)) (pe_methS (w_renamed T rfl rfl) (pe_un (un_invS (w_invert T rfl rfl) (hr.mono (by decide))) (pv 0)) (hr.mono (by decide)) (pa_cons pe_str pa_nil)) (pe_un (un_invS (w_invert T rfl rfl) (hr.mono (by decide))) (pe_methS (w_renamed T rfl rfl) (pv 0) (hr.mono (by decide)) (pa_cons pe_str pa_nil))) (nomark _)) (pw_or (pt_cmpR (by refine op_neT T ?_ ?_ ?_; rfl; rfl; exact hrK.mono (by decide)) (pe_un (un_invS (w_invert T rfl rfl) (hr.mono (by decide))) (pe_un (un_invS (w_invert T rfl rfl) (hr.mono (by decide))) (pv 0))) (pv 0) (nomark _)) (pw_or1 (pt_cmpR (op_neD (hu64 hr)) (pe_endsS T (hr.mono (by decide)) (pe_un (un_invS (w_invert T rfl rfl) (hr.mono (by decide))) (pv 0))) (pe_endsS T (hr.mono (by decide)) (pv 0)) (nomark _)))))) (pss_one (ps_ret pe_bl)) pss_nil)
      (pss_one (ps_ret (pe_cmpR (op_eqD (hu64 hr)) (pe_slice sl_list (pe_split (pe_callTy (call_strS T (hr.mono (by decide))) (by rfl) (n_str T) (by decide +kernel) (pa_cons (pe_methS (w_renamed T rfl rfl) (pv 0) (hr.mono (by decide)) (pa_cons pe_str pa_nil)) pa_nil)) pe_str) (po_some pe_int) po_none) (pe_slice sl_list (pe_split (pe_callTy (call_strS T (hr.mono (by decide))) (by rfl) (n_str T) (by decide +kernel) (pa_cons (pv 0) pa_nil)) pe_str) (po_some pe_int) po_none) (nomark _))))))), ?_⟩
    have hq : nameB "q" = true := by decide +kernel
    have hz : nameB "zz" = true := by decide +kernel
    refine ⟨_, rfl, _, rfl, x, v, rfl, hx, x, v, rfl, rfl, hx, gd, fun H1 y1 S1 h1 => ?_⟩
    have X1 := hx.same S1
    refine ⟨_, rfl, x, v, rfl, X1, x, v, rfl, rfl, X1, gd, fun H2 y2 S2 h2 => ?_⟩
    have X2 := X1.same S2
    refine ⟨_, rfl, x, v, rfl, X2, x, v, "q", rfl, rfl, X2, gd, hq, fun H3 y3 S3 h3 => ?_⟩
    have X3 := X2.same S3
    refine ⟨_, rfl, x, v, rfl, X3, x, v, rfl, rfl, X3, gd, fun H4 y4 S4 h4 => ?_⟩
    refine ⟨y4, v.inv, rfl, h4, y4, v.inv, "zz", rfl, rfl, h4, good_inv gd, hz, fun H5 y5 S5 h5 => ?_⟩
    refine ⟨(by show 5 ≤ sizeLine; decide), fun l nl => ?_⟩
    have S6 := new_same nl (.lst [.ref x, .ref y1, .ref y2, .ref y3, .ref y5])
    have TL : (upd H5 l (.lst [.ref x, .ref y1, .ref y2, .ref y3, .ref y5])) l = some (.lst [.ref x, .ref y1, .ref y2, .ref y3, .ref y5]) := upd_same
    have h5' := h5.same S6
    have h3' := ((h3.same S4).same S5).same S6
    have h2' := (((h2.same S3).same S4).same S5).same S6
    have h1' := ((((h1.same S2).same S3).same S4).same S5).same S6
    have hx' := ((X3.same S4).same S5).same S6
    have R6 := ((((S1.trans S2).trans S3).trans S4).trans S5).trans S6
    generalize upd H5 l (.lst [.ref x, .ref y1, .ref y2, .ref y3, .ref y5]) = H6 at TL h5' h3' h2' h1' hx' R6
    have all : ∀ H', Same H6 H' → ∀ e ∈ [V.ref x, .ref y1, .ref y2, .ref y3, .ref y5], ∃ a u, e = V.ref a ∧ StAt K H' a u ∧ Good u := fun H' sm e he => by
      simp only [List.mem_cons, List.not_mem_nil, or_false] at he
      rcases he with rfl | rfl | rfl | rfl | rfl
      · exact ⟨_, _, rfl, hx'.same sm, gd⟩
      · exact ⟨_, _, rfl, h1'.same sm, good_inv gd⟩
      · exact ⟨_, _, rfl, h2'.same sm, good_opened gd⟩
      · exact ⟨_, _, rfl, h3'.same sm, good_ren gd hq⟩
      · exact ⟨_, _, rfl, h5'.same sm, good_ren (good_inv gd) hz⟩
    refine ⟨_, rfl, l, rfl, ⟨_, SqL.of TL⟩, fun D nD => ?_⟩
    refine lc_list (K := K) (a := l) (xs := [.ref x, .ref y1, .ref y2, .ref y3, .ref y5]) (fun _ H' => Same H6 H' ∧ H' D = some (.lst [])) ⟨new_same nD _, upd_same⟩ (fun _ H' _ z => SqL.of (z.1 _ _ TL)) ?_ ?_
    · rintro n e H' hv ⟨sm, dl⟩
      obtain ⟨a, u, rfl, hU, gu⟩ := all H' sm e (List.mem_of_getElem? hv)
      refine ⟨rfl, rfl, _, rfl, a, u, rfl, hU, wf_good gu, u, rfl, gu, fun H8 y8 S8 h8 => ⟨_, rfl, y8, u, some u, rfl, h8, ⟨a, rfl, hU.same S8⟩, _, rfl, ?_⟩⟩
      refine iteFe (by rw [decide_eq_true rfl]; rfl) ⟨sm.trans S8, S8 _ _ dl⟩
    rintro H7 ⟨S7, dl⟩
    refine ⟨(by show 0 ≤ sizeLine; decide), fun l2 n2 => ?_⟩
    have S8 := new_same n2 (.lst [])
    refine neD_same (xs := []) (ds := []) (SqL.of (S8 _ _ dl)) (SqL.of upd_same) .nil (by decide) ⟨_, rfl, ?_⟩
    refine iteF ?_
    have X8 := hx'.same (S7.trans S8)
    have R8 := R6.trans (S7.trans S8)
    generalize upd H7 l2 (.lst []) = H8 at X8 R8
    -- (~street).renamed("q") != ~(street.renamed("q"))
    refine ⟨_, rfl, x, v, rfl, X8, x, v, rfl, rfl, X8, gd, fun H9 a1 S9 k1 => ?_⟩
    refine ⟨a1, v.inv, rfl, k1, a1, v.inv, "q", rfl, rfl, k1, good_inv gd, hq, fun HA a2 SA k2 => ?_⟩
    have XA := (X8.same S9).same SA
    refine ⟨_, rfl, x, v, rfl, XA, x, v, "q", rfl, rfl, XA, gd, hq, fun HB a3 SB k3 => ?_⟩
    refine ⟨a3, _, rfl, k3, a3, _, rfl, rfl, k3, good_ren gd hq, fun HC a4 SC k4 => ?_⟩
    rw [inv_ren] at k2
    refine ⟨a2, _, some (v.ren "q").inv, rfl, (k2.same SB).same SC, ⟨a4, rfl, k4⟩, _, rfl, ?_⟩
    refine iteFe (by rw [decide_eq_true rfl]; rfl) ?_
    have XC := (XA.same SB).same SC
    have RC := (((R8.trans S9).trans SA).trans SB).trans SC
    -- ~~street != street
    refine ⟨_, rfl, x, v, rfl, XC, x, v, rfl, rfl, XC, gd, fun HD b1 SD m1 => ?_⟩
    refine ⟨b1, _, rfl, m1, b1, _, rfl, rfl, m1, good_inv gd, fun HE b2 SE m2 => ?_⟩
    rw [inv_inv] at m2
    have XE := (XC.same SD).same SE
    have RE := (RC.trans SD).trans SE
    refine ⟨_, rfl, b2, _, some v, rfl, m2, ⟨x, rfl, XE⟩, _, rfl, ?_⟩
    refine iteFe (by rw [decide_eq_true rfl]; rfl) ?_
    -- (~street).ends != street.ends
    refine ⟨_, rfl, x, v, rfl, XE, x, v, rfl, rfl, XE, gd, fun HF c1 SF m3 => ?_⟩
    refine ⟨c1, _, rfl, m3, fun t1 i1 => ?_⟩
    rw [inv_ends gd]
    have SG := new_same i1 (.tup [.str v.ends.1, .str v.ends.2])
    have XG := (XE.same SF).same SG
    refine ⟨_, rfl, x, v, rfl, XG, fun t2 i2 => ?_⟩
    have SH := new_same i2 (.tup [.str v.ends.1, .str v.ends.2])
    have so1 := strOk_name (ok_ends gd).1
    have so2 := strOk_name (ok_ends gd).2
    have sC : SeqAt.shaped (.tuple [.str v.ends.1, .str v.ends.2]) = true := shaped_strsT [v.ends.1, v.ends.2] (by simp [so1, so2])
    refine neD_sameT (xs := [.str v.ends.1, .str v.ends.2]) (ds := [.str v.ends.1, .str v.ends.2]) (SqT.of (SH _ _ upd_same)) (SqT.of upd_same) (dps_strs [v.ends.1, v.ends.2]) sC ⟨_, rfl, ?_⟩
    refine iteF ?_
    have XH := XG.same SH
    have RH := ((RE.trans SF).trans SG).trans SH
    generalize upd (upd HF t1 (.tup [.str v.ends.1, .str v.ends.2])) t2 (.tup [.str v.ends.1, .str v.ends.2]) = HH at XH RH
    have tl200 := text_len gd
    have gr : Good (v.ren "q") := good_ren gd hq
    have tl201 := text_len gr
    have sl : (1000 : Nat) ≤ sizeLine := by decide
    refine ⟨_, rfl, x, v, rfl, XH, x, v, "q", rfl, rfl, XH, gd, hq, fun HI d1 SI e1 => ?_⟩
    refine ⟨d1, _, rfl, e1, wf_good gr, ⟨_, rfl⟩, _, _, rfl, rfl, by decide, by omega, fun p1 j1 => ?_⟩
    rw [text_words gr]
    have SJ := new_same j1 (.lst ((v.ren "q").words.map V.str))
    have W1 : (upd HI p1 (.lst ((v.ren "q").words.map V.str))) p1 = some (.lst ((v.ren "q").words.map V.str)) := upd_same
    refine ⟨_, rfl, p1, _, rfl, SqL.of W1, fun p2 j2 => ?_⟩
    rw [cut_words, ren_words]
    have SK := new_same j2 (.lst ((v.words.drop 2).map V.str))
    have W2 : (upd (upd HI p1 (.lst ((v.ren "q").words.map V.str))) p2 (.lst ((v.words.drop 2).map V.str))) p2 = some (.lst ((v.words.drop 2).map V.str)) := upd_same
    generalize upd (upd HI p1 (.lst ((v.ren "q").words.map V.str))) p2 (.lst ((v.words.drop 2).map V.str)) = HK at SK W2
    have XK := ((XH.same SI).same SJ).same SK
    refine ⟨_, rfl, x, v, rfl, XK, wf_good gd, ⟨_, rfl⟩, _, _, rfl, rfl, by decide, by omega, fun p3 j3 => ?_⟩
    rw [text_words gd]
    have SL := new_same j3 (.lst (v.words.map V.str))
    have W3 : (upd HK p3 (.lst (v.words.map V.str))) p3 = some (.lst (v.words.map V.str)) := upd_same
    refine ⟨_, rfl, p3, _, rfl, SqL.of W3, fun p4 j4 => ?_⟩
    rw [cut_words]
    have SM := new_same j4 (.lst ((v.words.drop 2).map V.str))
    refine eqD_same (xs := (v.words.drop 2).map V.str) (ds := (v.words.drop 2).map .str) (SqL.of (SM _ _ (SL _ _ W2))) (SqL.of upd_same) (dps_strs _) (shaped_strs _ (strOk_words gd)) ?_
    exact k _ (((((RH.trans SI).trans SJ).trans SK).trans SL).trans SM)
end
end K10
namespace K10
open PySem PySem.Spec PyProof.Rows L2 Hx Gx Nx TL
section
variable {X : Cx} {CX : CXT} {k n : Nat} {f C : Addr} {fd : FuncData} {ps ks : List Str} {sp : Sp} {E : XK} {m : Str} {apos pos : Pos} {o : Expr} {kws : List Keyword} {ta : TE} {tk : TA} {g : List Value → List Value → List Value} {gV : List V → List V → List V}
/-- o.m(k = v, ..) -/
def tMethN (C : Addr) (m : Str) (n : Nat) (sp : Sp) (gV : List V → List V → List V) (E : XK) (ta : TE) (tk : TA) : TE := fun σ H Q => ta σ H fun x H1 => ∃ a dx fs, x = .ref a ∧ H1 a = some (.ins C dx fs) ∧ fs.lookup m = none ∧ tk σ H1 fun zs H2 => zs.length = n ∧ sp (gV [.ref a] zs) H2 Q E
theorem pe_methN0 {pl : Sem Bool} (he : PE X o ta) (c : Cls X.K C) (hm : Meth X.K C m f) (F : FnOk X.prog X.w X.K X.mg X.base CX k f fd ps sp) (hr : Room k X.A) (hb : KBn X.K fd ps 1 ks g gV) (hx : Passes CX X E) (hkw : PK X kws tk)
    (hall : (backToKw pos (keywordEach kws X.env)).all (·.1.isSome) = true := by rfl) (hks : (backToKw pos (keywordEach kws X.env)).filterMap (·.1) = ks := by rfl)
    (hpl : ((backTo pos (starEach [] X.env)).any (·.1) || (backToKw pos (keywordEach kws X.env)).any (·.1.isNone)) = false := by rfl)
    (ht : eval (.Call (.Attribute o m apos) [] kws pos) X.env = (do
      let ov ← eval o X.env
      standAt apos.atName
      let (f, first) ← holding [ov] (getMethod ov m pl)
      callWith pos f first (backTo pos (starEach [] X.env)) (backToKw pos (keywordEach kws X.env))) := by rfl) :
    PE X (.Call (.Attribute o m apos) [] kws pos) (tMethN C m ks.length sp gV E ta tk) := by
  refine ⟨fun pins s σ H Q I h => ?_⟩
  refine PySem.W.methodCall_KW (pl := pl) (thn (he.run pins s σ H _ I h) fun u s1 ⟨x, H1, I1, rx, a, dx, fs, ex, ea, l, q⟩ => ?_) ht
  subst ex
  obtain rfl : u = Value.ref a := rx
  refine getmeth_ok I1 ea c hm l ?_
  refine PySem.W.callWith_KW0 (first := [.ref a]) (h₀ := X.base) I.ok.mod.kin hm.kp hall ?_ hpl
  refine thn (hkw.run pos pins s1 σ H1 _ I1 q) fun ws s2 ⟨zs, H2, I2, rz, l2, q2⟩ => ⟨I2.kIn, ?_⟩
  rw [hks]
  exact run_fnN (us := [.ref a]) (vs := [.ref a]) F hr hb hx I2 (.cons rfl .nil) rz rfl l2 q2
end
section
variable {P : Program} {w : World} {K : PySem.W.Frag} {mg : Str → Option Value} {base : Heap}
theorem kb_there {fd : FuncData} (F : Fd K d_Road_priced fd) : ∃ mv : List Value, KBn K fd ["self", "there", "back"] 1 ["there"] (fun us ws => us ++ ws ++ mv) (fun vs zs => vs ++ zs ++ [.non]) :=
  FunD.kbinds0 F 1 ["there"] [("back", .non)] (fun us mv ws => us ++ ws ++ mv) (by simp) (by simp [He.Dv.v]) (fun r1 r2 r3 => (r1.append r3).append r2) (fun D doc pm an cdv ct us mv ws l1 l2 l3 =>
    match us, mv, ws, l1, l2, l3 with
    | [_], [_], [_], _, _, _ => ⟨_, _, _, _, _, _, rfl, rfl, rfl⟩)
theorem kb_back {fd : FuncData} (F : Fd K d_Road_priced fd) : ∃ mv : List Value, KBn K fd ["self", "there", "back"] 1 ["back"] (fun us ws => us ++ mv ++ ws) (fun vs zs => vs ++ [.non] ++ zs) :=
  FunD.kbinds0 F 1 ["back"] [("there", .non)] (fun us mv ws => us ++ mv ++ ws) (by simp) (by simp [He.Dv.v]) (fun r1 r2 r3 => (r1.append r2).append r3) (fun D doc pm an cdv ct us mv ws l1 l2 l3 =>
    match us, mv, ws, l1, l2, l3 with
    | [_], [_], [_], _, _, _ => ⟨_, _, _, _, _, _, rfl, rfl, rfl⟩)
theorem kb_both {fd : FuncData} (F : Fd K d_Road_priced fd) : ∃ mv : List Value, KBn K fd ["self", "there", "back"] 1 ["there", "back"] (fun us ws => us ++ mv ++ ws) (fun vs zs => vs ++ [] ++ zs) :=
  FunD.kbinds0 F 1 ["there", "back"] [] (fun us mv ws => us ++ mv ++ ws) (by simp) (by simp [He.Dv.v]) (fun r1 r2 r3 => (r1.append r2).append r3) (fun D doc pm an cdv ct us mv ws l1 l2 l3 =>
    match us, mv, ws, l1, l2, l3 with
    | [_], [], [_, _], _, _, _ => rfl)
theorem StAt.but {H H' : Hp} {p x : Addr} {n : Nat} {v : Sv} (h : StAt K H x v) (q : PenAt H p n) (b : But p H H') : StAt K H' x v := by
  obtain ⟨c, ns, a, r, h1, _⟩ := q
  obtain ⟨dx, h⟩ := h
  exact ⟨dx, b _ _ (ne_of h h1 (by intro z; cases z)) h⟩

theorem at_road {H : Hp} {x : Addr} {t a b m : Str} {i j : Int} {R : Addr → Prop} (hx : StAt K H x (.road t a b i j)) (n : (rf t a b i j).lookup m = none) (h : R x) : ∃ y dx fs, V.ref x = V.ref y ∧ H y = some (.ins (He.ga K "Road") dx fs) ∧ fs.lookup m = none ∧ R y :=
  let ⟨dx, e⟩ := hx
  ⟨x, dx, _, rfl, e, n, h⟩
theorem no_signed (t a b : Str) (i j : Int) : (rf t a b i j).lookup ("signed" : Str) = none := fs_no (.road t a b i j) (by decide +kernel) (by decide +kernel) (by decide +kernel) (by decide +kernel) (by decide +kernel) (by decide +kernel) (by decide +kernel)
theorem no_price (t a b : Str) (i j : Int) : (rf t a b i j).lookup ("price" : Str) = none := fs_no (.road t a b i j) (by decide +kernel) (by decide +kernel) (by decide +kernel) (by decide +kernel) (by decide +kernel) (by decide +kernel) (by decide +kernel)
theorem no_priced (t a b : Str) (i j : Int) : (rf t a b i j).lookup ("priced" : Str) = none := fs_no (.road t a b i j) (by decide +kernel) (by decide +kernel) (by decide +kernel) (by decide +kernel) (by decide +kernel) (by decide +kernel) (by decide +kernel)
theorem lane_end1 {t f g : Str} : (Sv.lane t f g).isEnd f := by
  show f = (if strLt f g then (f, g) else (g, f)).1 ∨ f = (if strLt f g then (f, g) else (g, f)).2
  split
  · exact .inl rfl
  · exact .inr rfl
theorem lane_end2 {t f g : Str} : (Sv.lane t f g).isEnd g := by
  show g = (if strLt f g then (f, g) else (g, f)).1 ∨ g = (if strLt f g then (f, g) else (g, f)).2
  split
  · exact .inr rfl
  · exact .inl rfl
theorem lane_opened {t a b g : Str} (lt : strLt a b) (h : g = a ∨ g = b) : (Sv.lane t (if g = a then b else a) g).opened = .avenue t a b := by
  show mkAv t _ _ = _
  have hab := lt_ne lt
  rcases h with rfl | rfl
  · rw [if_pos rfl]; unfold mkAv; rw [if_neg (lt_not lt)]
  · rw [if_neg (fun e => hab e.symm)]; unfold mkAv; rw [if_pos lt]
theorem far_ne {a b g : Str} (hab : a ≠ b) (h : g = a ∨ g = b) : (if g = a then b else a) ≠ g := by
  rcases h with rfl | rfl
  · rw [if_pos rfl]; exact hab.symm
  · rw [if_neg hab.symm]; exact hab
theorem ok_lane {t a b g : Str} (ok : okEnds t a b = true) (h : g = a ∨ g = b) : okEnds t (if g = a then b else a) g = true := by
  have hab := okEnds_ne ok
  rcases h with rfl | rfl
  · rw [if_pos rfl]; exact okEnds_swap ok
  · rw [if_neg hab.symm]; exact ok
theorem neD_same2 {H : Hp} {Q : VK} {a b : Addr} {xs ys : List V} {ds : List PyData} (ha : SqL K H a xs) (hb : SqL K H b ys) (hd : DpAll K H xs ds) (he : DpAll K H ys ds) (sh : SeqAt.shaped (.list ds) = true) (q : Q (.bl false) H) : rNeD K (.ref a) (.ref b) H Q := by
  refine ⟨.list ds, .list ds, .lst ha hd, .lst hb he, sh, sh, ?_⟩
  have c : PyData.canLay0 (.list ds) = true := by
    unfold SeqAt.shaped at sh
    exact (Bool.and_eq_true _ _ ▸ sh).1
  rw [SeqAt.eqv_refl _ c]
  exact q
theorem dp_two {H : Hp} {q : Addr} {i j : Int} (h : H q = some (.lst [.int i, .int j])) : Dp K H (.ref q) (.list [.int i, .int j]) := .lst (SqL.of h) (.cons (.int i) (.cons (.int j) .nil))
theorem sh_rows (a b c d e f : Int) : SeqAt.shaped (.list [.list [.int a, .int b], .list [.int c, .int d], .list [.int e, .int f]]) = true := by
  simp [SeqAt.shaped, PyData.canLay0, PyData.canLayAll0, PyData.depth, PyData.depthAll]
end
end K10
namespace K10
open PySem PySem.Spec PyProof.Rows L2 Hx Gx Nx TL
section
variable {P : Program} {w : World} {K : PySem.W.Frag} {mg : Str → Option Value} {base : Heap}

def spRr (K : PySem.W.Frag) : Sp := fun vs H Q _ => ∃ (p x : Addr) (t a b : Str) (i j : Int) (n : Nat), vs = [.ref p, .ref x] ∧ PenAt H p n ∧ n ≤ 90000 ∧ StAt K H x (.road t a b i j) ∧ Good (.road t a b i j) ∧ ∀ H', But p H H' → PenAt H' p (n + 1) → Q (.bl true) H'
theorem sc_road_right : FnScope ["_law_pen_here", "_law_road", "_law_low", "_law_high", "_law_end", "_law_lane", "_law_pay", "_law_some", "_law_told", "_law_one"] ["_law_pen_here", "_law_road"] (defScope s__law_road_right) := ⟨rfl, rfl, rfl, by decide +kernel, rfl, by decide +kernel, by decide +kernel⟩
theorem p_road_right (T : Tx K mg) : Prom P w K mg base 9 d__law_road_right ["_law_pen_here", "_law_road"] (spRr K) := by
  obtain ⟨fd, F⟩ := f__law_road_right T
  obtain ⟨fdDr, FDr, GDr, BDr⟩ := p_draw (P := P) (w := w) (base := base) T
  obtain ⟨fdPr, FPr, Gprice, Bprice⟩ := p_Road_price (P := P) (w := w) (base := base) T
  obtain ⟨fdSg, FSg, Gsigned, Bsigned⟩ := p_Road_signed (P := P) (w := w) (base := base) T
  obtain ⟨fdPd, FPd, Gpriced⟩ := p_Road_priced (P := P) (w := w) (base := base) T
  obtain ⟨mv1, KThere⟩ := kb_there FPd
  obtain ⟨mv2, KBack⟩ := kb_back FPd
  obtain ⟨mv3, KBoth⟩ := kb_both FPd
  refine ⟨fd, F, F.ok sc_road_right (fun vs H Q E h => ?_) (fun cdv A outer s H vs Q E hr h => ?_), F.bindsN fun _ _ _ _ _ _ us hl => match us, hl with | [_, _], _ => rfl⟩
  · obtain ⟨p, x, t, a, b, i, j, n, rfl, _⟩ := h
    rfl
  · obtain ⟨p, x, t, a, b, i, j, n, rfl, hp, hn, hx, gd, k⟩ := h
    have hrK := hr
    refine ⟨_, PSs.nox (pss_cons (ps_asg (pe_endsS T (hr.mono (by decide)) (pv 1)) (pg_tup (by rfl) (pgs_cons (pg_name (i := 2) sc_road_right.nd rfl (Or.inr rfl)) (pgs_cons (pg_name (i := 3) sc_road_right.nd rfl (Or.inr rfl)) pgs_nil))))
      (pss_cons (ps_if (PW.pt (pw_or (pt_cmpR (by refine op_neT T ?_ ?_ ?_; rfl; rfl; exact hrK.mono (by decide)) (pe_meth (pv 1) (c_Road T) (m_Road_signed T) Gsigned (hr.mono (by decide)) Bsigned .nil pass0 (pa_cons (pv 2) pa_nil)) (pe_un (un_invS (w_invert T rfl rfl) (hr.mono (by decide))) (pe_meth (pv 1) (c_Road T) (m_Road_signed T) Gsigned (hr.mono (by decide)) Bsigned .nil pass0 (pa_cons (pv 3) pa_nil))) (nomark _)) (pw_or1 (pt_cmpR op_ne (pe_meth (pv 1) (c_Road T) (m_Road_price T) Gprice (hr.mono (by decide)) Bprice .nil pass0 (pa_cons (pv 2) pa_nil)) (pe_meth (pe_un (un_invS (w_invert T rfl rfl) (hr.mono (by decide))) (pv 1)) (c_Road T) (m_Road_price T) Gprice (hr.mono (by decide)) Bprice .nil pass0 (pa_cons (pv 3) pa_nil)) (nomark _))))) (pss_one (ps_ret pe_bl)) pss_nil)
      (pss_cons (ps_for PassesOwn.never rfl (pi_tup (pe_endsS T (hr.mono (by decide)) (pv 1))) (pg_name (i := 4) sc_road_right.nd rfl (Or.inl rfl)) (pss_cons (ps_set (i := 5) sc_road_right.nd rfl (Or.inl rfl) (pe_meth (pv 1) (c_Road T) (m_Road_signed T) Gsigned (hr.mono (by decide)) Bsigned .nil pass0 (pa_cons (pv 4) pa_nil)))
      (pss_cons (ps_if (PW.pt (pw_or (pt_not (pt_val (pe_methS (w_leads T rfl rfl) (pv 5) (hr.mono (by decide)) (pa_cons (pv 4) pa_nil)))) (pw_or (pt_val (pe_methS (w_leads T rfl rfl) (pv 5) (hr.mono (by decide)) (pa_cons (pe_methS (w_far T rfl rfl) (pv 1) (hr.mono (by decide)) (pa_cons (pv 4) pa_nil)) pa_nil))) (pw_or (pt_cmpR op_ne (pe_fld (pv 5) rfl) (pv 4) (nomark _)) (pw_or1 (pt_cmpR op_ne (pe_nameS T (pv 5)) (pe_nameS T (pv 1)) (nomark _))))))) (pss_one (ps_ret pe_bl)) pss_nil)
      (pss_cons (ps_if (PW.pt (pw_or (pt_cmpR (by refine op_neT T ?_ ?_ ?_; rfl; rfl; exact hrK.mono (by decide)) (pe_meth (pe_un (un_invS (w_invert T rfl rfl) (hr.mono (by decide))) (pv 1)) (c_Road T) (m_Road_signed T) Gsigned (hr.mono (by decide)) Bsigned .nil pass0 (pa_cons (pv 4) pa_nil)) (pv 5) (nomark _)) (pw_or1 (pt_cmpR op_ne (pe_meth (pe_methS (w_renamed T rfl rfl) (pv 1) (hr.mono (by decide)) (pa_cons pe_str pa_nil)) (c_Road T) (m_Road_price T) Gprice (hr.mono (by decide)) Bprice .nil pass0 (pa_cons (pv 4) pa_nil)) (pe_meth (pv 1) (c_Road T) (m_Road_price T) Gprice (hr.mono (by decide)) Bprice .nil pass0 (pa_cons (pv 4) pa_nil)) (nomark _))))) (pss_one (ps_ret pe_bl)) pss_nil)
      (pss_one (ps_if (pt_cmpR (by refine op_neT T ?_ ?_ ?_; rfl; rfl; exact hrK.mono (by decide)) (pe_methS0 (w_opened T rfl rfl) (pv 5) (hr.mono (by decide))) (pe_methS0 (w_opened T rfl rfl) (pv 1) (hr.mono (by decide))) (nomark _)) (pss_one (ps_ret pe_bl)) pss_nil))))))
      (pss_cons (ps_set (i := 6) sc_road_right.nd rfl (Or.inl rfl) (pe_op op_sub (pe_call GDr (hr.mono (by decide)) rfl (g__law_draw T) FDr.kp BDr .nil pass0 (pa_cons (pv 0) (pa_cons pe_int pa_nil))) pe_int))
      (pss_cons (ps_set (i := 7) sc_road_right.nd rfl (Or.inl rfl) (pe_lst (pa_cons (pe_methN0 (pv 1) (c_Road T) (m_Road_priced T) Gpriced (hr.mono (by decide)) KThere pass0 (pk_cons (pv 6) pk_nil)) (pa_cons (pe_methN0 (pv 1) (c_Road T) (m_Road_priced T) Gpriced (hr.mono (by decide)) KBack pass0 (pk_cons (pv 6) pk_nil)) (pa_cons (pe_methN0 (pv 1) (c_Road T) (m_Road_priced T) Gpriced (hr.mono (by decide)) KBoth pass0 (pk_cons (pv 6) (pk_cons (pv 6) pk_nil))) pa_nil)))))
      (pss_cons (ps_setLc (i := 8) (own := [("_law_one", 9)]) (g := gName 9) (tt := tYes) (by rfl) sc_road_right.nd rfl rfl (by rfl) (pi_list (pv 7)) (blkOk_by (own := [("_law_one", 9)]) (N := ["_law_pen_here", "_law_road", "_law_low", "_law_high", "_law_end", "_law_lane", "_law_pay", "_law_some", "_law_told", "_law_one"]) (sc := defScope s__law_road_right) (by decide +kernel)) (fun _ _ _ _ _ => pg_name (i := 9) sc_road_right.nd rfl (Or.inl rfl)) (fun _ _ _ _ _ => pts_nil) (fun _ _ _ _ _ => (pe_lst (pa_cons (by refine pe_meth (pv 9) (c_Road T) (m_Road_price T) Gprice ?_ Bprice .nil pass0 (pa_cons (pv 3) pa_nil); exact hrK.mono (by decide)) (pa_cons (by refine pe_meth (pv 9) (c_Road T) (m_Road_price T) Gprice ?_ Bprice .nil pass0 (pa_cons (pv 2) pa_nil); exact hrK.mono (by decide)) pa_nil)))))
      (pss_cons (ps_if (pt_cmpR (op_neD (hu64 hr)) (pv 8) (pe_lst (pa_cons (pe_lst (pa_cons (pv 6) (pa_cons (pe_meth (pv 1) (c_Road T) (m_Road_price T) Gprice (hr.mono (by decide)) Bprice .nil pass0 (pa_cons (pv 2) pa_nil)) pa_nil))) (pa_cons (pe_lst (pa_cons (pe_meth (pv 1) (c_Road T) (m_Road_price T) Gprice (hr.mono (by decide)) Bprice .nil pass0 (pa_cons (pv 3) pa_nil)) (pa_cons (pv 6) pa_nil))) (pa_cons (pe_lst (pa_cons (pv 6) (pa_cons (pv 6) pa_nil))) pa_nil)))) (nomark _)) (pss_one (ps_ret pe_bl)) pss_nil)
      (pss_cons (ps_if (PW.pt (pw_or (pt_cmpR (by refine op_neT T ?_ ?_ ?_; rfl; rfl; exact hrK.mono (by decide)) (pe_un (un_invS (w_invert T rfl rfl) (hr.mono (by decide))) (pe_ix ix_list (pv 7) pe_int (fun _ _ => rfl))) (pe_methN0 (pe_un (un_invS (w_invert T rfl rfl) (hr.mono (by decide))) (pv 1)) (c_Road T) (m_Road_priced T) Gpriced (hr.mono (by decide)) KBack pass0 (pk_cons (pv 6) pk_nil)) (nomark _)) (pw_or (pt_cmpR (by refine op_neT T ?_ ?_ ?_; rfl; rfl; exact hrK.mono (by decide)) (pe_un (un_invS (w_invert T rfl rfl) (hr.mono (by decide))) (pe_ix ix_list (pv 7) pe_int (fun _ _ => rfl))) (pe_ix ix_list (pv 7) pe_int (fun _ _ => rfl)) (nomark _)) (pw_or1 (pt_cmpR (op_neD (hu64 hr)) (pe_endsS T (hr.mono (by decide)) (pe_ix ix_list (pv 7) pe_int (fun _ _ => rfl))) (pe_endsS T (hr.mono (by decide)) (pv 1)) (nomark _)))))) (pss_one (ps_ret pe_bl)) pss_nil)
      (pss_one (ps_ret (pe_and (pe_cmpR (by refine op_eqT T ?_ ?_ ?_; rfl; rfl; exact hrK.mono (by decide)) (pe_methN0 (pv 1) (c_Road T) (m_Road_priced T) Gpriced (hr.mono (by decide)) KBoth pass0 (pk_cons (pe_fld (pv 1) rfl) (pk_cons (pe_fld (pv 1) rfl) pk_nil))) (pv 1) (nomark _)) (pe_one (pe_cmpR (by refine op_eqT T ?_ ?_ ?_; rfl; rfl; exact hrK.mono (by decide)) (pe_methN0 (pe_ix ix_list (pv 7) pe_int (fun _ _ => rfl)) (c_Road T) (m_Road_priced T) Gpriced (hr.mono (by decide)) KThere pass0 (pk_cons (pe_fld (pv 1) rfl) pk_nil)) (pv 1) (nomark _)))))))))))))), ?_⟩
    obtain ⟨ok, lt, qi, qj⟩ := id gd
    have hab : a ≠ b := lt_ne lt
    have hba : b ≠ a := hab.symm
    have I1 : (if a = a then b else a) = b := if_pos rfl
    have I2 : (if b = a then b else a) = a := if_neg hba
    have nS := no_signed
    have nP := no_price
    have nD := no_priced
    have hq : nameB "q" = true := by decide +kernel
    refine ⟨_, rfl, x, _, rfl, hx, fun t0 h0 => ?_⟩
    have S0 := new_same h0 (.tup [.str (Sv.road t a b i j).ends.1, .str (Sv.road t a b i j).ends.2])
    have T0 : (upd H t0 (.tup [.str (Sv.road t a b i j).ends.1, .str (Sv.road t a b i j).ends.2])) t0 = some (.tup [.str a, .str b]) := upd_same
    generalize upd H t0 (.tup [.str (Sv.road t a b i j).ends.1, .str (Sv.road t a b i j).ends.2]) = H1 at S0 T0
    refine ⟨t0, _, rfl, SqT.of T0, rfl, _, _, rfl, _, _, rfl, rfl, ?_⟩
    have X1 := hx.same S0
    -- signed(low) != ~signed(high)
    refine ⟨_, rfl, at_road X1 (nS _ _ _ _ _) ⟨_, rfl, x, t, a, b, i, j, a, rfl, X1, ok, .inl rfl, fun H2 y1 S2 k1 => ?_⟩⟩
    rw [I1] at k1
    have X2 := X1.same S2
    refine ⟨_, rfl, at_road X2 (nS _ _ _ _ _) ⟨_, rfl, x, t, a, b, i, j, b, rfl, X2, ok, .inr rfl, fun H3 y2 S3 k2 => ?_⟩⟩
    rw [I2] at k2
    refine ⟨y2, _, rfl, k2, y2, _, rfl, rfl, k2, ok, fun H4 y3 S4 k3 => ?_⟩
    refine ⟨y1, .lane t b a, some (.lane t b a), rfl, (k1.same S3).same S4, ⟨y3, rfl, k3⟩, _, rfl, ?_⟩
    refine iteFe (by rw [decide_eq_true rfl]; rfl) ?_
    have X4 := (X2.same S3).same S4
    have R4 := ((S0.trans S2).trans S3).trans S4
    -- price(low) != (~road).price(high)
    refine ⟨_, rfl, at_road X4 (nP _ _ _ _ _) ⟨_, rfl, x, t, a, b, i, j, a, rfl, X4, .inl rfl, fun H5 S5 => ?_⟩⟩
    have X5 := X4.same S5
    refine ⟨_, rfl, x, _, rfl, X5, x, _, rfl, rfl, X5, gd, fun H6 y4 S6 k4 => ?_⟩
    refine at_road k4 (nP _ _ _ _ _) ⟨_, rfl, y4, t, a, b, j, i, b, rfl, k4, .inr rfl, fun H7 S7 => ?_⟩
    rw [if_neg hab, if_pos rfl]
    refine ⟨rfl, _, rfl, ?_⟩
    refine iteFe (by simp) ?_
    have X7 := (X5.same S6).same S7
    have R7 := ((R4.trans S5).trans S6).trans S7
    -- for end in ends
    refine ⟨_, rfl, x, _, rfl, X7, fun t1 h1 => ?_⟩
    have S8 := new_same h1 (.tup [.str (Sv.road t a b i j).ends.1, .str (Sv.road t a b i j).ends.2])
    have T1 : (upd H7 t1 (.tup [.str (Sv.road t a b i j).ends.1, .str (Sv.road t a b i j).ends.2])) t1 = some (.tup [.str a, .str b]) := upd_same
    generalize upd H7 t1 (.tup [.str (Sv.road t a b i j).ends.1, .str (Sv.road t a b i j).ends.2]) = H8 at S8 T1
    have X8 := X7.same S8
    have R8 := R7.trans S8
    refine ⟨t1, rfl, ⟨_, SqT.of T1⟩, ?_⟩
    refine for_tup (K := K) (a := t1) (xs := [.str a, .str b]) (fun n σ H' => Same H8 H' ∧ ∃ v4 v5, σ = [some (.ref p), some (.ref x), some (.str a), some (.str b), v4, v5, none, none, none, none]) ⟨fun _ _ e => e, none, none, rfl⟩ (fun n σ H' _ z => SqT.of (z.1 _ _ T1)) ?_ ?_
    · rintro n e σ H' hn ⟨sm, v4, v5, rfl⟩
      obtain ⟨g, rfl, hg⟩ : ∃ g, e = V.str g ∧ (g = a ∨ g = b) := by
        have m := List.mem_of_getElem? hn
        simp only [List.mem_cons, List.not_mem_nil, or_false] at m
        rcases m with rfl | rfl
        · exact ⟨_, rfl, .inl rfl⟩
        · exact ⟨_, rfl, .inr rfl⟩
      have X9 := X8.same sm
      refine ⟨_, rfl, at_road X9 (nS _ _ _ _ _) ⟨_, rfl, x, t, a, b, i, j, g, rfl, X9, ok, hg, fun HA y SA ky => ?_⟩⟩
      have gL : Good (.lane t (if g = a then b else a) g) := ok_lane ok hg
      have fne := far_ne hab hg
      have oL := lane_opened (t := t) lt hg
      have hfar : (Sv.road t a b i j).far g = if g = a then b else a := rfl
      generalize (if g = a then b else a) = f at ky gL fne oL hfar
      have XA := X9.same SA
      refine ⟨_, rfl, y, _, rfl, ky, ⟨_, rfl, y, _, g, rfl, rfl, ky, lane_end2, fun HB SB => ⟨_, rfl, ?_⟩⟩⟩
      refine iteFe (show (!decide (g = g)) = false by simp) ?_
      have XB := XA.same SB
      have KB := ky.same SB
      refine ⟨_, rfl, y, _, rfl, KB, ⟨_, rfl, x, _, rfl, XB, ⟨_, rfl, x, _, g, rfl, rfl, XB, hg, fun HC SC => ?_⟩⟩⟩
      rw [hfar]
      have KC := KB.same SC
      refine ⟨y, _, f, rfl, rfl, KC, lane_end1, fun HD SD => ⟨_, rfl, ?_⟩⟩
      refine iteFe (show decide (f = g) = false from decide_eq_false fne) ?_
      have KD := KC.same SD
      have XD := (XB.same SC).same SD
      obtain ⟨dy, eD⟩ := id KD
      refine ⟨_, rfl, y, _, dy, _, _, rfl, eD, c_Lane T, na_Lane_goal T, lf_goal _ _ _, ⟨_, rfl, rfl, _, rfl, ?_⟩⟩
      refine iteFe (by simp) ?_
      refine ⟨_, rfl, y, _, t, rfl, KD, lf_name _ _ _, _, rfl, x, _, t, rfl, XD, rf_name _ _ _ _ _, rfl, _, rfl, ?_⟩
      refine iteFe (by simp) ?_
      -- (~road).signed(end) != lane
      refine ⟨_, rfl, x, _, rfl, XD, x, _, rfl, rfl, XD, gd, fun HE z SE kz => ?_⟩
      refine at_road kz (nS _ _ _ _ _) ⟨_, rfl, z, t, a, b, j, i, g, rfl, kz, ok, hg, fun HF z2 SF kz2 => ?_⟩
      have hfar2 : (if g = a then b else a) = f := hfar
      rw [hfar2] at kz2
      have KF := (KD.same SE).same SF
      have XF := (XD.same SE).same SF
      refine ⟨_, rfl, z2, _, some (.lane t f g), rfl, kz2, ⟨y, rfl, KF⟩, _, rfl, ?_⟩
      refine iteFe (by rw [decide_eq_true rfl]; rfl) ?_
      refine ⟨_, rfl, x, _, rfl, XF, x, _, "q", rfl, rfl, XF, gd, hq, fun HG r SG kr => ?_⟩
      refine at_road kr (nP _ _ _ _ _) ⟨_, rfl, r, "q", a, b, i, j, g, rfl, kr, hg, fun HH SH => ?_⟩
      have XH := (XF.same SG).same SH
      refine ⟨_, rfl, at_road XH (nP _ _ _ _ _) ⟨_, rfl, x, t, a, b, i, j, g, rfl, XH, hg, fun HI SI => ?_⟩⟩
      refine ⟨rfl, _, rfl, ?_⟩
      refine iteFe (by simp) ?_
      have XI := XH.same SI
      have KI := ((KF.same SG).same SH).same SI
      -- lane.opened() != road.opened()
      refine ⟨_, rfl, y, _, rfl, KI, y, _, rfl, rfl, KI, gL, fun HJ o1 SJ k5 => ?_⟩
      rw [oL] at k5
      have XJ := XI.same SJ
      refine ⟨_, rfl, x, _, rfl, XJ, x, _, rfl, rfl, XJ, gd, fun HK o2 SK k6 => ?_⟩
      refine ⟨o1, _, some (.avenue t a b), rfl, k5.same SK, ⟨o2, rfl, k6⟩, _, rfl, ?_⟩
      refine iteFe (by rw [decide_eq_true rfl]; rfl) ?_
      exact ⟨((((((((((sm.trans SA).trans SB).trans SC).trans SD).trans SE).trans SF).trans SG).trans SH).trans SI).trans SJ).trans SK, _, _, rfl⟩
    rintro σ HL ⟨SL, v4, v5, rfl⟩
    have RL := R8.trans SL
    have pL := hp.same RL
    have XL := X8.same SL
    refine ⟨_, rfl, p, n, 99, rfl, pL, by omega, by decide, by decide, fun HM d bM pM g1 g2 => ⟨d, 50, rfl, rfl, ?_⟩⟩
    have XM := XL.but pL bM
    have qd : priceOk (d - 50) := ⟨by omega, by omega⟩
    have bR : But p H HM := (But.of RL).trans bM
    dsimp only
    generalize hy : d - 50 = y at qd ⊢
    clear hy g1 g2
    -- priced by there, by back, by both
    refine ⟨_, rfl, at_road XM (nD _ _ _ _ _) ⟨_, rfl, rfl, x, t, a, b, i, j, some y, none, rfl, XM, gd, fun z e => (by cases e; exact qd), fun z e => (by cases e), fun H1 s1 S1 k1 => ?_⟩⟩
    have Y1 := XM.same S1
    refine ⟨_, rfl, at_road Y1 (nD _ _ _ _ _) ⟨_, rfl, rfl, x, t, a, b, i, j, none, some y, rfl, Y1, gd, fun z e => (by cases e), fun z e => (by cases e; exact qd), fun H2 s2 S2 k2 => ?_⟩⟩
    have Y2 := Y1.same S2
    refine ⟨_, rfl, at_road Y2 (nD _ _ _ _ _) ⟨_, rfl, _, rfl, rfl, x, t, a, b, i, j, some y, some y, rfl, Y2, gd, fun z e => (by cases e; exact qd), fun z e => (by cases e; exact qd), fun H3 s3 S3 k3 => ?_⟩⟩
    refine ⟨(by show 3 ≤ sizeLine; decide), fun l nl => ?_⟩
    have S4 := new_same nl (.lst [.ref s1, .ref s2, .ref s3])
    have TL : (upd H3 l (.lst [.ref s1, .ref s2, .ref s3])) l = some (.lst [.ref s1, .ref s2, .ref s3]) := upd_same
    generalize upd H3 l (.lst [.ref s1, .ref s2, .ref s3]) = H4 at S4 TL
    have K1 : StAt K H4 s1 (.road t a b y j) := ((k1.same S2).same S3).same S4
    have K2 : StAt K H4 s2 (.road t a b i y) := (k2.same S3).same S4
    have K3 : StAt K H4 s3 (.road t a b y y) := k3.same S4
    have X5 := (Y2.same S3).same S4
    have b5 : But p H H4 := bR.trans (But.of (((S1.trans S2).trans S3).trans S4))
    have p5 := pM.same (((S1.trans S2).trans S3).trans S4)
    clear k1 k2 k3 Y1 Y2 S1 S2 S3 S4
    -- told
    refine ⟨_, rfl, l, rfl, ⟨_, SqL.of TL⟩, fun D nD' => ?_⟩
    refine lc_list (K := K) (a := l) (xs := [.ref s1, .ref s2, .ref s3]) (fun n H' => Same H4 H' ∧ ∃ qs : List Addr, H' D = some (.lst (qs.map V.ref)) ∧ qs.length = n ∧ ∀ (k : Nat) (q : Addr), qs[k]? = some q → ∃ r : Int × Int, [(y, j), (i, y), (y, y)][k]? = some r ∧ H' q = some (.lst [.int r.1, .int r.2]) ∧ q ≠ D) ⟨new_same nD' _, [], upd_same, rfl, fun k q e => by cases e⟩ (fun _ H' _ z => SqL.of (z.1 _ _ TL)) ?_ ?_
    · rintro n e H' hn ⟨sm, qs, dl, ql, qr⟩
      have hr3 : ∃ (s : Addr) (r : Int × Int), e = .ref s ∧ [(y, j), (i, y), (y, y)][n]? = some r ∧ StAt K H' s (.road t a b r.1 r.2) := by
        match n, hn with
        | 0, hn => exact ⟨s1, (y, j), (Option.some.inj hn).symm, rfl, K1.same sm⟩
        | 1, hn => exact ⟨s2, (i, y), (Option.some.inj hn).symm, rfl, K2.same sm⟩
        | 2, hn => exact ⟨s3, (y, y), (Option.some.inj hn).symm, rfl, K3.same sm⟩
        | n + 3, hn => cases hn
      obtain ⟨s, ⟨r1, r2⟩, rfl, hr, hs⟩ := hr3
      have n3 : n < 3 := by
        have := (List.getElem?_eq_some_iff.mp hr).1
        exact this
      refine ⟨rfl, ?_⟩
      refine ⟨_, rfl, at_road hs (nP _ _ _ _ _) ⟨_, rfl, s, t, a, b, r1, r2, b, rfl, hs, .inr rfl, fun HA SA => ?_⟩⟩
      have hsA := hs.same SA
      refine ⟨_, rfl, at_road hsA (nP _ _ _ _ _) ⟨_, rfl, s, t, a, b, r1, r2, a, rfl, hsA, .inl rfl, fun HB SB => ?_⟩⟩
      rw [if_pos rfl, if_neg hab]
      refine ⟨(by show 2 ≤ sizeLine; decide), fun q nq => ?_⟩
      have SC := new_same nq (.lst [.int r1, .int r2])
      have TC : (upd HB q (.lst [.int r1, .int r2])) q = some (.lst [.int r1, .int r2]) := upd_same
      have dl2 := SC _ _ (SB _ _ (SA _ _ dl))
      have qD : q ≠ D := fun e => by
        subst e
        rw [SB _ _ (SA _ _ dl)] at nq
        cases nq
      generalize upd HB q (.lst [.int r1, .int r2]) = HC at SC TC dl2
      refine ⟨_, dl2, ?_, same_upd nD' (((sm.trans SA).trans SB).trans SC), qs ++ [q], ?_, ?_, ?_⟩
      · rw [List.length_map, ql]
        exact Nat.lt_trans n3 (by show 3 < sizeLine; decide)
      · rw [upd_same, List.map_append]
        rfl
      · rw [List.length_append, ql]
        rfl
      · intro k q' hk
        by_cases hkn : k < n
        · rw [List.getElem?_append_left (by omega)] at hk
          obtain ⟨r, e1, e2, e3⟩ := qr k q' hk
          exact ⟨r, e1, by rw [upd_ne e3]; exact SC _ _ (SB _ _ (SA _ _ e2)), e3⟩
        · have hk2 : k = n := by
            have := (List.getElem?_eq_some_iff.mp hk).1
            rw [List.length_append, ql] at this
            simp at this
            omega
          subst hk2
          rw [List.getElem?_append_right (by omega), ql, Nat.sub_self] at hk
          cases hk
          exact ⟨(r1, r2), hr, by rw [upd_ne qD]; exact TC, qD⟩
    rintro H6 ⟨S6, qs, dl, ql, qr⟩
    obtain ⟨q1, q2, q3, rfl⟩ : ∃ q1 q2 q3, qs = [q1, q2, q3] := by
      match qs, ql with
      | [q1, q2, q3], _ => exact ⟨q1, q2, q3, rfl⟩
    obtain ⟨_, e1, T1, _⟩ := qr 0 q1 rfl
    obtain ⟨_, e2, T2, _⟩ := qr 1 q2 rfl
    obtain ⟨_, e3, T3, _⟩ := qr 2 q3 rfl
    cases e1
    cases e2
    cases e3
    clear qr
    have X6 := X5.same S6
    -- told != ..
    refine ⟨_, rfl, _, rfl, _, rfl, at_road X6 (nP _ _ _ _ _) ⟨_, rfl, x, t, a, b, i, j, a, rfl, X6, .inl rfl, fun H7 S7 => ?_⟩⟩
    rw [if_neg hab]
    refine ⟨(by show 2 ≤ sizeLine; decide), fun m1 n1 => ?_⟩
    have S8 := new_same n1 (.lst [.int y, .int j])
    have U1 : (upd H7 m1 (.lst [.int y, .int j])) m1 = some (.lst [.int y, .int j]) := upd_same
    generalize upd H7 m1 (.lst [.int y, .int j]) = H8 at S8 U1
    have X8 := (X6.same S7).same S8
    refine ⟨_, rfl, at_road X8 (nP _ _ _ _ _) ⟨_, rfl, x, t, a, b, i, j, b, rfl, X8, .inr rfl, fun H9 S9 => ?_⟩⟩
    rw [if_pos rfl]
    refine ⟨_, rfl, (by show 2 ≤ sizeLine; decide), fun m2 n2 => ?_⟩
    have SA := new_same n2 (.lst [.int i, .int y])
    have U2 : (upd H9 m2 (.lst [.int i, .int y])) m2 = some (.lst [.int i, .int y]) := upd_same
    generalize upd H9 m2 (.lst [.int i, .int y]) = HA at SA U2
    refine ⟨_, rfl, _, rfl, (by show 2 ≤ sizeLine; decide), fun m3 n3 => ?_⟩
    have SB := new_same n3 (.lst [.int y, .int y])
    have U3 : (upd HA m3 (.lst [.int y, .int y])) m3 = some (.lst [.int y, .int y]) := upd_same
    generalize upd HA m3 (.lst [.int y, .int y]) = HB at SB U3
    refine ⟨(by show 3 ≤ sizeLine; decide), fun m4 n4 => ?_⟩
    have SC := new_same n4 (.lst [.ref m1, .ref m2, .ref m3])
    have S7C := ((((S7.trans S8).trans S9).trans SA).trans SB).trans SC
    refine neD_same2 (SqL.of (S7C _ _ dl)) (SqL.of upd_same) (.cons (dp_two (S7C _ _ T1)) (.cons (dp_two (S7C _ _ T2)) (.cons (dp_two (S7C _ _ T3)) .nil)))
      (.cons (dp_two (SC _ _ (SB _ _ (SA _ _ (S9 _ _ U1))))) (.cons (dp_two (SC _ _ (SB _ _ U2))) (.cons (dp_two (SC _ _ U3)) .nil))) (sh_rows _ _ _ _ _ _) ⟨_, rfl, ?_⟩
    refine iteF ?_
    have SS := S6.trans S7C
    have XC := X5.same SS
    have C1 := K1.same SS
    have C2 := K2.same SS
    have C3 := K3.same SS
    have TLc := SS _ _ TL
    have bC := b5.trans (But.of SS)
    have pC := p5.same SS
    generalize upd HB m4 (.lst [.ref m1, .ref m2, .ref m3]) = HC at XC C1 C2 C3 TLc bC pC
    clear S6 S7C S7 S8 S9 SA SB SC SS T1 T2 T3 U1 U2 U3 dl X6 X8 K1 K2 K3 TL b5 p5 X5
    -- ~some[0] != (~road).priced(back=pay)
    have g1 : Good (.road t a b y j) := ⟨ok, lt, qd, qj⟩
    have g3 : Good (.road t a b y y) := ⟨ok, lt, qd, qd⟩
    refine ⟨_, rfl, l, _, 0, _, rfl, rfl, SqL.of TLc, atI_nat (j := 0) rfl, s1, _, rfl, C1, s1, _, rfl, rfl, C1, g1, fun HD z1 SD k1 => ?_⟩
    have XD := XC.same SD
    refine ⟨_, rfl, x, _, rfl, XD, x, _, rfl, rfl, XD, gd, fun HE z2 SE k2 => ?_⟩
    refine at_road k2 (nD _ _ _ _ _) ⟨_, rfl, rfl, z2, t, a, b, j, i, none, some y, rfl, k2, good_inv gd, fun z e => (by cases e), fun z e => (by cases e; exact qd), fun HF z3 SF k3 => ?_⟩
    refine ⟨z1, _, some (.road t a b j y), rfl, (k1.same SE).same SF, ⟨z3, rfl, k3⟩, _, rfl, ?_⟩
    refine iteFe (show (!decide (some (Sv.road t a b j y) = some (Sv.road t a b j y))) = false by rw [decide_eq_true rfl]; rfl) ?_
    -- ~some[2] != some[2]
    have S3' := (SD.trans SE).trans SF
    refine ⟨_, rfl, l, _, 2, _, rfl, rfl, SqL.of (S3' _ _ TLc), atI_nat (j := 2) rfl, s3, _, rfl, C3.same S3', s3, _, rfl, rfl, C3.same S3', g3, fun HG z4 SG k4 => ?_⟩
    have S4' := S3'.trans SG
    refine ⟨_, rfl, l, _, 2, _, rfl, rfl, SqL.of (S4' _ _ TLc), atI_nat (j := 2) rfl, z4, _, some (.road t a b y y), rfl, k4, ⟨s3, rfl, C3.same S4'⟩, _, rfl, ?_⟩
    refine iteFe (show (!decide (some (Sv.road t a b y y) = some (Sv.road t a b y y))) = false by rw [decide_eq_true rfl]; rfl) ?_
    -- some[2].ends != road.ends
    refine ⟨_, rfl, l, _, 2, _, rfl, rfl, SqL.of (S4' _ _ TLc), atI_nat (j := 2) rfl, s3, _, rfl, C3.same S4', fun w1 i1 => ?_⟩
    have SH := new_same i1 (.tup [.str a, .str b])
    have XH := (XC.same S4').same SH
    refine ⟨_, rfl, x, _, rfl, XH, fun w2 i2 => ?_⟩
    have SI := new_same i2 (.tup [.str a, .str b])
    have so1 : PyData.strOk a = true := strOk_name (ok_ends gd).1
    have so2 : PyData.strOk b = true := strOk_name (ok_ends gd).2
    have sC : SeqAt.shaped (.tuple [.str a, .str b]) = true := shaped_strsT [a, b] (by simp [so1, so2])
    refine neD_sameT (xs := [.str a, .str b]) (ds := [.str a, .str b]) (SqT.of (SI _ _ upd_same)) (SqT.of upd_same) (dps_strs [a, b]) sC ⟨_, rfl, ?_⟩
    refine iteF ?_
    have SS := (S4'.trans SH).trans SI
    have XI := XH.same SI
    obtain ⟨dI, eI⟩ := id XI
    refine ⟨_, rfl, at_road XI (nD _ _ _ _ _) ⟨_, rfl, x, _, dI, _, _, rfl, eI, c_Road T, na_Road_there T, rf_there _ _ _ _ _, _, rfl, x, _, dI, _, _, rfl, eI, c_Road T, na_Road_back T, rf_back _ _ _ _ _, rfl, x, t, a, b, i, j, some i, some j, rfl, XI, gd, fun z e => (by cases e; exact qi), fun z e => (by cases e; exact qj), fun HJ u1 SJ k5 => ?_⟩⟩
    have XJ := XI.same SJ
    refine ⟨_, rfl, u1, _, some (.road t a b i j), rfl, k5, ⟨x, rfl, XJ⟩, _, rfl, ?_⟩
    refine iteTe (show decide (some (Sv.road t a b i j) = some (Sv.road t a b i j)) = true from decide_eq_true rfl) ?_
    have SJ' := SS.trans SJ
    have CJ := C1.same SJ'
    obtain ⟨dJ, eJ⟩ := id XJ
    refine ⟨_, rfl, l, _, 0, _, rfl, rfl, SqL.of (SJ' _ _ TLc), atI_nat (j := 0) rfl, at_road CJ (nD _ _ _ _ _) ⟨_, rfl, x, _, dJ, _, _, rfl, eJ, c_Road T, na_Road_there T, rf_there _ _ _ _ _, rfl, s1, t, a, b, y, j, some i, none, rfl, CJ, g1, fun z e => (by cases e; exact qi), fun z e => (by cases e), fun HK u2 SK k6 => ?_⟩⟩
    refine ⟨_, rfl, u2, _, some (.road t a b i j), rfl, k6, ⟨x, rfl, XJ.same SK⟩, ?_⟩
    have fin : decide (some (Sv.road t a b i j) = some (Sv.road t a b ((some i).getD y) ((none : Option Int).getD j))) = true := decide_eq_true rfl
    rw [fin]
    exact k _ (bC.trans (But.of (SJ'.trans SK))) (pC.same (SJ'.trans SK))
end
end K10
namespace K10
open PySem PySem.Spec PyProof.Rows L2 Hx Gx Nx TL
section
variable {P : Program} {w : World} {K : PySem.W.Frag} {mg : Str → Option Value} {base : Heap}

def spLaw (K : PySem.W.Frag) : Sp := fun vs H Q _ => ∃ (a : Addr) (ns : List Int), vs = [.ref a] ∧ SqL K H a (ns.map V.int) ∧ ns.length ≤ 63 ∧ ∀ H', Q (.bl true) H'
theorem sc_law : FnScope ["_law_script", "_law_pen_here", "_law_turn", "_law_street_here"] ["_law_script"] (defScope s_law) := ⟨rfl, rfl, rfl, by decide +kernel, rfl, by decide +kernel, by decide +kernel⟩
theorem p_law (T : Tx K mg) : Prom P w K mg base 10 d_law ["_law_script"] (spLaw K) := by
  obtain ⟨fd, F⟩ := f_law T
  obtain ⟨fdPn, FPn, GPn, BPn⟩ := p_pen (P := P) (w := w) (base := base) T
  obtain ⟨fdSt, FSt, GSt, BSt⟩ := p_street (P := P) (w := w) (base := base) T
  obtain ⟨fdEr, FEr, GEr, BEr⟩ := p_ends_right (P := P) (w := w) (base := base) T
  obtain ⟨fdTr, FTr, GTr, BTr⟩ := p_texts_right (P := P) (w := w) (base := base) T
  obtain ⟨fdRr, FRr, GRr, BRr⟩ := p_road_right (P := P) (w := w) (base := base) T
  refine ⟨fd, F, F.ok sc_law (fun vs H Q E h => ?_) (fun cdv A outer s H vs Q E hr h => ?_), F.bindsN fun _ _ _ _ _ _ us hl => match us, hl with | [_], _ => rfl⟩
  · obtain ⟨a, ns, rfl, _⟩ := h
    rfl
  · obtain ⟨a, ns, rfl, hs, hl, k⟩ := h
    refine ⟨_, PSs.nox (pss_cons (ps_set (i := 1) sc_law.nd rfl (Or.inl rfl) (pe_call GPn (hr.mono (by decide)) rfl (g__law_pen T) FPn.kp BPn .nil pass0 (pa_cons (pv 0) pa_nil)))
      (pss_cons (ps_for PassesOwn.never rfl (pi_range1 (by rfl) (n_range T) (pa_cons pe_int pa_nil)) (pg_name (i := 2) sc_law.nd rfl (Or.inl rfl)) (pss_cons (ps_set (i := 3) sc_law.nd rfl (Or.inl rfl) (pe_call GSt (hr.mono (by decide)) rfl (g__law_street T) FSt.kp BSt .nil pass0 (pa_cons (pv 1) pa_nil)))
      (pss_cons (ps_if (PW.pt (pw_or (pt_not (pt_val (pe_call GEr (hr.mono (by decide)) rfl (g__law_ends_right T) FEr.kp BEr .nil pass0 (pa_cons (pv 3) pa_nil)))) (pw_or1 (pt_not (pt_val (pe_call GTr (hr.mono (by decide)) rfl (g__law_texts_right T) FTr.kp BTr .nil pass0 (pa_cons (pv 3) pa_nil))))))) (pss_one (ps_ret pe_bl)) pss_nil)
      (pss_one (ps_if (PW.pt (pw_and (pt_val (by refine pe_callB (isi_Road T) (by rfl) (n_isinstance T) (by decide +kernel) (pa_cons (pv 3) (pa_cons (pe_glob (v := .ref (He.ga K "Road")) rfl (g_Road T) rfl) pa_nil)))) (pw_and1 (pt_not (pt_val (pe_call GRr (hr.mono (by decide)) rfl (g__law_road_right T) FRr.kp BRr .nil pass0 (pa_cons (pv 1) (pa_cons (pv 3) pa_nil)))))))) (pss_one (ps_ret pe_bl)) pss_nil)))))
      (pss_one (ps_ret pe_bl)))), ?_⟩
    refine ⟨_, rfl, a, ns, rfl, hs, hl, fun H1 p s1 np p1 => ?_⟩
    refine ⟨14, rfl, by decide, by decide, for_range (n := 14) (fun i σ H' => PenAt H' p (40 * i) ∧ ∃ v2 v3, σ = [some (.ref a), some (.ref p), v2, v3]) ⟨p1, none, none, rfl⟩ ?_ ?_⟩
    · rintro i σ H2 hi ⟨p2, v2, v3, rfl⟩
      refine ⟨_, rfl, p, _, rfl, p2, by omega, fun H3 x v b3 p3 hx gd => ?_⟩
      refine ⟨_, rfl, x, v, rfl, hx, gd, fun H4 S4 => ⟨_, rfl, iteF ?_⟩⟩
      have x4 := hx.same S4
      refine ⟨_, rfl, x, v, rfl, x4, gd, fun H5 S5 => ⟨_, rfl, iteF ?_⟩⟩
      have x5 := x4.same S5
      have p5 := (p3.same S4).same S5
      have fin : ∀ H', PenAt H' p (40 * i + 30 + 1) → PenAt H' p (40 * (i + 1)) := fun H' z => z.mono (by omega)
      cases v with
      | lane t b c => exact ⟨_, rfl, x, _, rfl, x5, _, rfl, iteF (iteF ⟨p5.mono (by omega), _, _, rfl⟩)⟩
      | avenue t b c => exact ⟨_, rfl, x, _, rfl, x5, _, rfl, iteF (iteF ⟨p5.mono (by omega), _, _, rfl⟩)⟩
      | road t b c j1 j2 =>
        refine ⟨_, rfl, x, _, rfl, x5, _, rfl, iteT ?_⟩
        refine ⟨_, rfl, _, rfl, p, x, t, b, c, j1, j2, _, rfl, p5, by omega, x5, gd, fun H6 b6 p6 => ⟨_, rfl, iteF ⟨fin _ p6, _, _, rfl⟩⟩⟩
    · rintro σ H2 ⟨p2, v2, v3, rfl⟩
      exact k _
end
end K10
namespace Hx
open PySem L2
theorem fd_one {K : PySem.W.Frag} {d : Dx} {f g : FuncData} (F : Fd K d f) (G : Fd K d g) : f = g := by
  obtain ⟨oc, od, dV, kV, doc, pm, an, cdv, ct, osl, _, h, _⟩ := F.ex
  obtain ⟨oc2, od2, dV2, kV2, doc2, pm2, an2, cdv2, ct2, osl2, _, h2, _⟩ := G.ex
  have e := h.symm.trans h2
  simp only [Option.some.injEq, Obj.mk.injEq, Data.func.injEq] at e
  exact e.2.2.1
end Hx
open PySem PySem.W PySem.Calls PyProof.Rows
set_option maxRecDepth 100000 in
set_option maxHeartbeats 8000000 in
theorem PySem.Challenge.cw_signtown_k10_whole_streets_led_holds : PySem.Challenge.rw_signtown_k10_whole_streets_led.Holds := by
  w_on; o_law
  refine HandSHeadRun.head_any (r := OpenLaw.row PySem.Challenge.rw_signtown_k10_whole_streets_led) (q := view (OpenLaw.row PySem.Challenge.rw_signtown_k10_whole_streets_led).prog [43]) (H := K10.hk) (ob := K10.ob) (M := 20000) (loose := K10.loose)
    (d := HandSHeadRun.topDef (OpenLaw.row PySem.Challenge.rw_signtown_k10_whole_streets_led).prog 43) (kwd := []) K10.ob_eq
    (by kernel_rfl) (fun s => by kernel_rfl) K10.run (by kernel_rfl) (by kernel_rfl) (by kernel_rfl) (by rfl)
    (by first | assumption | decide +kernel) (by decide +kernel) ⟨rfl, rfl, rfl, rfl, rfl, by decide +kernel⟩ ?hw ?hc
  case hw => w_witness2
  case hc =>
    refine Gx.walk_G (l := PySem.Challenge.rw_signtown_k10_whole_streets_led) (n := 63) (k := 10) (x := "_law_script") (CX := L2.CX0) rfl (by decide) (by kernel_rfl) ⟨rfl, by decide, by decide⟩ ?F (fun _ _ _ _ z => z)
    intro w mg fa h Y G hmg0
    obtain ⟨K, KX, c⟩ := Y
    have T : K10.Tx K mg := ⟨h, KX, G, c⟩
    have hmg : mg ("law" : PySem.Str) = some (.ref fa) := by
      have e : (HandSHeadRun.topDef (OpenLaw.row PySem.Challenge.rw_signtown_k10_whole_streets_led).prog 43).name = ("law" : PySem.Str) := by kernel_rfl
      rw [← e]
      exact hmg0
    have e := hmg.symm.trans (K10.g_law T)
    cases e
    obtain ⟨fd0, F0⟩ := K10.f_law T
    have b := L2.FunD.bindsA (ps := ["_law_script"]) F0 fun _ _ _ _ _ _ us hl => match us, hl with | [_], _ => rfl
    have all : ∀ base : Heap, ∃ fd, Hx.Fd K K10.d_law fd ∧ Gx.FnG (PySem.Challenge.rw_signtown_k10_whole_streets_led).prog w K mg base L2.CX0 10 (K10.d_law.adr K) fd ["_law_script"] (K10.spLaw K) := fun base => let ⟨fd, F, G, _⟩ := K10.p_law T; ⟨fd, F, Gx.FnG.of G⟩
    refine ⟨K, fd0, K10.spLaw K, KX, fun s v => b s [v] rfl, fun H a ns hl _ hS => ⟨a, ns, rfl, hS, hl, fun _ => rfl⟩, fun base _ _ => ?_⟩
    obtain ⟨fd, F, Gf⟩ := all base
    have e : fd = fd0 := Hx.fd_one F F0
    rw [← e]
    exact Gf
